/- Names of files: which texts are names, by the code. -/
import Derived.Test.YtkienmncifonnaaDoorProg
import Derived.WalkKit
import Derived.LoopTactic
import Derived.RegionTactic
import Derived.ChangeAlike
import Derived.RowKit
import Derived.Lib.Strings
namespace Go.Proofs.YtkienmncifonnaaDoor
open Go.RowKit

theorem hidN {p : Prop} (h : p) : Hid p := h
def nbI (n : Int) : Bool := decide ((97 ≤ n ∧ n ≤ 122) ∨ (48 ≤ n ∧ n ≤ 57) ∨ n = 46 ∨ n = 45)
set_option maxHeartbeats 1000000 in
theorem nameByte_any (n : Int) (w : World) (h0 : 0 ≤ n) (h1 : n < 256) : Calls Tryd.prog 57 #[.int .u8 n] w fun e w' => e = .returned (.bool (nbI n)) ∧ w' = w := by
  by_cases a : 97 ≤ n
  · by_cases b : n ≤ 122
    · have e : nbI n = true := by unfold nbI; simp; omega
      rw [e]
      go_enter Tryd.func57, Tryd.ntmps57
      go_wp2
      go_ret
      exact ⟨rfl, rfl⟩
    · have e : nbI n = false := by unfold nbI; simp; omega
      rw [e]
      have p : (n == 46) = false := by simp; omega
      have q : (n == 45) = false := by simp; omega
      have r : decide (n ≤ 57) = false := by simp; omega
      go_enter Tryd.func57, Tryd.ntmps57
      go_wp2
      go_ret
      exact ⟨rfl, rfl⟩
  · by_cases c : 48 ≤ n
    · by_cases d : n ≤ 57
      · have e : nbI n = true := by unfold nbI; simp; omega
        rw [e]
        go_enter Tryd.func57, Tryd.ntmps57
        go_wp2
        go_ret
        exact ⟨rfl, rfl⟩
      · have e : nbI n = false := by unfold nbI; simp; omega
        rw [e]
        have p : (n == 46) = false := by simp; omega
        have q : (n == 45) = false := by simp; omega
        go_enter Tryd.func57, Tryd.ntmps57
        go_wp2
        go_ret
        exact ⟨rfl, rfl⟩
    · by_cases d : n = 46
      · subst d
        go_enter Tryd.func57, Tryd.ntmps57
        go_wp2
        go_ret
        exact ⟨rfl, rfl⟩
      · by_cases f : n = 45
        · subst f
          go_enter Tryd.func57, Tryd.ntmps57
          go_wp2
          go_ret
          exact ⟨rfl, rfl⟩
        · have e : nbI n = false := by unfold nbI; simp; omega
          rw [e]
          have p : (n == 46) = false := by simp; omega
          have q : (n == 45) = false := by simp; omega
          go_enter Tryd.func57, Tryd.ntmps57
          go_wp2
          go_ret
          exact ⟨rfl, rfl⟩

/- a text is a name -/
def nameL (l : List UInt8) : Bool := decide (1 ≤ l.length ∧ l.length ≤ 32) && l.all fun x => nbI (x.toNat : Int)
theorem nameL_at {l : List UInt8} (h : ∀ x ∈ l, nbI (x.toNat : Int) = true) (h1 : 1 ≤ l.length) (h2 : l.length ≤ 32) : nameL l = true := by
  unfold nameL
  simp only [Bool.and_eq_true, decide_eq_true_eq, List.all_eq_true]
  exact ⟨⟨h1, h2⟩, h⟩
theorem nameL_no {l : List UInt8} {k : Nat} {x : UInt8} (hk : l[k]? = some x) (h : nbI (x.toNat : Int) = false) : nameL l = false := by
  unfold nameL
  rw [Bool.and_eq_false_iff]
  right
  rw [List.all_eq_false]
  exact ⟨x, List.mem_of_getElem? hk, by simp [h]⟩
set_option maxHeartbeats 2000000 in
theorem isName_any (s : ByteArray) (w : World) : Calls Tryd.prog 38 #[.string s] w fun e w' => e = .returned (.bool (nameL s.data.toList)) ∧ w' = w := by
  have hlen : s.data.toList.length = s.size := rfl
  by_cases a : s.size < 1
  · have e : nameL s.data.toList = false := by unfold nameL; rw [hlen]; simp; omega
    rw [e]
    go_enter Tryd.func38, Tryd.ntmps38
    go_wp2
    go_ret
    exact ⟨rfl, rfl⟩
  · by_cases b : 32 < s.size
    · have e : nameL s.data.toList = false := by unfold nameL; rw [hlen]; simp; omega
      rw [e]
      go_enter Tryd.func38, Tryd.ntmps38
      go_wp2
      go_ret
      exact ⟨rfl, rfl⟩
    · have b2 : s.size ≤ 32 := by omega
      have a2 : 1 ≤ s.size := by omega
      have HL := hidN hlen
      clear hlen
      go_enter Tryd.func38, Tryd.ntmps38
      go_wp2_with fail
      go_loopw [14] (fun i wr => wr = w ∧ ∃ k : Nat, k ≤ s.size ∧ i = .int .i64 (k : Int) ∧ Hid (∀ j x, j < k → s.data.toList[j]? = some x → nbI (x.toNat : Int) = true)) (fun i _ => s.size - (intOf i).toNat)
      case atStart => exact ⟨rfl, 0, Nat.zero_le _, rfl, fun j x hj => by omega⟩
      case round =>
        obtain ⟨rfl, k, hk, rfl, HK⟩ := hrel
        by_cases hlt : k < s.size
        · have hiz : (k : Int) < (s.size : Int) := by omega
          obtain ⟨x, hx⟩ : ∃ x : UInt8, s[k] = x := ⟨_, rfl⟩
          have HX : Hid (s.data.toList[k]? = some x) := by show _ = _; rw [← hx]; rw [Array.getElem?_toList]; exact Array.getElem?_eq_getElem hlt
          have hx256 : (x.toNat : Int) < 256 := by have := x.toNat_lt; omega
          cases hb : nbI (x.toNat : Int) with
          | true =>
            have HB := hidN hb
            clear hb
            go_wp2_with fail
            refine (nameByte_any (x.toNat : Int) _ (by omega) hx256).mono ?_
            rintro e w1 ⟨rfl, hw⟩
            subst hw
            rw [HB.out]
            go_wp2
            refine ⟨⟨trivial, k + 1, by omega, by go_num, fun j y hj hy => ?_⟩, by simp [intOf]; omega⟩
            by_cases hjk : j < k
            · exact HK.out j y hjk hy
            · have : j = k := by omega
              subst this
              rw [HX.out] at hy
              cases hy
              exact HB.out
          | false =>
            have HB := hidN hb
            clear hb
            have HE : Hid (nameL s.data.toList = false) := nameL_no HX.out HB.out
            go_wp2_with fail
            refine (nameByte_any (x.toNat : Int) _ (by omega) hx256).mono ?_
            rintro e w1 ⟨rfl, hw⟩
            subst hw
            rw [HB.out]
            go_wp2
            go_ret
            exact ⟨by rw [HE.out]; rfl, rfl⟩
        · have hge : s.size ≤ k := by omega
          have HE : Hid (nameL s.data.toList = true) := nameL_at (fun x hx => by
            obtain ⟨j, hj⟩ := List.getElem?_of_mem hx
            have hjl := (List.getElem?_eq_some_iff.1 hj).1
            rw [HL.out] at hjl
            exact HK.out j x (by omega) hj) (by rw [HL.out]; exact a2) (by rw [HL.out]; exact b2)
          go_wp2
          go_ret
          exact ⟨by rw [HE.out]; rfl, rfl⟩
end Go.Proofs.YtkienmncifonnaaDoor
