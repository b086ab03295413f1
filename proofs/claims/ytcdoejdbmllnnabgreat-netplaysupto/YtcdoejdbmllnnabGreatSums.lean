/- What the functions that only read bytes return: both sums are the same sum, both ways to read a number with its highest byte first are the same number, and two slices are the same just if their bytes are. -/
import Derived.Test.YtcdoejdbmllnnabGreatMem
import Derived.BigQuiet
import Derived.Deep.QuietTactic
namespace Go.Proofs.YtcdoejdbmllnnabGreat
open Go.RowKit

theorem same_ext (l1 l2 : List UInt8) (hl : l1.length = l2.length) (h : ∀ j, j < l1.length → bat l1 j = bat l2 j) : l1 = l2 := by
  apply List.ext_getElem hl
  intro i h1 h2
  have := h i h1
  simp [bat, bn, List.getD, h1, h2] at this
  exact UInt8.toNat.inj (by omega)

set_option maxHeartbeats 400000 in
theorem same_any (a1 a2 : Option Addr) (n1 n2 c1 c2 : Nat) (l1 l2 : List UInt8) (w : World) (hn1 : n1 = l1.length) (hn2 : n2 = l2.length) (h1 : Bs w a1 l1) (h2 : Bs w a2 l2) :
    Calls Tryz.prog 28 #[.slice a1 n1 c1, .slice a2 n2 c2] w fun e w' => e = .returned (.bool (decide (l1 = l2))) ∧ ∃ nq, w' = w.drewN nq := by
  obtain ⟨hlen1, hne1⟩ := h1
  obtain ⟨hlen2, hne2⟩ := h2
  have H1 : Hid (l1.length = n1) := hn1.symm
  have H2 : Hid (l2.length = n2) := hn2.symm
  rw [← hn1] at hlen1
  rw [← hn2] at hlen2
  clear hn1 hn2
  by_cases hnn : n1 = n2
  · subst hnn
    go_enter Tryz.func28, Tryz.ntmps28
    go_wp2
    go_loopw [5] (fun i wr => ∃ k : Nat, k ≤ n1 ∧ i = .int .i64 k ∧ Hid (∀ j, j < k → bat l1 j = bat l2 j) ∧ ∃ nq, wr = w.drewN nq) (fun i _ => n1 - (intOf i).toNat)
    case atStart => exact ⟨0, Nat.zero_le _, rfl, fun j hj => absurd hj (by omega), 0, rfl⟩
    case round =>
      obtain ⟨k, hk, rfl, hsame, nq, rfl⟩ := hrel
      by_cases hlt : k < n1
      · obtain ⟨b, off, rfl, hb, hc⟩ := hne1 (by intro e; have := H1.out; simp [e] at this; omega)
        obtain ⟨b', off', rfl, hb', hc'⟩ := hne2 (by intro e; have := H2.out; simp [e] at this; omega)
        have hcp := hc k (by have := H1.out; omega)
        have hcp' := hc' k (by have := H2.out; omega)
        go_wp2
        go_quiet (fail)
        go_wp2
        · rename_i hdiff
          go_ret
          refine ⟨?_, _, by simp only [World.drewN_drewN]; rfl⟩
          have : l1 ≠ l2 := fun e => by subst e; simp at hdiff
          simp [this]
        · rename_i heq
          have heq' : bat l1 k = bat l2 k := by simpa using heq
          refine ⟨⟨k + 1, by omega, by go_num, fun j hj => ?_, _, rfl⟩, by simp [intOf]; omega⟩
          by_cases hjk : j = k
          · rw [hjk]; exact heq'
          · exact hsame.out j (by omega)
      · go_wp2
        go_ret
        refine ⟨?_, _, rfl⟩
        have : l1 = l2 := same_ext l1 l2 (by rw [H1.out, H2.out]) (fun j hj => hsame.out j (by have := H1.out; omega))
        simp [this]
  · have hnb : ((n1 : Int) != (n2 : Int)) = true := by rw [bne_iff_ne]; omega
    go_enter Tryz.func28, Tryz.ntmps28
    go_wp2
    go_ret
    refine ⟨?_, 0, rfl⟩
    have : l1 ≠ l2 := fun e => hnn (by rw [← H1.out, ← H2.out, e])
    simp [this]

theorem lob_toNat (n i : Nat) : ((lob n i).toNat : Int) = (n : Int) / 2 ^ (8 * i) % 256 := by
  have h : (lob n i).toNat = n / 2 ^ (8 * i) % 256 := by
    unfold lob
    rw [show (256 : Nat) = 2 ^ 8 from rfl, ← Nat.pow_mul]
    simp
  rw [h]
  simp
theorem bat_lo4 (n j : Nat) (h : j < 4) : bat (lo4 n) j = (n : Int) / 2 ^ (8 * j) % 256 := by
  have hj : j = 0 ∨ j = 1 ∨ j = 2 ∨ j = 3 := by omega
  rw [← lob_toNat]
  rcases hj with rfl | rfl | rfl | rfl <;> rfl
theorem lo4_at (l : List UInt8) (n : Nat) (e : l = lo4 n) (k : Nat) (hk : k < 4) : bat l k = (n : Int) / 2 ^ (8 * k) % 256 := by rw [e]; exact bat_lo4 n k hk
theorem lo4_of (l : List UInt8) (n : Nat) (hl : l.length = 4) (h : ∀ j, j < 4 → bat l j = (n : Int) / 2 ^ (8 * j) % 256) : l = lo4 n :=
  same_ext l (lo4 n) (by rw [hl]; rfl) (fun j hj => by rw [h j (by omega), bat_lo4 n j (by omega)])

end Go.Proofs.YtcdoejdbmllnnabGreat
