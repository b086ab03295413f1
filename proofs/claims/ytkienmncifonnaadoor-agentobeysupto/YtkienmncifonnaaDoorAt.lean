/- lastBoot, begin, giveUp, keepUp. -/
import Derived.Test.YtkienmncifonnaaDoorAm
namespace Go.Proofs.YtkienmncifonnaaDoor
open Go.RowKit Go.Maps Go.Lib

def decS (f : Nat) : ByteArray := ⟨(decDigits f).toArray⟩
theorem itoa_nat (f : Nat) : itoa (f : Int) = decDigits f := itoa_nonneg f
theorem itoa_any (f : Nat) (h : f ≤ 2199023255552) (D : Nat) (w : World) (ht : Tb D w) (hD : D ≤ w.heap.size) : Calls Tryd.prog 28 #[.int .i64 (f : Int)] w fun e w' => e = .returned (.string (decS f)) ∧ Below D w w' ∧ Below w.heap.size w w' := by
  refine (Tryd.strconv_Itoa (f : Int) (by omega) (by omega) w ht.1).mono ?_
  rintro e w' ⟨rfl, k, os, rfl⟩
  exact ⟨by rw [itoa_nat]; rfl, below_grow hD k os, below_grow (Nat.le_refl _) k os⟩
theorem atoi_any (f : Nat) (h : f ≤ 2199023255552) (w : World) : Calls Tryd.prog 27 #[.string (decS f)] w fun e w' => e = .returned (.tuple #[.int .i64 (f : Int), .nilIface]) ∧ Below w.heap.size w w' := by
  refine (Tryd.strconv_Atoi (decS f) (f : Int) ?_ (atoi_dec f) w).mono ?_
  · have := dec_len f h
    simp [decS, ByteArray.size]; omega
  · rintro e w' ⟨rfl, t, rfl⟩
    exact ⟨rfl, below_bytes (Nat.le_refl _) _ _⟩
theorem conv_back {w : World} {z : Value} {f : Nat} (h : SlR w z (decDigits f)) : ∃ g cap, z = .slice (some ⟨g, 0, none⟩) (decDigits f).length cap ∧ (convert 38 9 (.slice (some ⟨g, 0, none⟩) (decDigits f).length cap)).run Tryd.prog w = .ok (.string (decS f)) w := by
  rcases h with ⟨_, e⟩ | ⟨g, cap, cur, rfl, hg, h1, h2, h3, h4⟩
  · exact absurd e (dec_ne f)
  · refine ⟨g, cap, rfl, run_convert_bytes_back w 38 9 5 ⟨g, 0, none⟩ cap (decDigits f) Tryd.underlying38 Tryd.underlying5 Tryd.underlying9 (fun j hj => ?_)⟩
    have hadd : (⟨g, 0, none⟩ : Addr).add j = ⟨g, j, none⟩ := by unfold Addr.add; split <;> simp_all
    rw [hadd, cell_of_row w g j _ 5 (0, 0) hg]
    have hv : (vals (decDigits f))[j]? = some (.int .u8 ((decDigits f)[j].toNat : Int)) := by simp [vals, List.getElem?_eq_getElem hj]
    rw [← h4, List.getElem?_take, if_pos hj] at hv
    simpa using hv
set_option maxHeartbeats 1000000 in
set_option maxRecDepth 100000 in
theorem lastBoot_any (D pd f d c : Nat) (L : List Nat) (lf : Int) (F : Nat → Prop) (w : World) (h : Bk w pd f d L lf c F) (hf : f ≤ 1099511627776) (ht : Tb D w) (hD : D ≤ w.heap.size) :
    Calls Tryd.prog 17 #[.pointer (some ⟨pd, 0, none⟩)] w fun e w' => e = .returned (.tuple #[.int .i64 (f : Int), .int .i64 0]) ∧ Below w.heap.size w w' := by
  by_cases h0 : f = 0
  · subst h0
    have HR := hidOf (readB_none pd d c L lf F w h)
    clear h ht
    go_enter Tryd.func17, Tryd.ntmps17
    go_wp2_with (go_at_call 26; refine HR.out.mono ?_; rintro e w' ⟨rfl, rfl⟩)
    go_ret2
    exact ⟨rfl, Below.refl _ _⟩
  · have HR := hidOf (readB_ok pd f d c L lf F w h h0)
    have f1 : ¬ ((f : Int) < 1) := by omega
    have f2 : ¬ ((1099511627776 : Int) < f) := by omega
    have HT := hidOf ht
    have hle : f ≤ 2199023255552 := by omega
    clear h ht
    have HA := hidOf (atoi_any f hle)
    have HI := hidOf (itoa_any f hle D)
    generalize hs : decS f = s at HA HI
    have HS := hidOf hs
    clear hs
    go_enter Tryd.func17, Tryd.ntmps17
    go_wp2_with (first
      | (go_at_call 26; refine HR.out.mono ?_; rintro e w1 ⟨z, rfl, hz, _, hb⟩; obtain ⟨g, cap, rfl, hconv⟩ := conv_back hz; rw [HS.out] at hconv; have HB := hidOf hb; clear hz hb HR)
      | (go_at_call 27; refine (HA.out _).mono ?_; rintro e w2 ⟨rfl, hb⟩; have HB2 := hidOf (HB.out.trans (hb.mono HB.out.size)); clear hb)
      | (go_at_call 28; refine (HI.out _ (HT.out.below (HB2.out.mono hD)) (Nat.le_trans hD HB2.out.size)).mono ?_; rintro e w3 ⟨rfl, _, hb⟩; have HB3 := hidOf (HB2.out.trans (hb.mono HB2.out.size)); clear hb))
    go_ret2
    exact ⟨rfl, HB3.out⟩
end Go.Proofs.YtkienmncifonnaaDoor
