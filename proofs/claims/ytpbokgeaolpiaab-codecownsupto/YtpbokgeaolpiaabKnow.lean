/- The example that each statement asks first: known returns true, in whatever memory, and changes nothing that was there. -/
import Derived.Test.YtpbokgeaolpiaabUfr
import Derived.Test.YtpbokgeaolpiaabGetz
import Derived.Lib.SlBytesConst
namespace Go.Proofs.Ytpbokgeaolpiaab
open Go.RowKit

theorem Own.cap {w : World} {a : Option Addr} {n cap : Nat} {l : List UInt8} (h : Own w (.slice a n cap) l) : n ≤ cap := by
  rcases h with ⟨h, _⟩ | ⟨g, c, cur, h, _, hl, _⟩
  · cases h; omega
  · cases h; exact hl
theorem Own.some {w : World} {v : Value} {l : List UInt8} (h : Own w v l) (hl : l ≠ []) : ∃ g cap, v = .slice (some ⟨g, 0, none⟩) l.length cap ∧ l.length ≤ cap := by
  rcases h with ⟨_, h⟩ | ⟨g, c, cur, h, _, hc, _⟩
  · exact absurd h hl
  · exact ⟨g, c, h, hc⟩
theorem Try.under5 : Try.prog.underlying 5 = some (.int .u8) := by kernel_rfl
theorem bs_one (w : World) (b : UInt8) (x : Int) (f : Nat × Nat) (hx : x = (b.toNat : Int)) : Bs (w.alloc (.cells #[.int .u8 x] 5 f)) (some ⟨w.heap.size, 0, none⟩) [b] := by
  subst hx
  refine ⟨by simp, fun _ => ⟨w.heap.size, 0, rfl, by simp, fun j hj => ?_⟩⟩
  have : j = 0 := by simpa using hj
  subst this
  unfold World.cell?
  rw [heap_alloc_new]; rfl
theorem fr_a : fr (1 : Int).toNat (2 : Int).toNat [97] = [0, 0, 0, 1, 1, 0, 0, 0, 0, 0, 2, 97] ++ lo4 (nsum (fr0 1 2 [97])) := rfl
theorem fr_a3 : bat (fr (1 : Int).toNat (2 : Int).toNat [97]) 3 = 1 := by rw [fr_a]; rfl
theorem fr_a10 : bat (fr (1 : Int).toNat (2 : Int).toNat [97]) 10 = 2 := by rw [fr_a]; rfl

set_option maxHeartbeats 800000 in
set_option maxRecDepth 100000 in
theorem known_any (w : World) : Calls Try.prog 12 #[] w fun e w' => e = .returned (.bool true) ∧ Below w.heap.size w w' := by
  have hcv := Lib.run_convert_bytes_const (P := Try.prog) w 33 5 #[.int .u8 97] 1 1 Try.underlying33 Try.under5
  go_enter Try.func12, Try.ntmps12
  go_wp2_with fail
  refine (frame_ok 1 2 _ 1 1 [97] _ rfl (bs_one w 97 97 (1, 2) rfl) ⟨by omega, by omega, by omega, by omega, by omega⟩).mono ?_
  rintro e w1 ⟨v1, rfl, o1, s1⟩
  have B1 : Below w.heap.size w w1 := ((Below.refl _ _).alloc (Nat.le_refl _) _).trans (s1.below _ (by rw [World.size_alloc]; omega) (fun k hk => by cases hk))
  have hl1 : Hid ((fr (1 : Int).toNat (2 : Int).toNat [97]).length = 16) := fr_length 1 2 [97]
  obtain ⟨g1, c1, hv1, hc1⟩ := o1.some (by intro e; have := hl1.out; rw [e] at this; simp at this)
  rw [hl1.out] at hv1 hc1
  subst hv1
  obtain ⟨a1, c1', e1, hb1⟩ := o1.form
  rw [hl1.out] at e1 hb1
  cases e1
  have U : Hid (unf (fr (1 : Int).toNat (2 : Int).toNat [97]) = ⟨1, 2, [97], 16, 0⟩) := by
    have := unf_fr 1 2 [97] [] (by omega) (by omega) (by simp)
    rw [List.append_nil] at this; exact this
  clear s1
  go_wp2_with fail
  refine (unframe_any _ 16 c1 _ w1 hl1.out.symm hc1 (hb1 (by omega))).mono ?_
  rintro e w2 ⟨v2, he, o2, s2⟩
  rw [U.out] at he o2
  subst he
  have B2 : Below w.heap.size w w2 := B1.trans (s2.below _ B1.size (fun k hk => by cases hk))
  have L2 : Below w1.heap.size w1 w2 := s2.below _ (Nat.le_refl _) (fun k hk => by cases hk)
  have o12 := o1.below L2
  clear hcv s2 L2 o1 B1 U
  obtain ⟨g2, c2, hv2, hc2⟩ := o2.some (by simp)
  rw [show ([97] : List UInt8).length = 1 from rfl] at hv2 hc2
  subst hv2
  go_wp2_with fail
  refine (putCmd_z w2).mono ?_
  rintro e w3 ⟨v3, rfl, o3, L3⟩
  have B3 := B2.trans (L3.mono B2.size)
  have o13 := o12.below L3
  have o23 := o2.below L3
  clear o12 o2 B2 L3
  obtain ⟨g3, c3, hv3, hc3⟩ := o3.some (by simp [zs])
  rw [zs_length] at hv3 hc3
  subst hv3
  go_wp2_with fail
  refine (getCmd_z _ w3 o3).mono ?_
  rintro e w4 ⟨rfl, L4⟩
  have B4 := B3.trans (L4.mono B3.size)
  have o14 := o13.below L4
  have o24 := o23.below L4
  clear o13 o23 B3 L4 o3
  go_wp2_with (refine wpList_store_rowF rfl 65 (.tmp 10) (.tmp 34) rfl w4.heap.size Zcmd rfl rfl 65 _ (heap_alloc_new w4 _) Zi rfl Zo ?next)
  case next =>
    intro w5 hw5h
    have hw5 := hw5h.out
    have L5 : Below w4.heap.size w4 w5 := by
      rw [hw5]; exact ((Below.refl _ _).alloc (Nat.le_refl _) _).trans ⟨rfl, rfl, rfl, by simp [World.setRow], fun k hk => setRow_other _ _ _ _ (by omega)⟩
    have B5 := B4.trans (L5.mono B4.size)
    have o15 := o14.below L5
    have o25 := o24.below L5
    clear o14 o24 B4 L5 hw5 hw5h
    obtain ⟨a1, c1', e1, hb1⟩ := o15.form
    rw [hl1.out] at e1 hb1
    cases e1
    obtain ⟨_, _, e1, _, hcell1⟩ := (hb1 (by omega)).2 (by intro e; have := hl1.out; rw [e] at this; simp at this)
    cases e1
    have x3 := hcell1 3 (by rw [hl1.out]; omega)
    have x10 := hcell1 10 (by rw [hl1.out]; omega)
    rw [fr_a3] at x3
    rw [fr_a10] at x10
    obtain ⟨a2, c2', e2, hb2⟩ := o25.form
    rw [show ([97] : List UInt8).length = 1 from rfl] at e2 hb2
    cases e2
    obtain ⟨_, _, e2, _, hcell2⟩ := (hb2 (by omega)).2 (by simp)
    cases e2
    have y0 := hcell2 0 (by simp)
    have hstr : (convert 33 9 (.slice (some ⟨g2, 0, none⟩) 1 c2)).run Try.prog w5 = .ok (.string ⟨#[97]⟩) w5 := run_convert_bytes_back (P := Try.prog) w5 33 9 5 ⟨g2, 0, none⟩ c2 [97] Try.underlying33 Try.under5 Try.underlying9 (fun j hj => by
      have : j = 0 := by simpa using hj
      subst this
      rw [Addr.add_lit]; exact y0)
    clear hcell1 hcell2 hb1 hb2 o15 o25 hl1 y0
    go_wp2
    go_ret
    exact ⟨rfl, B5⟩
end Go.Proofs.Ytpbokgeaolpiaab
