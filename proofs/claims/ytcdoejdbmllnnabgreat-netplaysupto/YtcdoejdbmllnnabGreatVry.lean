/- What the reader does with bytes, whatever they are: what is left, and what was read. Made by program (wip/gen/rdv.py). -/
import Derived.Test.YtcdoejdbmllnnabGreatVra
import Derived.Test.YtcdoejdbmllnnabGreatRby
import Derived.Test.YtcdoejdbmllnnabGreatKnow
namespace Go.Proofs.YtcdoejdbmllnnabGreat
open Go.RowKit

set_option maxHeartbeats 800000 in
theorem bytes_v {D : Nat} (p : Nat) (s : Option (List UInt8)) (w : World) (h : RG D w p s) :
    Calls Tryz.prog 67 #[.pointer (some ⟨p, 0, none⟩)] w fun e w' => ∃ (a : Option Addr) (c : Nat), e = .returned (.slice a (de .byt s).1.length c) ∧ (de .byt s).1.length ≤ c ∧ RepB w' (NB w w') a (de .byt s).1 ∧ RG D w' p (de .byt s).2 ∧ RS w w' p := by
  show Calls Tryz.prog 67 #[.pointer (some ⟨p, 0, none⟩)] w fun e w' => ∃ (a : Option Addr) (c : Nat), e = .returned (.slice a (bytV s).length c) ∧ (bytV s).length ≤ c ∧ RepB w' (NB w w') a (bytV s) ∧ RG D w' p (bytT s) ∧ RS w w' p
  have HB : Hid (bytT s = (cntS 65536 s).bind fun l => if l.length < cntV 65536 s then none else some (l.drop (cntV 65536 s))) := rfl
  have HV : Hid (bytV s = match cntS 65536 s with | none => [] | some l => if l.length < cntV 65536 s then [] else l.take (cntV 65536 s)) := rfl
  go_enter Tryz.func67, Tryz.ntmps67
  go_wp2_with fail
  refine (count_g p s _ w (by omega) (by omega) h).mono ?_
  rintro e w1 ⟨rfl, r1, s1, hn⟩
  generalize cntV 65536 s = N at *
  cases hst : cntS 65536 s with
  | none =>
    have hb := HB.out
    have hv := HV.out
    rw [hst] at hb r1 hv
    have HB2 : Hid (bytT s = none) := hb
    have HV2 : Hid (bytV s = []) := hv
    have R1 : Hid (RG D w1 p none) := r1
    obtain ⟨h1, hD, f0, f1, c0, c1⟩ := r1
    clear hb hv HB HV hst
    by_cases hN : N = 0
    · subst hN
      have hsl := slice_h33 none 0 0 0 (Nat.le_refl _)
      have hsl2 := sliceAny_lo none 0 0 0 0 rfl (Nat.le_refl _)
      go_wp2_with fail
      refine (copyBytes_any none 0 0 [] w1 rfl ⟨by simp, fun h => absurd rfl h⟩).mono ?_
      rintro e w2 ⟨v2, rfl, o2, s2⟩
      have B2 := s2.belowN
      have r2 := R1.out.ext B2 h1 hD
      have e0 : w2.cell? ⟨p, 0, none⟩ = some (.slice none 0 0) := r2.2.2.2.2.1
      have e1 : w2.cell? ⟨p, 1, none⟩ = some (.bool true) := r2.2.2.2.2.2
      have k0 := r2.2.2.1
      have k1 := r2.2.2.2.1
      have q0 := r2.1
      have q1 := r2.2.1
      obtain ⟨a2, c2, hv2, _⟩ := o2.form
      subst hv2
      have s12 : RS w w2 p := s1.ext (B2.mono s1.size)
      clear r2 R1 o2 s2
      go_wp2
      go_ret
      rw [HV2.out]
      refine ⟨_, _, rfl, Nat.zero_le _, ⟨⟨by simp, fun h => absurd rfl h⟩, fun h => absurd rfl h⟩, ?_, ?_⟩
      · rw [HB2.out]
        exact ⟨by simpa using q0, by simpa using q1, by rw [World.frozen?_setCell]; exact k0, by rw [World.frozen?_setCell]; exact k1, World.cell?_setCell_same w2 _ _ e0, by rw [World.cell?_setCell_other w2 _ _ _ (by simp)]; exact e1⟩
      · exact s12.trans ⟨rfl, rfl, rfl, by simp, fun j _ hp => Below.heap_setCell w2 ⟨p, 0, none⟩ _ j hp⟩
    · have hNp : (0 : Int) < (N : Int) := by omega
      go_wp2_with fail
      refine (fail_any p w1 _ _ h1 hD c0 c1 f0 f1).mono ?_
      rintro e w2 ⟨rfl, r2, s2⟩
      go_wp2
      go_ret
      rw [HV2.out]
      exact ⟨none, 0, rfl, Nat.zero_le _, ⟨⟨by simp, fun h => absurd rfl h⟩, fun h => absurd rfl h⟩, by rw [HB2.out]; exact r2, s1.trans s2⟩
  | some l =>
    have hb := HB.out
    have hv := HV.out
    rw [hst] at hb r1 hv
    simp only at hv
    have R1 := r1
    obtain ⟨h1, hD, f0, f1, a, cap, c0, c1, hcap, hbs, hne⟩ := r1
    have HNE : Hid _ := hne
    have hll := hbs.1
    by_cases hlt : l.length < N
    · have HB2 : Hid (bytT s = none) := by show bytT s = _; rw [hb]; simp [hlt]
      have HV2 : Hid (bytV s = []) := by show bytV s = _; rw [hv, if_pos hlt]
      clear hb hv HB HV hst hne
      go_wp2_with fail
      refine (fail_any p w1 _ _ h1 hD c0 c1 f0 f1).mono ?_
      rintro e w2 ⟨rfl, r2, s2⟩
      go_wp2
      go_ret
      rw [HV2.out]
      exact ⟨none, 0, rfl, Nat.zero_le _, ⟨⟨by simp, fun h => absurd rfl h⟩, fun h => absurd rfl h⟩, by rw [HB2.out]; exact r2, s1.trans s2⟩
    · have HB2 : Hid (bytT s = some (l.drop N)) := by show bytT s = _; rw [hb]; simp [hlt]
      have HV2 : Hid (bytV s = l.take N) := by show bytV s = _; rw [hv, if_neg hlt]
      have hNl : N ≤ l.length := by omega
      clear hb hv HB HV hst hne
      have hsl := slice_h33 a l.length cap N (by omega)
      go_wp2_with fail
      refine (copyBytes_any a N cap (l.take N) w1 (by rw [List.length_take]; omega) (hbs.firstAny N)).mono ?_
      rintro e w2 ⟨v2, rfl, o2, s2⟩
      have B2 := s2.belowN
      have r2 := R1.ext B2 h1 hD
      have hbs2 : Bs w2 a l := hbs.grow B2
      have e0 : w2.cell? ⟨p, 0, none⟩ = some (.slice a l.length cap) := (B2.cell (p := ⟨p, 0, none⟩) h1).trans c0
      have k0 := r2.2.2.1
      obtain ⟨a3, HA3, hsl3⟩ : ∃ a3, Hid (a3 = if cap = N then a else a.map (·.add N)) ∧ ∀ w, (Instr.slice 32 (.slice a l.length cap) (some (.int .i64 (N : Int))) none none).run Tryz.prog w = .ok (.slice a3 (l.length - N) (cap - N)) w :=
        ⟨_, rfl, sliceAny_lo a l.length cap N _ rfl hNl⟩
      have hnx := RG.next r2 e0 hcap hbs2 HNE.out hNl (.slice a3 (l.length - N) (cap - N)) (by rw [HA3.out])
      have HX : Hid _ := hnx
      have s12 : RS w w2 p := s1.ext (B2.mono s1.size)
      obtain ⟨a2, c2, hv2, hbsn⟩ := o2.form
      subst hv2
      have hNN : (l.take N).length = N := by rw [List.length_take]; omega
      have BYT : Hid ((l.take N).length ≤ c2 ∧ RepB w2 (NB w w2) a2 (l.take N)) := by
        refine ⟨o2.cap, hbsn (by omega), fun hne x hx => ?_⟩
        have hob : (Value.slice a2 (l.take N).length c2).ownBlock = some x.block := by rw [hx]; rfl
        refine ⟨?_, o2.lt _ hob, o2.uf _ hob⟩
        rcases s2.row with e | ⟨q, e, hq⟩
        · rw [hob] at e; cases e
        · rw [hob] at e; cases e; exact Nat.le_trans s1.size hq
      rw [hNN] at BYT
      have HPN : Hid (p < w.heap.size ∨ True) := .inr trivial
      have HNP : Hid (p < w.heap.size) := h.1
      clear hnx r2 o2 s2 hsl R1 hbsn
      rw [hNN]
      go_wp2
      go_ret
      rw [HV2.out, hNN]
      refine ⟨_, _, rfl, BYT.out.1, ?_, by rw [HB2.out]; exact HX.out.1, s12.trans HX.out.2⟩
      exact BYT.out.2.keptN (by simp) (fun b h1 h2 => Below.heap_setCell w2 ⟨p, 0, none⟩ _ b (by have := HNP.out; show b ≠ p; omega)) (Nat.le_refl _)

end Go.Proofs.YtcdoejdbmllnnabGreat
