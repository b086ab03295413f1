/- The document's May, Same and Single; the code's Same. -/
import Derived.Test.YteaohmlbioooaaaCref2
import Derived.Test.YteaohmlbioooaaaCref3
import Derived.Deep.RegionHeld3
namespace Go.Proofs.Yteaohmlbioooaaa
open Go.RowKit

set_option maxHeartbeats 2000000 in
theorem rmay_any (w : World) (av al : Option Addr) (V L : List Int) (cv cl : Nat) (h : Cf w av al V L) : Calls Try.prog 13 #[.agg #[.slice av V.length cv, .slice al L.length cl]] w fun e w' => e = .returned (.bool (mayB V L)) ∧ Below w.heap.size w w' := by
  have H0 := hidOf (Cs.begin cv cl h)
  have hlen := h.v.len
  have hR1 := rising_any _ av V cv H0.out.cf.v
  clear h
  obtain ⟨r1, e1⟩ : ∃ r, r = risF 0 V := ⟨_, rfl⟩
  obtain ⟨r2, e2⟩ : ∃ r, r = risF 0 L := ⟨_, rfl⟩
  rw [← e1] at hR1
  have HR1 := hidOf hR1
  have E1 := hidOf e1
  have E2 := hidOf e2
  clear hR1 e1 e2
  by_cases hall : (r1 = true ∧ r2 = true) ∧ V ≠ []
  · obtain ⟨⟨rfl, rfl⟩, hv0⟩ := hall
    have EM : Hid (mayB V L = !(List.range 5).any (isOne V L)) := hidOf (by rw [mayB, ← E1.out, ← E2.out, List.isEmpty_eq_false_iff.2 hv0]; rfl)
    have hv1 : ¬ ((V.length : Nat) : Int) < 1 := by have := List.length_pos_iff.2 hv0; omega
    have hv2 : ¬ V.length < 1 := by have := List.length_pos_iff.2 hv0; omega
    clear hv0
    go_enter Try.func13, Try.ntmps13
    go_wp2_with (first
      | (go_at_call 37; refine HR1.out.mono ?_; rintro e w1 ⟨rfl, hb⟩; have H1 := hidOf (H0.out.grow hb); have hr2 := rising_any w1 al L cl H1.out.cf.l; rw [← E2.out] at hr2; have HR2 := hidOf hr2; clear hr2 hb HR1; have c0 := H1.out.bx.c0; have c1 := H1.out.bx.c1; have lt0 := H1.out.bx.lt)
      | (go_at_call 37; refine HR2.out.mono ?_; rintro e w2 ⟨rfl, hb⟩; have H2 := hidOf (H1.out.grow hb); clear hb c0 c1 lt0; have c0 := H2.out.bx.c0; have c1 := H2.out.bx.c1; have lt0 := H2.out.bx.lt))
    clear c0 c1 lt0
    go_loopw [5] (fun i wr => ∃ k : Nat, i = .int .i64 ((k : Int) + 1) ∧ k ≤ 5 ∧ Hid (wr = w2) ∧ Hid ((List.range k).any (isOne V L) = false)) (fun i _ => 6 - (intOf i).toNat)
    case atStart => exact ⟨0, rfl, Nat.zero_le _, hidOf rfl, hidOf rfl⟩
    case round =>
      obtain ⟨k, rfl, hk, HW, HA⟩ := hrel
      have hw := HW.out
      subst hw
      by_cases hlt : k < 5
      · have hltz : (k : Int) + 1 ≤ 5 := by omega
        have c0 := H2.out.bx.c0
        have c1 := H2.out.bx.c1
        have lt0 := H2.out.bx.lt
        have HV := hidOf (in_any wr av V cv ((k : Int) + 1) H2.out.cf.v)
        have HL := hidOf (in_any wr al L cl ((k : Int) + 1) H2.out.cf.l)
        have ES : Hid ((List.range (k + 1)).any (isOne V L) = (V.contains ((k : Int) + 1) && L.contains ((k : Int) + 1))) := hidOf (by rw [List.range_succ, List.any_append, HA.out]; simp [isOne])
        cases e3 : V.contains ((k : Int) + 1) with
        | false =>
          rw [e3] at HV ES
          clear e3
          generalize L.contains ((k : Int) + 1) = g at HL ES
          go_wp2_with (first
            | (go_at_call 17; refine HV.out.mono ?_; rintro e zz ⟨rfl, hw⟩; subst zz; clear HV)
            | (go_at_call 17; refine HL.out.mono ?_; rintro e zz ⟨rfl, hw⟩; subst zz))
          go_roundw
          case rel => exact ⟨k + 1, by go_num, by omega, hidOf trivial, hidOf (ES.out.trans rfl)⟩
          case measure => simp [intOf]; omega
        | true =>
          rw [e3] at HV ES
          clear e3
          cases e4 : L.contains ((k : Int) + 1) with
          | false =>
            rw [e4] at HL ES
            clear e4
            go_wp2_with (first
              | (go_at_call 17; refine HV.out.mono ?_; rintro e zz ⟨rfl, hw⟩; subst zz; clear HV)
              | (go_at_call 17; refine HL.out.mono ?_; rintro e zz ⟨rfl, hw⟩; subst zz))
            go_roundw
            case rel => exact ⟨k + 1, by go_num, by omega, hidOf trivial, hidOf (ES.out.trans rfl)⟩
            case measure => simp [intOf]; omega
          | true =>
            rw [e4] at HL ES
            clear e4
            go_wp2_with (first
              | (go_at_call 17; refine HV.out.mono ?_; rintro e zz ⟨rfl, hw⟩; subst zz; clear HV)
              | (go_at_call 17; refine HL.out.mono ?_; rintro e zz ⟨rfl, hw⟩; subst zz))
            go_ret
            refine ⟨?_, H2.out.bel⟩
            have : (List.range 5).any (isOne V L) = true := by
              rw [List.any_eq_true]
              have h2 : (List.range (k + 1)).any (isOne V L) = true := ES.out
              obtain ⟨x, h3, h4⟩ := List.any_eq_true.1 h2
              exact ⟨x, by simp only [List.mem_range] at h3 ⊢; omega, h4⟩
            rw [EM.out, this]; rfl
      · obtain rfl : k = 5 := by omega
        have hltz : ¬ ((5 : Nat) : Int) + 1 ≤ 5 := by omega
        go_wp2
        go_ret
        refine ⟨?_, H2.out.bel⟩
        rw [EM.out, HA.out]; rfl
  · have EM : Hid (mayB V L = false) := hidOf (by
      rw [mayB, ← E1.out, ← E2.out]
      by_cases hv : V = []
      · subst hv; rfl
      · cases r1 <;> cases r2 <;> simp_all)
    rw [EM.out]
    have HRES : Hid (∀ (b1 b2 : Bool), True) := hidOf (fun _ _ => trivial)
    have hcase : r1 = false ∨ (r1 = true ∧ r2 = false) ∨ (r1 = true ∧ r2 = true ∧ V = []) := by
      by_cases hv : V = []
      · cases r1 <;> cases r2 <;> simp_all
      · cases r1 <;> cases r2 <;> simp_all
    clear hall HRES
    rcases hcase with rfl | ⟨rfl, rfl⟩ | ⟨rfl, rfl, rfl⟩
    · go_enter Try.func13, Try.ntmps13
      go_wp2_with (first
        | (go_at_call 37; refine HR1.out.mono ?_; rintro e w1 ⟨rfl, hb⟩; have H1 := hidOf (H0.out.grow hb); have hr2 := rising_any w1 al L cl H1.out.cf.l; rw [← E2.out] at hr2; have HR2 := hidOf hr2; clear hr2 hb HR1; have c0 := H1.out.bx.c0; have c1 := H1.out.bx.c1; have lt0 := H1.out.bx.lt)
        | (go_at_call 37; refine HR2.out.mono ?_; rintro e w2 ⟨rfl, hb⟩; have H2 := hidOf (H1.out.grow hb); clear hb c0 c1 lt0; have c0 := H2.out.bx.c0; have c1 := H2.out.bx.c1; have lt0 := H2.out.bx.lt))
      go_ret
      exact ⟨rfl, H2.out.bel⟩
    · go_enter Try.func13, Try.ntmps13
      go_wp2_with (first
        | (go_at_call 37; refine HR1.out.mono ?_; rintro e w1 ⟨rfl, hb⟩; have H1 := hidOf (H0.out.grow hb); have hr2 := rising_any w1 al L cl H1.out.cf.l; rw [← E2.out] at hr2; have HR2 := hidOf hr2; clear hr2 hb HR1; have c0 := H1.out.bx.c0; have c1 := H1.out.bx.c1; have lt0 := H1.out.bx.lt)
        | (go_at_call 37; refine HR2.out.mono ?_; rintro e w2 ⟨rfl, hb⟩; have H2 := hidOf (H1.out.grow hb); clear hb c0 c1 lt0; have c0 := H2.out.bx.c0; have c1 := H2.out.bx.c1; have lt0 := H2.out.bx.lt))
      go_ret
      exact ⟨rfl, H2.out.bel⟩
    · go_enter Try.func13, Try.ntmps13
      go_wp2_with (first
        | (go_at_call 37; refine HR1.out.mono ?_; rintro e w1 ⟨rfl, hb⟩; have H1 := hidOf (H0.out.grow hb); have hr2 := rising_any w1 al L cl H1.out.cf.l; rw [← E2.out] at hr2; have HR2 := hidOf hr2; clear hr2 hb HR1; have c0 := H1.out.bx.c0; have c1 := H1.out.bx.c1; have lt0 := H1.out.bx.lt)
        | (go_at_call 37; refine HR2.out.mono ?_; rintro e w2 ⟨rfl, hb⟩; have H2 := hidOf (H1.out.grow hb); clear hb c0 c1 lt0; have c0 := H2.out.bx.c0; have c1 := H2.out.bx.c1; have lt0 := H2.out.bx.lt))
      go_ret
      exact ⟨rfl, H2.out.bel⟩
end Go.Proofs.Yteaohmlbioooaaa
