/- The document's Majority and Agreed. -/
import Derived.Test.YteaohmlbioooaaaCref1
import Derived.Deep.Cut
import Derived.Deep.QuietTactic
import Derived.BigQuiet
namespace Go.Proofs.Yteaohmlbioooaaa
open Go.RowKit

theorem geL_yes {M : List Int} {t : Int} {k : Nat} (h : t ≤ nth M k) : geL M t (k + 1) = geL M t k ++ [(k : Int) + 1] := by rw [geL_succ, if_pos h]
theorem geL_no {M : List Int} {t : Int} {k : Nat} (h : ¬ t ≤ nth M k) : geL M t (k + 1) = geL M t k := by rw [geL_succ, if_neg h, List.append_nil]
theorem more_half (n q : Nat) (_h : q ≤ n) : decide ((n : Int) - (q : Int) < (q : Int)) = decide (n < 2 * q) := by
  rw [Bool.eq_iff_iff, decide_eq_true_eq, decide_eq_true_eq]; omega
set_option maxHeartbeats 2000000 in
theorem rmajority_any (w : World) (av al : Option Addr) (V L : List Int) (cv cl : Nat) (ay : Option Addr) (Y : List Int) (cy : Nat) (h : Cf w av al V L) (hy : Ints w ay Y) : Calls Try.prog 20 #[.agg #[.slice av V.length cv, .slice al L.length cl], .slice ay Y.length cy] w fun e w' => e = .returned (.bool (majB V Y)) ∧ Below w.heap.size w w' := by
  have H0 := hidOf (Cs.begin cv cl h)
  have HY0 := hidOf (hy.grow (below1 w (.cells #[.slice av V.length cv, .slice al L.length cl] 24)))
  have hlen := h.v.len
  clear h hy
  go_enter Try.func20, Try.ntmps20
  go_wp2_with (fail)
  go_loopw [5, 6] (fun c i wr => ∃ k : Nat, c = .int .i64 (((V.take k).countP (fun v => Y.contains v) : Nat) : Int) ∧ i = .int .i64 (k : Int) ∧ k ≤ V.length ∧ Hid (Cs w wr w.heap.size av al V L cv cl) ∧ Hid (Ints wr ay Y)) (fun _ i _ => V.length - (intOf i).toNat)
  case atStart => exact ⟨0, by simp, rfl, Nat.zero_le _, H0, HY0⟩
  case round =>
    obtain ⟨k, rfl, rfl, hk, HC, HJ⟩ := hrel
    have c0 := HC.out.bx.c0
    have lt0 := HC.out.bx.lt
    by_cases hlt : k < V.length
    · have hltz : (k : Int) < (V.length : Int) := by omega
      obtain ⟨b, off, rfl, hbl, hc⟩ := HC.out.cf.v.at hlt
      have c2 := hc k hlt
      have hct := count_take (fun v => Y.contains v) hlt
      have hcl := count_le (V := V) (fun v => Y.contains v) k
      generalize hq : (V.take k).countP (fun v => Y.contains v) = q at hct hcl ⊢
      generalize nth V k = x at c2 hct
      have HT := hidOf hct
      have HSE := hidOf (in_any wr ay Y cy x HJ.out)
      clear hc hct hq
      cases e : Y.contains x with
      | false =>
        rw [e] at HSE
        have HT2 : Hid ((V.take (k + 1)).countP (fun v => Y.contains v) = q) := hidOf (by rw [HT.out, e]; rfl)
        clear HT e
        go_wp2_with (go_at_call 17; refine HSE.out.mono ?_; rintro e w2 ⟨rfl, hw⟩; subst w2)
        go_roundw
        case rel => exact ⟨k + 1, by rw [HT2.out], by go_num, by omega, HC, HJ⟩
        case measure => simp [intOf]; omega
      | true =>
        rw [e] at HSE
        have HT2 : Hid ((V.take (k + 1)).countP (fun v => Y.contains v) = q + 1) := hidOf (by rw [HT.out, e]; rfl)
        clear HT e
        go_wp2_with (go_at_call 17; refine HSE.out.mono ?_; rintro e w2 ⟨rfl, hw⟩; subst w2)
        go_roundw
        case rel => exact ⟨k + 1, by rw [HT2.out]; go_num, by go_num, by omega, HC, HJ⟩
        case measure => simp [intOf]; omega
    · obtain rfl : k = V.length := by omega
      have hltz : ¬ (V.length : Int) < (V.length : Int) := by omega
      have hcl := count_le (V := V) (fun v => Y.contains v) V.length
      have e : majB V Y = decide (V.length < 2 * (V.take V.length).countP (fun v => Y.contains v)) := by
        unfold majB
        rw [List.take_length]
      generalize (V.take V.length).countP (fun v => Y.contains v) = q at e hcl ⊢
      have HE := hidOf (e.trans (more_half V.length q hcl).symm)
      clear e
      go_wp2
      go_ret
      exact ⟨by rw [HE.out]; rfl, HC.out.bel⟩

set_option maxHeartbeats 4000000 in
theorem ragreed_any (w : World) (av al : Option Addr) (V L : List Int) (cv cl : Nat) (am : Option Addr) (M : List Int) (cm : Nat) (h : Cf w av al V L) (hm : Ints w am M) (hl : M.length < 17592186044416) : Calls Try.prog 22 #[.agg #[.slice av V.length cv, .slice al L.length cl], .slice am M.length cm] w fun e w' => e = .returned (.int .i64 (agr V M)) ∧ Below w.heap.size w w' := by
  have H0 := hidOf (Cs.begin cv cl h)
  have HM0 := hidOf (hm.grow (below1 w (.cells #[.slice av V.length cv, .slice al L.length cl] 24)))
  clear h hm
  go_enter Try.func22, Try.ntmps22
  go_wp2_with (fail)
  go_loopw [5, 6] (fun bb i wr => ∃ (k : Nat) (t : Int), bb = .int .i64 t ∧ i = .int .i64 (k : Int) ∧ k ≤ M.length ∧ Hid (Best V M k t) ∧ Hid (Cs w wr w.heap.size av al V L cv cl) ∧ Hid (Ints wr am M)) (fun _ i _ => M.length - (intOf i).toNat)
  case atStart => exact ⟨0, 0, rfl, rfl, Nat.zero_le _, hidOf (Best.start V M), H0, HM0⟩
  case round =>
    obtain ⟨k, t, rfl, rfl, hk, HBE, HC, HMr⟩ := hrel
    obtain ⟨wr4, hwr⟩ : ∃ x, x = wr := ⟨_, rfl⟩
    subst hwr
    by_cases hlt : k < M.length
    · have hltz : (k : Int) < (M.length : Int) := by omega
      obtain ⟨x, hx⟩ : ∃ x, x = nth M k := ⟨_, rfl⟩
      have HX := hidOf hx
      clear hx
      go_wp2_with (fail)
      go_loopw [7, 8] (fun vv i wq => ∃ (j : Nat) (v : Value), v = vv ∧ i = .int .i64 ((j : Int) + 1) ∧ j ≤ M.length ∧ Hid (Row wq wr4.heap.size v (geL M x j)) ∧ Hid (Below wr4.heap.size wr4 wq)) (fun _ i _ => M.length + 1 - (intOf i).toNat)
      case atStart => exact ⟨0, _, rfl, rfl, Nat.zero_le _, hidOf (Row.nil _ _), hidOf (Below.refl _ _)⟩
      case round =>
        obtain ⟨j, v, rfl, rfl, hj, HR, HB⟩ := hrel
        obtain ⟨wq, hwq⟩ : ∃ x, x = wr := ⟨_, rfl⟩
        subst hwq
        by_cases hlt2 : j < M.length
        · have hltz2 : (j : Int) + 1 ≤ (M.length : Int) := by omega
          have hjz : (j : Int) < (M.length : Int) := by omega
          have hs1 : (j : Int) + 1 - 1 = (j : Int) := by omega
          obtain ⟨b, off, hab, _, hc⟩ := (HMr.out.grow HB.out).at hlt2
          subst hab
          have c1 := hc k hlt
          have c2 := hc j hlt2
          rw [← HX.out] at c1
          obtain ⟨y, hy⟩ : ∃ y, y = nth M j := ⟨_, rfl⟩
          rw [← hy] at c2
          have HY := hidOf hy
          have hD : Hid (wr4.heap.size ≤ wq.heap.size) := hidOf HB.out.size
          have hl1 := geL_length M x j
          clear hc hy
          by_cases h1 : x ≤ y
          · have HG := hidOf (geL_yes (M := M) (t := x) (k := j) (by rw [← HY.out]; exact h1))
            have HL : Hid ((geL M x j).length + [((j : Int) + 1)].length ≤ 17592186044416) := hidOf (by simp; omega)
            have hdq : Hid (Below wr4.heap.size wr4 wq.drew) := hidOf HB.out.drew
            go_upto_region 9 with fail
            go_quiet (fail)
            have HB2 := hidOf (below_drewN HB.out nq)
            have HR2 := hidOf (HR.out.grow (below_drewN (Below.refl _ wq) nq))
            obtain ⟨w2, hw2⟩ : ∃ x, x = wq.drewN nq := ⟨_, rfl⟩
            rw [← hw2] at HB2 HR2 ⊢
            have hD2 : Hid (wr4.heap.size ≤ w2.heap.size) := hidOf HB2.out.size
            have hD3 : Hid (wr4.heap.size ≤ (w2.alloc (.cells #[.int .i64 ((j : Int) + 1)] 3)).heap.size) := hidOf (by rw [World.size_alloc]; exact Nat.le_succ_of_le hD2.out)
            clear hw2 c1 c2 hdq
            go_wp2_with (at_builtin; refine wpList_app (w2.alloc (.cells #[.int .i64 ((j : Int) + 1)] 3)) rfl (.tmp 32) (.tmp 34) rfl wr4.heap.size v (geL M x j) rfl (HR2.out.grow (below1 w2 _)) (some ⟨w2.heap.size, 0, none⟩) 1 [((j : Int) + 1)] rfl (ints_one w2 _) HL.out hD3.out ?next)
            case next =>
              intro v3 w3 hr3 hg3 _
              rw [← HG.out] at hr3
              have HR3 := hidOf hr3
              have HB3 := hidOf (HB2.out.trans (((below1 w2 (.cells #[.int .i64 ((j : Int) + 1)] 3)).mono hD2.out).trans (grown_below (HR2.out.grow (below1 w2 _)) hg3 hD3.out)))
              clear hr3 hg3
              go_wp2
              go_roundw
              case rel => exact ⟨j + 1, _, rfl, by go_num, by omega, HR3, HB3⟩
              case measure => simp [intOf]; omega
          · have HG := hidOf (geL_no (M := M) (t := x) (k := j) (by rw [← HY.out]; exact h1))
            go_upto_region 9 with fail
            go_quiet (fail)
            go_wp2
            go_roundw
            case rel => exact ⟨j + 1, _, rfl, by go_num, by omega, hidOf (by rw [HG.out]; exact HR.out.grow (below_drewN (Below.refl _ wq) nq)), hidOf (below_drewN HB.out nq)⟩
            case measure => simp [intOf]; omega
        · obtain rfl : j = M.length := by omega
          have hltz2 : ¬ (M.length : Int) + 1 ≤ (M.length : Int) := by omega
          obtain ⟨ya, yc, rfl, hyi, _, _, _⟩ := HR.out.slice
          have HCq := hidOf (HC.out.grow HB.out)
          have HMq := hidOf (HMr.out.grow HB.out)
          have hmj := rmajority_any wq av al V L cv cl ya (geL M x M.length) yc HCq.out.cf hyi
          have c0 := HCq.out.bx.c0
          have c1 := HCq.out.bx.c1
          have lt0 := HCq.out.bx.lt
          have HTA := hidOf (fun h1 h2 => (HBE.out.take (k := k) h1 h2))
          have HLE := hidOf (fun h1 => (HBE.out.leave (k := k) h1))
          rw [← HX.out] at HTA HLE
          clear hyi
          cases e : majB V (geL M x M.length) with
          | false =>
            rw [e] at hmj HLE
            have HN := hidOf (HLE.out (fun h => by cases h))
            have HMJ := hidOf hmj
            clear hmj e HTA HLE
            go_wp2_with (go_at_call 20; refine HMJ.out.mono ?_; rintro e w5 ⟨rfl, hb⟩; have H5 := hidOf (HCq.out.grow hb); have HM5 := hidOf (HMq.out.grow hb); clear hb c0 c1 lt0)
            go_roundw
            case rel => exact ⟨k + 1, t, rfl, by go_num, by omega, HN, H5, HM5⟩
            case measure => simp [intOf]; omega
          | true =>
            rw [e] at hmj HLE HTA
            have HMJ := hidOf hmj
            clear hmj e
            by_cases htx : t < x
            · have HN := hidOf (HTA.out rfl htx)
              clear HTA HLE
              go_wp2_with (go_at_call 20; refine HMJ.out.mono ?_; rintro e w5 ⟨rfl, hb⟩; have H5 := hidOf (HCq.out.grow hb); have hM5 := HMq.out.grow hb; obtain ⟨b, off, hab, _, hc⟩ := hM5.at hlt; have d1 := hc k hlt; rw [← HX.out] at d1; have HM5 := hidOf hM5; clear hb c0 c1 lt0 hc hM5; subst hab)
              go_roundw
              case rel => exact ⟨k + 1, x, rfl, by go_num, by omega, HN, H5, HM5⟩
              case measure => simp [intOf]; omega
            · have HN := hidOf (HLE.out (fun _ => htx))
              clear HTA HLE
              go_wp2_with (go_at_call 20; refine HMJ.out.mono ?_; rintro e w5 ⟨rfl, hb⟩; have H5 := hidOf (HCq.out.grow hb); have hM5 := HMq.out.grow hb; obtain ⟨b, off, hab, _, hc⟩ := hM5.at hlt; have d1 := hc k hlt; rw [← HX.out] at d1; have HM5 := hidOf hM5; clear hb c0 c1 lt0 hc hM5; subst hab)
              go_roundw
              case rel => exact ⟨k + 1, t, rfl, by go_num, by omega, HN, H5, HM5⟩
              case measure => simp [intOf]; omega
    · obtain rfl : k = M.length := by omega
      have hltz : ¬ (M.length : Int) < (M.length : Int) := by omega
      have HE := hidOf HBE.out.end_
      go_wp2
      go_ret
      exact ⟨by rw [HE.out]; rfl, HC.out.bel⟩
end Go.Proofs.Yteaohmlbioooaaa
