/- Taking one down. -/
import Derived.Test.YtndomlbjdppckaaBmem
namespace Go.Proofs.Ytndomlbjdppckaa
open Go.RowKit

set_option maxHeartbeats 4000000 in
set_option maxRecDepth 100000 in
theorem sink_any (p g cap n lo : Nat) (L0 : List It) (w : World) (hp : w.heap[p]? = some (.cells #[.slice (some ⟨g, 0, none⟩) L0.length cap, .int .i64 n] 78 (0, 0))) (hpg : p ≠ g) (hR : RowR w g cap L0) (hI : HeapFrom (lo + 1) L0) (hlo : lo ≤ L0.length) (hK : ∀ a ∈ L0, Kn w a) (hlm : L0.length ≤ 1000000000000000) :
   Calls Try.prog 41 #[.pointer (some ⟨p, 0, none⟩), .int .i64 lo] w fun e w' => e = .returned (.tuple #[]) ∧ ∃ L, L.Perm L0 ∧ HeapFrom lo L ∧ RowR w' g cap L ∧ RS w w' g := by
  have HP := hidOf hp
  have HR0 := hidOf hR
  have HI0 := hidOf hI
  have HK0 : Hid (∀ a ∈ L0, Kn w a ∧ a.p ≠ g) := hidOf (fun a ha => ⟨hK a ha, (hK a ha).ne hR⟩)
  clear hp hR hI hK
  go_enter Try.func41, Try.ntmps41
  go_wp2
  go_loopw [1] (fun i wr => ∃ (k : Nat) (L : List It), k ≤ L0.length ∧ i = .int .i64 (k : Int) ∧ Hid (SInv lo L0 L k ∧ RowR wr g cap L ∧ RS w wr g)) (fun i _ => L0.length - (intOf i).toNat)
  case atStart => exact ⟨lo, L0, hlo, rfl, hidOf ⟨SInv.start HI0.out, HR0.out, RS.refl _ _⟩⟩
  case round =>
    obtain ⟨k, L, hk, rfl, H⟩ := hrel
    obtain ⟨wo, hwo⟩ : ∃ x, x = wr := ⟨_, rfl⟩
    subst hwo
    have hlen : L.length = L0.length := H.out.1.perm.length_eq
    have HLEN := hidOf hlen
    go_wp2
    go_loopw [4, 5] (fun f u wr => ∃ (fn un : Nat), f = .int .i64 (fn : Int) ∧ u = .int .i64 (un : Int) ∧ 2 * k + 1 ≤ un ∧ un ≤ 2 * k + 3 ∧ fn < un ∧ Hid (FInv L k un fn) ∧ Hid (RowR wr g cap L ∧ RS w wr g)) (fun _ u _ => 2 * k + 3 - (intOf u).toNat)
    case atStart => exact ⟨k, 2 * k + 1, rfl, by go_num, by omega, by omega, by omega, hidOf (FInv.start L k), hidOf H.out.2⟩
    case round =>
      obtain ⟨fn, un, rfl, rfl, hu1, hu2, hfu, HF, HW⟩ := hrel
      have hpw : wr.heap[p]? = some (.cells #[.slice (some ⟨g, 0, none⟩) L0.length cap, .int .i64 n] 78 (0, 0)) := (HW.out.2.block p (Array.getElem?_eq_some_iff.1 HP.out).1 hpg).trans HP.out
      have f0 : wr.cell? ⟨p, 0, none⟩ = some (.slice (some ⟨g, 0, none⟩) L0.length cap) := by rw [cell_of_row wr p 0 _ 78 (0, 0) hpw]; rfl
      have hpl : p < wr.heap.size := (Array.getElem?_eq_some_iff.1 hpw).1
      have hgl : g < wr.heap.size := HW.out.1.lt
      have HPW := hidOf hpw
      clear hpw
      by_cases hc : un ≤ 2 * k + 2 ∧ un < L0.length
      · obtain ⟨hc1, hc2⟩ := hc
        have hc1z : (un : Int) ≤ 2 * (k : Int) + 2 := by omega
        have hc2z : (un : Int) < (L0.length : Int) := by omega
        have hfl : fn < L0.length := by omega
        have hflz : (fn : Int) < (L0.length : Int) := by omega
        obtain ⟨a, ha⟩ : ∃ a, a = gt L un := ⟨_, rfl⟩
        obtain ⟨b, hb⟩ : ∃ b, b = gt L fn := ⟨_, rfl⟩
        obtain ⟨a0, a2⟩ := HW.out.1.cells un (by omega)
        obtain ⟨b0, b2⟩ := HW.out.1.cells fn (by omega)
        rw [← ha] at a0 a2
        rw [← hb] at b0 b2
        have HKA : Hid (Kn wr.drew a) := hidOf (by have h1 := HK0.out a (H.out.1.perm.mem_iff.1 (by rw [ha]; exact gt_mem (by omega))); exact (h1.1.rs HW.out.2 h1.2 : Kn wr _))
        have HKB : Hid (Kn wr.drew b) := hidOf (by have h1 := HK0.out b (H.out.1.perm.mem_iff.1 (by rw [hb]; exact gt_mem (by omega))); exact (h1.1.rs HW.out.2 h1.2 : Kn wr _))
        have HA := hidOf ha
        have HB := hidOf hb
        clear ha hb hlen
        have HC := fun w ha hb => before_any a b w ha hb
        obtain ⟨bb, hbb⟩ : ∃ bb, bef a b = bb := ⟨_, rfl⟩
        rw [hbb] at HC
        have HBB := hidOf hbb
        clear hbb
        go_wp2
        go_region_held3 (fun w' => w'.cell? ⟨p, 0, none⟩ = some (.slice (some ⟨g, 0, none⟩) L0.length cap) ∧ w'.cell? ⟨g, un * 2, none⟩ = some (.pointer (some ⟨a.p, 0, none⟩)) ∧ w'.cell? ⟨g, un * 2 + 1, none⟩ = some (.int .i64 a.c) ∧ w'.cell? ⟨g, fn * 2, none⟩ = some (.pointer (some ⟨b.p, 0, none⟩)) ∧ w'.cell? ⟨g, fn * 2 + 1, none⟩ = some (.int .i64 b.c)) (first | go_keep | exact ⟨k0, k1, k3, k4, k6⟩) (first | (go_at_call 43; refine (HC _ HKA.out HKB.out).mono ?_; rintro e w1 ⟨rfl, hb1⟩; have k0 := (hb1.cell (p := ⟨p, 0, none⟩) hpl).trans f0; have k1 := (hb1.cell (p := ⟨g, un * 2, none⟩) hgl).trans a0; have k3 := (hb1.cell (p := ⟨g, un * 2 + 1, none⟩) hgl).trans a2; have k4 := (hb1.cell (p := ⟨g, fn * 2, none⟩) hgl).trans b0; have k6 := (hb1.cell (p := ⟨g, fn * 2 + 1, none⟩) hgl).trans b2))
        have HW1 : Hid (RowR w1 g cap L ∧ RS w w1 g) := hidOf ⟨HW.out.1.kept (hb1.block g hgl), HW.out.2.drew.trans (RS.of_below hb1)⟩
        clear hb1 k0 k1 k3 k4 k6 f0 a0 a2 b0 b2
        cases bb with
        | true =>
          go_wp2
          go_roundw
          case rel => exact ⟨un, un + 1, by go_num, by go_num, by omega, by omega, by omega, hidOf (HF.out.turn hu1 (by rw [HLEN.out]; exact hc2) (by rw [← HA.out, ← HB.out]; exact HBB.out)), HW1⟩
          case measure => simp [intOf]; omega
        | false =>
          go_wp2
          go_roundw
          case rel => exact ⟨fn, un + 1, by go_num, by go_num, by omega, by omega, by omega, hidOf (HF.out.keep (by rw [← HA.out, ← HB.out]; exact HBB.out)), HW1⟩
          case measure => simp [intOf]; omega
      · have hx : 2 * k + 2 < un ∨ L0.length ≤ un := by omega
        by_cases hc1 : un ≤ 2 * k + 2
        · have hc1z : (un : Int) ≤ 2 * (k : Int) + 2 := by omega
          have hc2z : ¬ (un : Int) < (L0.length : Int) := by omega
          by_cases he : fn = k
          · subst he
            go_wp2
            refine bodyPost_ret (results_none rfl _ _ _) rfl ?_
            exact ⟨rfl, L, H.out.1.perm, H.out.1.stop HF.out (by rw [HLEN.out]; exact hx), HW.out.1, HW.out.2⟩
          · have hfl : fn < L0.length := by
              rcases HF.out.from_ with e | ⟨_, _, e, _⟩
              · exact absurd e he
              · rw [← HLEN.out]; exact e
            have hkf : k < fn := by
              rcases HF.out.from_ with e | ⟨e, _⟩
              · exact absurd e he
              · omega
            have hflz : (fn : Int) < (L0.length : Int) := by omega
            have hklz : (k : Int) < (L0.length : Int) := by omega
            have hkL : k < L.length := by rw [HLEN.out]; omega
            have hfL : fn < L.length := by rw [HLEN.out]; omega
            obtain ⟨a, ha⟩ : ∃ a, a = gt L k := ⟨_, rfl⟩
            obtain ⟨b, hb⟩ : ∃ b, b = gt L fn := ⟨_, rfl⟩
            obtain ⟨a0, a2⟩ := HW.out.1.cells k hkL
            obtain ⟨b0, b2⟩ := HW.out.1.cells fn hfL
            rw [← ha] at a0 a2
            rw [← hb] at b0 b2
            have hz0 : ∀ j, wr.frozen? ⟨g, j, none⟩ = false := fun j => HW.out.1.frozen j
            have HA := hidOf ha
            have HB := hidOf hb
            have HKL := hidOf hkL
            have HFL := hidOf hfL
            clear ha hb hlen hkL hfL
            go_wp2
            go_region
            go_wp2
            go_roundw
            case rel =>
              refine ⟨fn, sw L k fn, by omega, by go_num, hidOf ⟨H.out.1.step HF.out he hu2 (by rw [HLEN.out]; exact hx), ?_, ?_⟩⟩
              · have h1 := ((HW.out.1.set3 k HKL.out b).set3 fn (by simpa using HFL.out) a).drew
                unfold sw
                rw [← HA.out, ← HB.out]
                exact h1
              · exact ((HW.out.2.set3 k b).set3 fn a).drew
            case measure => simp [intOf]; omega
        · have hc1z : ¬ (un : Int) ≤ 2 * (k : Int) + 2 := by omega
          by_cases he : fn = k
          · subst he
            go_wp2
            refine bodyPost_ret (results_none rfl _ _ _) rfl ?_
            exact ⟨rfl, L, H.out.1.perm, H.out.1.stop HF.out (by rw [HLEN.out]; exact hx), HW.out.1, HW.out.2⟩
          · have hfl : fn < L0.length := by
              rcases HF.out.from_ with e | ⟨_, _, e, _⟩
              · exact absurd e he
              · rw [← HLEN.out]; exact e
            have hkf : k < fn := by
              rcases HF.out.from_ with e | ⟨e, _⟩
              · exact absurd e he
              · omega
            have hflz : (fn : Int) < (L0.length : Int) := by omega
            have hklz : (k : Int) < (L0.length : Int) := by omega
            have hkL : k < L.length := by rw [HLEN.out]; omega
            have hfL : fn < L.length := by rw [HLEN.out]; omega
            obtain ⟨a, ha⟩ : ∃ a, a = gt L k := ⟨_, rfl⟩
            obtain ⟨b, hb⟩ : ∃ b, b = gt L fn := ⟨_, rfl⟩
            obtain ⟨a0, a2⟩ := HW.out.1.cells k hkL
            obtain ⟨b0, b2⟩ := HW.out.1.cells fn hfL
            rw [← ha] at a0 a2
            rw [← hb] at b0 b2
            have hz0 : ∀ j, wr.frozen? ⟨g, j, none⟩ = false := fun j => HW.out.1.frozen j
            have HA := hidOf ha
            have HB := hidOf hb
            have HKL := hidOf hkL
            have HFL := hidOf hfL
            clear ha hb hlen hkL hfL
            go_wp2
            go_region
            go_wp2
            go_roundw
            case rel =>
              refine ⟨fn, sw L k fn, by omega, by go_num, hidOf ⟨H.out.1.step HF.out he hu2 (by rw [HLEN.out]; exact hx), ?_, ?_⟩⟩
              · have h1 := ((HW.out.1.set3 k HKL.out b).set3 fn (by simpa using HFL.out) a).drew
                unfold sw
                rw [← HA.out, ← HB.out]
                exact h1
              · exact ((HW.out.2.set3 k b).set3 fn a).drew
            case measure => simp [intOf]; omega

end Go.Proofs.Ytndomlbjdppckaa
