/- ConfMore, walked. -/
import Derived.Test.YteaohmlbioooaabCliv
import Derived.Test.YteaohmlbioooaabCopn
import Derived.Deep.RegionHeld3
import Derived.Deep.Cut
namespace Go.Proofs.Yteaohmlbioooaab
open Go.RowKit

theorem row_some {w : World} {D : Nat} {v : Value} {l : List Int} (h : Row w D v l) (hne : l ≠ []) : ∃ g cap, v = .slice (some ⟨g, 0, none⟩) l.length cap ∧ D ≤ g ∧ g < w.heap.size ∧ (∀ j, w.frozen? ⟨g, j, none⟩ = false) ∧ ∀ j, j < l.length → w.cell? ⟨g, j, none⟩ = some (.int .i64 (nth l j)) := by
  obtain ⟨a, cap, rfl, hi, _, hD, _⟩ := h.slice
  rcases h.own.2 with ⟨e, e2⟩ | ⟨g, cap', cur, e, h3, h4, h5⟩
  · exact absurd (List.eq_nil_of_length_eq_zero e2) hne
  · cases e
    obtain ⟨b, off, e1, _, hc⟩ := hi.cells hne
    cases e1
    refine ⟨g, cap, rfl, h3, heap_lt h4, fun j => by simp [World.frozen?, h4], fun j hj => ?_⟩
    have := hc j hj
    rw [Nat.zero_add] at this
    exact this
theorem row_setAt {w : World} {D g cap : Nat} {l : List Int} (h : Row w D (.slice (some ⟨g, 0, none⟩) l.length cap) l) {k : Nat} (_hk : k < l.length) (x : Int) : Row (w.setCell ⟨g, k, none⟩ (.int .i64 x)) D (.slice (some ⟨g, 0, none⟩) l.length cap) (l.set k x) := by
  rcases h.own.2 with ⟨e, _⟩ | ⟨g', cap', cur, e, h3, h4, h5, h6, h7, h8⟩
  · cases e
  · cases e
    refine ⟨⟨by simp, .inr ⟨g, cap, cur.setIfInBounds k (.int .i64 x), by rw [List.length_set], h3, heap_setCell_same w g k _ 3 _ h4, by rw [List.length_set]; exact h5, h6, by simpa using h7, ?_⟩⟩, by rw [List.length_set]; exact h.len⟩
    rw [List.length_set, Array.toList_setIfInBounds, List.take_set, h8, List.map_set]
theorem setAt_below {w : World} {D g : Nat} (hD : D ≤ g) (k : Nat) (u : Value) : Below D w (w.setCell ⟨g, k, none⟩ u) := (Below.refl D w).setCell hD u
set_option maxHeartbeats 8000000 in
theorem lawMore (w : World) (av al : Option Addr) (V L : List Int) (cv cl : Nat) (hV : Ints w av V) (hL : Ints w al L) (_bV : V.length ≤ 17592186043904) (_bL : L.length ≤ 17592186043904) (_kV : V.length ≤ cv) (_kL : L.length ≤ cl) (_wV : Wf V) (_wL : Wf L) (ay : Option Addr) (Y : List Int) (cy : Nat) (hY : Ints w ay Y) (bY : Y.length ≤ 17592186043904) (_kY : Y.length ≤ cy) (_wY : Wf Y) (am : Option Addr) (M : List Int) (cm : Nat) (hM : Ints w am M) (bM : M.length ≤ 17592186043904) (_kM : M.length ≤ cm) (wM : Wf M) : Calls Try.prog 5 #[.agg #[.slice av V.length cv, .slice al L.length cl], .slice ay Y.length cy, .slice am M.length cm] w fun e w' => e = .returned (.bool true) ∧ Below w.heap.size w w' := by
  have H0 := hidOf (Cs.begin cv cl ⟨hV, hL⟩)
  have HY0 := hidOf (hY.grow (below1 w (.cells #[.slice av V.length cv, .slice al L.length cl] 24)))
  have HM0 := hidOf (hM.grow (below1 w (.cells #[.slice av V.length cv, .slice al L.length cl] 24)))
  clear hV hL hY hM
  go_enter Try.func5, Try.ntmps5
  go_wp2_with (fail)
  go_loopw [7] (fun i wr => ∃ k : Nat, i = .int .i64 ((k : Int) + 1) ∧ k ≤ 5 ∧ Hid (Below (w.heap.size + 1) (w.alloc (.cells #[.slice av V.length cv, .slice al L.length cl] 24)) wr)) (fun i _ => 6 - (intOf i).toNat)
  case atStart => exact ⟨0, rfl, Nat.zero_le _, hidOf (Below.refl _ _)⟩
  case round =>
    obtain ⟨k, rfl, hk, HB⟩ := hrel
    by_cases hlt : k < 5
    · have hltz : (k : Int) + 1 ≤ 5 := by omega
      have hD : Hid (w.heap.size + 1 ≤ wr.heap.size) := hidOf (by have := HB.out.size; rw [World.size_alloc] at this; exact this)
      have HYr := hidOf (HY0.out.grow (by rw [World.size_alloc]; exact HB.out))
      have HLY : Hid (([] : List Int).length + Y.length ≤ 17592186044416) := hidOf (by simp; omega)
      go_wp2_with (at_builtin; refine wpList_app wr rfl (.tmp 14) (.tmp 15) rfl (w.heap.size + 1) (.slice none 0 0) [] rfl (Row.nil _ _) ay cy Y rfl HYr.out HLY.out hD.out ?next1)
      case next1 =>
        intro v1 w1 hr1 hg1 _
        have HR1 := hidOf hr1
        have HB1 := hidOf (HB.out.trans (grown_below (Row.nil wr (w.heap.size + 1)) hg1 hD.out))
        have hD1 : Hid (w.heap.size + 1 ≤ w1.heap.size) := hidOf (by have := HB1.out.size; rw [World.size_alloc] at this; exact this)
        have hD1' : Hid (w.heap.size + 1 ≤ (w1.alloc (.cells #[.int .i64 ((k : Int) + 1)] 3)).heap.size) := hidOf (by rw [World.size_alloc]; exact Nat.le_succ_of_le hD1.out)
        have HLY1 : Hid (Y.length + [((k : Int) + 1)].length ≤ 17592186044416) := hidOf (by simp; omega)
        clear hr1 hg1
        go_wp2_with (at_builtin; refine wpList_app (w1.alloc (.cells #[.int .i64 ((k : Int) + 1)] 3)) rfl (.tmp 17) (.tmp 19) rfl (w.heap.size + 1) v1 Y rfl (HR1.out.grow (below1 w1 _)) (some ⟨w1.heap.size, 0, none⟩) 1 [((k : Int) + 1)] rfl (ints_one w1 _) HLY1.out hD1'.out ?next2)
        case next2 =>
          intro v2 w2 hr2 hg2 _
          have HB2 := hidOf (HB1.out.trans (((below1 w1 (.cells #[.int .i64 ((k : Int) + 1)] 3)).mono hD1.out).trans (grown_below (HR1.out.grow (below1 w1 _)) hg2 hD1'.out)))
          have hll : (Y ++ [(k : Int) + 1]).length = Y.length + 1 := by simp
          obtain ⟨a2, c2, hv2, hi2, _, _, _⟩ := hr2.slice
          have HC2 := hidOf (H0.out.at_ HB2.out)
          have HY2 := hidOf (HY0.out.grow (by rw [World.size_alloc]; exact HB2.out))
          have HM2 := hidOf (HM0.out.grow (by rw [World.size_alloc]; exact HB2.out))
          have hj1 := majority_any w2 av al V L cv cl ay Y cy HC2.out.cf HY2.out
          have HMM : Hid (majB V Y = true → majB V (Y ++ [(k : Int) + 1]) = true) := hidOf (maj_mono (fun x hx => by simp [hx]))
          have HJ := hidOf hi2
          rw [hll] at hv2
          subst hv2
          have c0 := HC2.out.bx.c0
          have c1 := HC2.out.bx.c1
          have lt0 := HC2.out.bx.lt
          clear hr2 hg2 hi2 hll
          cases e1 : majB V Y with
          | false =>
            rw [e1] at hj1
            have HJ1 := hidOf hj1
            clear hj1 e1
            by_cases h1 : k + 1 ≤ M.length
            · have h1z : (k : Int) + 1 ≤ (M.length : Int) := by omega
              have hkl : k < M.length := by omega
              have hkz : (k : Int) < (M.length : Int) := by omega
              have hs1 : (k : Int) + 1 - 1 = k := by omega
              have hmn : M ≠ [] := fun e => by rw [e] at hkl; simp at hkl
              have HMN := hidOf hmn
              clear hmn
              obtain ⟨x, hx⟩ : ∃ x, x = nth M k := ⟨_, rfl⟩
              have HX0 := hidOf hx
              clear hx
              by_cases h2 : x < 1099511627776
              · go_upto_region 11 with (go_at_call 13; refine HJ1.out.mono ?_; rintro e wm ⟨rfl, hb⟩; have HBm := hidOf (HB2.out.trans (hb.mono HC2.out.bx.lt)); clear hb c0 c1 lt0; have hMm := HM0.out.grow (by rw [World.size_alloc]; exact HBm.out); obtain ⟨b, off, e1, hbl, hc⟩ := hMm.at hkl; have d0 := hc k hkl; rw [← HX0.out] at d0; have HMm := hidOf hMm; clear hMm hc; subst e1; have hDm : Hid (w.heap.size + 1 ≤ wm.heap.size) := hidOf (by have := HBm.out.size; rw [World.size_alloc] at this; exact this); have HLM : Hid (([] : List Int).length + M.length ≤ 17592186044416) := hidOf (by simp; omega))
                go_wp2_with (at_builtin; refine wpList_app wm rfl (.tmp 42) (.tmp 43) rfl (w.heap.size + 1) (.slice none 0 0) [] rfl (Row.nil _ _) (some ⟨b, off, none⟩) cm M rfl HMm.out HLM.out hDm.out ?next3)
                case next3 =>
                  intro v5 w5 hr5 hg5 _
                  have HB5 := hidOf (HBm.out.trans (grown_below (Row.nil wm (w.heap.size + 1)) hg5 hDm.out))
                  obtain ⟨g, gc, rfl, hDg, hgl, hgf, hgc⟩ := row_some hr5 HMN.out
                  have d1 := hgc k hkl
                  have f1 := hgf k
                  rw [← HX0.out] at d1
                  have HR6 := hidOf (row_setAt hr5 hkl (x + 1))
                  have HB6 := hidOf (HB5.out.trans (setAt_below hDg k (.int .i64 (x + 1))))
                  have HM6 := hidOf (HM0.out.grow (by rw [World.size_alloc]; exact HB6.out))
                  have HMX := hidOf (HM6.out.grow ⟨rfl, rfl, rfl, Nat.le_refl _, fun _ _ => rfl⟩ : Ints (w5.setCell ⟨g, k, none⟩ (.int .i64 (x + 1))).drew (some ⟨b, off, none⟩) M)
                  have HC6 := hidOf (H0.out.at_ HB6.out)
                  have HX := hidOf HC6.out.drew
                  have HAG : Hid (agr V M ≤ agr V (M.set k (x + 1))) := hidOf (agr_mono (rea_set (by rw [← HX0.out]; omega)))
                  have ha1 := agreed_any (w5.setCell ⟨g, k, none⟩ (.int .i64 (x + 1))).drew av al V L cv cl (some ⟨g, 0, none⟩) (M.set k (x + 1)) gc HX.out.cf (by obtain ⟨a, c, e, hi, _⟩ := (HR6.out.grow ⟨rfl, rfl, rfl, Nat.le_refl _, fun _ _ => rfl⟩ : Row (w5.setCell ⟨g, k, none⟩ (.int .i64 (x + 1))).drew _ _ _).slice; injection e with e1 _ _; rw [e1]; exact hi)
                  rw [List.length_set] at ha1
                  have HA1 := hidOf ha1
                  have d2 : -9223372036854775808 ≤ x := by rw [HX0.out]; exact (wM _ (nth_mem hkl)).1
                  clear ha1 hr5 hg5 hgf hgc
                  go_wp2_with (fail)
                  have c0 := HC6.out.bx.c0
                  have c1 := HC6.out.bx.c1
                  have lt0 := HC6.out.bx.lt
                  refine wp_region_held_drew (S := fun wz => wz.cell? ⟨w.heap.size, 0, none⟩ = some (.slice av V.length cv) ∧ wz.cell? ⟨w.heap.size, 1, none⟩ = some (.slice al L.length cl)) (by kernel_rfl) ⟨c0, c1⟩ (fun hHeld => ?_)
                  refine wpAnyH_take (i := 0) (oi := { dst := some 52, op := Op.load 24 (Operand.tmp 3), type := 24, pos := "law.go:192", after := #[], guard := none }) (v := .agg #[.slice av V.length cv, .slice al L.length cl]) rfl (by kernel_rfl) (by kernel_rfl) (by kernel_rfl) (fun _ _ _ h => h) (Or.inl ⟨by rfl, ?_⟩) hHeld ?_
                  · (intro w hSw; (try dsimp only at hSw); go_simp)
                  try simp only [Act.put, List.setIfInBounds_toArray, List.set_cons_zero, List.set_cons_succ]
                  refine wpAnyH_take (i := 1) (oi := { dst := some 53, op := Op.move (Operand.tmp 9), type := 22, pos := "law.go:192", after := #[], guard := none }) (v := .slice (some ⟨g, 0, none⟩) M.length gc) rfl (by kernel_rfl) (by kernel_rfl) (by kernel_rfl) (fun _ _ _ h => h) (Or.inl ⟨by rfl, ?_⟩) hHeld ?_
                  · (intro w hSw; (try dsimp only at hSw); go_simp)
                  try simp only [Act.put, List.setIfInBounds_toArray, List.set_cons_zero, List.set_cons_succ]
                  refine wpAnyH_take (i := 3) (oi := { dst := some 55, op := Op.load 24 (Operand.tmp 3), type := 24, pos := "law.go:192", after := #[], guard := none }) (v := .agg #[.slice av V.length cv, .slice al L.length cl]) rfl (by kernel_rfl) (by kernel_rfl) (by kernel_rfl) (fun _ _ _ h => h) (Or.inl ⟨by rfl, ?_⟩) hHeld ?_
                  · (intro w hSw; (try dsimp only at hSw); go_simp)
                  try simp only [Act.put, List.setIfInBounds_toArray, List.set_cons_zero, List.set_cons_succ]
                  refine wpAnyH_take (i := 4) (oi := { dst := some 56, op := Op.move (Operand.tmp 2), type := 22, pos := "law.go:192", after := #[], guard := none }) (v := .slice (some ⟨b, off, none⟩) M.length cm) rfl (by kernel_rfl) (by kernel_rfl) (by kernel_rfl) (fun _ _ _ h => h) (Or.inl ⟨by rfl, ?_⟩) hHeld ?_
                  · (intro w hSw; (try dsimp only at hSw); go_simp)
                  try simp only [Act.put, List.setIfInBounds_toArray, List.set_cons_zero, List.set_cons_succ]
                  refine wpAnyH_ready (rs := [2]) (by kernel_rfl) (by simp) ?_
                  refine AllReadyH.cons (o := { dst := some 54, op := Op.call { callee := Callee.value (Operand.func 14), args := #[Operand.tmp 52, Operand.tmp 53], argTypes := #[24, 22] }, type := 3, pos := "law.go:192", after := #[{ on := 0, ground := Ground.data }, { on := 1, ground := Ground.data }], guard := none }) rfl (fun K hK => ?_) AllReadyH.nil
                  go_simp
                  refine HA1.out.mono ?_
                  rintro e w7 ⟨rfl, hb⟩
                  have H7 := hidOf (HX.out.grow hb)
                  have HM7 := hidOf (HMX.out.grow hb)
                  have HB7 := hidOf hb
                  clear hb
                  refine hK.out _ _ ⟨H7.out.bx.c0, H7.out.bx.c1⟩ (fun hHeld1 => ?_)
                  clear hK K
                  try simp only [Act.put, List.setIfInBounds_toArray, List.set_cons_zero, List.set_cons_succ]
                  refine wpAnyH_ready (rs := [5]) (by kernel_rfl) (by simp) ?_
                  refine AllReadyH.cons (o := { dst := some 57, op := Op.call { callee := Callee.value (Operand.func 14), args := #[Operand.tmp 55, Operand.tmp 56], argTypes := #[24, 22] }, type := 3, pos := "law.go:192", after := #[{ on := 3, ground := Ground.data }, { on := 4, ground := Ground.data }, { on := 2, ground := Ground.chain }], guard := none }) rfl (fun K hK => ?_) AllReadyH.nil
                  go_simp
                  refine (agreed_any w7 av al V L cv cl (some ⟨b, off, none⟩) M cm H7.out.cf HM7.out).mono ?_
                  rintro e w8 ⟨rfl, hb⟩
                  have H8 := hidOf (H7.out.grow hb)
                  have HB8 := hidOf hb
                  clear hb
                  refine hK.out _ _ ⟨H8.out.bx.c0, H8.out.bx.c1⟩ (fun hHeld2 => ?_)
                  clear hK K
                  try simp only [Act.put, List.setIfInBounds_toArray, List.set_cons_zero, List.set_cons_succ]
                  refine wpAnyH_take (i := 6) (oi := { dst := some 58, op := Op.binOp BinOp.lss 3 (Operand.tmp 54) (Operand.tmp 57) 3, type := 4, pos := "law.go:192", after := #[{ on := 2, ground := Ground.data }, { on := 5, ground := Ground.data }], guard := none }) (v := .bool false) rfl (by kernel_rfl) (by kernel_rfl) (by kernel_rfl) (fun _ _ _ h => h) (Or.inl ⟨by rfl, ?_⟩) hHeld2 ?_
                  · (intro w hSw; (try dsimp only at hSw); go_simp; exact HAG.out)
                  try simp only [Act.put, List.setIfInBounds_toArray, List.set_cons_zero, List.set_cons_succ]
                  refine wpAnyH_done (by kernel_rfl) ?_ _
                  go_wp2
                  go_roundw
                  case rel => exact ⟨k + 1, by go_num, by omega, hidOf ((HB6.out.drew.trans (HB7.out.mono HC6.out.bx.lt)).trans (HB8.out.mono H7.out.bx.lt))⟩
                  case measure => simp [intOf]; omega
              · go_wp2_with (go_at_call 13; refine HJ1.out.mono ?_; rintro e wm ⟨rfl, hb⟩; have HBm := hidOf (HB2.out.trans (hb.mono HC2.out.bx.lt)); clear hb c0 c1 lt0; have hMm := HM0.out.grow (by rw [World.size_alloc]; exact HBm.out); obtain ⟨b, off, e1, hbl, hc⟩ := hMm.at hkl; have d0 := hc k hkl; rw [← HX0.out] at d0; clear hMm hc; subst e1)
                go_roundw
                case rel => exact ⟨k + 1, by go_num, by omega, HBm⟩
                case measure => simp [intOf]; omega
            · have h1z : ¬ (k : Int) + 1 ≤ (M.length : Int) := by omega
              go_wp2_with (go_at_call 13; refine HJ1.out.mono ?_; rintro e wm ⟨rfl, hb⟩; have HBm := hidOf (HB2.out.trans (hb.mono HC2.out.bx.lt)); clear hb c0 c1 lt0)
              go_roundw
              case rel => exact ⟨k + 1, by go_num, by omega, HBm⟩
              case measure => simp [intOf]; omega
          | true =>
            have HMY := hidOf (HMM.out e1)
            rw [e1] at hj1
            have HJ1 := hidOf hj1
            clear hj1 e1
            by_cases h1 : k + 1 ≤ M.length
            · have h1z : (k : Int) + 1 ≤ (M.length : Int) := by omega
              have hkl : k < M.length := by omega
              have hkz : (k : Int) < (M.length : Int) := by omega
              have hs1 : (k : Int) + 1 - 1 = k := by omega
              have hmn : M ≠ [] := fun e => by rw [e] at hkl; simp at hkl
              have HMN := hidOf hmn
              clear hmn
              obtain ⟨x, hx⟩ : ∃ x, x = nth M k := ⟨_, rfl⟩
              have HX0 := hidOf hx
              clear hx
              by_cases h2 : x < 1099511627776
              · go_upto_region 11 with (first
                  | (go_at_call 13; refine HJ1.out.mono ?_; rintro e w3 ⟨rfl, hb⟩; have HC3 := hidOf (HC2.out.grow hb); have HB3 := hidOf (HB2.out.trans (hb.mono HC2.out.bx.lt)); have hj2 := majority_any w3 av al V L cv cl a2 (Y ++ [(k : Int) + 1]) c2 HC3.out.cf (HJ.out.grow hb); rw [HMY.out, show (Y ++ [(k : Int) + 1]).length = Y.length + 1 from by simp] at hj2; have HJ2 := hidOf hj2; clear hj2 hb c0 c1 lt0 HJ1; have c0 := HC3.out.bx.c0; have c1 := HC3.out.bx.c1; have lt0 := HC3.out.bx.lt)
                  | (go_at_call 13; refine HJ2.out.mono ?_; rintro e wm ⟨rfl, hb⟩; have HBm := hidOf (HB3.out.trans (hb.mono HC3.out.bx.lt)); clear hb c0 c1 lt0; have hMm := HM0.out.grow (by rw [World.size_alloc]; exact HBm.out); obtain ⟨b, off, e1, hbl, hc⟩ := hMm.at hkl; have d0 := hc k hkl; rw [← HX0.out] at d0; have HMm := hidOf hMm; clear hMm hc; subst e1; have hDm : Hid (w.heap.size + 1 ≤ wm.heap.size) := hidOf (by have := HBm.out.size; rw [World.size_alloc] at this; exact this); have HLM : Hid (([] : List Int).length + M.length ≤ 17592186044416) := hidOf (by simp; omega)))
                go_wp2_with (at_builtin; refine wpList_app wm rfl (.tmp 42) (.tmp 43) rfl (w.heap.size + 1) (.slice none 0 0) [] rfl (Row.nil _ _) (some ⟨b, off, none⟩) cm M rfl HMm.out HLM.out hDm.out ?next3)
                case next3 =>
                  intro v5 w5 hr5 hg5 _
                  have HB5 := hidOf (HBm.out.trans (grown_below (Row.nil wm (w.heap.size + 1)) hg5 hDm.out))
                  obtain ⟨g, gc, rfl, hDg, hgl, hgf, hgc⟩ := row_some hr5 HMN.out
                  have d1 := hgc k hkl
                  have f1 := hgf k
                  rw [← HX0.out] at d1
                  have HR6 := hidOf (row_setAt hr5 hkl (x + 1))
                  have HB6 := hidOf (HB5.out.trans (setAt_below hDg k (.int .i64 (x + 1))))
                  have HM6 := hidOf (HM0.out.grow (by rw [World.size_alloc]; exact HB6.out))
                  have HMX := hidOf (HM6.out.grow ⟨rfl, rfl, rfl, Nat.le_refl _, fun _ _ => rfl⟩ : Ints (w5.setCell ⟨g, k, none⟩ (.int .i64 (x + 1))).drew (some ⟨b, off, none⟩) M)
                  have HC6 := hidOf (H0.out.at_ HB6.out)
                  have HX := hidOf HC6.out.drew
                  have HAG : Hid (agr V M ≤ agr V (M.set k (x + 1))) := hidOf (agr_mono (rea_set (by rw [← HX0.out]; omega)))
                  have ha1 := agreed_any (w5.setCell ⟨g, k, none⟩ (.int .i64 (x + 1))).drew av al V L cv cl (some ⟨g, 0, none⟩) (M.set k (x + 1)) gc HX.out.cf (by obtain ⟨a, c, e, hi, _⟩ := (HR6.out.grow ⟨rfl, rfl, rfl, Nat.le_refl _, fun _ _ => rfl⟩ : Row (w5.setCell ⟨g, k, none⟩ (.int .i64 (x + 1))).drew _ _ _).slice; injection e with e1 _ _; rw [e1]; exact hi)
                  rw [List.length_set] at ha1
                  have HA1 := hidOf ha1
                  have d2 : -9223372036854775808 ≤ x := by rw [HX0.out]; exact (wM _ (nth_mem hkl)).1
                  clear ha1 hr5 hg5 hgf hgc
                  go_wp2_with (fail)
                  have c0 := HC6.out.bx.c0
                  have c1 := HC6.out.bx.c1
                  have lt0 := HC6.out.bx.lt
                  refine wp_region_held_drew (S := fun wz => wz.cell? ⟨w.heap.size, 0, none⟩ = some (.slice av V.length cv) ∧ wz.cell? ⟨w.heap.size, 1, none⟩ = some (.slice al L.length cl)) (by kernel_rfl) ⟨c0, c1⟩ (fun hHeld => ?_)
                  refine wpAnyH_take (i := 0) (oi := { dst := some 52, op := Op.load 24 (Operand.tmp 3), type := 24, pos := "law.go:192", after := #[], guard := none }) (v := .agg #[.slice av V.length cv, .slice al L.length cl]) rfl (by kernel_rfl) (by kernel_rfl) (by kernel_rfl) (fun _ _ _ h => h) (Or.inl ⟨by rfl, ?_⟩) hHeld ?_
                  · (intro w hSw; (try dsimp only at hSw); go_simp)
                  try simp only [Act.put, List.setIfInBounds_toArray, List.set_cons_zero, List.set_cons_succ]
                  refine wpAnyH_take (i := 1) (oi := { dst := some 53, op := Op.move (Operand.tmp 9), type := 22, pos := "law.go:192", after := #[], guard := none }) (v := .slice (some ⟨g, 0, none⟩) M.length gc) rfl (by kernel_rfl) (by kernel_rfl) (by kernel_rfl) (fun _ _ _ h => h) (Or.inl ⟨by rfl, ?_⟩) hHeld ?_
                  · (intro w hSw; (try dsimp only at hSw); go_simp)
                  try simp only [Act.put, List.setIfInBounds_toArray, List.set_cons_zero, List.set_cons_succ]
                  refine wpAnyH_take (i := 3) (oi := { dst := some 55, op := Op.load 24 (Operand.tmp 3), type := 24, pos := "law.go:192", after := #[], guard := none }) (v := .agg #[.slice av V.length cv, .slice al L.length cl]) rfl (by kernel_rfl) (by kernel_rfl) (by kernel_rfl) (fun _ _ _ h => h) (Or.inl ⟨by rfl, ?_⟩) hHeld ?_
                  · (intro w hSw; (try dsimp only at hSw); go_simp)
                  try simp only [Act.put, List.setIfInBounds_toArray, List.set_cons_zero, List.set_cons_succ]
                  refine wpAnyH_take (i := 4) (oi := { dst := some 56, op := Op.move (Operand.tmp 2), type := 22, pos := "law.go:192", after := #[], guard := none }) (v := .slice (some ⟨b, off, none⟩) M.length cm) rfl (by kernel_rfl) (by kernel_rfl) (by kernel_rfl) (fun _ _ _ h => h) (Or.inl ⟨by rfl, ?_⟩) hHeld ?_
                  · (intro w hSw; (try dsimp only at hSw); go_simp)
                  try simp only [Act.put, List.setIfInBounds_toArray, List.set_cons_zero, List.set_cons_succ]
                  refine wpAnyH_ready (rs := [2]) (by kernel_rfl) (by simp) ?_
                  refine AllReadyH.cons (o := { dst := some 54, op := Op.call { callee := Callee.value (Operand.func 14), args := #[Operand.tmp 52, Operand.tmp 53], argTypes := #[24, 22] }, type := 3, pos := "law.go:192", after := #[{ on := 0, ground := Ground.data }, { on := 1, ground := Ground.data }], guard := none }) rfl (fun K hK => ?_) AllReadyH.nil
                  go_simp
                  refine HA1.out.mono ?_
                  rintro e w7 ⟨rfl, hb⟩
                  have H7 := hidOf (HX.out.grow hb)
                  have HM7 := hidOf (HMX.out.grow hb)
                  have HB7 := hidOf hb
                  clear hb
                  refine hK.out _ _ ⟨H7.out.bx.c0, H7.out.bx.c1⟩ (fun hHeld1 => ?_)
                  clear hK K
                  try simp only [Act.put, List.setIfInBounds_toArray, List.set_cons_zero, List.set_cons_succ]
                  refine wpAnyH_ready (rs := [5]) (by kernel_rfl) (by simp) ?_
                  refine AllReadyH.cons (o := { dst := some 57, op := Op.call { callee := Callee.value (Operand.func 14), args := #[Operand.tmp 55, Operand.tmp 56], argTypes := #[24, 22] }, type := 3, pos := "law.go:192", after := #[{ on := 3, ground := Ground.data }, { on := 4, ground := Ground.data }, { on := 2, ground := Ground.chain }], guard := none }) rfl (fun K hK => ?_) AllReadyH.nil
                  go_simp
                  refine (agreed_any w7 av al V L cv cl (some ⟨b, off, none⟩) M cm H7.out.cf HM7.out).mono ?_
                  rintro e w8 ⟨rfl, hb⟩
                  have H8 := hidOf (H7.out.grow hb)
                  have HB8 := hidOf hb
                  clear hb
                  refine hK.out _ _ ⟨H8.out.bx.c0, H8.out.bx.c1⟩ (fun hHeld2 => ?_)
                  clear hK K
                  try simp only [Act.put, List.setIfInBounds_toArray, List.set_cons_zero, List.set_cons_succ]
                  refine wpAnyH_take (i := 6) (oi := { dst := some 58, op := Op.binOp BinOp.lss 3 (Operand.tmp 54) (Operand.tmp 57) 3, type := 4, pos := "law.go:192", after := #[{ on := 2, ground := Ground.data }, { on := 5, ground := Ground.data }], guard := none }) (v := .bool false) rfl (by kernel_rfl) (by kernel_rfl) (by kernel_rfl) (fun _ _ _ h => h) (Or.inl ⟨by rfl, ?_⟩) hHeld2 ?_
                  · (intro w hSw; (try dsimp only at hSw); go_simp; exact HAG.out)
                  try simp only [Act.put, List.setIfInBounds_toArray, List.set_cons_zero, List.set_cons_succ]
                  refine wpAnyH_done (by kernel_rfl) ?_ _
                  go_wp2
                  go_roundw
                  case rel => exact ⟨k + 1, by go_num, by omega, hidOf ((HB6.out.drew.trans (HB7.out.mono HC6.out.bx.lt)).trans (HB8.out.mono H7.out.bx.lt))⟩
                  case measure => simp [intOf]; omega
              · go_wp2_with (first
                  | (go_at_call 13; refine HJ1.out.mono ?_; rintro e w3 ⟨rfl, hb⟩; have HC3 := hidOf (HC2.out.grow hb); have HB3 := hidOf (HB2.out.trans (hb.mono HC2.out.bx.lt)); have hj2 := majority_any w3 av al V L cv cl a2 (Y ++ [(k : Int) + 1]) c2 HC3.out.cf (HJ.out.grow hb); rw [HMY.out, show (Y ++ [(k : Int) + 1]).length = Y.length + 1 from by simp] at hj2; have HJ2 := hidOf hj2; clear hj2 hb c0 c1 lt0 HJ1; have c0 := HC3.out.bx.c0; have c1 := HC3.out.bx.c1; have lt0 := HC3.out.bx.lt)
                  | (go_at_call 13; refine HJ2.out.mono ?_; rintro e wm ⟨rfl, hb⟩; have HBm := hidOf (HB3.out.trans (hb.mono HC3.out.bx.lt)); clear hb c0 c1 lt0; have hMm := HM0.out.grow (by rw [World.size_alloc]; exact HBm.out); obtain ⟨b, off, e1, hbl, hc⟩ := hMm.at hkl; have d0 := hc k hkl; rw [← HX0.out] at d0; clear hMm hc; subst e1))
                go_roundw
                case rel => exact ⟨k + 1, by go_num, by omega, HBm⟩
                case measure => simp [intOf]; omega
            · have h1z : ¬ (k : Int) + 1 ≤ (M.length : Int) := by omega
              go_wp2_with (first
                | (go_at_call 13; refine HJ1.out.mono ?_; rintro e w3 ⟨rfl, hb⟩; have HC3 := hidOf (HC2.out.grow hb); have HB3 := hidOf (HB2.out.trans (hb.mono HC2.out.bx.lt)); have hj2 := majority_any w3 av al V L cv cl a2 (Y ++ [(k : Int) + 1]) c2 HC3.out.cf (HJ.out.grow hb); rw [HMY.out, show (Y ++ [(k : Int) + 1]).length = Y.length + 1 from by simp] at hj2; have HJ2 := hidOf hj2; clear hj2 hb c0 c1 lt0 HJ1; have c0 := HC3.out.bx.c0; have c1 := HC3.out.bx.c1; have lt0 := HC3.out.bx.lt)
                | (go_at_call 13; refine HJ2.out.mono ?_; rintro e wm ⟨rfl, hb⟩; have HBm := hidOf (HB3.out.trans (hb.mono HC3.out.bx.lt)); clear hb c0 c1 lt0))
              go_roundw
              case rel => exact ⟨k + 1, by go_num, by omega, HBm⟩
              case measure => simp [intOf]; omega
    · obtain rfl : k = 5 := by omega
      have hltz : ¬ ((5 : Nat) : Int) + 1 ≤ 5 := by omega
      have HC := hidOf (H0.out.at_ HB.out)
      go_wp2_with (go_at_call 7; refine (lives_any _).mono ?_; rintro e wl ⟨rfl, hb⟩; have HBL := hidOf hb; clear hb)
      go_ret
      exact ⟨rfl, below_then HC.out.bel HBL.out⟩
end Go.Proofs.Yteaohmlbioooaab
