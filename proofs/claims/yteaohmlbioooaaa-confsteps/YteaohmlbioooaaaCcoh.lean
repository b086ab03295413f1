/- Promote and Remove, of the code. -/
import Derived.Test.YteaohmlbioooaaaCcog
namespace Go.Proofs.Yteaohmlbioooaaa
open Go.RowKit

def proB (V L : List Int) (s : Int) : Bool := mayB V L && L.contains s
def remB (V L : List Int) (s : Int) : Bool := mayB V L && if V.contains s then !(((V.length : Nat) : Int) == 1) else L.contains s
set_option maxHeartbeats 2000000 in
theorem promote_no (w : World) (av al : Option Addr) (V L : List Int) (cv cl : Nat) (s : Int) (h : Cf w av al V L) (hn : proB V L s = false) : Calls Try.prog 27 #[.agg #[.slice av V.length cv, .slice al L.length cl], .int .i64 s] w fun e w' => e = .returned (.tuple #[.agg #[.slice none 0 0, .slice none 0 0], .int .i64 22]) ∧ Below w.heap.size w w' := by
  have H0 := hidOf (Ch.begin cv cl h)
  have hm := may_any _ av al V L cv cl H0.out.cs.cf
  clear h
  unfold proB at hn
  cases e1 : mayB V L with
  | false =>
    rw [e1] at hm
    have HM := hidOf hm
    clear hm e1 hn
    go_enter Try.func27, Try.ntmps27
    go_wp2_with (first
      | (go_at_call 12; refine HM.out.mono ?_; rintro e w1 ⟨rfl, hb⟩; have H1 := hidOf (H0.out.grow hb); clear hb HM; have l2 : w.heap.size + 1 < w1.heap.size := H1.out.rs.lt; have f2 : ∀ j, w1.frozen? ⟨w.heap.size + 1, j, none⟩ = false := H1.out.rs.fr; have r0 : w1.cell? ⟨w.heap.size + 1, 0, none⟩ = _ := H1.out.rs.c0; have r1 : w1.cell? ⟨w.heap.size + 1, 1, none⟩ = _ := H1.out.rs.c1))
    exact bodyPost_ret (results_bx Try.results27 _ _ (w.heap.size + 1) (.slice none 0 0) (.slice none 0 0) (.int .i64 22) rfl rfl (H1.out.rs.set _ _)) rfl ⟨rfl, H1.out.set _ _⟩
  | true =>
    rw [e1] at hm hn
    have HM := hidOf hm
    have HE := hidOf ((Bool.true_and _).symm.trans hn)
    clear hm e1 hn
    go_enter Try.func27, Try.ntmps27
    go_wp2_with (first
      | (go_at_call 12; refine HM.out.mono ?_; rintro e w1 ⟨rfl, hb⟩; have H1 := hidOf (H0.out.grow hb); clear hb HM; have c0 := H1.out.cs.bx.c0; have c1 := H1.out.cs.bx.c1; have lt0 := H1.out.cs.bx.lt)
      | (go_at_call 36; have hv := learner_any w1 av al V L cv cl s H1.out.cs.cf.l; rw [HE.out] at hv; refine hv.mono ?_; clear hv; rintro e w2 ⟨rfl, hb⟩; have H2 := hidOf (H1.out.grow hb); clear hb c0 c1 lt0; have l2 : w.heap.size + 1 < w2.heap.size := H2.out.rs.lt; have f2 : ∀ j, w2.frozen? ⟨w.heap.size + 1, j, none⟩ = false := H2.out.rs.fr; have r0 : w2.cell? ⟨w.heap.size + 1, 0, none⟩ = _ := H2.out.rs.c0; have r1 : w2.cell? ⟨w.heap.size + 1, 1, none⟩ = _ := H2.out.rs.c1))
    exact bodyPost_ret (results_bx Try.results27 _ _ (w.heap.size + 1) (.slice none 0 0) (.slice none 0 0) (.int .i64 22) rfl rfl (H2.out.rs.set _ _)) rfl ⟨rfl, H2.out.set _ _⟩
set_option maxHeartbeats 2000000 in
theorem promote_yes (w : World) (av al : Option Addr) (V L : List Int) (cv cl : Nat) (s : Int) (h : Cf w av al V L) (hn : proB V L s = true) : Calls Try.prog 27 #[.agg #[.slice av V.length cv, .slice al L.length cl], .int .i64 s] w fun e w' => ∃ a1 k1 a2 k2, e = .returned (.tuple #[.agg #[.slice a1 (wth V s).length k1, .slice a2 (wto L s).length k2], .int .i64 0]) ∧ Row w' w.heap.size (.slice a1 (wth V s).length k1) (wth V s) ∧ Row w' w.heap.size (.slice a2 (wto L s).length k2) (wto L s) ∧ Below w.heap.size w w' := by
  have H0 := hidOf (Ch.begin cv cl h)
  have hm := may_any _ av al V L cv cl H0.out.cs.cf
  clear h
  unfold proB at hn
  obtain ⟨e1, e2⟩ := Bool.and_eq_true_iff.1 hn
  have HLN : Hid (V.length + 1 ≤ 17592186044416) := hidOf (by have := rise_len ((may_iff V L).1 e1).2.1; omega)
  rw [e1] at hm
  have HM := hidOf hm
  have HE := hidOf e2
  clear hm e1 e2 hn
  go_enter Try.func27, Try.ntmps27
  go_wp2_with (first
    | (go_at_call 12; refine HM.out.mono ?_; rintro e w1 ⟨rfl, hb⟩; have H1 := hidOf (H0.out.grow hb); clear hb HM; have c0 := H1.out.cs.bx.c0; have c1 := H1.out.cs.bx.c1; have lt0 := H1.out.cs.bx.lt)
    | (go_at_call 36; have hv := learner_any w1 av al V L cv cl s H1.out.cs.cf.l; rw [HE.out] at hv; refine hv.mono ?_; clear hv; rintro e w2 ⟨rfl, hb⟩; have H2 := hidOf (H1.out.grow hb); clear hb c0 c1 lt0; have HX := hidOf H2.out.drew; have c0 := H2.out.cs.bx.c0; have c1 := H2.out.cs.bx.c1; have lt0 : w.heap.size < w2.heap.size := HX.out.cs.bx.lt))
  refine wp_region_held_drew (S := fun wz => wz.cell? ⟨w.heap.size, 0, none⟩ = some (.slice av V.length cv) ∧ wz.cell? ⟨w.heap.size, 1, none⟩ = some (.slice al L.length cl)) (by kernel_rfl) ⟨c0, c1⟩ (fun hHeld => ?_)
  refine wpAnyH_take (i := 0) (oi := { dst := some 16, op := Op.fieldAddr 24 (Operand.tmp 2) 0, type := 0, pos := "conf.go:89", after := #[], guard := none }) (v := .pointer (some ⟨w.heap.size, 0, none⟩)) rfl (by kernel_rfl) (by kernel_rfl) (by kernel_rfl) (fun _ _ _ h => h) (Or.inl ⟨by rfl, ?_⟩) hHeld ?_
  · (intro w hSw; (try dsimp only at hSw); go_simp)
  try simp only [Act.put, List.setIfInBounds_toArray, List.set_cons_zero, List.set_cons_succ]
  refine wpAnyH_take (i := 1) (oi := { dst := some 17, op := Op.load 22 (Operand.tmp 16), type := 22, pos := "conf.go:89", after := #[{ on := 0, ground := Ground.data }], guard := none }) (v := .slice av V.length cv) rfl (by kernel_rfl) (by kernel_rfl) (by kernel_rfl) (fun _ _ _ h => h) (Or.inl ⟨by rfl, ?_⟩) hHeld ?_
  · (intro w hSw; (try dsimp only at hSw); go_simp)
  try simp only [Act.put, List.setIfInBounds_toArray, List.set_cons_zero, List.set_cons_succ]
  refine wpAnyH_take (i := 2) (oi := { dst := some 18, op := Op.move (Operand.tmp 1), type := 3, pos := "conf.go:89", after := #[], guard := none }) (v := .int .i64 s) rfl (by kernel_rfl) (by kernel_rfl) (by kernel_rfl) (fun _ _ _ h => h) (Or.inl ⟨by rfl, ?_⟩) hHeld ?_
  · (intro w hSw; (try dsimp only at hSw); go_simp)
  try simp only [Act.put, List.setIfInBounds_toArray, List.set_cons_zero, List.set_cons_succ]
  refine wpAnyH_take (i := 4) (oi := { dst := some 20, op := Op.fieldAddr 24 (Operand.tmp 2) 1, type := 0, pos := "conf.go:89", after := #[], guard := none }) (v := .pointer (some ⟨w.heap.size, 1, none⟩)) rfl (by kernel_rfl) (by kernel_rfl) (by kernel_rfl) (fun _ _ _ h => h) (Or.inl ⟨by rfl, ?_⟩) hHeld ?_
  · (intro w hSw; (try dsimp only at hSw); go_simp)
  try simp only [Act.put, List.setIfInBounds_toArray, List.set_cons_zero, List.set_cons_succ]
  refine wpAnyH_take (i := 5) (oi := { dst := some 21, op := Op.load 22 (Operand.tmp 20), type := 22, pos := "conf.go:89", after := #[{ on := 4, ground := Ground.data }], guard := none }) (v := .slice al L.length cl) rfl (by kernel_rfl) (by kernel_rfl) (by kernel_rfl) (fun _ _ _ h => h) (Or.inl ⟨by rfl, ?_⟩) hHeld ?_
  · (intro w hSw; (try dsimp only at hSw); go_simp)
  try simp only [Act.put, List.setIfInBounds_toArray, List.set_cons_zero, List.set_cons_succ]
  refine wpAnyH_take (i := 6) (oi := { dst := some 22, op := Op.move (Operand.tmp 1), type := 3, pos := "conf.go:89", after := #[], guard := none }) (v := .int .i64 s) rfl (by kernel_rfl) (by kernel_rfl) (by kernel_rfl) (fun _ _ _ h => h) (Or.inl ⟨by rfl, ?_⟩) hHeld ?_
  · (intro w hSw; (try dsimp only at hSw); go_simp)
  try simp only [Act.put, List.setIfInBounds_toArray, List.set_cons_zero, List.set_cons_succ]
  refine wpAnyH_ready (rs := [3]) (by kernel_rfl) (by simp) ?_
  refine AllReadyH.cons (o := { dst := some 19, op := Op.call { callee := Callee.value (Operand.func 44), args := #[Operand.tmp 17, Operand.tmp 18], argTypes := #[22, 3] }, type := 22, pos := "conf.go:89", after := #[{ on := 1, ground := Ground.data }, { on := 2, ground := Ground.data }], guard := none }) rfl (fun K hK => ?_) AllReadyH.nil
  go_simp
  refine (with_any _ av V cv s HX.out.cs.cf.v HLN.out).mono ?_
  rintro e w4 ⟨v1, rfl, hr1, hb⟩
  obtain ⟨a1, k1, rfl, _, _, _, _⟩ := hr1.slice
  have H4 := hidOf (HX.out.grow hb)
  have HR1 := hidOf hr1
  clear hb hr1
  refine hK.out _ _ ⟨H4.out.cs.bx.c0, H4.out.cs.bx.c1⟩ (fun hHeld1 => ?_)
  clear hK K
  try simp only [Act.put, List.setIfInBounds_toArray, List.set_cons_zero, List.set_cons_succ]
  refine wpAnyH_ready (rs := [7]) (by kernel_rfl) (by simp) ?_
  refine AllReadyH.cons (o := { dst := some 23, op := Op.call { callee := Callee.value (Operand.func 46), args := #[Operand.tmp 21, Operand.tmp 22], argTypes := #[22, 3] }, type := 22, pos := "conf.go:89", after := #[{ on := 5, ground := Ground.data }, { on := 6, ground := Ground.data }, { on := 3, ground := Ground.chain }], guard := none }) rfl (fun K hK => ?_) AllReadyH.nil
  go_simp
  refine (without_any _ al L cl s H4.out.cs.cf.l).mono ?_
  rintro e w5 ⟨v2, rfl, hr2, hb⟩
  obtain ⟨a2, k2, rfl, _, _, _, _⟩ := hr2.slice
  have H5 := hidOf (H4.out.grow hb)
  have HR5 := hidOf (HR1.out.grow hb)
  have HR2 := hidOf hr2
  clear hb hr2
  have q0 : w5.cell? ⟨w.heap.size + 1, 0, none⟩ = _ := H5.out.rs.c0
  have q1 : w5.cell? ⟨w.heap.size + 1, 1, none⟩ = _ := H5.out.rs.c1
  have q2 : ∀ j, w5.frozen? ⟨w.heap.size + 1, j, none⟩ = false := H5.out.rs.fr
  have q3 : w.heap.size + 1 < w5.heap.size := H5.out.rs.lt
  refine hK.out _ _ ⟨H5.out.cs.bx.c0, H5.out.cs.bx.c1⟩ (fun hHeld2 => ?_)
  clear hK K
  try simp only [Act.put, List.setIfInBounds_toArray, List.set_cons_zero, List.set_cons_succ]
  refine wpAnyH_take (i := 8) (oi := { dst := some 24, op := Op.build 24 #[(0, Operand.tmp 19), (1, Operand.tmp 23)], type := 24, pos := "conf.go:89", after := #[{ on := 3, ground := Ground.data }, { on := 7, ground := Ground.data }], guard := none }) (v := .agg #[.slice a1 (wth V s).length k1, .slice a2 (wto L s).length k2]) rfl (by kernel_rfl) (by kernel_rfl) (by kernel_rfl) (fun _ _ _ h => h) (Or.inl ⟨by rfl, ?_⟩) hHeld2 ?_
  · (intro w hSw; (try dsimp only at hSw); go_simp)
  try simp only [Act.put, List.setIfInBounds_toArray, List.set_cons_zero, List.set_cons_succ]
  refine wpAnyH_ready (rs := [9]) (by kernel_rfl) (by simp) ?_
  refine AllReadyH.cons (o := { dst := none, op := Op.store 24 (Operand.tmp 4) (Operand.tmp 24), type := 0, pos := "conf.go:89", after := #[{ on := 8, ground := Ground.data }, { on := 7, ground := Ground.chain }, { on := 0, ground := Ground.phase }, { on := 1, ground := Ground.phase }, { on := 2, ground := Ground.phase }, { on := 3, ground := Ground.phase }, { on := 4, ground := Ground.phase }, { on := 5, ground := Ground.phase }, { on := 6, ground := Ground.phase }, { on := 7, ground := Ground.phase }, { on := 8, ground := Ground.phase }], guard := none }) rfl (fun K hK => ?_) AllReadyH.nil
  go_simp
  refine hK.out _ _ (H5.out.kept (.slice a1 (wth V s).length k1) (.slice a2 (wto L s).length k2)) (fun hHeld3 => ?_)
  clear hK K
  try simp only [Act.put, List.setIfInBounds_toArray, List.set_cons_zero, List.set_cons_succ]
  refine wpAnyH_take (i := 10) (oi := { dst := some 5, op := Op.assign (Operand.const (Value.int IntKind.i64 0)), type := 36, pos := "conf.go:89", after := #[{ on := 9, ground := Ground.chain }, { on := 0, ground := Ground.phase }, { on := 1, ground := Ground.phase }, { on := 2, ground := Ground.phase }, { on := 3, ground := Ground.phase }, { on := 4, ground := Ground.phase }, { on := 5, ground := Ground.phase }, { on := 6, ground := Ground.phase }, { on := 7, ground := Ground.phase }, { on := 8, ground := Ground.phase }, { on := 9, ground := Ground.phase }], guard := none }) (v := .int .i64 0) rfl (by kernel_rfl) (by kernel_rfl) (by kernel_rfl) (fun _ _ _ h => h) (Or.inl ⟨by rfl, ?_⟩) hHeld3 ?_
  · (intro w hSw; (try dsimp only at hSw); go_simp)
  try simp only [Act.put, List.setIfInBounds_toArray, List.set_cons_zero, List.set_cons_succ]
  refine wpAnyH_done (by kernel_rfl) ?_ _
  go_wp2
  exact bodyPost_ret (results_bx Try.results27 _ _ (w.heap.size + 1) _ _ (.int .i64 0) rfl rfl (H5.out.rs.set _ _)) rfl ⟨a1, k1, a2, k2, rfl, HR5.out.setRes HX.out.rs.lt _ _, HR2.out.setRes H4.out.rs.lt _ _, H5.out.set _ _⟩
set_option maxHeartbeats 2000000 in
theorem remove_no (w : World) (av al : Option Addr) (V L : List Int) (cv cl : Nat) (s : Int) (h : Cf w av al V L) (hn : remB V L s = false) : Calls Try.prog 29 #[.agg #[.slice av V.length cv, .slice al L.length cl], .int .i64 s] w fun e w' => e = .returned (.tuple #[.agg #[.slice none 0 0, .slice none 0 0], .int .i64 22]) ∧ Below w.heap.size w w' := by
  have H0 := hidOf (Ch.begin cv cl h)
  have hm := may_any _ av al V L cv cl H0.out.cs.cf
  clear h
  unfold remB at hn
  cases e1 : mayB V L with
  | false =>
    rw [e1] at hm
    have HM := hidOf hm
    clear hm e1 hn
    go_enter Try.func29, Try.ntmps29
    go_wp2_with (first
      | (go_at_call 12; refine HM.out.mono ?_; rintro e w1 ⟨rfl, hb⟩; have H1 := hidOf (H0.out.grow hb); clear hb HM; have l2 : w.heap.size + 1 < w1.heap.size := H1.out.rs.lt; have f2 : ∀ j, w1.frozen? ⟨w.heap.size + 1, j, none⟩ = false := H1.out.rs.fr; have r0 : w1.cell? ⟨w.heap.size + 1, 0, none⟩ = _ := H1.out.rs.c0; have r1 : w1.cell? ⟨w.heap.size + 1, 1, none⟩ = _ := H1.out.rs.c1))
    exact bodyPost_ret (results_bx Try.results29 _ _ (w.heap.size + 1) (.slice none 0 0) (.slice none 0 0) (.int .i64 22) rfl rfl (H1.out.rs.set _ _)) rfl ⟨rfl, H1.out.set _ _⟩
  | true =>
    rw [e1] at hm hn
    rw [Bool.true_and] at hn
    have HM := hidOf hm
    clear hm e1
    cases e2 : V.contains s with
    | false =>
      rw [e2] at hn
      have HE := hidOf e2
      have HE3 : Hid (L.contains s = false) := hidOf hn
      clear hn e2
      go_enter Try.func29, Try.ntmps29
      go_wp2_with (first
        | (go_at_call 12; refine HM.out.mono ?_; rintro e w1 ⟨rfl, hb⟩; have H1 := hidOf (H0.out.grow hb); clear hb HM; have c0 := H1.out.cs.bx.c0; have c1 := H1.out.cs.bx.c1; have lt0 := H1.out.cs.bx.lt)
        | (go_at_call 16; have hv := voter_any w1 av al V L cv cl s H1.out.cs.cf.v; rw [HE.out] at hv; refine hv.mono ?_; clear hv; rintro e w2 ⟨rfl, hb⟩; have H2 := hidOf (H1.out.grow hb); clear hb c0 c1 lt0; have c0 := H2.out.cs.bx.c0; have c1 := H2.out.cs.bx.c1; have lt0 := H2.out.cs.bx.lt)
        | (go_at_call 36; have hv := learner_any w2 av al V L cv cl s H2.out.cs.cf.l; rw [HE3.out] at hv; refine hv.mono ?_; clear hv; rintro e w3 ⟨rfl, hb⟩; have H3 := hidOf (H2.out.grow hb); clear hb c0 c1 lt0; have l2 : w.heap.size + 1 < w3.heap.size := H3.out.rs.lt; have f2 : ∀ j, w3.frozen? ⟨w.heap.size + 1, j, none⟩ = false := H3.out.rs.fr; have r0 : w3.cell? ⟨w.heap.size + 1, 0, none⟩ = _ := H3.out.rs.c0; have r1 : w3.cell? ⟨w.heap.size + 1, 1, none⟩ = _ := H3.out.rs.c1))
      exact bodyPost_ret (results_bx Try.results29 _ _ (w.heap.size + 1) (.slice none 0 0) (.slice none 0 0) (.int .i64 22) rfl rfl (H3.out.rs.set _ _)) rfl ⟨rfl, H3.out.set _ _⟩
    | true =>
      rw [e2] at hn
      have HE := hidOf e2
      have hone : (((V.length : Nat) : Int) == 1) = true := by simpa using hn
      clear hn e2
      go_enter Try.func29, Try.ntmps29
      go_wp2_with (first
        | (go_at_call 12; refine HM.out.mono ?_; rintro e w1 ⟨rfl, hb⟩; have H1 := hidOf (H0.out.grow hb); clear hb HM; have c0 := H1.out.cs.bx.c0; have c1 := H1.out.cs.bx.c1; have lt0 := H1.out.cs.bx.lt)
        | (go_at_call 16; have hv := voter_any w1 av al V L cv cl s H1.out.cs.cf.v; rw [HE.out] at hv; refine hv.mono ?_; clear hv; rintro e w2 ⟨rfl, hb⟩; have H2 := hidOf (H1.out.grow hb); clear hb c0 c1 lt0; have c0 := H2.out.cs.bx.c0; have c1 := H2.out.cs.bx.c1; have lt0 := H2.out.cs.bx.lt)
        | (go_at_call 16; have hv := voter_any w2 av al V L cv cl s H2.out.cs.cf.v; rw [HE.out] at hv; refine hv.mono ?_; clear hv; rintro e w3 ⟨rfl, hb⟩; have H3 := hidOf (H2.out.grow hb); clear hb c0 c1 lt0; have l2 : w.heap.size + 1 < w3.heap.size := H3.out.rs.lt; have f2 : ∀ j, w3.frozen? ⟨w.heap.size + 1, j, none⟩ = false := H3.out.rs.fr; have r0 : w3.cell? ⟨w.heap.size + 1, 0, none⟩ = _ := H3.out.rs.c0; have r1 : w3.cell? ⟨w.heap.size + 1, 1, none⟩ = _ := H3.out.rs.c1; have c0 := H3.out.cs.bx.c0; have lt0 := H3.out.cs.bx.lt))
      exact bodyPost_ret (results_bx Try.results29 _ _ (w.heap.size + 1) (.slice none 0 0) (.slice none 0 0) (.int .i64 22) rfl rfl (H3.out.rs.set _ _)) rfl ⟨rfl, H3.out.set _ _⟩
set_option maxHeartbeats 2000000 in
theorem remove_yes (w : World) (av al : Option Addr) (V L : List Int) (cv cl : Nat) (s : Int) (h : Cf w av al V L) (hn : remB V L s = true) : Calls Try.prog 29 #[.agg #[.slice av V.length cv, .slice al L.length cl], .int .i64 s] w fun e w' => ∃ a1 k1 a2 k2, e = .returned (.tuple #[.agg #[.slice a1 (wto V s).length k1, .slice a2 (wto L s).length k2], .int .i64 0]) ∧ Row w' w.heap.size (.slice a1 (wto V s).length k1) (wto V s) ∧ Row w' w.heap.size (.slice a2 (wto L s).length k2) (wto L s) ∧ Below w.heap.size w w' := by
  have H0 := hidOf (Ch.begin cv cl h)
  have hm := may_any _ av al V L cv cl H0.out.cs.cf
  clear h
  unfold remB at hn
  obtain ⟨e1, hn⟩ := Bool.and_eq_true_iff.1 hn
  rw [e1] at hm
  have HM := hidOf hm
  clear hm e1
  cases e2 : V.contains s with
  | false =>
    rw [e2] at hn
    have HE := hidOf e2
    have HE3 : Hid (L.contains s = true) := hidOf hn
    clear hn e2
    go_enter Try.func29, Try.ntmps29
    go_wp2_with (first
      | (go_at_call 12; refine HM.out.mono ?_; rintro e w1 ⟨rfl, hb⟩; have H1 := hidOf (H0.out.grow hb); clear hb HM; have c0 := H1.out.cs.bx.c0; have c1 := H1.out.cs.bx.c1; have lt0 := H1.out.cs.bx.lt)
      | (go_at_call 16; have hv := voter_any w1 av al V L cv cl s H1.out.cs.cf.v; rw [HE.out] at hv; refine hv.mono ?_; clear hv; rintro e w2 ⟨rfl, hb⟩; have H2 := hidOf (H1.out.grow hb); clear hb c0 c1 lt0; have c0 := H2.out.cs.bx.c0; have c1 := H2.out.cs.bx.c1; have lt0 := H2.out.cs.bx.lt)
      | (go_at_call 36; have hv := learner_any w2 av al V L cv cl s H2.out.cs.cf.l; rw [HE3.out] at hv; refine hv.mono ?_; clear hv; rintro e w3 ⟨rfl, hb⟩; have H3 := hidOf (H2.out.grow hb); clear hb c0 c1 lt0; have c0 := H3.out.cs.bx.c0; have c1 := H3.out.cs.bx.c1; have lt0 := H3.out.cs.bx.lt)
      | (go_at_call 16; have hv := voter_any w3 av al V L cv cl s H3.out.cs.cf.v; rw [HE.out] at hv; refine hv.mono ?_; clear hv; rintro e wv ⟨rfl, hb⟩; have HV := hidOf (H3.out.grow hb); clear hb c0 c1 lt0; have HX := hidOf HV.out.drew; have c0 := HV.out.cs.bx.c0; have c1 := HV.out.cs.bx.c1; have lt0 : w.heap.size < wv.heap.size := HX.out.cs.bx.lt))
    refine wp_region_held_drew (S := fun wz => wz.cell? ⟨w.heap.size, 0, none⟩ = some (.slice av V.length cv) ∧ wz.cell? ⟨w.heap.size, 1, none⟩ = some (.slice al L.length cl)) (by kernel_rfl) ⟨c0, c1⟩ (fun hHeld => ?_)
    refine wpAnyH_take (i := 0) (oi := { dst := some 32, op := Op.fieldAddr 24 (Operand.tmp 2) 0, type := 0, pos := "conf.go:100", after := #[], guard := none }) (v := .pointer (some ⟨w.heap.size, 0, none⟩)) rfl (by kernel_rfl) (by kernel_rfl) (by kernel_rfl) (fun _ _ _ h => h) (Or.inl ⟨by rfl, ?_⟩) hHeld ?_
    · (intro w hSw; (try dsimp only at hSw); go_simp)
    try simp only [Act.put, List.setIfInBounds_toArray, List.set_cons_zero, List.set_cons_succ]
    refine wpAnyH_take (i := 1) (oi := { dst := some 33, op := Op.load 22 (Operand.tmp 32), type := 22, pos := "conf.go:100", after := #[{ on := 0, ground := Ground.data }], guard := none }) (v := .slice av V.length cv) rfl (by kernel_rfl) (by kernel_rfl) (by kernel_rfl) (fun _ _ _ h => h) (Or.inl ⟨by rfl, ?_⟩) hHeld ?_
    · (intro w hSw; (try dsimp only at hSw); go_simp)
    try simp only [Act.put, List.setIfInBounds_toArray, List.set_cons_zero, List.set_cons_succ]
    refine wpAnyH_take (i := 2) (oi := { dst := some 34, op := Op.move (Operand.tmp 1), type := 3, pos := "conf.go:100", after := #[], guard := none }) (v := .int .i64 s) rfl (by kernel_rfl) (by kernel_rfl) (by kernel_rfl) (fun _ _ _ h => h) (Or.inl ⟨by rfl, ?_⟩) hHeld ?_
    · (intro w hSw; (try dsimp only at hSw); go_simp)
    try simp only [Act.put, List.setIfInBounds_toArray, List.set_cons_zero, List.set_cons_succ]
    refine wpAnyH_take (i := 4) (oi := { dst := some 36, op := Op.fieldAddr 24 (Operand.tmp 2) 1, type := 0, pos := "conf.go:100", after := #[], guard := none }) (v := .pointer (some ⟨w.heap.size, 1, none⟩)) rfl (by kernel_rfl) (by kernel_rfl) (by kernel_rfl) (fun _ _ _ h => h) (Or.inl ⟨by rfl, ?_⟩) hHeld ?_
    · (intro w hSw; (try dsimp only at hSw); go_simp)
    try simp only [Act.put, List.setIfInBounds_toArray, List.set_cons_zero, List.set_cons_succ]
    refine wpAnyH_take (i := 5) (oi := { dst := some 37, op := Op.load 22 (Operand.tmp 36), type := 22, pos := "conf.go:100", after := #[{ on := 4, ground := Ground.data }], guard := none }) (v := .slice al L.length cl) rfl (by kernel_rfl) (by kernel_rfl) (by kernel_rfl) (fun _ _ _ h => h) (Or.inl ⟨by rfl, ?_⟩) hHeld ?_
    · (intro w hSw; (try dsimp only at hSw); go_simp)
    try simp only [Act.put, List.setIfInBounds_toArray, List.set_cons_zero, List.set_cons_succ]
    refine wpAnyH_take (i := 6) (oi := { dst := some 38, op := Op.move (Operand.tmp 1), type := 3, pos := "conf.go:100", after := #[], guard := none }) (v := .int .i64 s) rfl (by kernel_rfl) (by kernel_rfl) (by kernel_rfl) (fun _ _ _ h => h) (Or.inl ⟨by rfl, ?_⟩) hHeld ?_
    · (intro w hSw; (try dsimp only at hSw); go_simp)
    try simp only [Act.put, List.setIfInBounds_toArray, List.set_cons_zero, List.set_cons_succ]
    refine wpAnyH_ready (rs := [3]) (by kernel_rfl) (by simp) ?_
    refine AllReadyH.cons (o := { dst := some 35, op := Op.call { callee := Callee.value (Operand.func 46), args := #[Operand.tmp 33, Operand.tmp 34], argTypes := #[22, 3] }, type := 22, pos := "conf.go:100", after := #[{ on := 1, ground := Ground.data }, { on := 2, ground := Ground.data }], guard := none }) rfl (fun K hK => ?_) AllReadyH.nil
    go_simp
    refine (without_any _ av V cv s HX.out.cs.cf.v).mono ?_
    rintro e w4 ⟨v1, rfl, hr1, hb⟩
    obtain ⟨a1, k1, rfl, _, _, _, _⟩ := hr1.slice
    have H4 := hidOf (HX.out.grow hb)
    have HR1 := hidOf hr1
    clear hb hr1
    refine hK.out _ _ ⟨H4.out.cs.bx.c0, H4.out.cs.bx.c1⟩ (fun hHeld1 => ?_)
    clear hK K
    try simp only [Act.put, List.setIfInBounds_toArray, List.set_cons_zero, List.set_cons_succ]
    refine wpAnyH_ready (rs := [7]) (by kernel_rfl) (by simp) ?_
    refine AllReadyH.cons (o := { dst := some 39, op := Op.call { callee := Callee.value (Operand.func 46), args := #[Operand.tmp 37, Operand.tmp 38], argTypes := #[22, 3] }, type := 22, pos := "conf.go:100", after := #[{ on := 5, ground := Ground.data }, { on := 6, ground := Ground.data }, { on := 3, ground := Ground.chain }], guard := none }) rfl (fun K hK => ?_) AllReadyH.nil
    go_simp
    refine (without_any _ al L cl s H4.out.cs.cf.l).mono ?_
    rintro e w5 ⟨v2, rfl, hr2, hb⟩
    obtain ⟨a2, k2, rfl, _, _, _, _⟩ := hr2.slice
    have H5 := hidOf (H4.out.grow hb)
    have HR5 := hidOf (HR1.out.grow hb)
    have HR2 := hidOf hr2
    clear hb hr2
    have q0 : w5.cell? ⟨w.heap.size + 1, 0, none⟩ = _ := H5.out.rs.c0
    have q1 : w5.cell? ⟨w.heap.size + 1, 1, none⟩ = _ := H5.out.rs.c1
    have q2 : ∀ j, w5.frozen? ⟨w.heap.size + 1, j, none⟩ = false := H5.out.rs.fr
    have q3 : w.heap.size + 1 < w5.heap.size := H5.out.rs.lt
    refine hK.out _ _ ⟨H5.out.cs.bx.c0, H5.out.cs.bx.c1⟩ (fun hHeld2 => ?_)
    clear hK K
    try simp only [Act.put, List.setIfInBounds_toArray, List.set_cons_zero, List.set_cons_succ]
    refine wpAnyH_take (i := 8) (oi := { dst := some 40, op := Op.build 24 #[(0, Operand.tmp 35), (1, Operand.tmp 39)], type := 24, pos := "conf.go:100", after := #[{ on := 3, ground := Ground.data }, { on := 7, ground := Ground.data }], guard := none }) (v := .agg #[.slice a1 (wto V s).length k1, .slice a2 (wto L s).length k2]) rfl (by kernel_rfl) (by kernel_rfl) (by kernel_rfl) (fun _ _ _ h => h) (Or.inl ⟨by rfl, ?_⟩) hHeld2 ?_
    · (intro w hSw; (try dsimp only at hSw); go_simp)
    try simp only [Act.put, List.setIfInBounds_toArray, List.set_cons_zero, List.set_cons_succ]
    refine wpAnyH_ready (rs := [9]) (by kernel_rfl) (by simp) ?_
    refine AllReadyH.cons (o := { dst := none, op := Op.store 24 (Operand.tmp 4) (Operand.tmp 40), type := 0, pos := "conf.go:100", after := #[{ on := 8, ground := Ground.data }, { on := 7, ground := Ground.chain }, { on := 0, ground := Ground.phase }, { on := 1, ground := Ground.phase }, { on := 2, ground := Ground.phase }, { on := 3, ground := Ground.phase }, { on := 4, ground := Ground.phase }, { on := 5, ground := Ground.phase }, { on := 6, ground := Ground.phase }, { on := 7, ground := Ground.phase }, { on := 8, ground := Ground.phase }], guard := none }) rfl (fun K hK => ?_) AllReadyH.nil
    go_simp
    refine hK.out _ _ (H5.out.kept (.slice a1 (wto V s).length k1) (.slice a2 (wto L s).length k2)) (fun hHeld3 => ?_)
    clear hK K
    try simp only [Act.put, List.setIfInBounds_toArray, List.set_cons_zero, List.set_cons_succ]
    refine wpAnyH_take (i := 10) (oi := { dst := some 5, op := Op.assign (Operand.const (Value.int IntKind.i64 0)), type := 36, pos := "conf.go:100", after := #[{ on := 9, ground := Ground.chain }, { on := 0, ground := Ground.phase }, { on := 1, ground := Ground.phase }, { on := 2, ground := Ground.phase }, { on := 3, ground := Ground.phase }, { on := 4, ground := Ground.phase }, { on := 5, ground := Ground.phase }, { on := 6, ground := Ground.phase }, { on := 7, ground := Ground.phase }, { on := 8, ground := Ground.phase }, { on := 9, ground := Ground.phase }], guard := none }) (v := .int .i64 0) rfl (by kernel_rfl) (by kernel_rfl) (by kernel_rfl) (fun _ _ _ h => h) (Or.inl ⟨by rfl, ?_⟩) hHeld3 ?_
    · (intro w hSw; (try dsimp only at hSw); go_simp)
    try simp only [Act.put, List.setIfInBounds_toArray, List.set_cons_zero, List.set_cons_succ]
    refine wpAnyH_done (by kernel_rfl) ?_ _
    go_wp2
    exact bodyPost_ret (results_bx Try.results29 _ _ (w.heap.size + 1) _ _ (.int .i64 0) rfl rfl (H5.out.rs.set _ _)) rfl ⟨a1, k1, a2, k2, rfl, HR5.out.setRes HX.out.rs.lt _ _, HR2.out.setRes H4.out.rs.lt _ _, H5.out.set _ _⟩
  | true =>
    rw [e2] at hn
    have HE := hidOf e2
    have hone : (((V.length : Nat) : Int) == 1) = false := by simpa using hn
    clear hn e2
    go_enter Try.func29, Try.ntmps29
    go_wp2_with (first
      | (go_at_call 12; refine HM.out.mono ?_; rintro e w1 ⟨rfl, hb⟩; have H1 := hidOf (H0.out.grow hb); clear hb HM; have c0 := H1.out.cs.bx.c0; have c1 := H1.out.cs.bx.c1; have lt0 := H1.out.cs.bx.lt)
      | (go_at_call 16; have hv := voter_any w1 av al V L cv cl s H1.out.cs.cf.v; rw [HE.out] at hv; refine hv.mono ?_; clear hv; rintro e w2 ⟨rfl, hb⟩; have H2 := hidOf (H1.out.grow hb); clear hb c0 c1 lt0; have c0 := H2.out.cs.bx.c0; have c1 := H2.out.cs.bx.c1; have lt0 := H2.out.cs.bx.lt)
      | (go_at_call 16; have hv := voter_any w2 av al V L cv cl s H2.out.cs.cf.v; rw [HE.out] at hv; refine hv.mono ?_; clear hv; rintro e w3 ⟨rfl, hb⟩; have H3 := hidOf (H2.out.grow hb); clear hb c0 c1 lt0; have HX := hidOf H3.out.drew; have c0 := H3.out.cs.bx.c0; have c1 := H3.out.cs.bx.c1; have lt0 : w.heap.size < w3.heap.size := HX.out.cs.bx.lt))
    refine wp_region_held_drew (S := fun wz => wz.cell? ⟨w.heap.size, 0, none⟩ = some (.slice av V.length cv) ∧ wz.cell? ⟨w.heap.size, 1, none⟩ = some (.slice al L.length cl)) (by kernel_rfl) ⟨c0, c1⟩ (fun hHeld => ?_)
    refine wpAnyH_take (i := 0) (oi := { dst := some 32, op := Op.fieldAddr 24 (Operand.tmp 2) 0, type := 0, pos := "conf.go:100", after := #[], guard := none }) (v := .pointer (some ⟨w.heap.size, 0, none⟩)) rfl (by kernel_rfl) (by kernel_rfl) (by kernel_rfl) (fun _ _ _ h => h) (Or.inl ⟨by rfl, ?_⟩) hHeld ?_
    · (intro w hSw; (try dsimp only at hSw); go_simp)
    try simp only [Act.put, List.setIfInBounds_toArray, List.set_cons_zero, List.set_cons_succ]
    refine wpAnyH_take (i := 1) (oi := { dst := some 33, op := Op.load 22 (Operand.tmp 32), type := 22, pos := "conf.go:100", after := #[{ on := 0, ground := Ground.data }], guard := none }) (v := .slice av V.length cv) rfl (by kernel_rfl) (by kernel_rfl) (by kernel_rfl) (fun _ _ _ h => h) (Or.inl ⟨by rfl, ?_⟩) hHeld ?_
    · (intro w hSw; (try dsimp only at hSw); go_simp)
    try simp only [Act.put, List.setIfInBounds_toArray, List.set_cons_zero, List.set_cons_succ]
    refine wpAnyH_take (i := 2) (oi := { dst := some 34, op := Op.move (Operand.tmp 1), type := 3, pos := "conf.go:100", after := #[], guard := none }) (v := .int .i64 s) rfl (by kernel_rfl) (by kernel_rfl) (by kernel_rfl) (fun _ _ _ h => h) (Or.inl ⟨by rfl, ?_⟩) hHeld ?_
    · (intro w hSw; (try dsimp only at hSw); go_simp)
    try simp only [Act.put, List.setIfInBounds_toArray, List.set_cons_zero, List.set_cons_succ]
    refine wpAnyH_take (i := 4) (oi := { dst := some 36, op := Op.fieldAddr 24 (Operand.tmp 2) 1, type := 0, pos := "conf.go:100", after := #[], guard := none }) (v := .pointer (some ⟨w.heap.size, 1, none⟩)) rfl (by kernel_rfl) (by kernel_rfl) (by kernel_rfl) (fun _ _ _ h => h) (Or.inl ⟨by rfl, ?_⟩) hHeld ?_
    · (intro w hSw; (try dsimp only at hSw); go_simp)
    try simp only [Act.put, List.setIfInBounds_toArray, List.set_cons_zero, List.set_cons_succ]
    refine wpAnyH_take (i := 5) (oi := { dst := some 37, op := Op.load 22 (Operand.tmp 36), type := 22, pos := "conf.go:100", after := #[{ on := 4, ground := Ground.data }], guard := none }) (v := .slice al L.length cl) rfl (by kernel_rfl) (by kernel_rfl) (by kernel_rfl) (fun _ _ _ h => h) (Or.inl ⟨by rfl, ?_⟩) hHeld ?_
    · (intro w hSw; (try dsimp only at hSw); go_simp)
    try simp only [Act.put, List.setIfInBounds_toArray, List.set_cons_zero, List.set_cons_succ]
    refine wpAnyH_take (i := 6) (oi := { dst := some 38, op := Op.move (Operand.tmp 1), type := 3, pos := "conf.go:100", after := #[], guard := none }) (v := .int .i64 s) rfl (by kernel_rfl) (by kernel_rfl) (by kernel_rfl) (fun _ _ _ h => h) (Or.inl ⟨by rfl, ?_⟩) hHeld ?_
    · (intro w hSw; (try dsimp only at hSw); go_simp)
    try simp only [Act.put, List.setIfInBounds_toArray, List.set_cons_zero, List.set_cons_succ]
    refine wpAnyH_ready (rs := [3]) (by kernel_rfl) (by simp) ?_
    refine AllReadyH.cons (o := { dst := some 35, op := Op.call { callee := Callee.value (Operand.func 46), args := #[Operand.tmp 33, Operand.tmp 34], argTypes := #[22, 3] }, type := 22, pos := "conf.go:100", after := #[{ on := 1, ground := Ground.data }, { on := 2, ground := Ground.data }], guard := none }) rfl (fun K hK => ?_) AllReadyH.nil
    go_simp
    refine (without_any _ av V cv s HX.out.cs.cf.v).mono ?_
    rintro e w4 ⟨v1, rfl, hr1, hb⟩
    obtain ⟨a1, k1, rfl, _, _, _, _⟩ := hr1.slice
    have H4 := hidOf (HX.out.grow hb)
    have HR1 := hidOf hr1
    clear hb hr1
    refine hK.out _ _ ⟨H4.out.cs.bx.c0, H4.out.cs.bx.c1⟩ (fun hHeld1 => ?_)
    clear hK K
    try simp only [Act.put, List.setIfInBounds_toArray, List.set_cons_zero, List.set_cons_succ]
    refine wpAnyH_ready (rs := [7]) (by kernel_rfl) (by simp) ?_
    refine AllReadyH.cons (o := { dst := some 39, op := Op.call { callee := Callee.value (Operand.func 46), args := #[Operand.tmp 37, Operand.tmp 38], argTypes := #[22, 3] }, type := 22, pos := "conf.go:100", after := #[{ on := 5, ground := Ground.data }, { on := 6, ground := Ground.data }, { on := 3, ground := Ground.chain }], guard := none }) rfl (fun K hK => ?_) AllReadyH.nil
    go_simp
    refine (without_any _ al L cl s H4.out.cs.cf.l).mono ?_
    rintro e w5 ⟨v2, rfl, hr2, hb⟩
    obtain ⟨a2, k2, rfl, _, _, _, _⟩ := hr2.slice
    have H5 := hidOf (H4.out.grow hb)
    have HR5 := hidOf (HR1.out.grow hb)
    have HR2 := hidOf hr2
    clear hb hr2
    have q0 : w5.cell? ⟨w.heap.size + 1, 0, none⟩ = _ := H5.out.rs.c0
    have q1 : w5.cell? ⟨w.heap.size + 1, 1, none⟩ = _ := H5.out.rs.c1
    have q2 : ∀ j, w5.frozen? ⟨w.heap.size + 1, j, none⟩ = false := H5.out.rs.fr
    have q3 : w.heap.size + 1 < w5.heap.size := H5.out.rs.lt
    refine hK.out _ _ ⟨H5.out.cs.bx.c0, H5.out.cs.bx.c1⟩ (fun hHeld2 => ?_)
    clear hK K
    try simp only [Act.put, List.setIfInBounds_toArray, List.set_cons_zero, List.set_cons_succ]
    refine wpAnyH_take (i := 8) (oi := { dst := some 40, op := Op.build 24 #[(0, Operand.tmp 35), (1, Operand.tmp 39)], type := 24, pos := "conf.go:100", after := #[{ on := 3, ground := Ground.data }, { on := 7, ground := Ground.data }], guard := none }) (v := .agg #[.slice a1 (wto V s).length k1, .slice a2 (wto L s).length k2]) rfl (by kernel_rfl) (by kernel_rfl) (by kernel_rfl) (fun _ _ _ h => h) (Or.inl ⟨by rfl, ?_⟩) hHeld2 ?_
    · (intro w hSw; (try dsimp only at hSw); go_simp)
    try simp only [Act.put, List.setIfInBounds_toArray, List.set_cons_zero, List.set_cons_succ]
    refine wpAnyH_ready (rs := [9]) (by kernel_rfl) (by simp) ?_
    refine AllReadyH.cons (o := { dst := none, op := Op.store 24 (Operand.tmp 4) (Operand.tmp 40), type := 0, pos := "conf.go:100", after := #[{ on := 8, ground := Ground.data }, { on := 7, ground := Ground.chain }, { on := 0, ground := Ground.phase }, { on := 1, ground := Ground.phase }, { on := 2, ground := Ground.phase }, { on := 3, ground := Ground.phase }, { on := 4, ground := Ground.phase }, { on := 5, ground := Ground.phase }, { on := 6, ground := Ground.phase }, { on := 7, ground := Ground.phase }, { on := 8, ground := Ground.phase }], guard := none }) rfl (fun K hK => ?_) AllReadyH.nil
    go_simp
    refine hK.out _ _ (H5.out.kept (.slice a1 (wto V s).length k1) (.slice a2 (wto L s).length k2)) (fun hHeld3 => ?_)
    clear hK K
    try simp only [Act.put, List.setIfInBounds_toArray, List.set_cons_zero, List.set_cons_succ]
    refine wpAnyH_take (i := 10) (oi := { dst := some 5, op := Op.assign (Operand.const (Value.int IntKind.i64 0)), type := 36, pos := "conf.go:100", after := #[{ on := 9, ground := Ground.chain }, { on := 0, ground := Ground.phase }, { on := 1, ground := Ground.phase }, { on := 2, ground := Ground.phase }, { on := 3, ground := Ground.phase }, { on := 4, ground := Ground.phase }, { on := 5, ground := Ground.phase }, { on := 6, ground := Ground.phase }, { on := 7, ground := Ground.phase }, { on := 8, ground := Ground.phase }, { on := 9, ground := Ground.phase }], guard := none }) (v := .int .i64 0) rfl (by kernel_rfl) (by kernel_rfl) (by kernel_rfl) (fun _ _ _ h => h) (Or.inl ⟨by rfl, ?_⟩) hHeld3 ?_
    · (intro w hSw; (try dsimp only at hSw); go_simp)
    try simp only [Act.put, List.setIfInBounds_toArray, List.set_cons_zero, List.set_cons_succ]
    refine wpAnyH_done (by kernel_rfl) ?_ _
    go_wp2
    exact bodyPost_ret (results_bx Try.results29 _ _ (w.heap.size + 1) _ _ (.int .i64 0) rfl rfl (H5.out.rs.set _ _)) rfl ⟨a1, k1, a2, k2, rfl, HR5.out.setRes HX.out.rs.lt _ _, HR2.out.setRes H4.out.rs.lt _ _, H5.out.set _ _⟩
end Go.Proofs.Yteaohmlbioooaaa
