/- Add, Promote, Remove, of the code. -/
import Derived.Test.YteaohmlbioooaaaCcof
namespace Go.Proofs.Yteaohmlbioooaaa
open Go.RowKit

/- the servers that came in stand in the first new block, what is answered in the second -/
structure Ch (w wk : World) (av al : Option Addr) (V L : List Int) (cv cl : Nat) : Prop where
  cs : Cs w wk w.heap.size av al V L cv cl
  rs : Bx wk (w.heap.size + 1) (.slice none 0 0) (.slice none 0 0)
theorem Ch.grow {w wk w' : World} {av al : Option Addr} {V L : List Int} {cv cl : Nat} (h : Ch w wk av al V L cv cl) (hb : Below wk.heap.size wk w') : Ch w w' av al V L cv cl := ⟨h.cs.grow hb, h.rs.grow hb⟩
theorem Ch.drew {w wk : World} {av al : Option Addr} {V L : List Int} {cv cl : Nat} (h : Ch w wk av al V L cv cl) : Ch w wk.drew av al V L cv cl := h.grow ⟨rfl, rfl, rfl, Nat.le_refl _, fun _ _ => rfl⟩
theorem Ch.begin {w : World} {av al : Option Addr} {V L : List Int} (cv cl : Nat) (h : Cf w av al V L) : Ch w ((w.alloc (.cells #[.slice av V.length cv, .slice al L.length cl] 24)).alloc (.cells #[.slice none 0 0, .slice none 0 0] 24)) av al V L cv cl := by
  refine ⟨(Cs.begin cv cl h).grow (below1 _ _), ?_⟩
  have := bx_new (w.alloc (.cells #[.slice av V.length cv, .slice al L.length cl] 24)) (.slice none 0 0) (.slice none 0 0)
  rw [World.size_alloc] at this
  exact this
theorem Ch.kept {w wk : World} {av al : Option Addr} {V L : List Int} {cv cl : Nat} (h : Ch w wk av al V L cv cl) (x y : Value) :
    ((wk.setCell ⟨w.heap.size + 1, 0, none⟩ x).setCell ⟨w.heap.size + 1, 1, none⟩ y).cell? ⟨w.heap.size, 0, none⟩ = some (.slice av V.length cv) ∧ ((wk.setCell ⟨w.heap.size + 1, 0, none⟩ x).setCell ⟨w.heap.size + 1, 1, none⟩ y).cell? ⟨w.heap.size, 1, none⟩ = some (.slice al L.length cl) := by
  have hb : Bx ((wk.setCell ⟨w.heap.size + 1, 0, none⟩ x).setCell ⟨w.heap.size + 1, 1, none⟩ y) w.heap.size (.slice av V.length cv) (.slice al L.length cl) := by
    show _ = _
    rw [Below.heap_setCell _ ⟨w.heap.size + 1, 1, none⟩ _ w.heap.size (by show w.heap.size ≠ w.heap.size + 1; omega), Below.heap_setCell _ ⟨w.heap.size + 1, 0, none⟩ _ w.heap.size (by show w.heap.size ≠ w.heap.size + 1; omega)]
    exact h.cs.bx
  exact ⟨hb.c0, hb.c1⟩
theorem Ch.set {w wk : World} {av al : Option Addr} {V L : List Int} {cv cl : Nat} (h : Ch w wk av al V L cv cl) (x y : Value) : Below w.heap.size w ((wk.setCell ⟨w.heap.size + 1, 0, none⟩ x).setCell ⟨w.heap.size + 1, 1, none⟩ y) :=
  (h.cs.bel.setCell (by show _ ≤ w.heap.size + 1; omega) _).setCell (by show _ ≤ w.heap.size + 1; omega) _
theorem Row.setRes {w wk : World} {D : Nat} {v : Value} {l : List Int} (h : Row wk D v l) (hD : w.heap.size + 1 < D) (x y : Value) : Row ((wk.setCell ⟨w.heap.size + 1, 0, none⟩ x).setCell ⟨w.heap.size + 1, 1, none⟩ y) w.heap.size v l := by
  refine ⟨⟨h.own.1, ?_⟩, h.len⟩
  rcases h.own.2 with h2 | ⟨g, cap, cur, rfl, h3, h4, h5⟩
  · exact .inl h2
  · refine .inr ⟨g, cap, cur, rfl, by omega, ?_, h5⟩
    rw [Below.heap_setCell _ ⟨w.heap.size + 1, 1, none⟩ _ g (by show g ≠ w.heap.size + 1; omega), Below.heap_setCell _ ⟨w.heap.size + 1, 0, none⟩ _ g (by show g ≠ w.heap.size + 1; omega)]
    exact h4
theorem results_bx {fn : Func} {p u : Tmp} (h : fn.results = #[.cell p 24, .tmp u]) (tmps : Array Value) (w : World) (b : Nat) (k t v : Value) (hp : tmps.getD p undef = .pointer (some ⟨b, 0, none⟩)) (hu : tmps.getD u undef = v) (h0 : Bx w b k t) :
    (results fn tmps).run Try.prog w = .ok (.tuple #[.agg #[k, t], v]) w := by
  rw [results_cell_tmp h, hp, hu]
  have e0 : (⟨b, 0, none⟩ : Addr).add 0 = ⟨b, 0, none⟩ := rfl
  have e1 : (⟨b, 0, none⟩ : Addr).add 1 = ⟨b, 1, none⟩ := rfl
  simp [go_sem, loadVar, Try.isAgg24, Try.sizeOf24, loadCellsFrom, h0.c0, h0.c1]
def nilC : Value := .agg #[.slice none 0 0, .slice none 0 0]

def addB (V L : List Int) (s : Int) : Bool := mayB V L && (decide (1 ≤ s) && (decide (s ≤ 5) && (!V.contains s && !L.contains s)))
set_option maxHeartbeats 2000000 in
theorem add_no (w : World) (av al : Option Addr) (V L : List Int) (cv cl : Nat) (s : Int) (h : Cf w av al V L) (hn : addB V L s = false) : Calls Try.prog 25 #[.agg #[.slice av V.length cv, .slice al L.length cl], .int .i64 s] w fun e w' => e = .returned (.tuple #[.agg #[.slice none 0 0, .slice none 0 0], .int .i64 22]) ∧ Below w.heap.size w w' := by
  have H0 := hidOf (Ch.begin cv cl h)
  have hm := may_any _ av al V L cv cl H0.out.cs.cf
  clear h
  unfold addB at hn
  cases e1 : mayB V L with
  | false =>
    rw [e1] at hm
    have HM := hidOf hm
    clear hm e1 hn
    go_enter Try.func25, Try.ntmps25
    go_wp2_with (go_at_call 12; refine HM.out.mono ?_; rintro e w1 ⟨rfl, hb⟩; have H1 := hidOf (H0.out.grow hb); clear hb HM; have l2 : w.heap.size + 1 < w1.heap.size := H1.out.rs.lt; have f2 : ∀ j, w1.frozen? ⟨w.heap.size + 1, j, none⟩ = false := H1.out.rs.fr; have r0 : w1.cell? ⟨w.heap.size + 1, 0, none⟩ = _ := H1.out.rs.c0; have r1 : w1.cell? ⟨w.heap.size + 1, 1, none⟩ = _ := H1.out.rs.c1)
    exact bodyPost_ret (results_bx Try.results25 _ _ (w.heap.size + 1) (.slice none 0 0) (.slice none 0 0) (.int .i64 22) rfl rfl (H1.out.rs.set _ _)) rfl ⟨rfl, H1.out.set _ _⟩
  | true =>
    rw [e1] at hm hn
    have HM := hidOf hm
    clear hm e1
    by_cases h1 : s < 1
    · clear hn
      go_enter Try.func25, Try.ntmps25
      go_wp2_with (go_at_call 12; refine HM.out.mono ?_; rintro e w1 ⟨rfl, hb⟩; have H1 := hidOf (H0.out.grow hb); clear hb HM; have l2 : w.heap.size + 1 < w1.heap.size := H1.out.rs.lt; have f2 : ∀ j, w1.frozen? ⟨w.heap.size + 1, j, none⟩ = false := H1.out.rs.fr; have r0 : w1.cell? ⟨w.heap.size + 1, 0, none⟩ = _ := H1.out.rs.c0; have r1 : w1.cell? ⟨w.heap.size + 1, 1, none⟩ = _ := H1.out.rs.c1)
      exact bodyPost_ret (results_bx Try.results25 _ _ (w.heap.size + 1) (.slice none 0 0) (.slice none 0 0) (.int .i64 22) rfl rfl (H1.out.rs.set _ _)) rfl ⟨rfl, H1.out.set _ _⟩
    · by_cases h5 : 5 < s
      · clear hn
        go_enter Try.func25, Try.ntmps25
        go_wp2_with (go_at_call 12; refine HM.out.mono ?_; rintro e w1 ⟨rfl, hb⟩; have H1 := hidOf (H0.out.grow hb); clear hb HM; have l2 : w.heap.size + 1 < w1.heap.size := H1.out.rs.lt; have f2 : ∀ j, w1.frozen? ⟨w.heap.size + 1, j, none⟩ = false := H1.out.rs.fr; have r0 : w1.cell? ⟨w.heap.size + 1, 0, none⟩ = _ := H1.out.rs.c0; have r1 : w1.cell? ⟨w.heap.size + 1, 1, none⟩ = _ := H1.out.rs.c1)
        exact bodyPost_ret (results_bx Try.results25 _ _ (w.heap.size + 1) (.slice none 0 0) (.slice none 0 0) (.int .i64 22) rfl rfl (H1.out.rs.set _ _)) rfl ⟨rfl, H1.out.set _ _⟩
      · rw [decide_eq_true (show 1 ≤ s by omega), decide_eq_true (show s ≤ 5 by omega)] at hn
        cases e2 : V.contains s with
        | true =>
          have HE2 := hidOf e2
          clear hn e2
          go_enter Try.func25, Try.ntmps25
          go_wp2_with (first
            | (go_at_call 12; refine HM.out.mono ?_; rintro e w1 ⟨rfl, hb⟩; have H1 := hidOf (H0.out.grow hb); clear hb HM; have c0 := H1.out.cs.bx.c0; have c1 := H1.out.cs.bx.c1; have lt0 := H1.out.cs.bx.lt; have hv := voter_any w1 av al V L cv cl s H1.out.cs.cf.v; rw [HE2.out] at hv; have HV := hidOf hv; clear hv)
            | (go_at_call 16; refine HV.out.mono ?_; rintro e w2 ⟨rfl, hb⟩; have H2 := hidOf (H1.out.grow hb); clear hb c0 c1 lt0; have l2 : w.heap.size + 1 < w2.heap.size := H2.out.rs.lt; have f2 : ∀ j, w2.frozen? ⟨w.heap.size + 1, j, none⟩ = false := H2.out.rs.fr; have r0 : w2.cell? ⟨w.heap.size + 1, 0, none⟩ = _ := H2.out.rs.c0; have r1 : w2.cell? ⟨w.heap.size + 1, 1, none⟩ = _ := H2.out.rs.c1))
          exact bodyPost_ret (results_bx Try.results25 _ _ (w.heap.size + 1) (.slice none 0 0) (.slice none 0 0) (.int .i64 22) rfl rfl (H2.out.rs.set _ _)) rfl ⟨rfl, H2.out.set _ _⟩
        | false =>
          have e3 : L.contains s = true := by rw [e2] at hn; simpa using hn
          have HE2 := hidOf e2
          have HE3 := hidOf e3
          clear hn e2 e3
          go_enter Try.func25, Try.ntmps25
          go_wp2_with (first
            | (go_at_call 12; refine HM.out.mono ?_; rintro e w1 ⟨rfl, hb⟩; have H1 := hidOf (H0.out.grow hb); clear hb HM; have c0 := H1.out.cs.bx.c0; have c1 := H1.out.cs.bx.c1; have lt0 := H1.out.cs.bx.lt; have hv := voter_any w1 av al V L cv cl s H1.out.cs.cf.v; rw [HE2.out] at hv; have HV := hidOf hv; clear hv)
            | (go_at_call 16; refine HV.out.mono ?_; rintro e w2 ⟨rfl, hb⟩; have H2 := hidOf (H1.out.grow hb); clear hb c0 c1 lt0; have c0 := H2.out.cs.bx.c0; have c1 := H2.out.cs.bx.c1; have lt0 := H2.out.cs.bx.lt; have hv := learner_any w2 av al V L cv cl s H2.out.cs.cf.l; rw [HE3.out] at hv; have HL := hidOf hv; clear hv)
            | (go_at_call 36; refine HL.out.mono ?_; rintro e w3 ⟨rfl, hb⟩; have H3 := hidOf (H2.out.grow hb); clear hb c0 c1 lt0; have l2 : w.heap.size + 1 < w3.heap.size := H3.out.rs.lt; have f2 : ∀ j, w3.frozen? ⟨w.heap.size + 1, j, none⟩ = false := H3.out.rs.fr; have r0 : w3.cell? ⟨w.heap.size + 1, 0, none⟩ = _ := H3.out.rs.c0; have r1 : w3.cell? ⟨w.heap.size + 1, 1, none⟩ = _ := H3.out.rs.c1))
          exact bodyPost_ret (results_bx Try.results25 _ _ (w.heap.size + 1) (.slice none 0 0) (.slice none 0 0) (.int .i64 22) rfl rfl (H3.out.rs.set _ _)) rfl ⟨rfl, H3.out.set _ _⟩
theorem rise_len {l : List Int} (h : Rise l) : l.length ≤ 5 := by
  have := count_five h (fun _ => true)
  rw [List.countP_true] at this
  rw [this]
  have ho : ∀ b : Bool, one b ≤ 1 := fun b => by cases b <;> simp [one]
  simp only [five, Bool.and_true]
  have := ho (l.contains 1); have := ho (l.contains 2); have := ho (l.contains 3); have := ho (l.contains 4); have := ho (l.contains 5)
  omega
set_option maxHeartbeats 2000000 in
theorem add_yes (w : World) (av al : Option Addr) (V L : List Int) (cv cl : Nat) (s : Int) (h : Cf w av al V L) (hn : addB V L s = true) : Calls Try.prog 25 #[.agg #[.slice av V.length cv, .slice al L.length cl], .int .i64 s] w fun e w' => ∃ a1 k1 a2 k2, e = .returned (.tuple #[.agg #[.slice a1 V.length k1, .slice a2 (wth L s).length k2], .int .i64 0]) ∧ Row w' w.heap.size (.slice a1 V.length k1) V ∧ Row w' w.heap.size (.slice a2 (wth L s).length k2) (wth L s) ∧ Below w.heap.size w w' := by
  have H0 := hidOf (Ch.begin cv cl h)
  have hm := may_any _ av al V L cv cl H0.out.cs.cf
  clear h
  unfold addB at hn
  simp only [Bool.and_eq_true, decide_eq_true_eq, Bool.not_eq_true'] at hn
  obtain ⟨e1, h1, h5, e2, e3⟩ := hn
  have HLN : Hid (L.length + 1 ≤ 17592186044416) := hidOf (by have := rise_len ((may_iff V L).1 e1).2.2.1; omega)
  rw [e1] at hm
  have HM := hidOf hm
  have HE2 := hidOf e2
  have HE3 := hidOf e3
  have h1' : ¬ s < 1 := by omega
  have h5' : ¬ 5 < s := by omega
  clear hm e1 e2 e3
  go_enter Try.func25, Try.ntmps25
  go_wp2_with (first
    | (go_at_call 12; refine HM.out.mono ?_; rintro e w1 ⟨rfl, hb⟩; have H1 := hidOf (H0.out.grow hb); clear hb HM; have c0 := H1.out.cs.bx.c0; have c1 := H1.out.cs.bx.c1; have lt0 := H1.out.cs.bx.lt; have hv := voter_any w1 av al V L cv cl s H1.out.cs.cf.v; rw [HE2.out] at hv; have HV := hidOf hv; clear hv)
    | (go_at_call 16; refine HV.out.mono ?_; rintro e w2 ⟨rfl, hb⟩; have H2 := hidOf (H1.out.grow hb); clear hb c0 c1 lt0; have c0 := H2.out.cs.bx.c0; have c1 := H2.out.cs.bx.c1; have lt0 := H2.out.cs.bx.lt; have hv := learner_any w2 av al V L cv cl s H2.out.cs.cf.l; rw [HE3.out] at hv; have HL := hidOf hv; clear hv)
    | (go_at_call 36; refine HL.out.mono ?_; rintro e w3 ⟨rfl, hb⟩; have HX := hidOf (H2.out.grow hb).drew; clear hb c0 c1 lt0; have c0 := HX.out.cs.bx.c0; have c1 := HX.out.cs.bx.c1; have lt0 : w.heap.size < w3.heap.size := HX.out.cs.bx.lt))
  refine wp_region_held_drew (S := fun wz => wz.cell? ⟨w.heap.size, 0, none⟩ = some (.slice av V.length cv) ∧ wz.cell? ⟨w.heap.size, 1, none⟩ = some (.slice al L.length cl)) (by kernel_rfl) ⟨c0, c1⟩ (fun hHeld => ?_)
  refine wpAnyH_take (i := 0) (oi := { dst := some 28, op := Op.fieldAddr 24 (Operand.tmp 2) 0, type := 0, pos := "conf.go:81", after := #[], guard := none }) (v := .pointer (some ⟨w.heap.size, 0, none⟩)) rfl (by kernel_rfl) (by kernel_rfl) (by kernel_rfl) (fun _ _ _ h => h) (Or.inl ⟨by rfl, ?_⟩) hHeld ?_
  · (intro w hSw; (try dsimp only at hSw); go_simp)
  try simp only [Act.put, List.setIfInBounds_toArray, List.set_cons_zero, List.set_cons_succ]
  refine wpAnyH_take (i := 1) (oi := { dst := some 29, op := Op.load 22 (Operand.tmp 28), type := 22, pos := "conf.go:81", after := #[{ on := 0, ground := Ground.data }], guard := none }) (v := .slice av V.length cv) rfl (by kernel_rfl) (by kernel_rfl) (by kernel_rfl) (fun _ _ _ h => h) (Or.inl ⟨by rfl, ?_⟩) hHeld ?_
  · (intro w hSw; (try dsimp only at hSw); go_simp)
  try simp only [Act.put, List.setIfInBounds_toArray, List.set_cons_zero, List.set_cons_succ]
  refine wpAnyH_take (i := 3) (oi := { dst := some 31, op := Op.fieldAddr 24 (Operand.tmp 2) 1, type := 0, pos := "conf.go:81", after := #[], guard := none }) (v := .pointer (some ⟨w.heap.size, 1, none⟩)) rfl (by kernel_rfl) (by kernel_rfl) (by kernel_rfl) (fun _ _ _ h => h) (Or.inl ⟨by rfl, ?_⟩) hHeld ?_
  · (intro w hSw; (try dsimp only at hSw); go_simp)
  try simp only [Act.put, List.setIfInBounds_toArray, List.set_cons_zero, List.set_cons_succ]
  refine wpAnyH_take (i := 4) (oi := { dst := some 32, op := Op.load 22 (Operand.tmp 31), type := 22, pos := "conf.go:81", after := #[{ on := 3, ground := Ground.data }], guard := none }) (v := .slice al L.length cl) rfl (by kernel_rfl) (by kernel_rfl) (by kernel_rfl) (fun _ _ _ h => h) (Or.inl ⟨by rfl, ?_⟩) hHeld ?_
  · (intro w hSw; (try dsimp only at hSw); go_simp)
  try simp only [Act.put, List.setIfInBounds_toArray, List.set_cons_zero, List.set_cons_succ]
  refine wpAnyH_take (i := 5) (oi := { dst := some 33, op := Op.move (Operand.tmp 1), type := 3, pos := "conf.go:81", after := #[], guard := none }) (v := .int .i64 s) rfl (by kernel_rfl) (by kernel_rfl) (by kernel_rfl) (fun _ _ _ h => h) (Or.inl ⟨by rfl, ?_⟩) hHeld ?_
  · (intro w hSw; (try dsimp only at hSw); go_simp)
  try simp only [Act.put, List.setIfInBounds_toArray, List.set_cons_zero, List.set_cons_succ]
  refine wpAnyH_ready (rs := [2]) (by kernel_rfl) (by simp) ?_
  refine AllReadyH.cons (o := { dst := some 30, op := Op.call { callee := Callee.value (Operand.func 43), args := #[Operand.tmp 29], argTypes := #[22] }, type := 22, pos := "conf.go:81", after := #[{ on := 1, ground := Ground.data }], guard := none }) rfl (fun K hK => ?_) AllReadyH.nil
  go_simp
  refine (clone_any _ av V cv HX.out.cs.cf.v).mono ?_
  rintro e w4 ⟨v1, rfl, hr1, hb⟩
  obtain ⟨a1, k1, rfl, _, _, _, _⟩ := hr1.slice
  have H4 := hidOf (HX.out.grow hb)
  have HR1 := hidOf hr1
  clear hb hr1
  refine hK.out _ _ ⟨H4.out.cs.bx.c0, H4.out.cs.bx.c1⟩ (fun hHeld1 => ?_)
  clear hK K
  try simp only [Act.put, List.setIfInBounds_toArray, List.set_cons_zero, List.set_cons_succ]
  refine wpAnyH_ready (rs := [6]) (by kernel_rfl) (by simp) ?_
  refine AllReadyH.cons (o := { dst := some 34, op := Op.call { callee := Callee.value (Operand.func 44), args := #[Operand.tmp 32, Operand.tmp 33], argTypes := #[22, 3] }, type := 22, pos := "conf.go:81", after := #[{ on := 4, ground := Ground.data }, { on := 5, ground := Ground.data }, { on := 2, ground := Ground.chain }], guard := none }) rfl (fun K hK => ?_) AllReadyH.nil
  go_simp
  refine (with_any _ al L cl s H4.out.cs.cf.l HLN.out).mono ?_
  rintro e w5 ⟨v2, rfl, hr2, hb⟩
  obtain ⟨a2, k2, rfl, _, _, _, _⟩ := hr2.slice
  have H5 := hidOf (H4.out.grow hb)
  have HR5 := hidOf (HR1.out.grow hb)
  have HR2 := hidOf hr2
  clear hb hr2
  have q0 : w5.cell? ⟨w.heap.size + 1, 0, none⟩ = _ := H5.out.rs.c0
  have q1 : w5.cell? ⟨w.heap.size + 1, 1, none⟩ = _ := H5.out.rs.c1
  have q2 : ∀ j, w5.frozen? ⟨w.heap.size + 1, j, none⟩ = false := H5.out.rs.fr
  have q3 : w.heap.size + 1 < w5.heap.size := H5.out.rs.lt
  refine hK.out _ _ ⟨H5.out.cs.bx.c0, H5.out.cs.bx.c1⟩ (fun hHeld2 => ?_)
  clear hK K
  try simp only [Act.put, List.setIfInBounds_toArray, List.set_cons_zero, List.set_cons_succ]
  refine wpAnyH_take (i := 7) (oi := { dst := some 35, op := Op.build 24 #[(0, Operand.tmp 30), (1, Operand.tmp 34)], type := 24, pos := "conf.go:81", after := #[{ on := 2, ground := Ground.data }, { on := 6, ground := Ground.data }], guard := none }) (v := .agg #[.slice a1 V.length k1, .slice a2 (wth L s).length k2]) rfl (by kernel_rfl) (by kernel_rfl) (by kernel_rfl) (fun _ _ _ h => h) (Or.inl ⟨by rfl, ?_⟩) hHeld2 ?_
  · (intro w hSw; (try dsimp only at hSw); go_simp)
  try simp only [Act.put, List.setIfInBounds_toArray, List.set_cons_zero, List.set_cons_succ]
  refine wpAnyH_ready (rs := [8]) (by kernel_rfl) (by simp) ?_
  refine AllReadyH.cons (o := { dst := none, op := Op.store 24 (Operand.tmp 4) (Operand.tmp 35), type := 0, pos := "conf.go:81", after := #[{ on := 7, ground := Ground.data }, { on := 6, ground := Ground.chain }, { on := 0, ground := Ground.phase }, { on := 1, ground := Ground.phase }, { on := 2, ground := Ground.phase }, { on := 3, ground := Ground.phase }, { on := 4, ground := Ground.phase }, { on := 5, ground := Ground.phase }, { on := 6, ground := Ground.phase }, { on := 7, ground := Ground.phase }], guard := none }) rfl (fun K hK => ?_) AllReadyH.nil
  go_simp
  refine hK.out _ _ (H5.out.kept (.slice a1 V.length k1) (.slice a2 (wth L s).length k2)) (fun hHeld3 => ?_)
  clear hK K
  try simp only [Act.put, List.setIfInBounds_toArray, List.set_cons_zero, List.set_cons_succ]
  refine wpAnyH_take (i := 9) (oi := { dst := some 5, op := Op.assign (Operand.const (Value.int IntKind.i64 0)), type := 36, pos := "conf.go:81", after := #[{ on := 8, ground := Ground.chain }, { on := 0, ground := Ground.phase }, { on := 1, ground := Ground.phase }, { on := 2, ground := Ground.phase }, { on := 3, ground := Ground.phase }, { on := 4, ground := Ground.phase }, { on := 5, ground := Ground.phase }, { on := 6, ground := Ground.phase }, { on := 7, ground := Ground.phase }, { on := 8, ground := Ground.phase }], guard := none }) (v := .int .i64 0) rfl (by kernel_rfl) (by kernel_rfl) (by kernel_rfl) (fun _ _ _ h => h) (Or.inl ⟨by rfl, ?_⟩) hHeld3 ?_
  · (intro w hSw; (try dsimp only at hSw); go_simp)
  try simp only [Act.put, List.setIfInBounds_toArray, List.set_cons_zero, List.set_cons_succ]
  refine wpAnyH_done (by kernel_rfl) ?_ _
  go_wp2
  exact bodyPost_ret (results_bx Try.results25 _ _ (w.heap.size + 1) _ _ (.int .i64 0) rfl rfl (H5.out.rs.set _ _)) rfl ⟨a1, k1, a2, k2, rfl, HR5.out.setRes HX.out.rs.lt _ _, HR2.out.setRes H4.out.rs.lt _ _, H5.out.set _ _⟩
end Go.Proofs.Yteaohmlbioooaaa
