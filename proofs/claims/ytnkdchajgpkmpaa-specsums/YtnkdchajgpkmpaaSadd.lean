/- Add and Fits, of the code. -/
import Derived.Test.YtnkdchajgpkmpaaSclo
import Derived.BigRegion
import Derived.BigQuiet
import Derived.Deep.QuietTactic
namespace Go.Proofs.Ytnkdchajgpkmpaa
open Go.RowKit

def top : Int := 1152921504606846976
def mayR (x y : Int) : Bool := inB 0 top x && inB 0 top y
def addB (x y x' y' : Int) : Bool := mayR x y && mayR x' y' && mayR (x + x') (y + y')
def addC (x y x' y' : Int) : Int := if addB x y x' y' = true then x + x' else 0
def addM (x y x' y' : Int) : Int := if addB x y x' y' = true then y + y' else 0
def fitB (x y x' y' p q : Int) : Bool := addB x y x' y' && (decide (x + x' ≤ p) && decide (y + y' ≤ q))
theorem mayR_true {x y : Int} : mayR x y = true ↔ (0 ≤ x ∧ x ≤ 1152921504606846976) ∧ (0 ≤ y ∧ y ≤ 1152921504606846976) := by
  unfold mayR
  rw [Bool.and_eq_true, inB_true, inB_true]
  exact Iff.rfl
theorem heap_lt {w : World} {k : Nat} {o : Obj} (h : w.heap[k]? = some o) : k < w.heap.size := (Array.getElem?_eq_some_iff.1 h).1

/- a pair stands in block k -/
def Pr (w : World) (k : Nat) (x y : Int) : Prop := w.heap[k]? = some (.cells #[.int .i64 x, .int .i64 y] 26 (0, 0))
theorem Pr.c0 {w : World} {k : Nat} {x y : Int} (h : Pr w k x y) : w.cell? ⟨k, 0, none⟩ = some (.int .i64 x) := by rw [cell_of_row w k 0 _ 26 (0, 0) h]; rfl
theorem Pr.c1 {w : World} {k : Nat} {x y : Int} (h : Pr w k x y) : w.cell? ⟨k, 1, none⟩ = some (.int .i64 y) := by rw [cell_of_row w k 1 _ 26 (0, 0) h]; rfl
theorem Pr.fr {w : World} {k : Nat} {x y : Int} (h : Pr w k x y) (j : Nat) : w.frozen? ⟨k, j, none⟩ = false := by
  have h' : w.heap[k]? = _ := h
  simp [World.frozen?, h']
theorem Pr.lt {w : World} {k : Nat} {x y : Int} (h : Pr w k x y) : k < w.heap.size := heap_lt h
theorem Pr.grow {w w' : World} {k : Nat} {x y : Int} (h : Pr w k x y) (hb : Below w.heap.size w w') : Pr w' k x y := (hb.block k h.lt).trans h
theorem pr_new (w : World) (x y : Int) : Pr (w.alloc (.cells #[.int .i64 x, .int .i64 y] 26)) w.heap.size x y := by
  show _ = _
  exact heap_alloc_new w _

structure AdS (w wk : World) (x y x' y' : Int) : Prop where
  a : Pr wk w.heap.size x y
  b : Pr wk (w.heap.size + 1) x' y'
  r : Pr wk (w.heap.size + 2) 0 0
  bel : Below w.heap.size w wk
theorem AdS.grow {w wk w' : World} {x y x' y' : Int} (h : AdS w wk x y x' y') (hb : Below wk.heap.size wk w') : AdS w w' x y x' y' :=
  ⟨h.a.grow hb, h.b.grow hb, h.r.grow hb, h.bel.trans (hb.mono h.bel.size)⟩
theorem AdS.begin (w : World) (x y x' y' : Int) : AdS w (((w.alloc (.cells #[.int .i64 x, .int .i64 y] 26)).alloc (.cells #[.int .i64 x', .int .i64 y'] 26)).alloc (.cells #[.int .i64 0, .int .i64 0] 26)) x y x' y' := by
  have h1 := pr_new w x y
  have h2 := pr_new (w.alloc (.cells #[.int .i64 x, .int .i64 y] 26)) x' y'
  have h3 := pr_new ((w.alloc (.cells #[.int .i64 x, .int .i64 y] 26)).alloc (.cells #[.int .i64 x', .int .i64 y'] 26)) 0 0
  simp only [World.alloc, Array.size_push] at h2 h3
  refine ⟨(h1.grow (below1 _ _)).grow (below1 _ _), ?_, ?_, (below2 w _ _).alloc (by simp; omega) _⟩
  · exact Pr.grow (w := (w.alloc _).alloc _) h2 (below1 _ _)
  · exact h3

theorem Pr.set {w : World} {k : Nat} {x y : Int} (h : Pr w k x y) (x' y' : Int) : Pr ((w.setCell ⟨k, 0, none⟩ (.int .i64 x')).setCell ⟨k, 1, none⟩ (.int .i64 y')) k x' y' := by
  show _ = _
  rw [heap_setCell_same _ k 1 _ 26 _ (heap_setCell_same w k 0 _ 26 _ h)]
  rfl
theorem results_pair {fn : Func} {p u : Tmp} (h : fn.results = #[.cell p 26, .tmp u]) (tmps : Array Value) (w : World) (b : Nat) (k t : Int) (v : Value) (hp : tmps.getD p undef = .pointer (some ⟨b, 0, none⟩)) (hu : tmps.getD u undef = v) (h0 : Pr w b k t) :
    (results fn tmps).run Try.prog w = .ok (.tuple #[.agg #[.int .i64 k, .int .i64 t], v]) w := by
  rw [results_cell_tmp h, hp, hu]
  have e0 : (⟨b, 0, none⟩ : Addr).add 0 = ⟨b, 0, none⟩ := rfl
  have e1 : (⟨b, 0, none⟩ : Addr).add 1 = ⟨b, 1, none⟩ := rfl
  simp [go_sem, loadVar, Try.isAgg26, Try.sizeOf26, loadCellsFrom, h0.c0, h0.c1]
theorem AdS.set {w wk : World} {x y x' y' : Int} (h : AdS w wk x y x' y') (a b : Int) : Below w.heap.size w ((wk.setCell ⟨w.heap.size + 1 + 1, 0, none⟩ (.int .i64 a)).setCell ⟨w.heap.size + 1 + 1, 1, none⟩ (.int .i64 b)) :=
  (h.bel.setCell (by show _ ≤ w.heap.size + 1 + 1; omega) _).setCell (by show _ ≤ w.heap.size + 1 + 1; omega) _
theorem mayR_both (x y : Int) (p q : Nat) (w : World) (h : Btw w p q 0 1152921504606846976) : Calls Try.prog 19 #[.agg #[.int .i64 x, .int .i64 y], .func (.func 21) #[] #[.pointer (some ⟨p, 0, none⟩), .pointer (some ⟨q, 0, none⟩)]] w fun e w' => e = .returned (.bool (mayR x y)) ∧ Below w.heap.size w w' := both_any 0 1152921504606846976 x y p q w h

set_option maxHeartbeats 2000000 in
theorem add_any (x y x' y' : Int) (w : World) : Calls Try.prog 13 #[.agg #[.int .i64 x, .int .i64 y], .agg #[.int .i64 x', .int .i64 y']] w fun e w' => e = .returned (.tuple #[.agg #[.int .i64 (addC x y x' y'), .int .i64 (addM x y x' y')], .bool (addB x y x' y')]) ∧ Below w.heap.size w w' := by
  have H0 := hidOf (AdS.begin w x y x' y')
  have HB1 := mayR_both x y
  have HB2 := mayR_both x' y'
  have HB3 := mayR_both (x + x') (y + y')
  cases h1 : mayR x y with
  | false =>
    have e1 : addB x y x' y' = false := by unfold addB; rw [h1]; rfl
    have e2 : addC x y x' y' = 0 := by unfold addC; rw [e1]; rfl
    have e3 : addM x y x' y' = 0 := by unfold addM; rw [e1]; rfl
    rw [e1, e2, e3]
    rw [h1] at HB1
    clear h1 e1 e2 e3 HB2 HB3
    go_enter Try.func13, Try.ntmps13
    go_wp2_with (first
      | (go_at_call 17; refine (between_any 0 1152921504606846976 _).mono ?_; rintro e w1 ⟨p, q, rfl, hq, hb⟩; have H1 := hidOf (H0.out.grow hb); have HQ := hidOf hq; clear hb hq; have c0 := H1.out.a.c0; have c1 := H1.out.a.c1; have l0 := H1.out.a.lt)
      | (go_at_call 19; refine (HB1 _ _ _ HQ.out).mono ?_; rintro e w2 ⟨rfl, hb⟩; have H2 := hidOf (H1.out.grow hb); clear hb c0 c1 l0; have l2 : w.heap.size + 1 + 1 < w2.heap.size := H2.out.r.lt; have f2 : ∀ j, w2.frozen? ⟨w.heap.size + 1 + 1, j, none⟩ = false := H2.out.r.fr; have r0 : w2.cell? ⟨w.heap.size + 1 + 1, 0, none⟩ = _ := H2.out.r.c0; have r1 : w2.cell? ⟨w.heap.size + 1 + 1, 1, none⟩ = _ := H2.out.r.c1))
    exact bodyPost_ret (results_pair Try.results13 _ _ (w.heap.size + 1 + 1) 0 0 (.bool false) rfl rfl (H2.out.r.set 0 0)) rfl ⟨rfl, H2.out.set 0 0⟩
  | true =>
    rw [h1] at HB1
    cases h2 : mayR x' y' with
    | false =>
      have e1 : addB x y x' y' = false := by unfold addB; rw [h1, h2]; rfl
      have e2 : addC x y x' y' = 0 := by unfold addC; rw [e1]; rfl
      have e3 : addM x y x' y' = 0 := by unfold addM; rw [e1]; rfl
      rw [e1, e2, e3]
      rw [h2] at HB2
      clear h1 h2 e1 e2 e3 HB3
      go_enter Try.func13, Try.ntmps13
      go_wp2_with (first
        | (go_at_call 17; refine (between_any 0 1152921504606846976 _).mono ?_; rintro e w1 ⟨p, q, rfl, hq, hb⟩; have H1 := hidOf (H0.out.grow hb); have HQ := hidOf hq; clear hb hq; have c0 := H1.out.a.c0; have c1 := H1.out.a.c1; have l0 := H1.out.a.lt)
        | (go_at_call 19; refine (HB1 _ _ _ HQ.out).mono ?_; rintro e w2 ⟨rfl, hb⟩; have H2 := hidOf (H1.out.grow hb); have HQ2 := hidOf (HQ.out.grow hb); clear hb c0 c1 l0 HB1; have c0 := H2.out.b.c0; have c1 := H2.out.b.c1; have l0 := H2.out.b.lt)
        | (go_at_call 19; refine (HB2 _ _ _ HQ2.out).mono ?_; rintro e w3 ⟨rfl, hb⟩; have H3 := hidOf (H2.out.grow hb); clear hb c0 c1 l0; have l2 : w.heap.size + 1 + 1 < w3.heap.size := H3.out.r.lt; have f2 : ∀ j, w3.frozen? ⟨w.heap.size + 1 + 1, j, none⟩ = false := H3.out.r.fr; have r0 : w3.cell? ⟨w.heap.size + 1 + 1, 0, none⟩ = _ := H3.out.r.c0; have r1 : w3.cell? ⟨w.heap.size + 1 + 1, 1, none⟩ = _ := H3.out.r.c1))
      exact bodyPost_ret (results_pair Try.results13 _ _ (w.heap.size + 1 + 1) 0 0 (.bool false) rfl rfl (H3.out.r.set 0 0)) rfl ⟨rfl, H3.out.set 0 0⟩
    | true =>
      rw [h2] at HB2
      obtain ⟨⟨i1, i2⟩, i3, i4⟩ := mayR_true.1 h1
      obtain ⟨⟨i5, i6⟩, i7, i8⟩ := mayR_true.1 h2
      cases h3 : mayR (x + x') (y + y') with
      | false =>
        have e1 : addB x y x' y' = false := by unfold addB; rw [h1, h2, h3]; rfl
        have e2 : addC x y x' y' = 0 := by unfold addC; rw [e1]; rfl
        have e3 : addM x y x' y' = 0 := by unfold addM; rw [e1]; rfl
        rw [e1, e2, e3]
        rw [h3] at HB3
        clear h1 h2 h3 e1 e2 e3
        go_enter Try.func13, Try.ntmps13
        go_wp2_with (first
          | (go_at_call 17; refine (between_any 0 1152921504606846976 _).mono ?_; rintro e w1 ⟨p, q, rfl, hq, hb⟩; have H1 := hidOf (H0.out.grow hb); have HQ := hidOf hq; clear hb hq; have c0 := H1.out.a.c0; have c1 := H1.out.a.c1; have l0 := H1.out.a.lt)
          | (go_at_call 19; refine (HB1 _ _ _ HQ.out).mono ?_; rintro e w2 ⟨rfl, hb⟩; have H2 := hidOf (H1.out.grow hb); have HQ2 := hidOf (HQ.out.grow hb); clear hb c0 c1 l0 HB1; have c0 := H2.out.b.c0; have c1 := H2.out.b.c1; have l0 := H2.out.b.lt)
          | (go_at_call 19; refine (HB2 _ _ _ HQ2.out).mono ?_; rintro e w3 ⟨rfl, hb⟩; have H3 := hidOf (H2.out.grow hb); have HQ3 := hidOf (HQ2.out.grow hb); clear hb c0 c1 l0 HB2; have a0 := H3.out.a.c0; have a1 := H3.out.a.c1; have b0 := H3.out.b.c0; have b1 := H3.out.b.c1; have la := H3.out.a.lt; have lb := H3.out.b.lt)
          | (go_at_call 19; refine (HB3 _ _ _ (HQ3.out.grow (below1 _ _))).mono ?_; rintro e w4 ⟨rfl, hb⟩; have H4 := hidOf ((H3.out.grow (below1 _ _)).grow hb); have S4 := hidOf ((pr_new w3 (x + x') (y + y')).grow hb); clear hb a0 a1 b0 b1 la lb; have l2 : w.heap.size + 1 + 1 < w4.heap.size := H4.out.r.lt; have f2 : ∀ j, w4.frozen? ⟨w.heap.size + 1 + 1, j, none⟩ = false := H4.out.r.fr; have r0 : w4.cell? ⟨w.heap.size + 1 + 1, 0, none⟩ = _ := H4.out.r.c0; have r1 : w4.cell? ⟨w.heap.size + 1 + 1, 1, none⟩ = _ := H4.out.r.c1; have s0 := S4.out.c0; have s1 := S4.out.c1; have s2 := S4.out.lt))
        exact bodyPost_ret (results_pair Try.results13 _ _ (w.heap.size + 1 + 1) 0 0 (.bool false) rfl rfl (H4.out.r.set 0 0)) rfl ⟨rfl, H4.out.set 0 0⟩
      | true =>
        have e1 : addB x y x' y' = true := by unfold addB; rw [h1, h2, h3]; rfl
        have e2 : addC x y x' y' = x + x' := by unfold addC; rw [e1]; rfl
        have e3 : addM x y x' y' = y + y' := by unfold addM; rw [e1]; rfl
        rw [e1, e2, e3]
        rw [h3] at HB3
        clear h1 h2 h3 e1 e2 e3
        go_enter Try.func13, Try.ntmps13
        go_wp2_with (first
          | (go_at_call 17; refine (between_any 0 1152921504606846976 _).mono ?_; rintro e w1 ⟨p, q, rfl, hq, hb⟩; have H1 := hidOf (H0.out.grow hb); have HQ := hidOf hq; clear hb hq; have c0 := H1.out.a.c0; have c1 := H1.out.a.c1; have l0 := H1.out.a.lt)
          | (go_at_call 19; refine (HB1 _ _ _ HQ.out).mono ?_; rintro e w2 ⟨rfl, hb⟩; have H2 := hidOf (H1.out.grow hb); have HQ2 := hidOf (HQ.out.grow hb); clear hb c0 c1 l0 HB1; have c0 := H2.out.b.c0; have c1 := H2.out.b.c1; have l0 := H2.out.b.lt)
          | (go_at_call 19; refine (HB2 _ _ _ HQ2.out).mono ?_; rintro e w3 ⟨rfl, hb⟩; have H3 := hidOf (H2.out.grow hb); have HQ3 := hidOf (HQ2.out.grow hb); clear hb c0 c1 l0 HB2; have a0 := H3.out.a.c0; have a1 := H3.out.a.c1; have b0 := H3.out.b.c0; have b1 := H3.out.b.c1; have la := H3.out.a.lt; have lb := H3.out.b.lt)
          | (go_at_call 19; refine (HB3 _ _ _ (HQ3.out.grow (below1 _ _))).mono ?_; rintro e w4 ⟨rfl, hb⟩; have H4 := hidOf ((H3.out.grow (below1 _ _)).grow hb); have S4 := hidOf ((pr_new w3 (x + x') (y + y')).grow hb); clear hb a0 a1 b0 b1 la lb; have l2 : w.heap.size + 1 + 1 < w4.heap.size := H4.out.r.lt; have f2 : ∀ j, w4.frozen? ⟨w.heap.size + 1 + 1, j, none⟩ = false := H4.out.r.fr; have r0 : w4.cell? ⟨w.heap.size + 1 + 1, 0, none⟩ = _ := H4.out.r.c0; have r1 : w4.cell? ⟨w.heap.size + 1 + 1, 1, none⟩ = _ := H4.out.r.c1; have s0 := S4.out.c0; have s1 := S4.out.c1; have s2 := S4.out.lt))
        exact bodyPost_ret (results_pair Try.results13 _ _ (w.heap.size + 1 + 1) (x + x') (y + y') (.bool true) rfl rfl (H4.out.r.set _ _)) rfl ⟨rfl, H4.out.set _ _⟩

structure FtS (w wk : World) (x y x' y' p q : Int) : Prop where
  a : Pr wk w.heap.size x y
  b : Pr wk (w.heap.size + 1) x' y'
  r : Pr wk (w.heap.size + 1 + 1) p q
  bel : Below w.heap.size w wk
theorem FtS.grow {w wk w' : World} {x y x' y' p q : Int} (h : FtS w wk x y x' y' p q) (hb : Below wk.heap.size wk w') : FtS w w' x y x' y' p q :=
  ⟨h.a.grow hb, h.b.grow hb, h.r.grow hb, h.bel.trans (hb.mono h.bel.size)⟩
theorem FtS.begin (w : World) (x y x' y' p q : Int) : FtS w (((w.alloc (.cells #[.int .i64 x, .int .i64 y] 26)).alloc (.cells #[.int .i64 x', .int .i64 y'] 26)).alloc (.cells #[.int .i64 p, .int .i64 q] 26)) x y x' y' p q := by
  have h1 := pr_new w x y
  have h2 := pr_new (w.alloc (.cells #[.int .i64 x, .int .i64 y] 26)) x' y'
  have h3 := pr_new ((w.alloc (.cells #[.int .i64 x, .int .i64 y] 26)).alloc (.cells #[.int .i64 x', .int .i64 y'] 26)) p q
  simp only [World.alloc, Array.size_push] at h2 h3
  refine ⟨(h1.grow (below1 _ _)).grow (below1 _ _), ?_, ?_, (below2 w _ _).alloc (by simp; omega) _⟩
  · exact Pr.grow (w := (w.alloc _).alloc _) h2 (below1 _ _)
  · exact h3
theorem fit_val (x y x' y' p q : Int) : fitB x y x' y' p q = (addB x y x' y' && (decide (addC x y x' y' ≤ p) && decide (addM x y x' y' ≤ q))) := by
  unfold fitB addC addM
  cases h : addB x y x' y' <;> simp

set_option maxHeartbeats 2000000 in
theorem fits_any (x y x' y' p q : Int) (w : World) : Calls Try.prog 15 #[.agg #[.int .i64 x, .int .i64 y], .agg #[.int .i64 x', .int .i64 y'], .agg #[.int .i64 p, .int .i64 q]] w fun e w' => e = .returned (.bool (fitB x y x' y' p q)) ∧ Below w.heap.size w w' := by
  have H0 := hidOf (FtS.begin w x y x' y' p q)
  have HA := add_any x y x' y'
  rw [fit_val]
  generalize addC x y x' y' = c at *
  generalize addM x y x' y' = m at *
  generalize addB x y x' y' = d at *
  cases d
  · go_enter Try.func15, Try.ntmps15
    go_wp2_with (go_at_call 13; refine (HA _).mono ?_; rintro e w1 ⟨rfl, hb⟩; have H1 := hidOf (H0.out.grow hb); clear hb HA; have r0 := fun o => (H1.out.r.grow (below1 w1 o)).c0; have r1 := fun o => (H1.out.r.grow (below1 w1 o)).c1; have l2 : ∀ o, w.heap.size + 1 + 1 < (w1.alloc o).heap.size := (fun o => (H1.out.r.grow (below1 w1 o)).lt))
    go_ret
    exact ⟨rfl, H1.out.bel.alloc H1.out.bel.size _⟩
  · by_cases h1 : c ≤ p
    · rw [decide_eq_true h1]
      go_enter Try.func15, Try.ntmps15
      go_wp2_with (go_at_call 13; refine (HA _).mono ?_; rintro e w1 ⟨rfl, hb⟩; have H1 := hidOf (H0.out.grow hb); clear hb HA; have r0 := fun o => (H1.out.r.grow (below1 w1 o)).c0; have r1 := fun o => (H1.out.r.grow (below1 w1 o)).c1; have l2 : ∀ o, w.heap.size + 1 + 1 < (w1.alloc o).heap.size := (fun o => (H1.out.r.grow (below1 w1 o)).lt))
      go_ret
      exact ⟨rfl, H1.out.bel.alloc H1.out.bel.size _⟩
    · rw [decide_eq_false h1]
      go_enter Try.func15, Try.ntmps15
      go_wp2_with (go_at_call 13; refine (HA _).mono ?_; rintro e w1 ⟨rfl, hb⟩; have H1 := hidOf (H0.out.grow hb); clear hb HA; have r0 := fun o => (H1.out.r.grow (below1 w1 o)).c0; have r1 := fun o => (H1.out.r.grow (below1 w1 o)).c1; have l2 : ∀ o, w.heap.size + 1 + 1 < (w1.alloc o).heap.size := (fun o => (H1.out.r.grow (below1 w1 o)).lt))
      go_ret
      exact ⟨rfl, H1.out.bel.alloc H1.out.bel.size _⟩
end Go.Proofs.Ytnkdchajgpkmpaa
