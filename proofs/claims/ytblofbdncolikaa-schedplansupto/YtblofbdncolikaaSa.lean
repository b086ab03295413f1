/- Sums of demands, of the code and of the document. -/
import Derived.Test.YtblofbdncolikaaSm
import Derived.ProofKit
import Derived.BigRegion
import Derived.BigQuiet
import Derived.Deep.QuietTactic
namespace Go.Proofs.Ytblofbdncolikaa
open Go.RowKit

def inB (a b n : Int) : Bool := decide (a ≤ n ∧ n ≤ b)
theorem inB_true {a b n : Int} : inB a b n = true ↔ a ≤ n ∧ n ≤ b := by unfold inB; simp
theorem inB_false {a b n : Int} : inB a b n = false ↔ n < a ∨ b < n := by unfold inB; simp; omega

/- the closure's two numbers stand in the blocks p and q -/
structure Btw (w : World) (p q : Nat) (a b : Int) : Prop where
 cp : w.cell? ⟨p, 0, none⟩ = some (.int .i64 a)
 cq : w.cell? ⟨q, 0, none⟩ = some (.int .i64 b)
 lp : p < w.heap.size
 lq : q < w.heap.size
theorem Btw.grow {w w' : World} {p q : Nat} {a b : Int} (h : Btw w p q a b) (hb : Below w.heap.size w w') : Btw w' p q a b :=
 ⟨(hb.cell (p := ⟨p, 0, none⟩) h.lp).trans h.cp, (hb.cell (p := ⟨q, 0, none⟩) h.lq).trans h.cq, Nat.lt_of_lt_of_le h.lp hb.size, Nat.lt_of_lt_of_le h.lq hb.size⟩
theorem Btw.mono {w w' : World} {p q n : Nat} {a b : Int} (h : Btw w p q a b) (hb : Below n w w') (hn : w.heap.size ≤ n) : Btw w' p q a b := h.grow (hb.mono hn)
/- the function value that between makes -/
set_option maxHeartbeats 400000 in
theorem between_any (a b : Int) (w : World) : Calls Try.prog 79 #[.int .i64 a, .int .i64 b] w fun e w' => ∃ p q, e = .returned (.func (.func 82) #[] #[.pointer (some ⟨p, 0, none⟩), .pointer (some ⟨q, 0, none⟩)]) ∧ Btw w' p q a b ∧ Below w.heap.size w w' := by
 have hmf : ∀ (fn : Fn) (first cap : Array Value) (w : World), (Instr.makeFunc fn first cap).run Try.prog w = .ok (.func fn first cap) w := fun _ _ _ _ => rfl
 go_enter Try.func79, Try.ntmps79
 go_wp2
 go_ret
 refine ⟨_, _, rfl, ⟨?_, ?_, ?_, ?_⟩, below2 w _ _⟩
 ·simp [go_sem]
 ·simp [go_sem]
 ·simp; omega
 ·simp

set_option maxHeartbeats 400000 in
theorem clo_any (a b n : Int) (p q : Nat) (w : World) (h : Btw w p q a b) : Calls Try.prog 82 #[.int .i64 n, .pointer (some ⟨p, 0, none⟩), .pointer (some ⟨q, 0, none⟩)] w fun e w' => e = .returned (.bool (inB a b n)) ∧ w' = w := by
 obtain ⟨cp, cq, lp, lq⟩ := h
 by_cases h1 : a ≤ n
 ·by_cases h2 : n ≤ b
  ·rw [inB_true.2 ⟨h1, h2⟩]
   go_enter Try.func82, Try.ntmps82
   go_wp2
   go_ret
   exact ⟨rfl, rfl⟩
  ·rw [inB_false.2 (by omega)]
   go_enter Try.func82, Try.ntmps82
   go_wp2
   go_ret
   exact ⟨rfl, rfl⟩
 ·rw [inB_false.2 (by omega)]
  go_enter Try.func82, Try.ntmps82
  go_wp2
  go_ret
  exact ⟨rfl, rfl⟩

set_option maxHeartbeats 400000 in
theorem both_any (a b x y : Int) (p q : Nat) (w : World) (h : Btw w p q a b) : Calls Try.prog 80 #[.agg #[.int .i64 x, .int .i64 y], .func (.func 82) #[] #[.pointer (some ⟨p, 0, none⟩), .pointer (some ⟨q, 0, none⟩)]] w fun e w' => e = .returned (.bool (inB a b x && inB a b y)) ∧ Below w.heap.size w w' := by
 have hc1 := fun o : Obj => clo_any a b x p q (w.alloc o) (h.grow (below1 w o))
 have hc2 := fun o : Obj => clo_any a b y p q (w.alloc o) (h.grow (below1 w o))
 have HC1 := hidOf hc1
 have HC2 := hidOf hc2
 clear hc1 hc2 h
 generalize inB a b x = d1 at *
 generalize inB a b y = d2 at *
 cases d1
 ·go_enter Try.func80, Try.ntmps80
  go_wp2_with (go_at_call 82; refine (HC1.out _).mono ?_; rintro e w' ⟨rfl, rfl⟩)
  go_ret
  exact ⟨rfl, below1 w _⟩
 ·go_enter Try.func80, Try.ntmps80
  go_wp2_with (first
   | (go_at_call 82; refine (HC1.out _).mono ?_; rintro e w' ⟨rfl, rfl⟩; clear HC1)
   | (go_at_call 82; refine (HC2.out _).mono ?_; rintro e w' ⟨rfl, rfl⟩))
  go_ret
  exact ⟨by simp, below1 w _⟩

def top : Int := 1152921504606846976
def mayR (x y : Int) : Bool := inB 0 top x && inB 0 top y
def addB (x y x' y' : Int) : Bool := mayR x y && mayR x' y' && mayR (x + x') (y + y')
def addC (x y x' y' : Int) : Int := if addB x y x' y' = true then x + x' else 0
def addM (x y x' y' : Int) : Int := if addB x y x' y' = true then y + y' else 0
theorem mayR_true {x y : Int} : mayR x y = true ↔ (0 ≤ x ∧ x ≤ 1152921504606846976) ∧ (0 ≤ y ∧ y ≤ 1152921504606846976) := by
 unfold mayR
 rw [Bool.and_eq_true, inB_true, inB_true]
 exact Iff.rfl
/- a pair stands in block k -/
def Pr (w : World) (k : Nat) (x y : Int) : Prop := w.heap[k]? = some (.cells #[.int .i64 x, .int .i64 y] 40 (0, 0))
theorem Pr.c0 {w : World} {k : Nat} {x y : Int} (h : Pr w k x y) : w.cell? ⟨k, 0, none⟩ = some (.int .i64 x) := by rw [cell_of_row w k 0 _ 40 (0, 0) h]; rfl
theorem Pr.c1 {w : World} {k : Nat} {x y : Int} (h : Pr w k x y) : w.cell? ⟨k, 1, none⟩ = some (.int .i64 y) := by rw [cell_of_row w k 1 _ 40 (0, 0) h]; rfl
theorem Pr.fr {w : World} {k : Nat} {x y : Int} (h : Pr w k x y) (j : Nat) : w.frozen? ⟨k, j, none⟩ = false := by
 have h' : w.heap[k]? = _ := h
 simp [World.frozen?, h']
theorem Pr.lt {w : World} {k : Nat} {x y : Int} (h : Pr w k x y) : k < w.heap.size := heap_lt h
theorem Pr.grow {w w' : World} {k : Nat} {x y : Int} (h : Pr w k x y) (hb : Below w.heap.size w w') : Pr w' k x y := (hb.block k h.lt).trans h
theorem pr_new (w : World) (x y : Int) : Pr (w.alloc (.cells #[.int .i64 x, .int .i64 y] 40)) w.heap.size x y := by
 show _ = _
 exact heap_alloc_new w _

structure AdS (w wk : World) (x y x' y' : Int) : Prop where
 a : Pr wk w.heap.size x y
 b : Pr wk (w.heap.size + 1) x' y'
 r : Pr wk (w.heap.size + 2) 0 0
 bel : Below w.heap.size w wk
theorem AdS.grow {w wk w' : World} {x y x' y' : Int} (h : AdS w wk x y x' y') (hb : Below wk.heap.size wk w') : AdS w w' x y x' y' :=
 ⟨h.a.grow hb, h.b.grow hb, h.r.grow hb, h.bel.trans (hb.mono h.bel.size)⟩
theorem AdS.begin (w : World) (x y x' y' : Int) : AdS w (((w.alloc (.cells #[.int .i64 x, .int .i64 y] 40)).alloc (.cells #[.int .i64 x', .int .i64 y'] 40)).alloc (.cells #[.int .i64 0, .int .i64 0] 40)) x y x' y' := by
 have h1 := pr_new w x y
 have h2 := pr_new (w.alloc (.cells #[.int .i64 x, .int .i64 y] 40)) x' y'
 have h3 := pr_new ((w.alloc (.cells #[.int .i64 x, .int .i64 y] 40)).alloc (.cells #[.int .i64 x', .int .i64 y'] 40)) 0 0
 simp only [World.alloc, Array.size_push] at h2 h3
 refine ⟨(h1.grow (below1 _ _)).grow (below1 _ _), ?_, ?_, (below2 w _ _).alloc (by simp; omega) _⟩
 ·exact Pr.grow (w := (w.alloc _).alloc _) h2 (below1 _ _)
 ·exact h3

theorem Pr.set {w : World} {k : Nat} {x y : Int} (h : Pr w k x y) (x' y' : Int) : Pr ((w.setCell ⟨k, 0, none⟩ (.int .i64 x')).setCell ⟨k, 1, none⟩ (.int .i64 y')) k x' y' := by
 show _ = _
 rw [heap_setCell_same _ k 1 _ 40 _ (heap_setCell_same w k 0 _ 40 _ h)]
 rfl
theorem results_pair {fn : Func} {p u : Tmp} (h : fn.results = #[.cell p 40, .tmp u]) (tmps : Array Value) (w : World) (b : Nat) (k t : Int) (v : Value) (hp : tmps.getD p undef = .pointer (some ⟨b, 0, none⟩)) (hu : tmps.getD u undef = v) (h0 : Pr w b k t) :
  (results fn tmps).run Try.prog w = .ok (.tuple #[.agg #[.int .i64 k, .int .i64 t], v]) w := by
 rw [results_cell_tmp h, hp, hu]
 have e0 : (⟨b, 0, none⟩ : Addr).add 0 = ⟨b, 0, none⟩ := rfl
 have e1 : (⟨b, 0, none⟩ : Addr).add 1 = ⟨b, 1, none⟩ := rfl
 simp [go_sem, loadVar, Try.isAgg40, Try.sizeOf40, loadCellsFrom, h0.c0, h0.c1]
theorem AdS.set {w wk : World} {x y x' y' : Int} (h : AdS w wk x y x' y') (a b : Int) : Below w.heap.size w ((wk.setCell ⟨w.heap.size + 1 + 1, 0, none⟩ (.int .i64 a)).setCell ⟨w.heap.size + 1 + 1, 1, none⟩ (.int .i64 b)) :=
 (h.bel.setCell (by show _ ≤ w.heap.size + 1 + 1; omega) _).setCell (by show _ ≤ w.heap.size + 1 + 1; omega) _
theorem mayR_both (x y : Int) (p q : Nat) (w : World) (h : Btw w p q 0 1152921504606846976) : Calls Try.prog 80 #[.agg #[.int .i64 x, .int .i64 y], .func (.func 82) #[] #[.pointer (some ⟨p, 0, none⟩), .pointer (some ⟨q, 0, none⟩)]] w fun e w' => e = .returned (.bool (mayR x y)) ∧ Below w.heap.size w w' := both_any 0 1152921504606846976 x y p q w h

set_option maxHeartbeats 2000000 in
theorem add_any (x y x' y' : Int) (w : World) : Calls Try.prog 75 #[.agg #[.int .i64 x, .int .i64 y], .agg #[.int .i64 x', .int .i64 y']] w fun e w' => e = .returned (.tuple #[.agg #[.int .i64 (addC x y x' y'), .int .i64 (addM x y x' y')], .bool (addB x y x' y')]) ∧ Below w.heap.size w w' := by
 have H0 := hidOf (AdS.begin w x y x' y')
 have HB1 := mayR_both x y
 have HB2 := mayR_both x' y'
 have HB3 := mayR_both (x + x') (y + y')
 cases h1 : mayR x y with
 | false =>
  have e1 : addB x y x' y' = false := by unfold addB; rw [h1]; rfl
  have e2 : addC x y x' y' = 0 := by unfold addC; rw [e1]; rfl
  have e3 : addM x y x' y' = 0 := by unfold addM; rw [e1]; rfl
  rw [e1, e2, e3]
  rw [h1] at HB1
  clear h1 e1 e2 e3 HB2 HB3
  go_enter Try.func75, Try.ntmps75
  go_wp2_with (first
   | (go_at_call 79; refine (between_any 0 1152921504606846976 _).mono ?_; rintro e w1 ⟨p, q, rfl, hq, hb⟩; have H1 := hidOf (H0.out.grow hb); have HQ := hidOf hq; clear hb hq; have c0 := H1.out.a.c0; have c1 := H1.out.a.c1; have l0 := H1.out.a.lt)
   | (go_at_call 80; refine (HB1 _ _ _ HQ.out).mono ?_; rintro e w2 ⟨rfl, hb⟩; have H2 := hidOf (H1.out.grow hb); clear hb c0 c1 l0; have l2 : w.heap.size + 1 + 1 < w2.heap.size := H2.out.r.lt; have f2 : ∀ j, w2.frozen? ⟨w.heap.size + 1 + 1, j, none⟩ = false := H2.out.r.fr; have r0 : w2.cell? ⟨w.heap.size + 1 + 1, 0, none⟩ = _ := H2.out.r.c0; have r1 : w2.cell? ⟨w.heap.size + 1 + 1, 1, none⟩ = _ := H2.out.r.c1))
  exact bodyPost_ret (results_pair Try.results75 _ _ (w.heap.size + 1 + 1) 0 0 (.bool false) rfl rfl (H2.out.r.set 0 0)) rfl ⟨rfl, H2.out.set 0 0⟩
 | true =>
  rw [h1] at HB1
  cases h2 : mayR x' y' with
  | false =>
   have e1 : addB x y x' y' = false := by unfold addB; rw [h1, h2]; rfl
   have e2 : addC x y x' y' = 0 := by unfold addC; rw [e1]; rfl
   have e3 : addM x y x' y' = 0 := by unfold addM; rw [e1]; rfl
   rw [e1, e2, e3]
   rw [h2] at HB2
   clear h1 h2 e1 e2 e3 HB3
   go_enter Try.func75, Try.ntmps75
   go_wp2_with (first
    | (go_at_call 79; refine (between_any 0 1152921504606846976 _).mono ?_; rintro e w1 ⟨p, q, rfl, hq, hb⟩; have H1 := hidOf (H0.out.grow hb); have HQ := hidOf hq; clear hb hq; have c0 := H1.out.a.c0; have c1 := H1.out.a.c1; have l0 := H1.out.a.lt)
    | (go_at_call 80; refine (HB1 _ _ _ HQ.out).mono ?_; rintro e w2 ⟨rfl, hb⟩; have H2 := hidOf (H1.out.grow hb); have HQ2 := hidOf (HQ.out.grow hb); clear hb c0 c1 l0 HB1; have c0 := H2.out.b.c0; have c1 := H2.out.b.c1; have l0 := H2.out.b.lt)
    | (go_at_call 80; refine (HB2 _ _ _ HQ2.out).mono ?_; rintro e w3 ⟨rfl, hb⟩; have H3 := hidOf (H2.out.grow hb); clear hb c0 c1 l0; have l2 : w.heap.size + 1 + 1 < w3.heap.size := H3.out.r.lt; have f2 : ∀ j, w3.frozen? ⟨w.heap.size + 1 + 1, j, none⟩ = false := H3.out.r.fr; have r0 : w3.cell? ⟨w.heap.size + 1 + 1, 0, none⟩ = _ := H3.out.r.c0; have r1 : w3.cell? ⟨w.heap.size + 1 + 1, 1, none⟩ = _ := H3.out.r.c1))
   exact bodyPost_ret (results_pair Try.results75 _ _ (w.heap.size + 1 + 1) 0 0 (.bool false) rfl rfl (H3.out.r.set 0 0)) rfl ⟨rfl, H3.out.set 0 0⟩
  | true =>
   rw [h2] at HB2
   obtain ⟨⟨i1, i2⟩, i3, i4⟩ := mayR_true.1 h1
   obtain ⟨⟨i5, i6⟩, i7, i8⟩ := mayR_true.1 h2
   cases h3 : mayR (x + x') (y + y') with
   | false =>
    have e1 : addB x y x' y' = false := by unfold addB; rw [h1, h2, h3]; rfl
    have e2 : addC x y x' y' = 0 := by unfold addC; rw [e1]; rfl
    have e3 : addM x y x' y' = 0 := by unfold addM; rw [e1]; rfl
    rw [e1, e2, e3]
    rw [h3] at HB3
    clear h1 h2 h3 e1 e2 e3
    go_enter Try.func75, Try.ntmps75
    go_wp2_with (first
     | (go_at_call 79; refine (between_any 0 1152921504606846976 _).mono ?_; rintro e w1 ⟨p, q, rfl, hq, hb⟩; have H1 := hidOf (H0.out.grow hb); have HQ := hidOf hq; clear hb hq; have c0 := H1.out.a.c0; have c1 := H1.out.a.c1; have l0 := H1.out.a.lt)
     | (go_at_call 80; refine (HB1 _ _ _ HQ.out).mono ?_; rintro e w2 ⟨rfl, hb⟩; have H2 := hidOf (H1.out.grow hb); have HQ2 := hidOf (HQ.out.grow hb); clear hb c0 c1 l0 HB1; have c0 := H2.out.b.c0; have c1 := H2.out.b.c1; have l0 := H2.out.b.lt)
     | (go_at_call 80; refine (HB2 _ _ _ HQ2.out).mono ?_; rintro e w3 ⟨rfl, hb⟩; have H3 := hidOf (H2.out.grow hb); have HQ3 := hidOf (HQ2.out.grow hb); clear hb c0 c1 l0 HB2; have a0 := H3.out.a.c0; have a1 := H3.out.a.c1; have b0 := H3.out.b.c0; have b1 := H3.out.b.c1; have la := H3.out.a.lt; have lb := H3.out.b.lt)
     | (go_at_call 80; refine (HB3 _ _ _ (HQ3.out.grow (below1 _ _))).mono ?_; rintro e w4 ⟨rfl, hb⟩; have H4 := hidOf ((H3.out.grow (below1 _ _)).grow hb); have S4 := hidOf ((pr_new w3 (x + x') (y + y')).grow hb); clear hb a0 a1 b0 b1 la lb; have l2 : w.heap.size + 1 + 1 < w4.heap.size := H4.out.r.lt; have f2 : ∀ j, w4.frozen? ⟨w.heap.size + 1 + 1, j, none⟩ = false := H4.out.r.fr; have r0 : w4.cell? ⟨w.heap.size + 1 + 1, 0, none⟩ = _ := H4.out.r.c0; have r1 : w4.cell? ⟨w.heap.size + 1 + 1, 1, none⟩ = _ := H4.out.r.c1; have s0 := S4.out.c0; have s1 := S4.out.c1; have s2 := S4.out.lt))
    exact bodyPost_ret (results_pair Try.results75 _ _ (w.heap.size + 1 + 1) 0 0 (.bool false) rfl rfl (H4.out.r.set 0 0)) rfl ⟨rfl, H4.out.set 0 0⟩
   | true =>
    have e1 : addB x y x' y' = true := by unfold addB; rw [h1, h2, h3]; rfl
    have e2 : addC x y x' y' = x + x' := by unfold addC; rw [e1]; rfl
    have e3 : addM x y x' y' = y + y' := by unfold addM; rw [e1]; rfl
    rw [e1, e2, e3]
    rw [h3] at HB3
    clear h1 h2 h3 e1 e2 e3
    go_enter Try.func75, Try.ntmps75
    go_wp2_with (first
     | (go_at_call 79; refine (between_any 0 1152921504606846976 _).mono ?_; rintro e w1 ⟨p, q, rfl, hq, hb⟩; have H1 := hidOf (H0.out.grow hb); have HQ := hidOf hq; clear hb hq; have c0 := H1.out.a.c0; have c1 := H1.out.a.c1; have l0 := H1.out.a.lt)
     | (go_at_call 80; refine (HB1 _ _ _ HQ.out).mono ?_; rintro e w2 ⟨rfl, hb⟩; have H2 := hidOf (H1.out.grow hb); have HQ2 := hidOf (HQ.out.grow hb); clear hb c0 c1 l0 HB1; have c0 := H2.out.b.c0; have c1 := H2.out.b.c1; have l0 := H2.out.b.lt)
     | (go_at_call 80; refine (HB2 _ _ _ HQ2.out).mono ?_; rintro e w3 ⟨rfl, hb⟩; have H3 := hidOf (H2.out.grow hb); have HQ3 := hidOf (HQ2.out.grow hb); clear hb c0 c1 l0 HB2; have a0 := H3.out.a.c0; have a1 := H3.out.a.c1; have b0 := H3.out.b.c0; have b1 := H3.out.b.c1; have la := H3.out.a.lt; have lb := H3.out.b.lt)
     | (go_at_call 80; refine (HB3 _ _ _ (HQ3.out.grow (below1 _ _))).mono ?_; rintro e w4 ⟨rfl, hb⟩; have H4 := hidOf ((H3.out.grow (below1 _ _)).grow hb); have S4 := hidOf ((pr_new w3 (x + x') (y + y')).grow hb); clear hb a0 a1 b0 b1 la lb; have l2 : w.heap.size + 1 + 1 < w4.heap.size := H4.out.r.lt; have f2 : ∀ j, w4.frozen? ⟨w.heap.size + 1 + 1, j, none⟩ = false := H4.out.r.fr; have r0 : w4.cell? ⟨w.heap.size + 1 + 1, 0, none⟩ = _ := H4.out.r.c0; have r1 : w4.cell? ⟨w.heap.size + 1 + 1, 1, none⟩ = _ := H4.out.r.c1; have s0 := S4.out.c0; have s1 := S4.out.c1; have s2 := S4.out.lt))
    exact bodyPost_ret (results_pair Try.results75 _ _ (w.heap.size + 1 + 1) (x + x') (y + y') (.bool true) rfl rfl (H4.out.r.set _ _)) rfl ⟨rfl, H4.out.set _ _⟩

structure FtS (w wk : World) (x y x' y' p q : Int) : Prop where
 a : Pr wk w.heap.size x y
 b : Pr wk (w.heap.size + 1) x' y'
 r : Pr wk (w.heap.size + 1 + 1) p q
 bel : Below w.heap.size w wk
theorem FtS.grow {w wk w' : World} {x y x' y' p q : Int} (h : FtS w wk x y x' y' p q) (hb : Below wk.heap.size wk w') : FtS w w' x y x' y' p q :=
 ⟨h.a.grow hb, h.b.grow hb, h.r.grow hb, h.bel.trans (hb.mono h.bel.size)⟩
theorem FtS.begin (w : World) (x y x' y' p q : Int) : FtS w (((w.alloc (.cells #[.int .i64 x, .int .i64 y] 40)).alloc (.cells #[.int .i64 x', .int .i64 y'] 40)).alloc (.cells #[.int .i64 p, .int .i64 q] 40)) x y x' y' p q := by
 have h1 := pr_new w x y
 have h2 := pr_new (w.alloc (.cells #[.int .i64 x, .int .i64 y] 40)) x' y'
 have h3 := pr_new ((w.alloc (.cells #[.int .i64 x, .int .i64 y] 40)).alloc (.cells #[.int .i64 x', .int .i64 y'] 40)) p q
 simp only [World.alloc, Array.size_push] at h2 h3
 refine ⟨(h1.grow (below1 _ _)).grow (below1 _ _), ?_, ?_, (below2 w _ _).alloc (by simp; omega) _⟩
 ·exact Pr.grow (w := (w.alloc _).alloc _) h2 (below1 _ _)
 ·exact h3

def sumB (a b : Int) : Bool := inB 0 top a && (inB 0 top b && inB 0 top (a + b))
def sumV (a b : Int) : Int := if sumB a b = true then a + b else 0
theorem sumB_true {a b : Int} (h1 : 0 ≤ a) (h2 : a ≤ 1152921504606846976) (h3 : 0 ≤ b) (h4 : b ≤ 1152921504606846976) (h5 : a ≤ 1152921504606846976 - b) : sumB a b = true := by
 unfold sumB
 rw [Bool.and_eq_true, Bool.and_eq_true, inB_true, inB_true, inB_true]
 unfold top
 omega
theorem sumB_false {a b : Int} (h : a < 0 ∨ 1152921504606846976 < a ∨ b < 0 ∨ 1152921504606846976 < b ∨ 1152921504606846976 - b < a) : sumB a b = false := by
 cases e : sumB a b with
 | false => rfl
 | true =>
  unfold sumB at e
  rw [Bool.and_eq_true, Bool.and_eq_true, inB_true, inB_true, inB_true] at e
  unfold top at e
  omega
theorem addB_sum (x y x' y' : Int) : addB x y x' y' = (sumB x x' && sumB y y') := by
 unfold addB mayR sumB
 cases inB 0 top x <;> cases inB 0 top y <;> cases inB 0 top x' <;> cases inB 0 top y' <;> simp
theorem sumV_of {a b : Int} (h : sumB a b = false) : sumV a b = 0 := by unfold sumV; rw [h]; rfl

set_option maxHeartbeats 1000000 in
theorem sum_no (a b : Int) (w : World) (h : a < 0 ∨ 1152921504606846976 < a ∨ b < 0 ∨ 1152921504606846976 < b ∨ 1152921504606846976 - b < a) : Calls Try.prog 71 #[.int .i64 a, .int .i64 b] w fun e w' => e = .returned (.tuple #[.int .i64 0, .bool false]) ∧ w' = w := by
 by_cases h1 : a < 0
 ·clear h
  go_enter Try.func71, Try.ntmps71
  go_wp2
  go_ret2
  exact ⟨rfl, rfl⟩
 ·by_cases h2 : 1152921504606846976 < a
  ·clear h
   go_enter Try.func71, Try.ntmps71
   go_wp2
   go_ret2
   exact ⟨rfl, rfl⟩
  ·by_cases h3 : b < 0
   ·clear h
    go_enter Try.func71, Try.ntmps71
    go_wp2
    go_ret2
    exact ⟨rfl, rfl⟩
   ·by_cases h4 : 1152921504606846976 < b
    ·clear h
     go_enter Try.func71, Try.ntmps71
     go_wp2
     go_ret2
     exact ⟨rfl, rfl⟩
    ·have h5 : 1152921504606846976 - b < a := by omega
     clear h
     have k3 : 0 ≤ b := by omega
     have k4 : b ≤ 1152921504606846976 := by omega
     go_enter Try.func71, Try.ntmps71
     go_wp2
     go_ret2
     exact ⟨rfl, rfl⟩
set_option maxHeartbeats 1000000 in
theorem sum_ok (a b : Int) (w : World) (h1 : 0 ≤ a) (h2 : a ≤ 1152921504606846976) (h3 : 0 ≤ b) (h4 : b ≤ 1152921504606846976) (h5 : a ≤ 1152921504606846976 - b) : Calls Try.prog 71 #[.int .i64 a, .int .i64 b] w fun e w' => e = .returned (.tuple #[.int .i64 (a + b), .bool true]) ∧ w' = w := by
 have k1 : ¬ a < 0 := by omega
 have k2 : ¬ 1152921504606846976 < a := by omega
 have k3 : ¬ b < 0 := by omega
 have k4 : ¬ 1152921504606846976 < b := by omega
 have k5 : ¬ 1152921504606846976 - b < a := by omega
 go_enter Try.func71, Try.ntmps71
 go_wp2
 go_ret2
 exact ⟨rfl, rfl⟩
theorem sum_any (a b : Int) (w : World) : Calls Try.prog 71 #[.int .i64 a, .int .i64 b] w fun e w' => e = .returned (.tuple #[.int .i64 (sumV a b), .bool (sumB a b)]) ∧ w' = w := by
 by_cases h : a < 0 ∨ 1152921504606846976 < a ∨ b < 0 ∨ 1152921504606846976 < b ∨ 1152921504606846976 - b < a
 ·have e := sumB_false h
  unfold sumV
  rw [e]
  exact sum_no a b w h
 ·have h1 : 0 ≤ a := by omega
  have h2 : a ≤ 1152921504606846976 := by omega
  have h3 : 0 ≤ b := by omega
  have h4 : b ≤ 1152921504606846976 := by omega
  have h5 : a ≤ 1152921504606846976 - b := by omega
  have e := sumB_true h1 h2 h3 h4 h5
  unfold sumV
  rw [e]
  exact sum_ok a b w h1 h2 h3 h4 h5

set_option maxHeartbeats 2000000 in
theorem refAdd_any (x y x' y' : Int) (w : World) : Calls Try.prog 59 #[.agg #[.int .i64 x, .int .i64 y], .agg #[.int .i64 x', .int .i64 y']] w fun e w' => e = .returned (.tuple #[.agg #[.int .i64 (addC x y x' y'), .int .i64 (addM x y x' y')], .bool (addB x y x' y')]) ∧ Below w.heap.size w w' := by
 have HS1 := sum_any x x'
 have HS2 := sum_any y y'
 have e1 := addB_sum x y x' y'
 have e2 : addC x y x' y' = if (sumB x x' && sumB y y') = true then x + x' else 0 := by unfold addC; rw [e1]
 have e3 : addM x y x' y' = if (sumB x x' && sumB y y') = true then y + y' else 0 := by unfold addM; rw [e1]
 rw [e1, e2, e3]
 clear e1 e2 e3
 cases h1 : sumB x x' with
 | false =>
  rw [h1] at HS1
  rw [show sumV x x' = 0 from sumV_of h1] at HS1
  clear h1
  generalize sumB y y' = d at *
  generalize sumV y y' = v at *
  go_enter Try.func59, Try.ntmps59
  go_wp2_with (first
   | (go_at_call 71; refine (HS1 _).mono ?_; rintro e w1 ⟨rfl, rfl⟩; clear HS1)
   | (go_at_call 71; refine (HS2 _).mono ?_; rintro e w1 ⟨rfl, rfl⟩; clear HS2))
  exact bodyPost_ret (results_pair Try.results59 _ _ (w.heap.size + 1 + 1) 0 0 (.bool false) rfl rfl (FtS.begin w x y x' y' 0 0).r) rfl ⟨rfl, (FtS.begin w x y x' y' 0 0).bel⟩
 | true =>
  rw [h1] at HS1
  rw [show sumV x x' = x + x' by unfold sumV; rw [h1]; rfl] at HS1
  clear h1
  cases h2 : sumB y y' with
  | false =>
   rw [h2] at HS2
   rw [show sumV y y' = 0 from sumV_of h2] at HS2
   clear h2
   go_enter Try.func59, Try.ntmps59
   go_wp2_with (first
    | (go_at_call 71; refine (HS1 _).mono ?_; rintro e w1 ⟨rfl, rfl⟩; clear HS1)
    | (go_at_call 71; refine (HS2 _).mono ?_; rintro e w1 ⟨rfl, rfl⟩; clear HS2))
   exact bodyPost_ret (results_pair Try.results59 _ _ (w.heap.size + 1 + 1) 0 0 (.bool false) rfl rfl (FtS.begin w x y x' y' 0 0).r) rfl ⟨rfl, (FtS.begin w x y x' y' 0 0).bel⟩
  | true =>
   rw [h2] at HS2
   rw [show sumV y y' = y + y' by unfold sumV; rw [h2]; rfl] at HS2
   clear h2
   go_enter Try.func59, Try.ntmps59
   go_wp2_with (first
    | (go_at_call 71; refine (HS1 _).mono ?_; rintro e w1 ⟨rfl, rfl⟩; clear HS1)
    | (go_at_call 71; refine (HS2 _).mono ?_; rintro e w1 ⟨rfl, rfl⟩; clear HS2))
   exact bodyPost_ret (results_pair Try.results59 _ _ (w.heap.size + 1 + 1) (x + x') (y + y') (.bool true) rfl rfl (FtS.begin w x y x' y' _ _).r) rfl ⟨rfl, (FtS.begin w x y x' y' _ _).bel⟩

end Go.Proofs.Ytblofbdncolikaa
