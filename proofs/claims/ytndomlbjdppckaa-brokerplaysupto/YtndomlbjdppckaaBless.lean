/- The broker's items in memory; the heap's tests on pointers to them: Less, less (with its deferred recover), before. Each makes new blocks and touches none that was there. -/
import Derived.Test.YtndomlbjdppckaaProg
import Derived.WalkLawsBesides
import Derived.KernelRfl
import Derived.Defers
import Derived.Recover
import Derived.ProofKit
namespace Go.Proofs.Ytndomlbjdppckaa
open Go.RowKit

theorem hidOf {p : Prop} (h : p) : Hid p := h

structure Itm where
  jb : Int
  pr : Int
  st : Int
  ix : Int
  cn : Int
  dl : Int
  tk : Bool
  wk : Int
  tc : Int
deriving DecidableEq
instance : Inhabited Itm := ⟨⟨0, 0, 0, 0, 0, 0, false, 0, 0⟩⟩
def itC (x : Itm) : Array Value := #[.int .i64 x.jb, .int .i64 x.pr, .int .i64 x.st, .int .i64 x.ix, .int .i64 x.cn, .int .i64 x.dl, .bool x.tk, .int .i64 x.wk, .int .i64 x.tc]
def ItR (w : World) (b : Nat) (x : Itm) : Prop := w.heap[b]? = some (.cells (itC x) 65 (0, 0))
theorem ItR.lt {w : World} {b : Nat} {x : Itm} (h : ItR w b x) : b < w.heap.size := (Array.getElem?_eq_some_iff.1 h).1
theorem ItR.kept {w w' : World} {b : Nat} {x : Itm} (h : ItR w b x) (e : w'.heap[b]? = w.heap[b]?) : ItR w' b x := e.trans h
theorem ItR.grow {w w' : World} {b : Nat} {x : Itm} (h : ItR w b x) (e : Below w.heap.size w w') : ItR w' b x := h.kept (e.block b h.lt)
theorem ItR.cells {w : World} {b : Nat} {x : Itm} (h : ItR w b x) : w.cell? ⟨b, 0, none⟩ = some (.int .i64 x.jb) ∧ w.cell? ⟨b, 1, none⟩ = some (.int .i64 x.pr) ∧ w.cell? ⟨b, 2, none⟩ = some (.int .i64 x.st) ∧ w.cell? ⟨b, 3, none⟩ = some (.int .i64 x.ix) ∧ w.cell? ⟨b, 4, none⟩ = some (.int .i64 x.cn) ∧ w.cell? ⟨b, 5, none⟩ = some (.int .i64 x.dl) ∧ w.cell? ⟨b, 6, none⟩ = some (.bool x.tk) ∧ w.cell? ⟨b, 7, none⟩ = some (.int .i64 x.wk) ∧ w.cell? ⟨b, 8, none⟩ = some (.int .i64 x.tc) := by
  refine ⟨?_, ?_, ?_, ?_, ?_, ?_, ?_, ?_, ?_⟩ <;> (rw [cell_of_row w b _ _ 65 (0, 0) h]; rfl)
theorem ItR.frozen {w : World} {b : Nat} {x : Itm} (h : ItR w b x) (j : Nat) : w.frozen? ⟨b, j, none⟩ = false := by
  have h' : w.heap[b]? = some (.cells (itC x) 65 (0, 0)) := h
  simp [World.frozen?, h']

theorem cell_new2a (w : World) (a b : Obj) (w' : World) (hb : Below ((w.alloc a).alloc b).heap.size ((w.alloc a).alloc b) w') (cs : Array Value) (ty : TypeId) (ha : a = .cells cs ty) (j : Nat) : w'.cell? ⟨w.heap.size, j, none⟩ = cs[j]? := by
  subst ha
  rw [hb.cell (p := ⟨w.heap.size, j, none⟩) (by simp; omega)]
  simp [go_sem]
theorem cell_new2b (w : World) (a b : Obj) (w' : World) (hb : Below ((w.alloc a).alloc b).heap.size ((w.alloc a).alloc b) w') (cs : Array Value) (ty : TypeId) (ha : b = .cells cs ty) (j : Nat) : w'.cell? ⟨w.heap.size + 1, j, none⟩ = cs[j]? := by
  subst ha
  rw [hb.cell (p := ⟨w.heap.size + 1, j, none⟩) (by simp)]
  simp [go_sem]

/- who comes ahead of whom -/
def klt (a b : Itm) : Bool := if a.pr = b.pr then (if a.ix = b.ix then decide (a.jb < b.jb) else decide (a.ix < b.ix)) else decide (b.pr < a.pr)

theorem below2 (w : World) (a b : Obj) : Below w.heap.size w ((w.alloc a).alloc b) := ((Below.refl _ w).alloc (Nat.le_refl _) _).alloc (by simp) _

set_option maxHeartbeats 4000000 in
theorem pless_any (p q : Nat) (a b : Itm) (w : World) (ha : ItR w p a) (hb : ItR w q b) : Calls Try.prog 63 #[.pointer (some ⟨p, 0, none⟩), .pointer (some ⟨q, 0, none⟩)] w fun e w' => e = .returned (.bool (klt a b)) ∧ Below w.heap.size w w' := by
  obtain ⟨a0, a1, a2, a3, -⟩ := ha.cells
  obtain ⟨b0, b1, b2, b3, -⟩ := hb.cells
  have hB : ∀ o : Obj, Below w.heap.size w (w.alloc o) := fun o => (Below.refl w.heap.size w).alloc (Nat.le_refl _) o
  obtain ⟨jb, pr, st, ix, cn, dl, tk, wk, tc⟩ := a
  obtain ⟨jb', pr', st', ix', cn', dl', tk', wk', tc'⟩ := b
  simp only at a0 a1 a2 a3 b0 b1 b2 b3
  have hpw := ha.lt
  have hqw := hb.lt
  clear ha hb
  by_cases h1 : pr = pr'
  · by_cases h2 : ix = ix'
    · have hk : klt ⟨jb, pr, st, ix, cn, dl, tk, wk, tc⟩ ⟨jb', pr', st', ix', cn', dl', tk', wk', tc'⟩ = decide (jb < jb') := by simp [klt, h1, h2]
      rw [hk]
      clear hk
      subst h1 h2
      generalize hd : decide (jb < jb') = d
      go_enter Try.func63, Try.ntmps63
      go_wp2
      go_region
      all_goals (go_wp2; go_ret; exact ⟨by simp, (below2 w _ _).drew⟩)
    · have hk : klt ⟨jb, pr, st, ix, cn, dl, tk, wk, tc⟩ ⟨jb', pr', st', ix', cn', dl', tk', wk', tc'⟩ = decide (ix < ix') := by simp [klt, h1, h2]
      rw [hk]
      clear hk
      subst h1
      have hne : (ix == ix') = false := beq_eq_false_iff_ne.2 h2
      have hne2 : (ix != ix') = true := bne_iff_ne.2 h2
      generalize hd : decide (ix < ix') = d
      clear h2
      go_enter Try.func63, Try.ntmps63
      go_wp2
      go_region
      all_goals (go_wp2; go_ret; exact ⟨by simp, (below2 w _ _).drew⟩)
  · have hk : klt ⟨jb, pr, st, ix, cn, dl, tk, wk, tc⟩ ⟨jb', pr', st', ix', cn', dl', tk', wk', tc'⟩ = decide (pr' < pr) := by simp [klt, h1]
    rw [hk]
    clear hk
    have hne : (pr == pr') = false := beq_eq_false_iff_ne.2 h1
    have hne2 : (pr != pr') = true := bne_iff_ne.2 h1
    generalize hd : decide (pr' < pr) = d
    clear h1
    go_enter Try.func63, Try.ntmps63
    go_wp2
    go_region
    all_goals (go_wp2; go_ret; exact ⟨by simp, (below2 w _ _).drew⟩)

theorem recover_d (w : World) : CallsD Try.prog 45 #[] .returning w fun e u' w' => e = .returned (.tuple #[]) ∧ u' = .returning ∧ w' = w := by
  refine callsD_of_wpS Try.func45 rfl fun c₀ cs hu => ?_
  apply wpS_region
  simp [wpOpsS, go_sem, recoverD, hu, Try.ntmps45, bodyPostS, results, Try.results45]
  cases c₀
  simp_all

set_option maxHeartbeats 400000 in
theorem less_any (p q : Nat) (a b : Itm) (w : World) (ha : ItR w p a) (hb : ItR w q b) : Calls Try.prog 44 #[.pointer (some ⟨p, 0, none⟩), .pointer (some ⟨q, 0, none⟩)] w fun e w' => e = .returned (.bool (klt a b)) ∧ Below w.heap.size w w' := by
  have hm : ∀ w : World, (method 219 55 (.pointer (some ⟨p, 0, none⟩)) "Less").run Try.prog w = .ok (63, .pointer (some ⟨p, 0, none⟩)) w := fun _ => by kernel_rfl
  have hc := fun w ha hb => pless_any p q a b w ha hb
  generalize klt a b = d at *
  have HA := hidOf ha
  have HB := hidOf hb
  clear ha hb
  go_enter_defers Try.func44, Try.ntmps44
  go_wp2_with (go_at_call 63; refine (hc _ HA.out HB.out).mono ?_; rintro e w' ⟨rfl, hb⟩)
  refine leaves_cons (f := 45) (args := #[]) (by simp) (by simp [go_sem]) ?_
  refine (recover_d _).mono ?_
  rintro e u' w'' ⟨rfl, rfl, rfl⟩
  exact ⟨_, results_tmp rfl _ _ _, rfl, hb⟩

/- what stands in a heap: an item's block, the item, how many were pushed ahead of it -/
structure It where
  p : Nat
  x : Itm
  c : Int
deriving DecidableEq
instance : Inhabited It := ⟨⟨0, default, 0⟩⟩
def bef (a b : It) : Bool := klt a.x b.x || (decide (a.c < b.c) && !klt b.x a.x)
def Kn (w : World) (a : It) : Prop := ItR w a.p a.x

set_option maxHeartbeats 800000 in
theorem before_any (a b : It) (w : World) (hka : Kn w a) (hkb : Kn w b) : Calls Try.prog 43 #[.agg #[.pointer (some ⟨a.p, 0, none⟩), .int .i64 a.c], .agg #[.pointer (some ⟨b.p, 0, none⟩), .int .i64 b.c]] w fun e w' => e = .returned (.bool (bef a b)) ∧ Below w.heap.size w w' := by
  obtain ⟨p, x, c⟩ := a
  obtain ⟨q, y, c'⟩ := b
  have ha : ItR w p x := hka
  have hb : ItR w q y := hkb
  have hc1 := fun w ha hb => less_any p q x y w ha hb
  have hc2 := fun w ha hb => less_any q p y x w hb ha
  simp only [bef]
  generalize klt x y = d1 at *
  generalize klt y x = d2 at *
  have HA := hidOf ha
  have HB := hidOf hb
  have hB2 : ∀ a b : Obj, Below w.heap.size w ((w.alloc a).alloc b) := below2 w
  clear ha hb hka hkb
  cases d1
  · by_cases h : c < c'
    · rw [decide_eq_true h]
      go_enter Try.func43, Try.ntmps43
      go_wp2_with (first
        | (go_at_call 44; refine (hc1 _ (HA.out.grow (hB2 _ _)) (HB.out.grow (hB2 _ _))).mono ?_; rintro e w' ⟨rfl, hb⟩; have c0 := cell_new2a _ _ _ _ hb _ _ rfl 0; have c1 := cell_new2a _ _ _ _ hb _ _ rfl 1; have d0 := cell_new2b _ _ _ _ hb _ _ rfl 0; have d1 := cell_new2b _ _ _ _ hb _ _ rfl 1; simp only [List.getElem?_toArray, List.getElem?_cons_zero, List.getElem?_cons_succ] at c0 c1 d0 d1; have hbw : Hid (Below w.heap.size w w') := hidOf ((hB2 _ _).trans (hb.mono (by simp; omega))); clear hc1)
        | (go_at_call 44; refine (hc2 _ (HA.out.grow hbw.out) (HB.out.grow hbw.out)).mono ?_; rintro e w'' ⟨rfl, hb2⟩))
      go_ret
      exact ⟨by simp, hbw.out.trans (hb2.mono hbw.out.size)⟩
    · rw [decide_eq_false h]
      go_enter Try.func43, Try.ntmps43
      go_wp2_with (first
        | (go_at_call 44; refine (hc1 _ (HA.out.grow (hB2 _ _)) (HB.out.grow (hB2 _ _))).mono ?_; rintro e w' ⟨rfl, hb⟩; have c0 := cell_new2a _ _ _ _ hb _ _ rfl 0; have c1 := cell_new2a _ _ _ _ hb _ _ rfl 1; have d0 := cell_new2b _ _ _ _ hb _ _ rfl 0; have d1 := cell_new2b _ _ _ _ hb _ _ rfl 1; simp only [List.getElem?_toArray, List.getElem?_cons_zero, List.getElem?_cons_succ] at c0 c1 d0 d1; have hbw : Hid (Below w.heap.size w w') := hidOf ((hB2 _ _).trans (hb.mono (by simp; omega))); clear hc1))
      go_ret
      exact ⟨by simp, hbw.out⟩
  · go_enter Try.func43, Try.ntmps43
    go_wp2_with (go_at_call 44; refine (hc1 _ (HA.out.grow (hB2 _ _)) (HB.out.grow (hB2 _ _))).mono ?_; rintro e w' ⟨rfl, hb⟩)
    go_ret
    exact ⟨by simp, (hB2 _ _).trans (hb.mono (by simp; omega))⟩

end Go.Proofs.Ytndomlbjdppckaa
