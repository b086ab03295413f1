/- The heap's tests: less (with its deferred recover), before, equal. Each makes new blocks and touches none that was there. -/
import Derived.Test.YtmkbndiliehdcaaProg
import Derived.WalkLawsBesides
import Derived.KernelRfl
import Derived.Defers
import Derived.Recover
import Derived.ProofKit
namespace Go.Proofs.Ytmkbndiliehdcaa
open Go.RowKit

theorem recover_d (w : World) : CallsD Try.prog 32 #[] .returning w fun e u' w' => e = .returned (.tuple #[]) ∧ u' = .returning ∧ w' = w := by
  refine callsD_of_wpS Try.func32 rfl fun c₀ cs hu => ?_
  apply wpS_region
  simp [wpOpsS, go_sem, recoverD, hu, Try.ntmps32, bodyPostS, results, Try.results32]
  cases c₀
  simp_all

theorem below2 (w : World) (a b : Obj) : Below w.heap.size w ((w.alloc a).alloc b) := ((Below.refl _ w).alloc (Nat.le_refl _) _).alloc (by simp) _
set_option maxHeartbeats 400000 in
theorem pless_any (k t k' t' : Int) (w : World) : Calls Try.prog 48 #[.agg #[.int .i64 k, .int .i64 t], .agg #[.int .i64 k', .int .i64 t']] w fun e w' => e = .returned (.bool (decide (k < k'))) ∧ Below w.heap.size w w' := by
  by_cases h : k < k'
  · rw [decide_eq_true h]
    go_enter Try.func48, Try.ntmps48
    go_wp2
    go_ret
    exact ⟨rfl, below2 w _ _⟩
  · rw [decide_eq_false h]
    go_enter Try.func48, Try.ntmps48
    go_wp2
    go_ret
    exact ⟨rfl, below2 w _ _⟩

set_option maxHeartbeats 400000 in
theorem less_any (k t k' t' : Int) (w : World) : Calls Try.prog 31 #[.agg #[.int .i64 k, .int .i64 t], .agg #[.int .i64 k', .int .i64 t']] w fun e w' => e = .returned (.bool (decide (k < k'))) ∧ Below w.heap.size w w' := by
  have hm : ∀ w : World, (method 182 26 (.agg #[.int .i64 k, .int .i64 t]) "Less").run Try.prog w = .ok (48, .agg #[.int .i64 k, .int .i64 t]) w := fun _ => by kernel_rfl
  generalize hd : decide (k < k') = d
  have hc := fun w => pless_any k t k' t' w
  rw [hd] at hc
  clear hd
  go_enter_defers Try.func31, Try.ntmps31
  go_wp2_with (go_at_call 48; refine (hc _).mono ?_; rintro e w' ⟨rfl, hb⟩)
  refine leaves_cons (f := 32) (args := #[]) (by simp) (by simp [go_sem]) ?_
  refine (recover_d _).mono ?_
  rintro e u' w'' ⟨rfl, rfl, rfl⟩
  exact ⟨_, results_tmp rfl _ _ _, rfl, (below2 w _ _).trans (hb.mono (by simp; omega))⟩

structure It where
  k : Int
  t : Int
  c : Int
deriving DecidableEq
instance : Inhabited It := ⟨⟨0, 0, 0⟩⟩
def bef (a b : It) : Bool := decide (a.k < b.k) || (decide (a.c < b.c) && !decide (b.k < a.k))

theorem cell_new2a (w : World) (a b : Obj) (w' : World) (hb : Below ((w.alloc a).alloc b).heap.size ((w.alloc a).alloc b) w') (cs : Array Value) (ty : TypeId) (ha : a = .cells cs ty) (j : Nat) : w'.cell? ⟨w.heap.size, j, none⟩ = cs[j]? := by
  subst ha
  rw [hb.cell (p := ⟨w.heap.size, j, none⟩) (by simp; omega)]
  simp [go_sem]
theorem cell_new2b (w : World) (a b : Obj) (w' : World) (hb : Below ((w.alloc a).alloc b).heap.size ((w.alloc a).alloc b) w') (cs : Array Value) (ty : TypeId) (ha : b = .cells cs ty) (j : Nat) : w'.cell? ⟨w.heap.size + 1, j, none⟩ = cs[j]? := by
  subst ha
  rw [hb.cell (p := ⟨w.heap.size + 1, j, none⟩) (by simp)]
  simp [go_sem]

set_option maxHeartbeats 800000 in
theorem before_any (a b : It) (w : World) : Calls Try.prog 29 #[.agg #[.int .i64 a.k, .int .i64 a.t, .int .i64 a.c], .agg #[.int .i64 b.k, .int .i64 b.t, .int .i64 b.c]] w fun e w' => e = .returned (.bool (bef a b)) ∧ Below w.heap.size w w' := by
  obtain ⟨k, t, c⟩ := a
  obtain ⟨k', t', c'⟩ := b
  have hc1 := fun w => less_any k t k' t' w
  have hc2 := fun w => less_any k' t' k t w
  simp only [bef]
  generalize decide (k < k') = d1 at *
  generalize decide (k' < k) = d2 at *
  cases d1
  · by_cases h : c < c'
    · rw [decide_eq_true h]
      go_enter Try.func29, Try.ntmps29
      go_wp2_with (first
        | (go_at_call 31; refine (hc1 _).mono ?_; rintro e w' ⟨rfl, hb⟩; have c0 := cell_new2a _ _ _ _ hb _ _ rfl 0; have c1 := cell_new2a _ _ _ _ hb _ _ rfl 1; have c2 := cell_new2a _ _ _ _ hb _ _ rfl 2; have d0 := cell_new2b _ _ _ _ hb _ _ rfl 0; have d1 := cell_new2b _ _ _ _ hb _ _ rfl 1; have d2 := cell_new2b _ _ _ _ hb _ _ rfl 2; simp only [List.getElem?_toArray, List.getElem?_cons_zero, List.getElem?_cons_succ] at c0 c1 c2 d0 d1 d2; clear hc1)
        | (go_at_call 31; refine (hc2 _).mono ?_; rintro e w'' ⟨rfl, hb2⟩))
      go_ret
      exact ⟨by simp, (below2 w _ _).trans ((hb.mono (by simp; omega)).trans (hb2.mono (Nat.le_trans (by simp; omega) hb.size)))⟩
    · rw [decide_eq_false h]
      go_enter Try.func29, Try.ntmps29
      go_wp2_with (first
        | (go_at_call 31; refine (hc1 _).mono ?_; rintro e w' ⟨rfl, hb⟩; have c0 := cell_new2a _ _ _ _ hb _ _ rfl 0; have c1 := cell_new2a _ _ _ _ hb _ _ rfl 1; have c2 := cell_new2a _ _ _ _ hb _ _ rfl 2; have d0 := cell_new2b _ _ _ _ hb _ _ rfl 0; have d1 := cell_new2b _ _ _ _ hb _ _ rfl 1; have d2 := cell_new2b _ _ _ _ hb _ _ rfl 2; simp only [List.getElem?_toArray, List.getElem?_cons_zero, List.getElem?_cons_succ] at c0 c1 c2 d0 d1 d2; clear hc1))
      go_ret
      exact ⟨by simp, (below2 w _ _).trans (hb.mono (by simp; omega))⟩
  · go_enter Try.func29, Try.ntmps29
    go_wp2_with (go_at_call 31; refine (hc1 _).mono ?_; rintro e w' ⟨rfl, hb⟩)
    go_ret
    exact ⟨by simp, (below2 w _ _).trans (hb.mono (by simp; omega))⟩

set_option maxHeartbeats 800000 in
theorem equal_any (k t k' t' : Int) (w : World) : Calls Try.prog 28 #[.agg #[.int .i64 k, .int .i64 t], .agg #[.int .i64 k', .int .i64 t']] w fun e w' => e = .returned (.bool (decide (k = k'))) ∧ Below w.heap.size w w' := by
  have hc1 := fun w => less_any k t k' t' w
  have hc2 := fun w => less_any k' t' k t w
  have he : decide (k = k') = (!decide (k < k') && !decide (k' < k)) := by
    by_cases h1 : k < k'
    · simp [h1]; omega
    · by_cases h2 : k' < k
      · simp [h1, h2]; omega
      · simp [h1, h2]; omega
  rw [he]
  clear he
  generalize decide (k < k') = d1 at *
  generalize decide (k' < k) = d2 at *
  cases d1
  · go_enter Try.func28, Try.ntmps28
    go_wp2_with (first
        | (go_at_call 31; refine (hc1 _).mono ?_; rintro e w' ⟨rfl, hb⟩; have c0 := cell_new2a _ _ _ _ hb _ _ rfl 0; have c1 := cell_new2a _ _ _ _ hb _ _ rfl 1; have d0 := cell_new2b _ _ _ _ hb _ _ rfl 0; have d1 := cell_new2b _ _ _ _ hb _ _ rfl 1; simp only [List.getElem?_toArray, List.getElem?_cons_zero, List.getElem?_cons_succ] at c0 c1 d0 d1; clear hc1)
        | (go_at_call 31; refine (hc2 _).mono ?_; rintro e w'' ⟨rfl, hb2⟩))
    go_ret
    exact ⟨by simp, (below2 w _ _).trans ((hb.mono (by simp; omega)).trans (hb2.mono (Nat.le_trans (by simp; omega) hb.size)))⟩
  · go_enter Try.func28, Try.ntmps28
    go_wp2_with (go_at_call 31; refine (hc1 _).mono ?_; rintro e w' ⟨rfl, hb⟩)
    go_ret
    exact ⟨by simp, (below2 w _ _).trans (hb.mono (by simp; omega))⟩

/- what Remove hands to DeleteFunc: x lies in block q -/
set_option maxHeartbeats 800000 in
theorem removed_any (a : It) (k t : Int) (q : Nat) (w : World) (h0 : w.cell? ⟨q, 0, none⟩ = some (.int .i64 k)) (h1 : w.cell? ⟨q, 1, none⟩ = some (.int .i64 t)) (hq : q < w.heap.size) : Calls Try.prog 27 #[.agg #[.int .i64 a.k, .int .i64 a.t, .int .i64 a.c], .pointer (some ⟨q, 0, none⟩)] w fun e w' => e = .returned (.bool (decide (a.k = k))) ∧ Below w.heap.size w w' := by
  obtain ⟨k', t', c'⟩ := a
  have hc1 := fun w => equal_any k' t' k t w
  have c0 : ∀ o : Obj, (w.alloc o).cell? ⟨q, 0, none⟩ = some (.int .i64 k) := fun o => (((Below.refl w.heap.size w).alloc (Nat.le_refl _) o).cell (p := ⟨q, 0, none⟩) hq).trans h0
  have c1 : ∀ o : Obj, (w.alloc o).cell? ⟨q, 1, none⟩ = some (.int .i64 t) := fun o => (((Below.refl w.heap.size w).alloc (Nat.le_refl _) o).cell (p := ⟨q, 1, none⟩) hq).trans h1
  clear h0 h1
  generalize decide (k' = k) = d at *
  go_enter Try.func27, Try.ntmps27
  go_wp2_with (go_at_call 28; refine (hc1 _).mono ?_; rintro e w' ⟨rfl, hb⟩)
  go_ret
  exact ⟨rfl, ((Below.refl w.heap.size w).alloc (Nat.le_refl _) _).trans (hb.mono (by simp))⟩

end Go.Proofs.Ytmkbndiliehdcaa
