/- What fits, what is left, and which is better, of the code. -/
import Derived.Test.YtajfhknfknedmaaXm
import Derived.Test.YtajfhknfknedmaaLf
import Derived.Laws.Runes
namespace Go.Proofs.Ytajfhknfknedmaa
open Go.RowKit Go.Shelf
attribute [local go_sem] Oper.semAt_some
def fitB (x y x' y' p q : Int) : Bool := addB x y x' y' && (decide (x + x' ≤ p) && decide (y + y' ≤ q))
theorem fit_val (x y x' y' p q : Int) : fitB x y x' y' p q = (addB x y x' y' && (decide (addC x y x' y' ≤ p) && decide (addM x y x' y' ≤ q))) := by
  unfold fitB addC addM
  cases h : addB x y x' y' <;> simp
set_option maxHeartbeats 2000000 in
theorem fits_any (x y x' y' p q : Int) (w : World) : Calls Try.prog 20 #[.agg #[.int .i64 x, .int .i64 y], .agg #[.int .i64 x', .int .i64 y'], .agg #[.int .i64 p, .int .i64 q]] w fun e w' => e = .returned (.bool (fitB x y x' y' p q)) ∧ Below w.heap.size w w' := by
  have H0 := hidOf (FtS.begin w x y x' y' p q)
  have HA := add_any x y x' y'
  rw [fit_val]
  generalize addC x y x' y' = c at *
  generalize addM x y x' y' = m at *
  generalize addB x y x' y' = d at *
  cases d
  · go_enter Try.func20, Try.ntmps20
    go_wp2_with (go_at_call 26; refine (HA _).mono ?_; rintro e w1 ⟨rfl, hb⟩; have H1 := hidOf (H0.out.grow hb); clear hb HA; have r0 := fun o => (H1.out.r.grow (below1 w1 o)).c0; have r1 := fun o => (H1.out.r.grow (below1 w1 o)).c1; have l2 : ∀ o, w.heap.size + 1 + 1 < (w1.alloc o).heap.size := (fun o => (H1.out.r.grow (below1 w1 o)).lt))
    go_ret
    exact ⟨rfl, H1.out.bel.alloc H1.out.bel.size _⟩
  · by_cases h1 : c ≤ p
    · rw [decide_eq_true h1]
      go_enter Try.func20, Try.ntmps20
      go_wp2_with (go_at_call 26; refine (HA _).mono ?_; rintro e w1 ⟨rfl, hb⟩; have H1 := hidOf (H0.out.grow hb); clear hb HA; have r0 := fun o => (H1.out.r.grow (below1 w1 o)).c0; have r1 := fun o => (H1.out.r.grow (below1 w1 o)).c1; have l2 : ∀ o, w.heap.size + 1 + 1 < (w1.alloc o).heap.size := (fun o => (H1.out.r.grow (below1 w1 o)).lt))
      go_ret
      exact ⟨rfl, H1.out.bel.alloc H1.out.bel.size _⟩
    · rw [decide_eq_false h1]
      go_enter Try.func20, Try.ntmps20
      go_wp2_with (go_at_call 26; refine (HA _).mono ?_; rintro e w1 ⟨rfl, hb⟩; have H1 := hidOf (H0.out.grow hb); clear hb HA; have r0 := fun o => (H1.out.r.grow (below1 w1 o)).c0; have r1 := fun o => (H1.out.r.grow (below1 w1 o)).c1; have l2 : ∀ o, w.heap.size + 1 + 1 < (w1.alloc o).heap.size := (fun o => (H1.out.r.grow (below1 w1 o)).lt))
      go_ret
      exact ⟨rfl, H1.out.bel.alloc H1.out.bel.size _⟩
set_option maxHeartbeats 2000000 in
theorem left_any (x y a b p q : Int) (w : World) (hx : 0 ≤ x) (hy : 0 ≤ y) (ha : 0 ≤ a) (hb : 0 ≤ b) (hp : x + a ≤ p) (hq : y + b ≤ q) (hp1 : p ≤ 2305843009213693952) (hq1 : q ≤ 2305843009213693952) :
    Calls Try.prog 21 #[.agg #[.int .i64 x, .int .i64 y], .agg #[.int .i64 a, .int .i64 b], .agg #[.int .i64 p, .int .i64 q]] w fun e w' => e = .returned (.int .u64 ((p - (x + a)) + (q - (y + b)))) ∧ Below w.heap.size w w' := by
  have H0 := hidOf (FtS.begin w x y a b p q)
  go_enter Try.func21, Try.ntmps21
  go_wp2
  go_ret
  refine ⟨?_, H0.out.bel⟩
  show Ending.returned (.int .u64 (p - x - a + (q - y - b))) = _
  rw [show p - x - a + (q - y - b) = p - (x + a) + (q - (y + b)) by omega]
theorem below3 (w : World) (a b : Obj) (i : Nat) (h : i ≤ w.heap.size) : Below i w ((w.alloc a).alloc b) := ((Below.refl _ w).alloc h _).alloc (by simp; omega) _
set_option maxHeartbeats 2000000 in
theorem better_any (i l j k : Int) (w : World) : Calls Try.prog 15 #[.agg #[.int .i64 i, .int .u64 l], .agg #[.int .i64 j, .int .u64 k]] w fun e w' => e = .returned (.bool (bt (i, l) (j, k))) ∧ Below w.heap.size w w' := by
  have HB := hidOf (below2 w (.cells #[.int .i64 i, .int .u64 l] 53) (.cells #[.int .i64 j, .int .u64 k] 53))
  by_cases h1 : l < k
  · have e : bt (i, l) (j, k) = true := by simp [bt, h1]
    rw [e]
    clear e
    go_enter Try.func15, Try.ntmps15
    go_wp2
    go_ret
    exact ⟨rfl, HB.out⟩
  · by_cases h2 : l = k
    · subst h2
      by_cases h3 : i < j
      · have e : bt (i, l) (j, l) = true := by simp [bt, h3]
        rw [e]
        clear e
        go_enter Try.func15, Try.ntmps15
        go_wp2
        go_ret
        exact ⟨rfl, HB.out⟩
      · have e : bt (i, l) (j, l) = false := by simp [bt, h3]
        rw [e]
        clear e
        go_enter Try.func15, Try.ntmps15
        go_wp2
        go_ret
        exact ⟨rfl, HB.out⟩
    · have e : bt (i, l) (j, k) = false := by simp [bt, h1, h2]
      have e2 : (l == k) = false := by simp [h2]
      rw [e]
      clear e h2
      go_enter Try.func15, Try.ntmps15
      go_wp2
      go_ret
      exact ⟨rfl, HB.out⟩
end Go.Proofs.Ytajfhknfknedmaa
