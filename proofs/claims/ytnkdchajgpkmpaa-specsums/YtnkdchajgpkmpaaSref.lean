/- Add and Fits, of the document. -/
import Derived.Test.YtnkdchajgpkmpaaSadd
namespace Go.Proofs.Ytnkdchajgpkmpaa
open Go.RowKit

def sumB (a b : Int) : Bool := inB 0 top a && (inB 0 top b && inB 0 top (a + b))
def sumV (a b : Int) : Int := if sumB a b = true then a + b else 0
theorem sumB_true {a b : Int} (h1 : 0 ≤ a) (h2 : a ≤ 1152921504606846976) (h3 : 0 ≤ b) (h4 : b ≤ 1152921504606846976) (h5 : a ≤ 1152921504606846976 - b) : sumB a b = true := by
  unfold sumB
  rw [Bool.and_eq_true, Bool.and_eq_true, inB_true, inB_true, inB_true]
  unfold top
  omega
theorem sumB_false {a b : Int} (h : a < 0 ∨ 1152921504606846976 < a ∨ b < 0 ∨ 1152921504606846976 < b ∨ 1152921504606846976 - b < a) : sumB a b = false := by
  cases e : sumB a b with
  | false => rfl
  | true =>
    unfold sumB at e
    rw [Bool.and_eq_true, Bool.and_eq_true, inB_true, inB_true, inB_true] at e
    unfold top at e
    omega
theorem addB_sum (x y x' y' : Int) : addB x y x' y' = (sumB x x' && sumB y y') := by
  unfold addB mayR sumB
  cases inB 0 top x <;> cases inB 0 top y <;> cases inB 0 top x' <;> cases inB 0 top y' <;> simp
theorem sumV_of {a b : Int} (h : sumB a b = false) : sumV a b = 0 := by unfold sumV; rw [h]; rfl

set_option maxHeartbeats 1000000 in
theorem sum_no (a b : Int) (w : World) (h : a < 0 ∨ 1152921504606846976 < a ∨ b < 0 ∨ 1152921504606846976 < b ∨ 1152921504606846976 - b < a) : Calls Try.prog 20 #[.int .i64 a, .int .i64 b] w fun e w' => e = .returned (.tuple #[.int .i64 0, .bool false]) ∧ w' = w := by
  by_cases h1 : a < 0
  · clear h
    go_enter Try.func20, Try.ntmps20
    go_wp2
    go_ret2
    exact ⟨rfl, rfl⟩
  · by_cases h2 : 1152921504606846976 < a
    · clear h
      go_enter Try.func20, Try.ntmps20
      go_wp2
      go_ret2
      exact ⟨rfl, rfl⟩
    · by_cases h3 : b < 0
      · clear h
        go_enter Try.func20, Try.ntmps20
        go_wp2
        go_ret2
        exact ⟨rfl, rfl⟩
      · by_cases h4 : 1152921504606846976 < b
        · clear h
          go_enter Try.func20, Try.ntmps20
          go_wp2
          go_ret2
          exact ⟨rfl, rfl⟩
        · have h5 : 1152921504606846976 - b < a := by omega
          clear h
          have k3 : 0 ≤ b := by omega
          have k4 : b ≤ 1152921504606846976 := by omega
          go_enter Try.func20, Try.ntmps20
          go_wp2
          go_ret2
          exact ⟨rfl, rfl⟩
set_option maxHeartbeats 1000000 in
theorem sum_ok (a b : Int) (w : World) (h1 : 0 ≤ a) (h2 : a ≤ 1152921504606846976) (h3 : 0 ≤ b) (h4 : b ≤ 1152921504606846976) (h5 : a ≤ 1152921504606846976 - b) : Calls Try.prog 20 #[.int .i64 a, .int .i64 b] w fun e w' => e = .returned (.tuple #[.int .i64 (a + b), .bool true]) ∧ w' = w := by
  have k1 : ¬ a < 0 := by omega
  have k2 : ¬ 1152921504606846976 < a := by omega
  have k3 : ¬ b < 0 := by omega
  have k4 : ¬ 1152921504606846976 < b := by omega
  have k5 : ¬ 1152921504606846976 - b < a := by omega
  go_enter Try.func20, Try.ntmps20
  go_wp2
  go_ret2
  exact ⟨rfl, rfl⟩
theorem sum_any (a b : Int) (w : World) : Calls Try.prog 20 #[.int .i64 a, .int .i64 b] w fun e w' => e = .returned (.tuple #[.int .i64 (sumV a b), .bool (sumB a b)]) ∧ w' = w := by
  by_cases h : a < 0 ∨ 1152921504606846976 < a ∨ b < 0 ∨ 1152921504606846976 < b ∨ 1152921504606846976 - b < a
  · have e := sumB_false h
    unfold sumV
    rw [e]
    exact sum_no a b w h
  · have h1 : 0 ≤ a := by omega
    have h2 : a ≤ 1152921504606846976 := by omega
    have h3 : 0 ≤ b := by omega
    have h4 : b ≤ 1152921504606846976 := by omega
    have h5 : a ≤ 1152921504606846976 - b := by omega
    have e := sumB_true h1 h2 h3 h4 h5
    unfold sumV
    rw [e]
    exact sum_ok a b w h1 h2 h3 h4 h5

set_option maxHeartbeats 2000000 in
theorem refAdd_any (x y x' y' : Int) (w : World) : Calls Try.prog 14 #[.agg #[.int .i64 x, .int .i64 y], .agg #[.int .i64 x', .int .i64 y']] w fun e w' => e = .returned (.tuple #[.agg #[.int .i64 (addC x y x' y'), .int .i64 (addM x y x' y')], .bool (addB x y x' y')]) ∧ Below w.heap.size w w' := by
  have HS1 := sum_any x x'
  have HS2 := sum_any y y'
  have e1 := addB_sum x y x' y'
  have e2 : addC x y x' y' = if (sumB x x' && sumB y y') = true then x + x' else 0 := by unfold addC; rw [e1]
  have e3 : addM x y x' y' = if (sumB x x' && sumB y y') = true then y + y' else 0 := by unfold addM; rw [e1]
  rw [e1, e2, e3]
  clear e1 e2 e3
  cases h1 : sumB x x' with
  | false =>
    rw [h1] at HS1
    rw [show sumV x x' = 0 from sumV_of h1] at HS1
    clear h1
    generalize sumB y y' = d at *
    generalize sumV y y' = v at *
    go_enter Try.func14, Try.ntmps14
    go_wp2_with (first
      | (go_at_call 20; refine (HS1 _).mono ?_; rintro e w1 ⟨rfl, rfl⟩; clear HS1)
      | (go_at_call 20; refine (HS2 _).mono ?_; rintro e w1 ⟨rfl, rfl⟩; clear HS2))
    exact bodyPost_ret (results_pair Try.results14 _ _ (w.heap.size + 1 + 1) 0 0 (.bool false) rfl rfl (FtS.begin w x y x' y' 0 0).r) rfl ⟨rfl, (FtS.begin w x y x' y' 0 0).bel⟩
  | true =>
    rw [h1] at HS1
    rw [show sumV x x' = x + x' by unfold sumV; rw [h1]; rfl] at HS1
    clear h1
    cases h2 : sumB y y' with
    | false =>
      rw [h2] at HS2
      rw [show sumV y y' = 0 from sumV_of h2] at HS2
      clear h2
      go_enter Try.func14, Try.ntmps14
      go_wp2_with (first
        | (go_at_call 20; refine (HS1 _).mono ?_; rintro e w1 ⟨rfl, rfl⟩; clear HS1)
        | (go_at_call 20; refine (HS2 _).mono ?_; rintro e w1 ⟨rfl, rfl⟩; clear HS2))
      exact bodyPost_ret (results_pair Try.results14 _ _ (w.heap.size + 1 + 1) 0 0 (.bool false) rfl rfl (FtS.begin w x y x' y' 0 0).r) rfl ⟨rfl, (FtS.begin w x y x' y' 0 0).bel⟩
    | true =>
      rw [h2] at HS2
      rw [show sumV y y' = y + y' by unfold sumV; rw [h2]; rfl] at HS2
      clear h2
      go_enter Try.func14, Try.ntmps14
      go_wp2_with (first
        | (go_at_call 20; refine (HS1 _).mono ?_; rintro e w1 ⟨rfl, rfl⟩; clear HS1)
        | (go_at_call 20; refine (HS2 _).mono ?_; rintro e w1 ⟨rfl, rfl⟩; clear HS2))
      exact bodyPost_ret (results_pair Try.results14 _ _ (w.heap.size + 1 + 1) (x + x') (y + y') (.bool true) rfl rfl (FtS.begin w x y x' y' _ _).r) rfl ⟨rfl, (FtS.begin w x y x' y' _ _).bel⟩

set_option maxHeartbeats 2000000 in
theorem refFits_any (x y x' y' p q : Int) (w : World) : Calls Try.prog 16 #[.agg #[.int .i64 x, .int .i64 y], .agg #[.int .i64 x', .int .i64 y'], .agg #[.int .i64 p, .int .i64 q]] w fun e w' => e = .returned (.bool (fitB x y x' y' p q)) ∧ Below w.heap.size w w' := by
  have H0 := hidOf (FtS.begin w x y x' y' p q)
  have HA := refAdd_any x y x' y'
  rw [fit_val]
  generalize addC x y x' y' = c at *
  generalize addM x y x' y' = m at *
  generalize addB x y x' y' = d at *
  cases d
  · go_enter Try.func16, Try.ntmps16
    go_wp2_with (go_at_call 14; refine (HA _).mono ?_; rintro e w1 ⟨rfl, hb⟩; have H1 := hidOf (H0.out.grow hb); clear hb HA; have r0 := fun o => (H1.out.r.grow (below1 w1 o)).c0; have r1 := fun o => (H1.out.r.grow (below1 w1 o)).c1; have l2 : ∀ o, w.heap.size + 1 + 1 < (w1.alloc o).heap.size := (fun o => (H1.out.r.grow (below1 w1 o)).lt))
    go_ret
    exact ⟨rfl, H1.out.bel.alloc H1.out.bel.size _⟩
  · by_cases h1 : c ≤ p
    · rw [decide_eq_true h1]
      go_enter Try.func16, Try.ntmps16
      go_wp2_with (go_at_call 14; refine (HA _).mono ?_; rintro e w1 ⟨rfl, hb⟩; have H1 := hidOf (H0.out.grow hb); clear hb HA; have r0 := fun o => (H1.out.r.grow (below1 w1 o)).c0; have r1 := fun o => (H1.out.r.grow (below1 w1 o)).c1; have l2 : ∀ o, w.heap.size + 1 + 1 < (w1.alloc o).heap.size := (fun o => (H1.out.r.grow (below1 w1 o)).lt))
      go_ret
      exact ⟨rfl, H1.out.bel.alloc H1.out.bel.size _⟩
    · rw [decide_eq_false h1]
      go_enter Try.func16, Try.ntmps16
      go_wp2_with (go_at_call 14; refine (HA _).mono ?_; rintro e w1 ⟨rfl, hb⟩; have H1 := hidOf (H0.out.grow hb); clear hb HA; have r0 := fun o => (H1.out.r.grow (below1 w1 o)).c0; have r1 := fun o => (H1.out.r.grow (below1 w1 o)).c1; have l2 : ∀ o, w.heap.size + 1 + 1 < (w1.alloc o).heap.size := (fun o => (H1.out.r.grow (below1 w1 o)).lt))
      go_ret
      exact ⟨rfl, H1.out.bel.alloc H1.out.bel.size _⟩
end Go.Proofs.Ytnkdchajgpkmpaa
