/- What the reader does with records on whatever bytes, more of them: what is left; of what was read its form alone. Made by program (wip/gen/rec.py). -/
import Derived.Test.YtpbokgeaolpiaabRlb
namespace Go.Proofs.Ytpbokgeaolpiaab
open Go.RowKit

def P_eval (s : Option (List UInt8)) : Option (List UInt8) := numS (numS (numS (numS s)))
theorem P_eval_none : P_eval none = none := by
  unfold P_eval
  rw [numS_none, numS_none, numS_none, numS_none]

set_option maxHeartbeats 1000000 in
theorem eval_g {D : Nat} (p : Nat) (s : Option (List UInt8)) (w : World) (h : RG D w p s) :
    Calls Try.prog 76 #[.pointer (some ⟨p, 0, none⟩)] w fun e w' => ∃ (x0 : Int) (x1 : Int) (x2 : Int) (x3 : Int), e = .returned (.agg #[.int .i64 x0, .int .i64 x1, .int .i64 x2, .int .i64 x3]) ∧ RG D w' p (P_eval s) ∧ RS w w' p := by
  have hmf : ∀ (fn : Fn) (first cap : Array Value) (w : World), (Instr.makeFunc fn first cap).run Try.prog w = .ok (.func fn first cap) w := fun _ _ _ _ => rfl
  have hB0 : Below w.heap.size w (w.alloc (.cells #[.int .i64 0, .int .i64 0, .int .i64 0, .int .i64 0] 118)) := (Below.refl _ _).alloc (Nat.le_refl _) _
  have h0 : RG D (w.alloc (.cells #[.int .i64 0, .int .i64 0, .int .i64 0, .int .i64 0] 118)) p s := h.ext hB0 h.1 h.2.1
  have s0 : RS w (w.alloc (.cells #[.int .i64 0, .int .i64 0, .int .i64 0, .int .i64 0] 118)) p := (RS.refl _ _).alloc _
  have g0 : Hid ((w.alloc (.cells #[.int .i64 0, .int .i64 0, .int .i64 0, .int .i64 0] 118)).heap[w.heap.size]? = some (.cells #[.int .i64 0, .int .i64 0, .int .i64 0, .int .i64 0] 118 (0, 0))) := heap_alloc_new w _
  have z0 : w.heap.size < (w.alloc (.cells #[.int .i64 0, .int .i64 0, .int .i64 0, .int .i64 0] 118)).heap.size := by rw [World.size_alloc]; omega
  have hpq : Hid (p ≠ w.heap.size) := by have := h.1; show p ≠ _; omega
  have hDq : Hid (p < w.heap.size ∧ D ≤ w.heap.size) := ⟨h.1, h.2.1⟩
  clear h hB0
  go_enter Try.func76, Try.ntmps76
  go_wp2_with fail
  refine (num_g p s _ h0).mono ?_
  rintro e w1 ⟨rfl, h1, t1⟩
  have s1 := s0.trans t1
  have g1 : Hid (w1.heap[w.heap.size]? = some (.cells #[.int .i64 0, .int .i64 0, .int .i64 0, .int .i64 0] 118 (0, 0))) := (t1.block _ z0 hpq.out.symm).trans g0.out
  have z1 : w.heap.size < w1.heap.size := Nat.lt_of_lt_of_le z0 t1.size
  clear h0 t1 s0 g0 z0
  go_wp2_with fail
  refine (num_g p (numS s) _ h1).mono ?_
  rintro e w2 ⟨rfl, h2, t2⟩
  have s2 := s1.trans t2
  have g2 : Hid (w2.heap[w.heap.size]? = some (.cells #[.int .i64 0, .int .i64 0, .int .i64 0, .int .i64 0] 118 (0, 0))) := (t2.block _ z1 hpq.out.symm).trans g1.out
  have z2 : w.heap.size < w2.heap.size := Nat.lt_of_lt_of_le z1 t2.size
  clear h1 t2 s1 g1 z1
  go_wp2_with fail
  refine (num_g p (numS (numS s)) _ h2).mono ?_
  rintro e w3 ⟨rfl, h3, t3⟩
  have s3 := s2.trans t3
  have g3 : Hid (w3.heap[w.heap.size]? = some (.cells #[.int .i64 0, .int .i64 0, .int .i64 0, .int .i64 0] 118 (0, 0))) := (t3.block _ z2 hpq.out.symm).trans g2.out
  have z3 : w.heap.size < w3.heap.size := Nat.lt_of_lt_of_le z2 t3.size
  clear h2 t3 s2 g2 z2
  go_wp2_with fail
  refine (num_g p (numS (numS (numS s))) _ h3).mono ?_
  rintro e w4 ⟨rfl, h4, t4⟩
  have s4 := s3.trans t4
  have g4 : Hid (w4.heap[w.heap.size]? = some (.cells #[.int .i64 0, .int .i64 0, .int .i64 0, .int .i64 0] 118 (0, 0))) := (t4.block _ z3 hpq.out.symm).trans g3.out
  have z4 : w.heap.size < w4.heap.size := Nat.lt_of_lt_of_le z3 t4.size
  clear h3 t4 s3 g3 z3
  have I0 : Hid ((Try.prog.info? 118).map (·.size) = some (#[.int .i64 (numV s), .int .i64 (numV (numS s)), .int .i64 (numV (numS (numS s))), .int .i64 (numV (numS (numS (numS s))))] : Array Value).size) := by show _ = _; kernel_rfl
  have O0 : Hid ((#[.int .i64 (numV s), .int .i64 (numV (numS s)), .int .i64 (numV (numS (numS s))), .int .i64 (numV (numS (numS (numS s))))] : Array Value).all (·.oneCell') = true) := by show _ = _; kernel_rfl
  go_wp2_with (refine wpList_store_row rfl 118 (.tmp 2) (.tmp 11) rfl w.heap.size #[.int .i64 (numV s), .int .i64 (numV (numS s)), .int .i64 (numV (numS (numS s))), .int .i64 (numV (numS (numS (numS s))))] rfl rfl 118 #[.int .i64 0, .int .i64 0, .int .i64 0, .int .i64 0] g4.out I0.out rfl O0.out ?_)
  refine bodyPost_ret (v := .agg #[.int .i64 (numV s), .int .i64 (numV (numS s)), .int .i64 (numV (numS (numS s))), .int .i64 (numV (numS (numS (numS s))))]) ?_ rfl ⟨_, _, _, _, rfl, ?_, ?_⟩
  · refine results_cell_row Try.results76 _ _ w.heap.size 118 _ (0, 0) _ ?_ (setRow_heap w4 w.heap.size _ _ 118 _ g4.out) Try.underlying118 rfl I0.out
    rfl
  · exact h4.ext ⟨rfl, rfl, rfl, by simp [World.setRow], fun k hk => setRow_other _ _ _ _ (by omega)⟩ hDq.out.1 hDq.out.2
  · exact s4.setRow (Nat.le_refl _) _


def P_deploy (s : Option (List UInt8)) : Option (List UInt8) := numS (numS (numS (numS s)))
theorem P_deploy_none : P_deploy none = none := by
  unfold P_deploy
  rw [numS_none, numS_none, numS_none, numS_none]

set_option maxHeartbeats 1000000 in
theorem deploy_g {D : Nat} (p : Nat) (s : Option (List UInt8)) (w : World) (h : RG D w p s) :
    Calls Try.prog 78 #[.pointer (some ⟨p, 0, none⟩)] w fun e w' => ∃ (x0 : Int) (x1 : Int) (x2 : Int) (x3 : Int), e = .returned (.agg #[.int .i64 x0, .int .i64 x1, .int .i64 x2, .int .i64 x3]) ∧ RG D w' p (P_deploy s) ∧ RS w w' p := by
  have hmf : ∀ (fn : Fn) (first cap : Array Value) (w : World), (Instr.makeFunc fn first cap).run Try.prog w = .ok (.func fn first cap) w := fun _ _ _ _ => rfl
  have hB0 : Below w.heap.size w (w.alloc (.cells #[.int .i64 0, .int .i64 0, .int .i64 0, .int .i64 0] 122)) := (Below.refl _ _).alloc (Nat.le_refl _) _
  have h0 : RG D (w.alloc (.cells #[.int .i64 0, .int .i64 0, .int .i64 0, .int .i64 0] 122)) p s := h.ext hB0 h.1 h.2.1
  have s0 : RS w (w.alloc (.cells #[.int .i64 0, .int .i64 0, .int .i64 0, .int .i64 0] 122)) p := (RS.refl _ _).alloc _
  have g0 : Hid ((w.alloc (.cells #[.int .i64 0, .int .i64 0, .int .i64 0, .int .i64 0] 122)).heap[w.heap.size]? = some (.cells #[.int .i64 0, .int .i64 0, .int .i64 0, .int .i64 0] 122 (0, 0))) := heap_alloc_new w _
  have z0 : w.heap.size < (w.alloc (.cells #[.int .i64 0, .int .i64 0, .int .i64 0, .int .i64 0] 122)).heap.size := by rw [World.size_alloc]; omega
  have hpq : Hid (p ≠ w.heap.size) := by have := h.1; show p ≠ _; omega
  have hDq : Hid (p < w.heap.size ∧ D ≤ w.heap.size) := ⟨h.1, h.2.1⟩
  clear h hB0
  go_enter Try.func78, Try.ntmps78
  go_wp2_with fail
  refine (num_g p s _ h0).mono ?_
  rintro e w1 ⟨rfl, h1, t1⟩
  have s1 := s0.trans t1
  have g1 : Hid (w1.heap[w.heap.size]? = some (.cells #[.int .i64 0, .int .i64 0, .int .i64 0, .int .i64 0] 122 (0, 0))) := (t1.block _ z0 hpq.out.symm).trans g0.out
  have z1 : w.heap.size < w1.heap.size := Nat.lt_of_lt_of_le z0 t1.size
  clear h0 t1 s0 g0 z0
  go_wp2_with fail
  refine (num_g p (numS s) _ h1).mono ?_
  rintro e w2 ⟨rfl, h2, t2⟩
  have s2 := s1.trans t2
  have g2 : Hid (w2.heap[w.heap.size]? = some (.cells #[.int .i64 0, .int .i64 0, .int .i64 0, .int .i64 0] 122 (0, 0))) := (t2.block _ z1 hpq.out.symm).trans g1.out
  have z2 : w.heap.size < w2.heap.size := Nat.lt_of_lt_of_le z1 t2.size
  clear h1 t2 s1 g1 z1
  go_wp2_with fail
  refine (num_g p (numS (numS s)) _ h2).mono ?_
  rintro e w3 ⟨rfl, h3, t3⟩
  have s3 := s2.trans t3
  have g3 : Hid (w3.heap[w.heap.size]? = some (.cells #[.int .i64 0, .int .i64 0, .int .i64 0, .int .i64 0] 122 (0, 0))) := (t3.block _ z2 hpq.out.symm).trans g2.out
  have z3 : w.heap.size < w3.heap.size := Nat.lt_of_lt_of_le z2 t3.size
  clear h2 t3 s2 g2 z2
  go_wp2_with fail
  refine (num_g p (numS (numS (numS s))) _ h3).mono ?_
  rintro e w4 ⟨rfl, h4, t4⟩
  have s4 := s3.trans t4
  have g4 : Hid (w4.heap[w.heap.size]? = some (.cells #[.int .i64 0, .int .i64 0, .int .i64 0, .int .i64 0] 122 (0, 0))) := (t4.block _ z3 hpq.out.symm).trans g3.out
  have z4 : w.heap.size < w4.heap.size := Nat.lt_of_lt_of_le z3 t4.size
  clear h3 t4 s3 g3 z3
  have I0 : Hid ((Try.prog.info? 122).map (·.size) = some (#[.int .i64 (numV s), .int .i64 (numV (numS s)), .int .i64 (numV (numS (numS s))), .int .i64 (numV (numS (numS (numS s))))] : Array Value).size) := by show _ = _; kernel_rfl
  have O0 : Hid ((#[.int .i64 (numV s), .int .i64 (numV (numS s)), .int .i64 (numV (numS (numS s))), .int .i64 (numV (numS (numS (numS s))))] : Array Value).all (·.oneCell') = true) := by show _ = _; kernel_rfl
  go_wp2_with (refine wpList_store_row rfl 122 (.tmp 2) (.tmp 11) rfl w.heap.size #[.int .i64 (numV s), .int .i64 (numV (numS s)), .int .i64 (numV (numS (numS s))), .int .i64 (numV (numS (numS (numS s))))] rfl rfl 122 #[.int .i64 0, .int .i64 0, .int .i64 0, .int .i64 0] g4.out I0.out rfl O0.out ?_)
  refine bodyPost_ret (v := .agg #[.int .i64 (numV s), .int .i64 (numV (numS s)), .int .i64 (numV (numS (numS s))), .int .i64 (numV (numS (numS (numS s))))]) ?_ rfl ⟨_, _, _, _, rfl, ?_, ?_⟩
  · refine results_cell_row Try.results78 _ _ w.heap.size 122 _ (0, 0) _ ?_ (setRow_heap w4 w.heap.size _ _ 122 _ g4.out) Try.underlying122 rfl I0.out
    rfl
  · exact h4.ext ⟨rfl, rfl, rfl, by simp [World.setRow], fun k hk => setRow_other _ _ _ _ (by omega)⟩ hDq.out.1 hDq.out.2
  · exact s4.setRow (Nat.le_refl _) _


def P_seen (s : Option (List UInt8)) : Option (List UInt8) := P_result (numS (numS s))
theorem P_seen_none : P_seen none = none := by
  unfold P_seen
  rw [numS_none, numS_none, P_result_none]

set_option maxHeartbeats 1000000 in
theorem seen_g {D : Nat} (p : Nat) (s : Option (List UInt8)) (w : World) (h : RG D w p s) :
    Calls Try.prog 80 #[.pointer (some ⟨p, 0, none⟩)] w fun e w' => ∃ (x0 : Int) (x1 : Int) (x2 : Int) (x3 : Int) (x4a : Option Addr) (x4n x4c : Nat), e = .returned (.agg #[.int .i64 x0, .int .i64 x1, .int .i64 x2, .int .i64 x3, .slice x4a x4n x4c]) ∧ RG D w' p (P_seen s) ∧ RS w w' p := by
  have hmf : ∀ (fn : Fn) (first cap : Array Value) (w : World), (Instr.makeFunc fn first cap).run Try.prog w = .ok (.func fn first cap) w := fun _ _ _ _ => rfl
  have hB0 : Below w.heap.size w (w.alloc (.cells #[.int .i64 0, .int .i64 0, .int .i64 0, .int .i64 0, .slice none 0 0] 126)) := (Below.refl _ _).alloc (Nat.le_refl _) _
  have h0 : RG D (w.alloc (.cells #[.int .i64 0, .int .i64 0, .int .i64 0, .int .i64 0, .slice none 0 0] 126)) p s := h.ext hB0 h.1 h.2.1
  have s0 : RS w (w.alloc (.cells #[.int .i64 0, .int .i64 0, .int .i64 0, .int .i64 0, .slice none 0 0] 126)) p := (RS.refl _ _).alloc _
  have g0 : Hid ((w.alloc (.cells #[.int .i64 0, .int .i64 0, .int .i64 0, .int .i64 0, .slice none 0 0] 126)).heap[w.heap.size]? = some (.cells #[.int .i64 0, .int .i64 0, .int .i64 0, .int .i64 0, .slice none 0 0] 126 (0, 0))) := heap_alloc_new w _
  have z0 : w.heap.size < (w.alloc (.cells #[.int .i64 0, .int .i64 0, .int .i64 0, .int .i64 0, .slice none 0 0] 126)).heap.size := by rw [World.size_alloc]; omega
  have hpq : Hid (p ≠ w.heap.size) := by have := h.1; show p ≠ _; omega
  have hDq : Hid (p < w.heap.size ∧ D ≤ w.heap.size) := ⟨h.1, h.2.1⟩
  clear h hB0
  go_enter Try.func80, Try.ntmps80
  go_wp2_with fail
  refine (num_g p s _ h0).mono ?_
  rintro e w1 ⟨rfl, h1, t1⟩
  have s1 := s0.trans t1
  have g1 : Hid (w1.heap[w.heap.size]? = some (.cells #[.int .i64 0, .int .i64 0, .int .i64 0, .int .i64 0, .slice none 0 0] 126 (0, 0))) := (t1.block _ z0 hpq.out.symm).trans g0.out
  have z1 : w.heap.size < w1.heap.size := Nat.lt_of_lt_of_le z0 t1.size
  clear h0 t1 s0 g0 z0
  go_wp2_with fail
  refine (num_g p (numS s) _ h1).mono ?_
  rintro e w2 ⟨rfl, h2, t2⟩
  have s2 := s1.trans t2
  have g2 : Hid (w2.heap[w.heap.size]? = some (.cells #[.int .i64 0, .int .i64 0, .int .i64 0, .int .i64 0, .slice none 0 0] 126 (0, 0))) := (t2.block _ z1 hpq.out.symm).trans g1.out
  have z2 : w.heap.size < w2.heap.size := Nat.lt_of_lt_of_le z1 t2.size
  clear h1 t2 s1 g1 z1
  go_wp2_with fail
  refine (result_g p (numS (numS s)) _ h2).mono ?_
  rintro e w3 ⟨y3_0, y3_1, y3_2a, y3_2n, y3_2c, rfl, h3, t3⟩
  have s3 := s2.trans t3
  have g3 : Hid (w3.heap[w.heap.size]? = some (.cells #[.int .i64 0, .int .i64 0, .int .i64 0, .int .i64 0, .slice none 0 0] 126 (0, 0))) := (t3.block _ z2 hpq.out.symm).trans g2.out
  have z3 : w.heap.size < w3.heap.size := Nat.lt_of_lt_of_le z2 t3.size
  clear h2 t3 s2 g2 z2
  have I0 : Hid ((Try.prog.info? 126).map (·.size) = some (#[.int .i64 (numV s), .int .i64 (numV (numS s)), .int .i64 y3_0, .int .i64 y3_1, .slice y3_2a y3_2n y3_2c] : Array Value).size) := by show _ = _; kernel_rfl
  have O0 : Hid ((#[.int .i64 (numV s), .int .i64 (numV (numS s)), .int .i64 y3_0, .int .i64 y3_1, .slice y3_2a y3_2n y3_2c] : Array Value).all (·.oneCell') = true) := by show _ = _; kernel_rfl
  go_wp2_with (refine wpList_store_row rfl 126 (.tmp 2) (.tmp 9) rfl w.heap.size #[.int .i64 (numV s), .int .i64 (numV (numS s)), .int .i64 y3_0, .int .i64 y3_1, .slice y3_2a y3_2n y3_2c] rfl rfl 126 #[.int .i64 0, .int .i64 0, .int .i64 0, .int .i64 0, .slice none 0 0] g3.out I0.out rfl O0.out ?_)
  refine bodyPost_ret (v := .agg #[.int .i64 (numV s), .int .i64 (numV (numS s)), .int .i64 y3_0, .int .i64 y3_1, .slice y3_2a y3_2n y3_2c]) ?_ rfl ⟨_, _, _, _, _, _, _, rfl, ?_, ?_⟩
  · refine results_cell_row Try.results80 _ _ w.heap.size 126 _ (0, 0) _ ?_ (setRow_heap w3 w.heap.size _ _ 126 _ g3.out) Try.underlying126 rfl I0.out
    rfl
  · exact h3.ext ⟨rfl, rfl, rfl, by simp [World.setRow], fun k hk => setRow_other _ _ _ _ (by omega)⟩ hDq.out.1 hDq.out.2
  · exact s3.setRow (Nat.le_refl _) _


theorem listJob_g_info : (Try.prog.info? 56).map (fun i => (i.zero, i.size, i.bytes)) = some (some (.agg #[.int .i64 0, .int .i64 0, .int .i64 0, .int .i64 0, .slice none 0 0, .int .i64 0, .bool false]), 7, 72) := by kernel_rfl

set_option maxHeartbeats 800000 in
theorem listJob_g {D : Nat} (p : Nat) (s : Option (List UInt8)) (w : World) (h : RG D w p s) :
    Calls Try.prog 69 #[.pointer (some ⟨p, 0, none⟩), .func (.func 70) #[.pointer (some ⟨p, 0, none⟩)] #[]] w fun e w' => ∃ (a : Option Addr) (n c : Nat), e = .returned (.slice a n c) ∧ RG D w' p (lstS P_job s) ∧ RS w w' p := by
  obtain ⟨i0, hi, hz0, hz1, hz2⟩ := info_parts listJob_g_info
  have hp0 := h.1
  have hD0 := h.2.1
  go_enter Try.func69, Try.ntmps69
  go_wp2_with fail
  refine (count_g p s _ w (by omega) (by omega) h).mono ?_
  rintro e w1 ⟨rfl, r1, s1, hn⟩
  have HL : Hid (lstS P_job s = itP P_job (cntV 64 s) (cntS 64 s)) := rfl
  generalize cntV 64 s = N at *
  go_wp2
  go_loopw [5, 8] (fun v i wr => ∃ k : Nat, ∃ xs : List Value, k ≤ N ∧ i = .int .i64 k ∧ RG D wr p (itP P_job k (cntS 64 s)) ∧ RS w wr p ∧ wr.ownsRow w.heap.size 56 7 v k xs) (fun _ i _ => N - (intOf i).toNat)
  case atStart => exact ⟨0, [], Nat.zero_le _, rfl, r1, s1, World.ownsRow_nil _ _ _ _⟩
  case round =>
    obtain ⟨k, xs, hk, rfl, rk, sk, ok⟩ := hrel
    by_cases hlt : k < N
    · go_wp2_with fail
      refine (job_g p _ wr rk).mono ?_
      rintro e w2 ⟨x0, x1, x2, x3, x4a, x4n, x4c, x5, x6, rfl, r2, t2⟩
      have sk2 := sk.trans t2
      have ok2 := ownsRow_rs ok t2 hp0
      have O1 : Hid (∀ u ∈ (#[.int .i64 x0, .int .i64 x1, .int .i64 x2, .int .i64 x3, .slice x4a x4n x4c, .int .i64 x5, .bool x6] : Array Value).toList, u.oneCell' = true) := all_one _ (by kernel_rfl)
      clear t2 rk ok sk
      go_wp2_with (at_builtin; refine wpList_append_own _ rfl (.tmp 10) (.tmp 13) 22 rfl w.heap.size 56 i0 (.agg #[.int .i64 0, .int .i64 0, .int .i64 0, .int .i64 0, .slice none 0 0, .int .i64 0, .bool false]) 7 72 Try.underlying22 hi hz0 hz1 hz2 rfl (by decide) _ _ _ rfl (ok2.alloc _) ⟨w2.heap.size, 0, none⟩ 1 1 (#[.int .i64 x0, .int .i64 x1, .int .i64 x2, .int .i64 x3, .slice x4a x4n x4c, .int .i64 x5, .bool x6] : Array Value).toList rfl rfl (fun j u hj => cell_news w2 _ _ j u hj) O1.out ?c3 ?c4 ?c5 ?next)
      case c3 => unfold maxLen; omega
      case c4 => omega
      case c5 => have := sk2.size; rw [World.size_alloc]; omega
      case next =>
        intro v3 w3 ho3 hg3 _
        have hB3 : Below w.heap.size w2 w3 := ((Below.refl _ _).alloc sk2.size _).grown hg3 (by have := sk2.size; rw [World.size_alloc]; omega) (fun j hj => (ok2.lt j hj).1)
        have r3 : RG D w3 p (P_job (itP P_job k (cntS 64 s))) := r2.ext hB3 hp0 hD0
        have s3 := sk2.ext hB3
        clear hg3 r2 sk2 ok2 hB3
        cases hst : P_job (itP P_job k (cntS 64 s)) with
        | none =>
          have r4 := r3
          rw [hst] at r4
          have HN : Hid (lstS P_job s = none) := by
            show lstS P_job s = none
            rw [HL.out, show N = (k + 1) + (N - (k + 1)) by omega]
            exact itP_none P_job P_job_none _ _ _ hst
          clear hst r3
          obtain ⟨q1, q2, q3, q4, q5, q6⟩ := r4
          have r5 : Hid (RG D w3 p none) := ⟨q1, q2, q3, q4, q5, q6⟩
          go_wp2
          go_ret
          exact ⟨_, _, _, rfl, by rw [HN.out]; exact r5.out, s3⟩
        | some l3 =>
          have r4 := r3
          rw [hst] at r4
          clear hst
          obtain ⟨_, _, _, _, _, _, _, q6, _⟩ := r4
          have R3 : Hid _ := r3
          clear r3
          go_wp2
          exact ⟨⟨k + 1, _, by omega, by go_num, R3.out, s3, ho3⟩, by simp [intOf]; omega⟩
    · have hkN : k = N := by omega
      subst hkN
      obtain ⟨va, vn, vc, hv⟩ : ∃ va vn vc, u5 = Value.slice va vn vc := by
        rcases ok.2 with ⟨h, _⟩ | ⟨g, c, _, h, _⟩
        · exact ⟨_, _, _, h⟩
        · exact ⟨_, _, _, h⟩
      subst hv
      have R3 : Hid (RG D wr p (lstS P_job s)) := by show RG _ _ _ _; rw [HL.out]; exact rk
      clear rk ok
      go_wp2
      go_ret
      exact ⟨_, _, _, rfl, R3.out, sk⟩


theorem listNode_g_info : (Try.prog.info? 60).map (fun i => (i.zero, i.size, i.bytes)) = some (some (.agg #[.int .i64 0, .int .i64 0, .int .i64 0, .bool false, .bool false, .int .i64 0, .int .i64 0, .int .i64 0]), 8, 56) := by kernel_rfl

set_option maxHeartbeats 800000 in
theorem listNode_g {D : Nat} (p : Nat) (s : Option (List UInt8)) (w : World) (h : RG D w p s) :
    Calls Try.prog 71 #[.pointer (some ⟨p, 0, none⟩), .func (.func 72) #[.pointer (some ⟨p, 0, none⟩)] #[]] w fun e w' => ∃ (a : Option Addr) (n c : Nat), e = .returned (.slice a n c) ∧ RG D w' p (lstS P_node s) ∧ RS w w' p := by
  obtain ⟨i0, hi, hz0, hz1, hz2⟩ := info_parts listNode_g_info
  have hp0 := h.1
  have hD0 := h.2.1
  go_enter Try.func71, Try.ntmps71
  go_wp2_with fail
  refine (count_g p s _ w (by omega) (by omega) h).mono ?_
  rintro e w1 ⟨rfl, r1, s1, hn⟩
  have HL : Hid (lstS P_node s = itP P_node (cntV 64 s) (cntS 64 s)) := rfl
  generalize cntV 64 s = N at *
  go_wp2
  go_loopw [5, 8] (fun v i wr => ∃ k : Nat, ∃ xs : List Value, k ≤ N ∧ i = .int .i64 k ∧ RG D wr p (itP P_node k (cntS 64 s)) ∧ RS w wr p ∧ wr.ownsRow w.heap.size 60 8 v k xs) (fun _ i _ => N - (intOf i).toNat)
  case atStart => exact ⟨0, [], Nat.zero_le _, rfl, r1, s1, World.ownsRow_nil _ _ _ _⟩
  case round =>
    obtain ⟨k, xs, hk, rfl, rk, sk, ok⟩ := hrel
    by_cases hlt : k < N
    · go_wp2_with fail
      refine (node_g p _ wr rk).mono ?_
      rintro e w2 ⟨x0, x1, x2, x3, x4, x5, x6, x7, rfl, r2, t2⟩
      have sk2 := sk.trans t2
      have ok2 := ownsRow_rs ok t2 hp0
      have O1 : Hid (∀ u ∈ (#[.int .i64 x0, .int .i64 x1, .int .i64 x2, .bool x3, .bool x4, .int .i64 x5, .int .i64 x6, .int .i64 x7] : Array Value).toList, u.oneCell' = true) := all_one _ (by kernel_rfl)
      clear t2 rk ok sk
      go_wp2_with (at_builtin; refine wpList_append_own _ rfl (.tmp 10) (.tmp 13) 23 rfl w.heap.size 60 i0 (.agg #[.int .i64 0, .int .i64 0, .int .i64 0, .bool false, .bool false, .int .i64 0, .int .i64 0, .int .i64 0]) 8 56 Try.underlying23 hi hz0 hz1 hz2 rfl (by decide) _ _ _ rfl (ok2.alloc _) ⟨w2.heap.size, 0, none⟩ 1 1 (#[.int .i64 x0, .int .i64 x1, .int .i64 x2, .bool x3, .bool x4, .int .i64 x5, .int .i64 x6, .int .i64 x7] : Array Value).toList rfl rfl (fun j u hj => cell_news w2 _ _ j u hj) O1.out ?c3 ?c4 ?c5 ?next)
      case c3 => unfold maxLen; omega
      case c4 => omega
      case c5 => have := sk2.size; rw [World.size_alloc]; omega
      case next =>
        intro v3 w3 ho3 hg3 _
        have hB3 : Below w.heap.size w2 w3 := ((Below.refl _ _).alloc sk2.size _).grown hg3 (by have := sk2.size; rw [World.size_alloc]; omega) (fun j hj => (ok2.lt j hj).1)
        have r3 : RG D w3 p (P_node (itP P_node k (cntS 64 s))) := r2.ext hB3 hp0 hD0
        have s3 := sk2.ext hB3
        clear hg3 r2 sk2 ok2 hB3
        cases hst : P_node (itP P_node k (cntS 64 s)) with
        | none =>
          have r4 := r3
          rw [hst] at r4
          have HN : Hid (lstS P_node s = none) := by
            show lstS P_node s = none
            rw [HL.out, show N = (k + 1) + (N - (k + 1)) by omega]
            exact itP_none P_node P_node_none _ _ _ hst
          clear hst r3
          obtain ⟨q1, q2, q3, q4, q5, q6⟩ := r4
          have r5 : Hid (RG D w3 p none) := ⟨q1, q2, q3, q4, q5, q6⟩
          go_wp2
          go_ret
          exact ⟨_, _, _, rfl, by rw [HN.out]; exact r5.out, s3⟩
        | some l3 =>
          have r4 := r3
          rw [hst] at r4
          clear hst
          obtain ⟨_, _, _, _, _, _, _, q6, _⟩ := r4
          have R3 : Hid _ := r3
          clear r3
          go_wp2
          exact ⟨⟨k + 1, _, by omega, by go_num, R3.out, s3, ho3⟩, by simp [intOf]; omega⟩
    · have hkN : k = N := by omega
      subst hkN
      obtain ⟨va, vn, vc, hv⟩ : ∃ va vn vc, u5 = Value.slice va vn vc := by
        rcases ok.2 with ⟨h, _⟩ | ⟨g, c, _, h, _⟩
        · exact ⟨_, _, _, h⟩
        · exact ⟨_, _, _, h⟩
      subst hv
      have R3 : Hid (RG D wr p (lstS P_node s)) := by show RG _ _ _ _; rw [HL.out]; exact rk
      clear rk ok
      go_wp2
      go_ret
      exact ⟨_, _, _, rfl, R3.out, sk⟩


theorem listEval_g_info : (Try.prog.info? 118).map (fun i => (i.zero, i.size, i.bytes)) = some (some (.agg #[.int .i64 0, .int .i64 0, .int .i64 0, .int .i64 0]), 4, 32) := by kernel_rfl

set_option maxHeartbeats 800000 in
theorem listEval_g {D : Nat} (p : Nat) (s : Option (List UInt8)) (w : World) (h : RG D w p s) :
    Calls Try.prog 75 #[.pointer (some ⟨p, 0, none⟩), .func (.func 76) #[.pointer (some ⟨p, 0, none⟩)] #[]] w fun e w' => ∃ (a : Option Addr) (n c : Nat), e = .returned (.slice a n c) ∧ RG D w' p (lstS P_eval s) ∧ RS w w' p := by
  obtain ⟨i0, hi, hz0, hz1, hz2⟩ := info_parts listEval_g_info
  have hp0 := h.1
  have hD0 := h.2.1
  go_enter Try.func75, Try.ntmps75
  go_wp2_with fail
  refine (count_g p s _ w (by omega) (by omega) h).mono ?_
  rintro e w1 ⟨rfl, r1, s1, hn⟩
  have HL : Hid (lstS P_eval s = itP P_eval (cntV 64 s) (cntS 64 s)) := rfl
  generalize cntV 64 s = N at *
  go_wp2
  go_loopw [5, 8] (fun v i wr => ∃ k : Nat, ∃ xs : List Value, k ≤ N ∧ i = .int .i64 k ∧ RG D wr p (itP P_eval k (cntS 64 s)) ∧ RS w wr p ∧ wr.ownsRow w.heap.size 118 4 v k xs) (fun _ i _ => N - (intOf i).toNat)
  case atStart => exact ⟨0, [], Nat.zero_le _, rfl, r1, s1, World.ownsRow_nil _ _ _ _⟩
  case round =>
    obtain ⟨k, xs, hk, rfl, rk, sk, ok⟩ := hrel
    by_cases hlt : k < N
    · go_wp2_with fail
      refine (eval_g p _ wr rk).mono ?_
      rintro e w2 ⟨x0, x1, x2, x3, rfl, r2, t2⟩
      have sk2 := sk.trans t2
      have ok2 := ownsRow_rs ok t2 hp0
      have O1 : Hid (∀ u ∈ (#[.int .i64 x0, .int .i64 x1, .int .i64 x2, .int .i64 x3] : Array Value).toList, u.oneCell' = true) := all_one _ (by kernel_rfl)
      clear t2 rk ok sk
      go_wp2_with (at_builtin; refine wpList_append_own _ rfl (.tmp 10) (.tmp 13) 25 rfl w.heap.size 118 i0 (.agg #[.int .i64 0, .int .i64 0, .int .i64 0, .int .i64 0]) 4 32 Try.underlying25 hi hz0 hz1 hz2 rfl (by decide) _ _ _ rfl (ok2.alloc _) ⟨w2.heap.size, 0, none⟩ 1 1 (#[.int .i64 x0, .int .i64 x1, .int .i64 x2, .int .i64 x3] : Array Value).toList rfl rfl (fun j u hj => cell_news w2 _ _ j u hj) O1.out ?c3 ?c4 ?c5 ?next)
      case c3 => unfold maxLen; omega
      case c4 => omega
      case c5 => have := sk2.size; rw [World.size_alloc]; omega
      case next =>
        intro v3 w3 ho3 hg3 _
        have hB3 : Below w.heap.size w2 w3 := ((Below.refl _ _).alloc sk2.size _).grown hg3 (by have := sk2.size; rw [World.size_alloc]; omega) (fun j hj => (ok2.lt j hj).1)
        have r3 : RG D w3 p (P_eval (itP P_eval k (cntS 64 s))) := r2.ext hB3 hp0 hD0
        have s3 := sk2.ext hB3
        clear hg3 r2 sk2 ok2 hB3
        cases hst : P_eval (itP P_eval k (cntS 64 s)) with
        | none =>
          have r4 := r3
          rw [hst] at r4
          have HN : Hid (lstS P_eval s = none) := by
            show lstS P_eval s = none
            rw [HL.out, show N = (k + 1) + (N - (k + 1)) by omega]
            exact itP_none P_eval P_eval_none _ _ _ hst
          clear hst r3
          obtain ⟨q1, q2, q3, q4, q5, q6⟩ := r4
          have r5 : Hid (RG D w3 p none) := ⟨q1, q2, q3, q4, q5, q6⟩
          go_wp2
          go_ret
          exact ⟨_, _, _, rfl, by rw [HN.out]; exact r5.out, s3⟩
        | some l3 =>
          have r4 := r3
          rw [hst] at r4
          clear hst
          obtain ⟨_, _, _, _, _, _, _, q6, _⟩ := r4
          have R3 : Hid _ := r3
          clear r3
          go_wp2
          exact ⟨⟨k + 1, _, by omega, by go_num, R3.out, s3, ho3⟩, by simp [intOf]; omega⟩
    · have hkN : k = N := by omega
      subst hkN
      obtain ⟨va, vn, vc, hv⟩ : ∃ va vn vc, u5 = Value.slice va vn vc := by
        rcases ok.2 with ⟨h, _⟩ | ⟨g, c, _, h, _⟩
        · exact ⟨_, _, _, h⟩
        · exact ⟨_, _, _, h⟩
      subst hv
      have R3 : Hid (RG D wr p (lstS P_eval s)) := by show RG _ _ _ _; rw [HL.out]; exact rk
      clear rk ok
      go_wp2
      go_ret
      exact ⟨_, _, _, rfl, R3.out, sk⟩


theorem listDeploy_g_info : (Try.prog.info? 122).map (fun i => (i.zero, i.size, i.bytes)) = some (some (.agg #[.int .i64 0, .int .i64 0, .int .i64 0, .int .i64 0]), 4, 32) := by kernel_rfl

set_option maxHeartbeats 800000 in
theorem listDeploy_g {D : Nat} (p : Nat) (s : Option (List UInt8)) (w : World) (h : RG D w p s) :
    Calls Try.prog 77 #[.pointer (some ⟨p, 0, none⟩), .func (.func 78) #[.pointer (some ⟨p, 0, none⟩)] #[]] w fun e w' => ∃ (a : Option Addr) (n c : Nat), e = .returned (.slice a n c) ∧ RG D w' p (lstS P_deploy s) ∧ RS w w' p := by
  obtain ⟨i0, hi, hz0, hz1, hz2⟩ := info_parts listDeploy_g_info
  have hp0 := h.1
  have hD0 := h.2.1
  go_enter Try.func77, Try.ntmps77
  go_wp2_with fail
  refine (count_g p s _ w (by omega) (by omega) h).mono ?_
  rintro e w1 ⟨rfl, r1, s1, hn⟩
  have HL : Hid (lstS P_deploy s = itP P_deploy (cntV 64 s) (cntS 64 s)) := rfl
  generalize cntV 64 s = N at *
  go_wp2
  go_loopw [5, 8] (fun v i wr => ∃ k : Nat, ∃ xs : List Value, k ≤ N ∧ i = .int .i64 k ∧ RG D wr p (itP P_deploy k (cntS 64 s)) ∧ RS w wr p ∧ wr.ownsRow w.heap.size 122 4 v k xs) (fun _ i _ => N - (intOf i).toNat)
  case atStart => exact ⟨0, [], Nat.zero_le _, rfl, r1, s1, World.ownsRow_nil _ _ _ _⟩
  case round =>
    obtain ⟨k, xs, hk, rfl, rk, sk, ok⟩ := hrel
    by_cases hlt : k < N
    · go_wp2_with fail
      refine (deploy_g p _ wr rk).mono ?_
      rintro e w2 ⟨x0, x1, x2, x3, rfl, r2, t2⟩
      have sk2 := sk.trans t2
      have ok2 := ownsRow_rs ok t2 hp0
      have O1 : Hid (∀ u ∈ (#[.int .i64 x0, .int .i64 x1, .int .i64 x2, .int .i64 x3] : Array Value).toList, u.oneCell' = true) := all_one _ (by kernel_rfl)
      clear t2 rk ok sk
      go_wp2_with (at_builtin; refine wpList_append_own _ rfl (.tmp 10) (.tmp 13) 26 rfl w.heap.size 122 i0 (.agg #[.int .i64 0, .int .i64 0, .int .i64 0, .int .i64 0]) 4 32 Try.underlying26 hi hz0 hz1 hz2 rfl (by decide) _ _ _ rfl (ok2.alloc _) ⟨w2.heap.size, 0, none⟩ 1 1 (#[.int .i64 x0, .int .i64 x1, .int .i64 x2, .int .i64 x3] : Array Value).toList rfl rfl (fun j u hj => cell_news w2 _ _ j u hj) O1.out ?c3 ?c4 ?c5 ?next)
      case c3 => unfold maxLen; omega
      case c4 => omega
      case c5 => have := sk2.size; rw [World.size_alloc]; omega
      case next =>
        intro v3 w3 ho3 hg3 _
        have hB3 : Below w.heap.size w2 w3 := ((Below.refl _ _).alloc sk2.size _).grown hg3 (by have := sk2.size; rw [World.size_alloc]; omega) (fun j hj => (ok2.lt j hj).1)
        have r3 : RG D w3 p (P_deploy (itP P_deploy k (cntS 64 s))) := r2.ext hB3 hp0 hD0
        have s3 := sk2.ext hB3
        clear hg3 r2 sk2 ok2 hB3
        cases hst : P_deploy (itP P_deploy k (cntS 64 s)) with
        | none =>
          have r4 := r3
          rw [hst] at r4
          have HN : Hid (lstS P_deploy s = none) := by
            show lstS P_deploy s = none
            rw [HL.out, show N = (k + 1) + (N - (k + 1)) by omega]
            exact itP_none P_deploy P_deploy_none _ _ _ hst
          clear hst r3
          obtain ⟨q1, q2, q3, q4, q5, q6⟩ := r4
          have r5 : Hid (RG D w3 p none) := ⟨q1, q2, q3, q4, q5, q6⟩
          go_wp2
          go_ret
          exact ⟨_, _, _, rfl, by rw [HN.out]; exact r5.out, s3⟩
        | some l3 =>
          have r4 := r3
          rw [hst] at r4
          clear hst
          obtain ⟨_, _, _, _, _, _, _, q6, _⟩ := r4
          have R3 : Hid _ := r3
          clear r3
          go_wp2
          exact ⟨⟨k + 1, _, by omega, by go_num, R3.out, s3, ho3⟩, by simp [intOf]; omega⟩
    · have hkN : k = N := by omega
      subst hkN
      obtain ⟨va, vn, vc, hv⟩ : ∃ va vn vc, u5 = Value.slice va vn vc := by
        rcases ok.2 with ⟨h, _⟩ | ⟨g, c, _, h, _⟩
        · exact ⟨_, _, _, h⟩
        · exact ⟨_, _, _, h⟩
      subst hv
      have R3 : Hid (RG D wr p (lstS P_deploy s)) := by show RG _ _ _ _; rw [HL.out]; exact rk
      clear rk ok
      go_wp2
      go_ret
      exact ⟨_, _, _, rfl, R3.out, sk⟩


theorem listSeen_g_info : (Try.prog.info? 126).map (fun i => (i.zero, i.size, i.bytes)) = some (some (.agg #[.int .i64 0, .int .i64 0, .int .i64 0, .int .i64 0, .slice none 0 0]), 5, 56) := by kernel_rfl

set_option maxHeartbeats 800000 in
theorem listSeen_g {D : Nat} (p : Nat) (s : Option (List UInt8)) (w : World) (h : RG D w p s) :
    Calls Try.prog 79 #[.pointer (some ⟨p, 0, none⟩), .func (.func 80) #[.pointer (some ⟨p, 0, none⟩)] #[]] w fun e w' => ∃ (a : Option Addr) (n c : Nat), e = .returned (.slice a n c) ∧ RG D w' p (lstS P_seen s) ∧ RS w w' p := by
  obtain ⟨i0, hi, hz0, hz1, hz2⟩ := info_parts listSeen_g_info
  have hp0 := h.1
  have hD0 := h.2.1
  go_enter Try.func79, Try.ntmps79
  go_wp2_with fail
  refine (count_g p s _ w (by omega) (by omega) h).mono ?_
  rintro e w1 ⟨rfl, r1, s1, hn⟩
  have HL : Hid (lstS P_seen s = itP P_seen (cntV 64 s) (cntS 64 s)) := rfl
  generalize cntV 64 s = N at *
  go_wp2
  go_loopw [5, 8] (fun v i wr => ∃ k : Nat, ∃ xs : List Value, k ≤ N ∧ i = .int .i64 k ∧ RG D wr p (itP P_seen k (cntS 64 s)) ∧ RS w wr p ∧ wr.ownsRow w.heap.size 126 5 v k xs) (fun _ i _ => N - (intOf i).toNat)
  case atStart => exact ⟨0, [], Nat.zero_le _, rfl, r1, s1, World.ownsRow_nil _ _ _ _⟩
  case round =>
    obtain ⟨k, xs, hk, rfl, rk, sk, ok⟩ := hrel
    by_cases hlt : k < N
    · go_wp2_with fail
      refine (seen_g p _ wr rk).mono ?_
      rintro e w2 ⟨x0, x1, x2, x3, x4a, x4n, x4c, rfl, r2, t2⟩
      have sk2 := sk.trans t2
      have ok2 := ownsRow_rs ok t2 hp0
      have O1 : Hid (∀ u ∈ (#[.int .i64 x0, .int .i64 x1, .int .i64 x2, .int .i64 x3, .slice x4a x4n x4c] : Array Value).toList, u.oneCell' = true) := all_one _ (by kernel_rfl)
      clear t2 rk ok sk
      go_wp2_with (at_builtin; refine wpList_append_own _ rfl (.tmp 10) (.tmp 13) 27 rfl w.heap.size 126 i0 (.agg #[.int .i64 0, .int .i64 0, .int .i64 0, .int .i64 0, .slice none 0 0]) 5 56 Try.underlying27 hi hz0 hz1 hz2 rfl (by decide) _ _ _ rfl (ok2.alloc _) ⟨w2.heap.size, 0, none⟩ 1 1 (#[.int .i64 x0, .int .i64 x1, .int .i64 x2, .int .i64 x3, .slice x4a x4n x4c] : Array Value).toList rfl rfl (fun j u hj => cell_news w2 _ _ j u hj) O1.out ?c3 ?c4 ?c5 ?next)
      case c3 => unfold maxLen; omega
      case c4 => omega
      case c5 => have := sk2.size; rw [World.size_alloc]; omega
      case next =>
        intro v3 w3 ho3 hg3 _
        have hB3 : Below w.heap.size w2 w3 := ((Below.refl _ _).alloc sk2.size _).grown hg3 (by have := sk2.size; rw [World.size_alloc]; omega) (fun j hj => (ok2.lt j hj).1)
        have r3 : RG D w3 p (P_seen (itP P_seen k (cntS 64 s))) := r2.ext hB3 hp0 hD0
        have s3 := sk2.ext hB3
        clear hg3 r2 sk2 ok2 hB3
        cases hst : P_seen (itP P_seen k (cntS 64 s)) with
        | none =>
          have r4 := r3
          rw [hst] at r4
          have HN : Hid (lstS P_seen s = none) := by
            show lstS P_seen s = none
            rw [HL.out, show N = (k + 1) + (N - (k + 1)) by omega]
            exact itP_none P_seen P_seen_none _ _ _ hst
          clear hst r3
          obtain ⟨q1, q2, q3, q4, q5, q6⟩ := r4
          have r5 : Hid (RG D w3 p none) := ⟨q1, q2, q3, q4, q5, q6⟩
          go_wp2
          go_ret
          exact ⟨_, _, _, rfl, by rw [HN.out]; exact r5.out, s3⟩
        | some l3 =>
          have r4 := r3
          rw [hst] at r4
          clear hst
          obtain ⟨_, _, _, _, _, _, _, q6, _⟩ := r4
          have R3 : Hid _ := r3
          clear r3
          go_wp2
          exact ⟨⟨k + 1, _, by omega, by go_num, R3.out, s3, ho3⟩, by simp [intOf]; omega⟩
    · have hkN : k = N := by omega
      subst hkN
      obtain ⟨va, vn, vc, hv⟩ : ∃ va vn vc, u5 = Value.slice va vn vc := by
        rcases ok.2 with ⟨h, _⟩ | ⟨g, c, _, h, _⟩
        · exact ⟨_, _, _, h⟩
        · exact ⟨_, _, _, h⟩
      subst hv
      have R3 : Hid (RG D wr p (lstS P_seen s)) := by show RG _ _ _ _; rw [HL.out]; exact rk
      clear rk ok
      go_wp2
      go_ret
      exact ⟨_, _, _, rfl, R3.out, sk⟩


def P_store (s : Option (List UInt8)) : Option (List UInt8) := lstS P_seen (lstS P_deploy (lstS P_eval (lstS P_alloc (lstS P_node (lstS P_job (lstS P_job (numS (numS s))))))))
theorem P_store_none : P_store none = none := by
  unfold P_store
  rw [numS_none, numS_none, lstS_none, lstS_none, lstS_none, lstS_none, lstS_none, lstS_none, lstS_none]

set_option maxHeartbeats 1000000 in
theorem store_g {D : Nat} (p : Nat) (s : Option (List UInt8)) (w : World) (h : RG D w p s) :
    Calls Try.prog 30 #[.pointer (some ⟨p, 0, none⟩)] w fun e w' => ∃ (x0 : Int) (x1 : Int) (x2a : Option Addr) (x2n x2c : Nat) (x3a : Option Addr) (x3n x3c : Nat) (x4a : Option Addr) (x4n x4c : Nat) (x5a : Option Addr) (x5n x5c : Nat) (x6a : Option Addr) (x6n x6c : Nat) (x7a : Option Addr) (x7n x7c : Nat) (x8a : Option Addr) (x8n x8c : Nat), e = .returned (.agg #[.int .i64 x0, .int .i64 x1, .slice x2a x2n x2c, .slice x3a x3n x3c, .slice x4a x4n x4c, .slice x5a x5n x5c, .slice x6a x6n x6c, .slice x7a x7n x7c, .slice x8a x8n x8c]) ∧ RG D w' p (P_store s) ∧ RS w w' p := by
  have hmf : ∀ (fn : Fn) (first cap : Array Value) (w : World), (Instr.makeFunc fn first cap).run Try.prog w = .ok (.func fn first cap) w := fun _ _ _ _ => rfl
  have hB0 : Below w.heap.size w (w.alloc (.cells #[.int .i64 0, .int .i64 0, .slice none 0 0, .slice none 0 0, .slice none 0 0, .slice none 0 0, .slice none 0 0, .slice none 0 0, .slice none 0 0] 29)) := (Below.refl _ _).alloc (Nat.le_refl _) _
  have h0 : RG D (w.alloc (.cells #[.int .i64 0, .int .i64 0, .slice none 0 0, .slice none 0 0, .slice none 0 0, .slice none 0 0, .slice none 0 0, .slice none 0 0, .slice none 0 0] 29)) p s := h.ext hB0 h.1 h.2.1
  have s0 : RS w (w.alloc (.cells #[.int .i64 0, .int .i64 0, .slice none 0 0, .slice none 0 0, .slice none 0 0, .slice none 0 0, .slice none 0 0, .slice none 0 0, .slice none 0 0] 29)) p := (RS.refl _ _).alloc _
  have g0 : Hid ((w.alloc (.cells #[.int .i64 0, .int .i64 0, .slice none 0 0, .slice none 0 0, .slice none 0 0, .slice none 0 0, .slice none 0 0, .slice none 0 0, .slice none 0 0] 29)).heap[w.heap.size]? = some (.cells #[.int .i64 0, .int .i64 0, .slice none 0 0, .slice none 0 0, .slice none 0 0, .slice none 0 0, .slice none 0 0, .slice none 0 0, .slice none 0 0] 29 (0, 0))) := heap_alloc_new w _
  have z0 : w.heap.size < (w.alloc (.cells #[.int .i64 0, .int .i64 0, .slice none 0 0, .slice none 0 0, .slice none 0 0, .slice none 0 0, .slice none 0 0, .slice none 0 0, .slice none 0 0] 29)).heap.size := by rw [World.size_alloc]; omega
  have hpq : Hid (p ≠ w.heap.size) := by have := h.1; show p ≠ _; omega
  have hDq : Hid (p < w.heap.size ∧ D ≤ w.heap.size) := ⟨h.1, h.2.1⟩
  clear h hB0
  go_enter Try.func30, Try.ntmps30
  go_wp2_with fail
  refine (num_g p s _ h0).mono ?_
  rintro e w1 ⟨rfl, h1, t1⟩
  have s1 := s0.trans t1
  have g1 : Hid (w1.heap[w.heap.size]? = some (.cells #[.int .i64 0, .int .i64 0, .slice none 0 0, .slice none 0 0, .slice none 0 0, .slice none 0 0, .slice none 0 0, .slice none 0 0, .slice none 0 0] 29 (0, 0))) := (t1.block _ z0 hpq.out.symm).trans g0.out
  have z1 : w.heap.size < w1.heap.size := Nat.lt_of_lt_of_le z0 t1.size
  clear h0 t1 s0 g0 z0
  go_wp2_with fail
  refine (num_g p (numS s) _ h1).mono ?_
  rintro e w2 ⟨rfl, h2, t2⟩
  have s2 := s1.trans t2
  have g2 : Hid (w2.heap[w.heap.size]? = some (.cells #[.int .i64 0, .int .i64 0, .slice none 0 0, .slice none 0 0, .slice none 0 0, .slice none 0 0, .slice none 0 0, .slice none 0 0, .slice none 0 0] 29 (0, 0))) := (t2.block _ z1 hpq.out.symm).trans g1.out
  have z2 : w.heap.size < w2.heap.size := Nat.lt_of_lt_of_le z1 t2.size
  clear h1 t2 s1 g1 z1
  go_wp2_with fail
  refine (listJob_g p (numS (numS s)) _ h2).mono ?_
  rintro e w3 ⟨y3_0a, y3_0n, y3_0c, rfl, h3, t3⟩
  have s3 := s2.trans t3
  have g3 : Hid (w3.heap[w.heap.size]? = some (.cells #[.int .i64 0, .int .i64 0, .slice none 0 0, .slice none 0 0, .slice none 0 0, .slice none 0 0, .slice none 0 0, .slice none 0 0, .slice none 0 0] 29 (0, 0))) := (t3.block _ z2 hpq.out.symm).trans g2.out
  have z3 : w.heap.size < w3.heap.size := Nat.lt_of_lt_of_le z2 t3.size
  clear h2 t3 s2 g2 z2
  go_wp2_with fail
  refine (listJob_g p (lstS P_job (numS (numS s))) _ h3).mono ?_
  rintro e w4 ⟨y4_0a, y4_0n, y4_0c, rfl, h4, t4⟩
  have s4 := s3.trans t4
  have g4 : Hid (w4.heap[w.heap.size]? = some (.cells #[.int .i64 0, .int .i64 0, .slice none 0 0, .slice none 0 0, .slice none 0 0, .slice none 0 0, .slice none 0 0, .slice none 0 0, .slice none 0 0] 29 (0, 0))) := (t4.block _ z3 hpq.out.symm).trans g3.out
  have z4 : w.heap.size < w4.heap.size := Nat.lt_of_lt_of_le z3 t4.size
  clear h3 t4 s3 g3 z3
  go_wp2_with fail
  refine (listNode_g p (lstS P_job (lstS P_job (numS (numS s)))) _ h4).mono ?_
  rintro e w5 ⟨y5_0a, y5_0n, y5_0c, rfl, h5, t5⟩
  have s5 := s4.trans t5
  have g5 : Hid (w5.heap[w.heap.size]? = some (.cells #[.int .i64 0, .int .i64 0, .slice none 0 0, .slice none 0 0, .slice none 0 0, .slice none 0 0, .slice none 0 0, .slice none 0 0, .slice none 0 0] 29 (0, 0))) := (t5.block _ z4 hpq.out.symm).trans g4.out
  have z5 : w.heap.size < w5.heap.size := Nat.lt_of_lt_of_le z4 t5.size
  clear h4 t5 s4 g4 z4
  go_wp2_with fail
  refine (listAlloc_g p (lstS P_node (lstS P_job (lstS P_job (numS (numS s))))) _ h5).mono ?_
  rintro e w6 ⟨y6_0a, y6_0n, y6_0c, rfl, h6, t6⟩
  have s6 := s5.trans t6
  have g6 : Hid (w6.heap[w.heap.size]? = some (.cells #[.int .i64 0, .int .i64 0, .slice none 0 0, .slice none 0 0, .slice none 0 0, .slice none 0 0, .slice none 0 0, .slice none 0 0, .slice none 0 0] 29 (0, 0))) := (t6.block _ z5 hpq.out.symm).trans g5.out
  have z6 : w.heap.size < w6.heap.size := Nat.lt_of_lt_of_le z5 t6.size
  clear h5 t6 s5 g5 z5
  go_wp2_with fail
  refine (listEval_g p (lstS P_alloc (lstS P_node (lstS P_job (lstS P_job (numS (numS s)))))) _ h6).mono ?_
  rintro e w7 ⟨y7_0a, y7_0n, y7_0c, rfl, h7, t7⟩
  have s7 := s6.trans t7
  have g7 : Hid (w7.heap[w.heap.size]? = some (.cells #[.int .i64 0, .int .i64 0, .slice none 0 0, .slice none 0 0, .slice none 0 0, .slice none 0 0, .slice none 0 0, .slice none 0 0, .slice none 0 0] 29 (0, 0))) := (t7.block _ z6 hpq.out.symm).trans g6.out
  have z7 : w.heap.size < w7.heap.size := Nat.lt_of_lt_of_le z6 t7.size
  clear h6 t7 s6 g6 z6
  go_wp2_with fail
  refine (listDeploy_g p (lstS P_eval (lstS P_alloc (lstS P_node (lstS P_job (lstS P_job (numS (numS s))))))) _ h7).mono ?_
  rintro e w8 ⟨y8_0a, y8_0n, y8_0c, rfl, h8, t8⟩
  have s8 := s7.trans t8
  have g8 : Hid (w8.heap[w.heap.size]? = some (.cells #[.int .i64 0, .int .i64 0, .slice none 0 0, .slice none 0 0, .slice none 0 0, .slice none 0 0, .slice none 0 0, .slice none 0 0, .slice none 0 0] 29 (0, 0))) := (t8.block _ z7 hpq.out.symm).trans g7.out
  have z8 : w.heap.size < w8.heap.size := Nat.lt_of_lt_of_le z7 t8.size
  clear h7 t8 s7 g7 z7
  go_wp2_with fail
  refine (listSeen_g p (lstS P_deploy (lstS P_eval (lstS P_alloc (lstS P_node (lstS P_job (lstS P_job (numS (numS s)))))))) _ h8).mono ?_
  rintro e w9 ⟨y9_0a, y9_0n, y9_0c, rfl, h9, t9⟩
  have s9 := s8.trans t9
  have g9 : Hid (w9.heap[w.heap.size]? = some (.cells #[.int .i64 0, .int .i64 0, .slice none 0 0, .slice none 0 0, .slice none 0 0, .slice none 0 0, .slice none 0 0, .slice none 0 0, .slice none 0 0] 29 (0, 0))) := (t9.block _ z8 hpq.out.symm).trans g8.out
  have z9 : w.heap.size < w9.heap.size := Nat.lt_of_lt_of_le z8 t9.size
  clear h8 t9 s8 g8 z8
  have I0 : Hid ((Try.prog.info? 29).map (·.size) = some (#[.int .i64 (numV s), .int .i64 (numV (numS s)), .slice y3_0a y3_0n y3_0c, .slice y4_0a y4_0n y4_0c, .slice y5_0a y5_0n y5_0c, .slice y6_0a y6_0n y6_0c, .slice y7_0a y7_0n y7_0c, .slice y8_0a y8_0n y8_0c, .slice y9_0a y9_0n y9_0c] : Array Value).size) := by show _ = _; kernel_rfl
  have O0 : Hid ((#[.int .i64 (numV s), .int .i64 (numV (numS s)), .slice y3_0a y3_0n y3_0c, .slice y4_0a y4_0n y4_0c, .slice y5_0a y5_0n y5_0c, .slice y6_0a y6_0n y6_0c, .slice y7_0a y7_0n y7_0c, .slice y8_0a y8_0n y8_0c, .slice y9_0a y9_0n y9_0c] : Array Value).all (·.oneCell') = true) := by show _ = _; kernel_rfl
  go_wp2_with (refine wpList_store_row rfl 29 (.tmp 2) (.tmp 35) rfl w.heap.size #[.int .i64 (numV s), .int .i64 (numV (numS s)), .slice y3_0a y3_0n y3_0c, .slice y4_0a y4_0n y4_0c, .slice y5_0a y5_0n y5_0c, .slice y6_0a y6_0n y6_0c, .slice y7_0a y7_0n y7_0c, .slice y8_0a y8_0n y8_0c, .slice y9_0a y9_0n y9_0c] rfl rfl 29 #[.int .i64 0, .int .i64 0, .slice none 0 0, .slice none 0 0, .slice none 0 0, .slice none 0 0, .slice none 0 0, .slice none 0 0, .slice none 0 0] g9.out I0.out rfl O0.out ?_)
  refine bodyPost_ret (v := .agg #[.int .i64 (numV s), .int .i64 (numV (numS s)), .slice y3_0a y3_0n y3_0c, .slice y4_0a y4_0n y4_0c, .slice y5_0a y5_0n y5_0c, .slice y6_0a y6_0n y6_0c, .slice y7_0a y7_0n y7_0c, .slice y8_0a y8_0n y8_0c, .slice y9_0a y9_0n y9_0c]) ?_ rfl ⟨_, _, _, _, _, _, _, _, _, _, _, _, _, _, _, _, _, _, _, _, _, _, _, rfl, ?_, ?_⟩
  · refine results_cell_row Try.results30 _ _ w.heap.size 29 _ (0, 0) _ ?_ (setRow_heap w9 w.heap.size _ _ 29 _ g9.out) Try.underlying29 rfl I0.out
    rfl
  · exact h9.ext ⟨rfl, rfl, rfl, by simp [World.setRow], fun k hk => setRow_other _ _ _ _ (by omega)⟩ hDq.out.1 hDq.out.2
  · exact s9.setRow (Nat.le_refl _) _

end Go.Proofs.Ytpbokgeaolpiaab
