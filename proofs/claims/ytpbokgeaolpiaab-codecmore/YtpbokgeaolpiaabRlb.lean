/- What the reader does with records on whatever bytes, more of them: what is left; of what was read its form alone. Made by program (wip/gen/rec.py). -/
import Derived.Test.YtpbokgeaolpiaabRla
namespace Go.Proofs.Ytpbokgeaolpiaab
open Go.RowKit

def P_job (s : Option (List UInt8)) : Option (List UInt8) := truS (numS (lstS P_group (numS (numS (numS (numS s))))))
theorem P_job_none : P_job none = none := by
  unfold P_job
  rw [numS_none, numS_none, numS_none, numS_none, lstS_none, numS_none, truS_none]

set_option maxHeartbeats 1000000 in
theorem job_g {D : Nat} (p : Nat) (s : Option (List UInt8)) (w : World) (h : RG D w p s) :
    Calls Try.prog 70 #[.pointer (some ⟨p, 0, none⟩)] w fun e w' => ∃ (x0 : Int) (x1 : Int) (x2 : Int) (x3 : Int) (x4a : Option Addr) (x4n x4c : Nat) (x5 : Int) (x6 : Bool), e = .returned (.agg #[.int .i64 x0, .int .i64 x1, .int .i64 x2, .int .i64 x3, .slice x4a x4n x4c, .int .i64 x5, .bool x6]) ∧ RG D w' p (P_job s) ∧ RS w w' p := by
  have hmf : ∀ (fn : Fn) (first cap : Array Value) (w : World), (Instr.makeFunc fn first cap).run Try.prog w = .ok (.func fn first cap) w := fun _ _ _ _ => rfl
  have hB0 : Below w.heap.size w (w.alloc (.cells #[.int .i64 0, .int .i64 0, .int .i64 0, .int .i64 0, .slice none 0 0, .int .i64 0, .bool false] 56)) := (Below.refl _ _).alloc (Nat.le_refl _) _
  have h0 : RG D (w.alloc (.cells #[.int .i64 0, .int .i64 0, .int .i64 0, .int .i64 0, .slice none 0 0, .int .i64 0, .bool false] 56)) p s := h.ext hB0 h.1 h.2.1
  have s0 : RS w (w.alloc (.cells #[.int .i64 0, .int .i64 0, .int .i64 0, .int .i64 0, .slice none 0 0, .int .i64 0, .bool false] 56)) p := (RS.refl _ _).alloc _
  have g0 : Hid ((w.alloc (.cells #[.int .i64 0, .int .i64 0, .int .i64 0, .int .i64 0, .slice none 0 0, .int .i64 0, .bool false] 56)).heap[w.heap.size]? = some (.cells #[.int .i64 0, .int .i64 0, .int .i64 0, .int .i64 0, .slice none 0 0, .int .i64 0, .bool false] 56 (0, 0))) := heap_alloc_new w _
  have z0 : w.heap.size < (w.alloc (.cells #[.int .i64 0, .int .i64 0, .int .i64 0, .int .i64 0, .slice none 0 0, .int .i64 0, .bool false] 56)).heap.size := by rw [World.size_alloc]; omega
  have hpq : Hid (p ≠ w.heap.size) := by have := h.1; show p ≠ _; omega
  have hDq : Hid (p < w.heap.size ∧ D ≤ w.heap.size) := ⟨h.1, h.2.1⟩
  clear h hB0
  go_enter Try.func70, Try.ntmps70
  go_wp2_with fail
  refine (num_g p s _ h0).mono ?_
  rintro e w1 ⟨rfl, h1, t1⟩
  have s1 := s0.trans t1
  have g1 : Hid (w1.heap[w.heap.size]? = some (.cells #[.int .i64 0, .int .i64 0, .int .i64 0, .int .i64 0, .slice none 0 0, .int .i64 0, .bool false] 56 (0, 0))) := (t1.block _ z0 hpq.out.symm).trans g0.out
  have z1 : w.heap.size < w1.heap.size := Nat.lt_of_lt_of_le z0 t1.size
  clear h0 t1 s0 g0 z0
  go_wp2_with fail
  refine (num_g p (numS s) _ h1).mono ?_
  rintro e w2 ⟨rfl, h2, t2⟩
  have s2 := s1.trans t2
  have g2 : Hid (w2.heap[w.heap.size]? = some (.cells #[.int .i64 0, .int .i64 0, .int .i64 0, .int .i64 0, .slice none 0 0, .int .i64 0, .bool false] 56 (0, 0))) := (t2.block _ z1 hpq.out.symm).trans g1.out
  have z2 : w.heap.size < w2.heap.size := Nat.lt_of_lt_of_le z1 t2.size
  clear h1 t2 s1 g1 z1
  go_wp2_with fail
  refine (num_g p (numS (numS s)) _ h2).mono ?_
  rintro e w3 ⟨rfl, h3, t3⟩
  have s3 := s2.trans t3
  have g3 : Hid (w3.heap[w.heap.size]? = some (.cells #[.int .i64 0, .int .i64 0, .int .i64 0, .int .i64 0, .slice none 0 0, .int .i64 0, .bool false] 56 (0, 0))) := (t3.block _ z2 hpq.out.symm).trans g2.out
  have z3 : w.heap.size < w3.heap.size := Nat.lt_of_lt_of_le z2 t3.size
  clear h2 t3 s2 g2 z2
  go_wp2_with fail
  refine (num_g p (numS (numS (numS s))) _ h3).mono ?_
  rintro e w4 ⟨rfl, h4, t4⟩
  have s4 := s3.trans t4
  have g4 : Hid (w4.heap[w.heap.size]? = some (.cells #[.int .i64 0, .int .i64 0, .int .i64 0, .int .i64 0, .slice none 0 0, .int .i64 0, .bool false] 56 (0, 0))) := (t4.block _ z3 hpq.out.symm).trans g3.out
  have z4 : w.heap.size < w4.heap.size := Nat.lt_of_lt_of_le z3 t4.size
  clear h3 t4 s3 g3 z3
  go_wp2_with fail
  refine (listGroup_g p (numS (numS (numS (numS s)))) _ h4).mono ?_
  rintro e w5 ⟨y5_0a, y5_0n, y5_0c, rfl, h5, t5⟩
  have s5 := s4.trans t5
  have g5 : Hid (w5.heap[w.heap.size]? = some (.cells #[.int .i64 0, .int .i64 0, .int .i64 0, .int .i64 0, .slice none 0 0, .int .i64 0, .bool false] 56 (0, 0))) := (t5.block _ z4 hpq.out.symm).trans g4.out
  have z5 : w.heap.size < w5.heap.size := Nat.lt_of_lt_of_le z4 t5.size
  clear h4 t5 s4 g4 z4
  go_wp2_with fail
  refine (num_g p (lstS P_group (numS (numS (numS (numS s))))) _ h5).mono ?_
  rintro e w6 ⟨rfl, h6, t6⟩
  have s6 := s5.trans t6
  have g6 : Hid (w6.heap[w.heap.size]? = some (.cells #[.int .i64 0, .int .i64 0, .int .i64 0, .int .i64 0, .slice none 0 0, .int .i64 0, .bool false] 56 (0, 0))) := (t6.block _ z5 hpq.out.symm).trans g5.out
  have z6 : w.heap.size < w6.heap.size := Nat.lt_of_lt_of_le z5 t6.size
  clear h5 t6 s5 g5 z5
  go_wp2_with fail
  refine (truth_g p (numS (lstS P_group (numS (numS (numS (numS s)))))) _ h6).mono ?_
  rintro e w7 ⟨y7_0, rfl, h7, t7⟩
  have s7 := s6.trans t7
  have g7 : Hid (w7.heap[w.heap.size]? = some (.cells #[.int .i64 0, .int .i64 0, .int .i64 0, .int .i64 0, .slice none 0 0, .int .i64 0, .bool false] 56 (0, 0))) := (t7.block _ z6 hpq.out.symm).trans g6.out
  have z7 : w.heap.size < w7.heap.size := Nat.lt_of_lt_of_le z6 t7.size
  clear h6 t7 s6 g6 z6
  have I0 : Hid ((Try.prog.info? 56).map (·.size) = some (#[.int .i64 (numV s), .int .i64 (numV (numS s)), .int .i64 (numV (numS (numS s))), .int .i64 (numV (numS (numS (numS s)))), .slice y5_0a y5_0n y5_0c, .int .i64 (numV (lstS P_group (numS (numS (numS (numS s)))))), .bool y7_0] : Array Value).size) := by show _ = _; kernel_rfl
  have O0 : Hid ((#[.int .i64 (numV s), .int .i64 (numV (numS s)), .int .i64 (numV (numS (numS s))), .int .i64 (numV (numS (numS (numS s)))), .slice y5_0a y5_0n y5_0c, .int .i64 (numV (lstS P_group (numS (numS (numS (numS s)))))), .bool y7_0] : Array Value).all (·.oneCell') = true) := by show _ = _; kernel_rfl
  go_wp2_with (refine wpList_store_row rfl 56 (.tmp 2) (.tmp 19) rfl w.heap.size #[.int .i64 (numV s), .int .i64 (numV (numS s)), .int .i64 (numV (numS (numS s))), .int .i64 (numV (numS (numS (numS s)))), .slice y5_0a y5_0n y5_0c, .int .i64 (numV (lstS P_group (numS (numS (numS (numS s)))))), .bool y7_0] rfl rfl 56 #[.int .i64 0, .int .i64 0, .int .i64 0, .int .i64 0, .slice none 0 0, .int .i64 0, .bool false] g7.out I0.out rfl O0.out ?_)
  refine bodyPost_ret (v := .agg #[.int .i64 (numV s), .int .i64 (numV (numS s)), .int .i64 (numV (numS (numS s))), .int .i64 (numV (numS (numS (numS s)))), .slice y5_0a y5_0n y5_0c, .int .i64 (numV (lstS P_group (numS (numS (numS (numS s)))))), .bool y7_0]) ?_ rfl ⟨_, _, _, _, _, _, _, _, _, rfl, ?_, ?_⟩
  · refine results_cell_row Try.results70 _ _ w.heap.size 56 _ (0, 0) _ ?_ (setRow_heap w7 w.heap.size _ _ 56 _ g7.out) Try.underlying56 rfl I0.out
    rfl
  · exact h7.ext ⟨rfl, rfl, rfl, by simp [World.setRow], fun k hk => setRow_other _ _ _ _ (by omega)⟩ hDq.out.1 hDq.out.2
  · exact s7.setRow (Nat.le_refl _) _


def P_node (s : Option (List UInt8)) : Option (List UInt8) := numS (numS (numS (truS (truS (P_res (numS s))))))
theorem P_node_none : P_node none = none := by
  unfold P_node
  rw [numS_none, P_res_none, truS_none, truS_none, numS_none, numS_none, numS_none]

set_option maxHeartbeats 1000000 in
theorem node_g {D : Nat} (p : Nat) (s : Option (List UInt8)) (w : World) (h : RG D w p s) :
    Calls Try.prog 72 #[.pointer (some ⟨p, 0, none⟩)] w fun e w' => ∃ (x0 : Int) (x1 : Int) (x2 : Int) (x3 : Bool) (x4 : Bool) (x5 : Int) (x6 : Int) (x7 : Int), e = .returned (.agg #[.int .i64 x0, .int .i64 x1, .int .i64 x2, .bool x3, .bool x4, .int .i64 x5, .int .i64 x6, .int .i64 x7]) ∧ RG D w' p (P_node s) ∧ RS w w' p := by
  have hmf : ∀ (fn : Fn) (first cap : Array Value) (w : World), (Instr.makeFunc fn first cap).run Try.prog w = .ok (.func fn first cap) w := fun _ _ _ _ => rfl
  have hB0 : Below w.heap.size w (w.alloc (.cells #[.int .i64 0, .int .i64 0, .int .i64 0, .bool false, .bool false, .int .i64 0, .int .i64 0, .int .i64 0] 60)) := (Below.refl _ _).alloc (Nat.le_refl _) _
  have h0 : RG D (w.alloc (.cells #[.int .i64 0, .int .i64 0, .int .i64 0, .bool false, .bool false, .int .i64 0, .int .i64 0, .int .i64 0] 60)) p s := h.ext hB0 h.1 h.2.1
  have s0 : RS w (w.alloc (.cells #[.int .i64 0, .int .i64 0, .int .i64 0, .bool false, .bool false, .int .i64 0, .int .i64 0, .int .i64 0] 60)) p := (RS.refl _ _).alloc _
  have g0 : Hid ((w.alloc (.cells #[.int .i64 0, .int .i64 0, .int .i64 0, .bool false, .bool false, .int .i64 0, .int .i64 0, .int .i64 0] 60)).heap[w.heap.size]? = some (.cells #[.int .i64 0, .int .i64 0, .int .i64 0, .bool false, .bool false, .int .i64 0, .int .i64 0, .int .i64 0] 60 (0, 0))) := heap_alloc_new w _
  have z0 : w.heap.size < (w.alloc (.cells #[.int .i64 0, .int .i64 0, .int .i64 0, .bool false, .bool false, .int .i64 0, .int .i64 0, .int .i64 0] 60)).heap.size := by rw [World.size_alloc]; omega
  have hpq : Hid (p ≠ w.heap.size) := by have := h.1; show p ≠ _; omega
  have hDq : Hid (p < w.heap.size ∧ D ≤ w.heap.size) := ⟨h.1, h.2.1⟩
  clear h hB0
  go_enter Try.func72, Try.ntmps72
  go_wp2_with fail
  refine (num_g p s _ h0).mono ?_
  rintro e w1 ⟨rfl, h1, t1⟩
  have s1 := s0.trans t1
  have g1 : Hid (w1.heap[w.heap.size]? = some (.cells #[.int .i64 0, .int .i64 0, .int .i64 0, .bool false, .bool false, .int .i64 0, .int .i64 0, .int .i64 0] 60 (0, 0))) := (t1.block _ z0 hpq.out.symm).trans g0.out
  have z1 : w.heap.size < w1.heap.size := Nat.lt_of_lt_of_le z0 t1.size
  clear h0 t1 s0 g0 z0
  go_wp2_with fail
  refine (res_g p (numS s) _ h1).mono ?_
  rintro e w2 ⟨y2_0, y2_1, rfl, h2, t2⟩
  have s2 := s1.trans t2
  have g2 : Hid (w2.heap[w.heap.size]? = some (.cells #[.int .i64 0, .int .i64 0, .int .i64 0, .bool false, .bool false, .int .i64 0, .int .i64 0, .int .i64 0] 60 (0, 0))) := (t2.block _ z1 hpq.out.symm).trans g1.out
  have z2 : w.heap.size < w2.heap.size := Nat.lt_of_lt_of_le z1 t2.size
  clear h1 t2 s1 g1 z1
  go_wp2_with fail
  refine (truth_g p (P_res (numS s)) _ h2).mono ?_
  rintro e w3 ⟨y3_0, rfl, h3, t3⟩
  have s3 := s2.trans t3
  have g3 : Hid (w3.heap[w.heap.size]? = some (.cells #[.int .i64 0, .int .i64 0, .int .i64 0, .bool false, .bool false, .int .i64 0, .int .i64 0, .int .i64 0] 60 (0, 0))) := (t3.block _ z2 hpq.out.symm).trans g2.out
  have z3 : w.heap.size < w3.heap.size := Nat.lt_of_lt_of_le z2 t3.size
  clear h2 t3 s2 g2 z2
  go_wp2_with fail
  refine (truth_g p (truS (P_res (numS s))) _ h3).mono ?_
  rintro e w4 ⟨y4_0, rfl, h4, t4⟩
  have s4 := s3.trans t4
  have g4 : Hid (w4.heap[w.heap.size]? = some (.cells #[.int .i64 0, .int .i64 0, .int .i64 0, .bool false, .bool false, .int .i64 0, .int .i64 0, .int .i64 0] 60 (0, 0))) := (t4.block _ z3 hpq.out.symm).trans g3.out
  have z4 : w.heap.size < w4.heap.size := Nat.lt_of_lt_of_le z3 t4.size
  clear h3 t4 s3 g3 z3
  go_wp2_with fail
  refine (num_g p (truS (truS (P_res (numS s)))) _ h4).mono ?_
  rintro e w5 ⟨rfl, h5, t5⟩
  have s5 := s4.trans t5
  have g5 : Hid (w5.heap[w.heap.size]? = some (.cells #[.int .i64 0, .int .i64 0, .int .i64 0, .bool false, .bool false, .int .i64 0, .int .i64 0, .int .i64 0] 60 (0, 0))) := (t5.block _ z4 hpq.out.symm).trans g4.out
  have z5 : w.heap.size < w5.heap.size := Nat.lt_of_lt_of_le z4 t5.size
  clear h4 t5 s4 g4 z4
  go_wp2_with fail
  refine (num_g p (numS (truS (truS (P_res (numS s))))) _ h5).mono ?_
  rintro e w6 ⟨rfl, h6, t6⟩
  have s6 := s5.trans t6
  have g6 : Hid (w6.heap[w.heap.size]? = some (.cells #[.int .i64 0, .int .i64 0, .int .i64 0, .bool false, .bool false, .int .i64 0, .int .i64 0, .int .i64 0] 60 (0, 0))) := (t6.block _ z5 hpq.out.symm).trans g5.out
  have z6 : w.heap.size < w6.heap.size := Nat.lt_of_lt_of_le z5 t6.size
  clear h5 t6 s5 g5 z5
  go_wp2_with fail
  refine (num_g p (numS (numS (truS (truS (P_res (numS s)))))) _ h6).mono ?_
  rintro e w7 ⟨rfl, h7, t7⟩
  have s7 := s6.trans t7
  have g7 : Hid (w7.heap[w.heap.size]? = some (.cells #[.int .i64 0, .int .i64 0, .int .i64 0, .bool false, .bool false, .int .i64 0, .int .i64 0, .int .i64 0] 60 (0, 0))) := (t7.block _ z6 hpq.out.symm).trans g6.out
  have z7 : w.heap.size < w7.heap.size := Nat.lt_of_lt_of_le z6 t7.size
  clear h6 t7 s6 g6 z6
  have I0 : Hid ((Try.prog.info? 60).map (·.size) = some (#[.int .i64 (numV s), .int .i64 y2_0, .int .i64 y2_1, .bool y3_0, .bool y4_0, .int .i64 (numV (truS (truS (P_res (numS s))))), .int .i64 (numV (numS (truS (truS (P_res (numS s)))))), .int .i64 (numV (numS (numS (truS (truS (P_res (numS s)))))))] : Array Value).size) := by show _ = _; kernel_rfl
  have O0 : Hid ((#[.int .i64 (numV s), .int .i64 y2_0, .int .i64 y2_1, .bool y3_0, .bool y4_0, .int .i64 (numV (truS (truS (P_res (numS s))))), .int .i64 (numV (numS (truS (truS (P_res (numS s)))))), .int .i64 (numV (numS (numS (truS (truS (P_res (numS s)))))))] : Array Value).all (·.oneCell') = true) := by show _ = _; kernel_rfl
  go_wp2_with (refine wpList_store_row rfl 60 (.tmp 2) (.tmp 17) rfl w.heap.size #[.int .i64 (numV s), .int .i64 y2_0, .int .i64 y2_1, .bool y3_0, .bool y4_0, .int .i64 (numV (truS (truS (P_res (numS s))))), .int .i64 (numV (numS (truS (truS (P_res (numS s)))))), .int .i64 (numV (numS (numS (truS (truS (P_res (numS s)))))))] rfl rfl 60 #[.int .i64 0, .int .i64 0, .int .i64 0, .bool false, .bool false, .int .i64 0, .int .i64 0, .int .i64 0] g7.out I0.out rfl O0.out ?_)
  refine bodyPost_ret (v := .agg #[.int .i64 (numV s), .int .i64 y2_0, .int .i64 y2_1, .bool y3_0, .bool y4_0, .int .i64 (numV (truS (truS (P_res (numS s))))), .int .i64 (numV (numS (truS (truS (P_res (numS s)))))), .int .i64 (numV (numS (numS (truS (truS (P_res (numS s)))))))]) ?_ rfl ⟨_, _, _, _, _, _, _, _, rfl, ?_, ?_⟩
  · refine results_cell_row Try.results72 _ _ w.heap.size 60 _ (0, 0) _ ?_ (setRow_heap w7 w.heap.size _ _ 60 _ g7.out) Try.underlying60 rfl I0.out
    rfl
  · exact h7.ext ⟨rfl, rfl, rfl, by simp [World.setRow], fun k hk => setRow_other _ _ _ _ (by omega)⟩ hDq.out.1 hDq.out.2
  · exact s7.setRow (Nat.le_refl _) _


def P_plan (s : Option (List UInt8)) : Option (List UInt8) := truS (lstS P_alloc (lstS numS (numS (numS (numS s)))))
theorem P_plan_none : P_plan none = none := by
  unfold P_plan
  rw [numS_none, numS_none, numS_none, lstS_none, lstS_none, truS_none]

set_option maxHeartbeats 1000000 in
theorem plan_g {D : Nat} (p : Nat) (s : Option (List UInt8)) (w : World) (h : RG D w p s) :
    Calls Try.prog 95 #[.pointer (some ⟨p, 0, none⟩)] w fun e w' => ∃ (x0 : Int) (x1 : Int) (x2 : Int) (x3a : Option Addr) (x3n x3c : Nat) (x4a : Option Addr) (x4n x4c : Nat) (x5 : Bool), e = .returned (.agg #[.int .i64 x0, .int .i64 x1, .int .i64 x2, .slice x3a x3n x3c, .slice x4a x4n x4c, .bool x5]) ∧ RG D w' p (P_plan s) ∧ RS w w' p := by
  have hmf : ∀ (fn : Fn) (first cap : Array Value) (w : World), (Instr.makeFunc fn first cap).run Try.prog w = .ok (.func fn first cap) w := fun _ _ _ _ => rfl
  have hB0 : Below w.heap.size w (w.alloc (.cells #[.int .i64 0, .int .i64 0, .int .i64 0, .slice none 0 0, .slice none 0 0, .bool false] 63)) := (Below.refl _ _).alloc (Nat.le_refl _) _
  have h0 : RG D (w.alloc (.cells #[.int .i64 0, .int .i64 0, .int .i64 0, .slice none 0 0, .slice none 0 0, .bool false] 63)) p s := h.ext hB0 h.1 h.2.1
  have s0 : RS w (w.alloc (.cells #[.int .i64 0, .int .i64 0, .int .i64 0, .slice none 0 0, .slice none 0 0, .bool false] 63)) p := (RS.refl _ _).alloc _
  have g0 : Hid ((w.alloc (.cells #[.int .i64 0, .int .i64 0, .int .i64 0, .slice none 0 0, .slice none 0 0, .bool false] 63)).heap[w.heap.size]? = some (.cells #[.int .i64 0, .int .i64 0, .int .i64 0, .slice none 0 0, .slice none 0 0, .bool false] 63 (0, 0))) := heap_alloc_new w _
  have z0 : w.heap.size < (w.alloc (.cells #[.int .i64 0, .int .i64 0, .int .i64 0, .slice none 0 0, .slice none 0 0, .bool false] 63)).heap.size := by rw [World.size_alloc]; omega
  have hpq : Hid (p ≠ w.heap.size) := by have := h.1; show p ≠ _; omega
  have hDq : Hid (p < w.heap.size ∧ D ≤ w.heap.size) := ⟨h.1, h.2.1⟩
  clear h hB0
  go_enter Try.func95, Try.ntmps95
  go_wp2_with fail
  refine (num_g p s _ h0).mono ?_
  rintro e w1 ⟨rfl, h1, t1⟩
  have s1 := s0.trans t1
  have g1 : Hid (w1.heap[w.heap.size]? = some (.cells #[.int .i64 0, .int .i64 0, .int .i64 0, .slice none 0 0, .slice none 0 0, .bool false] 63 (0, 0))) := (t1.block _ z0 hpq.out.symm).trans g0.out
  have z1 : w.heap.size < w1.heap.size := Nat.lt_of_lt_of_le z0 t1.size
  clear h0 t1 s0 g0 z0
  go_wp2_with fail
  refine (num_g p (numS s) _ h1).mono ?_
  rintro e w2 ⟨rfl, h2, t2⟩
  have s2 := s1.trans t2
  have g2 : Hid (w2.heap[w.heap.size]? = some (.cells #[.int .i64 0, .int .i64 0, .int .i64 0, .slice none 0 0, .slice none 0 0, .bool false] 63 (0, 0))) := (t2.block _ z1 hpq.out.symm).trans g1.out
  have z2 : w.heap.size < w2.heap.size := Nat.lt_of_lt_of_le z1 t2.size
  clear h1 t2 s1 g1 z1
  go_wp2_with fail
  refine (num_g p (numS (numS s)) _ h2).mono ?_
  rintro e w3 ⟨rfl, h3, t3⟩
  have s3 := s2.trans t3
  have g3 : Hid (w3.heap[w.heap.size]? = some (.cells #[.int .i64 0, .int .i64 0, .int .i64 0, .slice none 0 0, .slice none 0 0, .bool false] 63 (0, 0))) := (t3.block _ z2 hpq.out.symm).trans g2.out
  have z3 : w.heap.size < w3.heap.size := Nat.lt_of_lt_of_le z2 t3.size
  clear h2 t3 s2 g2 z2
  go_wp2_with fail
  refine (listInt_g p (numS (numS (numS s))) _ h3).mono ?_
  rintro e w4 ⟨y4_0a, y4_0n, y4_0c, rfl, h4, t4⟩
  have s4 := s3.trans t4
  have g4 : Hid (w4.heap[w.heap.size]? = some (.cells #[.int .i64 0, .int .i64 0, .int .i64 0, .slice none 0 0, .slice none 0 0, .bool false] 63 (0, 0))) := (t4.block _ z3 hpq.out.symm).trans g3.out
  have z4 : w.heap.size < w4.heap.size := Nat.lt_of_lt_of_le z3 t4.size
  clear h3 t4 s3 g3 z3
  go_wp2_with fail
  refine (listAlloc_g p (lstS numS (numS (numS (numS s)))) _ h4).mono ?_
  rintro e w5 ⟨y5_0a, y5_0n, y5_0c, rfl, h5, t5⟩
  have s5 := s4.trans t5
  have g5 : Hid (w5.heap[w.heap.size]? = some (.cells #[.int .i64 0, .int .i64 0, .int .i64 0, .slice none 0 0, .slice none 0 0, .bool false] 63 (0, 0))) := (t5.block _ z4 hpq.out.symm).trans g4.out
  have z5 : w.heap.size < w5.heap.size := Nat.lt_of_lt_of_le z4 t5.size
  clear h4 t5 s4 g4 z4
  go_wp2_with fail
  refine (truth_g p (lstS P_alloc (lstS numS (numS (numS (numS s))))) _ h5).mono ?_
  rintro e w6 ⟨y6_0, rfl, h6, t6⟩
  have s6 := s5.trans t6
  have g6 : Hid (w6.heap[w.heap.size]? = some (.cells #[.int .i64 0, .int .i64 0, .int .i64 0, .slice none 0 0, .slice none 0 0, .bool false] 63 (0, 0))) := (t6.block _ z5 hpq.out.symm).trans g5.out
  have z6 : w.heap.size < w6.heap.size := Nat.lt_of_lt_of_le z5 t6.size
  clear h5 t6 s5 g5 z5
  have I0 : Hid ((Try.prog.info? 63).map (·.size) = some (#[.int .i64 (numV s), .int .i64 (numV (numS s)), .int .i64 (numV (numS (numS s))), .slice y4_0a y4_0n y4_0c, .slice y5_0a y5_0n y5_0c, .bool y6_0] : Array Value).size) := by show _ = _; kernel_rfl
  have O0 : Hid ((#[.int .i64 (numV s), .int .i64 (numV (numS s)), .int .i64 (numV (numS (numS s))), .slice y4_0a y4_0n y4_0c, .slice y5_0a y5_0n y5_0c, .bool y6_0] : Array Value).all (·.oneCell') = true) := by show _ = _; kernel_rfl
  go_wp2_with (refine wpList_store_row rfl 63 (.tmp 2) (.tmp 19) rfl w.heap.size #[.int .i64 (numV s), .int .i64 (numV (numS s)), .int .i64 (numV (numS (numS s))), .slice y4_0a y4_0n y4_0c, .slice y5_0a y5_0n y5_0c, .bool y6_0] rfl rfl 63 #[.int .i64 0, .int .i64 0, .int .i64 0, .slice none 0 0, .slice none 0 0, .bool false] g6.out I0.out rfl O0.out ?_)
  refine bodyPost_ret (v := .agg #[.int .i64 (numV s), .int .i64 (numV (numS s)), .int .i64 (numV (numS (numS s))), .slice y4_0a y4_0n y4_0c, .slice y5_0a y5_0n y5_0c, .bool y6_0]) ?_ rfl ⟨_, _, _, _, _, _, _, _, _, _, rfl, ?_, ?_⟩
  · refine results_cell_row Try.results95 _ _ w.heap.size 63 _ (0, 0) _ ?_ (setRow_heap w6 w.heap.size _ _ 63 _ g6.out) Try.underlying63 rfl I0.out
    rfl
  · exact h6.ext ⟨rfl, rfl, rfl, by simp [World.setRow], fun k hk => setRow_other _ _ _ _ (by omega)⟩ hDq.out.1 hDq.out.2
  · exact s6.setRow (Nat.le_refl _) _


def P_result (s : Option (List UInt8)) : Option (List UInt8) := lstS P_alloc (numS (numS s))
theorem P_result_none : P_result none = none := by
  unfold P_result
  rw [numS_none, numS_none, lstS_none]

set_option maxHeartbeats 1000000 in
theorem result_g {D : Nat} (p : Nat) (s : Option (List UInt8)) (w : World) (h : RG D w p s) :
    Calls Try.prog 92 #[.pointer (some ⟨p, 0, none⟩)] w fun e w' => ∃ (x0 : Int) (x1 : Int) (x2a : Option Addr) (x2n x2c : Nat), e = .returned (.agg #[.int .i64 x0, .int .i64 x1, .slice x2a x2n x2c]) ∧ RG D w' p (P_result s) ∧ RS w w' p := by
  have hmf : ∀ (fn : Fn) (first cap : Array Value) (w : World), (Instr.makeFunc fn first cap).run Try.prog w = .ok (.func fn first cap) w := fun _ _ _ _ => rfl
  have hB0 : Below w.heap.size w (w.alloc (.cells #[.int .i64 0, .int .i64 0, .slice none 0 0] 67)) := (Below.refl _ _).alloc (Nat.le_refl _) _
  have h0 : RG D (w.alloc (.cells #[.int .i64 0, .int .i64 0, .slice none 0 0] 67)) p s := h.ext hB0 h.1 h.2.1
  have s0 : RS w (w.alloc (.cells #[.int .i64 0, .int .i64 0, .slice none 0 0] 67)) p := (RS.refl _ _).alloc _
  have g0 : Hid ((w.alloc (.cells #[.int .i64 0, .int .i64 0, .slice none 0 0] 67)).heap[w.heap.size]? = some (.cells #[.int .i64 0, .int .i64 0, .slice none 0 0] 67 (0, 0))) := heap_alloc_new w _
  have z0 : w.heap.size < (w.alloc (.cells #[.int .i64 0, .int .i64 0, .slice none 0 0] 67)).heap.size := by rw [World.size_alloc]; omega
  have hpq : Hid (p ≠ w.heap.size) := by have := h.1; show p ≠ _; omega
  have hDq : Hid (p < w.heap.size ∧ D ≤ w.heap.size) := ⟨h.1, h.2.1⟩
  clear h hB0
  go_enter Try.func92, Try.ntmps92
  go_wp2_with fail
  refine (num_g p s _ h0).mono ?_
  rintro e w1 ⟨rfl, h1, t1⟩
  have s1 := s0.trans t1
  have g1 : Hid (w1.heap[w.heap.size]? = some (.cells #[.int .i64 0, .int .i64 0, .slice none 0 0] 67 (0, 0))) := (t1.block _ z0 hpq.out.symm).trans g0.out
  have z1 : w.heap.size < w1.heap.size := Nat.lt_of_lt_of_le z0 t1.size
  clear h0 t1 s0 g0 z0
  go_wp2_with fail
  refine (num_g p (numS s) _ h1).mono ?_
  rintro e w2 ⟨rfl, h2, t2⟩
  have s2 := s1.trans t2
  have g2 : Hid (w2.heap[w.heap.size]? = some (.cells #[.int .i64 0, .int .i64 0, .slice none 0 0] 67 (0, 0))) := (t2.block _ z1 hpq.out.symm).trans g1.out
  have z2 : w.heap.size < w2.heap.size := Nat.lt_of_lt_of_le z1 t2.size
  clear h1 t2 s1 g1 z1
  go_wp2_with fail
  refine (listAlloc_g p (numS (numS s)) _ h2).mono ?_
  rintro e w3 ⟨y3_0a, y3_0n, y3_0c, rfl, h3, t3⟩
  have s3 := s2.trans t3
  have g3 : Hid (w3.heap[w.heap.size]? = some (.cells #[.int .i64 0, .int .i64 0, .slice none 0 0] 67 (0, 0))) := (t3.block _ z2 hpq.out.symm).trans g2.out
  have z3 : w.heap.size < w3.heap.size := Nat.lt_of_lt_of_le z2 t3.size
  clear h2 t3 s2 g2 z2
  have I0 : Hid ((Try.prog.info? 67).map (·.size) = some (#[.int .i64 (numV s), .int .i64 (numV (numS s)), .slice y3_0a y3_0n y3_0c] : Array Value).size) := by show _ = _; kernel_rfl
  have O0 : Hid ((#[.int .i64 (numV s), .int .i64 (numV (numS s)), .slice y3_0a y3_0n y3_0c] : Array Value).all (·.oneCell') = true) := by show _ = _; kernel_rfl
  go_wp2_with (refine wpList_store_row rfl 67 (.tmp 2) (.tmp 11) rfl w.heap.size #[.int .i64 (numV s), .int .i64 (numV (numS s)), .slice y3_0a y3_0n y3_0c] rfl rfl 67 #[.int .i64 0, .int .i64 0, .slice none 0 0] g3.out I0.out rfl O0.out ?_)
  refine bodyPost_ret (v := .agg #[.int .i64 (numV s), .int .i64 (numV (numS s)), .slice y3_0a y3_0n y3_0c]) ?_ rfl ⟨_, _, _, _, _, rfl, ?_, ?_⟩
  · refine results_cell_row Try.results92 _ _ w.heap.size 67 _ (0, 0) _ ?_ (setRow_heap w3 w.heap.size _ _ 67 _ g3.out) Try.underlying67 rfl I0.out
    rfl
  · exact h3.ext ⟨rfl, rfl, rfl, by simp [World.setRow], fun k hk => setRow_other _ _ _ _ (by omega)⟩ hDq.out.1 hDq.out.2
  · exact s3.setRow (Nat.le_refl _) _


def P_cmd (s : Option (List UInt8)) : Option (List UInt8) := P_conf (P_plan (lstS P_report (P_node (P_job (numS (numS (numS s)))))))
theorem P_cmd_none : P_cmd none = none := by
  unfold P_cmd
  rw [numS_none, numS_none, numS_none, P_job_none, P_node_none, lstS_none, P_plan_none, P_conf_none]

set_option maxHeartbeats 1000000 in
theorem cmd_g {D : Nat} (p : Nat) (s : Option (List UInt8)) (w : World) (h : RG D w p s) :
    Calls Try.prog 43 #[.pointer (some ⟨p, 0, none⟩)] w fun e w' => ∃ (x0 : Int) (x1 : Int) (x2 : Int) (x3 : Int) (x4 : Int) (x5 : Int) (x6 : Int) (x7a : Option Addr) (x7n x7c : Nat) (x8 : Int) (x9 : Bool) (x10 : Int) (x11 : Int) (x12 : Int) (x13 : Bool) (x14 : Bool) (x15 : Int) (x16 : Int) (x17 : Int) (x18a : Option Addr) (x18n x18c : Nat) (x19 : Int) (x20 : Int) (x21 : Int) (x22a : Option Addr) (x22n x22c : Nat) (x23a : Option Addr) (x23n x23c : Nat) (x24 : Bool) (x25a : Option Addr) (x25n x25c : Nat) (x26a : Option Addr) (x26n x26c : Nat), e = .returned (.agg #[.int .i64 x0, .int .i64 x1, .int .i64 x2, .int .i64 x3, .int .i64 x4, .int .i64 x5, .int .i64 x6, .slice x7a x7n x7c, .int .i64 x8, .bool x9, .int .i64 x10, .int .i64 x11, .int .i64 x12, .bool x13, .bool x14, .int .i64 x15, .int .i64 x16, .int .i64 x17, .slice x18a x18n x18c, .int .i64 x19, .int .i64 x20, .int .i64 x21, .slice x22a x22n x22c, .slice x23a x23n x23c, .bool x24, .slice x25a x25n x25c, .slice x26a x26n x26c]) ∧ RG D w' p (P_cmd s) ∧ RS w w' p := by
  have hmf : ∀ (fn : Fn) (first cap : Array Value) (w : World), (Instr.makeFunc fn first cap).run Try.prog w = .ok (.func fn first cap) w := fun _ _ _ _ => rfl
  have hB0 : Below w.heap.size w (w.alloc (.cells #[.int .i64 0, .int .i64 0, .int .i64 0, .int .i64 0, .int .i64 0, .int .i64 0, .int .i64 0, .slice none 0 0, .int .i64 0, .bool false, .int .i64 0, .int .i64 0, .int .i64 0, .bool false, .bool false, .int .i64 0, .int .i64 0, .int .i64 0, .slice none 0 0, .int .i64 0, .int .i64 0, .int .i64 0, .slice none 0 0, .slice none 0 0, .bool false, .slice none 0 0, .slice none 0 0] 65)) := (Below.refl _ _).alloc (Nat.le_refl _) _
  have h0 : RG D (w.alloc (.cells #[.int .i64 0, .int .i64 0, .int .i64 0, .int .i64 0, .int .i64 0, .int .i64 0, .int .i64 0, .slice none 0 0, .int .i64 0, .bool false, .int .i64 0, .int .i64 0, .int .i64 0, .bool false, .bool false, .int .i64 0, .int .i64 0, .int .i64 0, .slice none 0 0, .int .i64 0, .int .i64 0, .int .i64 0, .slice none 0 0, .slice none 0 0, .bool false, .slice none 0 0, .slice none 0 0] 65)) p s := h.ext hB0 h.1 h.2.1
  have s0 : RS w (w.alloc (.cells #[.int .i64 0, .int .i64 0, .int .i64 0, .int .i64 0, .int .i64 0, .int .i64 0, .int .i64 0, .slice none 0 0, .int .i64 0, .bool false, .int .i64 0, .int .i64 0, .int .i64 0, .bool false, .bool false, .int .i64 0, .int .i64 0, .int .i64 0, .slice none 0 0, .int .i64 0, .int .i64 0, .int .i64 0, .slice none 0 0, .slice none 0 0, .bool false, .slice none 0 0, .slice none 0 0] 65)) p := (RS.refl _ _).alloc _
  have g0 : Hid ((w.alloc (.cells #[.int .i64 0, .int .i64 0, .int .i64 0, .int .i64 0, .int .i64 0, .int .i64 0, .int .i64 0, .slice none 0 0, .int .i64 0, .bool false, .int .i64 0, .int .i64 0, .int .i64 0, .bool false, .bool false, .int .i64 0, .int .i64 0, .int .i64 0, .slice none 0 0, .int .i64 0, .int .i64 0, .int .i64 0, .slice none 0 0, .slice none 0 0, .bool false, .slice none 0 0, .slice none 0 0] 65)).heap[w.heap.size]? = some (.cells #[.int .i64 0, .int .i64 0, .int .i64 0, .int .i64 0, .int .i64 0, .int .i64 0, .int .i64 0, .slice none 0 0, .int .i64 0, .bool false, .int .i64 0, .int .i64 0, .int .i64 0, .bool false, .bool false, .int .i64 0, .int .i64 0, .int .i64 0, .slice none 0 0, .int .i64 0, .int .i64 0, .int .i64 0, .slice none 0 0, .slice none 0 0, .bool false, .slice none 0 0, .slice none 0 0] 65 (0, 0))) := heap_alloc_new w _
  have z0 : w.heap.size < (w.alloc (.cells #[.int .i64 0, .int .i64 0, .int .i64 0, .int .i64 0, .int .i64 0, .int .i64 0, .int .i64 0, .slice none 0 0, .int .i64 0, .bool false, .int .i64 0, .int .i64 0, .int .i64 0, .bool false, .bool false, .int .i64 0, .int .i64 0, .int .i64 0, .slice none 0 0, .int .i64 0, .int .i64 0, .int .i64 0, .slice none 0 0, .slice none 0 0, .bool false, .slice none 0 0, .slice none 0 0] 65)).heap.size := by rw [World.size_alloc]; omega
  have hpq : Hid (p ≠ w.heap.size) := by have := h.1; show p ≠ _; omega
  have hDq : Hid (p < w.heap.size ∧ D ≤ w.heap.size) := ⟨h.1, h.2.1⟩
  clear h hB0
  go_enter Try.func43, Try.ntmps43
  go_wp2_with fail
  refine (num_g p s _ h0).mono ?_
  rintro e w1 ⟨rfl, h1, t1⟩
  have s1 := s0.trans t1
  have g1 : Hid (w1.heap[w.heap.size]? = some (.cells #[.int .i64 0, .int .i64 0, .int .i64 0, .int .i64 0, .int .i64 0, .int .i64 0, .int .i64 0, .slice none 0 0, .int .i64 0, .bool false, .int .i64 0, .int .i64 0, .int .i64 0, .bool false, .bool false, .int .i64 0, .int .i64 0, .int .i64 0, .slice none 0 0, .int .i64 0, .int .i64 0, .int .i64 0, .slice none 0 0, .slice none 0 0, .bool false, .slice none 0 0, .slice none 0 0] 65 (0, 0))) := (t1.block _ z0 hpq.out.symm).trans g0.out
  have z1 : w.heap.size < w1.heap.size := Nat.lt_of_lt_of_le z0 t1.size
  clear h0 t1 s0 g0 z0
  go_wp2_with fail
  refine (num_g p (numS s) _ h1).mono ?_
  rintro e w2 ⟨rfl, h2, t2⟩
  have s2 := s1.trans t2
  have g2 : Hid (w2.heap[w.heap.size]? = some (.cells #[.int .i64 0, .int .i64 0, .int .i64 0, .int .i64 0, .int .i64 0, .int .i64 0, .int .i64 0, .slice none 0 0, .int .i64 0, .bool false, .int .i64 0, .int .i64 0, .int .i64 0, .bool false, .bool false, .int .i64 0, .int .i64 0, .int .i64 0, .slice none 0 0, .int .i64 0, .int .i64 0, .int .i64 0, .slice none 0 0, .slice none 0 0, .bool false, .slice none 0 0, .slice none 0 0] 65 (0, 0))) := (t2.block _ z1 hpq.out.symm).trans g1.out
  have z2 : w.heap.size < w2.heap.size := Nat.lt_of_lt_of_le z1 t2.size
  clear h1 t2 s1 g1 z1
  go_wp2_with fail
  refine (num_g p (numS (numS s)) _ h2).mono ?_
  rintro e w3 ⟨rfl, h3, t3⟩
  have s3 := s2.trans t3
  have g3 : Hid (w3.heap[w.heap.size]? = some (.cells #[.int .i64 0, .int .i64 0, .int .i64 0, .int .i64 0, .int .i64 0, .int .i64 0, .int .i64 0, .slice none 0 0, .int .i64 0, .bool false, .int .i64 0, .int .i64 0, .int .i64 0, .bool false, .bool false, .int .i64 0, .int .i64 0, .int .i64 0, .slice none 0 0, .int .i64 0, .int .i64 0, .int .i64 0, .slice none 0 0, .slice none 0 0, .bool false, .slice none 0 0, .slice none 0 0] 65 (0, 0))) := (t3.block _ z2 hpq.out.symm).trans g2.out
  have z3 : w.heap.size < w3.heap.size := Nat.lt_of_lt_of_le z2 t3.size
  clear h2 t3 s2 g2 z2
  go_wp2_with fail
  refine (job_g p (numS (numS (numS s))) _ h3).mono ?_
  rintro e w4 ⟨y4_0, y4_1, y4_2, y4_3, y4_4a, y4_4n, y4_4c, y4_5, y4_6, rfl, h4, t4⟩
  have s4 := s3.trans t4
  have g4 : Hid (w4.heap[w.heap.size]? = some (.cells #[.int .i64 0, .int .i64 0, .int .i64 0, .int .i64 0, .int .i64 0, .int .i64 0, .int .i64 0, .slice none 0 0, .int .i64 0, .bool false, .int .i64 0, .int .i64 0, .int .i64 0, .bool false, .bool false, .int .i64 0, .int .i64 0, .int .i64 0, .slice none 0 0, .int .i64 0, .int .i64 0, .int .i64 0, .slice none 0 0, .slice none 0 0, .bool false, .slice none 0 0, .slice none 0 0] 65 (0, 0))) := (t4.block _ z3 hpq.out.symm).trans g3.out
  have z4 : w.heap.size < w4.heap.size := Nat.lt_of_lt_of_le z3 t4.size
  clear h3 t4 s3 g3 z3
  go_wp2_with fail
  refine (node_g p (P_job (numS (numS (numS s)))) _ h4).mono ?_
  rintro e w5 ⟨y5_0, y5_1, y5_2, y5_3, y5_4, y5_5, y5_6, y5_7, rfl, h5, t5⟩
  have s5 := s4.trans t5
  have g5 : Hid (w5.heap[w.heap.size]? = some (.cells #[.int .i64 0, .int .i64 0, .int .i64 0, .int .i64 0, .int .i64 0, .int .i64 0, .int .i64 0, .slice none 0 0, .int .i64 0, .bool false, .int .i64 0, .int .i64 0, .int .i64 0, .bool false, .bool false, .int .i64 0, .int .i64 0, .int .i64 0, .slice none 0 0, .int .i64 0, .int .i64 0, .int .i64 0, .slice none 0 0, .slice none 0 0, .bool false, .slice none 0 0, .slice none 0 0] 65 (0, 0))) := (t5.block _ z4 hpq.out.symm).trans g4.out
  have z5 : w.heap.size < w5.heap.size := Nat.lt_of_lt_of_le z4 t5.size
  clear h4 t5 s4 g4 z4
  go_wp2_with fail
  refine (listReport_g p (P_node (P_job (numS (numS (numS s))))) _ h5).mono ?_
  rintro e w6 ⟨y6_0a, y6_0n, y6_0c, rfl, h6, t6⟩
  have s6 := s5.trans t6
  have g6 : Hid (w6.heap[w.heap.size]? = some (.cells #[.int .i64 0, .int .i64 0, .int .i64 0, .int .i64 0, .int .i64 0, .int .i64 0, .int .i64 0, .slice none 0 0, .int .i64 0, .bool false, .int .i64 0, .int .i64 0, .int .i64 0, .bool false, .bool false, .int .i64 0, .int .i64 0, .int .i64 0, .slice none 0 0, .int .i64 0, .int .i64 0, .int .i64 0, .slice none 0 0, .slice none 0 0, .bool false, .slice none 0 0, .slice none 0 0] 65 (0, 0))) := (t6.block _ z5 hpq.out.symm).trans g5.out
  have z6 : w.heap.size < w6.heap.size := Nat.lt_of_lt_of_le z5 t6.size
  clear h5 t6 s5 g5 z5
  go_wp2_with fail
  refine (plan_g p (lstS P_report (P_node (P_job (numS (numS (numS s)))))) _ h6).mono ?_
  rintro e w7 ⟨y7_0, y7_1, y7_2, y7_3a, y7_3n, y7_3c, y7_4a, y7_4n, y7_4c, y7_5, rfl, h7, t7⟩
  have s7 := s6.trans t7
  have g7 : Hid (w7.heap[w.heap.size]? = some (.cells #[.int .i64 0, .int .i64 0, .int .i64 0, .int .i64 0, .int .i64 0, .int .i64 0, .int .i64 0, .slice none 0 0, .int .i64 0, .bool false, .int .i64 0, .int .i64 0, .int .i64 0, .bool false, .bool false, .int .i64 0, .int .i64 0, .int .i64 0, .slice none 0 0, .int .i64 0, .int .i64 0, .int .i64 0, .slice none 0 0, .slice none 0 0, .bool false, .slice none 0 0, .slice none 0 0] 65 (0, 0))) := (t7.block _ z6 hpq.out.symm).trans g6.out
  have z7 : w.heap.size < w7.heap.size := Nat.lt_of_lt_of_le z6 t7.size
  clear h6 t7 s6 g6 z6
  go_wp2_with fail
  refine (conf_g p (P_plan (lstS P_report (P_node (P_job (numS (numS (numS s))))))) _ h7).mono ?_
  rintro e w8 ⟨y8_0a, y8_0n, y8_0c, y8_1a, y8_1n, y8_1c, rfl, h8, t8⟩
  have s8 := s7.trans t8
  have g8 : Hid (w8.heap[w.heap.size]? = some (.cells #[.int .i64 0, .int .i64 0, .int .i64 0, .int .i64 0, .int .i64 0, .int .i64 0, .int .i64 0, .slice none 0 0, .int .i64 0, .bool false, .int .i64 0, .int .i64 0, .int .i64 0, .bool false, .bool false, .int .i64 0, .int .i64 0, .int .i64 0, .slice none 0 0, .int .i64 0, .int .i64 0, .int .i64 0, .slice none 0 0, .slice none 0 0, .bool false, .slice none 0 0, .slice none 0 0] 65 (0, 0))) := (t8.block _ z7 hpq.out.symm).trans g7.out
  have z8 : w.heap.size < w8.heap.size := Nat.lt_of_lt_of_le z7 t8.size
  clear h7 t8 s7 g7 z7
  have I0 : Hid ((Try.prog.info? 65).map (·.size) = some (#[.int .i64 (numV s), .int .i64 (numV (numS s)), .int .i64 (numV (numS (numS s))), .int .i64 y4_0, .int .i64 y4_1, .int .i64 y4_2, .int .i64 y4_3, .slice y4_4a y4_4n y4_4c, .int .i64 y4_5, .bool y4_6, .int .i64 y5_0, .int .i64 y5_1, .int .i64 y5_2, .bool y5_3, .bool y5_4, .int .i64 y5_5, .int .i64 y5_6, .int .i64 y5_7, .slice y6_0a y6_0n y6_0c, .int .i64 y7_0, .int .i64 y7_1, .int .i64 y7_2, .slice y7_3a y7_3n y7_3c, .slice y7_4a y7_4n y7_4c, .bool y7_5, .slice y8_0a y8_0n y8_0c, .slice y8_1a y8_1n y8_1c] : Array Value).size) := by show _ = _; kernel_rfl
  have O0 : Hid ((#[.int .i64 (numV s), .int .i64 (numV (numS s)), .int .i64 (numV (numS (numS s))), .int .i64 y4_0, .int .i64 y4_1, .int .i64 y4_2, .int .i64 y4_3, .slice y4_4a y4_4n y4_4c, .int .i64 y4_5, .bool y4_6, .int .i64 y5_0, .int .i64 y5_1, .int .i64 y5_2, .bool y5_3, .bool y5_4, .int .i64 y5_5, .int .i64 y5_6, .int .i64 y5_7, .slice y6_0a y6_0n y6_0c, .int .i64 y7_0, .int .i64 y7_1, .int .i64 y7_2, .slice y7_3a y7_3n y7_3c, .slice y7_4a y7_4n y7_4c, .bool y7_5, .slice y8_0a y8_0n y8_0c, .slice y8_1a y8_1n y8_1c] : Array Value).all (·.oneCell') = true) := by show _ = _; kernel_rfl
  go_wp2_with (refine wpList_store_row rfl 65 (.tmp 2) (.tmp 21) rfl w.heap.size #[.int .i64 (numV s), .int .i64 (numV (numS s)), .int .i64 (numV (numS (numS s))), .int .i64 y4_0, .int .i64 y4_1, .int .i64 y4_2, .int .i64 y4_3, .slice y4_4a y4_4n y4_4c, .int .i64 y4_5, .bool y4_6, .int .i64 y5_0, .int .i64 y5_1, .int .i64 y5_2, .bool y5_3, .bool y5_4, .int .i64 y5_5, .int .i64 y5_6, .int .i64 y5_7, .slice y6_0a y6_0n y6_0c, .int .i64 y7_0, .int .i64 y7_1, .int .i64 y7_2, .slice y7_3a y7_3n y7_3c, .slice y7_4a y7_4n y7_4c, .bool y7_5, .slice y8_0a y8_0n y8_0c, .slice y8_1a y8_1n y8_1c] rfl rfl 65 #[.int .i64 0, .int .i64 0, .int .i64 0, .int .i64 0, .int .i64 0, .int .i64 0, .int .i64 0, .slice none 0 0, .int .i64 0, .bool false, .int .i64 0, .int .i64 0, .int .i64 0, .bool false, .bool false, .int .i64 0, .int .i64 0, .int .i64 0, .slice none 0 0, .int .i64 0, .int .i64 0, .int .i64 0, .slice none 0 0, .slice none 0 0, .bool false, .slice none 0 0, .slice none 0 0] g8.out I0.out rfl O0.out ?_)
  refine bodyPost_ret (v := .agg #[.int .i64 (numV s), .int .i64 (numV (numS s)), .int .i64 (numV (numS (numS s))), .int .i64 y4_0, .int .i64 y4_1, .int .i64 y4_2, .int .i64 y4_3, .slice y4_4a y4_4n y4_4c, .int .i64 y4_5, .bool y4_6, .int .i64 y5_0, .int .i64 y5_1, .int .i64 y5_2, .bool y5_3, .bool y5_4, .int .i64 y5_5, .int .i64 y5_6, .int .i64 y5_7, .slice y6_0a y6_0n y6_0c, .int .i64 y7_0, .int .i64 y7_1, .int .i64 y7_2, .slice y7_3a y7_3n y7_3c, .slice y7_4a y7_4n y7_4c, .bool y7_5, .slice y8_0a y8_0n y8_0c, .slice y8_1a y8_1n y8_1c]) ?_ rfl ⟨_, _, _, _, _, _, _, _, _, _, _, _, _, _, _, _, _, _, _, _, _, _, _, _, _, _, _, _, _, _, _, _, _, _, _, _, _, _, _, rfl, ?_, ?_⟩
  · refine results_cell_row Try.results43 _ _ w.heap.size 65 _ (0, 0) _ ?_ (setRow_heap w8 w.heap.size _ _ 65 _ g8.out) Try.underlying65 rfl I0.out
    rfl
  · exact h8.ext ⟨rfl, rfl, rfl, by simp [World.setRow], fun k hk => setRow_other _ _ _ _ (by omega)⟩ hDq.out.1 hDq.out.2
  · exact s8.setRow (Nat.le_refl _) _

end Go.Proofs.Ytpbokgeaolpiaab
