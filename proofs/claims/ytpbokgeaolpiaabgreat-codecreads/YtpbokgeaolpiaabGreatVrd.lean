/- What the reader does with records on whatever bytes: what is left, and what was read. Made by program (wip/gen/rdv.py). -/
import Derived.Test.YtpbokgeaolpiaabGreatVrb
namespace Go.Proofs.YtpbokgeaolpiaabGreat
open Go.RowKit

theorem de_eval (s : Option (List UInt8)) : de F_eval s = ((numV s, numV (numS s), numV (numS (numS s)), numV (numS (numS (numS s)))), (numS (numS (numS (numS s))))) := (de_c (de_n s) (de_c (de_n (numS s)) (de_c (de_n (numS (numS s))) (de_n (numS (numS (numS s)))))))
set_option maxHeartbeats 1000000 in
set_option maxRecDepth 100000 in
theorem eval_v {D : Nat} (p : Nat) (s : Option (List UInt8)) (w : World) (h : RG D w p s) :
    Calls Tryz.prog 96 #[.pointer (some ⟨p, 0, none⟩)] w fun e w' => ∃ cs : List Value, e = .returned (.agg cs.toArray) ∧ Rep w' (NB w w') F_eval cs (de F_eval s).1 ∧ RG D w' p (de F_eval s).2 ∧ RS w w' p := by
  rw [de_eval]
  have hmf : ∀ (fn : Fn) (first cap : Array Value) (w : World), (Instr.makeFunc fn first cap).run Tryz.prog w = .ok (.func fn first cap) w := fun _ _ _ _ => rfl
  have hB0 : Below w.heap.size w (w.alloc (.cells #[.int .i64 0, .int .i64 0, .int .i64 0, .int .i64 0] 140)) := (Below.refl _ _).alloc (Nat.le_refl _) _
  have h0 : RG D (w.alloc (.cells #[.int .i64 0, .int .i64 0, .int .i64 0, .int .i64 0] 140)) p s := h.ext hB0 h.1 h.2.1
  have s0 : RS w (w.alloc (.cells #[.int .i64 0, .int .i64 0, .int .i64 0, .int .i64 0] 140)) p := (RS.refl _ _).alloc _
  have g0 : Hid ((w.alloc (.cells #[.int .i64 0, .int .i64 0, .int .i64 0, .int .i64 0] 140)).heap[w.heap.size]? = some (.cells #[.int .i64 0, .int .i64 0, .int .i64 0, .int .i64 0] 140 (0, 0))) := heap_alloc_new w _
  have z0 : w.heap.size < (w.alloc (.cells #[.int .i64 0, .int .i64 0, .int .i64 0, .int .i64 0] 140)).heap.size := by rw [World.size_alloc]; omega
  have hpq : Hid (p ≠ w.heap.size) := by have := h.1; show p ≠ _; omega
  have hDq : Hid (p < w.heap.size ∧ D ≤ w.heap.size) := ⟨h.1, h.2.1⟩
  clear h hB0
  go_enter Tryz.func96, Tryz.ntmps96
  go_wp2_with fail
  refine (num_g p s _ h0).mono ?_
  rintro e w1 ⟨rfl, h1, t1⟩
  have s1 := s0.trans t1
  have g1 : Hid (w1.heap[w.heap.size]? = some (.cells #[.int .i64 0, .int .i64 0, .int .i64 0, .int .i64 0] 140 (0, 0))) := (t1.block _ z0 hpq.out.symm).trans g0.out
  have z1 : w.heap.size < w1.heap.size := Nat.lt_of_lt_of_le z0 t1.size
  clear h0 t1 s0 g0 z0
  go_wp2_with fail
  refine (num_g p (numS s) _ h1).mono ?_
  rintro e w2 ⟨rfl, h2, t2⟩
  have s2 := s1.trans t2
  have g2 : Hid (w2.heap[w.heap.size]? = some (.cells #[.int .i64 0, .int .i64 0, .int .i64 0, .int .i64 0] 140 (0, 0))) := (t2.block _ z1 hpq.out.symm).trans g1.out
  have z2 : w.heap.size < w2.heap.size := Nat.lt_of_lt_of_le z1 t2.size
  clear h1 t2 s1 g1 z1
  go_wp2_with fail
  refine (num_g p (numS (numS s)) _ h2).mono ?_
  rintro e w3 ⟨rfl, h3, t3⟩
  have s3 := s2.trans t3
  have g3 : Hid (w3.heap[w.heap.size]? = some (.cells #[.int .i64 0, .int .i64 0, .int .i64 0, .int .i64 0] 140 (0, 0))) := (t3.block _ z2 hpq.out.symm).trans g2.out
  have z3 : w.heap.size < w3.heap.size := Nat.lt_of_lt_of_le z2 t3.size
  clear h2 t3 s2 g2 z2
  go_wp2_with fail
  refine (num_g p (numS (numS (numS s))) _ h3).mono ?_
  rintro e w4 ⟨rfl, h4, t4⟩
  have s4 := s3.trans t4
  have g4 : Hid (w4.heap[w.heap.size]? = some (.cells #[.int .i64 0, .int .i64 0, .int .i64 0, .int .i64 0] 140 (0, 0))) := (t4.block _ z3 hpq.out.symm).trans g3.out
  have z4 : w.heap.size < w4.heap.size := Nat.lt_of_lt_of_le z3 t4.size
  clear h3 t4 s3 g3 z3
  have I0 : Hid ((Tryz.prog.info? 140).map (·.size) = some (#[.int .i64 (numV s), .int .i64 (numV (numS s)), .int .i64 (numV (numS (numS s))), .int .i64 (numV (numS (numS (numS s))))] : Array Value).size) := by show _ = _; kernel_rfl
  have REP : Hid (Rep w4 (NBr (w.heap.size + 1) w4) F_eval [.int .i64 (numV s), .int .i64 (numV (numS s)), .int .i64 (numV (numS (numS s))), .int .i64 (numV (numS (numS (numS s))))] (numV s, numV (numS s), numV (numS (numS s)), numV (numS (numS (numS s))))) := by
    exact mk_eval (numV s) (numV (numS s)) (numV (numS (numS s))) (numV (numS (numS (numS s))))
  have O0 : Hid ((#[.int .i64 (numV s), .int .i64 (numV (numS s)), .int .i64 (numV (numS (numS s))), .int .i64 (numV (numS (numS (numS s))))] : Array Value).all (·.oneCell') = true) := REP.out.all
  go_wp2_with (refine wpList_store_row rfl 140 (.tmp 2) (.tmp 11) rfl w.heap.size #[.int .i64 (numV s), .int .i64 (numV (numS s)), .int .i64 (numV (numS (numS s))), .int .i64 (numV (numS (numS (numS s))))] rfl rfl 140 #[.int .i64 0, .int .i64 0, .int .i64 0, .int .i64 0] g4.out I0.out rfl O0.out ?_)
  refine bodyPost_ret (v := .agg #[.int .i64 (numV s), .int .i64 (numV (numS s)), .int .i64 (numV (numS (numS s))), .int .i64 (numV (numS (numS (numS s))))]) ?_ rfl ⟨[.int .i64 (numV s), .int .i64 (numV (numS s)), .int .i64 (numV (numS (numS s))), .int .i64 (numV (numS (numS (numS s))))], rfl, ?_, ?_, ?_⟩
  · refine results_cell_row Tryz.results96 _ _ w.heap.size 140 _ (0, 0) _ ?_ (setRow_heap w4 w.heap.size _ _ 140 _ g4.out) Tryz.underlying140 rfl I0.out
    rfl
  · exact REP.out.keptN (by simp [World.setRow]) (fun b h1 h2 => setRow_other _ _ _ _ (by omega)) (Nat.le_succ _)
  · exact h4.ext ⟨rfl, rfl, rfl, by simp [World.setRow], fun k hk => setRow_other _ _ _ _ (by omega)⟩ hDq.out.1 hDq.out.2
  · exact s4.setRow (Nat.le_refl _) _


theorem de_deploy (s : Option (List UInt8)) : de F_deploy s = ((numV s, numV (numS s), numV (numS (numS s)), numV (numS (numS (numS s)))), (numS (numS (numS (numS s))))) := (de_c (de_n s) (de_c (de_n (numS s)) (de_c (de_n (numS (numS s))) (de_n (numS (numS (numS s)))))))
set_option maxHeartbeats 1000000 in
set_option maxRecDepth 100000 in
theorem deploy_v {D : Nat} (p : Nat) (s : Option (List UInt8)) (w : World) (h : RG D w p s) :
    Calls Tryz.prog 98 #[.pointer (some ⟨p, 0, none⟩)] w fun e w' => ∃ cs : List Value, e = .returned (.agg cs.toArray) ∧ Rep w' (NB w w') F_deploy cs (de F_deploy s).1 ∧ RG D w' p (de F_deploy s).2 ∧ RS w w' p := by
  rw [de_deploy]
  have hmf : ∀ (fn : Fn) (first cap : Array Value) (w : World), (Instr.makeFunc fn first cap).run Tryz.prog w = .ok (.func fn first cap) w := fun _ _ _ _ => rfl
  have hB0 : Below w.heap.size w (w.alloc (.cells #[.int .i64 0, .int .i64 0, .int .i64 0, .int .i64 0] 144)) := (Below.refl _ _).alloc (Nat.le_refl _) _
  have h0 : RG D (w.alloc (.cells #[.int .i64 0, .int .i64 0, .int .i64 0, .int .i64 0] 144)) p s := h.ext hB0 h.1 h.2.1
  have s0 : RS w (w.alloc (.cells #[.int .i64 0, .int .i64 0, .int .i64 0, .int .i64 0] 144)) p := (RS.refl _ _).alloc _
  have g0 : Hid ((w.alloc (.cells #[.int .i64 0, .int .i64 0, .int .i64 0, .int .i64 0] 144)).heap[w.heap.size]? = some (.cells #[.int .i64 0, .int .i64 0, .int .i64 0, .int .i64 0] 144 (0, 0))) := heap_alloc_new w _
  have z0 : w.heap.size < (w.alloc (.cells #[.int .i64 0, .int .i64 0, .int .i64 0, .int .i64 0] 144)).heap.size := by rw [World.size_alloc]; omega
  have hpq : Hid (p ≠ w.heap.size) := by have := h.1; show p ≠ _; omega
  have hDq : Hid (p < w.heap.size ∧ D ≤ w.heap.size) := ⟨h.1, h.2.1⟩
  clear h hB0
  go_enter Tryz.func98, Tryz.ntmps98
  go_wp2_with fail
  refine (num_g p s _ h0).mono ?_
  rintro e w1 ⟨rfl, h1, t1⟩
  have s1 := s0.trans t1
  have g1 : Hid (w1.heap[w.heap.size]? = some (.cells #[.int .i64 0, .int .i64 0, .int .i64 0, .int .i64 0] 144 (0, 0))) := (t1.block _ z0 hpq.out.symm).trans g0.out
  have z1 : w.heap.size < w1.heap.size := Nat.lt_of_lt_of_le z0 t1.size
  clear h0 t1 s0 g0 z0
  go_wp2_with fail
  refine (num_g p (numS s) _ h1).mono ?_
  rintro e w2 ⟨rfl, h2, t2⟩
  have s2 := s1.trans t2
  have g2 : Hid (w2.heap[w.heap.size]? = some (.cells #[.int .i64 0, .int .i64 0, .int .i64 0, .int .i64 0] 144 (0, 0))) := (t2.block _ z1 hpq.out.symm).trans g1.out
  have z2 : w.heap.size < w2.heap.size := Nat.lt_of_lt_of_le z1 t2.size
  clear h1 t2 s1 g1 z1
  go_wp2_with fail
  refine (num_g p (numS (numS s)) _ h2).mono ?_
  rintro e w3 ⟨rfl, h3, t3⟩
  have s3 := s2.trans t3
  have g3 : Hid (w3.heap[w.heap.size]? = some (.cells #[.int .i64 0, .int .i64 0, .int .i64 0, .int .i64 0] 144 (0, 0))) := (t3.block _ z2 hpq.out.symm).trans g2.out
  have z3 : w.heap.size < w3.heap.size := Nat.lt_of_lt_of_le z2 t3.size
  clear h2 t3 s2 g2 z2
  go_wp2_with fail
  refine (num_g p (numS (numS (numS s))) _ h3).mono ?_
  rintro e w4 ⟨rfl, h4, t4⟩
  have s4 := s3.trans t4
  have g4 : Hid (w4.heap[w.heap.size]? = some (.cells #[.int .i64 0, .int .i64 0, .int .i64 0, .int .i64 0] 144 (0, 0))) := (t4.block _ z3 hpq.out.symm).trans g3.out
  have z4 : w.heap.size < w4.heap.size := Nat.lt_of_lt_of_le z3 t4.size
  clear h3 t4 s3 g3 z3
  have I0 : Hid ((Tryz.prog.info? 144).map (·.size) = some (#[.int .i64 (numV s), .int .i64 (numV (numS s)), .int .i64 (numV (numS (numS s))), .int .i64 (numV (numS (numS (numS s))))] : Array Value).size) := by show _ = _; kernel_rfl
  have REP : Hid (Rep w4 (NBr (w.heap.size + 1) w4) F_deploy [.int .i64 (numV s), .int .i64 (numV (numS s)), .int .i64 (numV (numS (numS s))), .int .i64 (numV (numS (numS (numS s))))] (numV s, numV (numS s), numV (numS (numS s)), numV (numS (numS (numS s))))) := by
    exact mk_deploy (numV s) (numV (numS s)) (numV (numS (numS s))) (numV (numS (numS (numS s))))
  have O0 : Hid ((#[.int .i64 (numV s), .int .i64 (numV (numS s)), .int .i64 (numV (numS (numS s))), .int .i64 (numV (numS (numS (numS s))))] : Array Value).all (·.oneCell') = true) := REP.out.all
  go_wp2_with (refine wpList_store_row rfl 144 (.tmp 2) (.tmp 11) rfl w.heap.size #[.int .i64 (numV s), .int .i64 (numV (numS s)), .int .i64 (numV (numS (numS s))), .int .i64 (numV (numS (numS (numS s))))] rfl rfl 144 #[.int .i64 0, .int .i64 0, .int .i64 0, .int .i64 0] g4.out I0.out rfl O0.out ?_)
  refine bodyPost_ret (v := .agg #[.int .i64 (numV s), .int .i64 (numV (numS s)), .int .i64 (numV (numS (numS s))), .int .i64 (numV (numS (numS (numS s))))]) ?_ rfl ⟨[.int .i64 (numV s), .int .i64 (numV (numS s)), .int .i64 (numV (numS (numS s))), .int .i64 (numV (numS (numS (numS s))))], rfl, ?_, ?_, ?_⟩
  · refine results_cell_row Tryz.results98 _ _ w.heap.size 144 _ (0, 0) _ ?_ (setRow_heap w4 w.heap.size _ _ 144 _ g4.out) Tryz.underlying144 rfl I0.out
    rfl
  · exact REP.out.keptN (by simp [World.setRow]) (fun b h1 h2 => setRow_other _ _ _ _ (by omega)) (Nat.le_succ _)
  · exact h4.ext ⟨rfl, rfl, rfl, by simp [World.setRow], fun k hk => setRow_other _ _ _ _ (by omega)⟩ hDq.out.1 hDq.out.2
  · exact s4.setRow (Nat.le_refl _) _


theorem de_seen (s : Option (List UInt8)) : de F_seen s = ((numV s, numV (numS s), (de F_result (numS (numS s))).1), ((de F_result (numS (numS s))).2)) := (de_c (de_n s) (de_c (de_n (numS s)) (de_e F_result (numS (numS s)))))
set_option maxHeartbeats 1000000 in
set_option maxRecDepth 100000 in
theorem seen_v {D : Nat} (p : Nat) (s : Option (List UInt8)) (w : World) (h : RG D w p s) :
    Calls Tryz.prog 100 #[.pointer (some ⟨p, 0, none⟩)] w fun e w' => ∃ cs : List Value, e = .returned (.agg cs.toArray) ∧ Rep w' (NB w w') F_seen cs (de F_seen s).1 ∧ RG D w' p (de F_seen s).2 ∧ RS w w' p := by
  rw [de_seen]
  have hmf : ∀ (fn : Fn) (first cap : Array Value) (w : World), (Instr.makeFunc fn first cap).run Tryz.prog w = .ok (.func fn first cap) w := fun _ _ _ _ => rfl
  have hB0 : Below w.heap.size w (w.alloc (.cells #[.int .i64 0, .int .i64 0, .int .i64 0, .int .i64 0, .slice none 0 0] 148)) := (Below.refl _ _).alloc (Nat.le_refl _) _
  have h0 : RG D (w.alloc (.cells #[.int .i64 0, .int .i64 0, .int .i64 0, .int .i64 0, .slice none 0 0] 148)) p s := h.ext hB0 h.1 h.2.1
  have s0 : RS w (w.alloc (.cells #[.int .i64 0, .int .i64 0, .int .i64 0, .int .i64 0, .slice none 0 0] 148)) p := (RS.refl _ _).alloc _
  have g0 : Hid ((w.alloc (.cells #[.int .i64 0, .int .i64 0, .int .i64 0, .int .i64 0, .slice none 0 0] 148)).heap[w.heap.size]? = some (.cells #[.int .i64 0, .int .i64 0, .int .i64 0, .int .i64 0, .slice none 0 0] 148 (0, 0))) := heap_alloc_new w _
  have z0 : w.heap.size < (w.alloc (.cells #[.int .i64 0, .int .i64 0, .int .i64 0, .int .i64 0, .slice none 0 0] 148)).heap.size := by rw [World.size_alloc]; omega
  have hpq : Hid (p ≠ w.heap.size) := by have := h.1; show p ≠ _; omega
  have hDq : Hid (p < w.heap.size ∧ D ≤ w.heap.size) := ⟨h.1, h.2.1⟩
  clear h hB0
  go_enter Tryz.func100, Tryz.ntmps100
  go_wp2_with fail
  refine (num_g p s _ h0).mono ?_
  rintro e w1 ⟨rfl, h1, t1⟩
  have s1 := s0.trans t1
  have g1 : Hid (w1.heap[w.heap.size]? = some (.cells #[.int .i64 0, .int .i64 0, .int .i64 0, .int .i64 0, .slice none 0 0] 148 (0, 0))) := (t1.block _ z0 hpq.out.symm).trans g0.out
  have z1 : w.heap.size < w1.heap.size := Nat.lt_of_lt_of_le z0 t1.size
  clear h0 t1 s0 g0 z0
  go_wp2_with fail
  refine (num_g p (numS s) _ h1).mono ?_
  rintro e w2 ⟨rfl, h2, t2⟩
  have s2 := s1.trans t2
  have g2 : Hid (w2.heap[w.heap.size]? = some (.cells #[.int .i64 0, .int .i64 0, .int .i64 0, .int .i64 0, .slice none 0 0] 148 (0, 0))) := (t2.block _ z1 hpq.out.symm).trans g1.out
  have z2 : w.heap.size < w2.heap.size := Nat.lt_of_lt_of_le z1 t2.size
  clear h1 t2 s1 g1 z1
  go_wp2_with fail
  refine (result_v p (numS (numS s)) _ h2).mono ?_
  rintro e w3 ⟨cs2, rfl, q2, h3, t3⟩
  obtain ⟨y2_0, y2_1, y2_2, rfl⟩ := list_len3 cs2 q2.len
  have Q2 := hid_intro (q2.keptN (lo' := w.heap.size + 1) (Nat.le_refl _) (fun _ _ _ => rfl) z2)
  clear q2
  have s3 := s2.trans t3
  have g3 : Hid (w3.heap[w.heap.size]? = some (.cells #[.int .i64 0, .int .i64 0, .int .i64 0, .int .i64 0, .slice none 0 0] 148 (0, 0))) := (t3.block _ z2 hpq.out.symm).trans g2.out
  have z3 : w.heap.size < w3.heap.size := Nat.lt_of_lt_of_le z2 t3.size
  clear h2 t3 s2 g2 z2
  have I0 : Hid ((Tryz.prog.info? 148).map (·.size) = some (#[.int .i64 (numV s), .int .i64 (numV (numS s)), y2_0, y2_1, y2_2] : Array Value).size) := by show _ = _; kernel_rfl
  have REP : Hid (Rep w3 (NBr (w.heap.size + 1) w3) F_seen [.int .i64 (numV s), .int .i64 (numV (numS s)), y2_0, y2_1, y2_2] (numV s, numV (numS s), (de F_result (numS (numS s))).1)) := by
    exact mk_seen (numV s) (numV (numS s)) y2_0 y2_1 y2_2 ((de F_result (numS (numS s))).1) Q2.out
  have O0 : Hid ((#[.int .i64 (numV s), .int .i64 (numV (numS s)), y2_0, y2_1, y2_2] : Array Value).all (·.oneCell') = true) := REP.out.all
  go_wp2_with (refine wpList_store_row rfl 148 (.tmp 2) (.tmp 9) rfl w.heap.size #[.int .i64 (numV s), .int .i64 (numV (numS s)), y2_0, y2_1, y2_2] rfl rfl 148 #[.int .i64 0, .int .i64 0, .int .i64 0, .int .i64 0, .slice none 0 0] g3.out I0.out rfl O0.out ?_)
  refine bodyPost_ret (v := .agg #[.int .i64 (numV s), .int .i64 (numV (numS s)), y2_0, y2_1, y2_2]) ?_ rfl ⟨[.int .i64 (numV s), .int .i64 (numV (numS s)), y2_0, y2_1, y2_2], rfl, ?_, ?_, ?_⟩
  · refine results_cell_row Tryz.results100 _ _ w.heap.size 148 _ (0, 0) _ ?_ (setRow_heap w3 w.heap.size _ _ 148 _ g3.out) Tryz.underlying148 rfl I0.out
    rfl
  · exact REP.out.keptN (by simp [World.setRow]) (fun b h1 h2 => setRow_other _ _ _ _ (by omega)) (Nat.le_succ _)
  · exact h3.ext ⟨rfl, rfl, rfl, by simp [World.setRow], fun k hk => setRow_other _ _ _ _ (by omega)⟩ hDq.out.1 hDq.out.2
  · exact s3.setRow (Nat.le_refl _) _


theorem listJob_vi : (Tryz.prog.info? 25).map (fun i => (i.zero, i.size, i.bytes)) = some (some (.agg #[.int .i64 0, .int .i64 0, .int .i64 0, .int .i64 0, .slice none 0 0, .int .i64 0, .bool false]), 7, 72) := by kernel_rfl
set_option maxHeartbeats 800000 in
set_option maxRecDepth 100000 in
theorem listJob_v {D : Nat} (p : Nat) (s : Option (List UInt8)) (w : World) (h : RG D w p s) :
    Calls Tryz.prog 91 #[.pointer (some ⟨p, 0, none⟩), .func (.func 51) #[.pointer (some ⟨p, 0, none⟩)] #[]] w fun e w' => ∃ (a : Option Addr) (c : Nat), e = .returned (.slice a (de (.lst F_job) s).1.length c) ∧ RepL w' (NB w w') F_job a (de (.lst F_job) s).1 ∧ RG D w' p (de (.lst F_job) s).2 ∧ RS w w' p := by
  obtain ⟨i0, hi, hz0, hz1, hz2⟩ := info_parts listJob_vi
  have hp0 := h.1
  have hD0 := h.2.1
  go_enter Tryz.func91, Tryz.ntmps91
  go_wp2_with fail
  refine (count_g p s _ w (by omega) (by omega) h).mono ?_
  rintro e w1 ⟨rfl, r1, s1, hn⟩
  have HNO : Hid (∀ k, k ≤ cntV 64 s → (deN (de F_job) k (cntS 64 s)).2 = none → de (.lst F_job) s = ([], none)) := fun k hk h => de_lst_none F_job s k hk h
  have HYE : Hid (¬ (deN (de F_job) (cntV 64 s) (cntS 64 s)).2 = none → de (.lst F_job) s = deN (de F_job) (cntV 64 s) (cntS 64 s)) := fun h => by rw [de, if_neg h]
  generalize cntV 64 s = N at *
  go_wp2
  go_loopw [5, 8] (fun v i wr => ∃ k : Nat, ∃ xs : List Value, k ≤ N ∧ i = .int .i64 k ∧ RG D wr p (deN (de F_job) k (cntS 64 s)).2 ∧ RS w wr p ∧ wr.ownsRow w.heap.size 25 7 v k xs ∧ Hid (0 < k → (deN (de F_job) k (cntS 64 s)).2 ≠ none) ∧ Hid (Elems w wr F_job v xs (deN (de F_job) k (cntS 64 s)).1)) (fun _ i _ => N - (intOf i).toNat)
  case atStart => exact ⟨0, [], Nat.zero_le _, rfl, r1, s1, World.ownsRow_nil _ _ _ _, (fun h => absurd h (by omega)), Elems.nil _ _ _ _⟩
  case round =>
    obtain ⟨k, xs, hk, rfl, rk, sk, ok, hnn, hel⟩ := hrel
    by_cases hlt : k < N
    · go_wp2_with fail
      refine (job_v p _ wr rk).mono ?_
      rintro e w2 ⟨es, rfl, hx, r2, t2⟩
      obtain ⟨y0, y1, y2, y3, y4, y5, y6, rfl⟩ := list_len7 es hx.len
      have sk2 := sk.trans t2
      have ok2 := ownsRow_rs ok t2 hp0
      have HEL2 : Hid (Elems w w2 F_job u5 xs (deN (de F_job) k (cntS 64 s)).1) := hel.out.rs t2 hp0
      have HVL : Hid (∀ q, u5.ownBlock = some q → q < wr.heap.size) := fun q hq => (ok.lt q hq).2
      have HWR : Hid (w.heap.size ≤ wr.heap.size) := sk.size
      have HX : Hid (Rep w2 (NB wr w2) F_job [y0, y1, y2, y3, y4, y5, y6] (de F_job (deN (de F_job) k (cntS 64 s)).2).1) := hx
      have O1 : Hid (∀ u ∈ (#[y0, y1, y2, y3, y4, y5, y6] : Array Value).toList, u.oneCell' = true) := hx.one
      have HB2 : Hid (Below w2.heap.size w2 (w2.alloc (.cells #[y0, y1, y2, y3, y4, y5, y6] 25))) := (Below.refl _ _).alloc (Nat.le_refl _) _
      clear t2 rk ok sk hx hel
      go_wp2_with (at_builtin; refine wpList_append_own2 _ rfl (.tmp 10) (.tmp 13) 64 rfl w.heap.size 25 i0 (.agg #[.int .i64 0, .int .i64 0, .int .i64 0, .int .i64 0, .slice none 0 0, .int .i64 0, .bool false]) 7 72 Tryz.underlying64 hi hz0 hz1 hz2 rfl (by decide) _ _ _ rfl (ok2.alloc _) ⟨w2.heap.size, 0, none⟩ 1 1 (#[y0, y1, y2, y3, y4, y5, y6] : Array Value).toList rfl rfl (fun j u hj => cell_news w2 _ _ j u hj) O1.out ?c3 ?c4 ?c5 ?next)
      case c3 => unfold maxLen; omega
      case c4 => omega
      case c5 => have := sk2.size; rw [World.size_alloc]; omega
      case next =>
        intro v3 w3 ho3 hg3 hw3
        have HEL3 : Hid (Elems w w3 F_job v3 (xs ++ [y0, y1, y2, y3, y4, y5, y6]) ((deN (de F_job) k (cntS 64 s)).1 ++ [(de F_job (deN (de F_job) k (cntS 64 s)).2).1])) := HEL2.out.more HX.out HWR.out HVL.out HB2.out hg3 (by rw [World.size_alloc]; exact hw3)
        have hB3 : Below w.heap.size w2 w3 := ((Below.refl _ _).alloc sk2.size _).grown hg3 (by have := sk2.size; rw [World.size_alloc]; omega) (fun j hj => (ok2.lt j hj).1)
        have r3 : RG D w3 p (de F_job (deN (de F_job) k (cntS 64 s)).2).2 := r2.ext hB3 hp0 hD0
        have s3 := sk2.ext hB3
        clear hg3 r2 sk2 ok2 hB3 hw3
        cases hst : (de F_job (deN (de F_job) k (cntS 64 s)).2).2 with
        | none =>
          have r4 := r3
          rw [hst] at r4
          have HN : Hid (de (.lst F_job) s = ([], none)) := HNO.out (k + 1) (by omega) hst
          clear hst r3
          obtain ⟨q1, q2, q3, q4, q5, q6⟩ := r4
          have r5 : Hid (RG D w3 p none) := ⟨q1, q2, q3, q4, q5, q6⟩
          go_wp2
          go_ret
          rw [HN.out]
          exact ⟨none, 0, rfl, ⟨by simp, fun h => absurd rfl h⟩, r5.out, s3⟩
        | some l3 =>
          have r4 := r3
          rw [hst] at r4
          have HNN : Hid (0 < k + 1 → (deN (de F_job) (k + 1) (cntS 64 s)).2 ≠ none) := fun _ h => by
            have h' : (de F_job (deN (de F_job) k (cntS 64 s)).2).2 = none := h
            rw [hst] at h'; cases h'
          clear hst
          obtain ⟨_, _, _, _, _, _, _, q6, _⟩ := r4
          have R3 : Hid (RG D w3 p (deN (de F_job) (k + 1) (cntS 64 s)).2) := r3
          clear r3
          go_wp2
          exact ⟨⟨k + 1, _, by omega, by go_num, R3.out, s3, ho3, HNN, HEL3⟩, by simp [intOf]; omega⟩
    · have hkN : k = N := by omega
      subst hkN
      obtain ⟨va, vc, hv, hrl⟩ : ∃ va vc, u5 = Value.slice va k vc ∧ RepL wr (NB w wr) F_job va (deN (de F_job) k (cntS 64 s)).1 := by
        have hl := deN_length (de F_job) k (cntS 64 s)
        have := Elems.done (e := 25) hel.out (by rw [hl]; exact ok) (by rw [hl]; omega)
        rwa [hl] at this
      subst hv
      have FIN : Hid (RepL wr (NB w wr) F_job va (de (.lst F_job) s).1 ∧ RG D wr p (de (.lst F_job) s).2 ∧ (de (.lst F_job) s).1.length = k) := by
        by_cases hst : (deN (de F_job) k (cntS 64 s)).2 = none
        · have hk0 : k = 0 := by
            rcases Nat.eq_zero_or_pos k with h0 | h0
            · exact h0
            · exact absurd hst (hnn.out h0)
          have e := HNO.out k (Nat.le_refl _) hst
          rw [hst] at rk
          refine ⟨?_, ?_, ?_⟩
          · rw [e]; exact ⟨by simp, fun h => absurd rfl h⟩
          · rw [e]; exact rk
          · rw [e, hk0]; rfl
        · have e := HYE.out hst
          refine ⟨?_, ?_, ?_⟩
          · rw [e]; exact hrl
          · rw [e]; exact rk
          · rw [e]; exact deN_length _ _ _
      clear rk ok hrl hel hnn
      go_wp2
      go_ret
      rw [FIN.out.2.2]
      exact ⟨_, _, rfl, FIN.out.1, FIN.out.2.1, sk⟩


theorem listNode_vi : (Tryz.prog.info? 29).map (fun i => (i.zero, i.size, i.bytes)) = some (some (.agg #[.int .i64 0, .int .i64 0, .int .i64 0, .bool false, .bool false, .int .i64 0, .int .i64 0, .int .i64 0]), 8, 56) := by kernel_rfl
set_option maxHeartbeats 800000 in
set_option maxRecDepth 100000 in
theorem listNode_v {D : Nat} (p : Nat) (s : Option (List UInt8)) (w : World) (h : RG D w p s) :
    Calls Tryz.prog 92 #[.pointer (some ⟨p, 0, none⟩), .func (.func 52) #[.pointer (some ⟨p, 0, none⟩)] #[]] w fun e w' => ∃ (a : Option Addr) (c : Nat), e = .returned (.slice a (de (.lst F_node) s).1.length c) ∧ RepL w' (NB w w') F_node a (de (.lst F_node) s).1 ∧ RG D w' p (de (.lst F_node) s).2 ∧ RS w w' p := by
  obtain ⟨i0, hi, hz0, hz1, hz2⟩ := info_parts listNode_vi
  have hp0 := h.1
  have hD0 := h.2.1
  go_enter Tryz.func92, Tryz.ntmps92
  go_wp2_with fail
  refine (count_g p s _ w (by omega) (by omega) h).mono ?_
  rintro e w1 ⟨rfl, r1, s1, hn⟩
  have HNO : Hid (∀ k, k ≤ cntV 64 s → (deN (de F_node) k (cntS 64 s)).2 = none → de (.lst F_node) s = ([], none)) := fun k hk h => de_lst_none F_node s k hk h
  have HYE : Hid (¬ (deN (de F_node) (cntV 64 s) (cntS 64 s)).2 = none → de (.lst F_node) s = deN (de F_node) (cntV 64 s) (cntS 64 s)) := fun h => by rw [de, if_neg h]
  generalize cntV 64 s = N at *
  go_wp2
  go_loopw [5, 8] (fun v i wr => ∃ k : Nat, ∃ xs : List Value, k ≤ N ∧ i = .int .i64 k ∧ RG D wr p (deN (de F_node) k (cntS 64 s)).2 ∧ RS w wr p ∧ wr.ownsRow w.heap.size 29 8 v k xs ∧ Hid (0 < k → (deN (de F_node) k (cntS 64 s)).2 ≠ none) ∧ Hid (Elems w wr F_node v xs (deN (de F_node) k (cntS 64 s)).1)) (fun _ i _ => N - (intOf i).toNat)
  case atStart => exact ⟨0, [], Nat.zero_le _, rfl, r1, s1, World.ownsRow_nil _ _ _ _, (fun h => absurd h (by omega)), Elems.nil _ _ _ _⟩
  case round =>
    obtain ⟨k, xs, hk, rfl, rk, sk, ok, hnn, hel⟩ := hrel
    by_cases hlt : k < N
    · go_wp2_with fail
      refine (node_v p _ wr rk).mono ?_
      rintro e w2 ⟨es, rfl, hx, r2, t2⟩
      obtain ⟨y0, y1, y2, y3, y4, y5, y6, y7, rfl⟩ := list_len8 es hx.len
      have sk2 := sk.trans t2
      have ok2 := ownsRow_rs ok t2 hp0
      have HEL2 : Hid (Elems w w2 F_node u5 xs (deN (de F_node) k (cntS 64 s)).1) := hel.out.rs t2 hp0
      have HVL : Hid (∀ q, u5.ownBlock = some q → q < wr.heap.size) := fun q hq => (ok.lt q hq).2
      have HWR : Hid (w.heap.size ≤ wr.heap.size) := sk.size
      have HX : Hid (Rep w2 (NB wr w2) F_node [y0, y1, y2, y3, y4, y5, y6, y7] (de F_node (deN (de F_node) k (cntS 64 s)).2).1) := hx
      have O1 : Hid (∀ u ∈ (#[y0, y1, y2, y3, y4, y5, y6, y7] : Array Value).toList, u.oneCell' = true) := hx.one
      have HB2 : Hid (Below w2.heap.size w2 (w2.alloc (.cells #[y0, y1, y2, y3, y4, y5, y6, y7] 29))) := (Below.refl _ _).alloc (Nat.le_refl _) _
      clear t2 rk ok sk hx hel
      go_wp2_with (at_builtin; refine wpList_append_own2 _ rfl (.tmp 10) (.tmp 13) 65 rfl w.heap.size 29 i0 (.agg #[.int .i64 0, .int .i64 0, .int .i64 0, .bool false, .bool false, .int .i64 0, .int .i64 0, .int .i64 0]) 8 56 Tryz.underlying65 hi hz0 hz1 hz2 rfl (by decide) _ _ _ rfl (ok2.alloc _) ⟨w2.heap.size, 0, none⟩ 1 1 (#[y0, y1, y2, y3, y4, y5, y6, y7] : Array Value).toList rfl rfl (fun j u hj => cell_news w2 _ _ j u hj) O1.out ?c3 ?c4 ?c5 ?next)
      case c3 => unfold maxLen; omega
      case c4 => omega
      case c5 => have := sk2.size; rw [World.size_alloc]; omega
      case next =>
        intro v3 w3 ho3 hg3 hw3
        have HEL3 : Hid (Elems w w3 F_node v3 (xs ++ [y0, y1, y2, y3, y4, y5, y6, y7]) ((deN (de F_node) k (cntS 64 s)).1 ++ [(de F_node (deN (de F_node) k (cntS 64 s)).2).1])) := HEL2.out.more HX.out HWR.out HVL.out HB2.out hg3 (by rw [World.size_alloc]; exact hw3)
        have hB3 : Below w.heap.size w2 w3 := ((Below.refl _ _).alloc sk2.size _).grown hg3 (by have := sk2.size; rw [World.size_alloc]; omega) (fun j hj => (ok2.lt j hj).1)
        have r3 : RG D w3 p (de F_node (deN (de F_node) k (cntS 64 s)).2).2 := r2.ext hB3 hp0 hD0
        have s3 := sk2.ext hB3
        clear hg3 r2 sk2 ok2 hB3 hw3
        cases hst : (de F_node (deN (de F_node) k (cntS 64 s)).2).2 with
        | none =>
          have r4 := r3
          rw [hst] at r4
          have HN : Hid (de (.lst F_node) s = ([], none)) := HNO.out (k + 1) (by omega) hst
          clear hst r3
          obtain ⟨q1, q2, q3, q4, q5, q6⟩ := r4
          have r5 : Hid (RG D w3 p none) := ⟨q1, q2, q3, q4, q5, q6⟩
          go_wp2
          go_ret
          rw [HN.out]
          exact ⟨none, 0, rfl, ⟨by simp, fun h => absurd rfl h⟩, r5.out, s3⟩
        | some l3 =>
          have r4 := r3
          rw [hst] at r4
          have HNN : Hid (0 < k + 1 → (deN (de F_node) (k + 1) (cntS 64 s)).2 ≠ none) := fun _ h => by
            have h' : (de F_node (deN (de F_node) k (cntS 64 s)).2).2 = none := h
            rw [hst] at h'; cases h'
          clear hst
          obtain ⟨_, _, _, _, _, _, _, q6, _⟩ := r4
          have R3 : Hid (RG D w3 p (deN (de F_node) (k + 1) (cntS 64 s)).2) := r3
          clear r3
          go_wp2
          exact ⟨⟨k + 1, _, by omega, by go_num, R3.out, s3, ho3, HNN, HEL3⟩, by simp [intOf]; omega⟩
    · have hkN : k = N := by omega
      subst hkN
      obtain ⟨va, vc, hv, hrl⟩ : ∃ va vc, u5 = Value.slice va k vc ∧ RepL wr (NB w wr) F_node va (deN (de F_node) k (cntS 64 s)).1 := by
        have hl := deN_length (de F_node) k (cntS 64 s)
        have := Elems.done (e := 29) hel.out (by rw [hl]; exact ok) (by rw [hl]; omega)
        rwa [hl] at this
      subst hv
      have FIN : Hid (RepL wr (NB w wr) F_node va (de (.lst F_node) s).1 ∧ RG D wr p (de (.lst F_node) s).2 ∧ (de (.lst F_node) s).1.length = k) := by
        by_cases hst : (deN (de F_node) k (cntS 64 s)).2 = none
        · have hk0 : k = 0 := by
            rcases Nat.eq_zero_or_pos k with h0 | h0
            · exact h0
            · exact absurd hst (hnn.out h0)
          have e := HNO.out k (Nat.le_refl _) hst
          rw [hst] at rk
          refine ⟨?_, ?_, ?_⟩
          · rw [e]; exact ⟨by simp, fun h => absurd rfl h⟩
          · rw [e]; exact rk
          · rw [e, hk0]; rfl
        · have e := HYE.out hst
          refine ⟨?_, ?_, ?_⟩
          · rw [e]; exact hrl
          · rw [e]; exact rk
          · rw [e]; exact deN_length _ _ _
      clear rk ok hrl hel hnn
      go_wp2
      go_ret
      rw [FIN.out.2.2]
      exact ⟨_, _, rfl, FIN.out.1, FIN.out.2.1, sk⟩


theorem listEval_vi : (Tryz.prog.info? 140).map (fun i => (i.zero, i.size, i.bytes)) = some (some (.agg #[.int .i64 0, .int .i64 0, .int .i64 0, .int .i64 0]), 4, 32) := by kernel_rfl
set_option maxHeartbeats 800000 in
set_option maxRecDepth 100000 in
theorem listEval_v {D : Nat} (p : Nat) (s : Option (List UInt8)) (w : World) (h : RG D w p s) :
    Calls Tryz.prog 95 #[.pointer (some ⟨p, 0, none⟩), .func (.func 96) #[.pointer (some ⟨p, 0, none⟩)] #[]] w fun e w' => ∃ (a : Option Addr) (c : Nat), e = .returned (.slice a (de (.lst F_eval) s).1.length c) ∧ RepL w' (NB w w') F_eval a (de (.lst F_eval) s).1 ∧ RG D w' p (de (.lst F_eval) s).2 ∧ RS w w' p := by
  obtain ⟨i0, hi, hz0, hz1, hz2⟩ := info_parts listEval_vi
  have hp0 := h.1
  have hD0 := h.2.1
  go_enter Tryz.func95, Tryz.ntmps95
  go_wp2_with fail
  refine (count_g p s _ w (by omega) (by omega) h).mono ?_
  rintro e w1 ⟨rfl, r1, s1, hn⟩
  have HNO : Hid (∀ k, k ≤ cntV 64 s → (deN (de F_eval) k (cntS 64 s)).2 = none → de (.lst F_eval) s = ([], none)) := fun k hk h => de_lst_none F_eval s k hk h
  have HYE : Hid (¬ (deN (de F_eval) (cntV 64 s) (cntS 64 s)).2 = none → de (.lst F_eval) s = deN (de F_eval) (cntV 64 s) (cntS 64 s)) := fun h => by rw [de, if_neg h]
  generalize cntV 64 s = N at *
  go_wp2
  go_loopw [5, 8] (fun v i wr => ∃ k : Nat, ∃ xs : List Value, k ≤ N ∧ i = .int .i64 k ∧ RG D wr p (deN (de F_eval) k (cntS 64 s)).2 ∧ RS w wr p ∧ wr.ownsRow w.heap.size 140 4 v k xs ∧ Hid (0 < k → (deN (de F_eval) k (cntS 64 s)).2 ≠ none) ∧ Hid (Elems w wr F_eval v xs (deN (de F_eval) k (cntS 64 s)).1)) (fun _ i _ => N - (intOf i).toNat)
  case atStart => exact ⟨0, [], Nat.zero_le _, rfl, r1, s1, World.ownsRow_nil _ _ _ _, (fun h => absurd h (by omega)), Elems.nil _ _ _ _⟩
  case round =>
    obtain ⟨k, xs, hk, rfl, rk, sk, ok, hnn, hel⟩ := hrel
    by_cases hlt : k < N
    · go_wp2_with fail
      refine (eval_v p _ wr rk).mono ?_
      rintro e w2 ⟨es, rfl, hx, r2, t2⟩
      obtain ⟨y0, y1, y2, y3, rfl⟩ := list_len4 es hx.len
      have sk2 := sk.trans t2
      have ok2 := ownsRow_rs ok t2 hp0
      have HEL2 : Hid (Elems w w2 F_eval u5 xs (deN (de F_eval) k (cntS 64 s)).1) := hel.out.rs t2 hp0
      have HVL : Hid (∀ q, u5.ownBlock = some q → q < wr.heap.size) := fun q hq => (ok.lt q hq).2
      have HWR : Hid (w.heap.size ≤ wr.heap.size) := sk.size
      have HX : Hid (Rep w2 (NB wr w2) F_eval [y0, y1, y2, y3] (de F_eval (deN (de F_eval) k (cntS 64 s)).2).1) := hx
      have O1 : Hid (∀ u ∈ (#[y0, y1, y2, y3] : Array Value).toList, u.oneCell' = true) := hx.one
      have HB2 : Hid (Below w2.heap.size w2 (w2.alloc (.cells #[y0, y1, y2, y3] 140))) := (Below.refl _ _).alloc (Nat.le_refl _) _
      clear t2 rk ok sk hx hel
      go_wp2_with (at_builtin; refine wpList_append_own2 _ rfl (.tmp 10) (.tmp 13) 66 rfl w.heap.size 140 i0 (.agg #[.int .i64 0, .int .i64 0, .int .i64 0, .int .i64 0]) 4 32 Tryz.underlying66 hi hz0 hz1 hz2 rfl (by decide) _ _ _ rfl (ok2.alloc _) ⟨w2.heap.size, 0, none⟩ 1 1 (#[y0, y1, y2, y3] : Array Value).toList rfl rfl (fun j u hj => cell_news w2 _ _ j u hj) O1.out ?c3 ?c4 ?c5 ?next)
      case c3 => unfold maxLen; omega
      case c4 => omega
      case c5 => have := sk2.size; rw [World.size_alloc]; omega
      case next =>
        intro v3 w3 ho3 hg3 hw3
        have HEL3 : Hid (Elems w w3 F_eval v3 (xs ++ [y0, y1, y2, y3]) ((deN (de F_eval) k (cntS 64 s)).1 ++ [(de F_eval (deN (de F_eval) k (cntS 64 s)).2).1])) := HEL2.out.more HX.out HWR.out HVL.out HB2.out hg3 (by rw [World.size_alloc]; exact hw3)
        have hB3 : Below w.heap.size w2 w3 := ((Below.refl _ _).alloc sk2.size _).grown hg3 (by have := sk2.size; rw [World.size_alloc]; omega) (fun j hj => (ok2.lt j hj).1)
        have r3 : RG D w3 p (de F_eval (deN (de F_eval) k (cntS 64 s)).2).2 := r2.ext hB3 hp0 hD0
        have s3 := sk2.ext hB3
        clear hg3 r2 sk2 ok2 hB3 hw3
        cases hst : (de F_eval (deN (de F_eval) k (cntS 64 s)).2).2 with
        | none =>
          have r4 := r3
          rw [hst] at r4
          have HN : Hid (de (.lst F_eval) s = ([], none)) := HNO.out (k + 1) (by omega) hst
          clear hst r3
          obtain ⟨q1, q2, q3, q4, q5, q6⟩ := r4
          have r5 : Hid (RG D w3 p none) := ⟨q1, q2, q3, q4, q5, q6⟩
          go_wp2
          go_ret
          rw [HN.out]
          exact ⟨none, 0, rfl, ⟨by simp, fun h => absurd rfl h⟩, r5.out, s3⟩
        | some l3 =>
          have r4 := r3
          rw [hst] at r4
          have HNN : Hid (0 < k + 1 → (deN (de F_eval) (k + 1) (cntS 64 s)).2 ≠ none) := fun _ h => by
            have h' : (de F_eval (deN (de F_eval) k (cntS 64 s)).2).2 = none := h
            rw [hst] at h'; cases h'
          clear hst
          obtain ⟨_, _, _, _, _, _, _, q6, _⟩ := r4
          have R3 : Hid (RG D w3 p (deN (de F_eval) (k + 1) (cntS 64 s)).2) := r3
          clear r3
          go_wp2
          exact ⟨⟨k + 1, _, by omega, by go_num, R3.out, s3, ho3, HNN, HEL3⟩, by simp [intOf]; omega⟩
    · have hkN : k = N := by omega
      subst hkN
      obtain ⟨va, vc, hv, hrl⟩ : ∃ va vc, u5 = Value.slice va k vc ∧ RepL wr (NB w wr) F_eval va (deN (de F_eval) k (cntS 64 s)).1 := by
        have hl := deN_length (de F_eval) k (cntS 64 s)
        have := Elems.done (e := 140) hel.out (by rw [hl]; exact ok) (by rw [hl]; omega)
        rwa [hl] at this
      subst hv
      have FIN : Hid (RepL wr (NB w wr) F_eval va (de (.lst F_eval) s).1 ∧ RG D wr p (de (.lst F_eval) s).2 ∧ (de (.lst F_eval) s).1.length = k) := by
        by_cases hst : (deN (de F_eval) k (cntS 64 s)).2 = none
        · have hk0 : k = 0 := by
            rcases Nat.eq_zero_or_pos k with h0 | h0
            · exact h0
            · exact absurd hst (hnn.out h0)
          have e := HNO.out k (Nat.le_refl _) hst
          rw [hst] at rk
          refine ⟨?_, ?_, ?_⟩
          · rw [e]; exact ⟨by simp, fun h => absurd rfl h⟩
          · rw [e]; exact rk
          · rw [e, hk0]; rfl
        · have e := HYE.out hst
          refine ⟨?_, ?_, ?_⟩
          · rw [e]; exact hrl
          · rw [e]; exact rk
          · rw [e]; exact deN_length _ _ _
      clear rk ok hrl hel hnn
      go_wp2
      go_ret
      rw [FIN.out.2.2]
      exact ⟨_, _, rfl, FIN.out.1, FIN.out.2.1, sk⟩


theorem listDeploy_vi : (Tryz.prog.info? 144).map (fun i => (i.zero, i.size, i.bytes)) = some (some (.agg #[.int .i64 0, .int .i64 0, .int .i64 0, .int .i64 0]), 4, 32) := by kernel_rfl
set_option maxHeartbeats 800000 in
set_option maxRecDepth 100000 in
theorem listDeploy_v {D : Nat} (p : Nat) (s : Option (List UInt8)) (w : World) (h : RG D w p s) :
    Calls Tryz.prog 97 #[.pointer (some ⟨p, 0, none⟩), .func (.func 98) #[.pointer (some ⟨p, 0, none⟩)] #[]] w fun e w' => ∃ (a : Option Addr) (c : Nat), e = .returned (.slice a (de (.lst F_deploy) s).1.length c) ∧ RepL w' (NB w w') F_deploy a (de (.lst F_deploy) s).1 ∧ RG D w' p (de (.lst F_deploy) s).2 ∧ RS w w' p := by
  obtain ⟨i0, hi, hz0, hz1, hz2⟩ := info_parts listDeploy_vi
  have hp0 := h.1
  have hD0 := h.2.1
  go_enter Tryz.func97, Tryz.ntmps97
  go_wp2_with fail
  refine (count_g p s _ w (by omega) (by omega) h).mono ?_
  rintro e w1 ⟨rfl, r1, s1, hn⟩
  have HNO : Hid (∀ k, k ≤ cntV 64 s → (deN (de F_deploy) k (cntS 64 s)).2 = none → de (.lst F_deploy) s = ([], none)) := fun k hk h => de_lst_none F_deploy s k hk h
  have HYE : Hid (¬ (deN (de F_deploy) (cntV 64 s) (cntS 64 s)).2 = none → de (.lst F_deploy) s = deN (de F_deploy) (cntV 64 s) (cntS 64 s)) := fun h => by rw [de, if_neg h]
  generalize cntV 64 s = N at *
  go_wp2
  go_loopw [5, 8] (fun v i wr => ∃ k : Nat, ∃ xs : List Value, k ≤ N ∧ i = .int .i64 k ∧ RG D wr p (deN (de F_deploy) k (cntS 64 s)).2 ∧ RS w wr p ∧ wr.ownsRow w.heap.size 144 4 v k xs ∧ Hid (0 < k → (deN (de F_deploy) k (cntS 64 s)).2 ≠ none) ∧ Hid (Elems w wr F_deploy v xs (deN (de F_deploy) k (cntS 64 s)).1)) (fun _ i _ => N - (intOf i).toNat)
  case atStart => exact ⟨0, [], Nat.zero_le _, rfl, r1, s1, World.ownsRow_nil _ _ _ _, (fun h => absurd h (by omega)), Elems.nil _ _ _ _⟩
  case round =>
    obtain ⟨k, xs, hk, rfl, rk, sk, ok, hnn, hel⟩ := hrel
    by_cases hlt : k < N
    · go_wp2_with fail
      refine (deploy_v p _ wr rk).mono ?_
      rintro e w2 ⟨es, rfl, hx, r2, t2⟩
      obtain ⟨y0, y1, y2, y3, rfl⟩ := list_len4 es hx.len
      have sk2 := sk.trans t2
      have ok2 := ownsRow_rs ok t2 hp0
      have HEL2 : Hid (Elems w w2 F_deploy u5 xs (deN (de F_deploy) k (cntS 64 s)).1) := hel.out.rs t2 hp0
      have HVL : Hid (∀ q, u5.ownBlock = some q → q < wr.heap.size) := fun q hq => (ok.lt q hq).2
      have HWR : Hid (w.heap.size ≤ wr.heap.size) := sk.size
      have HX : Hid (Rep w2 (NB wr w2) F_deploy [y0, y1, y2, y3] (de F_deploy (deN (de F_deploy) k (cntS 64 s)).2).1) := hx
      have O1 : Hid (∀ u ∈ (#[y0, y1, y2, y3] : Array Value).toList, u.oneCell' = true) := hx.one
      have HB2 : Hid (Below w2.heap.size w2 (w2.alloc (.cells #[y0, y1, y2, y3] 144))) := (Below.refl _ _).alloc (Nat.le_refl _) _
      clear t2 rk ok sk hx hel
      go_wp2_with (at_builtin; refine wpList_append_own2 _ rfl (.tmp 10) (.tmp 13) 67 rfl w.heap.size 144 i0 (.agg #[.int .i64 0, .int .i64 0, .int .i64 0, .int .i64 0]) 4 32 Tryz.underlying67 hi hz0 hz1 hz2 rfl (by decide) _ _ _ rfl (ok2.alloc _) ⟨w2.heap.size, 0, none⟩ 1 1 (#[y0, y1, y2, y3] : Array Value).toList rfl rfl (fun j u hj => cell_news w2 _ _ j u hj) O1.out ?c3 ?c4 ?c5 ?next)
      case c3 => unfold maxLen; omega
      case c4 => omega
      case c5 => have := sk2.size; rw [World.size_alloc]; omega
      case next =>
        intro v3 w3 ho3 hg3 hw3
        have HEL3 : Hid (Elems w w3 F_deploy v3 (xs ++ [y0, y1, y2, y3]) ((deN (de F_deploy) k (cntS 64 s)).1 ++ [(de F_deploy (deN (de F_deploy) k (cntS 64 s)).2).1])) := HEL2.out.more HX.out HWR.out HVL.out HB2.out hg3 (by rw [World.size_alloc]; exact hw3)
        have hB3 : Below w.heap.size w2 w3 := ((Below.refl _ _).alloc sk2.size _).grown hg3 (by have := sk2.size; rw [World.size_alloc]; omega) (fun j hj => (ok2.lt j hj).1)
        have r3 : RG D w3 p (de F_deploy (deN (de F_deploy) k (cntS 64 s)).2).2 := r2.ext hB3 hp0 hD0
        have s3 := sk2.ext hB3
        clear hg3 r2 sk2 ok2 hB3 hw3
        cases hst : (de F_deploy (deN (de F_deploy) k (cntS 64 s)).2).2 with
        | none =>
          have r4 := r3
          rw [hst] at r4
          have HN : Hid (de (.lst F_deploy) s = ([], none)) := HNO.out (k + 1) (by omega) hst
          clear hst r3
          obtain ⟨q1, q2, q3, q4, q5, q6⟩ := r4
          have r5 : Hid (RG D w3 p none) := ⟨q1, q2, q3, q4, q5, q6⟩
          go_wp2
          go_ret
          rw [HN.out]
          exact ⟨none, 0, rfl, ⟨by simp, fun h => absurd rfl h⟩, r5.out, s3⟩
        | some l3 =>
          have r4 := r3
          rw [hst] at r4
          have HNN : Hid (0 < k + 1 → (deN (de F_deploy) (k + 1) (cntS 64 s)).2 ≠ none) := fun _ h => by
            have h' : (de F_deploy (deN (de F_deploy) k (cntS 64 s)).2).2 = none := h
            rw [hst] at h'; cases h'
          clear hst
          obtain ⟨_, _, _, _, _, _, _, q6, _⟩ := r4
          have R3 : Hid (RG D w3 p (deN (de F_deploy) (k + 1) (cntS 64 s)).2) := r3
          clear r3
          go_wp2
          exact ⟨⟨k + 1, _, by omega, by go_num, R3.out, s3, ho3, HNN, HEL3⟩, by simp [intOf]; omega⟩
    · have hkN : k = N := by omega
      subst hkN
      obtain ⟨va, vc, hv, hrl⟩ : ∃ va vc, u5 = Value.slice va k vc ∧ RepL wr (NB w wr) F_deploy va (deN (de F_deploy) k (cntS 64 s)).1 := by
        have hl := deN_length (de F_deploy) k (cntS 64 s)
        have := Elems.done (e := 144) hel.out (by rw [hl]; exact ok) (by rw [hl]; omega)
        rwa [hl] at this
      subst hv
      have FIN : Hid (RepL wr (NB w wr) F_deploy va (de (.lst F_deploy) s).1 ∧ RG D wr p (de (.lst F_deploy) s).2 ∧ (de (.lst F_deploy) s).1.length = k) := by
        by_cases hst : (deN (de F_deploy) k (cntS 64 s)).2 = none
        · have hk0 : k = 0 := by
            rcases Nat.eq_zero_or_pos k with h0 | h0
            · exact h0
            · exact absurd hst (hnn.out h0)
          have e := HNO.out k (Nat.le_refl _) hst
          rw [hst] at rk
          refine ⟨?_, ?_, ?_⟩
          · rw [e]; exact ⟨by simp, fun h => absurd rfl h⟩
          · rw [e]; exact rk
          · rw [e, hk0]; rfl
        · have e := HYE.out hst
          refine ⟨?_, ?_, ?_⟩
          · rw [e]; exact hrl
          · rw [e]; exact rk
          · rw [e]; exact deN_length _ _ _
      clear rk ok hrl hel hnn
      go_wp2
      go_ret
      rw [FIN.out.2.2]
      exact ⟨_, _, rfl, FIN.out.1, FIN.out.2.1, sk⟩


theorem listSeen_vi : (Tryz.prog.info? 148).map (fun i => (i.zero, i.size, i.bytes)) = some (some (.agg #[.int .i64 0, .int .i64 0, .int .i64 0, .int .i64 0, .slice none 0 0]), 5, 56) := by kernel_rfl
set_option maxHeartbeats 800000 in
set_option maxRecDepth 100000 in
theorem listSeen_v {D : Nat} (p : Nat) (s : Option (List UInt8)) (w : World) (h : RG D w p s) :
    Calls Tryz.prog 99 #[.pointer (some ⟨p, 0, none⟩), .func (.func 100) #[.pointer (some ⟨p, 0, none⟩)] #[]] w fun e w' => ∃ (a : Option Addr) (c : Nat), e = .returned (.slice a (de (.lst F_seen) s).1.length c) ∧ RepL w' (NB w w') F_seen a (de (.lst F_seen) s).1 ∧ RG D w' p (de (.lst F_seen) s).2 ∧ RS w w' p := by
  obtain ⟨i0, hi, hz0, hz1, hz2⟩ := info_parts listSeen_vi
  have hp0 := h.1
  have hD0 := h.2.1
  go_enter Tryz.func99, Tryz.ntmps99
  go_wp2_with fail
  refine (count_g p s _ w (by omega) (by omega) h).mono ?_
  rintro e w1 ⟨rfl, r1, s1, hn⟩
  have HNO : Hid (∀ k, k ≤ cntV 64 s → (deN (de F_seen) k (cntS 64 s)).2 = none → de (.lst F_seen) s = ([], none)) := fun k hk h => de_lst_none F_seen s k hk h
  have HYE : Hid (¬ (deN (de F_seen) (cntV 64 s) (cntS 64 s)).2 = none → de (.lst F_seen) s = deN (de F_seen) (cntV 64 s) (cntS 64 s)) := fun h => by rw [de, if_neg h]
  generalize cntV 64 s = N at *
  go_wp2
  go_loopw [5, 8] (fun v i wr => ∃ k : Nat, ∃ xs : List Value, k ≤ N ∧ i = .int .i64 k ∧ RG D wr p (deN (de F_seen) k (cntS 64 s)).2 ∧ RS w wr p ∧ wr.ownsRow w.heap.size 148 5 v k xs ∧ Hid (0 < k → (deN (de F_seen) k (cntS 64 s)).2 ≠ none) ∧ Hid (Elems w wr F_seen v xs (deN (de F_seen) k (cntS 64 s)).1)) (fun _ i _ => N - (intOf i).toNat)
  case atStart => exact ⟨0, [], Nat.zero_le _, rfl, r1, s1, World.ownsRow_nil _ _ _ _, (fun h => absurd h (by omega)), Elems.nil _ _ _ _⟩
  case round =>
    obtain ⟨k, xs, hk, rfl, rk, sk, ok, hnn, hel⟩ := hrel
    by_cases hlt : k < N
    · go_wp2_with fail
      refine (seen_v p _ wr rk).mono ?_
      rintro e w2 ⟨es, rfl, hx, r2, t2⟩
      obtain ⟨y0, y1, y2, y3, y4, rfl⟩ := list_len5 es hx.len
      have sk2 := sk.trans t2
      have ok2 := ownsRow_rs ok t2 hp0
      have HEL2 : Hid (Elems w w2 F_seen u5 xs (deN (de F_seen) k (cntS 64 s)).1) := hel.out.rs t2 hp0
      have HVL : Hid (∀ q, u5.ownBlock = some q → q < wr.heap.size) := fun q hq => (ok.lt q hq).2
      have HWR : Hid (w.heap.size ≤ wr.heap.size) := sk.size
      have HX : Hid (Rep w2 (NB wr w2) F_seen [y0, y1, y2, y3, y4] (de F_seen (deN (de F_seen) k (cntS 64 s)).2).1) := hx
      have O1 : Hid (∀ u ∈ (#[y0, y1, y2, y3, y4] : Array Value).toList, u.oneCell' = true) := hx.one
      have HB2 : Hid (Below w2.heap.size w2 (w2.alloc (.cells #[y0, y1, y2, y3, y4] 148))) := (Below.refl _ _).alloc (Nat.le_refl _) _
      clear t2 rk ok sk hx hel
      go_wp2_with (at_builtin; refine wpList_append_own2 _ rfl (.tmp 10) (.tmp 13) 68 rfl w.heap.size 148 i0 (.agg #[.int .i64 0, .int .i64 0, .int .i64 0, .int .i64 0, .slice none 0 0]) 5 56 Tryz.underlying68 hi hz0 hz1 hz2 rfl (by decide) _ _ _ rfl (ok2.alloc _) ⟨w2.heap.size, 0, none⟩ 1 1 (#[y0, y1, y2, y3, y4] : Array Value).toList rfl rfl (fun j u hj => cell_news w2 _ _ j u hj) O1.out ?c3 ?c4 ?c5 ?next)
      case c3 => unfold maxLen; omega
      case c4 => omega
      case c5 => have := sk2.size; rw [World.size_alloc]; omega
      case next =>
        intro v3 w3 ho3 hg3 hw3
        have HEL3 : Hid (Elems w w3 F_seen v3 (xs ++ [y0, y1, y2, y3, y4]) ((deN (de F_seen) k (cntS 64 s)).1 ++ [(de F_seen (deN (de F_seen) k (cntS 64 s)).2).1])) := HEL2.out.more HX.out HWR.out HVL.out HB2.out hg3 (by rw [World.size_alloc]; exact hw3)
        have hB3 : Below w.heap.size w2 w3 := ((Below.refl _ _).alloc sk2.size _).grown hg3 (by have := sk2.size; rw [World.size_alloc]; omega) (fun j hj => (ok2.lt j hj).1)
        have r3 : RG D w3 p (de F_seen (deN (de F_seen) k (cntS 64 s)).2).2 := r2.ext hB3 hp0 hD0
        have s3 := sk2.ext hB3
        clear hg3 r2 sk2 ok2 hB3 hw3
        cases hst : (de F_seen (deN (de F_seen) k (cntS 64 s)).2).2 with
        | none =>
          have r4 := r3
          rw [hst] at r4
          have HN : Hid (de (.lst F_seen) s = ([], none)) := HNO.out (k + 1) (by omega) hst
          clear hst r3
          obtain ⟨q1, q2, q3, q4, q5, q6⟩ := r4
          have r5 : Hid (RG D w3 p none) := ⟨q1, q2, q3, q4, q5, q6⟩
          go_wp2
          go_ret
          rw [HN.out]
          exact ⟨none, 0, rfl, ⟨by simp, fun h => absurd rfl h⟩, r5.out, s3⟩
        | some l3 =>
          have r4 := r3
          rw [hst] at r4
          have HNN : Hid (0 < k + 1 → (deN (de F_seen) (k + 1) (cntS 64 s)).2 ≠ none) := fun _ h => by
            have h' : (de F_seen (deN (de F_seen) k (cntS 64 s)).2).2 = none := h
            rw [hst] at h'; cases h'
          clear hst
          obtain ⟨_, _, _, _, _, _, _, q6, _⟩ := r4
          have R3 : Hid (RG D w3 p (deN (de F_seen) (k + 1) (cntS 64 s)).2) := r3
          clear r3
          go_wp2
          exact ⟨⟨k + 1, _, by omega, by go_num, R3.out, s3, ho3, HNN, HEL3⟩, by simp [intOf]; omega⟩
    · have hkN : k = N := by omega
      subst hkN
      obtain ⟨va, vc, hv, hrl⟩ : ∃ va vc, u5 = Value.slice va k vc ∧ RepL wr (NB w wr) F_seen va (deN (de F_seen) k (cntS 64 s)).1 := by
        have hl := deN_length (de F_seen) k (cntS 64 s)
        have := Elems.done (e := 148) hel.out (by rw [hl]; exact ok) (by rw [hl]; omega)
        rwa [hl] at this
      subst hv
      have FIN : Hid (RepL wr (NB w wr) F_seen va (de (.lst F_seen) s).1 ∧ RG D wr p (de (.lst F_seen) s).2 ∧ (de (.lst F_seen) s).1.length = k) := by
        by_cases hst : (deN (de F_seen) k (cntS 64 s)).2 = none
        · have hk0 : k = 0 := by
            rcases Nat.eq_zero_or_pos k with h0 | h0
            · exact h0
            · exact absurd hst (hnn.out h0)
          have e := HNO.out k (Nat.le_refl _) hst
          rw [hst] at rk
          refine ⟨?_, ?_, ?_⟩
          · rw [e]; exact ⟨by simp, fun h => absurd rfl h⟩
          · rw [e]; exact rk
          · rw [e, hk0]; rfl
        · have e := HYE.out hst
          refine ⟨?_, ?_, ?_⟩
          · rw [e]; exact hrl
          · rw [e]; exact rk
          · rw [e]; exact deN_length _ _ _
      clear rk ok hrl hel hnn
      go_wp2
      go_ret
      rw [FIN.out.2.2]
      exact ⟨_, _, rfl, FIN.out.1, FIN.out.2.1, sk⟩


theorem de_store (s : Option (List UInt8)) : de F_store s = ((numV s, numV (numS s), (de (.lst F_job) (numS (numS s))).1, (de (.lst F_job) ((de (.lst F_job) (numS (numS s))).2)).1, (de (.lst F_node) ((de (.lst F_job) ((de (.lst F_job) (numS (numS s))).2)).2)).1, (de (.lst F_alloc) ((de (.lst F_node) ((de (.lst F_job) ((de (.lst F_job) (numS (numS s))).2)).2)).2)).1, (de (.lst F_eval) ((de (.lst F_alloc) ((de (.lst F_node) ((de (.lst F_job) ((de (.lst F_job) (numS (numS s))).2)).2)).2)).2)).1, (de (.lst F_deploy) ((de (.lst F_eval) ((de (.lst F_alloc) ((de (.lst F_node) ((de (.lst F_job) ((de (.lst F_job) (numS (numS s))).2)).2)).2)).2)).2)).1, (de (.lst F_seen) ((de (.lst F_deploy) ((de (.lst F_eval) ((de (.lst F_alloc) ((de (.lst F_node) ((de (.lst F_job) ((de (.lst F_job) (numS (numS s))).2)).2)).2)).2)).2)).2)).1), ((de (.lst F_seen) ((de (.lst F_deploy) ((de (.lst F_eval) ((de (.lst F_alloc) ((de (.lst F_node) ((de (.lst F_job) ((de (.lst F_job) (numS (numS s))).2)).2)).2)).2)).2)).2)).2)) := (de_c (de_n s) (de_c (de_n (numS s)) (de_c (de_e (.lst F_job) (numS (numS s))) (de_c (de_e (.lst F_job) ((de (.lst F_job) (numS (numS s))).2)) (de_c (de_e (.lst F_node) ((de (.lst F_job) ((de (.lst F_job) (numS (numS s))).2)).2)) (de_c (de_e (.lst F_alloc) ((de (.lst F_node) ((de (.lst F_job) ((de (.lst F_job) (numS (numS s))).2)).2)).2)) (de_c (de_e (.lst F_eval) ((de (.lst F_alloc) ((de (.lst F_node) ((de (.lst F_job) ((de (.lst F_job) (numS (numS s))).2)).2)).2)).2)) (de_c (de_e (.lst F_deploy) ((de (.lst F_eval) ((de (.lst F_alloc) ((de (.lst F_node) ((de (.lst F_job) ((de (.lst F_job) (numS (numS s))).2)).2)).2)).2)).2)) (de_e (.lst F_seen) ((de (.lst F_deploy) ((de (.lst F_eval) ((de (.lst F_alloc) ((de (.lst F_node) ((de (.lst F_job) ((de (.lst F_job) (numS (numS s))).2)).2)).2)).2)).2)).2))))))))))
set_option maxHeartbeats 1000000 in
set_option maxRecDepth 100000 in
theorem store_v {D : Nat} (p : Nat) (s : Option (List UInt8)) (w : World) (h : RG D w p s) :
    Calls Tryz.prog 46 #[.pointer (some ⟨p, 0, none⟩)] w fun e w' => ∃ cs : List Value, e = .returned (.agg cs.toArray) ∧ Rep w' (NB w w') F_store cs (de F_store s).1 ∧ RG D w' p (de F_store s).2 ∧ RS w w' p := by
  rw [de_store]
  have hmf : ∀ (fn : Fn) (first cap : Array Value) (w : World), (Instr.makeFunc fn first cap).run Tryz.prog w = .ok (.func fn first cap) w := fun _ _ _ _ => rfl
  have hB0 : Below w.heap.size w (w.alloc (.cells #[.int .i64 0, .int .i64 0, .slice none 0 0, .slice none 0 0, .slice none 0 0, .slice none 0 0, .slice none 0 0, .slice none 0 0, .slice none 0 0] 70)) := (Below.refl _ _).alloc (Nat.le_refl _) _
  have h0 : RG D (w.alloc (.cells #[.int .i64 0, .int .i64 0, .slice none 0 0, .slice none 0 0, .slice none 0 0, .slice none 0 0, .slice none 0 0, .slice none 0 0, .slice none 0 0] 70)) p s := h.ext hB0 h.1 h.2.1
  have s0 : RS w (w.alloc (.cells #[.int .i64 0, .int .i64 0, .slice none 0 0, .slice none 0 0, .slice none 0 0, .slice none 0 0, .slice none 0 0, .slice none 0 0, .slice none 0 0] 70)) p := (RS.refl _ _).alloc _
  have g0 : Hid ((w.alloc (.cells #[.int .i64 0, .int .i64 0, .slice none 0 0, .slice none 0 0, .slice none 0 0, .slice none 0 0, .slice none 0 0, .slice none 0 0, .slice none 0 0] 70)).heap[w.heap.size]? = some (.cells #[.int .i64 0, .int .i64 0, .slice none 0 0, .slice none 0 0, .slice none 0 0, .slice none 0 0, .slice none 0 0, .slice none 0 0, .slice none 0 0] 70 (0, 0))) := heap_alloc_new w _
  have z0 : w.heap.size < (w.alloc (.cells #[.int .i64 0, .int .i64 0, .slice none 0 0, .slice none 0 0, .slice none 0 0, .slice none 0 0, .slice none 0 0, .slice none 0 0, .slice none 0 0] 70)).heap.size := by rw [World.size_alloc]; omega
  have hpq : Hid (p ≠ w.heap.size) := by have := h.1; show p ≠ _; omega
  have hDq : Hid (p < w.heap.size ∧ D ≤ w.heap.size) := ⟨h.1, h.2.1⟩
  clear h hB0
  go_enter Tryz.func46, Tryz.ntmps46
  go_wp2_with fail
  refine (num_g p s _ h0).mono ?_
  rintro e w1 ⟨rfl, h1, t1⟩
  have s1 := s0.trans t1
  have g1 : Hid (w1.heap[w.heap.size]? = some (.cells #[.int .i64 0, .int .i64 0, .slice none 0 0, .slice none 0 0, .slice none 0 0, .slice none 0 0, .slice none 0 0, .slice none 0 0, .slice none 0 0] 70 (0, 0))) := (t1.block _ z0 hpq.out.symm).trans g0.out
  have z1 : w.heap.size < w1.heap.size := Nat.lt_of_lt_of_le z0 t1.size
  clear h0 t1 s0 g0 z0
  go_wp2_with fail
  refine (num_g p (numS s) _ h1).mono ?_
  rintro e w2 ⟨rfl, h2, t2⟩
  have s2 := s1.trans t2
  have g2 : Hid (w2.heap[w.heap.size]? = some (.cells #[.int .i64 0, .int .i64 0, .slice none 0 0, .slice none 0 0, .slice none 0 0, .slice none 0 0, .slice none 0 0, .slice none 0 0, .slice none 0 0] 70 (0, 0))) := (t2.block _ z1 hpq.out.symm).trans g1.out
  have z2 : w.heap.size < w2.heap.size := Nat.lt_of_lt_of_le z1 t2.size
  clear h1 t2 s1 g1 z1
  go_wp2_with fail
  refine (listJob_v p (numS (numS s)) _ h2).mono ?_
  rintro e w3 ⟨a2, c2, rfl, q2, h3, t3⟩
  have Q2 := hid_intro (q2.keptN (lo' := w.heap.size + 1) (Nat.le_refl _) (fun _ _ _ => rfl) z2)
  clear q2
  have s3 := s2.trans t3
  have g3 : Hid (w3.heap[w.heap.size]? = some (.cells #[.int .i64 0, .int .i64 0, .slice none 0 0, .slice none 0 0, .slice none 0 0, .slice none 0 0, .slice none 0 0, .slice none 0 0, .slice none 0 0] 70 (0, 0))) := (t3.block _ z2 hpq.out.symm).trans g2.out
  have z3 : w.heap.size < w3.heap.size := Nat.lt_of_lt_of_le z2 t3.size
  clear h2 t3 s2 g2 z2
  go_wp2_with fail
  refine (listJob_v p ((de (.lst F_job) (numS (numS s))).2) _ h3).mono ?_
  rintro e w4 ⟨a3, c3, rfl, q3, h4, t4⟩
  replace Q2 := hid_intro (Q2.out.keptN (lo' := w.heap.size + 1) t4.size (fun b h1 h2 => t4.block b h2 (by have := hDq.out.1; omega)) (Nat.le_refl _))
  have Q3 := hid_intro (q3.keptN (lo' := w.heap.size + 1) (Nat.le_refl _) (fun _ _ _ => rfl) z3)
  clear q3
  have s4 := s3.trans t4
  have g4 : Hid (w4.heap[w.heap.size]? = some (.cells #[.int .i64 0, .int .i64 0, .slice none 0 0, .slice none 0 0, .slice none 0 0, .slice none 0 0, .slice none 0 0, .slice none 0 0, .slice none 0 0] 70 (0, 0))) := (t4.block _ z3 hpq.out.symm).trans g3.out
  have z4 : w.heap.size < w4.heap.size := Nat.lt_of_lt_of_le z3 t4.size
  clear h3 t4 s3 g3 z3
  go_wp2_with fail
  refine (listNode_v p ((de (.lst F_job) ((de (.lst F_job) (numS (numS s))).2)).2) _ h4).mono ?_
  rintro e w5 ⟨a4, c4, rfl, q4, h5, t5⟩
  replace Q2 := hid_intro (Q2.out.keptN (lo' := w.heap.size + 1) t5.size (fun b h1 h2 => t5.block b h2 (by have := hDq.out.1; omega)) (Nat.le_refl _))
  replace Q3 := hid_intro (Q3.out.keptN (lo' := w.heap.size + 1) t5.size (fun b h1 h2 => t5.block b h2 (by have := hDq.out.1; omega)) (Nat.le_refl _))
  have Q4 := hid_intro (q4.keptN (lo' := w.heap.size + 1) (Nat.le_refl _) (fun _ _ _ => rfl) z4)
  clear q4
  have s5 := s4.trans t5
  have g5 : Hid (w5.heap[w.heap.size]? = some (.cells #[.int .i64 0, .int .i64 0, .slice none 0 0, .slice none 0 0, .slice none 0 0, .slice none 0 0, .slice none 0 0, .slice none 0 0, .slice none 0 0] 70 (0, 0))) := (t5.block _ z4 hpq.out.symm).trans g4.out
  have z5 : w.heap.size < w5.heap.size := Nat.lt_of_lt_of_le z4 t5.size
  clear h4 t5 s4 g4 z4
  go_wp2_with fail
  refine (listAlloc_v p ((de (.lst F_node) ((de (.lst F_job) ((de (.lst F_job) (numS (numS s))).2)).2)).2) _ h5).mono ?_
  rintro e w6 ⟨a5, c5, rfl, q5, h6, t6⟩
  replace Q2 := hid_intro (Q2.out.keptN (lo' := w.heap.size + 1) t6.size (fun b h1 h2 => t6.block b h2 (by have := hDq.out.1; omega)) (Nat.le_refl _))
  replace Q3 := hid_intro (Q3.out.keptN (lo' := w.heap.size + 1) t6.size (fun b h1 h2 => t6.block b h2 (by have := hDq.out.1; omega)) (Nat.le_refl _))
  replace Q4 := hid_intro (Q4.out.keptN (lo' := w.heap.size + 1) t6.size (fun b h1 h2 => t6.block b h2 (by have := hDq.out.1; omega)) (Nat.le_refl _))
  have Q5 := hid_intro (q5.keptN (lo' := w.heap.size + 1) (Nat.le_refl _) (fun _ _ _ => rfl) z5)
  clear q5
  have s6 := s5.trans t6
  have g6 : Hid (w6.heap[w.heap.size]? = some (.cells #[.int .i64 0, .int .i64 0, .slice none 0 0, .slice none 0 0, .slice none 0 0, .slice none 0 0, .slice none 0 0, .slice none 0 0, .slice none 0 0] 70 (0, 0))) := (t6.block _ z5 hpq.out.symm).trans g5.out
  have z6 : w.heap.size < w6.heap.size := Nat.lt_of_lt_of_le z5 t6.size
  clear h5 t6 s5 g5 z5
  go_wp2_with fail
  refine (listEval_v p ((de (.lst F_alloc) ((de (.lst F_node) ((de (.lst F_job) ((de (.lst F_job) (numS (numS s))).2)).2)).2)).2) _ h6).mono ?_
  rintro e w7 ⟨a6, c6, rfl, q6, h7, t7⟩
  replace Q2 := hid_intro (Q2.out.keptN (lo' := w.heap.size + 1) t7.size (fun b h1 h2 => t7.block b h2 (by have := hDq.out.1; omega)) (Nat.le_refl _))
  replace Q3 := hid_intro (Q3.out.keptN (lo' := w.heap.size + 1) t7.size (fun b h1 h2 => t7.block b h2 (by have := hDq.out.1; omega)) (Nat.le_refl _))
  replace Q4 := hid_intro (Q4.out.keptN (lo' := w.heap.size + 1) t7.size (fun b h1 h2 => t7.block b h2 (by have := hDq.out.1; omega)) (Nat.le_refl _))
  replace Q5 := hid_intro (Q5.out.keptN (lo' := w.heap.size + 1) t7.size (fun b h1 h2 => t7.block b h2 (by have := hDq.out.1; omega)) (Nat.le_refl _))
  have Q6 := hid_intro (q6.keptN (lo' := w.heap.size + 1) (Nat.le_refl _) (fun _ _ _ => rfl) z6)
  clear q6
  have s7 := s6.trans t7
  have g7 : Hid (w7.heap[w.heap.size]? = some (.cells #[.int .i64 0, .int .i64 0, .slice none 0 0, .slice none 0 0, .slice none 0 0, .slice none 0 0, .slice none 0 0, .slice none 0 0, .slice none 0 0] 70 (0, 0))) := (t7.block _ z6 hpq.out.symm).trans g6.out
  have z7 : w.heap.size < w7.heap.size := Nat.lt_of_lt_of_le z6 t7.size
  clear h6 t7 s6 g6 z6
  go_wp2_with fail
  refine (listDeploy_v p ((de (.lst F_eval) ((de (.lst F_alloc) ((de (.lst F_node) ((de (.lst F_job) ((de (.lst F_job) (numS (numS s))).2)).2)).2)).2)).2) _ h7).mono ?_
  rintro e w8 ⟨a7, c7, rfl, q7, h8, t8⟩
  replace Q2 := hid_intro (Q2.out.keptN (lo' := w.heap.size + 1) t8.size (fun b h1 h2 => t8.block b h2 (by have := hDq.out.1; omega)) (Nat.le_refl _))
  replace Q3 := hid_intro (Q3.out.keptN (lo' := w.heap.size + 1) t8.size (fun b h1 h2 => t8.block b h2 (by have := hDq.out.1; omega)) (Nat.le_refl _))
  replace Q4 := hid_intro (Q4.out.keptN (lo' := w.heap.size + 1) t8.size (fun b h1 h2 => t8.block b h2 (by have := hDq.out.1; omega)) (Nat.le_refl _))
  replace Q5 := hid_intro (Q5.out.keptN (lo' := w.heap.size + 1) t8.size (fun b h1 h2 => t8.block b h2 (by have := hDq.out.1; omega)) (Nat.le_refl _))
  replace Q6 := hid_intro (Q6.out.keptN (lo' := w.heap.size + 1) t8.size (fun b h1 h2 => t8.block b h2 (by have := hDq.out.1; omega)) (Nat.le_refl _))
  have Q7 := hid_intro (q7.keptN (lo' := w.heap.size + 1) (Nat.le_refl _) (fun _ _ _ => rfl) z7)
  clear q7
  have s8 := s7.trans t8
  have g8 : Hid (w8.heap[w.heap.size]? = some (.cells #[.int .i64 0, .int .i64 0, .slice none 0 0, .slice none 0 0, .slice none 0 0, .slice none 0 0, .slice none 0 0, .slice none 0 0, .slice none 0 0] 70 (0, 0))) := (t8.block _ z7 hpq.out.symm).trans g7.out
  have z8 : w.heap.size < w8.heap.size := Nat.lt_of_lt_of_le z7 t8.size
  clear h7 t8 s7 g7 z7
  go_wp2_with fail
  refine (listSeen_v p ((de (.lst F_deploy) ((de (.lst F_eval) ((de (.lst F_alloc) ((de (.lst F_node) ((de (.lst F_job) ((de (.lst F_job) (numS (numS s))).2)).2)).2)).2)).2)).2) _ h8).mono ?_
  rintro e w9 ⟨a8, c8, rfl, q8, h9, t9⟩
  replace Q2 := hid_intro (Q2.out.keptN (lo' := w.heap.size + 1) t9.size (fun b h1 h2 => t9.block b h2 (by have := hDq.out.1; omega)) (Nat.le_refl _))
  replace Q3 := hid_intro (Q3.out.keptN (lo' := w.heap.size + 1) t9.size (fun b h1 h2 => t9.block b h2 (by have := hDq.out.1; omega)) (Nat.le_refl _))
  replace Q4 := hid_intro (Q4.out.keptN (lo' := w.heap.size + 1) t9.size (fun b h1 h2 => t9.block b h2 (by have := hDq.out.1; omega)) (Nat.le_refl _))
  replace Q5 := hid_intro (Q5.out.keptN (lo' := w.heap.size + 1) t9.size (fun b h1 h2 => t9.block b h2 (by have := hDq.out.1; omega)) (Nat.le_refl _))
  replace Q6 := hid_intro (Q6.out.keptN (lo' := w.heap.size + 1) t9.size (fun b h1 h2 => t9.block b h2 (by have := hDq.out.1; omega)) (Nat.le_refl _))
  replace Q7 := hid_intro (Q7.out.keptN (lo' := w.heap.size + 1) t9.size (fun b h1 h2 => t9.block b h2 (by have := hDq.out.1; omega)) (Nat.le_refl _))
  have Q8 := hid_intro (q8.keptN (lo' := w.heap.size + 1) (Nat.le_refl _) (fun _ _ _ => rfl) z8)
  clear q8
  have s9 := s8.trans t9
  have g9 : Hid (w9.heap[w.heap.size]? = some (.cells #[.int .i64 0, .int .i64 0, .slice none 0 0, .slice none 0 0, .slice none 0 0, .slice none 0 0, .slice none 0 0, .slice none 0 0, .slice none 0 0] 70 (0, 0))) := (t9.block _ z8 hpq.out.symm).trans g8.out
  have z9 : w.heap.size < w9.heap.size := Nat.lt_of_lt_of_le z8 t9.size
  clear h8 t9 s8 g8 z8
  have I0 : Hid ((Tryz.prog.info? 70).map (·.size) = some (#[.int .i64 (numV s), .int .i64 (numV (numS s)), .slice a2 (de (.lst F_job) (numS (numS s))).1.length c2, .slice a3 (de (.lst F_job) ((de (.lst F_job) (numS (numS s))).2)).1.length c3, .slice a4 (de (.lst F_node) ((de (.lst F_job) ((de (.lst F_job) (numS (numS s))).2)).2)).1.length c4, .slice a5 (de (.lst F_alloc) ((de (.lst F_node) ((de (.lst F_job) ((de (.lst F_job) (numS (numS s))).2)).2)).2)).1.length c5, .slice a6 (de (.lst F_eval) ((de (.lst F_alloc) ((de (.lst F_node) ((de (.lst F_job) ((de (.lst F_job) (numS (numS s))).2)).2)).2)).2)).1.length c6, .slice a7 (de (.lst F_deploy) ((de (.lst F_eval) ((de (.lst F_alloc) ((de (.lst F_node) ((de (.lst F_job) ((de (.lst F_job) (numS (numS s))).2)).2)).2)).2)).2)).1.length c7, .slice a8 (de (.lst F_seen) ((de (.lst F_deploy) ((de (.lst F_eval) ((de (.lst F_alloc) ((de (.lst F_node) ((de (.lst F_job) ((de (.lst F_job) (numS (numS s))).2)).2)).2)).2)).2)).2)).1.length c8] : Array Value).size) := by show _ = _; kernel_rfl
  have REP : Hid (Rep w9 (NBr (w.heap.size + 1) w9) F_store [.int .i64 (numV s), .int .i64 (numV (numS s)), .slice a2 (de (.lst F_job) (numS (numS s))).1.length c2, .slice a3 (de (.lst F_job) ((de (.lst F_job) (numS (numS s))).2)).1.length c3, .slice a4 (de (.lst F_node) ((de (.lst F_job) ((de (.lst F_job) (numS (numS s))).2)).2)).1.length c4, .slice a5 (de (.lst F_alloc) ((de (.lst F_node) ((de (.lst F_job) ((de (.lst F_job) (numS (numS s))).2)).2)).2)).1.length c5, .slice a6 (de (.lst F_eval) ((de (.lst F_alloc) ((de (.lst F_node) ((de (.lst F_job) ((de (.lst F_job) (numS (numS s))).2)).2)).2)).2)).1.length c6, .slice a7 (de (.lst F_deploy) ((de (.lst F_eval) ((de (.lst F_alloc) ((de (.lst F_node) ((de (.lst F_job) ((de (.lst F_job) (numS (numS s))).2)).2)).2)).2)).2)).1.length c7, .slice a8 (de (.lst F_seen) ((de (.lst F_deploy) ((de (.lst F_eval) ((de (.lst F_alloc) ((de (.lst F_node) ((de (.lst F_job) ((de (.lst F_job) (numS (numS s))).2)).2)).2)).2)).2)).2)).1.length c8] (numV s, numV (numS s), (de (.lst F_job) (numS (numS s))).1, (de (.lst F_job) ((de (.lst F_job) (numS (numS s))).2)).1, (de (.lst F_node) ((de (.lst F_job) ((de (.lst F_job) (numS (numS s))).2)).2)).1, (de (.lst F_alloc) ((de (.lst F_node) ((de (.lst F_job) ((de (.lst F_job) (numS (numS s))).2)).2)).2)).1, (de (.lst F_eval) ((de (.lst F_alloc) ((de (.lst F_node) ((de (.lst F_job) ((de (.lst F_job) (numS (numS s))).2)).2)).2)).2)).1, (de (.lst F_deploy) ((de (.lst F_eval) ((de (.lst F_alloc) ((de (.lst F_node) ((de (.lst F_job) ((de (.lst F_job) (numS (numS s))).2)).2)).2)).2)).2)).1, (de (.lst F_seen) ((de (.lst F_deploy) ((de (.lst F_eval) ((de (.lst F_alloc) ((de (.lst F_node) ((de (.lst F_job) ((de (.lst F_job) (numS (numS s))).2)).2)).2)).2)).2)).2)).1)) := by
    exact mk_store (numV s) (numV (numS s)) a2 c2 ((de (.lst F_job) (numS (numS s))).1) a3 c3 ((de (.lst F_job) ((de (.lst F_job) (numS (numS s))).2)).1) a4 c4 ((de (.lst F_node) ((de (.lst F_job) ((de (.lst F_job) (numS (numS s))).2)).2)).1) a5 c5 ((de (.lst F_alloc) ((de (.lst F_node) ((de (.lst F_job) ((de (.lst F_job) (numS (numS s))).2)).2)).2)).1) a6 c6 ((de (.lst F_eval) ((de (.lst F_alloc) ((de (.lst F_node) ((de (.lst F_job) ((de (.lst F_job) (numS (numS s))).2)).2)).2)).2)).1) a7 c7 ((de (.lst F_deploy) ((de (.lst F_eval) ((de (.lst F_alloc) ((de (.lst F_node) ((de (.lst F_job) ((de (.lst F_job) (numS (numS s))).2)).2)).2)).2)).2)).1) a8 c8 ((de (.lst F_seen) ((de (.lst F_deploy) ((de (.lst F_eval) ((de (.lst F_alloc) ((de (.lst F_node) ((de (.lst F_job) ((de (.lst F_job) (numS (numS s))).2)).2)).2)).2)).2)).2)).1) Q2.out Q3.out Q4.out Q5.out Q6.out Q7.out Q8.out
  have O0 : Hid ((#[.int .i64 (numV s), .int .i64 (numV (numS s)), .slice a2 (de (.lst F_job) (numS (numS s))).1.length c2, .slice a3 (de (.lst F_job) ((de (.lst F_job) (numS (numS s))).2)).1.length c3, .slice a4 (de (.lst F_node) ((de (.lst F_job) ((de (.lst F_job) (numS (numS s))).2)).2)).1.length c4, .slice a5 (de (.lst F_alloc) ((de (.lst F_node) ((de (.lst F_job) ((de (.lst F_job) (numS (numS s))).2)).2)).2)).1.length c5, .slice a6 (de (.lst F_eval) ((de (.lst F_alloc) ((de (.lst F_node) ((de (.lst F_job) ((de (.lst F_job) (numS (numS s))).2)).2)).2)).2)).1.length c6, .slice a7 (de (.lst F_deploy) ((de (.lst F_eval) ((de (.lst F_alloc) ((de (.lst F_node) ((de (.lst F_job) ((de (.lst F_job) (numS (numS s))).2)).2)).2)).2)).2)).1.length c7, .slice a8 (de (.lst F_seen) ((de (.lst F_deploy) ((de (.lst F_eval) ((de (.lst F_alloc) ((de (.lst F_node) ((de (.lst F_job) ((de (.lst F_job) (numS (numS s))).2)).2)).2)).2)).2)).2)).1.length c8] : Array Value).all (·.oneCell') = true) := REP.out.all
  go_wp2_with (refine wpList_store_row rfl 70 (.tmp 2) (.tmp 35) rfl w.heap.size #[.int .i64 (numV s), .int .i64 (numV (numS s)), .slice a2 (de (.lst F_job) (numS (numS s))).1.length c2, .slice a3 (de (.lst F_job) ((de (.lst F_job) (numS (numS s))).2)).1.length c3, .slice a4 (de (.lst F_node) ((de (.lst F_job) ((de (.lst F_job) (numS (numS s))).2)).2)).1.length c4, .slice a5 (de (.lst F_alloc) ((de (.lst F_node) ((de (.lst F_job) ((de (.lst F_job) (numS (numS s))).2)).2)).2)).1.length c5, .slice a6 (de (.lst F_eval) ((de (.lst F_alloc) ((de (.lst F_node) ((de (.lst F_job) ((de (.lst F_job) (numS (numS s))).2)).2)).2)).2)).1.length c6, .slice a7 (de (.lst F_deploy) ((de (.lst F_eval) ((de (.lst F_alloc) ((de (.lst F_node) ((de (.lst F_job) ((de (.lst F_job) (numS (numS s))).2)).2)).2)).2)).2)).1.length c7, .slice a8 (de (.lst F_seen) ((de (.lst F_deploy) ((de (.lst F_eval) ((de (.lst F_alloc) ((de (.lst F_node) ((de (.lst F_job) ((de (.lst F_job) (numS (numS s))).2)).2)).2)).2)).2)).2)).1.length c8] rfl rfl 70 #[.int .i64 0, .int .i64 0, .slice none 0 0, .slice none 0 0, .slice none 0 0, .slice none 0 0, .slice none 0 0, .slice none 0 0, .slice none 0 0] g9.out I0.out rfl O0.out ?_)
  refine bodyPost_ret (v := .agg #[.int .i64 (numV s), .int .i64 (numV (numS s)), .slice a2 (de (.lst F_job) (numS (numS s))).1.length c2, .slice a3 (de (.lst F_job) ((de (.lst F_job) (numS (numS s))).2)).1.length c3, .slice a4 (de (.lst F_node) ((de (.lst F_job) ((de (.lst F_job) (numS (numS s))).2)).2)).1.length c4, .slice a5 (de (.lst F_alloc) ((de (.lst F_node) ((de (.lst F_job) ((de (.lst F_job) (numS (numS s))).2)).2)).2)).1.length c5, .slice a6 (de (.lst F_eval) ((de (.lst F_alloc) ((de (.lst F_node) ((de (.lst F_job) ((de (.lst F_job) (numS (numS s))).2)).2)).2)).2)).1.length c6, .slice a7 (de (.lst F_deploy) ((de (.lst F_eval) ((de (.lst F_alloc) ((de (.lst F_node) ((de (.lst F_job) ((de (.lst F_job) (numS (numS s))).2)).2)).2)).2)).2)).1.length c7, .slice a8 (de (.lst F_seen) ((de (.lst F_deploy) ((de (.lst F_eval) ((de (.lst F_alloc) ((de (.lst F_node) ((de (.lst F_job) ((de (.lst F_job) (numS (numS s))).2)).2)).2)).2)).2)).2)).1.length c8]) ?_ rfl ⟨[.int .i64 (numV s), .int .i64 (numV (numS s)), .slice a2 (de (.lst F_job) (numS (numS s))).1.length c2, .slice a3 (de (.lst F_job) ((de (.lst F_job) (numS (numS s))).2)).1.length c3, .slice a4 (de (.lst F_node) ((de (.lst F_job) ((de (.lst F_job) (numS (numS s))).2)).2)).1.length c4, .slice a5 (de (.lst F_alloc) ((de (.lst F_node) ((de (.lst F_job) ((de (.lst F_job) (numS (numS s))).2)).2)).2)).1.length c5, .slice a6 (de (.lst F_eval) ((de (.lst F_alloc) ((de (.lst F_node) ((de (.lst F_job) ((de (.lst F_job) (numS (numS s))).2)).2)).2)).2)).1.length c6, .slice a7 (de (.lst F_deploy) ((de (.lst F_eval) ((de (.lst F_alloc) ((de (.lst F_node) ((de (.lst F_job) ((de (.lst F_job) (numS (numS s))).2)).2)).2)).2)).2)).1.length c7, .slice a8 (de (.lst F_seen) ((de (.lst F_deploy) ((de (.lst F_eval) ((de (.lst F_alloc) ((de (.lst F_node) ((de (.lst F_job) ((de (.lst F_job) (numS (numS s))).2)).2)).2)).2)).2)).2)).1.length c8], rfl, ?_, ?_, ?_⟩
  · refine results_cell_row Tryz.results46 _ _ w.heap.size 70 _ (0, 0) _ ?_ (setRow_heap w9 w.heap.size _ _ 70 _ g9.out) Tryz.underlying70 rfl I0.out
    rfl
  · exact REP.out.keptN (by simp [World.setRow]) (fun b h1 h2 => setRow_other _ _ _ _ (by omega)) (Nat.le_succ _)
  · exact h9.ext ⟨rfl, rfl, rfl, by simp [World.setRow], fun k hk => setRow_other _ _ _ _ (by omega)⟩ hDq.out.1 hDq.out.2
  · exact s9.setRow (Nat.le_refl _) _

end Go.Proofs.YtpbokgeaolpiaabGreat
