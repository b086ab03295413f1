/- What the reader does with records on whatever bytes: what is left, and what was read. Made by program (wip/gen/rdv.py). -/
import Derived.Test.YtpbokgeaolpiaabVra
import Derived.Test.YtpbokgeaolpiaabVry
namespace Go.Proofs.Ytpbokgeaolpiaab
open Go.RowKit

theorem de_snapshot (s : Option (List UInt8)) : de F_snapshot s = ((numV s, numV (numS s), (de F_conf (numS (numS s))).1, (de .byt ((de F_conf (numS (numS s))).2)).1), ((de .byt ((de F_conf (numS (numS s))).2)).2)) := (de_c (de_n s) (de_c (de_n (numS s)) (de_c (de_e F_conf (numS (numS s))) (de_e .byt ((de F_conf (numS (numS s))).2)))))
set_option maxHeartbeats 1000000 in
set_option maxRecDepth 100000 in
theorem snapshot_v {D : Nat} (p : Nat) (s : Option (List UInt8)) (w : World) (h : RG D w p s) :
    Calls Try.prog 34 #[.pointer (some ⟨p, 0, none⟩)] w fun e w' => ∃ cs : List Value, e = .returned (.agg cs.toArray) ∧ Rep w' (NB w w') F_snapshot cs (de F_snapshot s).1 ∧ RG D w' p (de F_snapshot s).2 ∧ RS w w' p := by
  rw [de_snapshot]
  have hmf : ∀ (fn : Fn) (first cap : Array Value) (w : World), (Instr.makeFunc fn first cap).run Try.prog w = .ok (.func fn first cap) w := fun _ _ _ _ => rfl
  have hB0 : Below w.heap.size w (w.alloc (.cells #[.int .i64 0, .int .i64 0, .slice none 0 0, .slice none 0 0, .slice none 0 0] 35)) := (Below.refl _ _).alloc (Nat.le_refl _) _
  have h0 : RG D (w.alloc (.cells #[.int .i64 0, .int .i64 0, .slice none 0 0, .slice none 0 0, .slice none 0 0] 35)) p s := h.ext hB0 h.1 h.2.1
  have s0 : RS w (w.alloc (.cells #[.int .i64 0, .int .i64 0, .slice none 0 0, .slice none 0 0, .slice none 0 0] 35)) p := (RS.refl _ _).alloc _
  have g0 : Hid ((w.alloc (.cells #[.int .i64 0, .int .i64 0, .slice none 0 0, .slice none 0 0, .slice none 0 0] 35)).heap[w.heap.size]? = some (.cells #[.int .i64 0, .int .i64 0, .slice none 0 0, .slice none 0 0, .slice none 0 0] 35 (0, 0))) := heap_alloc_new w _
  have z0 : w.heap.size < (w.alloc (.cells #[.int .i64 0, .int .i64 0, .slice none 0 0, .slice none 0 0, .slice none 0 0] 35)).heap.size := by rw [World.size_alloc]; omega
  have hpq : Hid (p ≠ w.heap.size) := by have := h.1; show p ≠ _; omega
  have hDq : Hid (p < w.heap.size ∧ D ≤ w.heap.size) := ⟨h.1, h.2.1⟩
  clear h hB0
  go_enter Try.func34, Try.ntmps34
  go_wp2_with fail
  refine (num_g p s _ h0).mono ?_
  rintro e w1 ⟨rfl, h1, t1⟩
  have s1 := s0.trans t1
  have g1 : Hid (w1.heap[w.heap.size]? = some (.cells #[.int .i64 0, .int .i64 0, .slice none 0 0, .slice none 0 0, .slice none 0 0] 35 (0, 0))) := (t1.block _ z0 hpq.out.symm).trans g0.out
  have z1 : w.heap.size < w1.heap.size := Nat.lt_of_lt_of_le z0 t1.size
  clear h0 t1 s0 g0 z0
  go_wp2_with fail
  refine (num_g p (numS s) _ h1).mono ?_
  rintro e w2 ⟨rfl, h2, t2⟩
  have s2 := s1.trans t2
  have g2 : Hid (w2.heap[w.heap.size]? = some (.cells #[.int .i64 0, .int .i64 0, .slice none 0 0, .slice none 0 0, .slice none 0 0] 35 (0, 0))) := (t2.block _ z1 hpq.out.symm).trans g1.out
  have z2 : w.heap.size < w2.heap.size := Nat.lt_of_lt_of_le z1 t2.size
  clear h1 t2 s1 g1 z1
  go_wp2_with fail
  refine (conf_v p (numS (numS s)) _ h2).mono ?_
  rintro e w3 ⟨cs2, rfl, q2, h3, t3⟩
  obtain ⟨y2_0, y2_1, rfl⟩ := list_len2 cs2 q2.len
  have Q2 := hid_intro (q2.kept (S' := fun b => w.heap.size < b ∧ b < w3.heap.size) (Nat.le_refl _) (fun _ _ => rfl) (fun b hb => ⟨Nat.lt_of_lt_of_le z2 hb.1, hb.2⟩))
  clear q2
  have s3 := s2.trans t3
  have g3 : Hid (w3.heap[w.heap.size]? = some (.cells #[.int .i64 0, .int .i64 0, .slice none 0 0, .slice none 0 0, .slice none 0 0] 35 (0, 0))) := (t3.block _ z2 hpq.out.symm).trans g2.out
  have z3 : w.heap.size < w3.heap.size := Nat.lt_of_lt_of_le z2 t3.size
  clear h2 t3 s2 g2 z2
  go_wp2_with fail
  refine (bytes_v p ((de F_conf (numS (numS s))).2) _ h3).mono ?_
  rintro e w4 ⟨a3, c3, rfl, k3, q3, h4, t4⟩
  have Q2 := Q2.out.kept (S' := fun b => w.heap.size < b ∧ b < w4.heap.size) t4.size (fun b hb => t4.block b hb.2 (by have := hb.1; have := hDq.out.1; omega)) (fun b hb => ⟨hb.1, Nat.lt_of_lt_of_le hb.2 t4.size⟩)
  replace Q2 := hid_intro Q2
  have Q3 := hid_intro (q3.kept (S' := fun b => w.heap.size < b ∧ b < w4.heap.size) (Nat.le_refl _) (fun _ _ => rfl) (fun b hb => ⟨Nat.lt_of_lt_of_le z3 hb.1, hb.2⟩))
  clear q3
  have s4 := s3.trans t4
  have g4 : Hid (w4.heap[w.heap.size]? = some (.cells #[.int .i64 0, .int .i64 0, .slice none 0 0, .slice none 0 0, .slice none 0 0] 35 (0, 0))) := (t4.block _ z3 hpq.out.symm).trans g3.out
  have z4 : w.heap.size < w4.heap.size := Nat.lt_of_lt_of_le z3 t4.size
  clear h3 t4 s3 g3 z3
  have I0 : Hid ((Try.prog.info? 35).map (·.size) = some (#[.int .i64 (numV s), .int .i64 (numV (numS s)), y2_0, y2_1, .slice a3 (de .byt ((de F_conf (numS (numS s))).2)).1.length c3] : Array Value).size) := by show _ = _; kernel_rfl
  have REP : Hid (Rep w4 (fun b => w.heap.size < b ∧ b < w4.heap.size) F_snapshot [.int .i64 (numV s), .int .i64 (numV (numS s)), y2_0, y2_1, .slice a3 (de .byt ((de F_conf (numS (numS s))).2)).1.length c3] (numV s, numV (numS s), (de F_conf (numS (numS s))).1, (de .byt ((de F_conf (numS (numS s))).2)).1)) := by
    exact mk_snapshot (numV s) (numV (numS s)) y2_0 y2_1 ((de F_conf (numS (numS s))).1) a3 c3 ((de .byt ((de F_conf (numS (numS s))).2)).1) Q2.out ⟨k3, Q3.out⟩
  have O0 : Hid ((#[.int .i64 (numV s), .int .i64 (numV (numS s)), y2_0, y2_1, .slice a3 (de .byt ((de F_conf (numS (numS s))).2)).1.length c3] : Array Value).all (·.oneCell') = true) := REP.out.all
  go_wp2_with (refine wpList_store_row rfl 35 (.tmp 2) (.tmp 11) rfl w.heap.size #[.int .i64 (numV s), .int .i64 (numV (numS s)), y2_0, y2_1, .slice a3 (de .byt ((de F_conf (numS (numS s))).2)).1.length c3] rfl rfl 35 #[.int .i64 0, .int .i64 0, .slice none 0 0, .slice none 0 0, .slice none 0 0] g4.out I0.out rfl O0.out ?_)
  refine bodyPost_ret (v := .agg #[.int .i64 (numV s), .int .i64 (numV (numS s)), y2_0, y2_1, .slice a3 (de .byt ((de F_conf (numS (numS s))).2)).1.length c3]) ?_ rfl ⟨[.int .i64 (numV s), .int .i64 (numV (numS s)), y2_0, y2_1, .slice a3 (de .byt ((de F_conf (numS (numS s))).2)).1.length c3], rfl, ?_, ?_, ?_⟩
  · refine results_cell_row Try.results34 _ _ w.heap.size 35 _ (0, 0) _ ?_ (setRow_heap w4 w.heap.size _ _ 35 _ g4.out) Try.underlying35 rfl I0.out
    rfl
  · exact REP.out.kept (by simp [World.setRow]) (fun b hb => setRow_other _ _ _ _ (by have := hb.1; omega)) (fun b hb => ⟨Nat.le_of_lt hb.1, by simpa [World.setRow] using hb.2⟩)
  · exact h4.ext ⟨rfl, rfl, rfl, by simp [World.setRow], fun k hk => setRow_other _ _ _ _ (by omega)⟩ hDq.out.1 hDq.out.2
  · exact s4.setRow (Nat.le_refl _) _

end Go.Proofs.Ytpbokgeaolpiaab
