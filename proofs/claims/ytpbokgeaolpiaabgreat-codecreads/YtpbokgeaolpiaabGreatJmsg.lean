/- The document's reader of a record with a list. Made by program (wip/gen/inr.py). -/
import Derived.Test.YtpbokgeaolpiaabGreatJcmd
import Derived.Test.YtpbokgeaolpiaabGreatVrc
namespace Go.Proofs.YtpbokgeaolpiaabGreat
open Go.RowKit

set_option maxHeartbeats 1000000 in
set_option maxRecDepth 100000 in
theorem entry_i {D : Nat} (p : Nat) (l : List UInt8) (bad : Bool) (w : World) (h : RI D w p l bad) : Calls Tryz.prog 32 #[.pointer (some ⟨p, 0, none⟩)] w fun e w' => RecO D w p F_entry l bad e w' := by
  have hB0 : Below w.heap.size w (w.alloc (.cells #[.int .i64 0, .int .i64 0, .int .i64 0, .int .i64 0, .int .i64 0, .int .i64 0, .int .i64 0, .int .i64 0, .int .i64 0, .slice none 0 0, .int .i64 0, .bool false, .int .i64 0, .int .i64 0, .int .i64 0, .bool false, .bool false, .int .i64 0, .int .i64 0, .int .i64 0, .slice none 0 0, .int .i64 0, .int .i64 0, .int .i64 0, .slice none 0 0, .slice none 0 0, .bool false, .slice none 0 0, .slice none 0 0] 47)) := (Below.refl _ _).alloc (Nat.le_refl _) _
  have h0 : RI D (w.alloc (.cells #[.int .i64 0, .int .i64 0, .int .i64 0, .int .i64 0, .int .i64 0, .int .i64 0, .int .i64 0, .int .i64 0, .int .i64 0, .slice none 0 0, .int .i64 0, .bool false, .int .i64 0, .int .i64 0, .int .i64 0, .bool false, .bool false, .int .i64 0, .int .i64 0, .int .i64 0, .slice none 0 0, .int .i64 0, .int .i64 0, .int .i64 0, .slice none 0 0, .slice none 0 0, .bool false, .slice none 0 0, .slice none 0 0] 47)) p l bad := h.ext hB0 h.1 h.2.1
  have s0 : RS w (w.alloc (.cells #[.int .i64 0, .int .i64 0, .int .i64 0, .int .i64 0, .int .i64 0, .int .i64 0, .int .i64 0, .int .i64 0, .int .i64 0, .slice none 0 0, .int .i64 0, .bool false, .int .i64 0, .int .i64 0, .int .i64 0, .bool false, .bool false, .int .i64 0, .int .i64 0, .int .i64 0, .slice none 0 0, .int .i64 0, .int .i64 0, .int .i64 0, .slice none 0 0, .slice none 0 0, .bool false, .slice none 0 0, .slice none 0 0] 47)) p := (RS.refl _ _).alloc _
  have g0 : Hid ((w.alloc (.cells #[.int .i64 0, .int .i64 0, .int .i64 0, .int .i64 0, .int .i64 0, .int .i64 0, .int .i64 0, .int .i64 0, .int .i64 0, .slice none 0 0, .int .i64 0, .bool false, .int .i64 0, .int .i64 0, .int .i64 0, .bool false, .bool false, .int .i64 0, .int .i64 0, .int .i64 0, .slice none 0 0, .int .i64 0, .int .i64 0, .int .i64 0, .slice none 0 0, .slice none 0 0, .bool false, .slice none 0 0, .slice none 0 0] 47)).heap[w.heap.size]? = some (.cells #[.int .i64 0, .int .i64 0, .int .i64 0, .int .i64 0, .int .i64 0, .int .i64 0, .int .i64 0, .int .i64 0, .int .i64 0, .slice none 0 0, .int .i64 0, .bool false, .int .i64 0, .int .i64 0, .int .i64 0, .bool false, .bool false, .int .i64 0, .int .i64 0, .int .i64 0, .slice none 0 0, .int .i64 0, .int .i64 0, .int .i64 0, .slice none 0 0, .slice none 0 0, .bool false, .slice none 0 0, .slice none 0 0] 47 (0, 0))) := heap_alloc_new w _
  have z0 : w.heap.size < (w.alloc (.cells #[.int .i64 0, .int .i64 0, .int .i64 0, .int .i64 0, .int .i64 0, .int .i64 0, .int .i64 0, .int .i64 0, .int .i64 0, .slice none 0 0, .int .i64 0, .bool false, .int .i64 0, .int .i64 0, .int .i64 0, .bool false, .bool false, .int .i64 0, .int .i64 0, .int .i64 0, .slice none 0 0, .int .i64 0, .int .i64 0, .int .i64 0, .slice none 0 0, .slice none 0 0, .bool false, .slice none 0 0, .slice none 0 0] 47)).heap.size := by rw [World.size_alloc]; omega
  have hpq : Hid (p ≠ w.heap.size) := by have := h.1; show p ≠ _; omega
  have hDq : Hid (p < w.heap.size ∧ D ≤ w.heap.size) := ⟨h.1, h.2.1⟩
  clear h hB0
  go_enter Tryz.func32, Tryz.ntmps32
  go_wp2_with fail
  refine (num_i p _ _ _ h0).mono ?_
  rintro e w1 ⟨m0, rfl, _, l1, b1, rd1, h1, t1⟩
  have RD1 := hidI rd1
  clear rd1
  have s1 := s0.trans t1
  have g1 : Hid (w1.heap[w.heap.size]? = some (.cells #[.int .i64 0, .int .i64 0, .int .i64 0, .int .i64 0, .int .i64 0, .int .i64 0, .int .i64 0, .int .i64 0, .int .i64 0, .slice none 0 0, .int .i64 0, .bool false, .int .i64 0, .int .i64 0, .int .i64 0, .bool false, .bool false, .int .i64 0, .int .i64 0, .int .i64 0, .slice none 0 0, .int .i64 0, .int .i64 0, .int .i64 0, .slice none 0 0, .slice none 0 0, .bool false, .slice none 0 0, .slice none 0 0] 47 (0, 0))) := (t1.block _ z0 hpq.out.symm).trans g0.out
  have z1 : w.heap.size < w1.heap.size := Nat.lt_of_lt_of_le z0 t1.size
  clear h0 t1 s0 g0 z0
  go_wp2_with fail
  refine (num_i p _ _ _ h1).mono ?_
  rintro e w2 ⟨m1, rfl, _, l2, b2, rd2, h2, t2⟩
  have RD2 := hidI rd2
  clear rd2
  have s2 := s1.trans t2
  have g2 : Hid (w2.heap[w.heap.size]? = some (.cells #[.int .i64 0, .int .i64 0, .int .i64 0, .int .i64 0, .int .i64 0, .int .i64 0, .int .i64 0, .int .i64 0, .int .i64 0, .slice none 0 0, .int .i64 0, .bool false, .int .i64 0, .int .i64 0, .int .i64 0, .bool false, .bool false, .int .i64 0, .int .i64 0, .int .i64 0, .slice none 0 0, .int .i64 0, .int .i64 0, .int .i64 0, .slice none 0 0, .slice none 0 0, .bool false, .slice none 0 0, .slice none 0 0] 47 (0, 0))) := (t2.block _ z1 hpq.out.symm).trans g1.out
  have z2 : w.heap.size < w2.heap.size := Nat.lt_of_lt_of_le z1 t2.size
  clear h1 t2 s1 g1 z1
  go_wp2_with fail
  refine (cmd_i p _ _ _ h2).mono ?_
  rintro e w3 ⟨cs2, v2, rfl, q2, l3, b3, rd3, h3, t3⟩
  have RD3 := hidI rd3
  clear rd3
  obtain ⟨y2_0, y2_1, y2_2, y2_3, y2_4, y2_5, y2_6, y2_7, y2_8, y2_9, y2_10, y2_11, y2_12, y2_13, y2_14, y2_15, y2_16, y2_17, y2_18, y2_19, y2_20, y2_21, y2_22, y2_23, y2_24, y2_25, y2_26, rfl⟩ := list_len27 cs2 q2.len
  have Q2 := hidI (q2.keptN (lo' := w.heap.size + 1) (Nat.le_refl _) (fun _ _ _ => rfl) z2)
  clear q2
  have s3 := s2.trans t3
  have g3 : Hid (w3.heap[w.heap.size]? = some (.cells #[.int .i64 0, .int .i64 0, .int .i64 0, .int .i64 0, .int .i64 0, .int .i64 0, .int .i64 0, .int .i64 0, .int .i64 0, .slice none 0 0, .int .i64 0, .bool false, .int .i64 0, .int .i64 0, .int .i64 0, .bool false, .bool false, .int .i64 0, .int .i64 0, .int .i64 0, .slice none 0 0, .int .i64 0, .int .i64 0, .int .i64 0, .slice none 0 0, .slice none 0 0, .bool false, .slice none 0 0, .slice none 0 0] 47 (0, 0))) := (t3.block _ z2 hpq.out.symm).trans g2.out
  have z3 : w.heap.size < w3.heap.size := Nat.lt_of_lt_of_le z2 t3.size
  clear h2 t3 s2 g2 z2
  have I0 : Hid ((Tryz.prog.info? 47).map (·.size) = some (#[.int .i64 m0, .int .i64 m1, y2_0, y2_1, y2_2, y2_3, y2_4, y2_5, y2_6, y2_7, y2_8, y2_9, y2_10, y2_11, y2_12, y2_13, y2_14, y2_15, y2_16, y2_17, y2_18, y2_19, y2_20, y2_21, y2_22, y2_23, y2_24, y2_25, y2_26] : Array Value).size) := by show _ = _; kernel_rfl
  have REP : Hid (Rep w3 (NBr (w.heap.size + 1) w3) F_entry [.int .i64 m0, .int .i64 m1, y2_0, y2_1, y2_2, y2_3, y2_4, y2_5, y2_6, y2_7, y2_8, y2_9, y2_10, y2_11, y2_12, y2_13, y2_14, y2_15, y2_16, y2_17, y2_18, y2_19, y2_20, y2_21, y2_22, y2_23, y2_24, y2_25, y2_26] (m0, m1, v2)) := by
    exact mk_entry m0 m1 y2_0 y2_1 y2_2 y2_3 y2_4 y2_5 y2_6 y2_7 y2_8 y2_9 y2_10 y2_11 y2_12 y2_13 y2_14 y2_15 y2_16 y2_17 y2_18 y2_19 y2_20 y2_21 y2_22 y2_23 y2_24 y2_25 y2_26 v2 Q2.out
  have O0 : Hid ((#[.int .i64 m0, .int .i64 m1, y2_0, y2_1, y2_2, y2_3, y2_4, y2_5, y2_6, y2_7, y2_8, y2_9, y2_10, y2_11, y2_12, y2_13, y2_14, y2_15, y2_16, y2_17, y2_18, y2_19, y2_20, y2_21, y2_22, y2_23, y2_24, y2_25, y2_26] : Array Value).all (·.oneCell') = true) := REP.out.all
  have RDA : Hid (Rd F_entry l bad (m0, m1, v2) l3 b3) := (Rd.cat RD1.out (Rd.cat RD2.out RD3.out))
  go_wp2_with (refine wpList_store_row rfl 47 (.tmp 2) (.tmp 9) rfl w.heap.size #[.int .i64 m0, .int .i64 m1, y2_0, y2_1, y2_2, y2_3, y2_4, y2_5, y2_6, y2_7, y2_8, y2_9, y2_10, y2_11, y2_12, y2_13, y2_14, y2_15, y2_16, y2_17, y2_18, y2_19, y2_20, y2_21, y2_22, y2_23, y2_24, y2_25, y2_26] rfl rfl 47 #[.int .i64 0, .int .i64 0, .int .i64 0, .int .i64 0, .int .i64 0, .int .i64 0, .int .i64 0, .int .i64 0, .int .i64 0, .slice none 0 0, .int .i64 0, .bool false, .int .i64 0, .int .i64 0, .int .i64 0, .bool false, .bool false, .int .i64 0, .int .i64 0, .int .i64 0, .slice none 0 0, .int .i64 0, .int .i64 0, .int .i64 0, .slice none 0 0, .slice none 0 0, .bool false, .slice none 0 0, .slice none 0 0] g3.out I0.out rfl O0.out ?_)
  refine bodyPost_ret (v := .agg #[.int .i64 m0, .int .i64 m1, y2_0, y2_1, y2_2, y2_3, y2_4, y2_5, y2_6, y2_7, y2_8, y2_9, y2_10, y2_11, y2_12, y2_13, y2_14, y2_15, y2_16, y2_17, y2_18, y2_19, y2_20, y2_21, y2_22, y2_23, y2_24, y2_25, y2_26]) ?_ rfl ⟨[.int .i64 m0, .int .i64 m1, y2_0, y2_1, y2_2, y2_3, y2_4, y2_5, y2_6, y2_7, y2_8, y2_9, y2_10, y2_11, y2_12, y2_13, y2_14, y2_15, y2_16, y2_17, y2_18, y2_19, y2_20, y2_21, y2_22, y2_23, y2_24, y2_25, y2_26], _, rfl, ?_, l3, b3, RDA.out, ?_, ?_⟩
  · refine results_cell_row Tryz.results32 _ _ w.heap.size 47 _ (0, 0) _ ?_ (setRow_heap w3 w.heap.size _ _ 47 _ g3.out) Tryz.underlying47 rfl I0.out
    rfl
  · exact REP.out.keptN (by simp [World.setRow]) (fun b h1 h2 => setRow_other _ _ _ _ (by omega)) (Nat.le_succ _)
  · exact h3.ext ⟨rfl, rfl, rfl, by simp [World.setRow], fun k hk => setRow_other _ _ _ _ (by omega)⟩ hDq.out.1 hDq.out.2
  · exact s3.setRow (Nat.le_refl _) _


set_option maxHeartbeats 4000000 in
set_option maxRecDepth 100000 in
theorem msg_i {D : Nat} (p : Nat) (l : List UInt8) (bad : Bool) (w : World) (h : RI D w p l bad) : Calls Tryz.prog 37 #[.pointer (some ⟨p, 0, none⟩)] w fun e w' => RecO D w p F_msg l bad e w' := by
  obtain ⟨i0, hi0, hz00, hz10, hz20⟩ := info_parts listEntry_vi
  have HI := hidI hi0
  have HZ0 := hidI hz00
  have HZ1 := hidI hz10
  have HZ2 := hidI hz20
  clear hi0 hz00 hz10 hz20
  have hB0 : Below w.heap.size w (w.alloc (.cells #[.int .i64 0, .int .i64 0, .int .i64 0, .int .i64 0, .int .i64 0, .int .i64 0, .int .i64 0, .bool false, .int .i64 0, .int .i64 0, .int .i64 0, .int .i64 0, .slice none 0 0, .slice none 0 0, .slice none 0 0, .slice none 0 0, .int .i64 0, .int .i64 0, .int .i64 0, .int .i64 0, .int .i64 0, .int .i64 0, .int .i64 0, .slice none 0 0, .int .i64 0, .bool false, .int .i64 0, .int .i64 0, .int .i64 0, .bool false, .bool false, .int .i64 0, .int .i64 0, .int .i64 0, .slice none 0 0, .int .i64 0, .int .i64 0, .int .i64 0, .slice none 0 0, .slice none 0 0, .bool false, .slice none 0 0, .slice none 0 0, .int .i64 0, .int .i64 0, .slice none 0 0] 55)) := (Below.refl _ _).alloc (Nat.le_refl _) _
  have h0 : RI D (w.alloc (.cells #[.int .i64 0, .int .i64 0, .int .i64 0, .int .i64 0, .int .i64 0, .int .i64 0, .int .i64 0, .bool false, .int .i64 0, .int .i64 0, .int .i64 0, .int .i64 0, .slice none 0 0, .slice none 0 0, .slice none 0 0, .slice none 0 0, .int .i64 0, .int .i64 0, .int .i64 0, .int .i64 0, .int .i64 0, .int .i64 0, .int .i64 0, .slice none 0 0, .int .i64 0, .bool false, .int .i64 0, .int .i64 0, .int .i64 0, .bool false, .bool false, .int .i64 0, .int .i64 0, .int .i64 0, .slice none 0 0, .int .i64 0, .int .i64 0, .int .i64 0, .slice none 0 0, .slice none 0 0, .bool false, .slice none 0 0, .slice none 0 0, .int .i64 0, .int .i64 0, .slice none 0 0] 55)) p l bad := h.ext hB0 h.1 h.2.1
  have s0 : RS w (w.alloc (.cells #[.int .i64 0, .int .i64 0, .int .i64 0, .int .i64 0, .int .i64 0, .int .i64 0, .int .i64 0, .bool false, .int .i64 0, .int .i64 0, .int .i64 0, .int .i64 0, .slice none 0 0, .slice none 0 0, .slice none 0 0, .slice none 0 0, .int .i64 0, .int .i64 0, .int .i64 0, .int .i64 0, .int .i64 0, .int .i64 0, .int .i64 0, .slice none 0 0, .int .i64 0, .bool false, .int .i64 0, .int .i64 0, .int .i64 0, .bool false, .bool false, .int .i64 0, .int .i64 0, .int .i64 0, .slice none 0 0, .int .i64 0, .int .i64 0, .int .i64 0, .slice none 0 0, .slice none 0 0, .bool false, .slice none 0 0, .slice none 0 0, .int .i64 0, .int .i64 0, .slice none 0 0] 55)) p := (RS.refl _ _).alloc _
  have g0 : Hid ((w.alloc (.cells #[.int .i64 0, .int .i64 0, .int .i64 0, .int .i64 0, .int .i64 0, .int .i64 0, .int .i64 0, .bool false, .int .i64 0, .int .i64 0, .int .i64 0, .int .i64 0, .slice none 0 0, .slice none 0 0, .slice none 0 0, .slice none 0 0, .int .i64 0, .int .i64 0, .int .i64 0, .int .i64 0, .int .i64 0, .int .i64 0, .int .i64 0, .slice none 0 0, .int .i64 0, .bool false, .int .i64 0, .int .i64 0, .int .i64 0, .bool false, .bool false, .int .i64 0, .int .i64 0, .int .i64 0, .slice none 0 0, .int .i64 0, .int .i64 0, .int .i64 0, .slice none 0 0, .slice none 0 0, .bool false, .slice none 0 0, .slice none 0 0, .int .i64 0, .int .i64 0, .slice none 0 0] 55)).heap[w.heap.size]? = some (.cells #[.int .i64 0, .int .i64 0, .int .i64 0, .int .i64 0, .int .i64 0, .int .i64 0, .int .i64 0, .bool false, .int .i64 0, .int .i64 0, .int .i64 0, .int .i64 0, .slice none 0 0, .slice none 0 0, .slice none 0 0, .slice none 0 0, .int .i64 0, .int .i64 0, .int .i64 0, .int .i64 0, .int .i64 0, .int .i64 0, .int .i64 0, .slice none 0 0, .int .i64 0, .bool false, .int .i64 0, .int .i64 0, .int .i64 0, .bool false, .bool false, .int .i64 0, .int .i64 0, .int .i64 0, .slice none 0 0, .int .i64 0, .int .i64 0, .int .i64 0, .slice none 0 0, .slice none 0 0, .bool false, .slice none 0 0, .slice none 0 0, .int .i64 0, .int .i64 0, .slice none 0 0] 55 (0, 0))) := heap_alloc_new w _
  have z0 : w.heap.size < (w.alloc (.cells #[.int .i64 0, .int .i64 0, .int .i64 0, .int .i64 0, .int .i64 0, .int .i64 0, .int .i64 0, .bool false, .int .i64 0, .int .i64 0, .int .i64 0, .int .i64 0, .slice none 0 0, .slice none 0 0, .slice none 0 0, .slice none 0 0, .int .i64 0, .int .i64 0, .int .i64 0, .int .i64 0, .int .i64 0, .int .i64 0, .int .i64 0, .slice none 0 0, .int .i64 0, .bool false, .int .i64 0, .int .i64 0, .int .i64 0, .bool false, .bool false, .int .i64 0, .int .i64 0, .int .i64 0, .slice none 0 0, .int .i64 0, .int .i64 0, .int .i64 0, .slice none 0 0, .slice none 0 0, .bool false, .slice none 0 0, .slice none 0 0, .int .i64 0, .int .i64 0, .slice none 0 0] 55)).heap.size := by rw [World.size_alloc]; omega
  have hpq : Hid (p ≠ w.heap.size) := by have := h.1; show p ≠ _; omega
  have hDq : Hid (p < w.heap.size ∧ D ≤ w.heap.size) := ⟨h.1, h.2.1⟩
  clear h hB0
  go_enter Tryz.func37, Tryz.ntmps37
  go_wp2_with fail
  refine (num_i p _ _ _ h0).mono ?_
  rintro e w1 ⟨m0, rfl, _, l1, b1, rd1, h1, t1⟩
  have RD1 := hidI rd1
  clear rd1
  have s1 := s0.trans t1
  have g1 : Hid (w1.heap[w.heap.size]? = some (.cells #[.int .i64 0, .int .i64 0, .int .i64 0, .int .i64 0, .int .i64 0, .int .i64 0, .int .i64 0, .bool false, .int .i64 0, .int .i64 0, .int .i64 0, .int .i64 0, .slice none 0 0, .slice none 0 0, .slice none 0 0, .slice none 0 0, .int .i64 0, .int .i64 0, .int .i64 0, .int .i64 0, .int .i64 0, .int .i64 0, .int .i64 0, .slice none 0 0, .int .i64 0, .bool false, .int .i64 0, .int .i64 0, .int .i64 0, .bool false, .bool false, .int .i64 0, .int .i64 0, .int .i64 0, .slice none 0 0, .int .i64 0, .int .i64 0, .int .i64 0, .slice none 0 0, .slice none 0 0, .bool false, .slice none 0 0, .slice none 0 0, .int .i64 0, .int .i64 0, .slice none 0 0] 55 (0, 0))) := (t1.block _ z0 hpq.out.symm).trans g0.out
  have z1 : w.heap.size < w1.heap.size := Nat.lt_of_lt_of_le z0 t1.size
  clear h0 t1 s0 g0 z0
  go_wp2_with fail
  refine (num_i p _ _ _ h1).mono ?_
  rintro e w2 ⟨m1, rfl, _, l2, b2, rd2, h2, t2⟩
  have RD2 := hidI rd2
  clear rd2
  have s2 := s1.trans t2
  have g2 : Hid (w2.heap[w.heap.size]? = some (.cells #[.int .i64 0, .int .i64 0, .int .i64 0, .int .i64 0, .int .i64 0, .int .i64 0, .int .i64 0, .bool false, .int .i64 0, .int .i64 0, .int .i64 0, .int .i64 0, .slice none 0 0, .slice none 0 0, .slice none 0 0, .slice none 0 0, .int .i64 0, .int .i64 0, .int .i64 0, .int .i64 0, .int .i64 0, .int .i64 0, .int .i64 0, .slice none 0 0, .int .i64 0, .bool false, .int .i64 0, .int .i64 0, .int .i64 0, .bool false, .bool false, .int .i64 0, .int .i64 0, .int .i64 0, .slice none 0 0, .int .i64 0, .int .i64 0, .int .i64 0, .slice none 0 0, .slice none 0 0, .bool false, .slice none 0 0, .slice none 0 0, .int .i64 0, .int .i64 0, .slice none 0 0] 55 (0, 0))) := (t2.block _ z1 hpq.out.symm).trans g1.out
  have z2 : w.heap.size < w2.heap.size := Nat.lt_of_lt_of_le z1 t2.size
  clear h1 t2 s1 g1 z1
  go_wp2_with fail
  refine (num_i p _ _ _ h2).mono ?_
  rintro e w3 ⟨m2, rfl, _, l3, b3, rd3, h3, t3⟩
  have RD3 := hidI rd3
  clear rd3
  have s3 := s2.trans t3
  have g3 : Hid (w3.heap[w.heap.size]? = some (.cells #[.int .i64 0, .int .i64 0, .int .i64 0, .int .i64 0, .int .i64 0, .int .i64 0, .int .i64 0, .bool false, .int .i64 0, .int .i64 0, .int .i64 0, .int .i64 0, .slice none 0 0, .slice none 0 0, .slice none 0 0, .slice none 0 0, .int .i64 0, .int .i64 0, .int .i64 0, .int .i64 0, .int .i64 0, .int .i64 0, .int .i64 0, .slice none 0 0, .int .i64 0, .bool false, .int .i64 0, .int .i64 0, .int .i64 0, .bool false, .bool false, .int .i64 0, .int .i64 0, .int .i64 0, .slice none 0 0, .int .i64 0, .int .i64 0, .int .i64 0, .slice none 0 0, .slice none 0 0, .bool false, .slice none 0 0, .slice none 0 0, .int .i64 0, .int .i64 0, .slice none 0 0] 55 (0, 0))) := (t3.block _ z2 hpq.out.symm).trans g2.out
  have z3 : w.heap.size < w3.heap.size := Nat.lt_of_lt_of_le z2 t3.size
  clear h2 t3 s2 g2 z2
  go_wp2_with fail
  refine (num_i p _ _ _ h3).mono ?_
  rintro e w4 ⟨m3, rfl, _, l4, b4, rd4, h4, t4⟩
  have RD4 := hidI rd4
  clear rd4
  have s4 := s3.trans t4
  have g4 : Hid (w4.heap[w.heap.size]? = some (.cells #[.int .i64 0, .int .i64 0, .int .i64 0, .int .i64 0, .int .i64 0, .int .i64 0, .int .i64 0, .bool false, .int .i64 0, .int .i64 0, .int .i64 0, .int .i64 0, .slice none 0 0, .slice none 0 0, .slice none 0 0, .slice none 0 0, .int .i64 0, .int .i64 0, .int .i64 0, .int .i64 0, .int .i64 0, .int .i64 0, .int .i64 0, .slice none 0 0, .int .i64 0, .bool false, .int .i64 0, .int .i64 0, .int .i64 0, .bool false, .bool false, .int .i64 0, .int .i64 0, .int .i64 0, .slice none 0 0, .int .i64 0, .int .i64 0, .int .i64 0, .slice none 0 0, .slice none 0 0, .bool false, .slice none 0 0, .slice none 0 0, .int .i64 0, .int .i64 0, .slice none 0 0] 55 (0, 0))) := (t4.block _ z3 hpq.out.symm).trans g3.out
  have z4 : w.heap.size < w4.heap.size := Nat.lt_of_lt_of_le z3 t4.size
  clear h3 t4 s3 g3 z3
  go_wp2_with fail
  refine (num_i p _ _ _ h4).mono ?_
  rintro e w5 ⟨m4, rfl, _, l5, b5, rd5, h5, t5⟩
  have RD5 := hidI rd5
  clear rd5
  have s5 := s4.trans t5
  have g5 : Hid (w5.heap[w.heap.size]? = some (.cells #[.int .i64 0, .int .i64 0, .int .i64 0, .int .i64 0, .int .i64 0, .int .i64 0, .int .i64 0, .bool false, .int .i64 0, .int .i64 0, .int .i64 0, .int .i64 0, .slice none 0 0, .slice none 0 0, .slice none 0 0, .slice none 0 0, .int .i64 0, .int .i64 0, .int .i64 0, .int .i64 0, .int .i64 0, .int .i64 0, .int .i64 0, .slice none 0 0, .int .i64 0, .bool false, .int .i64 0, .int .i64 0, .int .i64 0, .bool false, .bool false, .int .i64 0, .int .i64 0, .int .i64 0, .slice none 0 0, .int .i64 0, .int .i64 0, .int .i64 0, .slice none 0 0, .slice none 0 0, .bool false, .slice none 0 0, .slice none 0 0, .int .i64 0, .int .i64 0, .slice none 0 0] 55 (0, 0))) := (t5.block _ z4 hpq.out.symm).trans g4.out
  have z5 : w.heap.size < w5.heap.size := Nat.lt_of_lt_of_le z4 t5.size
  clear h4 t5 s4 g4 z4
  go_wp2_with fail
  refine (num_i p _ _ _ h5).mono ?_
  rintro e w6 ⟨m5, rfl, _, l6, b6, rd6, h6, t6⟩
  have RD6 := hidI rd6
  clear rd6
  have s6 := s5.trans t6
  have g6 : Hid (w6.heap[w.heap.size]? = some (.cells #[.int .i64 0, .int .i64 0, .int .i64 0, .int .i64 0, .int .i64 0, .int .i64 0, .int .i64 0, .bool false, .int .i64 0, .int .i64 0, .int .i64 0, .int .i64 0, .slice none 0 0, .slice none 0 0, .slice none 0 0, .slice none 0 0, .int .i64 0, .int .i64 0, .int .i64 0, .int .i64 0, .int .i64 0, .int .i64 0, .int .i64 0, .slice none 0 0, .int .i64 0, .bool false, .int .i64 0, .int .i64 0, .int .i64 0, .bool false, .bool false, .int .i64 0, .int .i64 0, .int .i64 0, .slice none 0 0, .int .i64 0, .int .i64 0, .int .i64 0, .slice none 0 0, .slice none 0 0, .bool false, .slice none 0 0, .slice none 0 0, .int .i64 0, .int .i64 0, .slice none 0 0] 55 (0, 0))) := (t6.block _ z5 hpq.out.symm).trans g5.out
  have z6 : w.heap.size < w6.heap.size := Nat.lt_of_lt_of_le z5 t6.size
  clear h5 t6 s5 g5 z5
  go_wp2_with fail
  refine (num_i p _ _ _ h6).mono ?_
  rintro e w7 ⟨m6, rfl, _, l7, b7, rd7, h7, t7⟩
  have RD7 := hidI rd7
  clear rd7
  have s7 := s6.trans t7
  have g7 : Hid (w7.heap[w.heap.size]? = some (.cells #[.int .i64 0, .int .i64 0, .int .i64 0, .int .i64 0, .int .i64 0, .int .i64 0, .int .i64 0, .bool false, .int .i64 0, .int .i64 0, .int .i64 0, .int .i64 0, .slice none 0 0, .slice none 0 0, .slice none 0 0, .slice none 0 0, .int .i64 0, .int .i64 0, .int .i64 0, .int .i64 0, .int .i64 0, .int .i64 0, .int .i64 0, .slice none 0 0, .int .i64 0, .bool false, .int .i64 0, .int .i64 0, .int .i64 0, .bool false, .bool false, .int .i64 0, .int .i64 0, .int .i64 0, .slice none 0 0, .int .i64 0, .int .i64 0, .int .i64 0, .slice none 0 0, .slice none 0 0, .bool false, .slice none 0 0, .slice none 0 0, .int .i64 0, .int .i64 0, .slice none 0 0] 55 (0, 0))) := (t7.block _ z6 hpq.out.symm).trans g6.out
  have z7 : w.heap.size < w7.heap.size := Nat.lt_of_lt_of_le z6 t7.size
  clear h6 t7 s6 g6 z6
  go_wp2_with fail
  refine (flag_i p _ _ _ h7).mono ?_
  rintro e w8 ⟨m7, rfl, l8, b8, rd8, h8, t8⟩
  have RD8 := hidI rd8
  clear rd8
  have s8 := s7.trans t8
  have g8 : Hid (w8.heap[w.heap.size]? = some (.cells #[.int .i64 0, .int .i64 0, .int .i64 0, .int .i64 0, .int .i64 0, .int .i64 0, .int .i64 0, .bool false, .int .i64 0, .int .i64 0, .int .i64 0, .int .i64 0, .slice none 0 0, .slice none 0 0, .slice none 0 0, .slice none 0 0, .int .i64 0, .int .i64 0, .int .i64 0, .int .i64 0, .int .i64 0, .int .i64 0, .int .i64 0, .slice none 0 0, .int .i64 0, .bool false, .int .i64 0, .int .i64 0, .int .i64 0, .bool false, .bool false, .int .i64 0, .int .i64 0, .int .i64 0, .slice none 0 0, .int .i64 0, .int .i64 0, .int .i64 0, .slice none 0 0, .slice none 0 0, .bool false, .slice none 0 0, .slice none 0 0, .int .i64 0, .int .i64 0, .slice none 0 0] 55 (0, 0))) := (t8.block _ z7 hpq.out.symm).trans g7.out
  have z8 : w.heap.size < w8.heap.size := Nat.lt_of_lt_of_le z7 t8.size
  clear h7 t8 s7 g7 z7
  go_wp2_with fail
  refine (num_i p _ _ _ h8).mono ?_
  rintro e w9 ⟨m8, rfl, _, l9, b9, rd9, h9, t9⟩
  have RD9 := hidI rd9
  clear rd9
  have s9 := s8.trans t9
  have g9 : Hid (w9.heap[w.heap.size]? = some (.cells #[.int .i64 0, .int .i64 0, .int .i64 0, .int .i64 0, .int .i64 0, .int .i64 0, .int .i64 0, .bool false, .int .i64 0, .int .i64 0, .int .i64 0, .int .i64 0, .slice none 0 0, .slice none 0 0, .slice none 0 0, .slice none 0 0, .int .i64 0, .int .i64 0, .int .i64 0, .int .i64 0, .int .i64 0, .int .i64 0, .int .i64 0, .slice none 0 0, .int .i64 0, .bool false, .int .i64 0, .int .i64 0, .int .i64 0, .bool false, .bool false, .int .i64 0, .int .i64 0, .int .i64 0, .slice none 0 0, .int .i64 0, .int .i64 0, .int .i64 0, .slice none 0 0, .slice none 0 0, .bool false, .slice none 0 0, .slice none 0 0, .int .i64 0, .int .i64 0, .slice none 0 0] 55 (0, 0))) := (t9.block _ z8 hpq.out.symm).trans g8.out
  have z9 : w.heap.size < w9.heap.size := Nat.lt_of_lt_of_le z8 t9.size
  clear h8 t9 s8 g8 z8
  go_wp2_with fail
  refine (num_i p _ _ _ h9).mono ?_
  rintro e w10 ⟨m9, rfl, _, l10, b10, rd10, h10, t10⟩
  have RD10 := hidI rd10
  clear rd10
  have s10 := s9.trans t10
  have g10 : Hid (w10.heap[w.heap.size]? = some (.cells #[.int .i64 0, .int .i64 0, .int .i64 0, .int .i64 0, .int .i64 0, .int .i64 0, .int .i64 0, .bool false, .int .i64 0, .int .i64 0, .int .i64 0, .int .i64 0, .slice none 0 0, .slice none 0 0, .slice none 0 0, .slice none 0 0, .int .i64 0, .int .i64 0, .int .i64 0, .int .i64 0, .int .i64 0, .int .i64 0, .int .i64 0, .slice none 0 0, .int .i64 0, .bool false, .int .i64 0, .int .i64 0, .int .i64 0, .bool false, .bool false, .int .i64 0, .int .i64 0, .int .i64 0, .slice none 0 0, .int .i64 0, .int .i64 0, .int .i64 0, .slice none 0 0, .slice none 0 0, .bool false, .slice none 0 0, .slice none 0 0, .int .i64 0, .int .i64 0, .slice none 0 0] 55 (0, 0))) := (t10.block _ z9 hpq.out.symm).trans g9.out
  have z10 : w.heap.size < w10.heap.size := Nat.lt_of_lt_of_le z9 t10.size
  clear h9 t10 s9 g9 z9
  go_wp2_with fail
  refine (num_i p _ _ _ h10).mono ?_
  rintro e w11 ⟨m10, rfl, _, l11, b11, rd11, h11, t11⟩
  have RD11 := hidI rd11
  clear rd11
  have s11 := s10.trans t11
  have g11 : Hid (w11.heap[w.heap.size]? = some (.cells #[.int .i64 0, .int .i64 0, .int .i64 0, .int .i64 0, .int .i64 0, .int .i64 0, .int .i64 0, .bool false, .int .i64 0, .int .i64 0, .int .i64 0, .int .i64 0, .slice none 0 0, .slice none 0 0, .slice none 0 0, .slice none 0 0, .int .i64 0, .int .i64 0, .int .i64 0, .int .i64 0, .int .i64 0, .int .i64 0, .int .i64 0, .slice none 0 0, .int .i64 0, .bool false, .int .i64 0, .int .i64 0, .int .i64 0, .bool false, .bool false, .int .i64 0, .int .i64 0, .int .i64 0, .slice none 0 0, .int .i64 0, .int .i64 0, .int .i64 0, .slice none 0 0, .slice none 0 0, .bool false, .slice none 0 0, .slice none 0 0, .int .i64 0, .int .i64 0, .slice none 0 0] 55 (0, 0))) := (t11.block _ z10 hpq.out.symm).trans g10.out
  have z11 : w.heap.size < w11.heap.size := Nat.lt_of_lt_of_le z10 t11.size
  clear h10 t11 s10 g10 z10
  go_wp2_with fail
  refine (num_i p _ _ _ h11).mono ?_
  rintro e w12 ⟨m11, rfl, _, l12, b12, rd12, h12, t12⟩
  have RD12 := hidI rd12
  clear rd12
  have s12 := s11.trans t12
  have g12 : Hid (w12.heap[w.heap.size]? = some (.cells #[.int .i64 0, .int .i64 0, .int .i64 0, .int .i64 0, .int .i64 0, .int .i64 0, .int .i64 0, .bool false, .int .i64 0, .int .i64 0, .int .i64 0, .int .i64 0, .slice none 0 0, .slice none 0 0, .slice none 0 0, .slice none 0 0, .int .i64 0, .int .i64 0, .int .i64 0, .int .i64 0, .int .i64 0, .int .i64 0, .int .i64 0, .slice none 0 0, .int .i64 0, .bool false, .int .i64 0, .int .i64 0, .int .i64 0, .bool false, .bool false, .int .i64 0, .int .i64 0, .int .i64 0, .slice none 0 0, .int .i64 0, .int .i64 0, .int .i64 0, .slice none 0 0, .slice none 0 0, .bool false, .slice none 0 0, .slice none 0 0, .int .i64 0, .int .i64 0, .slice none 0 0] 55 (0, 0))) := (t12.block _ z11 hpq.out.symm).trans g11.out
  have z12 : w.heap.size < w12.heap.size := Nat.lt_of_lt_of_le z11 t12.size
  clear h11 t12 s11 g11 z11
  obtain ⟨q1, hq1⟩ : ∃ q1, Hid (w12.heap.size = q1) := ⟨_, hidI rfl⟩
  have I0 : Hid ((Tryz.prog.info? 55).map (·.size) = some (#[.int .i64 m0, .int .i64 m1, .int .i64 m2, .int .i64 m3, .int .i64 m4, .int .i64 m5, .int .i64 m6, .bool m7, .int .i64 m8, .int .i64 m9, .int .i64 m10, .int .i64 m11, .slice none 0 0, .slice none 0 0, .slice none 0 0, .slice none 0 0, .int .i64 0, .int .i64 0, .int .i64 0, .int .i64 0, .int .i64 0, .int .i64 0, .int .i64 0, .slice none 0 0, .int .i64 0, .bool false, .int .i64 0, .int .i64 0, .int .i64 0, .bool false, .bool false, .int .i64 0, .int .i64 0, .int .i64 0, .slice none 0 0, .int .i64 0, .int .i64 0, .int .i64 0, .slice none 0 0, .slice none 0 0, .bool false, .slice none 0 0, .slice none 0 0, .int .i64 0, .int .i64 0, .slice none 0 0] : Array Value).size) := by show _ = _; kernel_rfl
  have OP : Hid (∀ c ∈ ([.int .i64 m0, .int .i64 m1, .int .i64 m2, .int .i64 m3, .int .i64 m4, .int .i64 m5, .int .i64 m6, .bool m7, .int .i64 m8, .int .i64 m9, .int .i64 m10, .int .i64 m11] : List Value), c.oneCell' = true) := by
    intro c hc
    simp only [List.mem_cons, List.not_mem_nil, or_false] at hc
    rcases hc with rfl | rfl | rfl | rfl | rfl | rfl | rfl | rfl | rfl | rfl | rfl | rfl
    · exact rfl
    · exact rfl
    · exact rfl
    · exact rfl
    · exact rfl
    · exact rfl
    · exact rfl
    · exact rfl
    · exact rfl
    · exact rfl
    · exact rfl
    · exact rfl
  have O0 : Hid ((#[.int .i64 m0, .int .i64 m1, .int .i64 m2, .int .i64 m3, .int .i64 m4, .int .i64 m5, .int .i64 m6, .bool m7, .int .i64 m8, .int .i64 m9, .int .i64 m10, .int .i64 m11, .slice none 0 0, .slice none 0 0, .slice none 0 0, .slice none 0 0, .int .i64 0, .int .i64 0, .int .i64 0, .int .i64 0, .int .i64 0, .int .i64 0, .int .i64 0, .slice none 0 0, .int .i64 0, .bool false, .int .i64 0, .int .i64 0, .int .i64 0, .bool false, .bool false, .int .i64 0, .int .i64 0, .int .i64 0, .slice none 0 0, .int .i64 0, .int .i64 0, .int .i64 0, .slice none 0 0, .slice none 0 0, .bool false, .slice none 0 0, .slice none 0 0, .int .i64 0, .int .i64 0, .slice none 0 0] : Array Value).all (·.oneCell') = true) := by
    refine all_oneCell_toArray (cs := [.int .i64 m0, .int .i64 m1, .int .i64 m2, .int .i64 m3, .int .i64 m4, .int .i64 m5, .int .i64 m6, .bool m7, .int .i64 m8, .int .i64 m9, .int .i64 m10, .int .i64 m11, .slice none 0 0, .slice none 0 0, .slice none 0 0, .slice none 0 0, .int .i64 0, .int .i64 0, .int .i64 0, .int .i64 0, .int .i64 0, .int .i64 0, .int .i64 0, .slice none 0 0, .int .i64 0, .bool false, .int .i64 0, .int .i64 0, .int .i64 0, .bool false, .bool false, .int .i64 0, .int .i64 0, .int .i64 0, .slice none 0 0, .int .i64 0, .int .i64 0, .int .i64 0, .slice none 0 0, .slice none 0 0, .bool false, .slice none 0 0, .slice none 0 0, .int .i64 0, .int .i64 0, .slice none 0 0]) (fun c hc => ?_)
    rcases List.mem_append.1 (show c ∈ [.int .i64 m0, .int .i64 m1, .int .i64 m2, .int .i64 m3, .int .i64 m4, .int .i64 m5, .int .i64 m6, .bool m7, .int .i64 m8, .int .i64 m9, .int .i64 m10, .int .i64 m11] ++ [.slice none 0 0, .slice none 0 0, .slice none 0 0, .slice none 0 0, .int .i64 0, .int .i64 0, .int .i64 0, .int .i64 0, .int .i64 0, .int .i64 0, .int .i64 0, .slice none 0 0, .int .i64 0, .bool false, .int .i64 0, .int .i64 0, .int .i64 0, .bool false, .bool false, .int .i64 0, .int .i64 0, .int .i64 0, .slice none 0 0, .int .i64 0, .int .i64 0, .int .i64 0, .slice none 0 0, .slice none 0 0, .bool false, .slice none 0 0, .slice none 0 0, .int .i64 0, .int .i64 0, .slice none 0 0] from hc) with h1 | h1
    · exact OP.out c h1
    · simp only [List.mem_cons, List.not_mem_nil, or_false] at h1
      rcases h1 with rfl | rfl | rfl | rfl | rfl | rfl | rfl | rfl | rfl | rfl | rfl | rfl | rfl | rfl | rfl | rfl | rfl | rfl | rfl | rfl | rfl | rfl | rfl | rfl | rfl | rfl | rfl | rfl | rfl | rfl | rfl | rfl | rfl | rfl <;> rfl
  go_wp2_with (refine wpList_store_rowF rfl 55 (.tmp 3) (.tmp 30) rfl w12.heap.size #[.int .i64 m0, .int .i64 m1, .int .i64 m2, .int .i64 m3, .int .i64 m4, .int .i64 m5, .int .i64 m6, .bool m7, .int .i64 m8, .int .i64 m9, .int .i64 m10, .int .i64 m11, .slice none 0 0, .slice none 0 0, .slice none 0 0, .slice none 0 0, .int .i64 0, .int .i64 0, .int .i64 0, .int .i64 0, .int .i64 0, .int .i64 0, .int .i64 0, .slice none 0 0, .int .i64 0, .bool false, .int .i64 0, .int .i64 0, .int .i64 0, .bool false, .bool false, .int .i64 0, .int .i64 0, .int .i64 0, .slice none 0 0, .int .i64 0, .int .i64 0, .int .i64 0, .slice none 0 0, .slice none 0 0, .bool false, .slice none 0 0, .slice none 0 0, .int .i64 0, .int .i64 0, .slice none 0 0] rfl rfl 55 #[.int .i64 0, .int .i64 0, .int .i64 0, .int .i64 0, .int .i64 0, .int .i64 0, .int .i64 0, .bool false, .int .i64 0, .int .i64 0, .int .i64 0, .int .i64 0, .slice none 0 0, .slice none 0 0, .slice none 0 0, .slice none 0 0, .int .i64 0, .int .i64 0, .int .i64 0, .int .i64 0, .int .i64 0, .int .i64 0, .int .i64 0, .slice none 0 0, .int .i64 0, .bool false, .int .i64 0, .int .i64 0, .int .i64 0, .bool false, .bool false, .int .i64 0, .int .i64 0, .int .i64 0, .slice none 0 0, .int .i64 0, .int .i64 0, .int .i64 0, .slice none 0 0, .slice none 0 0, .bool false, .slice none 0 0, .slice none 0 0, .int .i64 0, .int .i64 0, .slice none 0 0] (heap_alloc_new w12 (.cells #[.int .i64 0, .int .i64 0, .int .i64 0, .int .i64 0, .int .i64 0, .int .i64 0, .int .i64 0, .bool false, .int .i64 0, .int .i64 0, .int .i64 0, .int .i64 0, .slice none 0 0, .slice none 0 0, .slice none 0 0, .slice none 0 0, .int .i64 0, .int .i64 0, .int .i64 0, .int .i64 0, .int .i64 0, .int .i64 0, .int .i64 0, .slice none 0 0, .int .i64 0, .bool false, .int .i64 0, .int .i64 0, .int .i64 0, .bool false, .bool false, .int .i64 0, .int .i64 0, .int .i64 0, .slice none 0 0, .int .i64 0, .int .i64 0, .int .i64 0, .slice none 0 0, .slice none 0 0, .bool false, .slice none 0 0, .slice none 0 0, .int .i64 0, .int .i64 0, .slice none 0 0] 55)) I0.out rfl O0.out ?nexA)
  case nexA =>
    intro wA hwAh
    have hwA := hwAh.out
    have hBA : Below w12.heap.size w12 wA := by rw [hwA]; exact ((Below.refl _ _).alloc (Nat.le_refl _) _).trans ⟨rfl, rfl, rfl, by simp [World.setRow], fun k hk => setRow_other _ _ _ _ (by omega)⟩
    have gA0 : wA.heap[w12.heap.size]? = some (.cells ([.int .i64 m0, .int .i64 m1, .int .i64 m2, .int .i64 m3, .int .i64 m4, .int .i64 m5, .int .i64 m6, .bool m7, .int .i64 m8, .int .i64 m9, .int .i64 m10, .int .i64 m11, .slice none 0 0, .slice none 0 0, .slice none 0 0, .slice none 0 0, .int .i64 0, .int .i64 0, .int .i64 0, .int .i64 0, .int .i64 0, .int .i64 0, .int .i64 0, .slice none 0 0, .int .i64 0, .bool false, .int .i64 0, .int .i64 0, .int .i64 0, .bool false, .bool false, .int .i64 0, .int .i64 0, .int .i64 0, .slice none 0 0, .int .i64 0, .int .i64 0, .int .i64 0, .slice none 0 0, .slice none 0 0, .bool false, .slice none 0 0, .slice none 0 0, .int .i64 0, .int .i64 0, .slice none 0 0] : List Value).toArray 55 (0, 0)) := by rw [hwA]; exact setRow_heap _ _ _ _ 55 _ (heap_alloc_new w12 _)
    have zA : w12.heap.size < wA.heap.size := (Array.getElem?_eq_some_iff.1 gA0).1
    have hA := h12.ext hBA h12.1 h12.2.1
    have GA := hidI ((hBA.block _ z12).trans g12.out)
    have SA := hidI (s12.ext (hBA.mono s12.size))
    have zq : w.heap.size < q1 := by have := hq1.out; omega
    rw [hq1.out] at gA0 zA
    simp only [hq1.out]
    have G1A := hidI gA0
    have ZA := hidI zA
    clear hwA hwAh hBA gA0 zA h12 s12 g12 z12
    go_wp2_with fail
    refine (count_i p _ _ wA hA).mono ?_
    rintro e wB ⟨N, l1, b1, rfl, hN, hcn, hB, tB⟩
    have HC := hidI hcn
    have GB := hidI ((tB.block _ (by have := ZA.out; omega) hpq.out.symm).trans GA.out)
    have G1B := hidI ((tB.block _ ZA.out (by have := hDq.out.1; omega)).trans G1A.out)
    have ZB := hidI (Nat.lt_of_lt_of_le ZA.out tB.size)
    have SB := hidI (SA.out.trans tB)
    have hpB : p < wB.heap.size := hB.1
    have hDB : D ≤ q1 := by have := hDq.out.2; omega
    have hpq1 : p < q1 := by have := hDq.out.1; omega
    clear hcn tB hA
    go_wp2
    go_loopw [5] (fun i wr => ∃ (k : Nat) (v : Value), k ≤ N ∧ i = .int .i64 k ∧ Hid (wr.heap[q1]? = some (.cells ([.int .i64 m0, .int .i64 m1, .int .i64 m2, .int .i64 m3, .int .i64 m4, .int .i64 m5, .int .i64 m6, .bool m7, .int .i64 m8, .int .i64 m9, .int .i64 m10, .int .i64 m11, v, .slice none 0 0, .slice none 0 0, .slice none 0 0, .int .i64 0, .int .i64 0, .int .i64 0, .int .i64 0, .int .i64 0, .int .i64 0, .int .i64 0, .slice none 0 0, .int .i64 0, .bool false, .int .i64 0, .int .i64 0, .int .i64 0, .bool false, .bool false, .int .i64 0, .int .i64 0, .int .i64 0, .slice none 0 0, .int .i64 0, .int .i64 0, .int .i64 0, .slice none 0 0, .slice none 0 0, .bool false, .slice none 0 0, .slice none 0 0, .int .i64 0, .int .i64 0, .slice none 0 0] : List Value).toArray 55 (0, 0))) ∧ LoopJ D wB p q1 F_entry 47 29 k l1 b1 v wr) (fun i _ => N - (intOf i).toNat)
    case atStart => exact ⟨0, .slice none 0 0, Nat.zero_le _, rfl, G1B, [], [], l1, b1, World.ownsRow_nil _ _ _ _, ⟨rfl, rfl, rfl, Nat.le_refl _, fun _ _ _ _ => rfl⟩, hB, RdN.zero _ _ _, Elems.nil _ _ _ _⟩
    case round =>
      obtain ⟨k, v, hk, rfl, G1, xs, vsL, lk, bk, ok, sk, rk, rdk, hel⟩ := hrel
      have RDK := hidI rdk
      have HEL := hidI hel
      have SK := hidI sk
      have OK := hidI ok
      have hq1r : q1 < wr.heap.size := (Array.getElem?_eq_some_iff.1 G1.out).1
      have HQR := hidI hq1r
      clear rdk hel sk ok
      by_cases hlt : k < N
      · have hcF : wr.cell? ⟨q1, 12, none⟩ = some v := by rw [cell_of_row wr q1 12 _ 55 (0, 0) G1.out]; rfl
        have hBd : Below wr.heap.size wr wr.drew := (Below.refl _ _).drew
        have RK := hidI (rk.ext hBd rk.1 rk.2.1)
        clear rk
        go_wp2
        go_region_law (first | (refine step_append_own _ rfl (.tmp 39) (.tmp 42) 51 rfl wB.heap.size 47 i0 (.agg #[.int .i64 0, .int .i64 0, .int .i64 0, .int .i64 0, .int .i64 0, .int .i64 0, .int .i64 0, .int .i64 0, .int .i64 0, .slice none 0 0, .int .i64 0, .bool false, .int .i64 0, .int .i64 0, .int .i64 0, .bool false, .bool false, .int .i64 0, .int .i64 0, .int .i64 0, .slice none 0 0, .int .i64 0, .int .i64 0, .int .i64 0, .slice none 0 0, .slice none 0 0, .bool false, .slice none 0 0, .slice none 0 0]) 29 320 Tryz.underlying51 HI.out HZ0.out HZ1.out HZ2.out rfl (by decide) v k xs rfl OKL.out ⟨wa.heap.size, 0, none⟩ 1 1 (#[z0_0, z0_1, z0_2, z0_3, z0_4, z0_5, z0_6, z0_7, z0_8, z0_9, z0_10, z0_11, z0_12, z0_13, z0_14, z0_15, z0_16, z0_17, z0_18, z0_19, z0_20, z0_21, z0_22, z0_23, z0_24, z0_25, z0_26, z0_27, z0_28] : Array Value).toList rfl rfl (fun j u hj => cell_news wa _ _ j u hj) OE.out (by unfold maxLen; omega) (by omega) HSL.out ?_; intro v3 w3 ho3 hg3 hw3; have G3 := hidI (loop_g3 (es := [z0_0, z0_1, z0_2, z0_3, z0_4, z0_5, z0_6, z0_7, z0_8, z0_9, z0_10, z0_11, z0_12, z0_13, z0_14, z0_15, z0_16, z0_17, z0_18, z0_19, z0_20, z0_21, z0_22, z0_23, z0_24, z0_25, z0_26, z0_27, z0_28]) OK.out G1.out (by decide) hpq1 TL.out hg3); have hcG : w3.cell? ⟨q1, 12, none⟩ = some v := (by rw [cell_of_row w3 q1 12 _ 55 (0, 0) G3.out]; rfl); have hfG : w3.frozen? ⟨q1, 12, none⟩ = false := (by simp [World.frozen?, G3.out]); obtain ⟨g3, c3, rfl⟩ := row_slice ho3; have HO3 := hidI ho3; have HG3 := hidI hg3; have HW3 := hidI hw3; clear ho3 hg3 hw3) | (go_simp; refine (entry_i p _ _ _ RK.out).mono ?_; rintro e wa ⟨cs0e, v0e, rfl, q0e, l0e, b0e, rd0e, r0e, t0e⟩; have R0e := hidI r0e; have T0e := hidI t0e; have RD0e := hidI rd0e; have hcF0 : wa.cell? ⟨q1, 12, none⟩ = some v := (World.cell?_of_block (a := ⟨q1, 12, none⟩) (t0e.block q1 (by have := HQR.out; exact this) (by omega))).trans hcF; have QE0 := hidI q0e; obtain ⟨z0_0, z0_1, z0_2, z0_3, z0_4, z0_5, z0_6, z0_7, z0_8, z0_9, z0_10, z0_11, z0_12, z0_13, z0_14, z0_15, z0_16, z0_17, z0_18, z0_19, z0_20, z0_21, z0_22, z0_23, z0_24, z0_25, z0_26, z0_27, z0_28, rfl⟩ := list_len29 cs0e q0e.len; clear q0e; clear r0e t0e rd0e; have TL : Hid (RS wr wa p) := (rs_drew wr p).trans T0e.out; have HXE : Hid (Rep wa (NBr wr.heap.size wa) F_entry [z0_0, z0_1, z0_2, z0_3, z0_4, z0_5, z0_6, z0_7, z0_8, z0_9, z0_10, z0_11, z0_12, z0_13, z0_14, z0_15, z0_16, z0_17, z0_18, z0_19, z0_20, z0_21, z0_22, z0_23, z0_24, z0_25, z0_26, z0_27, z0_28] v0e) := QE0.out; have RDX : Hid (Rd F_entry lk bk v0e l0e b0e) := RD0e.out; have OKL := hidI ((ownsRow_rs OK.out TL.out hpB).alloc (.cells #[z0_0, z0_1, z0_2, z0_3, z0_4, z0_5, z0_6, z0_7, z0_8, z0_9, z0_10, z0_11, z0_12, z0_13, z0_14, z0_15, z0_16, z0_17, z0_18, z0_19, z0_20, z0_21, z0_22, z0_23, z0_24, z0_25, z0_26, z0_27, z0_28] 47)); have HSL : Hid (wB.heap.size ≤ (wa.alloc (.cells #[z0_0, z0_1, z0_2, z0_3, z0_4, z0_5, z0_6, z0_7, z0_8, z0_9, z0_10, z0_11, z0_12, z0_13, z0_14, z0_15, z0_16, z0_17, z0_18, z0_19, z0_20, z0_21, z0_22, z0_23, z0_24, z0_25, z0_26, z0_27, z0_28] 47)).heap.size) := (by show _ ≤ _; rw [World.size_alloc]; have := SK.out.size; have := TL.out.size; omega); have OE : Hid (∀ u ∈ (#[z0_0, z0_1, z0_2, z0_3, z0_4, z0_5, z0_6, z0_7, z0_8, z0_9, z0_10, z0_11, z0_12, z0_13, z0_14, z0_15, z0_16, z0_17, z0_18, z0_19, z0_20, z0_21, z0_22, z0_23, z0_24, z0_25, z0_26, z0_27, z0_28] : Array Value).toList, u.oneCell' = true) := HXE.out.one; have hcL : (wa.alloc (.cells #[z0_0, z0_1, z0_2, z0_3, z0_4, z0_5, z0_6, z0_7, z0_8, z0_9, z0_10, z0_11, z0_12, z0_13, z0_14, z0_15, z0_16, z0_17, z0_18, z0_19, z0_20, z0_21, z0_22, z0_23, z0_24, z0_25, z0_26, z0_27, z0_28] 47)).cell? ⟨q1, 12, none⟩ = some v := (World.cell?_of_block (a := ⟨q1, 12, none⟩) (Below.heap_alloc wa _ q1 (Nat.lt_of_lt_of_le HQR.out TL.out.size))).trans hcF0))
        all_goals (
          have LM := loop_more (lf := 12) (es := [z0_0, z0_1, z0_2, z0_3, z0_4, z0_5, z0_6, z0_7, z0_8, z0_9, z0_10, z0_11, z0_12, z0_13, z0_14, z0_15, z0_16, z0_17, z0_18, z0_19, z0_20, z0_21, z0_22, z0_23, z0_24, z0_25, z0_26, z0_27, z0_28]) OK.out SK.out RDK.out HEL.out G1.out (by decide) ZB.out hpB hpq1 hDB TL.out HXE.out RDX.out R0e.out HO3.out HG3.out (by first | exact HW3.out | (have := HW3.out; rw [World.size_alloc] at this; exact this))
          have LJ := hidI LM.1
          have GJ : Hid ((w3.setCell ⟨q1, 12, none⟩ (.slice (some ⟨g3, 0, none⟩) (k + 1) c3)).heap[q1]? = some (.cells ([.int .i64 m0, .int .i64 m1, .int .i64 m2, .int .i64 m3, .int .i64 m4, .int .i64 m5, .int .i64 m6, .bool m7, .int .i64 m8, .int .i64 m9, .int .i64 m10, .int .i64 m11, .slice (some ⟨g3, 0, none⟩) (k + 1) c3, .slice none 0 0, .slice none 0 0, .slice none 0 0, .int .i64 0, .int .i64 0, .int .i64 0, .int .i64 0, .int .i64 0, .int .i64 0, .int .i64 0, .slice none 0 0, .int .i64 0, .bool false, .int .i64 0, .int .i64 0, .int .i64 0, .bool false, .bool false, .int .i64 0, .int .i64 0, .int .i64 0, .slice none 0 0, .int .i64 0, .int .i64 0, .int .i64 0, .slice none 0 0, .slice none 0 0, .bool false, .slice none 0 0, .slice none 0 0, .int .i64 0, .int .i64 0, .slice none 0 0] : List Value).toArray 55 (0, 0))) := LM.2
          clear LM
          go_wp2
          exact ⟨⟨k + 1, .slice (some ⟨g3, 0, none⟩) (k + 1) c3, by omega, by go_num, GJ, LJ.out⟩, by simp [intOf]; omega⟩)
      · have hkN : k = N := by omega
        subst hkN
        have hvl := RDK.out.1
        obtain ⟨va, vc, hv, hrl⟩ : ∃ va vc, v = Value.slice va k vc ∧ RepL wr (NB wB wr) F_entry va vsL := by
          have := Elems.done (e := 47) HEL.out (by rw [hvl]; exact OK.out) (by rw [hvl]; omega)
          rwa [hvl] at this
        subst hv
        have hvl2 : k = vsL.length := hvl.symm
        subst hvl2
        have QL := hidI (hrl.toX (lo' := w.heap.size + 1) (q := q1) (by have := ZB.out; have := SB.out.size; have := hq1.out; omega) (.inl ZB.out))
        have RDL := hidI (RdN.lst hN HC.out RDK.out)
        have GQ := hidI ((SK.out.block _ (by have := ZB.out; omega) hpq.out.symm (by omega)).trans GB.out)
        have SQ : Hid (RS w wr p) := ⟨SK.out.os.trans SB.out.os, SK.out.tape.trans SB.out.tape, SK.out.output.trans SB.out.output, Nat.le_trans SB.out.size SK.out.size, fun j hj hp => (SK.out.block j (by have := SB.out.size; omega) hp (by omega)).trans (SB.out.block j hj hp)⟩
        have hcur := rk
        clear hvl hrl rk HEL RDK SK OK
        go_wp2_with fail
        refine (conf_i p _ _ _ hcur).mono ?_
        rintro e x13 ⟨cs13, v13, rfl, q13, l14, b14, rd14, r14, t14⟩
        have RD14 := hidI rd14
        clear rd14 hcur
        obtain ⟨y13_0, y13_1, rfl⟩ := list_len2 cs13 q13.len
        replace QL := hidI (QL.out.keptX t14.size (fun b h1 h2 h3 => t14.block b h3 (by have := hDq.out.1; omega)))
        have hq1u : q1 < wr.heap.size := (Array.getElem?_eq_some_iff.1 G1.out).1
        have Q13 := hidI (q13.toX (lo' := w.heap.size + 1) (q := q1) (by omega) (.inl hq1u))
        clear q13
        have G13x := hidI ((t14.block q1 hq1u (by omega)).trans G1.out)
        replace GQ := hidI ((t14.block _ (by omega) hpq.out.symm).trans GQ.out)
        replace SQ := hidI (SQ.out.trans t14)
        clear t14 hq1u
        have HI13 : Hid ((Tryz.prog.info? 36).map (·.size) = some ([y13_0, y13_1] : List Value).toArray.size) := by show _ = _; kernel_rfl
        have HO13 : Hid (∀ c ∈ ([y13_0, y13_1] : List Value), c.oneCell' = true) := Q13.out.one
        go_wp2_with (refine wpList_store_midF rfl 36 (.tmp 47) (.tmp 46) rfl q1 13 [y13_0, y13_1] rfl rfl 55 [.int .i64 m0, .int .i64 m1, .int .i64 m2, .int .i64 m3, .int .i64 m4, .int .i64 m5, .int .i64 m6, .bool m7, .int .i64 m8, .int .i64 m9, .int .i64 m10, .int .i64 m11, .slice va vsL.length vc, .slice none 0 0, .slice none 0 0, .slice none 0 0, .int .i64 0, .int .i64 0, .int .i64 0, .int .i64 0, .int .i64 0, .int .i64 0, .int .i64 0, .slice none 0 0, .int .i64 0, .bool false, .int .i64 0, .int .i64 0, .int .i64 0, .bool false, .bool false, .int .i64 0, .int .i64 0, .int .i64 0, .slice none 0 0, .int .i64 0, .int .i64 0, .int .i64 0, .slice none 0 0, .slice none 0 0, .bool false, .slice none 0 0, .slice none 0 0, .int .i64 0, .int .i64 0, .slice none 0 0] [.int .i64 m0, .int .i64 m1, .int .i64 m2, .int .i64 m3, .int .i64 m4, .int .i64 m5, .int .i64 m6, .bool m7, .int .i64 m8, .int .i64 m9, .int .i64 m10, .int .i64 m11, .slice va vsL.length vc, y13_0, y13_1, .slice none 0 0, .int .i64 0, .int .i64 0, .int .i64 0, .int .i64 0, .int .i64 0, .int .i64 0, .int .i64 0, .slice none 0 0, .int .i64 0, .bool false, .int .i64 0, .int .i64 0, .int .i64 0, .bool false, .bool false, .int .i64 0, .int .i64 0, .int .i64 0, .slice none 0 0, .int .i64 0, .int .i64 0, .int .i64 0, .slice none 0 0, .slice none 0 0, .bool false, .slice none 0 0, .slice none 0 0, .int .i64 0, .int .i64 0, .slice none 0 0] G13x.out rfl (Nat.le_of_ble_eq_true rfl) HI13.out HO13.out ?nx13)
        case nx13 =>
          intro u13 hLA13
          have LA13 := hLA13.out
          have hcur := r14.laid LA13 hpq1 hDB
          have G13y := hidI LA13.at_
          replace QL := hidI (QL.out.keptX (by rw [LA13.size]; exact Nat.le_refl _) (fun b h1 h2 h3 => LA13.block b h2))
          replace Q13 := hidI (Q13.out.keptX (by rw [LA13.size]; exact Nat.le_refl _) (fun b h1 h2 h3 => LA13.block b h2))
          replace GQ := hidI ((LA13.block _ (by omega)).trans GQ.out)
          replace SQ : Hid (RS w u13 p) := ⟨LA13.os.trans SQ.out.os, LA13.tape.trans SQ.out.tape, LA13.output.trans SQ.out.output, by rw [LA13.size]; exact SQ.out.size, fun j hj hp => (LA13.block j (by omega)).trans (SQ.out.block j hj hp)⟩
          clear LA13 hLA13 G13x r14
          go_wp2_with fail
          refine (bytes_i p _ _ _ hcur).mono ?_
          rintro e x14 ⟨a14, c14, v14, rfl, k14, q14, l15, b15, rd15, r15, t15⟩
          have RD15 := hidI rd15
          clear rd15 hcur
          replace QL := hidI (QL.out.keptX t15.size (fun b h1 h2 h3 => t15.block b h3 (by have := hDq.out.1; omega)))
          replace Q13 := hidI (Q13.out.keptX t15.size (fun b h1 h2 h3 => t15.block b h3 (by have := hDq.out.1; omega)))
          have hq1u : q1 < u13.heap.size := (Array.getElem?_eq_some_iff.1 G13y.out).1
          have Q14 := hidI (q14.toX (lo' := w.heap.size + 1) (q := q1) (by omega) (.inl hq1u))
          clear q14
          have G14x := hidI ((t15.block q1 hq1u (by omega)).trans G13y.out)
          replace GQ := hidI ((t15.block _ (by omega) hpq.out.symm).trans GQ.out)
          replace SQ := hidI (SQ.out.trans t15)
          clear t15 hq1u
          have hc14 : x14.cell? ⟨q1, 15, none⟩ = some (.slice none 0 0) := by rw [cell_of_row x14 q1 15 _ 55 (0, 0) G14x.out]; rfl
          have hf14 : x14.frozen? ⟨q1, 15, none⟩ = false := by simp [World.frozen?, G14x.out]
          have LA14 := laid_cell (o := 15) G14x.out (.slice a14 v14.length c14)
          have hcur := r15.laid LA14 hpq1 hDB
          have G14y : Hid ((x14.setCell ⟨q1, 15, none⟩ (.slice a14 v14.length c14)).heap[q1]? = some (.cells ([.int .i64 m0, .int .i64 m1, .int .i64 m2, .int .i64 m3, .int .i64 m4, .int .i64 m5, .int .i64 m6, .bool m7, .int .i64 m8, .int .i64 m9, .int .i64 m10, .int .i64 m11, .slice va vsL.length vc, y13_0, y13_1, .slice a14 v14.length c14, .int .i64 0, .int .i64 0, .int .i64 0, .int .i64 0, .int .i64 0, .int .i64 0, .int .i64 0, .slice none 0 0, .int .i64 0, .bool false, .int .i64 0, .int .i64 0, .int .i64 0, .bool false, .bool false, .int .i64 0, .int .i64 0, .int .i64 0, .slice none 0 0, .int .i64 0, .int .i64 0, .int .i64 0, .slice none 0 0, .slice none 0 0, .bool false, .slice none 0 0, .slice none 0 0, .int .i64 0, .int .i64 0, .slice none 0 0] : List Value).toArray 55 (0, 0))) := LA14.at_
          replace QL := hidI (QL.out.keptX (by rw [LA14.size]; exact Nat.le_refl _) (fun b h1 h2 h3 => LA14.block b h2))
          replace Q13 := hidI (Q13.out.keptX (by rw [LA14.size]; exact Nat.le_refl _) (fun b h1 h2 h3 => LA14.block b h2))
          replace Q14 := hidI (Q14.out.keptX (by rw [LA14.size]; exact Nat.le_refl _) (fun b h1 h2 h3 => LA14.block b h2))
          replace GQ := hidI ((LA14.block _ (by omega)).trans GQ.out)
          replace SQ : Hid (RS w (x14.setCell ⟨q1, 15, none⟩ (.slice a14 v14.length c14)) p) := ⟨LA14.os.trans SQ.out.os, LA14.tape.trans SQ.out.tape, LA14.output.trans SQ.out.output, by rw [LA14.size]; exact SQ.out.size, fun j hj hp => (LA14.block j (by omega)).trans (SQ.out.block j hj hp)⟩
          clear LA14 G14x r15
          go_wp2_with fail
          refine (cmd_i p _ _ _ hcur).mono ?_
          rintro e x15 ⟨cs15, v15, rfl, q15, l16, b16, rd16, r16, t16⟩
          have RD16 := hidI rd16
          clear rd16 hcur
          obtain ⟨y15_0, y15_1, y15_2, y15_3, y15_4, y15_5, y15_6, y15_7, y15_8, y15_9, y15_10, y15_11, y15_12, y15_13, y15_14, y15_15, y15_16, y15_17, y15_18, y15_19, y15_20, y15_21, y15_22, y15_23, y15_24, y15_25, y15_26, rfl⟩ := list_len27 cs15 q15.len
          replace QL := hidI (QL.out.keptX t16.size (fun b h1 h2 h3 => t16.block b h3 (by have := hDq.out.1; omega)))
          replace Q13 := hidI (Q13.out.keptX t16.size (fun b h1 h2 h3 => t16.block b h3 (by have := hDq.out.1; omega)))
          replace Q14 := hidI (Q14.out.keptX t16.size (fun b h1 h2 h3 => t16.block b h3 (by have := hDq.out.1; omega)))
          have hq1u : q1 < (x14.setCell ⟨q1, 15, none⟩ (.slice a14 v14.length c14)).heap.size := (Array.getElem?_eq_some_iff.1 G14y.out).1
          have Q15 := hidI (q15.toX (lo' := w.heap.size + 1) (q := q1) (by omega) (.inl hq1u))
          clear q15
          have G15x := hidI ((t16.block q1 hq1u (by omega)).trans G14y.out)
          replace GQ := hidI ((t16.block _ (by omega) hpq.out.symm).trans GQ.out)
          replace SQ := hidI (SQ.out.trans t16)
          clear t16 hq1u
          have HI15 : Hid ((Tryz.prog.info? 38).map (·.size) = some ([y15_0, y15_1, y15_2, y15_3, y15_4, y15_5, y15_6, y15_7, y15_8, y15_9, y15_10, y15_11, y15_12, y15_13, y15_14, y15_15, y15_16, y15_17, y15_18, y15_19, y15_20, y15_21, y15_22, y15_23, y15_24, y15_25, y15_26] : List Value).toArray.size) := by show _ = _; kernel_rfl
          have HO15 : Hid (∀ c ∈ ([y15_0, y15_1, y15_2, y15_3, y15_4, y15_5, y15_6, y15_7, y15_8, y15_9, y15_10, y15_11, y15_12, y15_13, y15_14, y15_15, y15_16, y15_17, y15_18, y15_19, y15_20, y15_21, y15_22, y15_23, y15_24, y15_25, y15_26] : List Value), c.oneCell' = true) := Q15.out.one
          go_wp2_with (refine wpList_store_midF rfl 38 (.tmp 53) (.tmp 52) rfl q1 16 [y15_0, y15_1, y15_2, y15_3, y15_4, y15_5, y15_6, y15_7, y15_8, y15_9, y15_10, y15_11, y15_12, y15_13, y15_14, y15_15, y15_16, y15_17, y15_18, y15_19, y15_20, y15_21, y15_22, y15_23, y15_24, y15_25, y15_26] rfl rfl 55 [.int .i64 m0, .int .i64 m1, .int .i64 m2, .int .i64 m3, .int .i64 m4, .int .i64 m5, .int .i64 m6, .bool m7, .int .i64 m8, .int .i64 m9, .int .i64 m10, .int .i64 m11, .slice va vsL.length vc, y13_0, y13_1, .slice a14 v14.length c14, .int .i64 0, .int .i64 0, .int .i64 0, .int .i64 0, .int .i64 0, .int .i64 0, .int .i64 0, .slice none 0 0, .int .i64 0, .bool false, .int .i64 0, .int .i64 0, .int .i64 0, .bool false, .bool false, .int .i64 0, .int .i64 0, .int .i64 0, .slice none 0 0, .int .i64 0, .int .i64 0, .int .i64 0, .slice none 0 0, .slice none 0 0, .bool false, .slice none 0 0, .slice none 0 0, .int .i64 0, .int .i64 0, .slice none 0 0] [.int .i64 m0, .int .i64 m1, .int .i64 m2, .int .i64 m3, .int .i64 m4, .int .i64 m5, .int .i64 m6, .bool m7, .int .i64 m8, .int .i64 m9, .int .i64 m10, .int .i64 m11, .slice va vsL.length vc, y13_0, y13_1, .slice a14 v14.length c14, y15_0, y15_1, y15_2, y15_3, y15_4, y15_5, y15_6, y15_7, y15_8, y15_9, y15_10, y15_11, y15_12, y15_13, y15_14, y15_15, y15_16, y15_17, y15_18, y15_19, y15_20, y15_21, y15_22, y15_23, y15_24, y15_25, y15_26, .int .i64 0, .int .i64 0, .slice none 0 0] G15x.out rfl (Nat.le_of_ble_eq_true rfl) HI15.out HO15.out ?nx15)
          case nx15 =>
            intro u15 hLA15
            have LA15 := hLA15.out
            have hcur := r16.laid LA15 hpq1 hDB
            have G15y := hidI LA15.at_
            replace QL := hidI (QL.out.keptX (by rw [LA15.size]; exact Nat.le_refl _) (fun b h1 h2 h3 => LA15.block b h2))
            replace Q13 := hidI (Q13.out.keptX (by rw [LA15.size]; exact Nat.le_refl _) (fun b h1 h2 h3 => LA15.block b h2))
            replace Q14 := hidI (Q14.out.keptX (by rw [LA15.size]; exact Nat.le_refl _) (fun b h1 h2 h3 => LA15.block b h2))
            replace Q15 := hidI (Q15.out.keptX (by rw [LA15.size]; exact Nat.le_refl _) (fun b h1 h2 h3 => LA15.block b h2))
            replace GQ := hidI ((LA15.block _ (by omega)).trans GQ.out)
            replace SQ : Hid (RS w u15 p) := ⟨LA15.os.trans SQ.out.os, LA15.tape.trans SQ.out.tape, LA15.output.trans SQ.out.output, by rw [LA15.size]; exact SQ.out.size, fun j hj hp => (LA15.block j (by omega)).trans (SQ.out.block j hj hp)⟩
            clear LA15 hLA15 G15x r16
            go_wp2_with fail
            refine (result_i p _ _ _ hcur).mono ?_
            rintro e x16 ⟨cs16, v16, rfl, q16, l17, b17, rd17, r17, t17⟩
            have RD17 := hidI rd17
            clear rd17 hcur
            obtain ⟨y16_0, y16_1, y16_2, rfl⟩ := list_len3 cs16 q16.len
            replace QL := hidI (QL.out.keptX t17.size (fun b h1 h2 h3 => t17.block b h3 (by have := hDq.out.1; omega)))
            replace Q13 := hidI (Q13.out.keptX t17.size (fun b h1 h2 h3 => t17.block b h3 (by have := hDq.out.1; omega)))
            replace Q14 := hidI (Q14.out.keptX t17.size (fun b h1 h2 h3 => t17.block b h3 (by have := hDq.out.1; omega)))
            replace Q15 := hidI (Q15.out.keptX t17.size (fun b h1 h2 h3 => t17.block b h3 (by have := hDq.out.1; omega)))
            have hq1u : q1 < u15.heap.size := (Array.getElem?_eq_some_iff.1 G15y.out).1
            have Q16 := hidI (q16.toX (lo' := w.heap.size + 1) (q := q1) (by omega) (.inl hq1u))
            clear q16
            have G16x := hidI ((t17.block q1 hq1u (by omega)).trans G15y.out)
            replace GQ := hidI ((t17.block _ (by omega) hpq.out.symm).trans GQ.out)
            replace SQ := hidI (SQ.out.trans t17)
            clear t17 hq1u
            have HI16 : Hid ((Tryz.prog.info? 53).map (·.size) = some ([y16_0, y16_1, y16_2] : List Value).toArray.size) := by show _ = _; kernel_rfl
            have HO16 : Hid (∀ c ∈ ([y16_0, y16_1, y16_2] : List Value), c.oneCell' = true) := Q16.out.one
            go_wp2_with (refine wpList_store_midF rfl 53 (.tmp 56) (.tmp 55) rfl q1 43 [y16_0, y16_1, y16_2] rfl rfl 55 [.int .i64 m0, .int .i64 m1, .int .i64 m2, .int .i64 m3, .int .i64 m4, .int .i64 m5, .int .i64 m6, .bool m7, .int .i64 m8, .int .i64 m9, .int .i64 m10, .int .i64 m11, .slice va vsL.length vc, y13_0, y13_1, .slice a14 v14.length c14, y15_0, y15_1, y15_2, y15_3, y15_4, y15_5, y15_6, y15_7, y15_8, y15_9, y15_10, y15_11, y15_12, y15_13, y15_14, y15_15, y15_16, y15_17, y15_18, y15_19, y15_20, y15_21, y15_22, y15_23, y15_24, y15_25, y15_26, .int .i64 0, .int .i64 0, .slice none 0 0] [.int .i64 m0, .int .i64 m1, .int .i64 m2, .int .i64 m3, .int .i64 m4, .int .i64 m5, .int .i64 m6, .bool m7, .int .i64 m8, .int .i64 m9, .int .i64 m10, .int .i64 m11, .slice va vsL.length vc, y13_0, y13_1, .slice a14 v14.length c14, y15_0, y15_1, y15_2, y15_3, y15_4, y15_5, y15_6, y15_7, y15_8, y15_9, y15_10, y15_11, y15_12, y15_13, y15_14, y15_15, y15_16, y15_17, y15_18, y15_19, y15_20, y15_21, y15_22, y15_23, y15_24, y15_25, y15_26, y16_0, y16_1, y16_2] G16x.out rfl (Nat.le_of_ble_eq_true rfl) HI16.out HO16.out ?nx16)
            case nx16 =>
              intro u16 hLA16
              have LA16 := hLA16.out
              have hcur := r17.laid LA16 hpq1 hDB
              have G16y := hidI LA16.at_
              replace QL := hidI (QL.out.keptX (by rw [LA16.size]; exact Nat.le_refl _) (fun b h1 h2 h3 => LA16.block b h2))
              replace Q13 := hidI (Q13.out.keptX (by rw [LA16.size]; exact Nat.le_refl _) (fun b h1 h2 h3 => LA16.block b h2))
              replace Q14 := hidI (Q14.out.keptX (by rw [LA16.size]; exact Nat.le_refl _) (fun b h1 h2 h3 => LA16.block b h2))
              replace Q15 := hidI (Q15.out.keptX (by rw [LA16.size]; exact Nat.le_refl _) (fun b h1 h2 h3 => LA16.block b h2))
              replace Q16 := hidI (Q16.out.keptX (by rw [LA16.size]; exact Nat.le_refl _) (fun b h1 h2 h3 => LA16.block b h2))
              replace GQ := hidI ((LA16.block _ (by omega)).trans GQ.out)
              replace SQ : Hid (RS w u16 p) := ⟨LA16.os.trans SQ.out.os, LA16.tape.trans SQ.out.tape, LA16.output.trans SQ.out.output, by rw [LA16.size]; exact SQ.out.size, fun j hj hp => (LA16.block j (by omega)).trans (SQ.out.block j hj hp)⟩
              clear LA16 hLA16 G16x r17
              have REP : Hid (Rep u16 (NX (w.heap.size + 1) q1 u16) F_msg [.int .i64 m0, .int .i64 m1, .int .i64 m2, .int .i64 m3, .int .i64 m4, .int .i64 m5, .int .i64 m6, .bool m7, .int .i64 m8, .int .i64 m9, .int .i64 m10, .int .i64 m11, .slice va vsL.length vc, y13_0, y13_1, .slice a14 v14.length c14, y15_0, y15_1, y15_2, y15_3, y15_4, y15_5, y15_6, y15_7, y15_8, y15_9, y15_10, y15_11, y15_12, y15_13, y15_14, y15_15, y15_16, y15_17, y15_18, y15_19, y15_20, y15_21, y15_22, y15_23, y15_24, y15_25, y15_26, y16_0, y16_1, y16_2] (m0, m1, m2, m3, m4, m5, m6, m7, m8, m9, m10, m11, vsL, v13, v14, v15, v16)) := by
                exact mk_msg m0 m1 m2 m3 m4 m5 m6 m7 m8 m9 m10 m11 va vc vsL y13_0 y13_1 v13 a14 c14 v14 y15_0 y15_1 y15_2 y15_3 y15_4 y15_5 y15_6 y15_7 y15_8 y15_9 y15_10 y15_11 y15_12 y15_13 y15_14 y15_15 y15_16 y15_17 y15_18 y15_19 y15_20 y15_21 y15_22 y15_23 y15_24 y15_25 y15_26 v15 y16_0 y16_1 y16_2 v16 QL.out Q13.out ⟨k14, Q14.out⟩ Q15.out Q16.out
              have RDA : Hid (Rd F_msg l bad (m0, m1, m2, m3, m4, m5, m6, m7, m8, m9, m10, m11, vsL, v13, v14, v15, v16) l17 b17) := (Rd.cat RD1.out (Rd.cat RD2.out (Rd.cat RD3.out (Rd.cat RD4.out (Rd.cat RD5.out (Rd.cat RD6.out (Rd.cat RD7.out (Rd.cat RD8.out (Rd.cat RD9.out (Rd.cat RD10.out (Rd.cat RD11.out (Rd.cat RD12.out (Rd.cat RDL.out (Rd.cat RD14.out (Rd.cat RD15.out (Rd.cat RD16.out RD17.out))))))))))))))))
              have IF : Hid ((Tryz.prog.info? 55).map (·.size) = some (#[.int .i64 m0, .int .i64 m1, .int .i64 m2, .int .i64 m3, .int .i64 m4, .int .i64 m5, .int .i64 m6, .bool m7, .int .i64 m8, .int .i64 m9, .int .i64 m10, .int .i64 m11, .slice va vsL.length vc, y13_0, y13_1, .slice a14 v14.length c14, y15_0, y15_1, y15_2, y15_3, y15_4, y15_5, y15_6, y15_7, y15_8, y15_9, y15_10, y15_11, y15_12, y15_13, y15_14, y15_15, y15_16, y15_17, y15_18, y15_19, y15_20, y15_21, y15_22, y15_23, y15_24, y15_25, y15_26, y16_0, y16_1, y16_2] : Array Value).size) := by show _ = _; kernel_rfl
              have OF : Hid ((#[.int .i64 m0, .int .i64 m1, .int .i64 m2, .int .i64 m3, .int .i64 m4, .int .i64 m5, .int .i64 m6, .bool m7, .int .i64 m8, .int .i64 m9, .int .i64 m10, .int .i64 m11, .slice va vsL.length vc, y13_0, y13_1, .slice a14 v14.length c14, y15_0, y15_1, y15_2, y15_3, y15_4, y15_5, y15_6, y15_7, y15_8, y15_9, y15_10, y15_11, y15_12, y15_13, y15_14, y15_15, y15_16, y15_17, y15_18, y15_19, y15_20, y15_21, y15_22, y15_23, y15_24, y15_25, y15_26, y16_0, y16_1, y16_2] : Array Value).all (·.oneCell') = true) := REP.out.all
              have HCUR := hidI hcur
              clear hcur
              go_wp2_with (first
                | (refine wpList_load_row rfl 55 (.tmp 3) rfl q1 rfl 55 #[.int .i64 m0, .int .i64 m1, .int .i64 m2, .int .i64 m3, .int .i64 m4, .int .i64 m5, .int .i64 m6, .bool m7, .int .i64 m8, .int .i64 m9, .int .i64 m10, .int .i64 m11, .slice va vsL.length vc, y13_0, y13_1, .slice a14 v14.length c14, y15_0, y15_1, y15_2, y15_3, y15_4, y15_5, y15_6, y15_7, y15_8, y15_9, y15_10, y15_11, y15_12, y15_13, y15_14, y15_15, y15_16, y15_17, y15_18, y15_19, y15_20, y15_21, y15_22, y15_23, y15_24, y15_25, y15_26, y16_0, y16_1, y16_2] (0, 0) _ G16y.out Tryz.underlying55 rfl IF.out ?_)
                | (refine wpList_store_row rfl 55 (.tmp 2) (.tmp 57) rfl w.heap.size #[.int .i64 m0, .int .i64 m1, .int .i64 m2, .int .i64 m3, .int .i64 m4, .int .i64 m5, .int .i64 m6, .bool m7, .int .i64 m8, .int .i64 m9, .int .i64 m10, .int .i64 m11, .slice va vsL.length vc, y13_0, y13_1, .slice a14 v14.length c14, y15_0, y15_1, y15_2, y15_3, y15_4, y15_5, y15_6, y15_7, y15_8, y15_9, y15_10, y15_11, y15_12, y15_13, y15_14, y15_15, y15_16, y15_17, y15_18, y15_19, y15_20, y15_21, y15_22, y15_23, y15_24, y15_25, y15_26, y16_0, y16_1, y16_2] rfl rfl 55 #[.int .i64 0, .int .i64 0, .int .i64 0, .int .i64 0, .int .i64 0, .int .i64 0, .int .i64 0, .bool false, .int .i64 0, .int .i64 0, .int .i64 0, .int .i64 0, .slice none 0 0, .slice none 0 0, .slice none 0 0, .slice none 0 0, .int .i64 0, .int .i64 0, .int .i64 0, .int .i64 0, .int .i64 0, .int .i64 0, .int .i64 0, .slice none 0 0, .int .i64 0, .bool false, .int .i64 0, .int .i64 0, .int .i64 0, .bool false, .bool false, .int .i64 0, .int .i64 0, .int .i64 0, .slice none 0 0, .int .i64 0, .int .i64 0, .int .i64 0, .slice none 0 0, .slice none 0 0, .bool false, .slice none 0 0, .slice none 0 0, .int .i64 0, .int .i64 0, .slice none 0 0] GQ.out IF.out rfl OF.out ?_))
              refine bodyPost_ret (v := .agg #[.int .i64 m0, .int .i64 m1, .int .i64 m2, .int .i64 m3, .int .i64 m4, .int .i64 m5, .int .i64 m6, .bool m7, .int .i64 m8, .int .i64 m9, .int .i64 m10, .int .i64 m11, .slice va vsL.length vc, y13_0, y13_1, .slice a14 v14.length c14, y15_0, y15_1, y15_2, y15_3, y15_4, y15_5, y15_6, y15_7, y15_8, y15_9, y15_10, y15_11, y15_12, y15_13, y15_14, y15_15, y15_16, y15_17, y15_18, y15_19, y15_20, y15_21, y15_22, y15_23, y15_24, y15_25, y15_26, y16_0, y16_1, y16_2]) ?_ rfl ⟨[.int .i64 m0, .int .i64 m1, .int .i64 m2, .int .i64 m3, .int .i64 m4, .int .i64 m5, .int .i64 m6, .bool m7, .int .i64 m8, .int .i64 m9, .int .i64 m10, .int .i64 m11, .slice va vsL.length vc, y13_0, y13_1, .slice a14 v14.length c14, y15_0, y15_1, y15_2, y15_3, y15_4, y15_5, y15_6, y15_7, y15_8, y15_9, y15_10, y15_11, y15_12, y15_13, y15_14, y15_15, y15_16, y15_17, y15_18, y15_19, y15_20, y15_21, y15_22, y15_23, y15_24, y15_25, y15_26, y16_0, y16_1, y16_2], _, rfl, ?_, l17, b17, RDA.out, ?_, ?_⟩
              · refine results_cell_row Tryz.results37 _ _ w.heap.size 55 _ (0, 0) _ ?_ (setRow_heap u16 w.heap.size _ _ 55 _ GQ.out) Tryz.underlying55 rfl IF.out
                rfl
              · exact (REP.out.keptX (by simp [World.setRow]) (fun b h1 h2 h3 => setRow_other _ _ _ _ (by omega))).unX (Nat.le_succ _)
              · exact HCUR.out.ext ⟨rfl, rfl, rfl, by simp [World.setRow], fun k hk => setRow_other _ _ _ _ (by omega)⟩ hDq.out.1 hDq.out.2
              · exact SQ.out.setRow (Nat.le_refl _) _
end Go.Proofs.YtpbokgeaolpiaabGreat
