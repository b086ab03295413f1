/- Js, Von, Vrz -/
import Derived.Test.YtocoimjhglackaaGreatQ40
set_option maxHeartbeats 8000000
set_option maxRecDepth 100000
namespace Go.Proofs.YtocoimjhglackaaGreat
section
open Go.RowKit
theorem yW2 {D : Nat} (p : Nat) (l : List UInt8) (bad : Bool) (w : World) (h : RI D w p l bad) : Calls Tryz.prog 75 #[.pointer (some ⟨p, 0, none⟩)] w fun e w' => RecO D w p zA2 l bad e w' := by
 have hB0 : Below w.heap.size w (w.alloc (.cells #[.int .i64 0, .int .i64 0, .slice none 0 0, .slice none 0 0, .slice none 0 0] 36)) := (Below.refl _ _).alloc (Nat.le_refl _) _
 have h0 : RI D (w.alloc (.cells #[.int .i64 0, .int .i64 0, .slice none 0 0, .slice none 0 0, .slice none 0 0] 36)) p l bad := h.ext hB0 h.1 h.2.1
 have s0 : RS w (w.alloc (.cells #[.int .i64 0, .int .i64 0, .slice none 0 0, .slice none 0 0, .slice none 0 0] 36)) p := (RS.refl _ _).alloc _
 have g0 : Hid ((w.alloc (.cells #[.int .i64 0, .int .i64 0, .slice none 0 0, .slice none 0 0, .slice none 0 0] 36)).heap[w.heap.size]? = some (.cells #[.int .i64 0, .int .i64 0, .slice none 0 0, .slice none 0 0, .slice none 0 0] 36 (0, 0))) := heap_alloc_new w _
 have z0 : w.heap.size < (w.alloc (.cells #[.int .i64 0, .int .i64 0, .slice none 0 0, .slice none 0 0, .slice none 0 0] 36)).heap.size := by rw [World.size_alloc]; omega
 have hpq : Hid (p ≠ w.heap.size) := by have := h.1; show p ≠ _; omega
 have hDq : Hid (p < w.heap.size /\ D <= w.heap.size) := ⟨h.1, h.2.1⟩
 clear h hB0
 go_enter Tryz.func75, Tryz.ntmps75
 go_wp2_with fail
 refine (zF5 p _ _ _ h0).mono ?_
 rintro e w1 ⟨m0, rfl, _, l1, b1, rd1, h1, t1⟩
 have RD1 := hidI rd1
 clear rd1
 have s1 := s0.trans t1
 have g1 : Hid (w1.heap[w.heap.size]? = some (.cells #[.int .i64 0, .int .i64 0, .slice none 0 0, .slice none 0 0, .slice none 0 0] 36 (0, 0))) := (t1.block _ z0 hpq.out.symm).trans g0.out
 have z1 : w.heap.size < w1.heap.size := Nat.lt_of_lt_of_le z0 t1.size
 clear h0 t1 s0 g0 z0
 go_wp2_with fail
 refine (zF5 p _ _ _ h1).mono ?_
 rintro e w2 ⟨m1, rfl, _, l2, b2, rd2, h2, t2⟩
 have RD2 := hidI rd2
 clear rd2
 have s2 := s1.trans t2
 have g2 : Hid (w2.heap[w.heap.size]? = some (.cells #[.int .i64 0, .int .i64 0, .slice none 0 0, .slice none 0 0, .slice none 0 0] 36 (0, 0))) := (t2.block _ z1 hpq.out.symm).trans g1.out
 have z2 : w.heap.size < w2.heap.size := Nat.lt_of_lt_of_le z1 t2.size
 clear h1 t2 s1 g1 z1
 go_wp2_with fail
 refine (xP5 p _ _ _ h2).mono ?_
 rintro e w3 ⟨cs2, v2, rfl, q2, l3, b3, rd3, h3, t3⟩
 have RD3 := hidI rd3
 clear rd3
 obtain ⟨y2_0, y2_1, rfl⟩ := zD9 cs2 q2.len
 have Q2 := hidI (q2.keptN (lo' := w.heap.size + 1) (Nat.le_refl _) (fun _ _ _ => rfl) z2)
 clear q2
 have s3 := s2.trans t3
 have g3 : Hid (w3.heap[w.heap.size]? = some (.cells #[.int .i64 0, .int .i64 0, .slice none 0 0, .slice none 0 0, .slice none 0 0] 36 (0, 0))) := (t3.block _ z2 hpq.out.symm).trans g2.out
 have z3 : w.heap.size < w3.heap.size := Nat.lt_of_lt_of_le z2 t3.size
 clear h2 t3 s2 g2 z2
 go_wp2_with fail
 refine (xV8 p _ _ _ h3).mono ?_
 rintro e w4 ⟨a3, c3, v3, rfl, k3, q3, l4, b4, rd4, h4, t4⟩
 have RD4 := hidI rd4
 clear rd4
 replace Q2 := hidI (Q2.out.keptN (lo' := w.heap.size + 1) t4.size (fun b h1 h2 => t4.block b h2 (by have := hDq.out.1; omega)) (Nat.le_refl _))
 have Q3 := hidI (q3.keptN (lo' := w.heap.size + 1) (Nat.le_refl _) (fun _ _ _ => rfl) z3)
 clear q3
 have s4 := s3.trans t4
 have g4 : Hid (w4.heap[w.heap.size]? = some (.cells #[.int .i64 0, .int .i64 0, .slice none 0 0, .slice none 0 0, .slice none 0 0] 36 (0, 0))) := (t4.block _ z3 hpq.out.symm).trans g3.out
 have z4 : w.heap.size < w4.heap.size := Nat.lt_of_lt_of_le z3 t4.size
 clear h3 t4 s3 g3 z3
 have I0 : Hid ((Tryz.prog.info? 36).map (·.size) = some (#[.int .i64 m0, .int .i64 m1, y2_0, y2_1, .slice a3 v3.length c3] : Array Value).size) := by show _ = _; kernel_rfl
 have REP : Hid (Rep w4 (NBr (w.heap.size + 1) w4) zA2 [.int .i64 m0, .int .i64 m1, y2_0, y2_1, .slice a3 v3.length c3] (m0, m1, v2, v3)) := by
  exact zL1 m0 m1 y2_0 y2_1 v2 a3 c3 v3 Q2.out ⟨k3, Q3.out⟩
 have O0 : Hid ((#[.int .i64 m0, .int .i64 m1, y2_0, y2_1, .slice a3 v3.length c3] : Array Value).all (·.oneCell') = true) := REP.out.all
 have RDA : Hid (Rd zA2 l bad (m0, m1, v2, v3) l4 b4) := (Rd.cat RD1.out (Rd.cat RD2.out (Rd.cat RD3.out RD4.out)))
 go_wp2_with (refine wpList_store_row rfl 36 (.tmp 2) (.tmp 11) rfl w.heap.size #[.int .i64 m0, .int .i64 m1, y2_0, y2_1, .slice a3 v3.length c3] rfl rfl 36 #[.int .i64 0, .int .i64 0, .slice none 0 0, .slice none 0 0, .slice none 0 0] g4.out I0.out rfl O0.out ?_)
 refine bodyPost_ret (v := .agg #[.int .i64 m0, .int .i64 m1, y2_0, y2_1, .slice a3 v3.length c3]) ?_ rfl ⟨[.int .i64 m0, .int .i64 m1, y2_0, y2_1, .slice a3 v3.length c3], _, rfl, ?_, l4, b4, RDA.out, ?_, ?_⟩
 · refine results_cell_row Tryz.results75 _ _ w.heap.size 36 _ (0, 0) _ ?_ (setRow_heap w4 w.heap.size _ _ 36 _ g4.out) Tryz.underlying36 rfl I0.out
   rfl
 · exact REP.out.keptN (by simp [World.setRow]) (fun b h1 h2 => setRow_other _ _ _ _ (by omega)) (Nat.le_succ _)
 · exact h4.ext ⟨rfl, rfl, rfl, by simp [World.setRow], fun k hk => setRow_other _ _ _ _ (by omega)⟩ hDq.out.1 hDq.out.2
 · exact s4.setRow (Nat.le_refl _) _
theorem xU7 {D : Nat} (p : Nat) (l : List UInt8) (bad : Bool) (w : World) (h : RI D w p l bad) : Calls Tryz.prog 73 #[.pointer (some ⟨p, 0, none⟩)] w fun e w' => RecO D w p zA8 l bad e w' := by
 have hB0 : Below w.heap.size w (w.alloc (.cells #[.int .i64 0, .int .i64 0, .int .i64 0, .int .i64 0, .int .i64 0, .int .i64 0, .int .i64 0, .int .i64 0, .int .i64 0, .slice none 0 0, .int .i64 0, .bool false, .int .i64 0, .int .i64 0, .int .i64 0, .bool false, .bool false, .int .i64 0, .int .i64 0, .int .i64 0, .slice none 0 0, .int .i64 0, .int .i64 0, .int .i64 0, .slice none 0 0, .slice none 0 0, .bool false, .slice none 0 0, .slice none 0 0] 73)) := (Below.refl _ _).alloc (Nat.le_refl _) _
 have h0 : RI D (w.alloc (.cells #[.int .i64 0, .int .i64 0, .int .i64 0, .int .i64 0, .int .i64 0, .int .i64 0, .int .i64 0, .int .i64 0, .int .i64 0, .slice none 0 0, .int .i64 0, .bool false, .int .i64 0, .int .i64 0, .int .i64 0, .bool false, .bool false, .int .i64 0, .int .i64 0, .int .i64 0, .slice none 0 0, .int .i64 0, .int .i64 0, .int .i64 0, .slice none 0 0, .slice none 0 0, .bool false, .slice none 0 0, .slice none 0 0] 73)) p l bad := h.ext hB0 h.1 h.2.1
 have s0 : RS w (w.alloc (.cells #[.int .i64 0, .int .i64 0, .int .i64 0, .int .i64 0, .int .i64 0, .int .i64 0, .int .i64 0, .int .i64 0, .int .i64 0, .slice none 0 0, .int .i64 0, .bool false, .int .i64 0, .int .i64 0, .int .i64 0, .bool false, .bool false, .int .i64 0, .int .i64 0, .int .i64 0, .slice none 0 0, .int .i64 0, .int .i64 0, .int .i64 0, .slice none 0 0, .slice none 0 0, .bool false, .slice none 0 0, .slice none 0 0] 73)) p := (RS.refl _ _).alloc _
 have g0 : Hid ((w.alloc (.cells #[.int .i64 0, .int .i64 0, .int .i64 0, .int .i64 0, .int .i64 0, .int .i64 0, .int .i64 0, .int .i64 0, .int .i64 0, .slice none 0 0, .int .i64 0, .bool false, .int .i64 0, .int .i64 0, .int .i64 0, .bool false, .bool false, .int .i64 0, .int .i64 0, .int .i64 0, .slice none 0 0, .int .i64 0, .int .i64 0, .int .i64 0, .slice none 0 0, .slice none 0 0, .bool false, .slice none 0 0, .slice none 0 0] 73)).heap[w.heap.size]? = some (.cells #[.int .i64 0, .int .i64 0, .int .i64 0, .int .i64 0, .int .i64 0, .int .i64 0, .int .i64 0, .int .i64 0, .int .i64 0, .slice none 0 0, .int .i64 0, .bool false, .int .i64 0, .int .i64 0, .int .i64 0, .bool false, .bool false, .int .i64 0, .int .i64 0, .int .i64 0, .slice none 0 0, .int .i64 0, .int .i64 0, .int .i64 0, .slice none 0 0, .slice none 0 0, .bool false, .slice none 0 0, .slice none 0 0] 73 (0, 0))) := heap_alloc_new w _
 have z0 : w.heap.size < (w.alloc (.cells #[.int .i64 0, .int .i64 0, .int .i64 0, .int .i64 0, .int .i64 0, .int .i64 0, .int .i64 0, .int .i64 0, .int .i64 0, .slice none 0 0, .int .i64 0, .bool false, .int .i64 0, .int .i64 0, .int .i64 0, .bool false, .bool false, .int .i64 0, .int .i64 0, .int .i64 0, .slice none 0 0, .int .i64 0, .int .i64 0, .int .i64 0, .slice none 0 0, .slice none 0 0, .bool false, .slice none 0 0, .slice none 0 0] 73)).heap.size := by rw [World.size_alloc]; omega
 have hpq : Hid (p ≠ w.heap.size) := by have := h.1; show p ≠ _; omega
 have hDq : Hid (p < w.heap.size /\ D <= w.heap.size) := ⟨h.1, h.2.1⟩
 clear h hB0
 go_enter Tryz.func73, Tryz.ntmps73
 go_wp2_with fail
 refine (zF5 p _ _ _ h0).mono ?_
 rintro e w1 ⟨m0, rfl, _, l1, b1, rd1, h1, t1⟩
 have RD1 := hidI rd1
 clear rd1
 have s1 := s0.trans t1
 have g1 : Hid (w1.heap[w.heap.size]? = some (.cells #[.int .i64 0, .int .i64 0, .int .i64 0, .int .i64 0, .int .i64 0, .int .i64 0, .int .i64 0, .int .i64 0, .int .i64 0, .slice none 0 0, .int .i64 0, .bool false, .int .i64 0, .int .i64 0, .int .i64 0, .bool false, .bool false, .int .i64 0, .int .i64 0, .int .i64 0, .slice none 0 0, .int .i64 0, .int .i64 0, .int .i64 0, .slice none 0 0, .slice none 0 0, .bool false, .slice none 0 0, .slice none 0 0] 73 (0, 0))) := (t1.block _ z0 hpq.out.symm).trans g0.out
 have z1 : w.heap.size < w1.heap.size := Nat.lt_of_lt_of_le z0 t1.size
 clear h0 t1 s0 g0 z0
 go_wp2_with fail
 refine (zF5 p _ _ _ h1).mono ?_
 rintro e w2 ⟨m1, rfl, _, l2, b2, rd2, h2, t2⟩
 have RD2 := hidI rd2
 clear rd2
 have s2 := s1.trans t2
 have g2 : Hid (w2.heap[w.heap.size]? = some (.cells #[.int .i64 0, .int .i64 0, .int .i64 0, .int .i64 0, .int .i64 0, .int .i64 0, .int .i64 0, .int .i64 0, .int .i64 0, .slice none 0 0, .int .i64 0, .bool false, .int .i64 0, .int .i64 0, .int .i64 0, .bool false, .bool false, .int .i64 0, .int .i64 0, .int .i64 0, .slice none 0 0, .int .i64 0, .int .i64 0, .int .i64 0, .slice none 0 0, .slice none 0 0, .bool false, .slice none 0 0, .slice none 0 0] 73 (0, 0))) := (t2.block _ z1 hpq.out.symm).trans g1.out
 have z2 : w.heap.size < w2.heap.size := Nat.lt_of_lt_of_le z1 t2.size
 clear h1 t2 s1 g1 z1
 go_wp2_with fail
 refine (kF8 p _ _ _ h2).mono ?_
 rintro e w3 ⟨cs2, v2, rfl, q2, l3, b3, rd3, h3, t3⟩
 have RD3 := hidI rd3
 clear rd3
 obtain ⟨y2_0, y2_1, y2_2, y2_3, y2_4, y2_5, y2_6, y2_7, y2_8, y2_9, y2_10, y2_11, y2_12, y2_13, y2_14, y2_15, y2_16, y2_17, y2_18, y2_19, y2_20, y2_21, y2_22, y2_23, y2_24, y2_25, y2_26, rfl⟩ := zT2 cs2 q2.len
 have Q2 := hidI (q2.keptN (lo' := w.heap.size + 1) (Nat.le_refl _) (fun _ _ _ => rfl) z2)
 clear q2
 have s3 := s2.trans t3
 have g3 : Hid (w3.heap[w.heap.size]? = some (.cells #[.int .i64 0, .int .i64 0, .int .i64 0, .int .i64 0, .int .i64 0, .int .i64 0, .int .i64 0, .int .i64 0, .int .i64 0, .slice none 0 0, .int .i64 0, .bool false, .int .i64 0, .int .i64 0, .int .i64 0, .bool false, .bool false, .int .i64 0, .int .i64 0, .int .i64 0, .slice none 0 0, .int .i64 0, .int .i64 0, .int .i64 0, .slice none 0 0, .slice none 0 0, .bool false, .slice none 0 0, .slice none 0 0] 73 (0, 0))) := (t3.block _ z2 hpq.out.symm).trans g2.out
 have z3 : w.heap.size < w3.heap.size := Nat.lt_of_lt_of_le z2 t3.size
 clear h2 t3 s2 g2 z2
 have I0 : Hid ((Tryz.prog.info? 73).map (·.size) = some (#[.int .i64 m0, .int .i64 m1, y2_0, y2_1, y2_2, y2_3, y2_4, y2_5, y2_6, y2_7, y2_8, y2_9, y2_10, y2_11, y2_12, y2_13, y2_14, y2_15, y2_16, y2_17, y2_18, y2_19, y2_20, y2_21, y2_22, y2_23, y2_24, y2_25, y2_26] : Array Value).size) := by show _ = _; kernel_rfl
 have REP : Hid (Rep w3 (NBr (w.heap.size + 1) w3) zA8 [.int .i64 m0, .int .i64 m1, y2_0, y2_1, y2_2, y2_3, y2_4, y2_5, y2_6, y2_7, y2_8, y2_9, y2_10, y2_11, y2_12, y2_13, y2_14, y2_15, y2_16, y2_17, y2_18, y2_19, y2_20, y2_21, y2_22, y2_23, y2_24, y2_25, y2_26] (m0, m1, v2)) := by
  exact yF2 m0 m1 y2_0 y2_1 y2_2 y2_3 y2_4 y2_5 y2_6 y2_7 y2_8 y2_9 y2_10 y2_11 y2_12 y2_13 y2_14 y2_15 y2_16 y2_17 y2_18 y2_19 y2_20 y2_21 y2_22 y2_23 y2_24 y2_25 y2_26 v2 Q2.out
 have O0 : Hid ((#[.int .i64 m0, .int .i64 m1, y2_0, y2_1, y2_2, y2_3, y2_4, y2_5, y2_6, y2_7, y2_8, y2_9, y2_10, y2_11, y2_12, y2_13, y2_14, y2_15, y2_16, y2_17, y2_18, y2_19, y2_20, y2_21, y2_22, y2_23, y2_24, y2_25, y2_26] : Array Value).all (·.oneCell') = true) := REP.out.all
 have RDA : Hid (Rd zA8 l bad (m0, m1, v2) l3 b3) := (Rd.cat RD1.out (Rd.cat RD2.out RD3.out))
 go_wp2_with (refine wpList_store_row rfl 73 (.tmp 2) (.tmp 9) rfl w.heap.size #[.int .i64 m0, .int .i64 m1, y2_0, y2_1, y2_2, y2_3, y2_4, y2_5, y2_6, y2_7, y2_8, y2_9, y2_10, y2_11, y2_12, y2_13, y2_14, y2_15, y2_16, y2_17, y2_18, y2_19, y2_20, y2_21, y2_22, y2_23, y2_24, y2_25, y2_26] rfl rfl 73 #[.int .i64 0, .int .i64 0, .int .i64 0, .int .i64 0, .int .i64 0, .int .i64 0, .int .i64 0, .int .i64 0, .int .i64 0, .slice none 0 0, .int .i64 0, .bool false, .int .i64 0, .int .i64 0, .int .i64 0, .bool false, .bool false, .int .i64 0, .int .i64 0, .int .i64 0, .slice none 0 0, .int .i64 0, .int .i64 0, .int .i64 0, .slice none 0 0, .slice none 0 0, .bool false, .slice none 0 0, .slice none 0 0] g3.out I0.out rfl O0.out ?_)
 refine bodyPost_ret (v := .agg #[.int .i64 m0, .int .i64 m1, y2_0, y2_1, y2_2, y2_3, y2_4, y2_5, y2_6, y2_7, y2_8, y2_9, y2_10, y2_11, y2_12, y2_13, y2_14, y2_15, y2_16, y2_17, y2_18, y2_19, y2_20, y2_21, y2_22, y2_23, y2_24, y2_25, y2_26]) ?_ rfl ⟨[.int .i64 m0, .int .i64 m1, y2_0, y2_1, y2_2, y2_3, y2_4, y2_5, y2_6, y2_7, y2_8, y2_9, y2_10, y2_11, y2_12, y2_13, y2_14, y2_15, y2_16, y2_17, y2_18, y2_19, y2_20, y2_21, y2_22, y2_23, y2_24, y2_25, y2_26], _, rfl, ?_, l3, b3, RDA.out, ?_, ?_⟩
 · refine results_cell_row Tryz.results73 _ _ w.heap.size 73 _ (0, 0) _ ?_ (setRow_heap w3 w.heap.size _ _ 73 _ g3.out) Tryz.underlying73 rfl I0.out
   rfl
 · exact REP.out.keptN (by simp [World.setRow]) (fun b h1 h2 => setRow_other _ _ _ _ (by omega)) (Nat.le_succ _)
 · exact h3.ext ⟨rfl, rfl, rfl, by simp [World.setRow], fun k hk => setRow_other _ _ _ _ (by omega)⟩ hDq.out.1 hDq.out.2
 · exact s3.setRow (Nat.le_refl _) _
end
section
open Go.RowKit
theorem yV1 (u : Nat) : 128 + (u : Int) % 128 = ((zH6 u).toNat : Int) := by rw [<- yA7]; omega
theorem yF0 (p : Nat) (l : List UInt8) (bad : Bool) (prot : Nat -> Prop) (n : Int) (w : World) (h0 : -1099511627776 <= n) (h1 : n <= 1099511627776) (hl : l.length <= 137438953472) (h : WR w p l bad prot) :
    Calls Tryz.prog 107 #[.pointer (some ⟨p, 0, none⟩), .int .i64 n] w fun e w' => e = .returned (.tuple #[]) /\ WR w' p (l ++ enc n) bad prot /\ Kp w w' prot := by
 have f0 : 0 <= zG0 n := by unfold zG0; split <;> omega
 have f1 : zG0 n <= 2199023255552 := by unfold zG0; split <;> omega
 obtain ⟨u0, hu0⟩ := Int.eq_ofNat_of_zero_le f0
 rw [hu0] at f1
 have HE2 : Hid (enc n = encU u0) := by show enc n = _; unfold enc; rw [hu0]; rfl
 clear f0
 by_cases hneg : n < 0
 · have HU : Hid (-2 * n - 1 = (u0 : Int)) := by show _ = _; rw [<- hu0]; unfold zG0; rw [if_pos hneg]
   clear hu0
   go_enter Tryz.func107, Tryz.ntmps107
   go_wp2
   go_loopw [4] (fun t wr => ∃ u : Nat, ∃ m : List UInt8, u <= u0 /\ t = .int .i64 u /\ Hid (m ++ encU u = l ++ encU u0) /\ WR wr p m bad prot /\ Kp w wr prot) (fun t _ => (intOf t).toNat)
   case atStart => exact ⟨u0, l, Nat.le_refl _, by rw [<- HU.out], rfl, h, Kp.refl _ _⟩
   case round =>
    obtain ⟨u, m, hu, rfl, hpre, hW, hK⟩ := hrel
    obtain ⟨q1, q2, q3, v, q4, q5, q6, q7, q8, q9⟩ := hW
    obtain ⟨a, c, hv, hbs⟩ := q8.form
    subst hv
    have H2 : Hid _ := q2
    have H9 : Hid _ := q9
    have H1 : Hid _ := q1
    clear q1 q2 q9 hbs
    have hml : Hid (m.length <= 137438953482) := by
     have e := congrArg List.length hpre.out
     rw [List.length_append, List.length_append] at e
     have := zI8 u0 5 (by omega)
     show m.length <= _
     omega
    by_cases hub : u < 128
    · have hpu : Hid (encU u = [zI9 u]) := zE5 u hub
      go_wp2_with (at_builtin; refine zB6 _ rfl (.tmp 42) (.tmp 45) rfl _ m rfl (q8.alloc _) _ [zI9 u] rfl ?src ?len ?next)
      case src => exact zI4 _ _ _ (zT4 u hub) _ rfl
      case len => have := hml.out; simp only [List.length_cons, List.length_nil]; omega
      case next =>
       intro v' w1 o1 s1
       obtain ⟨hW1, hK1, c1, d1⟩ := WR.store _ H1.out H2.out q3 q5 q6 q7 H9.out q4 o1 s1
       obtain ⟨a', c', hv', _⟩ := o1.form
       subst hv'
       rw [show (m ++ [zI9 u]).length = m.length + 1 from by simp] at hW1 hK1
       go_wp2
       go_end0
       refine ⟨rfl, ?_, hK.trans hK1⟩
       have e : l ++ enc n = m ++ [zI9 u] := by rw [HE2.out, <- hpre.out, hpu.out]
       rw [e]
       exact hW1
    · have hpu : Hid (encU u = zH6 u :: encU (u / 128)) := zH4 u hub
      go_wp2_with (at_builtin; refine zB6 _ rfl (.tmp 27) (.tmp 32) rfl _ m rfl (q8.alloc _) _ [zH6 u] rfl ?src ?len ?next)
      case src => exact zI4 _ _ _ (yV1 u) _ rfl
      case len => have := hml.out; simp only [List.length_cons, List.length_nil]; omega
      case next =>
       intro v' w1 o1 s1
       obtain ⟨hW1, hK1, c1, d1⟩ := WR.store _ H1.out H2.out q3 q5 q6 q7 H9.out q4 o1 s1
       obtain ⟨a', c', hv', _⟩ := o1.form
       subst hv'
       rw [show (m ++ [zH6 u]).length = m.length + 1 from by simp] at hW1 hK1
       go_wp2
       refine ⟨⟨u / 128, m ++ [zH6 u], by omega, by go_num, ?_, hW1, hK.trans hK1⟩, by simp [intOf]; omega⟩
       show m ++ [zH6 u] ++ encU (u / 128) = _
       rw [<- hpre.out, hpu.out, List.append_assoc]; rfl
 · have HU : Hid (2 * n = (u0 : Int)) := by show _ = _; rw [<- hu0]; unfold zG0; rw [if_neg hneg]
   clear hu0
   go_enter Tryz.func107, Tryz.ntmps107
   go_wp2
   go_loopw [4] (fun t wr => ∃ u : Nat, ∃ m : List UInt8, u <= u0 /\ t = .int .i64 u /\ Hid (m ++ encU u = l ++ encU u0) /\ WR wr p m bad prot /\ Kp w wr prot) (fun t _ => (intOf t).toNat)
   case atStart => exact ⟨u0, l, Nat.le_refl _, by rw [<- HU.out], rfl, h, Kp.refl _ _⟩
   case round =>
    obtain ⟨u, m, hu, rfl, hpre, hW, hK⟩ := hrel
    obtain ⟨q1, q2, q3, v, q4, q5, q6, q7, q8, q9⟩ := hW
    obtain ⟨a, c, hv, hbs⟩ := q8.form
    subst hv
    have H2 : Hid _ := q2
    have H9 : Hid _ := q9
    have H1 : Hid _ := q1
    clear q1 q2 q9 hbs
    have hml : Hid (m.length <= 137438953482) := by
     have e := congrArg List.length hpre.out
     rw [List.length_append, List.length_append] at e
     have := zI8 u0 5 (by omega)
     show m.length <= _
     omega
    by_cases hub : u < 128
    · have hpu : Hid (encU u = [zI9 u]) := zE5 u hub
      go_wp2_with (at_builtin; refine zB6 _ rfl (.tmp 42) (.tmp 45) rfl _ m rfl (q8.alloc _) _ [zI9 u] rfl ?src ?len ?next)
      case src => exact zI4 _ _ _ (zT4 u hub) _ rfl
      case len => have := hml.out; simp only [List.length_cons, List.length_nil]; omega
      case next =>
       intro v' w1 o1 s1
       obtain ⟨hW1, hK1, c1, d1⟩ := WR.store _ H1.out H2.out q3 q5 q6 q7 H9.out q4 o1 s1
       obtain ⟨a', c', hv', _⟩ := o1.form
       subst hv'
       rw [show (m ++ [zI9 u]).length = m.length + 1 from by simp] at hW1 hK1
       go_wp2
       go_end0
       refine ⟨rfl, ?_, hK.trans hK1⟩
       have e : l ++ enc n = m ++ [zI9 u] := by rw [HE2.out, <- hpre.out, hpu.out]
       rw [e]
       exact hW1
    · have hpu : Hid (encU u = zH6 u :: encU (u / 128)) := zH4 u hub
      go_wp2_with (at_builtin; refine zB6 _ rfl (.tmp 27) (.tmp 32) rfl _ m rfl (q8.alloc _) _ [zH6 u] rfl ?src ?len ?next)
      case src => exact zI4 _ _ _ (yV1 u) _ rfl
      case len => have := hml.out; simp only [List.length_cons, List.length_nil]; omega
      case next =>
       intro v' w1 o1 s1
       obtain ⟨hW1, hK1, c1, d1⟩ := WR.store _ H1.out H2.out q3 q5 q6 q7 H9.out q4 o1 s1
       obtain ⟨a', c', hv', _⟩ := o1.form
       subst hv'
       rw [show (m ++ [zH6 u]).length = m.length + 1 from by simp] at hW1 hK1
       go_wp2
       refine ⟨⟨u / 128, m ++ [zH6 u], by omega, by go_num, ?_, hW1, hK.trans hK1⟩, by simp [intOf]; omega⟩
       show m ++ [zH6 u] ++ encU (u / 128) = _
       rw [<- hpre.out, hpu.out, List.append_assoc]; rfl
theorem zF2 (p : Nat) (l : List UInt8) (bad : Bool) (prot : Nat -> Prop) (n : Int) (w : World) (hl : l.length + 6 <= 137438953472) (h : WR w p l bad prot) :
    Calls Tryz.prog 107 #[.pointer (some ⟨p, 0, none⟩), .int .i64 n] w fun e w' => e = .returned (.tuple #[]) /\ WR w' p (l ++ (enN n).1) (bad || (enN n).2) prot /\ Kp w w' prot := by
 by_cases hn : -1099511627776 <= n /\ n <= 1099511627776
 · rw [yU7 n hn.1 hn.2]
   simp only [Bool.or_false]
   exact yF0 p l bad prot n w hn.1 hn.2 (by omega) h
 · have e : enN n = ([], true) := by unfold enN; rw [if_neg hn]
   rw [e]
   simp only [Bool.or_true, List.append_nil]
   have HB : Hid _ := h.bad
   obtain ⟨h1, h2, h3, v, h4, h5, h6, h7, h8, h9⟩ := h
   clear h1 h2 h9 e h8
   by_cases hlo : n < -1099511627776
   · clear hn
     go_enter Tryz.func107, Tryz.ntmps107
     go_wp2
     (try simp only [Exit.inBlock, Exit.then]); refine bodyPost_ret (results_none rfl _ _ _) rfl ?_
     exact ⟨rfl, HB.out⟩
   · have hhi : 1099511627776 < n := by omega
     clear hn
     go_enter Tryz.func107, Tryz.ntmps107
     go_wp2
     (try simp only [Exit.inBlock, Exit.then]); refine bodyPost_ret (results_none rfl _ _ _) rfl ?_
     exact ⟨rfl, HB.out⟩
theorem yK3 (p : Nat) (l : List UInt8) (bad : Bool) (prot : Nat -> Prop) (b : Bool) (w : World) (hl : l.length + 6 <= 137438953472) (h : WR w p l bad prot) :
    Calls Tryz.prog 164 #[.pointer (some ⟨p, 0, none⟩), .bool b] w fun e w' => e = .returned (.tuple #[]) /\ WR w' p (l ++ (enR .tru b).1) (bad || (enR .tru b).2) prot /\ Kp w w' prot := by
 show Calls Tryz.prog 164 #[.pointer (some ⟨p, 0, none⟩), .bool b] w fun e w' => e = .returned (.tuple #[]) /\ WR w' p (l ++ ((enc (if b = true then 1 else 0), false)).1) (bad || ((enc (if b = true then 1 else 0), false)).2) prot /\ Kp w w' prot
 simp only [Bool.or_false]
 cases b with
 | false =>
  simp only [Bool.false_eq_true, if_false]
  go_enter Tryz.func164, Tryz.ntmps164
  go_wp2_with fail
  refine (yF0 p l bad prot 0 w (by omega) (by omega) (by omega) h).mono ?_
  rintro e w' ⟨rfl, hW, hK⟩
  go_wp2
  go_end0
  exact ⟨rfl, hW, hK⟩
 | true =>
  simp only [if_true]
  go_enter Tryz.func164, Tryz.ntmps164
  go_wp2_with fail
  refine (yF0 p l bad prot 1 w (by omega) (by omega) (by omega) h).mono ?_
  rintro e w' ⟨rfl, hW, hK⟩
  go_wp2
  go_end0
  exact ⟨rfl, hW, hK⟩
theorem WR.mark {w : World} {p : Nat} {l : List UInt8} {bad : Bool} {prot : Nat -> Prop} (h : WR w p l bad prot) (b : Bool) : WR (w.setCell ⟨p, 1, none⟩ (.bool b)) p l b prot /\ Kp w (w.setCell ⟨p, 1, none⟩ (.bool b)) prot := by
 obtain ⟨h1, h2, h3, v, h4, h5, h6, h7, h8, h9⟩ := h
 have hk : ∀ k, k ≠ p -> (w.setCell ⟨p, 1, none⟩ (.bool b)).heap[k]? = w.heap[k]? := fun k hk => Below.heap_setCell w ⟨p, 1, none⟩ _ k hk
 refine ⟨⟨h1, fun b hb => by have := h2 b hb; simpa using this, by simpa using h3, v, ?_, ?_, ?_, ?_, h8.kept (fun k e => hk k (h9 k e).1), h9⟩, ⟨rfl, rfl, rfl, by simp, fun k x => hk k (fun e => h1 (e ▸ x))⟩⟩
 · rw [World.cell?_setCell_other w _ _ _ (by simp)]; exact h4
 · exact World.cell?_setCell_same w _ _ h5
 · rw [World.frozen?_setCell]; exact h6
 · rw [World.frozen?_setCell]; exact h7
theorem yG9 (p : Nat) (l : List UInt8) (bad : Bool) (prot : Nat -> Prop) (n : Int) (w : World) (hl : l.length + 6 <= 137438953472) (h : WR w p l bad prot) :
    Calls Tryz.prog 136 #[.pointer (some ⟨p, 0, none⟩), .int .i64 n] w fun e w' => e = .returned (.tuple #[]) /\ WR w' p (l ++ (enN n).1) (bad || (decide (64 < n) || (enN n).2)) prot /\ Kp w w' prot := by
 have hM := h.mark (bad || decide (64 < n))
 have HM : Hid _ := hM
 obtain ⟨h1, h2, h3, v, h4, h5, h6, h7, h8, h9⟩ := h
 clear h1 h2 h9 h8 hM
 cases bad with
 | true =>
  simp only [Bool.true_or] at HM ⊢
  go_enter Tryz.func136, Tryz.ntmps136
  go_wp2_with fail
  refine (zF2 p l true prot n _ hl HM.out.1).mono ?_
  rintro e w' ⟨rfl, hW, hK⟩
  simp only [Bool.true_or] at hW
  go_wp2
  go_end0
  exact ⟨rfl, hW, HM.out.2.trans hK⟩
 | false =>
  simp only [Bool.false_or] at HM ⊢
  go_enter Tryz.func136, Tryz.ntmps136
  go_wp2_with fail
  refine (zF2 p l (decide (64 < n)) prot n _ hl HM.out.1).mono ?_
  rintro e w' ⟨rfl, hW, hK⟩
  go_wp2
  go_end0
  exact ⟨rfl, hW, HM.out.2.trans hK⟩
end
section
open Go.RowKit
theorem xE6 (x0 : Int) (x1 : Int) : enR zB1 (x0, x1) = (((enN x0).1 ++ (enN x1).1), ((enN x0).2 || (enN x1).2)) := rfl
theorem xQ7 (x0 : Int) (x1 : Int) : szb zB1 (x0, x1) = 6 + (6) := rfl
theorem yU6 (v0 : List (Vl .num)) (v1 : List (Vl .num)) : enR zB5 (v0, v1) = (((enR (.lst .num) v0).1 ++ (enR (.lst .num) v1).1), ((enR (.lst .num) v0).2 || (enR (.lst .num) v1).2)) := rfl
theorem xH3 (v0 : List (Vl .num)) (v1 : List (Vl .num)) : szb zB5 (v0, v1) = szb (.lst .num) v0 + (szb (.lst .num) v1) := rfl
theorem yK7 (x0 : Int) (x1 : Int) (x2 : Int) (x3 : Int) (x4 : Int) (x5 : Int) (x6 : Int) (v7 : Vl zB1) (x8 : Bool) (x9 : Int) : enR zA6 (x0, x1, x2, x3, x4, x5, x6, v7, x8, x9) = (((enN x0).1 ++ ((enN x1).1 ++ ((enN x2).1 ++ ((enN x3).1 ++ ((enN x4).1 ++ ((enN x5).1 ++ ((enN x6).1 ++ ((enR zB1 v7).1 ++ ((enR .tru x8).1 ++ (enN x9).1))))))))), ((enN x0).2 || ((enN x1).2 || ((enN x2).2 || ((enN x3).2 || ((enN x4).2 || ((enN x5).2 || ((enN x6).2 || ((enR zB1 v7).2 || ((enR .tru x8).2 || (enN x9).2)))))))))) := rfl
theorem xA0 (x0 : Int) (x1 : Int) (x2 : Int) (x3 : Int) (x4 : Int) (x5 : Int) (x6 : Int) (v7 : Vl zB1) (x8 : Bool) (x9 : Int) : szb zA6 (x0, x1, x2, x3, x4, x5, x6, v7, x8, x9) = 6 + (6 + (6 + (6 + (6 + (6 + (6 + (szb zB1 v7 + (6 + (6))))))))) := rfl
theorem yY0 (x0 : Int) (x1 : Int) : enR zA3 (x0, x1) = (((enN x0).1 ++ (enN x1).1), ((enN x0).2 || (enN x1).2)) := rfl
theorem yV8 (x0 : Int) (x1 : Int) : szb zA3 (x0, x1) = 6 + (6) := rfl
theorem xE8 (x0 : Int) (v1 : Vl zB1) : enR zA5 (x0, v1) = (((enN x0).1 ++ (enR zB1 v1).1), ((enN x0).2 || (enR zB1 v1).2)) := rfl
theorem yZ8 (x0 : Int) (v1 : Vl zB1) : szb zA5 (x0, v1) = 6 + (szb zB1 v1) := rfl
theorem xE7 (x0 : Int) (x1 : Int) (x2 : Int) (x3 : Int) (v4 : List (Vl zA5)) (x5 : Int) (x6 : Bool) : enR zB9 (x0, x1, x2, x3, v4, x5, x6) = (((enN x0).1 ++ ((enN x1).1 ++ ((enN x2).1 ++ ((enN x3).1 ++ ((enR (.lst zA5) v4).1 ++ ((enN x5).1 ++ (enR .tru x6).1)))))), ((enN x0).2 || ((enN x1).2 || ((enN x2).2 || ((enN x3).2 || ((enR (.lst zA5) v4).2 || ((enN x5).2 || (enR .tru x6).2))))))) := rfl
theorem xQ8 (x0 : Int) (x1 : Int) (x2 : Int) (x3 : Int) (v4 : List (Vl zA5)) (x5 : Int) (x6 : Bool) : szb zB9 (x0, x1, x2, x3, v4, x5, x6) = 6 + (6 + (6 + (6 + (szb (.lst zA5) v4 + (6 + (6)))))) := rfl
theorem yU5 (x0 : Int) (v1 : Vl zB1) (x2 : Bool) (x3 : Bool) (x4 : Int) (x5 : Int) (x6 : Int) : enR zB4 (x0, v1, x2, x3, x4, x5, x6) = (((enN x0).1 ++ ((enR zB1 v1).1 ++ ((enR .tru x2).1 ++ ((enR .tru x3).1 ++ ((enN x4).1 ++ ((enN x5).1 ++ (enN x6).1)))))), ((enN x0).2 || ((enR zB1 v1).2 || ((enR .tru x2).2 || ((enR .tru x3).2 || ((enN x4).2 || ((enN x5).2 || (enN x6).2))))))) := rfl
theorem xH1 (x0 : Int) (v1 : Vl zB1) (x2 : Bool) (x3 : Bool) (x4 : Int) (x5 : Int) (x6 : Int) : szb zB4 (x0, v1, x2, x3, x4, x5, x6) = 6 + (szb zB1 v1 + (6 + (6 + (6 + (6 + (6)))))) := rfl
theorem yU4 (x0 : Int) (x1 : Int) (x2 : Int) (v3 : List (Vl .num)) (v4 : List (Vl zA6)) (x5 : Bool) : enR zC0 (x0, x1, x2, v3, v4, x5) = (((enN x0).1 ++ ((enN x1).1 ++ ((enN x2).1 ++ ((enR (.lst .num) v3).1 ++ ((enR (.lst zA6) v4).1 ++ (enR .tru x5).1))))), ((enN x0).2 || ((enN x1).2 || ((enN x2).2 || ((enR (.lst .num) v3).2 || ((enR (.lst zA6) v4).2 || (enR .tru x5).2)))))) := rfl
theorem xH0 (x0 : Int) (x1 : Int) (x2 : Int) (v3 : List (Vl .num)) (v4 : List (Vl zA6)) (x5 : Bool) : szb zC0 (x0, x1, x2, v3, v4, x5) = 6 + (6 + (6 + (szb (.lst .num) v3 + (szb (.lst zA6) v4 + (6))))) := rfl
theorem xE9 (x0 : Int) (x1 : Int) (x2 : Int) (v3 : Vl zB9) (v4 : Vl zB4) (v5 : List (Vl zA3)) (v6 : Vl zC0) (v7 : Vl zB5) : enR zD2 (x0, x1, x2, v3, v4, v5, v6, v7) = (((enN x0).1 ++ ((enN x1).1 ++ ((enN x2).1 ++ ((enR zB9 v3).1 ++ ((enR zB4 v4).1 ++ ((enR (.lst zA3) v5).1 ++ ((enR zC0 v6).1 ++ (enR zB5 v7).1))))))), ((enN x0).2 || ((enN x1).2 || ((enN x2).2 || ((enR zB9 v3).2 || ((enR zB4 v4).2 || ((enR (.lst zA3) v5).2 || ((enR zC0 v6).2 || (enR zB5 v7).2)))))))) := rfl
theorem xQ9 (x0 : Int) (x1 : Int) (x2 : Int) (v3 : Vl zB9) (v4 : Vl zB4) (v5 : List (Vl zA3)) (v6 : Vl zC0) (v7 : Vl zB5) : szb zD2 (x0, x1, x2, v3, v4, v5, v6, v7) = 6 + (6 + (6 + (szb zB9 v3 + (szb zB4 v4 + (szb (.lst zA3) v5 + (szb zC0 v6 + (szb zB5 v7))))))) := rfl
theorem yK6 (x0 : Int) (x1 : Int) (v2 : Vl zD2) : enR zA8 (x0, x1, v2) = (((enN x0).1 ++ ((enN x1).1 ++ (enR zD2 v2).1)), ((enN x0).2 || ((enN x1).2 || (enR zD2 v2).2))) := rfl
theorem yZ9 (x0 : Int) (x1 : Int) (v2 : Vl zD2) : szb zA8 (x0, x1, v2) = 6 + (6 + (szb zD2 v2)) := rfl
theorem zV1 (x0 : Int) (x1 : Int) (v2 : Vl zB5) (v3 : List UInt8) : enR zA2 (x0, x1, v2, v3) = (((enN x0).1 ++ ((enN x1).1 ++ ((enR zB5 v2).1 ++ (enR .byt v3).1))), ((enN x0).2 || ((enN x1).2 || ((enR zB5 v2).2 || (enR .byt v3).2)))) := rfl
theorem yI3 (x0 : Int) (x1 : Int) (v2 : Vl zB5) (v3 : List UInt8) : szb zA2 (x0, x1, v2, v3) = 6 + (6 + (szb zB5 v2 + (szb .byt v3))) := rfl
end
end Go.Proofs.YtocoimjhglackaaGreat
