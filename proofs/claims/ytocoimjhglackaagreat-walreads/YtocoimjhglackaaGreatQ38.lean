/- Ic -/
import Derived.Test.YtocoimjhglackaaGreatQ37
set_option maxHeartbeats 8000000
set_option maxRecDepth 100000
namespace Go.Proofs.YtocoimjhglackaaGreat
section
open Go.RowKit
def RecO (D : Nat) (w : World) (p : Nat) (f : Fm) (l : List UInt8) (bad : Bool) (e : Ending) (w' : World) : Prop := ∃ (cs : List Value) (v : Vl f), e = .returned (.agg cs.toArray) /\ Rep w' (NB w w') f cs v /\ OutI D w p f l bad v w'
def LstO (D : Nat) (w : World) (p : Nat) (f : Fm) (l : List UInt8) (bad : Bool) (e : Ending) (w' : World) : Prop := ∃ (a : Option Addr) (c : Nat) (vs : List (Vl f)), e = .returned (.slice a vs.length c) /\ RepL w' (NB w w') f a vs /\ OutI D w p (.lst f) l bad vs w'
structure RQ (w w' : World) (p q : Nat) : Prop where
 os : w'.os = w.os
 tape : w'.tape = w.tape
 output : w'.output = w.output
 size : w.heap.size <= w'.heap.size
 block : ∀ k, k < w.heap.size -> k ≠ p -> k ≠ q -> w'.heap[k]? = w.heap[k]?
theorem RS.rq {w w' : World} {p q : Nat} (h : RS w w' p) : RQ w w' p q := ⟨h.os, h.tape, h.output, h.size, fun k a b _ => h.block k a b⟩
theorem RQ.rs {w w' : World} {p : Nat} (h : RQ w w' p p) : RS w w' p := ⟨h.os, h.tape, h.output, h.size, fun k a b => h.block k a b b⟩
def yR2 (D : Nat) (w : World) (p q : Nat) (f : Fm) (E size k : Nat) (l1 : List UInt8) (b1 : Bool) (v : Value) (wr : World) : Prop :=
 ∃ (xs : List Value) (vs : List (Vl f)) (lk : List UInt8) (bk : Bool), wr.ownsRow w.heap.size E size v k xs /\ RQ w wr p q /\ RI D wr p lk bk /\ RdN f k l1 b1 vs lk bk /\ zE0 w wr f v xs vs
theorem xS0 {D : Nat} (p : Nat) (l : List UInt8) (bad : Bool) (w : World) (h : RI D w p l bad) : Calls Tryz.prog 160 #[.pointer (some ⟨p, 0, none⟩)] w fun e w' => RecO D w p zB1 l bad e w' := by
 have hB0 : Below w.heap.size w (w.alloc (.cells #[.int .i64 0, .int .i64 0] 63)) := (Below.refl _ _).alloc (Nat.le_refl _) _
 have h0 : RI D (w.alloc (.cells #[.int .i64 0, .int .i64 0] 63)) p l bad := h.ext hB0 h.1 h.2.1
 have s0 : RS w (w.alloc (.cells #[.int .i64 0, .int .i64 0] 63)) p := (RS.refl _ _).alloc _
 have g0 : Hid ((w.alloc (.cells #[.int .i64 0, .int .i64 0] 63)).heap[w.heap.size]? = some (.cells #[.int .i64 0, .int .i64 0] 63 (0, 0))) := heap_alloc_new w _
 have z0 : w.heap.size < (w.alloc (.cells #[.int .i64 0, .int .i64 0] 63)).heap.size := by rw [World.size_alloc]; omega
 have hpq : Hid (p ≠ w.heap.size) := by have := h.1; show p ≠ _; omega
 have hDq : Hid (p < w.heap.size /\ D <= w.heap.size) := ⟨h.1, h.2.1⟩
 clear h hB0
 go_enter Tryz.func160, Tryz.ntmps160
 go_wp2_with fail
 refine (zF5 p _ _ _ h0).mono ?_
 rintro e w1 ⟨m0, rfl, _, l1, b1, rd1, h1, t1⟩
 have RD1 := hidI rd1
 clear rd1
 have s1 := s0.trans t1
 have g1 : Hid (w1.heap[w.heap.size]? = some (.cells #[.int .i64 0, .int .i64 0] 63 (0, 0))) := (t1.block _ z0 hpq.out.symm).trans g0.out
 have z1 : w.heap.size < w1.heap.size := Nat.lt_of_lt_of_le z0 t1.size
 clear h0 t1 s0 g0 z0
 go_wp2_with fail
 refine (zF5 p _ _ _ h1).mono ?_
 rintro e w2 ⟨m1, rfl, _, l2, b2, rd2, h2, t2⟩
 have RD2 := hidI rd2
 clear rd2
 have s2 := s1.trans t2
 have g2 : Hid (w2.heap[w.heap.size]? = some (.cells #[.int .i64 0, .int .i64 0] 63 (0, 0))) := (t2.block _ z1 hpq.out.symm).trans g1.out
 have z2 : w.heap.size < w2.heap.size := Nat.lt_of_lt_of_le z1 t2.size
 clear h1 t2 s1 g1 z1
 have I0 : Hid ((Tryz.prog.info? 63).map (·.size) = some (#[.int .i64 m0, .int .i64 m1] : Array Value).size) := by show _ = _; kernel_rfl
 have REP : Hid (Rep w2 (NBr (w.heap.size + 1) w2) zB1 [.int .i64 m0, .int .i64 m1] (m0, m1)) := by
  exact xC6 m0 m1
 have O0 : Hid ((#[.int .i64 m0, .int .i64 m1] : Array Value).all (·.oneCell') = true) := REP.out.all
 have RDA : Hid (Rd zB1 l bad (m0, m1) l2 b2) := (Rd.cat RD1.out RD2.out)
 go_wp2_with (refine wpList_store_row rfl 63 (.tmp 2) (.tmp 7) rfl w.heap.size #[.int .i64 m0, .int .i64 m1] rfl rfl 63 #[.int .i64 0, .int .i64 0] g2.out I0.out rfl O0.out ?_)
 refine bodyPost_ret (v := .agg #[.int .i64 m0, .int .i64 m1]) ?_ rfl ⟨[.int .i64 m0, .int .i64 m1], _, rfl, ?_, l2, b2, RDA.out, ?_, ?_⟩
 · refine results_cell_row Tryz.results160 _ _ w.heap.size 63 _ (0, 0) _ ?_ (setRow_heap w2 w.heap.size _ _ 63 _ g2.out) Tryz.underlying63 rfl I0.out
   rfl
 · exact REP.out.keptN (by simp [World.setRow]) (fun b h1 h2 => setRow_other _ _ _ _ (by omega)) (Nat.le_succ _)
 · exact h2.ext ⟨rfl, rfl, rfl, by simp [World.setRow], fun k hk => setRow_other _ _ _ _ (by omega)⟩ hDq.out.1 hDq.out.2
 · exact s2.setRow (Nat.le_refl _) _
theorem xC2 {D : Nat} (p : Nat) (l : List UInt8) (bad : Bool) (w : World) (h : RI D w p l bad) : Calls Tryz.prog 133 #[.pointer (some ⟨p, 0, none⟩)] w fun e w' => LstO D w p .num l bad e w' := by
 obtain ⟨i0, hi, hz0, hz1, hz2⟩ := info_parts yC8
 have hp0 := h.1
 have hD0 := h.2.1
 go_enter Tryz.func133, Tryz.ntmps133
 go_wp2_with fail
 refine (yH0 p l bad w h).mono ?_
 rintro e w1 ⟨N, l1, b1, rfl, hN, hcn, r1, s1⟩
 have HC := hidI hcn
 clear hcn
 go_wp2
 go_loopw [4, 5] (fun v i wr => ∃ k : Nat, k <= N /\ i = .int .i64 k /\ yR2 D w p p .num 3 1 k l1 b1 v wr) (fun _ i _ => N - (intOf i).toNat)
 case atStart => exact ⟨0, Nat.zero_le _, rfl, [], [], l1, b1, World.ownsRow_nil _ _ _ _, s1.rq, r1, RdN.zero _ _ _, zE0.nil _ _ _ _⟩
 case round =>
  obtain ⟨k, hk, rfl, xs, vs, lk, bk, ok, sk, rk, rdk, hel⟩ := hrel
  have RDK := hidI rdk
  have HEL := hidI hel
  clear rdk hel
  by_cases hlt : k < N
  · go_wp2_with fail
    refine (zF5 p _ _ wr rk).mono ?_
    rintro e w2 ⟨m, rfl, _, l2, b2, rd2, r2, t2⟩
    have hx : Rep w2 (NB wr w2) .num [.int .i64 m] m := rfl
    have sk2 : RS w w2 p := sk.rs.trans t2
    have ok2 := zF8 ok t2 hp0
    have HEL2 := hidI (HEL.out.rs t2 hp0)
    have HVL : Hid (∀ q, u4.ownBlock = some q -> q < wr.heap.size) := fun q hq => (ok.lt q hq).2
    have HWR : Hid (w.heap.size <= wr.heap.size) := sk.size
    have HX := hidI hx
    have O1 : Hid (∀ u ∈ (#[.int .i64 m] : Array Value).toList, u.oneCell' = true) := hx.one
    have HB2 : Hid (Below w2.heap.size w2 (w2.alloc (.cells #[.int .i64 m] 3))) := (Below.refl _ _).alloc (Nat.le_refl _) _
    have HRD := hidI (RDK.out.more rd2)
    clear t2 rk ok sk hx rd2
    go_wp2_with (at_builtin; refine zD5 _ rfl (.tmp 13) (.tmp 16) 32 rfl w.heap.size 3 i0 (.int .i64 0) 1 8 Tryz.underlying32 hi hz0 hz1 hz2 rfl (by decide) _ _ _ rfl (ok2.alloc _) ⟨w2.heap.size, 0, none⟩ 1 1 (#[.int .i64 m] : Array Value).toList rfl rfl (fun j u hj => zF1 w2 _ _ j u hj) O1.out ?c3 ?c4 ?c5 ?next)
    case c3 => unfold maxLen; omega
    case c4 => omega
    case c5 => have := sk2.size; rw [World.size_alloc]; omega
    case next =>
     intro v3 w3 ho3 hg3 hw3
     have HEL3 := hidI (HEL2.out.more HX.out HWR.out HVL.out HB2.out hg3 (by rw [World.size_alloc]; exact hw3))
     have hB3 : Below w.heap.size w2 w3 := ((Below.refl _ _).alloc sk2.size _).grown hg3 (by have := sk2.size; rw [World.size_alloc]; omega) (fun j hj => (ok2.lt j hj).1)
     have r3 := r2.ext hB3 hp0 hD0
     have s3 : RQ w w3 p p := (sk2.ext hB3).rq
     have LJ := hidI (show yR2 D w p p .num 3 1 (k + 1) l1 b1 v3 w3 from ⟨_, _, _, _, ho3, s3, r3, HRD.out, HEL3.out⟩)
     clear hg3 r2 sk2 ok2 hB3 hw3 ho3 r3 s3 HEL3
     go_wp2
     exact ⟨⟨k + 1, by omega, by go_num, LJ.out⟩, by simp [intOf]; omega⟩
  · have hkN : k = N := by omega
    subst hkN
    have hvl := RDK.out.1
    obtain ⟨va, vc, hv, hrl⟩ : ∃ va vc, u4 = Value.slice va k vc /\ RepL wr (NB w wr) .num va vs := by
     have := zE0.done (e := 3) HEL.out (by rw [hvl]; exact ok) (by rw [hvl]; omega)
     rwa [hvl] at this
    subst hv
    have FIN : Hid (LstO D w p .num l bad (.returned (.slice va k vc)) wr) := ⟨va, vc, vs, by rw [hvl], hrl, lk, bk, RdN.lst hN HC.out RDK.out, rk, sk.rs⟩
    clear rk ok hrl hvl
    go_wp2
    go_ret
    exact FIN.out
theorem xP5 {D : Nat} (p : Nat) (l : List UInt8) (bad : Bool) (w : World) (h : RI D w p l bad) : Calls Tryz.prog 105 #[.pointer (some ⟨p, 0, none⟩)] w fun e w' => RecO D w p zB5 l bad e w' := by
 have hB0 : Below w.heap.size w (w.alloc (.cells #[.slice none 0 0, .slice none 0 0] 34)) := (Below.refl _ _).alloc (Nat.le_refl _) _
 have h0 : RI D (w.alloc (.cells #[.slice none 0 0, .slice none 0 0] 34)) p l bad := h.ext hB0 h.1 h.2.1
 have s0 : RS w (w.alloc (.cells #[.slice none 0 0, .slice none 0 0] 34)) p := (RS.refl _ _).alloc _
 have g0 : Hid ((w.alloc (.cells #[.slice none 0 0, .slice none 0 0] 34)).heap[w.heap.size]? = some (.cells #[.slice none 0 0, .slice none 0 0] 34 (0, 0))) := heap_alloc_new w _
 have z0 : w.heap.size < (w.alloc (.cells #[.slice none 0 0, .slice none 0 0] 34)).heap.size := by rw [World.size_alloc]; omega
 have hpq : Hid (p ≠ w.heap.size) := by have := h.1; show p ≠ _; omega
 have hDq : Hid (p < w.heap.size /\ D <= w.heap.size) := ⟨h.1, h.2.1⟩
 clear h hB0
 go_enter Tryz.func105, Tryz.ntmps105
 go_wp2_with fail
 refine (xC2 p _ _ _ h0).mono ?_
 rintro e w1 ⟨a0, c0, v0, rfl, q0, l1, b1, rd1, h1, t1⟩
 have RD1 := hidI rd1
 clear rd1
 have Q0 := hidI (q0.keptN (lo' := w.heap.size + 1) (Nat.le_refl _) (fun _ _ _ => rfl) z0)
 clear q0
 have s1 := s0.trans t1
 have g1 : Hid (w1.heap[w.heap.size]? = some (.cells #[.slice none 0 0, .slice none 0 0] 34 (0, 0))) := (t1.block _ z0 hpq.out.symm).trans g0.out
 have z1 : w.heap.size < w1.heap.size := Nat.lt_of_lt_of_le z0 t1.size
 clear h0 t1 s0 g0 z0
 go_wp2_with fail
 refine (xC2 p _ _ _ h1).mono ?_
 rintro e w2 ⟨a1, c1, v1, rfl, q1, l2, b2, rd2, h2, t2⟩
 have RD2 := hidI rd2
 clear rd2
 replace Q0 := hidI (Q0.out.keptN (lo' := w.heap.size + 1) t2.size (fun b h1 h2 => t2.block b h2 (by have := hDq.out.1; omega)) (Nat.le_refl _))
 have Q1 := hidI (q1.keptN (lo' := w.heap.size + 1) (Nat.le_refl _) (fun _ _ _ => rfl) z1)
 clear q1
 have s2 := s1.trans t2
 have g2 : Hid (w2.heap[w.heap.size]? = some (.cells #[.slice none 0 0, .slice none 0 0] 34 (0, 0))) := (t2.block _ z1 hpq.out.symm).trans g1.out
 have z2 : w.heap.size < w2.heap.size := Nat.lt_of_lt_of_le z1 t2.size
 clear h1 t2 s1 g1 z1
 have I0 : Hid ((Tryz.prog.info? 34).map (·.size) = some (#[.slice a0 v0.length c0, .slice a1 v1.length c1] : Array Value).size) := by show _ = _; kernel_rfl
 have REP : Hid (Rep w2 (NBr (w.heap.size + 1) w2) zB5 [.slice a0 v0.length c0, .slice a1 v1.length c1] (v0, v1)) := by
  exact yO8 a0 c0 v0 a1 c1 v1 Q0.out Q1.out
 have O0 : Hid ((#[.slice a0 v0.length c0, .slice a1 v1.length c1] : Array Value).all (·.oneCell') = true) := REP.out.all
 have RDA : Hid (Rd zB5 l bad (v0, v1) l2 b2) := (Rd.cat RD1.out RD2.out)
 go_wp2_with (refine wpList_store_row rfl 34 (.tmp 2) (.tmp 7) rfl w.heap.size #[.slice a0 v0.length c0, .slice a1 v1.length c1] rfl rfl 34 #[.slice none 0 0, .slice none 0 0] g2.out I0.out rfl O0.out ?_)
 refine bodyPost_ret (v := .agg #[.slice a0 v0.length c0, .slice a1 v1.length c1]) ?_ rfl ⟨[.slice a0 v0.length c0, .slice a1 v1.length c1], _, rfl, ?_, l2, b2, RDA.out, ?_, ?_⟩
 · refine results_cell_row Tryz.results105 _ _ w.heap.size 34 _ (0, 0) _ ?_ (setRow_heap w2 w.heap.size _ _ 34 _ g2.out) Tryz.underlying34 rfl I0.out
   rfl
 · exact REP.out.keptN (by simp [World.setRow]) (fun b h1 h2 => setRow_other _ _ _ _ (by omega)) (Nat.le_succ _)
 · exact h2.ext ⟨rfl, rfl, rfl, by simp [World.setRow], fun k hk => setRow_other _ _ _ _ (by omega)⟩ hDq.out.1 hDq.out.2
 · exact s2.setRow (Nat.le_refl _) _
theorem xW6 {D : Nat} (p : Nat) (l : List UInt8) (bad : Bool) (w : World) (h : RI D w p l bad) : Calls Tryz.prog 191 #[.pointer (some ⟨p, 0, none⟩)] w fun e w' => RecO D w p zA6 l bad e w' := by
 have hB0 : Below w.heap.size w (w.alloc (.cells #[.int .i64 0, .int .i64 0, .int .i64 0, .int .i64 0, .int .i64 0, .int .i64 0, .int .i64 0, .int .i64 0, .int .i64 0, .bool false, .int .i64 0] 227)) := (Below.refl _ _).alloc (Nat.le_refl _) _
 have h0 : RI D (w.alloc (.cells #[.int .i64 0, .int .i64 0, .int .i64 0, .int .i64 0, .int .i64 0, .int .i64 0, .int .i64 0, .int .i64 0, .int .i64 0, .bool false, .int .i64 0] 227)) p l bad := h.ext hB0 h.1 h.2.1
 have s0 : RS w (w.alloc (.cells #[.int .i64 0, .int .i64 0, .int .i64 0, .int .i64 0, .int .i64 0, .int .i64 0, .int .i64 0, .int .i64 0, .int .i64 0, .bool false, .int .i64 0] 227)) p := (RS.refl _ _).alloc _
 have g0 : Hid ((w.alloc (.cells #[.int .i64 0, .int .i64 0, .int .i64 0, .int .i64 0, .int .i64 0, .int .i64 0, .int .i64 0, .int .i64 0, .int .i64 0, .bool false, .int .i64 0] 227)).heap[w.heap.size]? = some (.cells #[.int .i64 0, .int .i64 0, .int .i64 0, .int .i64 0, .int .i64 0, .int .i64 0, .int .i64 0, .int .i64 0, .int .i64 0, .bool false, .int .i64 0] 227 (0, 0))) := heap_alloc_new w _
 have z0 : w.heap.size < (w.alloc (.cells #[.int .i64 0, .int .i64 0, .int .i64 0, .int .i64 0, .int .i64 0, .int .i64 0, .int .i64 0, .int .i64 0, .int .i64 0, .bool false, .int .i64 0] 227)).heap.size := by rw [World.size_alloc]; omega
 have hpq : Hid (p ≠ w.heap.size) := by have := h.1; show p ≠ _; omega
 have hDq : Hid (p < w.heap.size /\ D <= w.heap.size) := ⟨h.1, h.2.1⟩
 clear h hB0
 go_enter Tryz.func191, Tryz.ntmps191
 go_wp2_with fail
 refine (zF5 p _ _ _ h0).mono ?_
 rintro e w1 ⟨m0, rfl, _, l1, b1, rd1, h1, t1⟩
 have RD1 := hidI rd1
 clear rd1
 have s1 := s0.trans t1
 have g1 : Hid (w1.heap[w.heap.size]? = some (.cells #[.int .i64 0, .int .i64 0, .int .i64 0, .int .i64 0, .int .i64 0, .int .i64 0, .int .i64 0, .int .i64 0, .int .i64 0, .bool false, .int .i64 0] 227 (0, 0))) := (t1.block _ z0 hpq.out.symm).trans g0.out
 have z1 : w.heap.size < w1.heap.size := Nat.lt_of_lt_of_le z0 t1.size
 clear h0 t1 s0 g0 z0
 go_wp2_with fail
 refine (zF5 p _ _ _ h1).mono ?_
 rintro e w2 ⟨m1, rfl, _, l2, b2, rd2, h2, t2⟩
 have RD2 := hidI rd2
 clear rd2
 have s2 := s1.trans t2
 have g2 : Hid (w2.heap[w.heap.size]? = some (.cells #[.int .i64 0, .int .i64 0, .int .i64 0, .int .i64 0, .int .i64 0, .int .i64 0, .int .i64 0, .int .i64 0, .int .i64 0, .bool false, .int .i64 0] 227 (0, 0))) := (t2.block _ z1 hpq.out.symm).trans g1.out
 have z2 : w.heap.size < w2.heap.size := Nat.lt_of_lt_of_le z1 t2.size
 clear h1 t2 s1 g1 z1
 go_wp2_with fail
 refine (zF5 p _ _ _ h2).mono ?_
 rintro e w3 ⟨m2, rfl, _, l3, b3, rd3, h3, t3⟩
 have RD3 := hidI rd3
 clear rd3
 have s3 := s2.trans t3
 have g3 : Hid (w3.heap[w.heap.size]? = some (.cells #[.int .i64 0, .int .i64 0, .int .i64 0, .int .i64 0, .int .i64 0, .int .i64 0, .int .i64 0, .int .i64 0, .int .i64 0, .bool false, .int .i64 0] 227 (0, 0))) := (t3.block _ z2 hpq.out.symm).trans g2.out
 have z3 : w.heap.size < w3.heap.size := Nat.lt_of_lt_of_le z2 t3.size
 clear h2 t3 s2 g2 z2
 go_wp2_with fail
 refine (zF5 p _ _ _ h3).mono ?_
 rintro e w4 ⟨m3, rfl, _, l4, b4, rd4, h4, t4⟩
 have RD4 := hidI rd4
 clear rd4
 have s4 := s3.trans t4
 have g4 : Hid (w4.heap[w.heap.size]? = some (.cells #[.int .i64 0, .int .i64 0, .int .i64 0, .int .i64 0, .int .i64 0, .int .i64 0, .int .i64 0, .int .i64 0, .int .i64 0, .bool false, .int .i64 0] 227 (0, 0))) := (t4.block _ z3 hpq.out.symm).trans g3.out
 have z4 : w.heap.size < w4.heap.size := Nat.lt_of_lt_of_le z3 t4.size
 clear h3 t4 s3 g3 z3
 go_wp2_with fail
 refine (zF5 p _ _ _ h4).mono ?_
 rintro e w5 ⟨m4, rfl, _, l5, b5, rd5, h5, t5⟩
 have RD5 := hidI rd5
 clear rd5
 have s5 := s4.trans t5
 have g5 : Hid (w5.heap[w.heap.size]? = some (.cells #[.int .i64 0, .int .i64 0, .int .i64 0, .int .i64 0, .int .i64 0, .int .i64 0, .int .i64 0, .int .i64 0, .int .i64 0, .bool false, .int .i64 0] 227 (0, 0))) := (t5.block _ z4 hpq.out.symm).trans g4.out
 have z5 : w.heap.size < w5.heap.size := Nat.lt_of_lt_of_le z4 t5.size
 clear h4 t5 s4 g4 z4
 go_wp2_with fail
 refine (zF5 p _ _ _ h5).mono ?_
 rintro e w6 ⟨m5, rfl, _, l6, b6, rd6, h6, t6⟩
 have RD6 := hidI rd6
 clear rd6
 have s6 := s5.trans t6
 have g6 : Hid (w6.heap[w.heap.size]? = some (.cells #[.int .i64 0, .int .i64 0, .int .i64 0, .int .i64 0, .int .i64 0, .int .i64 0, .int .i64 0, .int .i64 0, .int .i64 0, .bool false, .int .i64 0] 227 (0, 0))) := (t6.block _ z5 hpq.out.symm).trans g5.out
 have z6 : w.heap.size < w6.heap.size := Nat.lt_of_lt_of_le z5 t6.size
 clear h5 t6 s5 g5 z5
 go_wp2_with fail
 refine (zF5 p _ _ _ h6).mono ?_
 rintro e w7 ⟨m6, rfl, _, l7, b7, rd7, h7, t7⟩
 have RD7 := hidI rd7
 clear rd7
 have s7 := s6.trans t7
 have g7 : Hid (w7.heap[w.heap.size]? = some (.cells #[.int .i64 0, .int .i64 0, .int .i64 0, .int .i64 0, .int .i64 0, .int .i64 0, .int .i64 0, .int .i64 0, .int .i64 0, .bool false, .int .i64 0] 227 (0, 0))) := (t7.block _ z6 hpq.out.symm).trans g6.out
 have z7 : w.heap.size < w7.heap.size := Nat.lt_of_lt_of_le z6 t7.size
 clear h6 t7 s6 g6 z6
 go_wp2_with fail
 refine (xS0 p _ _ _ h7).mono ?_
 rintro e w8 ⟨cs7, v7, rfl, q7, l8, b8, rd8, h8, t8⟩
 have RD8 := hidI rd8
 clear rd8
 obtain ⟨y7_0, y7_1, rfl⟩ := zD9 cs7 q7.len
 have Q7 := hidI (q7.keptN (lo' := w.heap.size + 1) (Nat.le_refl _) (fun _ _ _ => rfl) z7)
 clear q7
 have s8 := s7.trans t8
 have g8 : Hid (w8.heap[w.heap.size]? = some (.cells #[.int .i64 0, .int .i64 0, .int .i64 0, .int .i64 0, .int .i64 0, .int .i64 0, .int .i64 0, .int .i64 0, .int .i64 0, .bool false, .int .i64 0] 227 (0, 0))) := (t8.block _ z7 hpq.out.symm).trans g7.out
 have z8 : w.heap.size < w8.heap.size := Nat.lt_of_lt_of_le z7 t8.size
 clear h7 t8 s7 g7 z7
 go_wp2_with fail
 refine (yK4 p _ _ _ h8).mono ?_
 rintro e w9 ⟨m8, rfl, l9, b9, rd9, h9, t9⟩
 have RD9 := hidI rd9
 clear rd9
 replace Q7 := hidI (Q7.out.keptN (lo' := w.heap.size + 1) t9.size (fun b h1 h2 => t9.block b h2 (by have := hDq.out.1; omega)) (Nat.le_refl _))
 have s9 := s8.trans t9
 have g9 : Hid (w9.heap[w.heap.size]? = some (.cells #[.int .i64 0, .int .i64 0, .int .i64 0, .int .i64 0, .int .i64 0, .int .i64 0, .int .i64 0, .int .i64 0, .int .i64 0, .bool false, .int .i64 0] 227 (0, 0))) := (t9.block _ z8 hpq.out.symm).trans g8.out
 have z9 : w.heap.size < w9.heap.size := Nat.lt_of_lt_of_le z8 t9.size
 clear h8 t9 s8 g8 z8
 go_wp2_with fail
 refine (zF5 p _ _ _ h9).mono ?_
 rintro e w10 ⟨m9, rfl, _, l10, b10, rd10, h10, t10⟩
 have RD10 := hidI rd10
 clear rd10
 replace Q7 := hidI (Q7.out.keptN (lo' := w.heap.size + 1) t10.size (fun b h1 h2 => t10.block b h2 (by have := hDq.out.1; omega)) (Nat.le_refl _))
 have s10 := s9.trans t10
 have g10 : Hid (w10.heap[w.heap.size]? = some (.cells #[.int .i64 0, .int .i64 0, .int .i64 0, .int .i64 0, .int .i64 0, .int .i64 0, .int .i64 0, .int .i64 0, .int .i64 0, .bool false, .int .i64 0] 227 (0, 0))) := (t10.block _ z9 hpq.out.symm).trans g9.out
 have z10 : w.heap.size < w10.heap.size := Nat.lt_of_lt_of_le z9 t10.size
 clear h9 t10 s9 g9 z9
 have I0 : Hid ((Tryz.prog.info? 227).map (·.size) = some (#[.int .i64 m0, .int .i64 m1, .int .i64 m2, .int .i64 m3, .int .i64 m4, .int .i64 m5, .int .i64 m6, y7_0, y7_1, .bool m8, .int .i64 m9] : Array Value).size) := by show _ = _; kernel_rfl
 have REP : Hid (Rep w10 (NBr (w.heap.size + 1) w10) zA6 [.int .i64 m0, .int .i64 m1, .int .i64 m2, .int .i64 m3, .int .i64 m4, .int .i64 m5, .int .i64 m6, y7_0, y7_1, .bool m8, .int .i64 m9] (m0, m1, m2, m3, m4, m5, m6, v7, m8, m9)) := by
  exact yT6 m0 m1 m2 m3 m4 m5 m6 y7_0 y7_1 v7 m8 m9 Q7.out
 have O0 : Hid ((#[.int .i64 m0, .int .i64 m1, .int .i64 m2, .int .i64 m3, .int .i64 m4, .int .i64 m5, .int .i64 m6, y7_0, y7_1, .bool m8, .int .i64 m9] : Array Value).all (·.oneCell') = true) := REP.out.all
 have RDA : Hid (Rd zA6 l bad (m0, m1, m2, m3, m4, m5, m6, v7, m8, m9) l10 b10) := (Rd.cat RD1.out (Rd.cat RD2.out (Rd.cat RD3.out (Rd.cat RD4.out (Rd.cat RD5.out (Rd.cat RD6.out (Rd.cat RD7.out (Rd.cat RD8.out (Rd.cat RD9.out RD10.out)))))))))
 go_wp2_with (refine wpList_store_row rfl 227 (.tmp 2) (.tmp 23) rfl w.heap.size #[.int .i64 m0, .int .i64 m1, .int .i64 m2, .int .i64 m3, .int .i64 m4, .int .i64 m5, .int .i64 m6, y7_0, y7_1, .bool m8, .int .i64 m9] rfl rfl 227 #[.int .i64 0, .int .i64 0, .int .i64 0, .int .i64 0, .int .i64 0, .int .i64 0, .int .i64 0, .int .i64 0, .int .i64 0, .bool false, .int .i64 0] g10.out I0.out rfl O0.out ?_)
 refine bodyPost_ret (v := .agg #[.int .i64 m0, .int .i64 m1, .int .i64 m2, .int .i64 m3, .int .i64 m4, .int .i64 m5, .int .i64 m6, y7_0, y7_1, .bool m8, .int .i64 m9]) ?_ rfl ⟨[.int .i64 m0, .int .i64 m1, .int .i64 m2, .int .i64 m3, .int .i64 m4, .int .i64 m5, .int .i64 m6, y7_0, y7_1, .bool m8, .int .i64 m9], _, rfl, ?_, l10, b10, RDA.out, ?_, ?_⟩
 · refine results_cell_row Tryz.results191 _ _ w.heap.size 227 _ (0, 0) _ ?_ (setRow_heap w10 w.heap.size _ _ 227 _ g10.out) Tryz.underlying227 rfl I0.out
   rfl
 · exact REP.out.keptN (by simp [World.setRow]) (fun b h1 h2 => setRow_other _ _ _ _ (by omega)) (Nat.le_succ _)
 · exact h10.ext ⟨rfl, rfl, rfl, by simp [World.setRow], fun k hk => setRow_other _ _ _ _ (by omega)⟩ hDq.out.1 hDq.out.2
 · exact s10.setRow (Nat.le_refl _) _
theorem xM3 {D : Nat} (p : Nat) (l : List UInt8) (bad : Bool) (w : World) (h : RI D w p l bad) : Calls Tryz.prog 162 #[.pointer (some ⟨p, 0, none⟩)] w fun e w' => LstO D w p zA6 l bad e w' := by
 obtain ⟨i0, hi, hz0, hz1, hz2⟩ := info_parts zU8
 have hp0 := h.1
 have hD0 := h.2.1
 go_enter Tryz.func162, Tryz.ntmps162
 go_wp2_with fail
 refine (yH0 p l bad w h).mono ?_
 rintro e w1 ⟨N, l1, b1, rfl, hN, hcn, r1, s1⟩
 have HC := hidI hcn
 clear hcn
 go_wp2
 go_loopw [4, 5] (fun v i wr => ∃ k : Nat, k <= N /\ i = .int .i64 k /\ yR2 D w p p zA6 227 11 k l1 b1 v wr) (fun _ i _ => N - (intOf i).toNat)
 case atStart => exact ⟨0, Nat.zero_le _, rfl, [], [], l1, b1, World.ownsRow_nil _ _ _ _, s1.rq, r1, RdN.zero _ _ _, zE0.nil _ _ _ _⟩
 case round =>
  obtain ⟨k, hk, rfl, xs, vs, lk, bk, ok, sk, rk, rdk, hel⟩ := hrel
  have RDK := hidI rdk
  have HEL := hidI hel
  clear rdk hel
  by_cases hlt : k < N
  · go_wp2_with fail
    refine (xW6 p _ _ wr rk).mono ?_
    rintro e w2 ⟨es, m, rfl, hx, l2, b2, rd2, r2, t2⟩
    obtain ⟨y0, y1, y2, y3, y4, y5, y6, y7, y8, y9, y10, rfl⟩ := yC7 es hx.len
    have sk2 : RS w w2 p := sk.rs.trans t2
    have ok2 := zF8 ok t2 hp0
    have HEL2 := hidI (HEL.out.rs t2 hp0)
    have HVL : Hid (∀ q, u4.ownBlock = some q -> q < wr.heap.size) := fun q hq => (ok.lt q hq).2
    have HWR : Hid (w.heap.size <= wr.heap.size) := sk.size
    have HX := hidI hx
    have O1 : Hid (∀ u ∈ (#[y0, y1, y2, y3, y4, y5, y6, y7, y8, y9, y10] : Array Value).toList, u.oneCell' = true) := hx.one
    have HB2 : Hid (Below w2.heap.size w2 (w2.alloc (.cells #[y0, y1, y2, y3, y4, y5, y6, y7, y8, y9, y10] 227))) := (Below.refl _ _).alloc (Nat.le_refl _) _
    have HRD := hidI (RDK.out.more rd2)
    clear t2 rk ok sk hx rd2
    go_wp2_with (at_builtin; refine zD5 _ rfl (.tmp 13) (.tmp 16) 67 rfl w.heap.size 227 i0 (.agg #[.int .i64 0, .int .i64 0, .int .i64 0, .int .i64 0, .int .i64 0, .int .i64 0, .int .i64 0, .int .i64 0, .int .i64 0, .bool false, .int .i64 0]) 11 88 Tryz.underlying67 hi hz0 hz1 hz2 rfl (by decide) _ _ _ rfl (ok2.alloc _) ⟨w2.heap.size, 0, none⟩ 1 1 (#[y0, y1, y2, y3, y4, y5, y6, y7, y8, y9, y10] : Array Value).toList rfl rfl (fun j u hj => zF1 w2 _ _ j u hj) O1.out ?c3 ?c4 ?c5 ?next)
    case c3 => unfold maxLen; omega
    case c4 => omega
    case c5 => have := sk2.size; rw [World.size_alloc]; omega
    case next =>
     intro v3 w3 ho3 hg3 hw3
     have HEL3 := hidI (HEL2.out.more HX.out HWR.out HVL.out HB2.out hg3 (by rw [World.size_alloc]; exact hw3))
     have hB3 : Below w.heap.size w2 w3 := ((Below.refl _ _).alloc sk2.size _).grown hg3 (by have := sk2.size; rw [World.size_alloc]; omega) (fun j hj => (ok2.lt j hj).1)
     have r3 := r2.ext hB3 hp0 hD0
     have s3 : RQ w w3 p p := (sk2.ext hB3).rq
     have LJ := hidI (show yR2 D w p p zA6 227 11 (k + 1) l1 b1 v3 w3 from ⟨_, _, _, _, ho3, s3, r3, HRD.out, HEL3.out⟩)
     clear hg3 r2 sk2 ok2 hB3 hw3 ho3 r3 s3 HEL3
     go_wp2
     exact ⟨⟨k + 1, by omega, by go_num, LJ.out⟩, by simp [intOf]; omega⟩
  · have hkN : k = N := by omega
    subst hkN
    have hvl := RDK.out.1
    obtain ⟨va, vc, hv, hrl⟩ : ∃ va vc, u4 = Value.slice va k vc /\ RepL wr (NB w wr) zA6 va vs := by
     have := zE0.done (e := 227) HEL.out (by rw [hvl]; exact ok) (by rw [hvl]; omega)
     rwa [hvl] at this
    subst hv
    have FIN : Hid (LstO D w p zA6 l bad (.returned (.slice va k vc)) wr) := ⟨va, vc, vs, by rw [hvl], hrl, lk, bk, RdN.lst hN HC.out RDK.out, rk, sk.rs⟩
    clear rk ok hrl hvl
    go_wp2
    go_ret
    exact FIN.out
theorem xZ3 {D : Nat} (p : Nat) (l : List UInt8) (bad : Bool) (w : World) (h : RI D w p l bad) : Calls Tryz.prog 130 #[.pointer (some ⟨p, 0, none⟩)] w fun e w' => RecO D w p zB4 l bad e w' := by
 have hB0 : Below w.heap.size w (w.alloc (.cells #[.int .i64 0, .int .i64 0, .int .i64 0, .bool false, .bool false, .int .i64 0, .int .i64 0, .int .i64 0] 65)) := (Below.refl _ _).alloc (Nat.le_refl _) _
 have h0 : RI D (w.alloc (.cells #[.int .i64 0, .int .i64 0, .int .i64 0, .bool false, .bool false, .int .i64 0, .int .i64 0, .int .i64 0] 65)) p l bad := h.ext hB0 h.1 h.2.1
 have s0 : RS w (w.alloc (.cells #[.int .i64 0, .int .i64 0, .int .i64 0, .bool false, .bool false, .int .i64 0, .int .i64 0, .int .i64 0] 65)) p := (RS.refl _ _).alloc _
 have g0 : Hid ((w.alloc (.cells #[.int .i64 0, .int .i64 0, .int .i64 0, .bool false, .bool false, .int .i64 0, .int .i64 0, .int .i64 0] 65)).heap[w.heap.size]? = some (.cells #[.int .i64 0, .int .i64 0, .int .i64 0, .bool false, .bool false, .int .i64 0, .int .i64 0, .int .i64 0] 65 (0, 0))) := heap_alloc_new w _
 have z0 : w.heap.size < (w.alloc (.cells #[.int .i64 0, .int .i64 0, .int .i64 0, .bool false, .bool false, .int .i64 0, .int .i64 0, .int .i64 0] 65)).heap.size := by rw [World.size_alloc]; omega
 have hpq : Hid (p ≠ w.heap.size) := by have := h.1; show p ≠ _; omega
 have hDq : Hid (p < w.heap.size /\ D <= w.heap.size) := ⟨h.1, h.2.1⟩
 clear h hB0
 go_enter Tryz.func130, Tryz.ntmps130
 go_wp2_with fail
 refine (zF5 p _ _ _ h0).mono ?_
 rintro e w1 ⟨m0, rfl, _, l1, b1, rd1, h1, t1⟩
 have RD1 := hidI rd1
 clear rd1
 have s1 := s0.trans t1
 have g1 : Hid (w1.heap[w.heap.size]? = some (.cells #[.int .i64 0, .int .i64 0, .int .i64 0, .bool false, .bool false, .int .i64 0, .int .i64 0, .int .i64 0] 65 (0, 0))) := (t1.block _ z0 hpq.out.symm).trans g0.out
 have z1 : w.heap.size < w1.heap.size := Nat.lt_of_lt_of_le z0 t1.size
 clear h0 t1 s0 g0 z0
 go_wp2_with fail
 refine (xS0 p _ _ _ h1).mono ?_
 rintro e w2 ⟨cs1, v1, rfl, q1, l2, b2, rd2, h2, t2⟩
 have RD2 := hidI rd2
 clear rd2
 obtain ⟨y1_0, y1_1, rfl⟩ := zD9 cs1 q1.len
 have Q1 := hidI (q1.keptN (lo' := w.heap.size + 1) (Nat.le_refl _) (fun _ _ _ => rfl) z1)
 clear q1
 have s2 := s1.trans t2
 have g2 : Hid (w2.heap[w.heap.size]? = some (.cells #[.int .i64 0, .int .i64 0, .int .i64 0, .bool false, .bool false, .int .i64 0, .int .i64 0, .int .i64 0] 65 (0, 0))) := (t2.block _ z1 hpq.out.symm).trans g1.out
 have z2 : w.heap.size < w2.heap.size := Nat.lt_of_lt_of_le z1 t2.size
 clear h1 t2 s1 g1 z1
 go_wp2_with fail
 refine (yK4 p _ _ _ h2).mono ?_
 rintro e w3 ⟨m2, rfl, l3, b3, rd3, h3, t3⟩
 have RD3 := hidI rd3
 clear rd3
 replace Q1 := hidI (Q1.out.keptN (lo' := w.heap.size + 1) t3.size (fun b h1 h2 => t3.block b h2 (by have := hDq.out.1; omega)) (Nat.le_refl _))
 have s3 := s2.trans t3
 have g3 : Hid (w3.heap[w.heap.size]? = some (.cells #[.int .i64 0, .int .i64 0, .int .i64 0, .bool false, .bool false, .int .i64 0, .int .i64 0, .int .i64 0] 65 (0, 0))) := (t3.block _ z2 hpq.out.symm).trans g2.out
 have z3 : w.heap.size < w3.heap.size := Nat.lt_of_lt_of_le z2 t3.size
 clear h2 t3 s2 g2 z2
 go_wp2_with fail
 refine (yK4 p _ _ _ h3).mono ?_
 rintro e w4 ⟨m3, rfl, l4, b4, rd4, h4, t4⟩
 have RD4 := hidI rd4
 clear rd4
 replace Q1 := hidI (Q1.out.keptN (lo' := w.heap.size + 1) t4.size (fun b h1 h2 => t4.block b h2 (by have := hDq.out.1; omega)) (Nat.le_refl _))
 have s4 := s3.trans t4
 have g4 : Hid (w4.heap[w.heap.size]? = some (.cells #[.int .i64 0, .int .i64 0, .int .i64 0, .bool false, .bool false, .int .i64 0, .int .i64 0, .int .i64 0] 65 (0, 0))) := (t4.block _ z3 hpq.out.symm).trans g3.out
 have z4 : w.heap.size < w4.heap.size := Nat.lt_of_lt_of_le z3 t4.size
 clear h3 t4 s3 g3 z3
 go_wp2_with fail
 refine (zF5 p _ _ _ h4).mono ?_
 rintro e w5 ⟨m4, rfl, _, l5, b5, rd5, h5, t5⟩
 have RD5 := hidI rd5
 clear rd5
 replace Q1 := hidI (Q1.out.keptN (lo' := w.heap.size + 1) t5.size (fun b h1 h2 => t5.block b h2 (by have := hDq.out.1; omega)) (Nat.le_refl _))
 have s5 := s4.trans t5
 have g5 : Hid (w5.heap[w.heap.size]? = some (.cells #[.int .i64 0, .int .i64 0, .int .i64 0, .bool false, .bool false, .int .i64 0, .int .i64 0, .int .i64 0] 65 (0, 0))) := (t5.block _ z4 hpq.out.symm).trans g4.out
 have z5 : w.heap.size < w5.heap.size := Nat.lt_of_lt_of_le z4 t5.size
 clear h4 t5 s4 g4 z4
 go_wp2_with fail
 refine (zF5 p _ _ _ h5).mono ?_
 rintro e w6 ⟨m5, rfl, _, l6, b6, rd6, h6, t6⟩
 have RD6 := hidI rd6
 clear rd6
 replace Q1 := hidI (Q1.out.keptN (lo' := w.heap.size + 1) t6.size (fun b h1 h2 => t6.block b h2 (by have := hDq.out.1; omega)) (Nat.le_refl _))
 have s6 := s5.trans t6
 have g6 : Hid (w6.heap[w.heap.size]? = some (.cells #[.int .i64 0, .int .i64 0, .int .i64 0, .bool false, .bool false, .int .i64 0, .int .i64 0, .int .i64 0] 65 (0, 0))) := (t6.block _ z5 hpq.out.symm).trans g5.out
 have z6 : w.heap.size < w6.heap.size := Nat.lt_of_lt_of_le z5 t6.size
 clear h5 t6 s5 g5 z5
 go_wp2_with fail
 refine (zF5 p _ _ _ h6).mono ?_
 rintro e w7 ⟨m6, rfl, _, l7, b7, rd7, h7, t7⟩
 have RD7 := hidI rd7
 clear rd7
 replace Q1 := hidI (Q1.out.keptN (lo' := w.heap.size + 1) t7.size (fun b h1 h2 => t7.block b h2 (by have := hDq.out.1; omega)) (Nat.le_refl _))
 have s7 := s6.trans t7
 have g7 : Hid (w7.heap[w.heap.size]? = some (.cells #[.int .i64 0, .int .i64 0, .int .i64 0, .bool false, .bool false, .int .i64 0, .int .i64 0, .int .i64 0] 65 (0, 0))) := (t7.block _ z6 hpq.out.symm).trans g6.out
 have z7 : w.heap.size < w7.heap.size := Nat.lt_of_lt_of_le z6 t7.size
 clear h6 t7 s6 g6 z6
 have I0 : Hid ((Tryz.prog.info? 65).map (·.size) = some (#[.int .i64 m0, y1_0, y1_1, .bool m2, .bool m3, .int .i64 m4, .int .i64 m5, .int .i64 m6] : Array Value).size) := by show _ = _; kernel_rfl
 have REP : Hid (Rep w7 (NBr (w.heap.size + 1) w7) zB4 [.int .i64 m0, y1_0, y1_1, .bool m2, .bool m3, .int .i64 m4, .int .i64 m5, .int .i64 m6] (m0, v1, m2, m3, m4, m5, m6)) := by
  exact yO7 m0 y1_0 y1_1 v1 m2 m3 m4 m5 m6 Q1.out
 have O0 : Hid ((#[.int .i64 m0, y1_0, y1_1, .bool m2, .bool m3, .int .i64 m4, .int .i64 m5, .int .i64 m6] : Array Value).all (·.oneCell') = true) := REP.out.all
 have RDA : Hid (Rd zB4 l bad (m0, v1, m2, m3, m4, m5, m6) l7 b7) := (Rd.cat RD1.out (Rd.cat RD2.out (Rd.cat RD3.out (Rd.cat RD4.out (Rd.cat RD5.out (Rd.cat RD6.out RD7.out))))))
 go_wp2_with (refine wpList_store_row rfl 65 (.tmp 2) (.tmp 17) rfl w.heap.size #[.int .i64 m0, y1_0, y1_1, .bool m2, .bool m3, .int .i64 m4, .int .i64 m5, .int .i64 m6] rfl rfl 65 #[.int .i64 0, .int .i64 0, .int .i64 0, .bool false, .bool false, .int .i64 0, .int .i64 0, .int .i64 0] g7.out I0.out rfl O0.out ?_)
 refine bodyPost_ret (v := .agg #[.int .i64 m0, y1_0, y1_1, .bool m2, .bool m3, .int .i64 m4, .int .i64 m5, .int .i64 m6]) ?_ rfl ⟨[.int .i64 m0, y1_0, y1_1, .bool m2, .bool m3, .int .i64 m4, .int .i64 m5, .int .i64 m6], _, rfl, ?_, l7, b7, RDA.out, ?_, ?_⟩
 · refine results_cell_row Tryz.results130 _ _ w.heap.size 65 _ (0, 0) _ ?_ (setRow_heap w7 w.heap.size _ _ 65 _ g7.out) Tryz.underlying65 rfl I0.out
   rfl
 · exact REP.out.keptN (by simp [World.setRow]) (fun b h1 h2 => setRow_other _ _ _ _ (by omega)) (Nat.le_succ _)
 · exact h7.ext ⟨rfl, rfl, rfl, by simp [World.setRow], fun k hk => setRow_other _ _ _ _ (by omega)⟩ hDq.out.1 hDq.out.2
 · exact s7.setRow (Nat.le_refl _) _
theorem xY8 {D : Nat} (p : Nat) (l : List UInt8) (bad : Bool) (w : World) (h : RI D w p l bad) : Calls Tryz.prog 132 #[.pointer (some ⟨p, 0, none⟩)] w fun e w' => RecO D w p zC0 l bad e w' := by
 have hB0 : Below w.heap.size w (w.alloc (.cells #[.int .i64 0, .int .i64 0, .int .i64 0, .slice none 0 0, .slice none 0 0, .bool false] 69)) := (Below.refl _ _).alloc (Nat.le_refl _) _
 have h0 : RI D (w.alloc (.cells #[.int .i64 0, .int .i64 0, .int .i64 0, .slice none 0 0, .slice none 0 0, .bool false] 69)) p l bad := h.ext hB0 h.1 h.2.1
 have s0 : RS w (w.alloc (.cells #[.int .i64 0, .int .i64 0, .int .i64 0, .slice none 0 0, .slice none 0 0, .bool false] 69)) p := (RS.refl _ _).alloc _
 have g0 : Hid ((w.alloc (.cells #[.int .i64 0, .int .i64 0, .int .i64 0, .slice none 0 0, .slice none 0 0, .bool false] 69)).heap[w.heap.size]? = some (.cells #[.int .i64 0, .int .i64 0, .int .i64 0, .slice none 0 0, .slice none 0 0, .bool false] 69 (0, 0))) := heap_alloc_new w _
 have z0 : w.heap.size < (w.alloc (.cells #[.int .i64 0, .int .i64 0, .int .i64 0, .slice none 0 0, .slice none 0 0, .bool false] 69)).heap.size := by rw [World.size_alloc]; omega
 have hpq : Hid (p ≠ w.heap.size) := by have := h.1; show p ≠ _; omega
 have hDq : Hid (p < w.heap.size /\ D <= w.heap.size) := ⟨h.1, h.2.1⟩
 clear h hB0
 go_enter Tryz.func132, Tryz.ntmps132
 go_wp2_with fail
 refine (zF5 p _ _ _ h0).mono ?_
 rintro e w1 ⟨m0, rfl, _, l1, b1, rd1, h1, t1⟩
 have RD1 := hidI rd1
 clear rd1
 have s1 := s0.trans t1
 have g1 : Hid (w1.heap[w.heap.size]? = some (.cells #[.int .i64 0, .int .i64 0, .int .i64 0, .slice none 0 0, .slice none 0 0, .bool false] 69 (0, 0))) := (t1.block _ z0 hpq.out.symm).trans g0.out
 have z1 : w.heap.size < w1.heap.size := Nat.lt_of_lt_of_le z0 t1.size
 clear h0 t1 s0 g0 z0
 go_wp2_with fail
 refine (zF5 p _ _ _ h1).mono ?_
 rintro e w2 ⟨m1, rfl, _, l2, b2, rd2, h2, t2⟩
 have RD2 := hidI rd2
 clear rd2
 have s2 := s1.trans t2
 have g2 : Hid (w2.heap[w.heap.size]? = some (.cells #[.int .i64 0, .int .i64 0, .int .i64 0, .slice none 0 0, .slice none 0 0, .bool false] 69 (0, 0))) := (t2.block _ z1 hpq.out.symm).trans g1.out
 have z2 : w.heap.size < w2.heap.size := Nat.lt_of_lt_of_le z1 t2.size
 clear h1 t2 s1 g1 z1
 go_wp2_with fail
 refine (zF5 p _ _ _ h2).mono ?_
 rintro e w3 ⟨m2, rfl, _, l3, b3, rd3, h3, t3⟩
 have RD3 := hidI rd3
 clear rd3
 have s3 := s2.trans t3
 have g3 : Hid (w3.heap[w.heap.size]? = some (.cells #[.int .i64 0, .int .i64 0, .int .i64 0, .slice none 0 0, .slice none 0 0, .bool false] 69 (0, 0))) := (t3.block _ z2 hpq.out.symm).trans g2.out
 have z3 : w.heap.size < w3.heap.size := Nat.lt_of_lt_of_le z2 t3.size
 clear h2 t3 s2 g2 z2
 go_wp2_with fail
 refine (xC2 p _ _ _ h3).mono ?_
 rintro e w4 ⟨a3, c3, v3, rfl, q3, l4, b4, rd4, h4, t4⟩
 have RD4 := hidI rd4
 clear rd4
 have Q3 := hidI (q3.keptN (lo' := w.heap.size + 1) (Nat.le_refl _) (fun _ _ _ => rfl) z3)
 clear q3
 have s4 := s3.trans t4
 have g4 : Hid (w4.heap[w.heap.size]? = some (.cells #[.int .i64 0, .int .i64 0, .int .i64 0, .slice none 0 0, .slice none 0 0, .bool false] 69 (0, 0))) := (t4.block _ z3 hpq.out.symm).trans g3.out
 have z4 : w.heap.size < w4.heap.size := Nat.lt_of_lt_of_le z3 t4.size
 clear h3 t4 s3 g3 z3
 go_wp2_with fail
 refine (xM3 p _ _ _ h4).mono ?_
 rintro e w5 ⟨a4, c4, v4, rfl, q4, l5, b5, rd5, h5, t5⟩
 have RD5 := hidI rd5
 clear rd5
 replace Q3 := hidI (Q3.out.keptN (lo' := w.heap.size + 1) t5.size (fun b h1 h2 => t5.block b h2 (by have := hDq.out.1; omega)) (Nat.le_refl _))
 have Q4 := hidI (q4.keptN (lo' := w.heap.size + 1) (Nat.le_refl _) (fun _ _ _ => rfl) z4)
 clear q4
 have s5 := s4.trans t5
 have g5 : Hid (w5.heap[w.heap.size]? = some (.cells #[.int .i64 0, .int .i64 0, .int .i64 0, .slice none 0 0, .slice none 0 0, .bool false] 69 (0, 0))) := (t5.block _ z4 hpq.out.symm).trans g4.out
 have z5 : w.heap.size < w5.heap.size := Nat.lt_of_lt_of_le z4 t5.size
 clear h4 t5 s4 g4 z4
 go_wp2_with fail
 refine (yK4 p _ _ _ h5).mono ?_
 rintro e w6 ⟨m5, rfl, l6, b6, rd6, h6, t6⟩
 have RD6 := hidI rd6
 clear rd6
 replace Q3 := hidI (Q3.out.keptN (lo' := w.heap.size + 1) t6.size (fun b h1 h2 => t6.block b h2 (by have := hDq.out.1; omega)) (Nat.le_refl _))
 replace Q4 := hidI (Q4.out.keptN (lo' := w.heap.size + 1) t6.size (fun b h1 h2 => t6.block b h2 (by have := hDq.out.1; omega)) (Nat.le_refl _))
 have s6 := s5.trans t6
 have g6 : Hid (w6.heap[w.heap.size]? = some (.cells #[.int .i64 0, .int .i64 0, .int .i64 0, .slice none 0 0, .slice none 0 0, .bool false] 69 (0, 0))) := (t6.block _ z5 hpq.out.symm).trans g5.out
 have z6 : w.heap.size < w6.heap.size := Nat.lt_of_lt_of_le z5 t6.size
 clear h5 t6 s5 g5 z5
 have I0 : Hid ((Tryz.prog.info? 69).map (·.size) = some (#[.int .i64 m0, .int .i64 m1, .int .i64 m2, .slice a3 v3.length c3, .slice a4 v4.length c4, .bool m5] : Array Value).size) := by show _ = _; kernel_rfl
 have REP : Hid (Rep w6 (NBr (w.heap.size + 1) w6) zC0 [.int .i64 m0, .int .i64 m1, .int .i64 m2, .slice a3 v3.length c3, .slice a4 v4.length c4, .bool m5] (m0, m1, m2, v3, v4, m5)) := by
  exact yO6 m0 m1 m2 a3 c3 v3 a4 c4 v4 m5 Q3.out Q4.out
 have O0 : Hid ((#[.int .i64 m0, .int .i64 m1, .int .i64 m2, .slice a3 v3.length c3, .slice a4 v4.length c4, .bool m5] : Array Value).all (·.oneCell') = true) := REP.out.all
 have RDA : Hid (Rd zC0 l bad (m0, m1, m2, v3, v4, m5) l6 b6) := (Rd.cat RD1.out (Rd.cat RD2.out (Rd.cat RD3.out (Rd.cat RD4.out (Rd.cat RD5.out RD6.out)))))
 go_wp2_with (refine wpList_store_row rfl 69 (.tmp 2) (.tmp 15) rfl w.heap.size #[.int .i64 m0, .int .i64 m1, .int .i64 m2, .slice a3 v3.length c3, .slice a4 v4.length c4, .bool m5] rfl rfl 69 #[.int .i64 0, .int .i64 0, .int .i64 0, .slice none 0 0, .slice none 0 0, .bool false] g6.out I0.out rfl O0.out ?_)
 refine bodyPost_ret (v := .agg #[.int .i64 m0, .int .i64 m1, .int .i64 m2, .slice a3 v3.length c3, .slice a4 v4.length c4, .bool m5]) ?_ rfl ⟨[.int .i64 m0, .int .i64 m1, .int .i64 m2, .slice a3 v3.length c3, .slice a4 v4.length c4, .bool m5], _, rfl, ?_, l6, b6, RDA.out, ?_, ?_⟩
 · refine results_cell_row Tryz.results132 _ _ w.heap.size 69 _ (0, 0) _ ?_ (setRow_heap w6 w.heap.size _ _ 69 _ g6.out) Tryz.underlying69 rfl I0.out
   rfl
 · exact REP.out.keptN (by simp [World.setRow]) (fun b h1 h2 => setRow_other _ _ _ _ (by omega)) (Nat.le_succ _)
 · exact h6.ext ⟨rfl, rfl, rfl, by simp [World.setRow], fun k hk => setRow_other _ _ _ _ (by omega)⟩ hDq.out.1 hDq.out.2
 · exact s6.setRow (Nat.le_refl _) _
end
end Go.Proofs.YtocoimjhglackaaGreat
