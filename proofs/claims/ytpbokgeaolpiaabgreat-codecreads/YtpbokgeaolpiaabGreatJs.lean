/- The document's reader: a snapshot, a list of jobs. Made by program (wip/gen/inr.py). -/
import Derived.Test.YtpbokgeaolpiaabGreatJjob
import Derived.Test.YtpbokgeaolpiaabGreatVrd
namespace Go.Proofs.YtpbokgeaolpiaabGreat
open Go.RowKit

set_option maxHeartbeats 1000000 in
set_option maxRecDepth 100000 in
theorem snapshot_i {D : Nat} (p : Nat) (l : List UInt8) (bad : Bool) (w : World) (h : RI D w p l bad) : Calls Tryz.prog 42 #[.pointer (some ⟨p, 0, none⟩)] w fun e w' => RecO D w p F_snapshot l bad e w' := by
  have hB0 : Below w.heap.size w (w.alloc (.cells #[.int .i64 0, .int .i64 0, .slice none 0 0, .slice none 0 0, .slice none 0 0] 60)) := (Below.refl _ _).alloc (Nat.le_refl _) _
  have h0 : RI D (w.alloc (.cells #[.int .i64 0, .int .i64 0, .slice none 0 0, .slice none 0 0, .slice none 0 0] 60)) p l bad := h.ext hB0 h.1 h.2.1
  have s0 : RS w (w.alloc (.cells #[.int .i64 0, .int .i64 0, .slice none 0 0, .slice none 0 0, .slice none 0 0] 60)) p := (RS.refl _ _).alloc _
  have g0 : Hid ((w.alloc (.cells #[.int .i64 0, .int .i64 0, .slice none 0 0, .slice none 0 0, .slice none 0 0] 60)).heap[w.heap.size]? = some (.cells #[.int .i64 0, .int .i64 0, .slice none 0 0, .slice none 0 0, .slice none 0 0] 60 (0, 0))) := heap_alloc_new w _
  have z0 : w.heap.size < (w.alloc (.cells #[.int .i64 0, .int .i64 0, .slice none 0 0, .slice none 0 0, .slice none 0 0] 60)).heap.size := by rw [World.size_alloc]; omega
  have hpq : Hid (p ≠ w.heap.size) := by have := h.1; show p ≠ _; omega
  have hDq : Hid (p < w.heap.size ∧ D ≤ w.heap.size) := ⟨h.1, h.2.1⟩
  clear h hB0
  go_enter Tryz.func42, Tryz.ntmps42
  go_wp2_with fail
  refine (num_i p _ _ _ h0).mono ?_
  rintro e w1 ⟨m0, rfl, _, l1, b1, rd1, h1, t1⟩
  have RD1 := hidI rd1
  clear rd1
  have s1 := s0.trans t1
  have g1 : Hid (w1.heap[w.heap.size]? = some (.cells #[.int .i64 0, .int .i64 0, .slice none 0 0, .slice none 0 0, .slice none 0 0] 60 (0, 0))) := (t1.block _ z0 hpq.out.symm).trans g0.out
  have z1 : w.heap.size < w1.heap.size := Nat.lt_of_lt_of_le z0 t1.size
  clear h0 t1 s0 g0 z0
  go_wp2_with fail
  refine (num_i p _ _ _ h1).mono ?_
  rintro e w2 ⟨m1, rfl, _, l2, b2, rd2, h2, t2⟩
  have RD2 := hidI rd2
  clear rd2
  have s2 := s1.trans t2
  have g2 : Hid (w2.heap[w.heap.size]? = some (.cells #[.int .i64 0, .int .i64 0, .slice none 0 0, .slice none 0 0, .slice none 0 0] 60 (0, 0))) := (t2.block _ z1 hpq.out.symm).trans g1.out
  have z2 : w.heap.size < w2.heap.size := Nat.lt_of_lt_of_le z1 t2.size
  clear h1 t2 s1 g1 z1
  go_wp2_with fail
  refine (conf_i p _ _ _ h2).mono ?_
  rintro e w3 ⟨cs2, v2, rfl, q2, l3, b3, rd3, h3, t3⟩
  have RD3 := hidI rd3
  clear rd3
  obtain ⟨y2_0, y2_1, rfl⟩ := list_len2 cs2 q2.len
  have Q2 := hidI (q2.keptN (lo' := w.heap.size + 1) (Nat.le_refl _) (fun _ _ _ => rfl) z2)
  clear q2
  have s3 := s2.trans t3
  have g3 : Hid (w3.heap[w.heap.size]? = some (.cells #[.int .i64 0, .int .i64 0, .slice none 0 0, .slice none 0 0, .slice none 0 0] 60 (0, 0))) := (t3.block _ z2 hpq.out.symm).trans g2.out
  have z3 : w.heap.size < w3.heap.size := Nat.lt_of_lt_of_le z2 t3.size
  clear h2 t3 s2 g2 z2
  go_wp2_with fail
  refine (bytes_i p _ _ _ h3).mono ?_
  rintro e w4 ⟨a3, c3, v3, rfl, k3, q3, l4, b4, rd4, h4, t4⟩
  have RD4 := hidI rd4
  clear rd4
  replace Q2 := hidI (Q2.out.keptN (lo' := w.heap.size + 1) t4.size (fun b h1 h2 => t4.block b h2 (by have := hDq.out.1; omega)) (Nat.le_refl _))
  have Q3 := hidI (q3.keptN (lo' := w.heap.size + 1) (Nat.le_refl _) (fun _ _ _ => rfl) z3)
  clear q3
  have s4 := s3.trans t4
  have g4 : Hid (w4.heap[w.heap.size]? = some (.cells #[.int .i64 0, .int .i64 0, .slice none 0 0, .slice none 0 0, .slice none 0 0] 60 (0, 0))) := (t4.block _ z3 hpq.out.symm).trans g3.out
  have z4 : w.heap.size < w4.heap.size := Nat.lt_of_lt_of_le z3 t4.size
  clear h3 t4 s3 g3 z3
  have I0 : Hid ((Tryz.prog.info? 60).map (·.size) = some (#[.int .i64 m0, .int .i64 m1, y2_0, y2_1, .slice a3 v3.length c3] : Array Value).size) := by show _ = _; kernel_rfl
  have REP : Hid (Rep w4 (NBr (w.heap.size + 1) w4) F_snapshot [.int .i64 m0, .int .i64 m1, y2_0, y2_1, .slice a3 v3.length c3] (m0, m1, v2, v3)) := by
    exact mk_snapshot m0 m1 y2_0 y2_1 v2 a3 c3 v3 Q2.out ⟨k3, Q3.out⟩
  have O0 : Hid ((#[.int .i64 m0, .int .i64 m1, y2_0, y2_1, .slice a3 v3.length c3] : Array Value).all (·.oneCell') = true) := REP.out.all
  have RDA : Hid (Rd F_snapshot l bad (m0, m1, v2, v3) l4 b4) := (Rd.cat RD1.out (Rd.cat RD2.out (Rd.cat RD3.out RD4.out)))
  go_wp2_with (refine wpList_store_row rfl 60 (.tmp 2) (.tmp 11) rfl w.heap.size #[.int .i64 m0, .int .i64 m1, y2_0, y2_1, .slice a3 v3.length c3] rfl rfl 60 #[.int .i64 0, .int .i64 0, .slice none 0 0, .slice none 0 0, .slice none 0 0] g4.out I0.out rfl O0.out ?_)
  refine bodyPost_ret (v := .agg #[.int .i64 m0, .int .i64 m1, y2_0, y2_1, .slice a3 v3.length c3]) ?_ rfl ⟨[.int .i64 m0, .int .i64 m1, y2_0, y2_1, .slice a3 v3.length c3], _, rfl, ?_, l4, b4, RDA.out, ?_, ?_⟩
  · refine results_cell_row Tryz.results42 _ _ w.heap.size 60 _ (0, 0) _ ?_ (setRow_heap w4 w.heap.size _ _ 60 _ g4.out) Tryz.underlying60 rfl I0.out
    rfl
  · exact REP.out.keptN (by simp [World.setRow]) (fun b h1 h2 => setRow_other _ _ _ _ (by omega)) (Nat.le_succ _)
  · exact h4.ext ⟨rfl, rfl, rfl, by simp [World.setRow], fun k hk => setRow_other _ _ _ _ (by omega)⟩ hDq.out.1 hDq.out.2
  · exact s4.setRow (Nat.le_refl _) _


set_option maxHeartbeats 800000 in
set_option maxRecDepth 100000 in
theorem jobs_i {D : Nat} (p : Nat) (l : List UInt8) (bad : Bool) (w : World) (h : RI D w p l bad) : Calls Tryz.prog 101 #[.pointer (some ⟨p, 0, none⟩)] w fun e w' => LstO D w p F_job l bad e w' := by
  obtain ⟨i0, hi, hz0, hz1, hz2⟩ := info_parts listJob_vi
  have hp0 := h.1
  have hD0 := h.2.1
  go_enter Tryz.func101, Tryz.ntmps101
  go_wp2_with fail
  refine (count_i p l bad w h).mono ?_
  rintro e w1 ⟨N, l1, b1, rfl, hN, hcn, r1, s1⟩
  have HC := hidI hcn
  clear hcn
  go_wp2
  go_loopw [4, 5] (fun v i wr => ∃ k : Nat, k ≤ N ∧ i = .int .i64 k ∧ LoopJ D w p p F_job 25 7 k l1 b1 v wr) (fun _ i _ => N - (intOf i).toNat)
  case atStart => exact ⟨0, Nat.zero_le _, rfl, [], [], l1, b1, World.ownsRow_nil _ _ _ _, s1.rq, r1, RdN.zero _ _ _, Elems.nil _ _ _ _⟩
  case round =>
    obtain ⟨k, hk, rfl, xs, vs, lk, bk, ok, sk, rk, rdk, hel⟩ := hrel
    have RDK := hidI rdk
    have HEL := hidI hel
    clear rdk hel
    by_cases hlt : k < N
    · go_wp2_with fail
      refine (job_i p _ _ wr rk).mono ?_
      rintro e w2 ⟨es, m, rfl, hx, l2, b2, rd2, r2, t2⟩
      obtain ⟨y0, y1, y2, y3, y4, y5, y6, rfl⟩ := list_len7 es hx.len
      have sk2 : RS w w2 p := sk.rs.trans t2
      have ok2 := ownsRow_rs ok t2 hp0
      have HEL2 := hidI (HEL.out.rs t2 hp0)
      have HVL : Hid (∀ q, u4.ownBlock = some q → q < wr.heap.size) := fun q hq => (ok.lt q hq).2
      have HWR : Hid (w.heap.size ≤ wr.heap.size) := sk.size
      have HX := hidI hx
      have O1 : Hid (∀ u ∈ (#[y0, y1, y2, y3, y4, y5, y6] : Array Value).toList, u.oneCell' = true) := hx.one
      have HB2 : Hid (Below w2.heap.size w2 (w2.alloc (.cells #[y0, y1, y2, y3, y4, y5, y6] 25))) := (Below.refl _ _).alloc (Nat.le_refl _) _
      have HRD := hidI (RDK.out.more rd2)
      clear t2 rk ok sk hx rd2
      go_wp2_with (at_builtin; refine wpList_append_own2 _ rfl (.tmp 13) (.tmp 16) 64 rfl w.heap.size 25 i0 (.agg #[.int .i64 0, .int .i64 0, .int .i64 0, .int .i64 0, .slice none 0 0, .int .i64 0, .bool false]) 7 72 Tryz.underlying64 hi hz0 hz1 hz2 rfl (by decide) _ _ _ rfl (ok2.alloc _) ⟨w2.heap.size, 0, none⟩ 1 1 (#[y0, y1, y2, y3, y4, y5, y6] : Array Value).toList rfl rfl (fun j u hj => cell_news w2 _ _ j u hj) O1.out ?c3 ?c4 ?c5 ?next)
      case c3 => unfold maxLen; omega
      case c4 => omega
      case c5 => have := sk2.size; rw [World.size_alloc]; omega
      case next =>
        intro v3 w3 ho3 hg3 hw3
        have HEL3 := hidI (HEL2.out.more HX.out HWR.out HVL.out HB2.out hg3 (by rw [World.size_alloc]; exact hw3))
        have hB3 : Below w.heap.size w2 w3 := ((Below.refl _ _).alloc sk2.size _).grown hg3 (by have := sk2.size; rw [World.size_alloc]; omega) (fun j hj => (ok2.lt j hj).1)
        have r3 := r2.ext hB3 hp0 hD0
        have s3 : RQ w w3 p p := (sk2.ext hB3).rq
        have LJ := hidI (show LoopJ D w p p F_job 25 7 (k + 1) l1 b1 v3 w3 from ⟨_, _, _, _, ho3, s3, r3, HRD.out, HEL3.out⟩)
        clear hg3 r2 sk2 ok2 hB3 hw3 ho3 r3 s3 HEL3
        go_wp2
        exact ⟨⟨k + 1, by omega, by go_num, LJ.out⟩, by simp [intOf]; omega⟩
    · have hkN : k = N := by omega
      subst hkN
      have hvl := RDK.out.1
      obtain ⟨va, vc, hv, hrl⟩ : ∃ va vc, u4 = Value.slice va k vc ∧ RepL wr (NB w wr) F_job va vs := by
        have := Elems.done (e := 25) HEL.out (by rw [hvl]; exact ok) (by rw [hvl]; omega)
        rwa [hvl] at this
      subst hv
      have FIN : Hid (LstO D w p F_job l bad (.returned (.slice va k vc)) wr) := ⟨va, vc, vs, by rw [hvl], hrl, lk, bk, RdN.lst hN HC.out RDK.out, rk, sk.rs⟩
      clear rk ok hrl hvl
      go_wp2
      go_ret
      exact FIN.out

end Go.Proofs.YtpbokgeaolpiaabGreat
