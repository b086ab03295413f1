/- What is left on a node; the example. -/
import Derived.Test.YtajfhknfknedmaaXf
namespace Go.Proofs.Ytajfhknfknedmaa
open Go.RowKit Go.Shelf
attribute [local go_sem] Oper.semAt_some
/- a block written cell by cell -/
def putC (W : World) (r : Nat) : Nat → List Value → World
  | _, [] => W
  | k, v :: vs => putC (W.setCell ⟨r, k, none⟩ v) r (k + 1) vs
theorem putC_other (r b : Nat) (h : b ≠ r) : ∀ (vs : List Value) (W : World) (k : Nat), (putC W r k vs).heap[b]? = W.heap[b]? := by
  intro vs
  induction vs with
  | nil => intro W k; rfl
  | cons v vs ih => intro W k; rw [putC, ih]; exact heap_setCell_other W ⟨r, k, none⟩ b v h
theorem putC_bel {w : World} {n r : Nat} (h : n ≤ r) : ∀ (vs : List Value) (W : World) (k : Nat), Below n w W → Below n w (putC W r k vs) := by
  intro vs
  induction vs with
  | nil => intro W k hb; exact hb
  | cons v vs ih => intro W k hb; rw [putC]; exact ih _ _ (hb.setCell (p := ⟨r, k, none⟩) h _)
theorem putC_size (r : Nat) : ∀ (vs : List Value) (W : World) (k : Nat), (putC W r k vs).heap.size = W.heap.size := by
  intro vs
  induction vs with
  | nil => intro W k; rfl
  | cons v vs ih => intro W k; rw [putC, ih]; simp
theorem putC_nd (W : World) (r : Nat) (n z : Nd) (h : W.heap[r]? = some (.cells (Nd.cs z).toArray 44 (0, 0))) : (putC W r 0 (Nd.cs n)).heap[r]? = some (.cells (Nd.cs n).toArray 44 (0, 0)) := by
  unfold Nd.cs at *
  simp only [putC]
  rw [heap_setCell_same _ r 7 _ 44 _ (heap_setCell_same _ r 6 _ 44 _ (heap_setCell_same _ r 5 _ 44 _ (heap_setCell_same _ r 4 _ 44 _ (heap_setCell_same _ r 3 _ 44 _ (heap_setCell_same _ r 2 _ 44 _ (heap_setCell_same _ r 1 _ 44 _ (heap_setCell_same W r 0 _ 44 _ h)))))))]
  simp only [List.setIfInBounds_toArray, List.set_cons_zero, List.set_cons_succ]
set_option maxRecDepth 100000 in
set_option maxHeartbeats 8000000 in
theorem lawLeft_any (s : Sc) (nd : Int) (N : List Nd) (A : List Al) (i : Nat) (hi : i < N.length) (w : World) (hs : Sg w s N A) (hf : atN N nd = (i : Int)) (hcap : cpL N = true) (h1 : 0 ≤ (usedV nd A).1) (h2 : 0 ≤ (usedV nd A).2) (h3 : (usedV nd A).1 ≤ N[i].c) (h4 : (usedV nd A).2 ≤ N[i].m) :
    Calls Try.prog 12 #[.agg #[.int .i64 s.ix, .int .i64 s.nx, .slice s.a2 s.n2 s.c2, .slice s.a3 s.n3 s.c3, .slice s.a4 s.n4 s.c4, .slice s.a5 s.n5 s.c5, .slice s.a6 s.n6 s.c6, .slice s.a7 s.n7 s.c7, .slice s.a8 s.n8 s.c8], .int .i64 nd] w fun e w' => e = .returned (.int .i64 (lnV N A nd)) ∧ Below w.heap.size w w' := by
  obtain ⟨ix, nx, a2, n2, c2, a3, n3, c3, a4, n4, c4, a5, n5, c5, a6, n6, c6, a7, n7, c7, a8, n8, c8⟩ := s
  obtain ⟨e4, e5⟩ : n4 = N.length ∧ n5 = A.length := ⟨hs.n4, hs.n5⟩
  subst e4
  subst e5
  have HN := hidOf (fun (W : World) (hW : Below w.heap.size w W) => node_ref ⟨ix, nx, a2, n2, c2, a3, n3, c3, a4, N.length, c4, a5, A.length, c5, a6, n6, c6, a7, n7, c7, a8, n8, c8⟩ nd N W rfl (hs.up hW).f4)
  have HU := hidOf (fun (W : World) (hW : Below w.heap.size w W) => refUsed_any ⟨ix, nx, a2, n2, c2, a3, n3, c3, a4, N.length, c4, a5, A.length, c5, a6, n6, c6, a7, n7, c7, a8, n8, c8⟩ nd A W rfl (hs.up hW).f5)
  dsimp only at HN HU
  obtain ⟨bb, off, ha, hbl0, hc0⟩ := hs.f4.at i hi
  have hcp := cpL_at hcap i hi
  have HV : Hid (lnV N A nd = (N[i].c - (usedV nd A).1) + (N[i].m - (usedV nd A).2)) := hidOf (by rw [lnV, hf, show ((i : Int)).toNat = i from rfl, getD_at N i hi])
  have HF := hidOf (show fi (fun x : Nd => isI x.id nd) N = (i : Int) from hf)
  have hi64 : (i : Int) < (N.length : Int) := by omega
  have hi0 : ¬ ((i : Int) < 0) := by omega
  have hi1 : (0 : Int) ≤ (i : Int) := by omega
  have hln : N.length ≤ 140737488355328 := Nat.le_trans (Nat.le_mul_of_pos_right _ (by decide)) hs.f4.bd
  dsimp only at ha
  subst ha
  clear hf hs hcap
  generalize N[i] = n at *
  generalize usedV nd A = u at *
  obtain ⟨u1, u2⟩ := u
  dsimp only at h1 h2 h3 h4 HU HV
  have z3 := hcp.1
  have z4 := hcp.2
  clear hcp
  obtain ⟨W0, hW0⟩ : ∃ y, y = w.alloc (.cells #[.int .i64 ix, .int .i64 nx, .slice a2 n2 c2, .slice a3 n3 c3, .slice (some ⟨bb, off, none⟩) N.length c4, .slice a5 A.length c5, .slice a6 n6 c6, .slice a7 n7 c7, .slice a8 n8 c8] 29) := ⟨_, rfl⟩
  have HB0 : Hid (Below w.heap.size w W0) := hidOf (by rw [hW0]; exact below1 w _)
  have hS0 : W0.rangeAt w.heap.size 0 [.int .i64 ix, .int .i64 nx, .slice a2 n2 c2, .slice a3 n3 c3, .slice (some ⟨bb, off, none⟩) N.length c4, .slice a5 A.length c5, .slice a6 n6 c6, .slice a7 n7 c7, .slice a8 n8 c8] := by rw [hW0]; exact box_new (cs := [.int .i64 ix, .int .i64 nx, .slice a2 n2 c2, .slice a3 n3 c3, .slice (some ⟨bb, off, none⟩) N.length c4, .slice a5 A.length c5, .slice a6 n6 c6, .slice a7 n7 c7, .slice a8 n8 c8]) (Below.refl _ _)
  have lw : w.heap.size < W0.heap.size := by rw [hW0]; simp
  have hbl : bb < W0.heap.size := Nat.lt_trans hbl0 lw
  have hc := range_of hc0 (HB0.out.block bb hbl0)
  have s0 : W0.cell? ⟨w.heap.size, 0, none⟩ = some (.int .i64 ix) := hS0 0 _ rfl
  have s1 : W0.cell? ⟨w.heap.size, 1, none⟩ = some (.int .i64 nx) := hS0 1 _ rfl
  have s2 : W0.cell? ⟨w.heap.size, 2, none⟩ = some (.slice a2 n2 c2) := hS0 2 _ rfl
  have s3 : W0.cell? ⟨w.heap.size, 3, none⟩ = some (.slice a3 n3 c3) := hS0 3 _ rfl
  have s4 : W0.cell? ⟨w.heap.size, 4, none⟩ = some (.slice (some ⟨bb, off, none⟩) N.length c4) := hS0 4 _ rfl
  have s5 : W0.cell? ⟨w.heap.size, 5, none⟩ = some (.slice a5 A.length c5) := hS0 5 _ rfl
  have s6 : W0.cell? ⟨w.heap.size, 6, none⟩ = some (.slice a6 n6 c6) := hS0 6 _ rfl
  have s7 : W0.cell? ⟨w.heap.size, 7, none⟩ = some (.slice a7 n7 c7) := hS0 7 _ rfl
  have s8 : W0.cell? ⟨w.heap.size, 8, none⟩ = some (.slice a8 n8 c8) := hS0 8 _ rfl
  have g0 : W0.cell? ⟨bb, off + i * 8, none⟩ = some (.int .i64 n.id) := hc 0 _ rfl
  have g1 : W0.cell? ⟨bb, off + i * 8 + 1, none⟩ = some (.int .i64 n.c) := hc 1 _ rfl
  have g2 : W0.cell? ⟨bb, off + i * 8 + 2, none⟩ = some (.int .i64 n.m) := hc 2 _ rfl
  have g3 : W0.cell? ⟨bb, off + i * 8 + 3, none⟩ = some (.bool n.up) := hc 3 _ rfl
  have g4 : W0.cell? ⟨bb, off + i * 8 + 4, none⟩ = some (.bool n.dr) := hc 4 _ rfl
  have g5 : W0.cell? ⟨bb, off + i * 8 + 5, none⟩ = some (.int .i64 n.bo) := hc 5 _ rfl
  have g6 : W0.cell? ⟨bb, off + i * 8 + 6, none⟩ = some (.int .i64 n.ep) := hc 6 _ rfl
  have g7 : W0.cell? ⟨bb, off + i * 8 + 7, none⟩ = some (.int .i64 n.se) := hc 7 _ rfl
  have HS0 := hidOf hS0
  clear hc hc0 hbl0 hS0
  have nw : ¬ w.heap.size = W0.heap.size := by omega
  have nw2 : ¬ W0.heap.size = w.heap.size := by omega
  have nb : ¬ bb = W0.heap.size := by omega
  have nb2 : ¬ W0.heap.size = bb := by omega
  go_enter Try.func12, Try.ntmps12
  go_upto_region 1 with (fail)
  rw [← hW0]
  clear hW0
  go_region_held3 (fun W => W.cell? ⟨w.heap.size, 0, none⟩ = some (.int .i64 ix) ∧ W.cell? ⟨w.heap.size, 1, none⟩ = some (.int .i64 nx) ∧ W.cell? ⟨w.heap.size, 2, none⟩ = some (.slice a2 n2 c2) ∧ W.cell? ⟨w.heap.size, 3, none⟩ = some (.slice a3 n3 c3) ∧ W.cell? ⟨w.heap.size, 4, none⟩ = some (.slice (some ⟨bb, off, none⟩) N.length c4) ∧ W.cell? ⟨w.heap.size, 5, none⟩ = some (.slice a5 A.length c5) ∧ W.cell? ⟨w.heap.size, 6, none⟩ = some (.slice a6 n6 c6) ∧ W.cell? ⟨w.heap.size, 7, none⟩ = some (.slice a7 n7 c7) ∧ W.cell? ⟨w.heap.size, 8, none⟩ = some (.slice a8 n8 c8) ∧ W.cell? ⟨bb, off + i * 8, none⟩ = some (.int .i64 n.id) ∧ W.cell? ⟨bb, off + i * 8 + 1, none⟩ = some (.int .i64 n.c) ∧ W.cell? ⟨bb, off + i * 8 + 2, none⟩ = some (.int .i64 n.m) ∧ W.cell? ⟨bb, off + i * 8 + 3, none⟩ = some (.bool n.up) ∧ W.cell? ⟨bb, off + i * 8 + 4, none⟩ = some (.bool n.dr) ∧ W.cell? ⟨bb, off + i * 8 + 5, none⟩ = some (.int .i64 n.bo) ∧ W.cell? ⟨bb, off + i * 8 + 6, none⟩ = some (.int .i64 n.ep) ∧ W.cell? ⟨bb, off + i * 8 + 7, none⟩ = some (.int .i64 n.se)) (first | go_keep | exact KK.out) (first | (go_at_call 16; refine (HN.out _ (by first | exact HB0.out.trans ((bdrew _).mono HB0.out.size) | exact (HB0.out.trans ((below1 W0 _).mono HB0.out.size)).trans ((bdrew _).mono (by have := HB0.out.size; simp; omega)) | exact (HB0.out.trans ((bdrew _).mono HB0.out.size)).trans ((below1 _ _).mono (by have := HB0.out.size; simp; omega)) | exact HB0.out.trans ((below1 W0 _).mono HB0.out.size))).mono ?_; rintro e w2 ⟨rfl, hb⟩; rw [HF.out]; have HBy := hidOf hb; have HBz : Hid (Below W0.heap.size W0 w2) := hidOf (by first | exact (bdrew W0).trans hb | exact ((below1 W0 _).trans ((bdrew _).mono (by simp))).trans (hb.mono (by simp)) | exact ((bdrew W0).trans ((below1 _ _).mono (by simp))).trans (hb.mono (by simp)) | exact (below1 W0 _).trans (hb.mono (by simp))); have KK : Hid (w2.cell? ⟨w.heap.size, 0, none⟩ = some (.int .i64 ix) ∧ w2.cell? ⟨w.heap.size, 1, none⟩ = some (.int .i64 nx) ∧ w2.cell? ⟨w.heap.size, 2, none⟩ = some (.slice a2 n2 c2) ∧ w2.cell? ⟨w.heap.size, 3, none⟩ = some (.slice a3 n3 c3) ∧ w2.cell? ⟨w.heap.size, 4, none⟩ = some (.slice (some ⟨bb, off, none⟩) N.length c4) ∧ w2.cell? ⟨w.heap.size, 5, none⟩ = some (.slice a5 A.length c5) ∧ w2.cell? ⟨w.heap.size, 6, none⟩ = some (.slice a6 n6 c6) ∧ w2.cell? ⟨w.heap.size, 7, none⟩ = some (.slice a7 n7 c7) ∧ w2.cell? ⟨w.heap.size, 8, none⟩ = some (.slice a8 n8 c8) ∧ w2.cell? ⟨bb, off + i * 8, none⟩ = some (.int .i64 n.id) ∧ w2.cell? ⟨bb, off + i * 8 + 1, none⟩ = some (.int .i64 n.c) ∧ w2.cell? ⟨bb, off + i * 8 + 2, none⟩ = some (.int .i64 n.m) ∧ w2.cell? ⟨bb, off + i * 8 + 3, none⟩ = some (.bool n.up) ∧ w2.cell? ⟨bb, off + i * 8 + 4, none⟩ = some (.bool n.dr) ∧ w2.cell? ⟨bb, off + i * 8 + 5, none⟩ = some (.int .i64 n.bo) ∧ w2.cell? ⟨bb, off + i * 8 + 6, none⟩ = some (.int .i64 n.ep) ∧ w2.cell? ⟨bb, off + i * 8 + 7, none⟩ = some (.int .i64 n.se)) := hidOf ⟨(hb_cell HBz.out lw).trans s0, (hb_cell HBz.out lw).trans s1, (hb_cell HBz.out lw).trans s2, (hb_cell HBz.out lw).trans s3, (hb_cell HBz.out lw).trans s4, (hb_cell HBz.out lw).trans s5, (hb_cell HBz.out lw).trans s6, (hb_cell HBz.out lw).trans s7, (hb_cell HBz.out lw).trans s8, (hb_cell HBz.out hbl).trans g0, (hb_cell HBz.out hbl).trans g1, (hb_cell HBz.out hbl).trans g2, (hb_cell HBz.out hbl).trans g3, (hb_cell HBz.out hbl).trans g4, (hb_cell HBz.out hbl).trans g5, (hb_cell HBz.out hbl).trans g6, (hb_cell HBz.out hbl).trans g7⟩; have s0w := KK.out.1; have s1w := KK.out.2.1; have s2w := KK.out.2.2.1; have s3w := KK.out.2.2.2.1; have s4w := KK.out.2.2.2.2.1; have s5w := KK.out.2.2.2.2.2.1; have s6w := KK.out.2.2.2.2.2.2.1; have s7w := KK.out.2.2.2.2.2.2.2.1; have s8w := KK.out.2.2.2.2.2.2.2.2.1; have g0w := KK.out.2.2.2.2.2.2.2.2.2.1; have g1w := KK.out.2.2.2.2.2.2.2.2.2.2.1; have g2w := KK.out.2.2.2.2.2.2.2.2.2.2.2.1; have g3w := KK.out.2.2.2.2.2.2.2.2.2.2.2.2.1; have g4w := KK.out.2.2.2.2.2.2.2.2.2.2.2.2.2.1; have g5w := KK.out.2.2.2.2.2.2.2.2.2.2.2.2.2.2.1; have g6w := KK.out.2.2.2.2.2.2.2.2.2.2.2.2.2.2.2.1; have g7w := KK.out.2.2.2.2.2.2.2.2.2.2.2.2.2.2.2.2; have lww : w.heap.size < w2.heap.size := Nat.lt_of_lt_of_le lw HBz.out.size; have lbw : bb < w2.heap.size := Nat.lt_of_lt_of_le hbl HBz.out.size; (try (have HZ : Hid (w2.heap[W0.heap.size]? = some (.cells (Nd.cs ⟨0, 0, 0, false, false, 0, 0, 0⟩).toArray 44 (0, 0))) := hidOf ((HBy.out.block W0.heap.size (by simp)).trans (heap_alloc_new W0 _)); have q0 : w2.cell? ⟨W0.heap.size, 0, none⟩ = some (.int .i64 0) := (cell_of_row w2 W0.heap.size 0 _ 44 (0, 0) HZ.out).trans rfl; have q1 : w2.cell? ⟨W0.heap.size, 1, none⟩ = some (.int .i64 0) := (cell_of_row w2 W0.heap.size 1 _ 44 (0, 0) HZ.out).trans rfl; have q2 : w2.cell? ⟨W0.heap.size, 2, none⟩ = some (.int .i64 0) := (cell_of_row w2 W0.heap.size 2 _ 44 (0, 0) HZ.out).trans rfl; have q3 : w2.cell? ⟨W0.heap.size, 3, none⟩ = some (.bool false) := (cell_of_row w2 W0.heap.size 3 _ 44 (0, 0) HZ.out).trans rfl; have q4 : w2.cell? ⟨W0.heap.size, 4, none⟩ = some (.bool false) := (cell_of_row w2 W0.heap.size 4 _ 44 (0, 0) HZ.out).trans rfl; have q5 : w2.cell? ⟨W0.heap.size, 5, none⟩ = some (.int .i64 0) := (cell_of_row w2 W0.heap.size 5 _ 44 (0, 0) HZ.out).trans rfl; have q6 : w2.cell? ⟨W0.heap.size, 6, none⟩ = some (.int .i64 0) := (cell_of_row w2 W0.heap.size 6 _ 44 (0, 0) HZ.out).trans rfl; have q7 : w2.cell? ⟨W0.heap.size, 7, none⟩ = some (.int .i64 0) := (cell_of_row w2 W0.heap.size 7 _ 44 (0, 0) HZ.out).trans rfl; have fz := (fun q => frozen_of_row w2 W0.heap.size q _ 44 HZ.out); have lz := heap_lt HZ.out)); clear hb))
  · obtain ⟨r, hr⟩ : ∃ r, r = w2.heap.size := ⟨_, rfl⟩
    obtain ⟨Wr, hWr⟩ : ∃ y, y = w2.alloc (.cells #[.int .i64 n.id, .int .i64 n.c, .int .i64 n.m, .bool n.up, .bool n.dr, .int .i64 n.bo, .int .i64 n.ep, .int .i64 n.se] 44) := ⟨_, rfl⟩
    have hq : Below W0.heap.size W0 Wr := by rw [hWr]; exact HBz.out.trans ((below1 w2 _).mono HBz.out.size)
    have HBr : Hid (Below w.heap.size w Wr) := hidOf (HB0.out.trans (hq.mono HB0.out.size))
    have HSr : Hid (Wr.rangeAt w.heap.size 0 [.int .i64 ix, .int .i64 nx, .slice a2 n2 c2, .slice a3 n3 c3, .slice (some ⟨bb, off, none⟩) N.length c4, .slice a5 A.length c5, .slice a6 n6 c6, .slice a7 n7 c7, .slice a8 n8 c8]) := hidOf (range_of HS0.out (hq.block _ lw))
    have HLr : Hid (w.heap.size < Wr.heap.size) := hidOf (Nat.lt_of_lt_of_le lw hq.size)
    have HNr : Hid (Wr.heap[r]? = some (.cells (Nd.cs n).toArray 44 (0, 0))) := hidOf (by rw [hWr, hr]; exact heap_alloc_new w2 _)
    rw [← hWr]
    rw [← hr]
    clear hWr hr hq
    clear s0w s1w s2w s3w s4w s5w s6w s7w s8w g0w g1w g2w g3w g4w g5w g6w g7w lww lbw s0 s1 s2 s3 s4 s5 s6 s7 s8 g0 g1 g2 g3 g4 g5 g6 g7 lw hbl HBy KK nw nw2 nb nb2 HBz HB0
    have s0 : Wr.cell? ⟨w.heap.size, 0, none⟩ = some (.int .i64 ix) := HSr.out 0 _ rfl
    have s1 : Wr.cell? ⟨w.heap.size, 1, none⟩ = some (.int .i64 nx) := HSr.out 1 _ rfl
    have s2 : Wr.cell? ⟨w.heap.size, 2, none⟩ = some (.slice a2 n2 c2) := HSr.out 2 _ rfl
    have s3 : Wr.cell? ⟨w.heap.size, 3, none⟩ = some (.slice a3 n3 c3) := HSr.out 3 _ rfl
    have s4 : Wr.cell? ⟨w.heap.size, 4, none⟩ = some (.slice (some ⟨bb, off, none⟩) N.length c4) := HSr.out 4 _ rfl
    have s5 : Wr.cell? ⟨w.heap.size, 5, none⟩ = some (.slice a5 A.length c5) := HSr.out 5 _ rfl
    have s6 : Wr.cell? ⟨w.heap.size, 6, none⟩ = some (.slice a6 n6 c6) := HSr.out 6 _ rfl
    have s7 : Wr.cell? ⟨w.heap.size, 7, none⟩ = some (.slice a7 n7 c7) := HSr.out 7 _ rfl
    have s8 : Wr.cell? ⟨w.heap.size, 8, none⟩ = some (.slice a8 n8 c8) := HSr.out 8 _ rfl
    have lw : w.heap.size < Wr.heap.size := HLr.out
    go_wp2_with (go_at_call 17; refine (HU.out _ HBr.out).mono ?_; rintro e w3 ⟨rfl, hb⟩; have HB3 := hidOf (HBr.out.trans (hb.mono HBr.out.size)); have hn3 : w3.heap[r]? = _ := (hb.block r (heap_lt HNr.out)).trans HNr.out; have n1 : w3.cell? ⟨r, 1, none⟩ = some (.int .i64 n.c) := (cell_of_row w3 r 1 _ 44 (0, 0) hn3).trans rfl; have n2 : w3.cell? ⟨r, 2, none⟩ = some (.int .i64 n.m) := (cell_of_row w3 r 2 _ 44 (0, 0) hn3).trans rfl; have lr := heap_lt hn3; clear hb hn3)
    go_ret
    exact ⟨by rw [HV.out]; rfl, HB3.out.alloc HB3.out.size _⟩
  · obtain ⟨r, hr⟩ : ∃ r, r = W0.heap.size := ⟨_, rfl⟩
    obtain ⟨Wr, hWr⟩ : ∃ y, y = putC w2 W0.heap.size 0 (Nd.cs n) := ⟨_, rfl⟩
    have hq : Below W0.heap.size W0 Wr := by rw [hWr]; exact putC_bel (Nat.le_refl _) _ _ _ HBz.out
    have HBr : Hid (Below w.heap.size w Wr) := hidOf (HB0.out.trans (hq.mono HB0.out.size))
    have HSr : Hid (Wr.rangeAt w.heap.size 0 [.int .i64 ix, .int .i64 nx, .slice a2 n2 c2, .slice a3 n3 c3, .slice (some ⟨bb, off, none⟩) N.length c4, .slice a5 A.length c5, .slice a6 n6 c6, .slice a7 n7 c7, .slice a8 n8 c8]) := hidOf (range_of HS0.out (hq.block _ lw))
    have HLr : Hid (w.heap.size < Wr.heap.size) := hidOf (Nat.lt_of_lt_of_le lw hq.size)
    have HNr : Hid (Wr.heap[r]? = some (.cells (Nd.cs n).toArray 44 (0, 0))) := hidOf (by rw [hWr, hr]; exact putC_nd _ _ _ _ HZ.out)
    simp only [putC, Nd.cs, Nat.reduceAdd] at hWr
    rw [← hWr]
    rw [← hr]
    clear hWr hr hq q0 q1 q2 q3 q4 q5 q6 q7 fz lz HZ
    clear s0w s1w s2w s3w s4w s5w s6w s7w s8w g0w g1w g2w g3w g4w g5w g6w g7w lww lbw s0 s1 s2 s3 s4 s5 s6 s7 s8 g0 g1 g2 g3 g4 g5 g6 g7 lw hbl HBy KK nw nw2 nb nb2 HBz HB0
    have s0 : Wr.cell? ⟨w.heap.size, 0, none⟩ = some (.int .i64 ix) := HSr.out 0 _ rfl
    have s1 : Wr.cell? ⟨w.heap.size, 1, none⟩ = some (.int .i64 nx) := HSr.out 1 _ rfl
    have s2 : Wr.cell? ⟨w.heap.size, 2, none⟩ = some (.slice a2 n2 c2) := HSr.out 2 _ rfl
    have s3 : Wr.cell? ⟨w.heap.size, 3, none⟩ = some (.slice a3 n3 c3) := HSr.out 3 _ rfl
    have s4 : Wr.cell? ⟨w.heap.size, 4, none⟩ = some (.slice (some ⟨bb, off, none⟩) N.length c4) := HSr.out 4 _ rfl
    have s5 : Wr.cell? ⟨w.heap.size, 5, none⟩ = some (.slice a5 A.length c5) := HSr.out 5 _ rfl
    have s6 : Wr.cell? ⟨w.heap.size, 6, none⟩ = some (.slice a6 n6 c6) := HSr.out 6 _ rfl
    have s7 : Wr.cell? ⟨w.heap.size, 7, none⟩ = some (.slice a7 n7 c7) := HSr.out 7 _ rfl
    have s8 : Wr.cell? ⟨w.heap.size, 8, none⟩ = some (.slice a8 n8 c8) := HSr.out 8 _ rfl
    have lw : w.heap.size < Wr.heap.size := HLr.out
    go_wp2_with (go_at_call 17; refine (HU.out _ HBr.out).mono ?_; rintro e w3 ⟨rfl, hb⟩; have HB3 := hidOf (HBr.out.trans (hb.mono HBr.out.size)); have hn3 : w3.heap[r]? = _ := (hb.block r (heap_lt HNr.out)).trans HNr.out; have n1 : w3.cell? ⟨r, 1, none⟩ = some (.int .i64 n.c) := (cell_of_row w3 r 1 _ 44 (0, 0) hn3).trans rfl; have n2 : w3.cell? ⟨r, 2, none⟩ = some (.int .i64 n.m) := (cell_of_row w3 r 2 _ 44 (0, 0) hn3).trans rfl; have lr := heap_lt hn3; clear hb hn3)
    go_ret
    exact ⟨by rw [HV.out]; rfl, HB3.out.alloc HB3.out.size _⟩
end Go.Proofs.Ytajfhknfknedmaa
