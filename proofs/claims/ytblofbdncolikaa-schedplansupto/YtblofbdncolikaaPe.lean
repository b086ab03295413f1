/- The document's plan. -/
import Derived.Test.YtblofbdncolikaaPc
import Derived.Test.YtblofbdncolikaaGz
import Derived.Test.YtblofbdncolikaaTf
import Derived.Test.YtblofbdncolikaaRk3
import Derived.Test.YtblofbdncolikaaRd
namespace Go.Proofs.Ytblofbdncolikaa
open Go.RowKit Go.Shelf
attribute [local go_sem] Oper.semAt_some
set_option maxRecDepth 100000 in
set_option maxHeartbeats 16000000 in
theorem refPlan_any (s : Sc) (id : Int) (J : List Js) (Lj : List Jb) (Ln : List Nd) (A : List Al) (E : List Qd) (w : World) (hn2 : s.n2 = J.length) (hn4 : s.n4 = Ln.length) (hn5 : s.n5 = A.length) (hn6 : s.n6 = E.length) (hJ : JbR w (fun b => b < w.heap.size) s.a2 J Lj) (hN : Fl w (fun b => b < w.heap.size) 8 56 Nd.cs s.a4 Ln) (hA : Fl w (fun b => b < w.heap.size) 11 88 Al.cs s.a5 A) (hE : Fl w (fun b => b < w.heap.size) 4 32 Qd.cs s.a6 E) (hcap : cpL Ln = true) (hsl : ∀ x ∈ Lj, (slV x Ln).length * 16 ≤ 140737488355328) (hfl : (dfF Lj Ln A id).length * 88 ≤ 140737488355328) :
  Calls Try.prog 10 #[.agg #[.int .i64 s.ix, .int .i64 s.nx, .slice s.a2 s.n2 s.c2, .slice s.a3 s.n3 s.c3, .slice s.a4 s.n4 s.c4, .slice s.a5 s.n5 s.c5, .slice s.a6 s.n6 s.c6, .slice s.a7 s.n7 s.c7, .slice s.a8 s.n8 s.c8], .int .i64 id] w fun e w' => PnP w.heap.size (pnV Lj Ln A E id) e w' ∧ Below w.heap.size w w' := by
 obtain ⟨ix, nx, a2, n2, c2, a3, n3, c3, a4, n4, c4, a5, n5, c5, a6, n6, c6, a7, n7, c7, a8, n8, c8⟩ := s
 simp only at hn2 hn4 hn5 hn6 hJ hN hA hE
 subst hn2 hn4 hn5 hn6
 have HJB := hidOf (fun (W : World) (h : Below w.heap.size w W) => job_ref ⟨ix, nx, a2, J.length, c2, a3, n3, c3, a4, Ln.length, c4, a5, A.length, c5, a6, E.length, c6, a7, n7, c7, a8, n8, c8⟩ id J W rfl (hJ.row.kept (fun b hb => h.block b hb) (fun b hb => Nat.lt_of_lt_of_le hb h.size)))
 rw [hJ.fi id] at HJB
 have HW2 : Hid (Below w.heap.size w ((w.alloc (.cells #[.int .i64 ix, .int .i64 nx, .slice a2 J.length c2, .slice a3 n3 c3, .slice a4 Ln.length c4, .slice a5 A.length c5, .slice a6 E.length c6, .slice a7 n7 c7, .slice a8 n8 c8] 29)).alloc (.cells #[.int .i64 0, .int .i64 0, .int .i64 0, .slice none 0 0, .slice none 0 0, .bool false] 35))) := hidOf (below2 w _ _)
 have hrng : dfI Lj id = -1 ∨ ∃ m : Nat, dfI Lj id = (m : Int) ∧ m < Lj.length := fi_rng (fun x : Jb => isI x.id id) Lj
 have hfold : fi (fun x : Jb => isI x.id id) Lj = dfI Lj id := rfl
 rw [hfold] at HJB
 clear hfold
 have HTB := two_boxes (cs := [.int .i64 ix, .int .i64 nx, .slice a2 J.length c2, .slice a3 n3 c3, .slice a4 Ln.length c4, .slice a5 A.length c5, .slice a6 E.length c6, .slice a7 n7 c7, .slice a8 n8 c8]) (ds := [.int .i64 0, .int .i64 0, .int .i64 0, .slice none 0 0, .slice none 0 0, .bool false]) (t := 29) (u := 35) (Below.refl _ ((w.alloc (.cells #[.int .i64 ix, .int .i64 nx, .slice a2 J.length c2, .slice a3 n3 c3, .slice a4 Ln.length c4, .slice a5 A.length c5, .slice a6 E.length c6, .slice a7 n7 c7, .slice a8 n8 c8] 29)).alloc (.cells #[.int .i64 0, .int .i64 0, .int .i64 0, .slice none 0 0, .slice none 0 0, .bool false] 35)))
 have hpr : ((w.alloc (.cells #[.int .i64 ix, .int .i64 nx, .slice a2 J.length c2, .slice a3 n3 c3, .slice a4 Ln.length c4, .slice a5 A.length c5, .slice a6 E.length c6, .slice a7 n7 c7, .slice a8 n8 c8] 29)).alloc (.cells #[.int .i64 0, .int .i64 0, .int .i64 0, .slice none 0 0, .slice none 0 0, .bool false] 35)).heap[w.heap.size + 1]? = some (.cells #[.int .i64 0, .int .i64 0, .int .i64 0, .slice none 0 0, .slice none 0 0, .bool false] 35 (0, 0)) := by
  have := heap_alloc_new (w.alloc (.cells #[.int .i64 ix, .int .i64 nx, .slice a2 J.length c2, .slice a3 n3 c3, .slice a4 Ln.length c4, .slice a5 A.length c5, .slice a6 E.length c6, .slice a7 n7 c7, .slice a8 n8 c8] 29)) (.cells #[.int .i64 0, .int .i64 0, .int .i64 0, .slice none 0 0, .slice none 0 0, .bool false] 35)
  rwa [World.size_alloc] at this
 obtain ⟨wa, hwa⟩ : ∃ wa, (w.alloc (.cells #[.int .i64 ix, .int .i64 nx, .slice a2 J.length c2, .slice a3 n3 c3, .slice a4 Ln.length c4, .slice a5 A.length c5, .slice a6 E.length c6, .slice a7 n7 c7, .slice a8 n8 c8] 29)).alloc (.cells #[.int .i64 0, .int .i64 0, .int .i64 0, .slice none 0 0, .slice none 0 0, .bool false] 35) = wa := ⟨_, rfl⟩
 rw [hwa] at HW2 HTB hpr
 have HSA := hidOf HTB.1
 have HPR := hidOf hpr
 have hz2 := HTB.2.2.2
 have HJ := hidOf hJ
 have HN := hidOf hN
 have HA := hidOf hA
 have HE := hidOf hE
 clear HTB hpr hJ hN hA hE
 rcases hrng with hv | ⟨m, hv, hm⟩
 ·have HPV : Hid (pnV Lj Ln A E id = ⟨0, 0, 0, [], [], false⟩) := hidOf (by unfold pnV; rw [if_pos (by omega)])
  rw [HPV.out]
  have HJ0 := hidOf (HJB.out wa HW2.out)
  rw [hv] at HJ0
  clear hv HPV hsl hfl HJB
  have t0 : wa.cell? ⟨w.heap.size, 0, none⟩ = some (.int .i64 ix) := HSA.out 0 _ rfl
  have t1 : wa.cell? ⟨w.heap.size, 1, none⟩ = some (.int .i64 nx) := HSA.out 1 _ rfl
  have t2 : wa.cell? ⟨w.heap.size, 2, none⟩ = some (.slice a2 J.length c2) := HSA.out 2 _ rfl
  have t3 : wa.cell? ⟨w.heap.size, 3, none⟩ = some (.slice a3 n3 c3) := HSA.out 3 _ rfl
  have t4 : wa.cell? ⟨w.heap.size, 4, none⟩ = some (.slice a4 Ln.length c4) := HSA.out 4 _ rfl
  have t5 : wa.cell? ⟨w.heap.size, 5, none⟩ = some (.slice a5 A.length c5) := HSA.out 5 _ rfl
  have t6 : wa.cell? ⟨w.heap.size, 6, none⟩ = some (.slice a6 E.length c6) := HSA.out 6 _ rfl
  have t7 : wa.cell? ⟨w.heap.size, 7, none⟩ = some (.slice a7 n7 c7) := HSA.out 7 _ rfl
  have t8 : wa.cell? ⟨w.heap.size, 8, none⟩ = some (.slice a8 n8 c8) := HSA.out 8 _ rfl
  have l0 : w.heap.size < wa.heap.size := lt_of_cell t0
  go_enter Try.func10, Try.ntmps10
  go_upto_region 1 with (fail)
  try rw [hwa]
  clear hwa
  go_upto_region 3 with (go_at_call 20; refine HJ0.out.mono ?_; rintro e w1 ⟨rfl, hb1⟩; have HB1 := hidOf hb1; clear hb1)
  clear t0 t1 t2 t3 t4 t5 t6 t7 t8 l0
  have HP1 : Hid (w1.heap[w.heap.size + 1]? = some (.cells #[.int .i64 0, .int .i64 0, .int .i64 0, .slice none 0 0, .slice none 0 0, .bool false] 35 (0, 0))) := hidOf ((HB1.out.block _ (by omega)).trans HPR.out)
  have p0 : w1.cell? ⟨w.heap.size + 1, 0, none⟩ = some (.int .i64 0) := rowc HP1.out 0 _ rfl
  have p1 : w1.cell? ⟨w.heap.size + 1, 1, none⟩ = some (.int .i64 0) := rowc HP1.out 1 _ rfl
  have p2 : w1.cell? ⟨w.heap.size + 1, 2, none⟩ = some (.int .i64 0) := rowc HP1.out 2 _ rfl
  have p3 : w1.cell? ⟨w.heap.size + 1, 3, none⟩ = some (.slice none 0 0) := rowc HP1.out 3 _ rfl
  have p4 : w1.cell? ⟨w.heap.size + 1, 4, none⟩ = some (.slice none 0 0) := rowc HP1.out 4 _ rfl
  have p5 : w1.cell? ⟨w.heap.size + 1, 5, none⟩ = some (.bool false) := rowc HP1.out 5 _ rfl
  have f0 : w1.frozen? ⟨w.heap.size + 1, 0, none⟩ = false := row_fz HP1.out 0
  have f1 : w1.frozen? ⟨w.heap.size + 1, 1, none⟩ = false := row_fz HP1.out 1
  have f2 : w1.frozen? ⟨w.heap.size + 1, 2, none⟩ = false := row_fz HP1.out 2
  have f3 : w1.frozen? ⟨w.heap.size + 1, 3, none⟩ = false := row_fz HP1.out 3
  have f4 : w1.frozen? ⟨w.heap.size + 1, 4, none⟩ = false := row_fz HP1.out 4
  have f5 : w1.frozen? ⟨w.heap.size + 1, 5, none⟩ = false := row_fz HP1.out 5
  have lp : w.heap.size + 1 < w1.heap.size := lt_of_cell p0
  go_wp2
  have q := (((((((SetB.refl (cs := [.int .i64 0, .int .i64 0, .int .i64 0, .slice none 0 0, .slice none 0 0, .bool false]) HP1.out).step 0 (.int .i64 0)).step 1 (.int .i64 0)).step 2 (.int .i64 0)).step 3 (.slice none 0 0)).step 4 (.slice none 0 0)).step 5 (.bool false))
  simp only [List.set_cons_zero, List.set_cons_succ] at q
  refine bodyPost_ret (results_cell_row Try.results10 _ _ (w.heap.size + 1) 35 #[.int .i64 0, .int .i64 0, .int .i64 0, .slice none 0 0, .slice none 0 0, .bool false] (0, 0) _ rfl (by exact q.h) Try.underlying35 rfl (by kernel_rfl)) rfl ?_
  exact ⟨⟨none, 0, none, 0, rfl, ⟨rfl, .inl ⟨rfl, rfl⟩⟩, ⟨rfl, .inl ⟨rfl, rfl⟩⟩⟩, (HW2.out.trans (HB1.out.mono HW2.out.size)).trans (q.bel (by omega))⟩
 ·obtain ⟨d, hd⟩ : ∃ d, Lj[m] = d := ⟨_, rfl⟩
  have hdj : dfJ Lj id = d := by unfold dfJ; rw [hv, Int.toNat_natCast, getD_at Lj m hm, hd]
  have hng : ¬ dfI Lj id < 0 := by omega
  obtain ⟨Fx, hFx⟩ : ∃ Fx, dfF Lj Ln A id = Fx := ⟨_, rfl⟩
  obtain ⟨Sx, hSx⟩ : ∃ Sx, dfS Lj Ln A id = Sx := ⟨_, rfl⟩
  obtain ⟨ev, hev⟩ : ∃ ev, evX E id = ev := ⟨_, rfl⟩
  have HPV : Hid (pnV Lj Ln A E id = ⟨d.id, d.ve, ev, Sx, (plV d Ln A Fx).1, (plV d Ln A Fx).2⟩) := hidOf (by unfold pnV; rw [if_neg hng, hdj, hFx, hSx, hev])
  have HGR := hidOf (fill_gr (Ln := Ln) (A := A) hng)
  rw [hFx, hdj] at HGR
  have HDF := hidOf (fun (W : World) (h : Below w.heap.size w W) => refDiff_t ix nx a2 c2 a3 n3 c3 a4 c4 a5 c5 a6 E.length c6 a7 n7 c7 a8 n8 c8 id J Lj Ln A W (HJ.out.kept (fun b hb => h.block b hb) (fun b hb => Nat.lt_of_lt_of_le hb h.size)) (HN.out.kept (fun b hb => h.block b hb) (fun b hb => Nat.lt_of_lt_of_le hb h.size)) (HA.out.kept (fun b hb => h.block b hb) (fun b hb => Nat.lt_of_lt_of_le hb h.size)) hsl)
  rw [hFx, hSx] at HDF
  rw [hFx] at hfl
  have HEV := hidOf (fun (W : World) (h : Below w.heap.size w W) => eval_ref ⟨ix, nx, a2, J.length, c2, a3, n3, c3, a4, Ln.length, c4, a5, A.length, c5, a6, E.length, c6, a7, n7, c7, a8, n8, c8⟩ id E W rfl (HE.out.kept (fun b hb => h.block b hb) (fun b hb => Nat.lt_of_lt_of_le hb h.size)))
  have hmJ : m < J.length := by rw [HJ.out.len]; exact hm
  obtain ⟨ga, gc, heq, hG⟩ := HJ.out.dp m hmJ hm
  rw [hd] at heq hG
  obtain ⟨b, off, ha, hQb, hcc⟩ := HJ.out.row.at m hmJ
  rw [heq] at hcc
  have hbw : b < w.heap.size := hQb
  have HG := hidOf hG
  have HCC := hidOf hcc
  subst ha
  have hk0 : ¬ ((m : Int) < 0) := by omega
  have hk1 : (m : Int) < (J.length : Int) := by omega
  have hk2 : decide ((m : Int) < 0) = false := by simp
  have HJ0 := hidOf (HJB.out wa HW2.out)
  rw [hv] at HJ0
  rw [HPV.out]
  clear hv hd hdj hng hFx hSx HPV heq hG hcc hQb hsl HJB
  have t0 : wa.cell? ⟨w.heap.size, 0, none⟩ = some (.int .i64 ix) := HSA.out 0 _ rfl
  have t1 : wa.cell? ⟨w.heap.size, 1, none⟩ = some (.int .i64 nx) := HSA.out 1 _ rfl
  have t2 : wa.cell? ⟨w.heap.size, 2, none⟩ = some (.slice (some ⟨b, off, none⟩) J.length c2) := HSA.out 2 _ rfl
  have t3 : wa.cell? ⟨w.heap.size, 3, none⟩ = some (.slice a3 n3 c3) := HSA.out 3 _ rfl
  have t4 : wa.cell? ⟨w.heap.size, 4, none⟩ = some (.slice a4 Ln.length c4) := HSA.out 4 _ rfl
  have t5 : wa.cell? ⟨w.heap.size, 5, none⟩ = some (.slice a5 A.length c5) := HSA.out 5 _ rfl
  have t6 : wa.cell? ⟨w.heap.size, 6, none⟩ = some (.slice a6 E.length c6) := HSA.out 6 _ rfl
  have t7 : wa.cell? ⟨w.heap.size, 7, none⟩ = some (.slice a7 n7 c7) := HSA.out 7 _ rfl
  have t8 : wa.cell? ⟨w.heap.size, 8, none⟩ = some (.slice a8 n8 c8) := HSA.out 8 _ rfl
  have l0 : w.heap.size < wa.heap.size := lt_of_cell t0
  go_enter Try.func10, Try.ntmps10
  go_upto_region 1 with (fail)
  try rw [hwa]
  clear hwa
  go_upto_region 4 with (go_at_call 20; refine HJ0.out.mono ?_; rintro e w1 ⟨rfl, hb1⟩; have HB1 := hidOf hb1; clear hb1)
  clear t0 t1 t2 t3 t4 t5 t6 t7 t8 l0
  have HW1 := hidOf (HW2.out.trans (HB1.out.mono HW2.out.size))
  have hz1 : w.heap.size + 1 < w1.heap.size := by have := HB1.out.size; omega
  obtain ⟨B2, hB2⟩ : ∃ B2, w.heap.size = B2 := ⟨_, rfl⟩
  have hB2w : w.heap.size ≤ B2 := by omega
  have HS1 : Hid (w1.rangeAt B2 0 [.int .i64 ix, .int .i64 nx, .slice (some ⟨b, off, none⟩) J.length c2, .slice a3 n3 c3, .slice a4 Ln.length c4, .slice a5 A.length c5, .slice a6 E.length c6, .slice a7 n7 c7, .slice a8 n8 c8]) := hidOf (by rw [← hB2]; exact range_of HSA.out (HB1.out.block w.heap.size (by omega)))
  have HPZ : Hid (w1.heap[B2 + 1]? = some (.cells #[.int .i64 0, .int .i64 0, .int .i64 0, .slice none 0 0, .slice none 0 0, .bool false] 35 (0, 0))) := hidOf (by rw [← hB2]; exact (HB1.out.block _ (by omega)).trans HPR.out)
  have hz1 : B2 + 1 < w1.heap.size := by omega
  have hcr := range_of HCC.out (HW1.out.block b hbw)
  have j0 : w1.cell? ⟨b, off + m * 7, none⟩ = some (.int .i64 d.id) := hcr 0 _ rfl
  have j1 : w1.cell? ⟨b, off + m * 7 + 1, none⟩ = some (.int .i64 d.ty) := hcr 1 _ rfl
  have j2 : w1.cell? ⟨b, off + m * 7 + 2, none⟩ = some (.int .i64 d.pr) := hcr 2 _ rfl
  have j3 : w1.cell? ⟨b, off + m * 7 + 3, none⟩ = some (.int .i64 d.pa) := hcr 3 _ rfl
  have j4 : w1.cell? ⟨b, off + m * 7 + 4, none⟩ = some (.slice ga d.gs.length gc) := hcr 4 _ rfl
  have j5 : w1.cell? ⟨b, off + m * 7 + 5, none⟩ = some (.int .i64 d.ve) := hcr 5 _ rfl
  have j6 : w1.cell? ⟨b, off + m * 7 + 6, none⟩ = some (.bool d.sd) := hcr 6 _ rfl
  have lb1 : b < w1.heap.size := lt_of_cell j0
  rw [hB2]
  have HBW : Hid (w.heap.size = B2) := hidOf hB2
  have t0 : w1.cell? ⟨B2, 0, none⟩ = some (.int .i64 ix) := HS1.out 0 _ rfl
  have t1 : w1.cell? ⟨B2, 1, none⟩ = some (.int .i64 nx) := HS1.out 1 _ rfl
  have t2 : w1.cell? ⟨B2, 2, none⟩ = some (.slice (some ⟨b, off, none⟩) J.length c2) := HS1.out 2 _ rfl
  have t3 : w1.cell? ⟨B2, 3, none⟩ = some (.slice a3 n3 c3) := HS1.out 3 _ rfl
  have t4 : w1.cell? ⟨B2, 4, none⟩ = some (.slice a4 Ln.length c4) := HS1.out 4 _ rfl
  have t5 : w1.cell? ⟨B2, 5, none⟩ = some (.slice a5 A.length c5) := HS1.out 5 _ rfl
  have t6 : w1.cell? ⟨B2, 6, none⟩ = some (.slice a6 E.length c6) := HS1.out 6 _ rfl
  have t7 : w1.cell? ⟨B2, 7, none⟩ = some (.slice a7 n7 c7) := HS1.out 7 _ rfl
  have t8 : w1.cell? ⟨B2, 8, none⟩ = some (.slice a8 n8 c8) := HS1.out 8 _ rfl
  have l0 : B2 < w1.heap.size := lt_of_cell t0
  clear hcr HSA HPR HB1 hz2 HCC hB2
  go_upto_region 5 with (fail)
  obtain ⟨BJ, hBJ⟩ : ∃ BJ, w1.heap.size = BJ := ⟨_, rfl⟩
  obtain ⟨w2, hw2⟩ : ∃ w2, w1.alloc (.cells #[.int .i64 d.id, .int .i64 d.ty, .int .i64 d.pr, .int .i64 d.pa, .slice ga d.gs.length gc, .int .i64 d.ve, .bool d.sd] 51) = w2 := ⟨_, rfl⟩
  have hb2 := below1 w1 (.cells #[.int .i64 d.id, .int .i64 d.ty, .int .i64 d.pr, .int .i64 d.pa, .slice ga d.gs.length gc, .int .i64 d.ve, .bool d.sd] 51)
  have hx2 : (w1.alloc (.cells #[.int .i64 d.id, .int .i64 d.ty, .int .i64 d.pr, .int .i64 d.pa, .slice ga d.gs.length gc, .int .i64 d.ve, .bool d.sd] 51)).rangeAt w1.heap.size 0 [.int .i64 d.id, .int .i64 d.ty, .int .i64 d.pr, .int .i64 d.pa, .slice ga d.gs.length gc, .int .i64 d.ve, .bool d.sd] := box_new (Below.refl _ _)
  have hz : (w1.alloc (.cells #[.int .i64 d.id, .int .i64 d.ty, .int .i64 d.pr, .int .i64 d.pa, .slice ga d.gs.length gc, .int .i64 d.ve, .bool d.sd] 51)).heap.size = w1.heap.size + 1 := by simp
  try rw [hw2]
  try rw [hBJ]
  rw [hw2] at hb2 hx2 hz
  rw [hBJ] at hx2 hz
  have hBJ1 : B2 + 1 < BJ := by rw [← hBJ]; exact hz1
  have HX2 := hidOf hx2
  have HS2 := hidOf (range_of HS1.out (hb2.block B2 (by omega)))
  have HPZ := hidOf ((hb2.block (B2 + 1) (by omega)).trans HPZ.out)
  have HW2 := hidOf (HW1.out.trans (hb2.mono HW1.out.size))
  clear t0 t1 t2 t3 t4 t5 t6 t7 t8 l0 lb1 j0 j1 j2 j3 j4 j5 j6
  have HZ2 := hidOf hz
  clear hBJ hw2 hb2 hx2 hz1 HS1 HW1 hz
  have j0 : w2.cell? ⟨BJ, 0, none⟩ = some (.int .i64 d.id) := HX2.out 0 _ rfl
  have j1 : w2.cell? ⟨BJ, 1, none⟩ = some (.int .i64 d.ty) := HX2.out 1 _ rfl
  have j2 : w2.cell? ⟨BJ, 2, none⟩ = some (.int .i64 d.pr) := HX2.out 2 _ rfl
  have j3 : w2.cell? ⟨BJ, 3, none⟩ = some (.int .i64 d.pa) := HX2.out 3 _ rfl
  have j4 : w2.cell? ⟨BJ, 4, none⟩ = some (.slice ga d.gs.length gc) := HX2.out 4 _ rfl
  have j5 : w2.cell? ⟨BJ, 5, none⟩ = some (.int .i64 d.ve) := HX2.out 5 _ rfl
  have j6 : w2.cell? ⟨BJ, 6, none⟩ = some (.bool d.sd) := HX2.out 6 _ rfl
  have lj : BJ < w2.heap.size := lt_of_cell j0
  go_upto_region 6 with (fail)
  have hz := HZ2.out
  obtain ⟨BP, hBP⟩ : ∃ BP, w2.heap.size = BP := ⟨_, rfl⟩
  obtain ⟨w3, hw3⟩ : ∃ w3, w2.alloc (.cells #[.int .i64 d.id, .int .i64 d.ve, .int .i64 0, .slice none 0 0, .slice none 0 0, .bool false] 35) = w3 := ⟨_, rfl⟩
  have hb3 := below1 w2 (.cells #[.int .i64 d.id, .int .i64 d.ve, .int .i64 0, .slice none 0 0, .slice none 0 0, .bool false] 35)
  have hp3 : (w2.alloc (.cells #[.int .i64 d.id, .int .i64 d.ve, .int .i64 0, .slice none 0 0, .slice none 0 0, .bool false] 35)).heap[w2.heap.size]? = some (.cells #[.int .i64 d.id, .int .i64 d.ve, .int .i64 0, .slice none 0 0, .slice none 0 0, .bool false] 35 (0, 0)) := heap_alloc_new _ _
  have hz3 : (w2.alloc (.cells #[.int .i64 d.id, .int .i64 d.ve, .int .i64 0, .slice none 0 0, .slice none 0 0, .bool false] 35)).heap.size = w2.heap.size + 1 := by simp
  try rw [hw3]
  try rw [hBP]
  rw [hw3] at hb3 hp3 hz3
  rw [hBP] at hp3 hz3
  have hBPJ : BP = BJ + 1 := by omega
  have hBPl : BJ < BP := by omega
  have HP3 := hidOf hp3
  have HS3 := hidOf (range_of HS2.out (hb3.block B2 (by omega)))
  have HX3 := hidOf (range_of HX2.out (hb3.block BJ lj))
  have HPZ := hidOf ((hb3.block (B2 + 1) (by omega)).trans HPZ.out)
  have HW3 := hidOf (HW2.out.trans (hb3.mono HW2.out.size))
  have hl3 : BP < w3.heap.size := by omega
  clear j0 j1 j2 j3 j4 j5 j6 lj
  clear hBP hw3 hb3 hp3 hz3 HS2 HX2 HW2 hz hBPJ HZ2
  have hfe : fi (fun x : Qd => isI x.a id) E = -1 ∨ ∃ k : Nat, fi (fun x : Qd => isI x.a id) E = (k : Int) ∧ k < E.length := fi_rng _ E
  have HEV3 := hidOf (HEV.out w3 HW3.out)
  unfold evX at hev
  obtain ⟨fe, hfx⟩ : ∃ fe, fi (fun x : Qd => isI x.a id) E = fe := ⟨_, rfl⟩
  rw [hfx] at hfe hev HEV3
  clear hfx HEV
  have t0 : w3.cell? ⟨B2, 0, none⟩ = some (.int .i64 ix) := HS3.out 0 _ rfl
  have t1 : w3.cell? ⟨B2, 1, none⟩ = some (.int .i64 nx) := HS3.out 1 _ rfl
  have t2 : w3.cell? ⟨B2, 2, none⟩ = some (.slice (some ⟨b, off, none⟩) J.length c2) := HS3.out 2 _ rfl
  have t3 : w3.cell? ⟨B2, 3, none⟩ = some (.slice a3 n3 c3) := HS3.out 3 _ rfl
  have t4 : w3.cell? ⟨B2, 4, none⟩ = some (.slice a4 Ln.length c4) := HS3.out 4 _ rfl
  have t5 : w3.cell? ⟨B2, 5, none⟩ = some (.slice a5 A.length c5) := HS3.out 5 _ rfl
  have t6 : w3.cell? ⟨B2, 6, none⟩ = some (.slice a6 E.length c6) := HS3.out 6 _ rfl
  have t7 : w3.cell? ⟨B2, 7, none⟩ = some (.slice a7 n7 c7) := HS3.out 7 _ rfl
  have t8 : w3.cell? ⟨B2, 8, none⟩ = some (.slice a8 n8 c8) := HS3.out 8 _ rfl
  have l0 : B2 < w3.heap.size := lt_of_cell t0
  go_upto_if 37 with (go_at_call 21; refine HEV3.out.mono ?_; rintro e w4 ⟨rfl, hb4⟩; have HB4 := hidOf hb4; clear hb4)
  clear t0 t1 t2 t3 t4 t5 t6 t7 t8 l0
  have HS4 := hidOf (range_of HS3.out (HB4.out.block B2 (by omega)))
  have HX4 := hidOf (range_of HX3.out (HB4.out.block BJ (by omega)))
  have HP4 : Hid (w4.heap[BP]? = some (.cells #[.int .i64 d.id, .int .i64 d.ve, .int .i64 0, .slice none 0 0, .slice none 0 0, .bool false] 35 (0, 0))) := hidOf ((HB4.out.block _ hl3).trans HP3.out)
  have HPZ := hidOf ((HB4.out.block (B2 + 1) (by omega)).trans HPZ.out)
  have HW4 := hidOf (HW3.out.trans (HB4.out.mono HW3.out.size))
  have hl4 : BP < w4.heap.size := Nat.lt_of_lt_of_le hl3 HB4.out.size
  clear HS3 HX3 HP3 HB4 HEV3 hl3 HW3
  go_cut [] from 17 (fun wc => Hid (wc.heap[BP]? = some (.cells #[.int .i64 d.id, .int .i64 d.ve, .int .i64 ev, .slice none 0 0, .slice none 0 0, .bool false] 35 (0, 0))) ∧ Hid (Bq BP w4 wc))
  case first =>
   rcases hfe with hf | ⟨k, hf, hk⟩
   ·subst hf
    have he0 : ev = 0 := by rw [← hev]; rfl
    subst he0
    go_wp2
    go_meet
    case rel => exact ⟨HP4, hidOf (Bq.refl _ _)⟩
   ·subst hf
    obtain ⟨be, offe, hae, hQe, hce⟩ := HE.out.at k hk
    have hQe' : be < w.heap.size := hQe
    have he0 : ev = E[k].d := by rw [← hev, if_neg (by omega), Int.toNat_natCast, getD_at E k hk]
    have hle : E.length * 32 ≤ 140737488355328 := HE.out.bd
    subst hae
    have hcr := range_of hce (HW4.out.block be hQe')
    have e3 : w4.cell? ⟨be, offe + k * 4 + 3, none⟩ = some (.int .i64 ev) := by rw [he0]; exact hcr 3 _ rfl
    have le : be < w4.heap.size := lt_of_cell e3
    have hq0 : decide ((0 : Int) ≤ (k : Int)) = true := by simp
    have hi0 : ¬ ((k : Int) < 0) := by omega
    have hi1 : (k : Int) < (E.length : Int) := by omega
    clear hce hcr he0 hQe hev
    have t0 : w4.cell? ⟨B2, 0, none⟩ = some (.int .i64 ix) := HS4.out 0 _ rfl
    have t1 : w4.cell? ⟨B2, 1, none⟩ = some (.int .i64 nx) := HS4.out 1 _ rfl
    have t2 : w4.cell? ⟨B2, 2, none⟩ = some (.slice (some ⟨b, off, none⟩) J.length c2) := HS4.out 2 _ rfl
    have t3 : w4.cell? ⟨B2, 3, none⟩ = some (.slice a3 n3 c3) := HS4.out 3 _ rfl
    have t4 : w4.cell? ⟨B2, 4, none⟩ = some (.slice a4 Ln.length c4) := HS4.out 4 _ rfl
    have t5 : w4.cell? ⟨B2, 5, none⟩ = some (.slice a5 A.length c5) := HS4.out 5 _ rfl
    have t6 : w4.cell? ⟨B2, 6, none⟩ = some (.slice (some ⟨be, offe, none⟩) E.length c6) := HS4.out 6 _ rfl
    have t7 : w4.cell? ⟨B2, 7, none⟩ = some (.slice a7 n7 c7) := HS4.out 7 _ rfl
    have t8 : w4.cell? ⟨B2, 8, none⟩ = some (.slice a8 n8 c8) := HS4.out 8 _ rfl
    have l0 : B2 < w4.heap.size := lt_of_cell t0
    have p0 : w4.cell? ⟨BP, 0, none⟩ = some (.int .i64 d.id) := rowc HP4.out 0 _ rfl
    have p1 : w4.cell? ⟨BP, 1, none⟩ = some (.int .i64 d.ve) := rowc HP4.out 1 _ rfl
    have p2 : w4.cell? ⟨BP, 2, none⟩ = some (.int .i64 0) := rowc HP4.out 2 _ rfl
    have p3 : w4.cell? ⟨BP, 3, none⟩ = some (.slice none 0 0) := rowc HP4.out 3 _ rfl
    have p4 : w4.cell? ⟨BP, 4, none⟩ = some (.slice none 0 0) := rowc HP4.out 4 _ rfl
    have p5 : w4.cell? ⟨BP, 5, none⟩ = some (.bool false) := rowc HP4.out 5 _ rfl
    have f0 : w4.frozen? ⟨BP, 0, none⟩ = false := row_fz HP4.out 0
    have f1 : w4.frozen? ⟨BP, 1, none⟩ = false := row_fz HP4.out 1
    have f2 : w4.frozen? ⟨BP, 2, none⟩ = false := row_fz HP4.out 2
    have f3 : w4.frozen? ⟨BP, 3, none⟩ = false := row_fz HP4.out 3
    have f4 : w4.frozen? ⟨BP, 4, none⟩ = false := row_fz HP4.out 4
    have f5 : w4.frozen? ⟨BP, 5, none⟩ = false := row_fz HP4.out 5
    have lp : BP < w4.heap.size := lt_of_cell p0
    have q := (SetB.refl (cs := [.int .i64 d.id, .int .i64 d.ve, .int .i64 0, .slice none 0 0, .slice none 0 0, .bool false]) HP4.out).step 2 (.int .i64 ev)
    simp only [List.set_cons_zero, List.set_cons_succ] at q
    have HQ := hidOf q
    clear q
    go_wp2
    go_meet
    case rel => exact ⟨hidOf HQ.out.h, hidOf (Bq.set HQ.out)⟩
  case rest =>
   obtain ⟨HPc, HBc⟩ := hcut
   clear hev hfe HE
   have hszc := HBc.out.size
   have HSc := hidOf (range_of HS4.out (HBc.out.block B2 (by omega) (by omega)))
   have HXc := hidOf (range_of HX4.out (HBc.out.block BJ (by omega) (by omega)))
   have HPZ := hidOf ((HBc.out.block (B2 + 1) (by omega) (by omega)).trans HPZ.out)
   have HWc := hidOf (HW4.out.trans (HBc.out.bel (n := w.heap.size) (by have := HBW.out; omega) (by have := HBW.out; omega)))
   have hlc : BP < wc.heap.size := by omega
   clear HS4 HX4 HP4 HW4 HBc hszc hl4
   have t0 : wc.cell? ⟨B2, 0, none⟩ = some (.int .i64 ix) := HSc.out 0 _ rfl
   have t1 : wc.cell? ⟨B2, 1, none⟩ = some (.int .i64 nx) := HSc.out 1 _ rfl
   have t2 : wc.cell? ⟨B2, 2, none⟩ = some (.slice (some ⟨b, off, none⟩) J.length c2) := HSc.out 2 _ rfl
   have t3 : wc.cell? ⟨B2, 3, none⟩ = some (.slice a3 n3 c3) := HSc.out 3 _ rfl
   have t4 : wc.cell? ⟨B2, 4, none⟩ = some (.slice a4 Ln.length c4) := HSc.out 4 _ rfl
   have t5 : wc.cell? ⟨B2, 5, none⟩ = some (.slice a5 A.length c5) := HSc.out 5 _ rfl
   have t6 : wc.cell? ⟨B2, 6, none⟩ = some (.slice a6 E.length c6) := HSc.out 6 _ rfl
   have t7 : wc.cell? ⟨B2, 7, none⟩ = some (.slice a7 n7 c7) := HSc.out 7 _ rfl
   have t8 : wc.cell? ⟨B2, 8, none⟩ = some (.slice a8 n8 c8) := HSc.out 8 _ rfl
   have l0 : B2 < wc.heap.size := lt_of_cell t0
   go_upto_region 10 with (go_at_call 22; refine (HDF.out _ HWc.out).mono ?_; rintro e w5 ⟨sa, sc, fa, fc, rfl, hos5, hof5, hb5⟩; have HOS := hidOf hos5; have HOF := hidOf hof5; have HB5 := hidOf hb5; clear hos5 hof5 hb5)
   clear t0 t1 t2 t3 t4 t5 t6 t7 t8 l0
   have HP5 : Hid (w5.heap[BP]? = some (.cells #[.int .i64 d.id, .int .i64 d.ve, .int .i64 ev, .slice none 0 0, .slice none 0 0, .bool false] 35 (0, 0))) := hidOf ((HB5.out.block _ (by omega)).trans HPc.out)
   have p0 : w5.cell? ⟨BP, 0, none⟩ = some (.int .i64 d.id) := rowc HP5.out 0 _ rfl
   have p1 : w5.cell? ⟨BP, 1, none⟩ = some (.int .i64 d.ve) := rowc HP5.out 1 _ rfl
   have p2 : w5.cell? ⟨BP, 2, none⟩ = some (.int .i64 ev) := rowc HP5.out 2 _ rfl
   have p3 : w5.cell? ⟨BP, 3, none⟩ = some (.slice none 0 0) := rowc HP5.out 3 _ rfl
   have p4 : w5.cell? ⟨BP, 4, none⟩ = some (.slice none 0 0) := rowc HP5.out 4 _ rfl
   have p5 : w5.cell? ⟨BP, 5, none⟩ = some (.bool false) := rowc HP5.out 5 _ rfl
   have f0 : w5.frozen? ⟨BP, 0, none⟩ = false := row_fz HP5.out 0
   have f1 : w5.frozen? ⟨BP, 1, none⟩ = false := row_fz HP5.out 1
   have f2 : w5.frozen? ⟨BP, 2, none⟩ = false := row_fz HP5.out 2
   have f3 : w5.frozen? ⟨BP, 3, none⟩ = false := row_fz HP5.out 3
   have f4 : w5.frozen? ⟨BP, 4, none⟩ = false := row_fz HP5.out 4
   have f5 : w5.frozen? ⟨BP, 5, none⟩ = false := row_fz HP5.out 5
   have lp : BP < w5.heap.size := lt_of_cell p0
   go_upto_region 11 with (fail)
   have hq : SetB w5 (w5.setCell ⟨BP, 3, none⟩ (.slice sa Sx.length sc)) BP [.int .i64 d.id, .int .i64 d.ve, .int .i64 ev, .slice sa Sx.length sc, .slice none 0 0, .bool false] 35 := by
    have := (SetB.refl (cs := [.int .i64 d.id, .int .i64 d.ve, .int .i64 ev, .slice none 0 0, .slice none 0 0, .bool false]) HP5.out).step 3 (.slice sa Sx.length sc)
    simpa only [List.set_cons_zero, List.set_cons_succ] using this
   obtain ⟨w6, hw6⟩ : ∃ w6, w5.setCell ⟨BP, 3, none⟩ (.slice sa Sx.length sc) = w6 := ⟨_, rfl⟩
   rw [hw6] at hq
   try rw [hw6]
   have HQ6 := hidOf hq
   have hz6 : w6.heap.size = w5.heap.size := hq.z
   have hz5 := HB5.out.size
   have HP6 : Hid (w6.heap[BP]? = some (.cells #[.int .i64 d.id, .int .i64 d.ve, .int .i64 ev, .slice sa Sx.length sc, .slice none 0 0, .bool false] 35 (0, 0))) := hidOf hq.h
   have HOS6 := hidOf (own_kept HOS.out (fun q h1 _ => HQ6.out.o q (by omega)))
   have HF6 := hidOf ((own_fl (y := 0) sC_len HOF.out (by omega)).kept (w' := w6) (S' := fun q => q < w6.heap.size ∧ q ≠ BP) (fun q hq => HQ6.out.o q (by have := hq.1; omega)) (fun q hq => ⟨by have := hq.lt; omega, by have := hq.1; omega⟩))
   have HS6 := hidOf (range_of (range_of HSc.out (HB5.out.block B2 (by omega))) (HQ6.out.o B2 (by omega)))
   have HX6 := hidOf (range_of (range_of HXc.out (HB5.out.block BJ (by omega))) (HQ6.out.o BJ (by omega)))
   have HPZ := hidOf ((HQ6.out.o (B2 + 1) (by omega)).trans ((HB5.out.block (B2 + 1) (by omega)).trans HPZ.out))
   have hbwx := HBW.out
   have HW6 := hidOf ((HWc.out.trans (HB5.out.mono HWc.out.size)).trans (HQ6.out.bel (n := w.heap.size) (by omega)))
   have hl6 : BP < w6.heap.size := by omega
   have HLO : Hid (w.heap.size ≤ wc.heap.size) := hidOf (by omega)
   have HLC : Hid (BP < wc.heap.size) := hidOf hlc
   clear p0 f0 p1 f1 p2 f2 p3 f3 p4 f4 p5 f5 lp
   clear hq hw6 HP5 HOS HOF HSc HXc HWc HB5 HQ6 hz6 hz5 hlc HDF HPc hbwx
   go_wp2
   go_loopw [11] (fun i wr => ∃ (k : Nat) (M : List Al) (bl : Bool) (pa : Option Addr) (pc : Nat), k ≤ Fx.length ∧ i = .int .i64 k ∧ M.length ≤ k ∧ Hid ((M, bl) = plV d Ln A (Fx.take k)) ∧ Hid (wr.heap[BP]? = some (.cells #[.int .i64 d.id, .int .i64 d.ve, .int .i64 ev, .slice sa Sx.length sc, .slice pa M.length pc, .bool bl] 35 (0, 0))) ∧ Hid (wr.ownsRow w6.heap.size 42 11 (.slice pa M.length pc) M.length (fl Al.cs M)) ∧ Hid (Bq BP w6 wr)) (fun i _ => Fx.length - (intOf i).toNat)
   case atStart => exact ⟨0, [], false, none, 0, Nat.zero_le _, rfl, Nat.zero_le _, hidOf rfl, HP6, hidOf ⟨rfl, .inl ⟨rfl, rfl⟩⟩, hidOf (Bq.refl _ _)⟩
   case round =>
    obtain ⟨k, M, bl, pa, pc, hk, rfl, hmk, HPLV, HPr, HMO, HQr⟩ := hrel
    by_cases hlt : k < Fx.length
    ·obtain ⟨b9, off9, ha9, hQ9, hc9⟩ := HF6.out.at k hlt
     obtain ⟨hq9a, hq9b⟩ : b9 < w6.heap.size ∧ b9 ≠ BP := hQ9
     have HTK := hidOf (take_snoc Fx k hlt)
     obtain ⟨gi, hgi, hy⟩ := HGR.out Fx[k] (List.getElem_mem hlt)
     obtain ⟨yx, hyx⟩ : ∃ yx, (Fx[k]).2 = yx := ⟨_, rfl⟩
     rw [hyx] at hy
     rw [hy] at hc9 HTK
     subst ha9
     obtain ⟨g, hg⟩ : ∃ g, d.gs[gi] = g := ⟨_, rfl⟩
     have HASK := hidOf (askV_at hgi hg yx)
     have hzr := HQr.out.size
     have hbwx := HBW.out
     have hcr := range_of hc9 (HQr.out.block b9 hq9a hq9b)
     have y0 : wr.cell? ⟨b9, off9 + k * 2, none⟩ = some (.int .i64 (gi : Int)) := hcr 0 _ rfl
     have y1 : wr.cell? ⟨b9, off9 + k * 2 + 1, none⟩ = some (.int .i64 yx) := hcr 1 _ rfl
     have l9 : b9 < wr.heap.size := lt_of_cell y0
     have hi0 : ¬ ((k : Int) < 0) := by omega
     have hi1 : (k : Int) < (Fx.length : Int) := by omega
     clear hc9 hcr hy hyx
     clear hbwx
     go_upto_region 15 with (fail)
     have hbwx := HBW.out
     obtain ⟨wq, hwq⟩ : ∃ wq, wr.alloc (.cells #[.int .i64 (gi : Int), .int .i64 yx] 67) = wq := ⟨_, rfl⟩
     obtain ⟨BX, hBX⟩ : ∃ BX, wr.heap.size = BX := ⟨_, rfl⟩
     have hbq := below1 wr (.cells #[.int .i64 (gi : Int), .int .i64 yx] 67)
     have hyr : (wr.alloc (.cells #[.int .i64 (gi : Int), .int .i64 yx] 67)).heap[wr.heap.size]? = some (.cells #[.int .i64 (gi : Int), .int .i64 yx] 67 (0, 0)) := heap_alloc_new _ _
     have hzq : (wr.alloc (.cells #[.int .i64 (gi : Int), .int .i64 yx] 67)).heap.size = wr.heap.size + 1 := by simp
     try rw [hwq]
     try rw [hBX]
     rw [hwq] at hbq hyr hzq
     rw [hBX] at hyr hzq
     have hbx6 : w6.heap.size ≤ BX := by omega
     clear hwq y0 y1 l9 hBX
     obtain ⟨bg, offg, hag, hQg, hcg⟩ := HG.out.at gi hgi
     have hQg2 : bg < w.heap.size := hQg
     rw [hg] at hcg
     have HQq := hidOf (HQr.out.trans (Bq.of hbq))
     have HWq := hidOf (HW6.out.trans (HQq.out.bel (n := w.heap.size) (by omega) (by omega)))
     have hcr := range_of hcg (HWq.out.block bg hQg2)
     have g1 : wq.cell? ⟨bg, offg + gi * 3 + 1, none⟩ = some (.int .i64 g.c) := hcr 1 _ rfl
     have g2 : wq.cell? ⟨bg, offg + gi * 3 + 2, none⟩ = some (.int .i64 g.m) := hcr 2 _ rfl
     have lg : bg < wq.heap.size := lt_of_cell g1
     have hgi0 : ¬ ((gi : Int) < 0) := by omega
     have hgi1 : (gi : Int) < (d.gs.length : Int) := by omega
     have HXq := hidOf (range_of HX6.out (HQq.out.block BJ (by omega) (by omega)))
     have j0 : wq.cell? ⟨BJ, 0, none⟩ = some (.int .i64 d.id) := (show wq.rangeAt BJ 0 [.int .i64 d.id, .int .i64 d.ty, .int .i64 d.pr, .int .i64 d.pa, .slice (some ⟨bg, offg, none⟩) d.gs.length gc, .int .i64 d.ve, .bool d.sd] by rw [← hag]; exact HXq.out) 0 _ rfl
     have j1 : wq.cell? ⟨BJ, 1, none⟩ = some (.int .i64 d.ty) := (show wq.rangeAt BJ 0 [.int .i64 d.id, .int .i64 d.ty, .int .i64 d.pr, .int .i64 d.pa, .slice (some ⟨bg, offg, none⟩) d.gs.length gc, .int .i64 d.ve, .bool d.sd] by rw [← hag]; exact HXq.out) 1 _ rfl
     have j2 : wq.cell? ⟨BJ, 2, none⟩ = some (.int .i64 d.pr) := (show wq.rangeAt BJ 0 [.int .i64 d.id, .int .i64 d.ty, .int .i64 d.pr, .int .i64 d.pa, .slice (some ⟨bg, offg, none⟩) d.gs.length gc, .int .i64 d.ve, .bool d.sd] by rw [← hag]; exact HXq.out) 2 _ rfl
     have j3 : wq.cell? ⟨BJ, 3, none⟩ = some (.int .i64 d.pa) := (show wq.rangeAt BJ 0 [.int .i64 d.id, .int .i64 d.ty, .int .i64 d.pr, .int .i64 d.pa, .slice (some ⟨bg, offg, none⟩) d.gs.length gc, .int .i64 d.ve, .bool d.sd] by rw [← hag]; exact HXq.out) 3 _ rfl
     have j4 : wq.cell? ⟨BJ, 4, none⟩ = some (.slice (some ⟨bg, offg, none⟩) d.gs.length gc) := (show wq.rangeAt BJ 0 [.int .i64 d.id, .int .i64 d.ty, .int .i64 d.pr, .int .i64 d.pa, .slice (some ⟨bg, offg, none⟩) d.gs.length gc, .int .i64 d.ve, .bool d.sd] by rw [← hag]; exact HXq.out) 4 _ rfl
     have j5 : wq.cell? ⟨BJ, 5, none⟩ = some (.int .i64 d.ve) := (show wq.rangeAt BJ 0 [.int .i64 d.id, .int .i64 d.ty, .int .i64 d.pr, .int .i64 d.pa, .slice (some ⟨bg, offg, none⟩) d.gs.length gc, .int .i64 d.ve, .bool d.sd] by rw [← hag]; exact HXq.out) 5 _ rfl
     have j6 : wq.cell? ⟨BJ, 6, none⟩ = some (.bool d.sd) := (show wq.rangeAt BJ 0 [.int .i64 d.id, .int .i64 d.ty, .int .i64 d.pr, .int .i64 d.pa, .slice (some ⟨bg, offg, none⟩) d.gs.length gc, .int .i64 d.ve, .bool d.sd] by rw [← hag]; exact HXq.out) 6 _ rfl
     have lj : BJ < wq.heap.size := lt_of_cell j0
     have y0 : wq.cell? ⟨BX, 0, none⟩ = some (.int .i64 (gi : Int)) := rowc hyr 0 _ rfl
     have y1 : wq.cell? ⟨BX, 1, none⟩ = some (.int .i64 yx) := rowc hyr 1 _ rfl
     have ly : BX < wq.heap.size := lt_of_cell y0
     have HZQ := hidOf hzq
     clear hbwx hzq
     go_upto_region 16 with (fail)
     have hbwx := HBW.out
     have hzq := HZQ.out
     obtain ⟨wv, hwv⟩ : ∃ wv, wq.alloc (.cells #[.int .i64 g.c, .int .i64 g.m] 40) = wv := ⟨_, rfl⟩
     obtain ⟨BA, hBA⟩ : ∃ BA, wq.heap.size = BA := ⟨_, rfl⟩
     have hbv := below1 wq (.cells #[.int .i64 g.c, .int .i64 g.m] 40)
     have hav : (wq.alloc (.cells #[.int .i64 g.c, .int .i64 g.m] 40)).heap[wq.heap.size]? = some (.cells #[.int .i64 g.c, .int .i64 g.m] 40 (0, 0)) := heap_alloc_new _ _
     have hzv : (wq.alloc (.cells #[.int .i64 g.c, .int .i64 g.m] 40)).heap.size = wq.heap.size + 1 := by simp
     try rw [hwv]
     try rw [hBA]
     rw [hwv] at hbv hav hzv
     rw [hBA] at hav hzv
     have HYR := hidOf ((hbv.block BX (by omega)).trans hyr)
     have HAR := hidOf hav
     have HXv := hidOf (range_of HXq.out (hbv.block BJ (by omega)))
     have HQv := hidOf (HQq.out.trans (Bq.of hbv))
     have HSv := hidOf (range_of HS6.out (HQv.out.block B2 (by omega) (by omega)))
     have HPv : Hid (wv.heap[BP]? = some (.cells #[.int .i64 d.id, .int .i64 d.ve, .int .i64 ev, .slice sa Sx.length sc, .slice pa M.length pc, .bool bl] 35 (0, 0))) := hidOf ((hbv.block _ (by omega)).trans ((hbq.block _ (by omega)).trans HPr.out))
     have HMv := hidOf (own_kept (own_kept HMO.out (fun q _ hq => hbq.block q hq)) (fun q _ hq => hbv.block q hq))
     have HWv := hidOf (HWq.out.trans (hbv.mono HWq.out.size))
     have hz6v := HQv.out.size
     have hbal : BA < wv.heap.size := by omega
     have hbxl : BX < wv.heap.size := by omega
     have HSg : Hid (Sg wv ⟨ix, nx, some ⟨b, off, none⟩, J.length, c2, a3, n3, c3, a4, Ln.length, c4, a5, A.length, c5, a6, E.length, c6, a7, n7, c7, a8, n8, c8⟩ Ln A) := hidOf ⟨rfl, rfl, HN.out.kept (fun b hb => HWv.out.block b hb) (fun b hb => Nat.lt_of_lt_of_le hb HWv.out.size), HA.out.kept (fun b hb => HWv.out.block b hb) (fun b hb => Nat.lt_of_lt_of_le hb HWv.out.size)⟩
     have HMr := hidOf ((own_fl (y := 88) Al.len HMv.out (by omega)).kept (w' := wv) (S' := fun b => b < wv.heap.size) (fun _ _ => rfl) (fun _ hb => hb.lt))
     have HMA := hidOf (refMay_any ⟨ix, nx, some ⟨b, off, none⟩, J.length, c2, a3, n3, c3, a4, Ln.length, c4, a5, A.length, c5, a6, E.length, c6, a7, n7, c7, a8, n8, c8⟩ yx g.c g.m Ln A M pa pc wv HSg.out HMr.out hcap)
     have HBE := hidOf (refBest_any ⟨ix, nx, some ⟨b, off, none⟩, J.length, c2, a3, n3, c3, a4, Ln.length, c4, a5, A.length, c5, a6, E.length, c6, a7, n7, c7, a8, n8, c8⟩ g.c g.m Ln A M pa pc wv HSg.out HMr.out hcap)
     have hnf : nfV d Ln A M ((gi : Int), yx) = if d.ty = 3 then (if (chV Ln A M yx g.c g.m).isSome = true then some (ndA Ln yx) else none) else (bV Ln A M g.c g.m).map (fun z => ndA Ln z.1) := by unfold nfV; rw [HASK.out]
     have HBI := hidOf (bF_is Ln A M g.c g.m Ln.length (Nat.le_refl _))
     clear j0 j1 j2 j3 j4 j5 j6 lj y0 y1 ly g1 g2 lg
     clear hbq hbv hav hyr hwv hBA hcr hcg hQg HQq HWq HXq HSg HMr hag hbwx
     have t0 : wv.cell? ⟨B2, 0, none⟩ = some (.int .i64 ix) := HSv.out 0 _ rfl
     have t1 : wv.cell? ⟨B2, 1, none⟩ = some (.int .i64 nx) := HSv.out 1 _ rfl
     have t2 : wv.cell? ⟨B2, 2, none⟩ = some (.slice (some ⟨b, off, none⟩) J.length c2) := HSv.out 2 _ rfl
     have t3 : wv.cell? ⟨B2, 3, none⟩ = some (.slice a3 n3 c3) := HSv.out 3 _ rfl
     have t4 : wv.cell? ⟨B2, 4, none⟩ = some (.slice a4 Ln.length c4) := HSv.out 4 _ rfl
     have t5 : wv.cell? ⟨B2, 5, none⟩ = some (.slice a5 A.length c5) := HSv.out 5 _ rfl
     have t6 : wv.cell? ⟨B2, 6, none⟩ = some (.slice a6 E.length c6) := HSv.out 6 _ rfl
     have t7 : wv.cell? ⟨B2, 7, none⟩ = some (.slice a7 n7 c7) := HSv.out 7 _ rfl
     have t8 : wv.cell? ⟨B2, 8, none⟩ = some (.slice a8 n8 c8) := HSv.out 8 _ rfl
     have l0 : B2 < wv.heap.size := lt_of_cell t0
     have j0 : wv.cell? ⟨BJ, 0, none⟩ = some (.int .i64 d.id) := HXv.out 0 _ rfl
     have j1 : wv.cell? ⟨BJ, 1, none⟩ = some (.int .i64 d.ty) := HXv.out 1 _ rfl
     have j2 : wv.cell? ⟨BJ, 2, none⟩ = some (.int .i64 d.pr) := HXv.out 2 _ rfl
     have j3 : wv.cell? ⟨BJ, 3, none⟩ = some (.int .i64 d.pa) := HXv.out 3 _ rfl
     have j4 : wv.cell? ⟨BJ, 4, none⟩ = some (.slice ga d.gs.length gc) := HXv.out 4 _ rfl
     have j5 : wv.cell? ⟨BJ, 5, none⟩ = some (.int .i64 d.ve) := HXv.out 5 _ rfl
     have j6 : wv.cell? ⟨BJ, 6, none⟩ = some (.bool d.sd) := HXv.out 6 _ rfl
     have lj : BJ < wv.heap.size := lt_of_cell j0
     have y0 : wv.cell? ⟨BX, 0, none⟩ = some (.int .i64 (gi : Int)) := rowc HYR.out 0 _ rfl
     have y1 : wv.cell? ⟨BX, 1, none⟩ = some (.int .i64 yx) := rowc HYR.out 1 _ rfl
     have ly : BX < wv.heap.size := lt_of_cell y0
     have k0 : wv.cell? ⟨BA, 0, none⟩ = some (.int .i64 g.c) := rowc HAR.out 0 _ rfl
     have k1 : wv.cell? ⟨BA, 1, none⟩ = some (.int .i64 g.m) := rowc HAR.out 1 _ rfl
     have lk : BA < wv.heap.size := lt_of_cell k0
     have p4 : wv.cell? ⟨BP, 4, none⟩ = some (.slice pa M.length pc) := rowc HPv.out 4 _ rfl
     have lp : BP < wv.heap.size := lt_of_cell p4
     by_cases hty : d.ty = 3
     ·have hq : (d.ty == 3) = true := by simp [hty]
      rw [if_pos hty] at hnf
      clear hty HBE HBI
      cases hc : (chV Ln A M yx g.c g.m).isSome with
      | false =>
       rw [hc] at HMA hnf
       have HNV : Hid (nfV d Ln A M ((gi : Int), yx) = none) := hidOf (by rw [hnf]; rfl)
       clear hc hnf
       go_upto_region 22 with (go_at_call 23; refine HMA.out.mono ?_; rintro e w7 ⟨rfl, hb7⟩; have HB7 := hidOf hb7; clear hb7)
       clear t0 t1 t2 t3 t4 t5 t6 t7 t8 l0 j0 j1 j2 j3 j4 j5 j6 lj y0 y1 ly k0 k1 lk p4 lp
       have HP8 : Hid (w7.heap[BP]? = some (.cells #[.int .i64 d.id, .int .i64 d.ve, .int .i64 ev, .slice sa Sx.length sc, .slice pa M.length pc, .bool bl] 35 (0, 0))) := hidOf ((HB7.out.block _ (by omega)).trans HPv.out)
       have p0 : w7.cell? ⟨BP, 0, none⟩ = some (.int .i64 d.id) := rowc HP8.out 0 _ rfl
       have p1 : w7.cell? ⟨BP, 1, none⟩ = some (.int .i64 d.ve) := rowc HP8.out 1 _ rfl
       have p2 : w7.cell? ⟨BP, 2, none⟩ = some (.int .i64 ev) := rowc HP8.out 2 _ rfl
       have p3 : w7.cell? ⟨BP, 3, none⟩ = some (.slice sa Sx.length sc) := rowc HP8.out 3 _ rfl
       have p4 : w7.cell? ⟨BP, 4, none⟩ = some (.slice pa M.length pc) := rowc HP8.out 4 _ rfl
       have p5 : w7.cell? ⟨BP, 5, none⟩ = some (.bool bl) := rowc HP8.out 5 _ rfl
       have f0 : w7.frozen? ⟨BP, 0, none⟩ = false := row_fz HP8.out 0
       have f1 : w7.frozen? ⟨BP, 1, none⟩ = false := row_fz HP8.out 1
       have f2 : w7.frozen? ⟨BP, 2, none⟩ = false := row_fz HP8.out 2
       have f3 : w7.frozen? ⟨BP, 3, none⟩ = false := row_fz HP8.out 3
       have f4 : w7.frozen? ⟨BP, 4, none⟩ = false := row_fz HP8.out 4
       have f5 : w7.frozen? ⟨BP, 5, none⟩ = false := row_fz HP8.out 5
       have lp : BP < w7.heap.size := lt_of_cell p0
       have HQ8 : Hid (SetB w7 (w7.setCell ⟨BP, 5, none⟩ (.bool true)) BP [.int .i64 d.id, .int .i64 d.ve, .int .i64 ev, .slice sa Sx.length sc, .slice pa M.length pc, .bool true] 35) := hidOf (by
        have := (SetB.refl (cs := [.int .i64 d.id, .int .i64 d.ve, .int .i64 ev, .slice sa Sx.length sc, .slice pa M.length pc, .bool bl]) HP8.out).step 5 (.bool true)
        simpa only [List.set_cons_zero, List.set_cons_succ] using this)
       go_wp2
       go_roundw
       case rel => exact ⟨k + 1, M, true, pa, pc, by omega, by simp, by omega, hidOf (by rw [HTK.out, plV_snoc, ← HPLV.out]; unfold plS; simp only [HNV.out]), hidOf HQ8.out.h, hidOf (own_kept HMv.out (fun q h1 hq => (HQ8.out.o q (by omega)).trans (HB7.out.block q hq))), hidOf ((HQv.out.trans (Bq.of HB7.out)).trans (Bq.set HQ8.out))⟩
       case measure => simp [intOf]; omega
      | true =>
       obtain ⟨i, hil, hat⟩ := ch_at hc
       rw [hc] at HMA hnf
       have HNV : Hid (nfV d Ln A M ((gi : Int), yx) = some (ndA Ln yx)) := hidOf (by rw [hnf]; rfl)
       clear hc hnf
       have hfa : fi (fun x : Nd => isI x.id (yx)) Ln = (i : Int) := hat
       obtain ⟨bn, offn, han, hQn, hcn⟩ := HN.out.at i hil
       have hQn2 : bn < w.heap.size := hQn
       have hni0 := (fi_at hat hil).1
       obtain ⟨n, hn⟩ : ∃ n, Ln[i] = n := ⟨_, rfl⟩
       rw [hn] at hcn hni0
       have hni : n.id = yx := by simpa [isI] using hni0
       have hnv2 : ndA Ln (yx) = n := by rw [ndA_at hat hil, hn]
       rw [hnv2] at HNV
       subst han
       have hn0 : ¬ ((i : Int) < 0) := by omega
       have hn1 : (i : Int) < (Ln.length : Int) := by omega
       have HND := hidOf (fun (W : World) (h : Below w.heap.size w W) => node_ref ⟨ix, nx, some ⟨b, off, none⟩, J.length, c2, a3, n3, c3, some ⟨bn, offn, none⟩, Ln.length, c4, a5, A.length, c5, a6, E.length, c6, a7, n7, c7, a8, n8, c8⟩ (yx) Ln W rfl (HN.out.kept (fun b hb => h.block b hb) (fun b hb => Nat.lt_of_lt_of_le hb h.size)))
       rw [hfa] at HND
       clear hfa hni0 hn hnv2 hQn
       go_upto_region 23 with (go_at_call 23; refine HMA.out.mono ?_; rintro e w7 ⟨rfl, hb7⟩; have HB7 := hidOf hb7; clear hb7)
       clear t0 t1 t2 t3 t4 t5 t6 t7 t8 l0 j0 j1 j2 j3 j4 j5 j6 lj y0 y1 ly k0 k1 lk p4 lp
       have HW7 := hidOf (HWv.out.trans (HB7.out.mono HWv.out.size))
       have HS7 := hidOf (range_of HSv.out (HB7.out.block B2 (by omega)))
       have t0 : w7.cell? ⟨B2, 0, none⟩ = some (.int .i64 ix) := HS7.out 0 _ rfl
       have t1 : w7.cell? ⟨B2, 1, none⟩ = some (.int .i64 nx) := HS7.out 1 _ rfl
       have t2 : w7.cell? ⟨B2, 2, none⟩ = some (.slice (some ⟨b, off, none⟩) J.length c2) := HS7.out 2 _ rfl
       have t3 : w7.cell? ⟨B2, 3, none⟩ = some (.slice a3 n3 c3) := HS7.out 3 _ rfl
       have t4 : w7.cell? ⟨B2, 4, none⟩ = some (.slice (some ⟨bn, offn, none⟩) Ln.length c4) := HS7.out 4 _ rfl
       have t5 : w7.cell? ⟨B2, 5, none⟩ = some (.slice a5 A.length c5) := HS7.out 5 _ rfl
       have t6 : w7.cell? ⟨B2, 6, none⟩ = some (.slice a6 E.length c6) := HS7.out 6 _ rfl
       have t7 : w7.cell? ⟨B2, 7, none⟩ = some (.slice a7 n7 c7) := HS7.out 7 _ rfl
       have t8 : w7.cell? ⟨B2, 8, none⟩ = some (.slice a8 n8 c8) := HS7.out 8 _ rfl
       have l0 : B2 < w7.heap.size := lt_of_cell t0
       go_upto_region 24 with (go_at_call 25; refine (HND.out _ HW7.out).mono ?_; rintro e w8 ⟨rfl, hb8⟩; have HB8 := hidOf (HB7.out.trans (hb8.mono HB7.out.size)); clear hb8)
       clear t0 t1 t2 t3 t4 t5 t6 t7 t8 l0
       have hz8 := HB8.out.size
       have HQ8 := hidOf ((HQv.out.trans (Bq.of HB8.out)).trans (Bq.of (bdrew w8)))
       have hz68 : w6.heap.size ≤ w8.heap.size := HQ8.out.size
       have HW8 := hidOf (HWv.out.trans (HB8.out.mono HWv.out.size))
       have HP8 : Hid (w8.heap[BP]? = some (.cells #[.int .i64 d.id, .int .i64 d.ve, .int .i64 ev, .slice sa Sx.length sc, .slice pa M.length pc, .bool bl] 35 (0, 0))) := hidOf ((HB8.out.block _ (by omega)).trans HPv.out)
       have HX8 := hidOf (range_of HXv.out (HB8.out.block BJ (by omega)))
       have HS8 : Hid (w8.rangeAt B2 0 [.int .i64 ix, .int .i64 nx, .slice (some ⟨b, off, none⟩) J.length c2, .slice a3 n3 c3, .slice (some ⟨bn, offn, none⟩) Ln.length c4, .slice a5 A.length c5, .slice a6 E.length c6, .slice a7 n7 c7, .slice a8 n8 c8]) := hidOf (range_of HSv.out (HB8.out.block B2 (by omega)))
       have HYR8 : Hid (w8.heap[BX]? = some (.cells #[.int .i64 (gi : Int), .int .i64 yx] 67 (0, 0))) := hidOf ((HB8.out.block BX (by omega)).trans HYR.out)
       have HAR8 : Hid (w8.heap[BA]? = some (.cells #[.int .i64 g.c, .int .i64 g.m] 40 (0, 0))) := hidOf ((HB8.out.block BA (by omega)).trans HAR.out)
       have HM8 := hidOf (own_kept (w' := w8) HMv.out (fun q _ hq => HB8.out.block q hq))
       have hbx : BX < w8.heap.size := by omega
       have hba : BA < w8.heap.size := by omega
       have hbnw : bn < w6.heap.size := by omega
       have HNI : Hid (n.id = yx) := hidOf hni
       have hcrn := range_of hcn (HW8.out.block bn hQn2)
       have hdz : w8.drew.heap.size = w8.heap.size := rfl
       have hb10 := below1 w8.drew (.cells #[.int .i64 0, .int .i64 d.id, .int .i64 d.ve, .int .i64 (gi : Int), .int .i64 yx, .int .i64 yx, .int .i64 n.ep, .int .i64 g.c, .int .i64 g.m, .bool false, .int .i64 0] 42)
       have HH : Hid ((fun (wz : World) => wz.cell? ⟨BP, 4, none⟩ = some (.slice pa M.length pc) ∧ wz.cell? ⟨BJ, 0, none⟩ = some (.int .i64 d.id) ∧ wz.cell? ⟨BJ, 5, none⟩ = some (.int .i64 d.ve) ∧ wz.cell? ⟨BX, 0, none⟩ = some (.int .i64 (gi : Int)) ∧ wz.cell? ⟨BX, 1, none⟩ = some (.int .i64 yx) ∧ wz.cell? ⟨B2, 4, none⟩ = some (.slice (some ⟨bn, offn, none⟩) Ln.length c4) ∧ wz.cell? ⟨bn, offn + i * 8 + 6, none⟩ = some (.int .i64 n.ep) ∧ wz.cell? ⟨BA, 0, none⟩ = some (.int .i64 g.c) ∧ wz.cell? ⟨BA, 1, none⟩ = some (.int .i64 g.m)) w8.drew) := hidOf ⟨rowc HP8.out 4 _ rfl, HX8.out 0 _ rfl, HX8.out 5 _ rfl, rowc HYR8.out 0 _ rfl, rowc HYR8.out 1 _ rfl, HS8.out 4 _ rfl, hcrn 6 _ rfl, rowc HAR8.out 0 _ rfl, rowc HAR8.out 1 _ rfl⟩
       have KB := hidOf (fun (W : World) (hp : W.heap[BP]? = w8.heap[BP]?) (hj : W.heap[BJ]? = w8.heap[BJ]?) (hx : W.heap[BX]? = w8.heap[BX]?) (h2 : W.heap[B2]? = w8.heap[B2]?) (hn : W.heap[bn]? = w8.heap[bn]?) (ha : W.heap[BA]? = w8.heap[BA]?) => (show (fun (wz : World) => wz.cell? ⟨BP, 4, none⟩ = some (.slice pa M.length pc) ∧ wz.cell? ⟨BJ, 0, none⟩ = some (.int .i64 d.id) ∧ wz.cell? ⟨BJ, 5, none⟩ = some (.int .i64 d.ve) ∧ wz.cell? ⟨BX, 0, none⟩ = some (.int .i64 (gi : Int)) ∧ wz.cell? ⟨BX, 1, none⟩ = some (.int .i64 yx) ∧ wz.cell? ⟨B2, 4, none⟩ = some (.slice (some ⟨bn, offn, none⟩) Ln.length c4) ∧ wz.cell? ⟨bn, offn + i * 8 + 6, none⟩ = some (.int .i64 n.ep) ∧ wz.cell? ⟨BA, 0, none⟩ = some (.int .i64 g.c) ∧ wz.cell? ⟨BA, 1, none⟩ = some (.int .i64 g.m)) W from by
        obtain ⟨g0, g1, g2, g3, g4, g5, g6, g7, g8⟩ := HH.out
        exact ⟨(World.cell?_of_block hp).trans g0, (World.cell?_of_block hj).trans g1, (World.cell?_of_block hj).trans g2, (World.cell?_of_block hx).trans g3, (World.cell?_of_block hx).trans g4, (World.cell?_of_block h2).trans g5, (World.cell?_of_block hn).trans g6, (World.cell?_of_block ha).trans g7, (World.cell?_of_block ha).trans g8⟩))
       have HML : Hid (M.length + 1 ≤ maxLen) := hidOf (by unfold maxLen; omega)
       have HBY : Hid ((M.length + 1) * 88 ≤ 140737488355328) := hidOf (by omega)
       clear hcrn hcn hni
       refine wp_region_M (fun (wz : World) => wz.cell? ⟨BP, 4, none⟩ = some (.slice pa M.length pc) ∧ wz.cell? ⟨BJ, 0, none⟩ = some (.int .i64 d.id) ∧ wz.cell? ⟨BJ, 5, none⟩ = some (.int .i64 d.ve) ∧ wz.cell? ⟨BX, 0, none⟩ = some (.int .i64 (gi : Int)) ∧ wz.cell? ⟨BX, 1, none⟩ = some (.int .i64 yx) ∧ wz.cell? ⟨B2, 4, none⟩ = some (.slice (some ⟨bn, offn, none⟩) Ln.length c4) ∧ wz.cell? ⟨bn, offn + i * 8 + 6, none⟩ = some (.int .i64 n.ep) ∧ wz.cell? ⟨BA, 0, none⟩ = some (.int .i64 g.c) ∧ wz.cell? ⟨BA, 1, none⟩ = some (.int .i64 g.m)) 22 (by kernel_rfl) ?_
       have hHeld : (fun (wz : World) => wz.cell? ⟨BP, 4, none⟩ = some (.slice pa M.length pc) ∧ wz.cell? ⟨BJ, 0, none⟩ = some (.int .i64 d.id) ∧ wz.cell? ⟨BJ, 5, none⟩ = some (.int .i64 d.ve) ∧ wz.cell? ⟨BX, 0, none⟩ = some (.int .i64 (gi : Int)) ∧ wz.cell? ⟨BX, 1, none⟩ = some (.int .i64 yx) ∧ wz.cell? ⟨B2, 4, none⟩ = some (.slice (some ⟨bn, offn, none⟩) Ln.length c4) ∧ wz.cell? ⟨bn, offn + i * 8 + 6, none⟩ = some (.int .i64 n.ep) ∧ wz.cell? ⟨BA, 0, none⟩ = some (.int .i64 g.c) ∧ wz.cell? ⟨BA, 1, none⟩ = some (.int .i64 g.m)) _ := HH.out
       refine wpAnyM_take (i := 0) (oi := { dst := some 95, op := Op.fieldAddr 35 (Operand.tmp 7) 4, type := 0, pos := "ref.go:40", after := #[], guard := none }) (v := .pointer (some ⟨BP, 4, none⟩)) rfl (by kernel_rfl) (by kernel_rfl) (by kernel_rfl) (by kernel_rfl) (by kernel_rfl) (fun _ _ _ h => h) (Or.inl ⟨by rfl, ?_⟩) hHeld ?_
       ·(intro w hSw; (try dsimp only at hSw); go_simp)
       try simp only [Act.put, List.setIfInBounds_toArray, List.set_cons_zero, List.set_cons_succ]
       refine wpAnyM_take (i := 1) (oi := { dst := some 96, op := Op.load 24 (Operand.tmp 95), type := 24, pos := "ref.go:40", after := #[{ on := 0, ground := Ground.data }], guard := none }) (v := .slice pa M.length pc) rfl (by kernel_rfl) (by kernel_rfl) (by kernel_rfl) (by kernel_rfl) (by kernel_rfl) (fun _ _ _ h => h) (Or.inl ⟨by rfl, ?_⟩) hHeld ?_
       ·(intro w hSw; (try dsimp only at hSw); go_simp)
       try simp only [Act.put, List.setIfInBounds_toArray, List.set_cons_zero, List.set_cons_succ]
       refine wpAnyM_take (i := 2) (oi := { dst := some 97, op := Op.fieldAddr 51 (Operand.tmp 6) 0, type := 0, pos := "ref.go:40", after := #[], guard := none }) (v := .pointer (some ⟨BJ, 0, none⟩)) rfl (by kernel_rfl) (by kernel_rfl) (by kernel_rfl) (by kernel_rfl) (by kernel_rfl) (fun _ _ _ h => h) (Or.inl ⟨by rfl, ?_⟩) hHeld ?_
       ·(intro w hSw; (try dsimp only at hSw); go_simp)
       try simp only [Act.put, List.setIfInBounds_toArray, List.set_cons_zero, List.set_cons_succ]
       refine wpAnyM_take (i := 3) (oi := { dst := some 98, op := Op.load 3 (Operand.tmp 97), type := 3, pos := "ref.go:40", after := #[{ on := 2, ground := Ground.data }], guard := none }) (v := .int .i64 d.id) rfl (by kernel_rfl) (by kernel_rfl) (by kernel_rfl) (by kernel_rfl) (by kernel_rfl) (fun _ _ _ h => h) (Or.inl ⟨by rfl, ?_⟩) hHeld ?_
       ·(intro w hSw; (try dsimp only at hSw); go_simp)
       try simp only [Act.put, List.setIfInBounds_toArray, List.set_cons_zero, List.set_cons_succ]
       refine wpAnyM_take (i := 4) (oi := { dst := some 99, op := Op.fieldAddr 51 (Operand.tmp 6) 5, type := 0, pos := "ref.go:40", after := #[], guard := none }) (v := .pointer (some ⟨BJ, 5, none⟩)) rfl (by kernel_rfl) (by kernel_rfl) (by kernel_rfl) (by kernel_rfl) (by kernel_rfl) (fun _ _ _ h => h) (Or.inl ⟨by rfl, ?_⟩) hHeld ?_
       ·(intro w hSw; (try dsimp only at hSw); go_simp)
       try simp only [Act.put, List.setIfInBounds_toArray, List.set_cons_zero, List.set_cons_succ]
       refine wpAnyM_take (i := 5) (oi := { dst := some 100, op := Op.load 3 (Operand.tmp 99), type := 3, pos := "ref.go:40", after := #[{ on := 4, ground := Ground.data }], guard := none }) (v := .int .i64 d.ve) rfl (by kernel_rfl) (by kernel_rfl) (by kernel_rfl) (by kernel_rfl) (by kernel_rfl) (fun _ _ _ h => h) (Or.inl ⟨by rfl, ?_⟩) hHeld ?_
       ·(intro w hSw; (try dsimp only at hSw); go_simp)
       try simp only [Act.put, List.setIfInBounds_toArray, List.set_cons_zero, List.set_cons_succ]
       refine wpAnyM_take (i := 6) (oi := { dst := some 101, op := Op.fieldAddr 67 (Operand.tmp 12) 0, type := 0, pos := "ref.go:40", after := #[], guard := none }) (v := .pointer (some ⟨BX, 0, none⟩)) rfl (by kernel_rfl) (by kernel_rfl) (by kernel_rfl) (by kernel_rfl) (by kernel_rfl) (fun _ _ _ h => h) (Or.inl ⟨by rfl, ?_⟩) hHeld ?_
       ·(intro w hSw; (try dsimp only at hSw); go_simp)
       try simp only [Act.put, List.setIfInBounds_toArray, List.set_cons_zero, List.set_cons_succ]
       refine wpAnyM_take (i := 7) (oi := { dst := some 102, op := Op.load 3 (Operand.tmp 101), type := 3, pos := "ref.go:40", after := #[{ on := 6, ground := Ground.data }], guard := none }) (v := .int .i64 (gi : Int)) rfl (by kernel_rfl) (by kernel_rfl) (by kernel_rfl) (by kernel_rfl) (by kernel_rfl) (fun _ _ _ h => h) (Or.inl ⟨by rfl, ?_⟩) hHeld ?_
       ·(intro w hSw; (try dsimp only at hSw); go_simp)
       try simp only [Act.put, List.setIfInBounds_toArray, List.set_cons_zero, List.set_cons_succ]
       refine wpAnyM_take (i := 8) (oi := { dst := some 103, op := Op.fieldAddr 67 (Operand.tmp 12) 1, type := 0, pos := "ref.go:40", after := #[], guard := none }) (v := .pointer (some ⟨BX, 1, none⟩)) rfl (by kernel_rfl) (by kernel_rfl) (by kernel_rfl) (by kernel_rfl) (by kernel_rfl) (fun _ _ _ h => h) (Or.inl ⟨by rfl, ?_⟩) hHeld ?_
       ·(intro w hSw; (try dsimp only at hSw); go_simp)
       try simp only [Act.put, List.setIfInBounds_toArray, List.set_cons_zero, List.set_cons_succ]
       refine wpAnyM_take (i := 9) (oi := { dst := some 104, op := Op.load 3 (Operand.tmp 103), type := 3, pos := "ref.go:40", after := #[{ on := 8, ground := Ground.data }], guard := none }) (v := .int .i64 yx) rfl (by kernel_rfl) (by kernel_rfl) (by kernel_rfl) (by kernel_rfl) (by kernel_rfl) (fun _ _ _ h => h) (Or.inl ⟨by rfl, ?_⟩) hHeld ?_
       ·(intro w hSw; (try dsimp only at hSw); go_simp)
       try simp only [Act.put, List.setIfInBounds_toArray, List.set_cons_zero, List.set_cons_succ]
       refine wpAnyM_take (i := 10) (oi := { dst := some 105, op := Op.move (Operand.tmp 14), type := 3, pos := "ref.go:40", after := #[], guard := none }) (v := .int .i64 yx) rfl (by kernel_rfl) (by kernel_rfl) (by kernel_rfl) (by kernel_rfl) (by kernel_rfl) (fun _ _ _ h => h) (Or.inl ⟨by rfl, ?_⟩) hHeld ?_
       ·(intro w hSw; (try dsimp only at hSw); go_simp)
       try simp only [Act.put, List.setIfInBounds_toArray, List.set_cons_zero, List.set_cons_succ]
       refine wpAnyM_take (i := 11) (oi := { dst := some 106, op := Op.fieldAddr 29 (Operand.tmp 2) 4, type := 0, pos := "ref.go:40", after := #[], guard := none }) (v := .pointer (some ⟨B2, 4, none⟩)) rfl (by kernel_rfl) (by kernel_rfl) (by kernel_rfl) (by kernel_rfl) (by kernel_rfl) (fun _ _ _ h => h) (Or.inl ⟨by rfl, ?_⟩) hHeld ?_
       ·(intro w hSw; (try dsimp only at hSw); go_simp)
       try simp only [Act.put, List.setIfInBounds_toArray, List.set_cons_zero, List.set_cons_succ]
       refine wpAnyM_take (i := 12) (oi := { dst := some 107, op := Op.load 23 (Operand.tmp 106), type := 23, pos := "ref.go:40", after := #[{ on := 11, ground := Ground.data }], guard := none }) (v := .slice (some ⟨bn, offn, none⟩) Ln.length c4) rfl (by kernel_rfl) (by kernel_rfl) (by kernel_rfl) (by kernel_rfl) (by kernel_rfl) (fun _ _ _ h => h) (Or.inl ⟨by rfl, ?_⟩) hHeld ?_
       ·(intro w hSw; (try dsimp only at hSw); go_simp)
       try simp only [Act.put, List.setIfInBounds_toArray, List.set_cons_zero, List.set_cons_succ]
       refine wpAnyM_take (i := 13) (oi := { dst := some 108, op := Op.move (Operand.tmp 16), type := 3, pos := "ref.go:40", after := #[], guard := none }) (v := .int .i64 (i : Int)) rfl (by kernel_rfl) (by kernel_rfl) (by kernel_rfl) (by kernel_rfl) (by kernel_rfl) (fun _ _ _ h => h) (Or.inl ⟨by rfl, ?_⟩) hHeld ?_
       ·(intro w hSw; (try dsimp only at hSw); go_simp)
       try simp only [Act.put, List.setIfInBounds_toArray, List.set_cons_zero, List.set_cons_succ]
       refine wpAnyM_take (i := 14) (oi := { dst := some 109, op := Op.indexAddr 23 (Operand.tmp 107) (Operand.tmp 108), type := 0, pos := "ref.go:40", after := #[{ on := 12, ground := Ground.data }, { on := 13, ground := Ground.data }], guard := none }) (v := .pointer (some ⟨bn, offn + i * 8, none⟩)) rfl (by kernel_rfl) (by kernel_rfl) (by kernel_rfl) (by kernel_rfl) (by kernel_rfl) (fun _ _ _ h => h) (Or.inl ⟨by rfl, ?_⟩) hHeld ?_
       ·(intro w hSw; (try dsimp only at hSw); go_simp)
       try simp only [Act.put, List.setIfInBounds_toArray, List.set_cons_zero, List.set_cons_succ]
       refine wpAnyM_take (i := 15) (oi := { dst := some 110, op := Op.fieldAddr 46 (Operand.tmp 109) 5, type := 0, pos := "ref.go:40", after := #[{ on := 14, ground := Ground.data }], guard := none }) (v := .pointer (some ⟨bn, offn + i * 8 + 6, none⟩)) rfl (by kernel_rfl) (by kernel_rfl) (by kernel_rfl) (by kernel_rfl) (by kernel_rfl) (fun _ _ _ h => h) (Or.inl ⟨by rfl, ?_⟩) hHeld ?_
       ·(intro w hSw; (try dsimp only at hSw); go_simp)
       try simp only [Act.put, List.setIfInBounds_toArray, List.set_cons_zero, List.set_cons_succ]
       refine wpAnyM_take (i := 16) (oi := { dst := some 111, op := Op.load 3 (Operand.tmp 110), type := 3, pos := "ref.go:40", after := #[{ on := 15, ground := Ground.data }], guard := none }) (v := .int .i64 n.ep) rfl (by kernel_rfl) (by kernel_rfl) (by kernel_rfl) (by kernel_rfl) (by kernel_rfl) (fun _ _ _ h => h) (Or.inl ⟨by rfl, ?_⟩) hHeld ?_
       ·(intro w hSw; (try dsimp only at hSw); go_simp)
       try simp only [Act.put, List.setIfInBounds_toArray, List.set_cons_zero, List.set_cons_succ]
       refine wpAnyM_take (i := 17) (oi := { dst := some 112, op := Op.load 40 (Operand.tmp 13), type := 40, pos := "ref.go:40", after := #[], guard := none }) (v := .agg #[.int .i64 g.c, .int .i64 g.m]) rfl (by kernel_rfl) (by kernel_rfl) (by kernel_rfl) (by kernel_rfl) (by kernel_rfl) (fun _ _ _ h => h) (Or.inl ⟨by rfl, ?_⟩) hHeld ?_
       ·(intro w hSw; (try dsimp only at hSw); go_simp)
       try simp only [Act.put, List.setIfInBounds_toArray, List.set_cons_zero, List.set_cons_succ]
       refine wpAnyM_take (i := 18) (oi := { dst := some 113, op := Op.build 42 #[(1, Operand.tmp 98), (2, Operand.tmp 100), (3, Operand.tmp 102), (4, Operand.tmp 104), (5, Operand.tmp 105), (6, Operand.tmp 111), (7, Operand.tmp 112)], type := 42, pos := "ref.go:40", after := #[{ on := 3, ground := Ground.data }, { on := 5, ground := Ground.data }, { on := 7, ground := Ground.data }, { on := 9, ground := Ground.data }, { on := 10, ground := Ground.data }, { on := 16, ground := Ground.data }, { on := 17, ground := Ground.data }], guard := none }) (v := .agg #[.int .i64 0, .int .i64 d.id, .int .i64 d.ve, .int .i64 (gi : Int), .int .i64 yx, .int .i64 yx, .int .i64 n.ep, .int .i64 g.c, .int .i64 g.m, .bool false, .int .i64 0]) rfl (by kernel_rfl) (by kernel_rfl) (by kernel_rfl) (by kernel_rfl) (by kernel_rfl) (fun _ _ _ h => h) (Or.inl ⟨by rfl, ?_⟩) hHeld ?_
       ·(intro w hSw; (try dsimp only at hSw); go_simp)
       try simp only [Act.put, List.setIfInBounds_toArray, List.set_cons_zero, List.set_cons_succ]
       refine wpAnyM_one (i := 19) (o := { dst := some 114, op := Op.buildSlice 24 1 #[(0, Operand.tmp 113)], type := 24, pos := "ref.go:40", after := #[{ on := 18, ground := Ground.data }], guard := none }) (by kernel_rfl) rfl (fun K hK => ?_)
       rw [if_pos (by rfl)]
       go_simp
       have H10 := hidOf (KB.out (w8.drew.alloc (.cells #[.int .i64 0, .int .i64 d.id, .int .i64 d.ve, .int .i64 (gi : Int), .int .i64 yx, .int .i64 yx, .int .i64 n.ep, .int .i64 g.c, .int .i64 g.m, .bool false, .int .i64 0] 42)) ((hb10.block _ (by omega))) ((hb10.block _ (by omega))) ((hb10.block _ (by omega))) ((hb10.block _ (by omega))) ((hb10.block _ (by omega))) ((hb10.block _ (by omega))))
       refine hK.out _ _ (fun _ => H10.out) ?_
       clear hK K
       try simp only [Act.put, List.setIfInBounds_toArray, List.set_cons_zero, List.set_cons_succ]
       refine wpAnyM_one (i := 20) (o := { dst := some 115, op := Op.call { callee := Callee.builtin Builtin.append, args := #[Operand.tmp 96, Operand.tmp 114], argTypes := #[24, 24] }, type := 24, pos := "ref.go:40", after := #[{ on := 1, ground := Ground.data }, { on := 19, ground := Ground.data }], guard := none }) (by kernel_rfl) rfl (fun K hK => ?_)
       rw [if_pos (by rfl)]
       have HOW := hidOf (own_kept HM8.out (fun q _ hq => hb10.block q hq))
       have HNEW : Hid (∀ j u, (Al.cs (plA d n ((gi : Int), yx)))[j]? = some u → (w8.drew.alloc (.cells #[.int .i64 0, .int .i64 d.id, .int .i64 d.ve, .int .i64 (gi : Int), .int .i64 yx, .int .i64 yx, .int .i64 n.ep, .int .i64 g.c, .int .i64 g.m, .bool false, .int .i64 0] 42)).cell? ((⟨w8.drew.heap.size, 0, none⟩ : Addr).add j) = some u) := hidOf (fun j u hj => by have hj2 := hj; unfold plA at hj2; rw [HASK.out, HNI.out] at hj2; exact newN w8.drew [.int .i64 0, .int .i64 d.id, .int .i64 d.ve, .int .i64 (gi : Int), .int .i64 yx, .int .i64 yx, .int .i64 n.ep, .int .i64 g.c, .int .i64 g.m, .bool false, .int .i64 0] 42 j u hj2)
       refine oper_app1p _ _ _ 24 rfl w6.heap.size 42 _ 11 88 Try.underlying24 info33 rfl (by decide) pa pc M.length (fl Al.cs M) rfl HOW.out ⟨w8.heap.size, 0, none⟩ 1 (Al.cs (plA d n ((gi : Int), yx))) rfl rfl HNEW.out (Al.one _) HML.out HBY.out (Nat.le_trans hz68 (show w8.heap.size ≤ _ from hb10.size)) ?_
       intro pa2 pc2 w11 ho hg _
       have HO11 := hidOf ho
       have HG11 : Hid ((w8.drew.alloc (.cells #[.int .i64 0, .int .i64 d.id, .int .i64 d.ve, .int .i64 (gi : Int), .int .i64 yx, .int .i64 yx, .int .i64 n.ep, .int .i64 g.c, .int .i64 g.m, .bool false, .int .i64 0] 42)).grownBy w11 (Value.slice pa M.length pc).ownBlock) := hidOf hg
       clear ho hg
       have hz10 : w8.heap.size ≤ (w8.drew.alloc (.cells #[.int .i64 0, .int .i64 d.id, .int .i64 d.ve, .int .i64 (gi : Int), .int .i64 yx, .int .i64 yx, .int .i64 n.ep, .int .i64 g.c, .int .i64 g.m, .bool false, .int .i64 0] 42)).heap.size := hb10.size
       have HQ10 : Hid (Bq BP w6 w11) := hidOf ((HQ8.out.trans (Bq.of hb10)).grown HG11.out (fun x hx => (own_blk2 HM8.out x hx.symm).1))
       have hgS : ∀ (q t : Nat) (cs : Array Value), t ≠ 42 → w8.heap[q]? = some (.cells cs t (0, 0)) → q < w8.heap.size → w11.heap[q]? = w8.heap[q]? := fun q t cs ht hq hl => (HG11.out.block q (by have := hb10.size; omega) (fun e => by obtain ⟨cur, hc⟩ := own_ty HOW.out q e.symm; rw [(hb10.block q (by omega)).trans hq] at hc; simp at hc; exact ht hc.2)).trans (hb10.block q (by omega))
       have hlo : ∀ q, q < w6.heap.size → w11.heap[q]? = w8.heap[q]? := fun q hq => (HG11.out.block _ (by have := hb10.size; omega) (fun e => absurd (own_blk2 HM8.out _ e.symm).1 (by omega))).trans (hb10.block _ (by omega))
       have HP11 : Hid (w11.heap[BP]? = some (.cells #[.int .i64 d.id, .int .i64 d.ve, .int .i64 ev, .slice sa Sx.length sc, .slice pa M.length pc, .bool bl] 35 (0, 0))) := hidOf ((hlo _ (by omega)).trans HP8.out)
       have H11 := hidOf (KB.out w11 (hlo _ (by omega)) (hlo _ (by omega)) (hgS _ 67 _ (by decide) HYR8.out hbx) (hlo _ (by omega)) (hlo _ (by omega)) (hgS _ 40 _ (by decide) HAR8.out hba))
       clear hgS hlo HOW HNEW
       try simp only [Act.put, List.setIfInBounds_toArray, List.set_cons_zero, List.set_cons_succ]
       refine hK.out _ _ (fun _ => H11.out) ?_
       clear hK K
       try simp only [Act.put, List.setIfInBounds_toArray, List.set_cons_zero, List.set_cons_succ]
       refine wpAnyM_one (i := 21) (o := { dst := some 116, op := Op.fieldAddr 35 (Operand.tmp 7) 4, type := 0, pos := "ref.go:40", after := #[{ on := 0, ground := Ground.phase }, { on := 1, ground := Ground.phase }, { on := 2, ground := Ground.phase }, { on := 3, ground := Ground.phase }, { on := 4, ground := Ground.phase }, { on := 5, ground := Ground.phase }, { on := 6, ground := Ground.phase }, { on := 7, ground := Ground.phase }, { on := 8, ground := Ground.phase }, { on := 9, ground := Ground.phase }, { on := 10, ground := Ground.phase }, { on := 11, ground := Ground.phase }, { on := 12, ground := Ground.phase }, { on := 13, ground := Ground.phase }, { on := 14, ground := Ground.phase }, { on := 15, ground := Ground.phase }, { on := 16, ground := Ground.phase }, { on := 17, ground := Ground.phase }, { on := 18, ground := Ground.phase }, { on := 19, ground := Ground.phase }, { on := 20, ground := Ground.phase }], guard := none }) (by kernel_rfl) rfl (fun K hK => ?_)
       rw [if_pos (by rfl)]
       go_simp
       refine hK.out _ _ (fun _ => H11.out) ?_
       clear hK K
       try simp only [Act.put, List.setIfInBounds_toArray, List.set_cons_zero, List.set_cons_succ]
       refine wpAnyM_one (i := 22) (o := { dst := none, op := Op.store 24 (Operand.tmp 116) (Operand.tmp 115), type := 0, pos := "ref.go:40", after := #[{ on := 21, ground := Ground.data }, { on := 20, ground := Ground.data }, { on := 20, ground := Ground.chain }, { on := 0, ground := Ground.phase }, { on := 1, ground := Ground.phase }, { on := 2, ground := Ground.phase }, { on := 3, ground := Ground.phase }, { on := 4, ground := Ground.phase }, { on := 5, ground := Ground.phase }, { on := 6, ground := Ground.phase }, { on := 7, ground := Ground.phase }, { on := 8, ground := Ground.phase }, { on := 9, ground := Ground.phase }, { on := 10, ground := Ground.phase }, { on := 11, ground := Ground.phase }, { on := 12, ground := Ground.phase }, { on := 13, ground := Ground.phase }, { on := 14, ground := Ground.phase }, { on := 15, ground := Ground.phase }, { on := 16, ground := Ground.phase }, { on := 17, ground := Ground.phase }, { on := 18, ground := Ground.phase }, { on := 19, ground := Ground.phase }, { on := 20, ground := Ground.phase }], guard := none }) (by kernel_rfl) rfl (fun K hK => ?_)
       rw [if_pos (by rfl)]
       have p0 : w11.cell? ⟨BP, 0, none⟩ = some (.int .i64 d.id) := rowc HP11.out 0 _ rfl
       have p1 : w11.cell? ⟨BP, 1, none⟩ = some (.int .i64 d.ve) := rowc HP11.out 1 _ rfl
       have p2 : w11.cell? ⟨BP, 2, none⟩ = some (.int .i64 ev) := rowc HP11.out 2 _ rfl
       have p3 : w11.cell? ⟨BP, 3, none⟩ = some (.slice sa Sx.length sc) := rowc HP11.out 3 _ rfl
       have p4 : w11.cell? ⟨BP, 4, none⟩ = some (.slice pa M.length pc) := rowc HP11.out 4 _ rfl
       have p5 : w11.cell? ⟨BP, 5, none⟩ = some (.bool bl) := rowc HP11.out 5 _ rfl
       have f0 : w11.frozen? ⟨BP, 0, none⟩ = false := row_fz HP11.out 0
       have f1 : w11.frozen? ⟨BP, 1, none⟩ = false := row_fz HP11.out 1
       have f2 : w11.frozen? ⟨BP, 2, none⟩ = false := row_fz HP11.out 2
       have f3 : w11.frozen? ⟨BP, 3, none⟩ = false := row_fz HP11.out 3
       have f4 : w11.frozen? ⟨BP, 4, none⟩ = false := row_fz HP11.out 4
       have f5 : w11.frozen? ⟨BP, 5, none⟩ = false := row_fz HP11.out 5
       have lp : BP < w11.heap.size := lt_of_cell p0
       go_simp
       refine hK.out _ _ (fun h => absurd h (of_decide_eq_false (by kernel_rfl))) ?_
       clear hK K
       try simp only [Act.put, List.setIfInBounds_toArray, List.set_cons_zero, List.set_cons_succ]
       refine wpAnyM_done (by kernel_rfl) ?_ _
       have HQ12 : Hid (SetB w11 (w11.setCell ⟨BP, 4, none⟩ (.slice pa2 (M.length + 1) pc2)) BP [.int .i64 d.id, .int .i64 d.ve, .int .i64 ev, .slice sa Sx.length sc, .slice pa2 (M.length + 1) pc2, .bool bl] 35) := hidOf (by
        have := (SetB.refl (cs := [.int .i64 d.id, .int .i64 d.ve, .int .i64 ev, .slice sa Sx.length sc, .slice pa M.length pc, .bool bl]) HP11.out).step 4 (.slice pa2 (M.length + 1) pc2)
        simpa only [List.set_cons_zero, List.set_cons_succ] using this)
       clear p0 f0 p1 f1 p2 f2 p3 f3 p4 f4 p5 f5 lp
       clear H10 H11 HH KB hb10
       go_wp2
       go_roundw
       case rel => exact ⟨k + 1, M ++ [plA d n ((gi : Int), yx)], bl, pa2, pc2, by omega, by simp, by rw [List.length_append]; simp; omega, hidOf (by rw [HTK.out, plV_snoc, ← HPLV.out]; unfold plS; simp only [HNV.out]), hidOf (by rw [List.length_append]; exact HQ12.out.h), hidOf (by rw [List.length_append, fl_snoc]; exact own_kept HO11.out (fun q h1 hq => HQ12.out.o q (by omega))), hidOf (HQ10.out.trans (Bq.set HQ12.out))⟩
       case measure => simp [intOf]; omega
     ·have hq : (d.ty == 3) = false := by simp [hty]
      rw [if_neg hty] at hnf
      clear hty HMA
      cases hc : bV Ln A M g.c g.m with
      | none =>
       rw [hc] at HBE hnf
       simp only [Option.isSome_none, bI] at HBE
       have HNV : Hid (nfV d Ln A M ((gi : Int), yx) = none) := hidOf (by rw [hnf]; rfl)
       clear hc hnf HBI
       go_upto_region 22 with (go_at_call 24; refine HBE.out.mono ?_; rintro e w7 ⟨rfl, hb7⟩; have HB7 := hidOf hb7; clear hb7)
       clear t0 t1 t2 t3 t4 t5 t6 t7 t8 l0 j0 j1 j2 j3 j4 j5 j6 lj y0 y1 ly k0 k1 lk p4 lp
       have HP8 : Hid (w7.heap[BP]? = some (.cells #[.int .i64 d.id, .int .i64 d.ve, .int .i64 ev, .slice sa Sx.length sc, .slice pa M.length pc, .bool bl] 35 (0, 0))) := hidOf ((HB7.out.block _ (by omega)).trans HPv.out)
       have p0 : w7.cell? ⟨BP, 0, none⟩ = some (.int .i64 d.id) := rowc HP8.out 0 _ rfl
       have p1 : w7.cell? ⟨BP, 1, none⟩ = some (.int .i64 d.ve) := rowc HP8.out 1 _ rfl
       have p2 : w7.cell? ⟨BP, 2, none⟩ = some (.int .i64 ev) := rowc HP8.out 2 _ rfl
       have p3 : w7.cell? ⟨BP, 3, none⟩ = some (.slice sa Sx.length sc) := rowc HP8.out 3 _ rfl
       have p4 : w7.cell? ⟨BP, 4, none⟩ = some (.slice pa M.length pc) := rowc HP8.out 4 _ rfl
       have p5 : w7.cell? ⟨BP, 5, none⟩ = some (.bool bl) := rowc HP8.out 5 _ rfl
       have f0 : w7.frozen? ⟨BP, 0, none⟩ = false := row_fz HP8.out 0
       have f1 : w7.frozen? ⟨BP, 1, none⟩ = false := row_fz HP8.out 1
       have f2 : w7.frozen? ⟨BP, 2, none⟩ = false := row_fz HP8.out 2
       have f3 : w7.frozen? ⟨BP, 3, none⟩ = false := row_fz HP8.out 3
       have f4 : w7.frozen? ⟨BP, 4, none⟩ = false := row_fz HP8.out 4
       have f5 : w7.frozen? ⟨BP, 5, none⟩ = false := row_fz HP8.out 5
       have lp : BP < w7.heap.size := lt_of_cell p0
       have HQ8 : Hid (SetB w7 (w7.setCell ⟨BP, 5, none⟩ (.bool true)) BP [.int .i64 d.id, .int .i64 d.ve, .int .i64 ev, .slice sa Sx.length sc, .slice pa M.length pc, .bool true] 35) := hidOf (by
        have := (SetB.refl (cs := [.int .i64 d.id, .int .i64 d.ve, .int .i64 ev, .slice sa Sx.length sc, .slice pa M.length pc, .bool bl]) HP8.out).step 5 (.bool true)
        simpa only [List.set_cons_zero, List.set_cons_succ] using this)
       go_wp2
       go_roundw
       case rel => exact ⟨k + 1, M, true, pa, pc, by omega, by simp, by omega, hidOf (by rw [HTK.out, plV_snoc, ← HPLV.out]; unfold plS; simp only [HNV.out]), hidOf HQ8.out.h, hidOf (own_kept HMv.out (fun q h1 hq => (HQ8.out.o q (by omega)).trans (HB7.out.block q hq))), hidOf ((HQv.out.trans (Bq.of HB7.out)).trans (Bq.set HQ8.out))⟩
       case measure => simp [intOf]; omega
      | some zb =>
       have hbi := HBI.out zb hc
       obtain ⟨i, hil, hat⟩ := ch_at (M := M) (A := A) (a := g.c) (b := g.m) (by rw [hbi]; rfl)
       rw [hc] at HBE hnf
       simp only [Option.isSome_some, bI] at HBE
       have HNV : Hid (nfV d Ln A M ((gi : Int), yx) = some (ndA Ln zb.1)) := hidOf (by rw [hnf]; rfl)
       clear hbi hc hnf HBI
       have hfa : fi (fun x : Nd => isI x.id (zb.1)) Ln = (i : Int) := hat
       obtain ⟨bn, offn, han, hQn, hcn⟩ := HN.out.at i hil
       have hQn2 : bn < w.heap.size := hQn
       have hni0 := (fi_at hat hil).1
       obtain ⟨n, hn⟩ : ∃ n, Ln[i] = n := ⟨_, rfl⟩
       rw [hn] at hcn hni0
       have hni : n.id = zb.1 := by simpa [isI] using hni0
       have hnv2 : ndA Ln (zb.1) = n := by rw [ndA_at hat hil, hn]
       rw [hnv2] at HNV
       subst han
       have hn0 : ¬ ((i : Int) < 0) := by omega
       have hn1 : (i : Int) < (Ln.length : Int) := by omega
       have HND := hidOf (fun (W : World) (h : Below w.heap.size w W) => node_ref ⟨ix, nx, some ⟨b, off, none⟩, J.length, c2, a3, n3, c3, some ⟨bn, offn, none⟩, Ln.length, c4, a5, A.length, c5, a6, E.length, c6, a7, n7, c7, a8, n8, c8⟩ (zb.1) Ln W rfl (HN.out.kept (fun b hb => h.block b hb) (fun b hb => Nat.lt_of_lt_of_le hb h.size)))
       rw [hfa] at HND
       clear hfa hni0 hn hnv2 hQn
       go_upto_region 23 with (go_at_call 24; refine HBE.out.mono ?_; rintro e w7 ⟨rfl, hb7⟩; have HB7 := hidOf hb7; clear hb7)
       clear t0 t1 t2 t3 t4 t5 t6 t7 t8 l0 j0 j1 j2 j3 j4 j5 j6 lj y0 y1 ly k0 k1 lk p4 lp
       have HW7 := hidOf (HWv.out.trans (HB7.out.mono HWv.out.size))
       have HS7 := hidOf (range_of HSv.out (HB7.out.block B2 (by omega)))
       have t0 : w7.cell? ⟨B2, 0, none⟩ = some (.int .i64 ix) := HS7.out 0 _ rfl
       have t1 : w7.cell? ⟨B2, 1, none⟩ = some (.int .i64 nx) := HS7.out 1 _ rfl
       have t2 : w7.cell? ⟨B2, 2, none⟩ = some (.slice (some ⟨b, off, none⟩) J.length c2) := HS7.out 2 _ rfl
       have t3 : w7.cell? ⟨B2, 3, none⟩ = some (.slice a3 n3 c3) := HS7.out 3 _ rfl
       have t4 : w7.cell? ⟨B2, 4, none⟩ = some (.slice (some ⟨bn, offn, none⟩) Ln.length c4) := HS7.out 4 _ rfl
       have t5 : w7.cell? ⟨B2, 5, none⟩ = some (.slice a5 A.length c5) := HS7.out 5 _ rfl
       have t6 : w7.cell? ⟨B2, 6, none⟩ = some (.slice a6 E.length c6) := HS7.out 6 _ rfl
       have t7 : w7.cell? ⟨B2, 7, none⟩ = some (.slice a7 n7 c7) := HS7.out 7 _ rfl
       have t8 : w7.cell? ⟨B2, 8, none⟩ = some (.slice a8 n8 c8) := HS7.out 8 _ rfl
       have l0 : B2 < w7.heap.size := lt_of_cell t0
       go_upto_region 24 with (go_at_call 25; refine (HND.out _ HW7.out).mono ?_; rintro e w8 ⟨rfl, hb8⟩; have HB8 := hidOf (HB7.out.trans (hb8.mono HB7.out.size)); clear hb8)
       clear t0 t1 t2 t3 t4 t5 t6 t7 t8 l0
       have hz8 := HB8.out.size
       have HQ8 := hidOf ((HQv.out.trans (Bq.of HB8.out)).trans (Bq.of (bdrew w8)))
       have hz68 : w6.heap.size ≤ w8.heap.size := HQ8.out.size
       have HW8 := hidOf (HWv.out.trans (HB8.out.mono HWv.out.size))
       have HP8 : Hid (w8.heap[BP]? = some (.cells #[.int .i64 d.id, .int .i64 d.ve, .int .i64 ev, .slice sa Sx.length sc, .slice pa M.length pc, .bool bl] 35 (0, 0))) := hidOf ((HB8.out.block _ (by omega)).trans HPv.out)
       have HX8 := hidOf (range_of HXv.out (HB8.out.block BJ (by omega)))
       have HS8 : Hid (w8.rangeAt B2 0 [.int .i64 ix, .int .i64 nx, .slice (some ⟨b, off, none⟩) J.length c2, .slice a3 n3 c3, .slice (some ⟨bn, offn, none⟩) Ln.length c4, .slice a5 A.length c5, .slice a6 E.length c6, .slice a7 n7 c7, .slice a8 n8 c8]) := hidOf (range_of HSv.out (HB8.out.block B2 (by omega)))
       have HYR8 : Hid (w8.heap[BX]? = some (.cells #[.int .i64 (gi : Int), .int .i64 yx] 67 (0, 0))) := hidOf ((HB8.out.block BX (by omega)).trans HYR.out)
       have HAR8 : Hid (w8.heap[BA]? = some (.cells #[.int .i64 g.c, .int .i64 g.m] 40 (0, 0))) := hidOf ((HB8.out.block BA (by omega)).trans HAR.out)
       have HM8 := hidOf (own_kept (w' := w8) HMv.out (fun q _ hq => HB8.out.block q hq))
       have hbx : BX < w8.heap.size := by omega
       have hba : BA < w8.heap.size := by omega
       have hbnw : bn < w6.heap.size := by omega
       have HNI : Hid (n.id = zb.1) := hidOf hni
       have hcrn := range_of hcn (HW8.out.block bn hQn2)
       have hdz : w8.drew.heap.size = w8.heap.size := rfl
       have hb10 := below1 w8.drew (.cells #[.int .i64 0, .int .i64 d.id, .int .i64 d.ve, .int .i64 (gi : Int), .int .i64 yx, .int .i64 zb.1, .int .i64 n.ep, .int .i64 g.c, .int .i64 g.m, .bool false, .int .i64 0] 42)
       have HH : Hid ((fun (wz : World) => wz.cell? ⟨BP, 4, none⟩ = some (.slice pa M.length pc) ∧ wz.cell? ⟨BJ, 0, none⟩ = some (.int .i64 d.id) ∧ wz.cell? ⟨BJ, 5, none⟩ = some (.int .i64 d.ve) ∧ wz.cell? ⟨BX, 0, none⟩ = some (.int .i64 (gi : Int)) ∧ wz.cell? ⟨BX, 1, none⟩ = some (.int .i64 yx) ∧ wz.cell? ⟨B2, 4, none⟩ = some (.slice (some ⟨bn, offn, none⟩) Ln.length c4) ∧ wz.cell? ⟨bn, offn + i * 8 + 6, none⟩ = some (.int .i64 n.ep) ∧ wz.cell? ⟨BA, 0, none⟩ = some (.int .i64 g.c) ∧ wz.cell? ⟨BA, 1, none⟩ = some (.int .i64 g.m)) w8.drew) := hidOf ⟨rowc HP8.out 4 _ rfl, HX8.out 0 _ rfl, HX8.out 5 _ rfl, rowc HYR8.out 0 _ rfl, rowc HYR8.out 1 _ rfl, HS8.out 4 _ rfl, hcrn 6 _ rfl, rowc HAR8.out 0 _ rfl, rowc HAR8.out 1 _ rfl⟩
       have KB := hidOf (fun (W : World) (hp : W.heap[BP]? = w8.heap[BP]?) (hj : W.heap[BJ]? = w8.heap[BJ]?) (hx : W.heap[BX]? = w8.heap[BX]?) (h2 : W.heap[B2]? = w8.heap[B2]?) (hn : W.heap[bn]? = w8.heap[bn]?) (ha : W.heap[BA]? = w8.heap[BA]?) => (show (fun (wz : World) => wz.cell? ⟨BP, 4, none⟩ = some (.slice pa M.length pc) ∧ wz.cell? ⟨BJ, 0, none⟩ = some (.int .i64 d.id) ∧ wz.cell? ⟨BJ, 5, none⟩ = some (.int .i64 d.ve) ∧ wz.cell? ⟨BX, 0, none⟩ = some (.int .i64 (gi : Int)) ∧ wz.cell? ⟨BX, 1, none⟩ = some (.int .i64 yx) ∧ wz.cell? ⟨B2, 4, none⟩ = some (.slice (some ⟨bn, offn, none⟩) Ln.length c4) ∧ wz.cell? ⟨bn, offn + i * 8 + 6, none⟩ = some (.int .i64 n.ep) ∧ wz.cell? ⟨BA, 0, none⟩ = some (.int .i64 g.c) ∧ wz.cell? ⟨BA, 1, none⟩ = some (.int .i64 g.m)) W from by
        obtain ⟨g0, g1, g2, g3, g4, g5, g6, g7, g8⟩ := HH.out
        exact ⟨(World.cell?_of_block hp).trans g0, (World.cell?_of_block hj).trans g1, (World.cell?_of_block hj).trans g2, (World.cell?_of_block hx).trans g3, (World.cell?_of_block hx).trans g4, (World.cell?_of_block h2).trans g5, (World.cell?_of_block hn).trans g6, (World.cell?_of_block ha).trans g7, (World.cell?_of_block ha).trans g8⟩))
       have HML : Hid (M.length + 1 ≤ maxLen) := hidOf (by unfold maxLen; omega)
       have HBY : Hid ((M.length + 1) * 88 ≤ 140737488355328) := hidOf (by omega)
       clear hcrn hcn hni
       refine wp_region_M (fun (wz : World) => wz.cell? ⟨BP, 4, none⟩ = some (.slice pa M.length pc) ∧ wz.cell? ⟨BJ, 0, none⟩ = some (.int .i64 d.id) ∧ wz.cell? ⟨BJ, 5, none⟩ = some (.int .i64 d.ve) ∧ wz.cell? ⟨BX, 0, none⟩ = some (.int .i64 (gi : Int)) ∧ wz.cell? ⟨BX, 1, none⟩ = some (.int .i64 yx) ∧ wz.cell? ⟨B2, 4, none⟩ = some (.slice (some ⟨bn, offn, none⟩) Ln.length c4) ∧ wz.cell? ⟨bn, offn + i * 8 + 6, none⟩ = some (.int .i64 n.ep) ∧ wz.cell? ⟨BA, 0, none⟩ = some (.int .i64 g.c) ∧ wz.cell? ⟨BA, 1, none⟩ = some (.int .i64 g.m)) 22 (by kernel_rfl) ?_
       have hHeld : (fun (wz : World) => wz.cell? ⟨BP, 4, none⟩ = some (.slice pa M.length pc) ∧ wz.cell? ⟨BJ, 0, none⟩ = some (.int .i64 d.id) ∧ wz.cell? ⟨BJ, 5, none⟩ = some (.int .i64 d.ve) ∧ wz.cell? ⟨BX, 0, none⟩ = some (.int .i64 (gi : Int)) ∧ wz.cell? ⟨BX, 1, none⟩ = some (.int .i64 yx) ∧ wz.cell? ⟨B2, 4, none⟩ = some (.slice (some ⟨bn, offn, none⟩) Ln.length c4) ∧ wz.cell? ⟨bn, offn + i * 8 + 6, none⟩ = some (.int .i64 n.ep) ∧ wz.cell? ⟨BA, 0, none⟩ = some (.int .i64 g.c) ∧ wz.cell? ⟨BA, 1, none⟩ = some (.int .i64 g.m)) _ := HH.out
       refine wpAnyM_take (i := 0) (oi := { dst := some 95, op := Op.fieldAddr 35 (Operand.tmp 7) 4, type := 0, pos := "ref.go:40", after := #[], guard := none }) (v := .pointer (some ⟨BP, 4, none⟩)) rfl (by kernel_rfl) (by kernel_rfl) (by kernel_rfl) (by kernel_rfl) (by kernel_rfl) (fun _ _ _ h => h) (Or.inl ⟨by rfl, ?_⟩) hHeld ?_
       ·(intro w hSw; (try dsimp only at hSw); go_simp)
       try simp only [Act.put, List.setIfInBounds_toArray, List.set_cons_zero, List.set_cons_succ]
       refine wpAnyM_take (i := 1) (oi := { dst := some 96, op := Op.load 24 (Operand.tmp 95), type := 24, pos := "ref.go:40", after := #[{ on := 0, ground := Ground.data }], guard := none }) (v := .slice pa M.length pc) rfl (by kernel_rfl) (by kernel_rfl) (by kernel_rfl) (by kernel_rfl) (by kernel_rfl) (fun _ _ _ h => h) (Or.inl ⟨by rfl, ?_⟩) hHeld ?_
       ·(intro w hSw; (try dsimp only at hSw); go_simp)
       try simp only [Act.put, List.setIfInBounds_toArray, List.set_cons_zero, List.set_cons_succ]
       refine wpAnyM_take (i := 2) (oi := { dst := some 97, op := Op.fieldAddr 51 (Operand.tmp 6) 0, type := 0, pos := "ref.go:40", after := #[], guard := none }) (v := .pointer (some ⟨BJ, 0, none⟩)) rfl (by kernel_rfl) (by kernel_rfl) (by kernel_rfl) (by kernel_rfl) (by kernel_rfl) (fun _ _ _ h => h) (Or.inl ⟨by rfl, ?_⟩) hHeld ?_
       ·(intro w hSw; (try dsimp only at hSw); go_simp)
       try simp only [Act.put, List.setIfInBounds_toArray, List.set_cons_zero, List.set_cons_succ]
       refine wpAnyM_take (i := 3) (oi := { dst := some 98, op := Op.load 3 (Operand.tmp 97), type := 3, pos := "ref.go:40", after := #[{ on := 2, ground := Ground.data }], guard := none }) (v := .int .i64 d.id) rfl (by kernel_rfl) (by kernel_rfl) (by kernel_rfl) (by kernel_rfl) (by kernel_rfl) (fun _ _ _ h => h) (Or.inl ⟨by rfl, ?_⟩) hHeld ?_
       ·(intro w hSw; (try dsimp only at hSw); go_simp)
       try simp only [Act.put, List.setIfInBounds_toArray, List.set_cons_zero, List.set_cons_succ]
       refine wpAnyM_take (i := 4) (oi := { dst := some 99, op := Op.fieldAddr 51 (Operand.tmp 6) 5, type := 0, pos := "ref.go:40", after := #[], guard := none }) (v := .pointer (some ⟨BJ, 5, none⟩)) rfl (by kernel_rfl) (by kernel_rfl) (by kernel_rfl) (by kernel_rfl) (by kernel_rfl) (fun _ _ _ h => h) (Or.inl ⟨by rfl, ?_⟩) hHeld ?_
       ·(intro w hSw; (try dsimp only at hSw); go_simp)
       try simp only [Act.put, List.setIfInBounds_toArray, List.set_cons_zero, List.set_cons_succ]
       refine wpAnyM_take (i := 5) (oi := { dst := some 100, op := Op.load 3 (Operand.tmp 99), type := 3, pos := "ref.go:40", after := #[{ on := 4, ground := Ground.data }], guard := none }) (v := .int .i64 d.ve) rfl (by kernel_rfl) (by kernel_rfl) (by kernel_rfl) (by kernel_rfl) (by kernel_rfl) (fun _ _ _ h => h) (Or.inl ⟨by rfl, ?_⟩) hHeld ?_
       ·(intro w hSw; (try dsimp only at hSw); go_simp)
       try simp only [Act.put, List.setIfInBounds_toArray, List.set_cons_zero, List.set_cons_succ]
       refine wpAnyM_take (i := 6) (oi := { dst := some 101, op := Op.fieldAddr 67 (Operand.tmp 12) 0, type := 0, pos := "ref.go:40", after := #[], guard := none }) (v := .pointer (some ⟨BX, 0, none⟩)) rfl (by kernel_rfl) (by kernel_rfl) (by kernel_rfl) (by kernel_rfl) (by kernel_rfl) (fun _ _ _ h => h) (Or.inl ⟨by rfl, ?_⟩) hHeld ?_
       ·(intro w hSw; (try dsimp only at hSw); go_simp)
       try simp only [Act.put, List.setIfInBounds_toArray, List.set_cons_zero, List.set_cons_succ]
       refine wpAnyM_take (i := 7) (oi := { dst := some 102, op := Op.load 3 (Operand.tmp 101), type := 3, pos := "ref.go:40", after := #[{ on := 6, ground := Ground.data }], guard := none }) (v := .int .i64 (gi : Int)) rfl (by kernel_rfl) (by kernel_rfl) (by kernel_rfl) (by kernel_rfl) (by kernel_rfl) (fun _ _ _ h => h) (Or.inl ⟨by rfl, ?_⟩) hHeld ?_
       ·(intro w hSw; (try dsimp only at hSw); go_simp)
       try simp only [Act.put, List.setIfInBounds_toArray, List.set_cons_zero, List.set_cons_succ]
       refine wpAnyM_take (i := 8) (oi := { dst := some 103, op := Op.fieldAddr 67 (Operand.tmp 12) 1, type := 0, pos := "ref.go:40", after := #[], guard := none }) (v := .pointer (some ⟨BX, 1, none⟩)) rfl (by kernel_rfl) (by kernel_rfl) (by kernel_rfl) (by kernel_rfl) (by kernel_rfl) (fun _ _ _ h => h) (Or.inl ⟨by rfl, ?_⟩) hHeld ?_
       ·(intro w hSw; (try dsimp only at hSw); go_simp)
       try simp only [Act.put, List.setIfInBounds_toArray, List.set_cons_zero, List.set_cons_succ]
       refine wpAnyM_take (i := 9) (oi := { dst := some 104, op := Op.load 3 (Operand.tmp 103), type := 3, pos := "ref.go:40", after := #[{ on := 8, ground := Ground.data }], guard := none }) (v := .int .i64 yx) rfl (by kernel_rfl) (by kernel_rfl) (by kernel_rfl) (by kernel_rfl) (by kernel_rfl) (fun _ _ _ h => h) (Or.inl ⟨by rfl, ?_⟩) hHeld ?_
       ·(intro w hSw; (try dsimp only at hSw); go_simp)
       try simp only [Act.put, List.setIfInBounds_toArray, List.set_cons_zero, List.set_cons_succ]
       refine wpAnyM_take (i := 10) (oi := { dst := some 105, op := Op.move (Operand.tmp 14), type := 3, pos := "ref.go:40", after := #[], guard := none }) (v := .int .i64 zb.1) rfl (by kernel_rfl) (by kernel_rfl) (by kernel_rfl) (by kernel_rfl) (by kernel_rfl) (fun _ _ _ h => h) (Or.inl ⟨by rfl, ?_⟩) hHeld ?_
       ·(intro w hSw; (try dsimp only at hSw); go_simp)
       try simp only [Act.put, List.setIfInBounds_toArray, List.set_cons_zero, List.set_cons_succ]
       refine wpAnyM_take (i := 11) (oi := { dst := some 106, op := Op.fieldAddr 29 (Operand.tmp 2) 4, type := 0, pos := "ref.go:40", after := #[], guard := none }) (v := .pointer (some ⟨B2, 4, none⟩)) rfl (by kernel_rfl) (by kernel_rfl) (by kernel_rfl) (by kernel_rfl) (by kernel_rfl) (fun _ _ _ h => h) (Or.inl ⟨by rfl, ?_⟩) hHeld ?_
       ·(intro w hSw; (try dsimp only at hSw); go_simp)
       try simp only [Act.put, List.setIfInBounds_toArray, List.set_cons_zero, List.set_cons_succ]
       refine wpAnyM_take (i := 12) (oi := { dst := some 107, op := Op.load 23 (Operand.tmp 106), type := 23, pos := "ref.go:40", after := #[{ on := 11, ground := Ground.data }], guard := none }) (v := .slice (some ⟨bn, offn, none⟩) Ln.length c4) rfl (by kernel_rfl) (by kernel_rfl) (by kernel_rfl) (by kernel_rfl) (by kernel_rfl) (fun _ _ _ h => h) (Or.inl ⟨by rfl, ?_⟩) hHeld ?_
       ·(intro w hSw; (try dsimp only at hSw); go_simp)
       try simp only [Act.put, List.setIfInBounds_toArray, List.set_cons_zero, List.set_cons_succ]
       refine wpAnyM_take (i := 13) (oi := { dst := some 108, op := Op.move (Operand.tmp 16), type := 3, pos := "ref.go:40", after := #[], guard := none }) (v := .int .i64 (i : Int)) rfl (by kernel_rfl) (by kernel_rfl) (by kernel_rfl) (by kernel_rfl) (by kernel_rfl) (fun _ _ _ h => h) (Or.inl ⟨by rfl, ?_⟩) hHeld ?_
       ·(intro w hSw; (try dsimp only at hSw); go_simp)
       try simp only [Act.put, List.setIfInBounds_toArray, List.set_cons_zero, List.set_cons_succ]
       refine wpAnyM_take (i := 14) (oi := { dst := some 109, op := Op.indexAddr 23 (Operand.tmp 107) (Operand.tmp 108), type := 0, pos := "ref.go:40", after := #[{ on := 12, ground := Ground.data }, { on := 13, ground := Ground.data }], guard := none }) (v := .pointer (some ⟨bn, offn + i * 8, none⟩)) rfl (by kernel_rfl) (by kernel_rfl) (by kernel_rfl) (by kernel_rfl) (by kernel_rfl) (fun _ _ _ h => h) (Or.inl ⟨by rfl, ?_⟩) hHeld ?_
       ·(intro w hSw; (try dsimp only at hSw); go_simp)
       try simp only [Act.put, List.setIfInBounds_toArray, List.set_cons_zero, List.set_cons_succ]
       refine wpAnyM_take (i := 15) (oi := { dst := some 110, op := Op.fieldAddr 46 (Operand.tmp 109) 5, type := 0, pos := "ref.go:40", after := #[{ on := 14, ground := Ground.data }], guard := none }) (v := .pointer (some ⟨bn, offn + i * 8 + 6, none⟩)) rfl (by kernel_rfl) (by kernel_rfl) (by kernel_rfl) (by kernel_rfl) (by kernel_rfl) (fun _ _ _ h => h) (Or.inl ⟨by rfl, ?_⟩) hHeld ?_
       ·(intro w hSw; (try dsimp only at hSw); go_simp)
       try simp only [Act.put, List.setIfInBounds_toArray, List.set_cons_zero, List.set_cons_succ]
       refine wpAnyM_take (i := 16) (oi := { dst := some 111, op := Op.load 3 (Operand.tmp 110), type := 3, pos := "ref.go:40", after := #[{ on := 15, ground := Ground.data }], guard := none }) (v := .int .i64 n.ep) rfl (by kernel_rfl) (by kernel_rfl) (by kernel_rfl) (by kernel_rfl) (by kernel_rfl) (fun _ _ _ h => h) (Or.inl ⟨by rfl, ?_⟩) hHeld ?_
       ·(intro w hSw; (try dsimp only at hSw); go_simp)
       try simp only [Act.put, List.setIfInBounds_toArray, List.set_cons_zero, List.set_cons_succ]
       refine wpAnyM_take (i := 17) (oi := { dst := some 112, op := Op.load 40 (Operand.tmp 13), type := 40, pos := "ref.go:40", after := #[], guard := none }) (v := .agg #[.int .i64 g.c, .int .i64 g.m]) rfl (by kernel_rfl) (by kernel_rfl) (by kernel_rfl) (by kernel_rfl) (by kernel_rfl) (fun _ _ _ h => h) (Or.inl ⟨by rfl, ?_⟩) hHeld ?_
       ·(intro w hSw; (try dsimp only at hSw); go_simp)
       try simp only [Act.put, List.setIfInBounds_toArray, List.set_cons_zero, List.set_cons_succ]
       refine wpAnyM_take (i := 18) (oi := { dst := some 113, op := Op.build 42 #[(1, Operand.tmp 98), (2, Operand.tmp 100), (3, Operand.tmp 102), (4, Operand.tmp 104), (5, Operand.tmp 105), (6, Operand.tmp 111), (7, Operand.tmp 112)], type := 42, pos := "ref.go:40", after := #[{ on := 3, ground := Ground.data }, { on := 5, ground := Ground.data }, { on := 7, ground := Ground.data }, { on := 9, ground := Ground.data }, { on := 10, ground := Ground.data }, { on := 16, ground := Ground.data }, { on := 17, ground := Ground.data }], guard := none }) (v := .agg #[.int .i64 0, .int .i64 d.id, .int .i64 d.ve, .int .i64 (gi : Int), .int .i64 yx, .int .i64 zb.1, .int .i64 n.ep, .int .i64 g.c, .int .i64 g.m, .bool false, .int .i64 0]) rfl (by kernel_rfl) (by kernel_rfl) (by kernel_rfl) (by kernel_rfl) (by kernel_rfl) (fun _ _ _ h => h) (Or.inl ⟨by rfl, ?_⟩) hHeld ?_
       ·(intro w hSw; (try dsimp only at hSw); go_simp)
       try simp only [Act.put, List.setIfInBounds_toArray, List.set_cons_zero, List.set_cons_succ]
       refine wpAnyM_one (i := 19) (o := { dst := some 114, op := Op.buildSlice 24 1 #[(0, Operand.tmp 113)], type := 24, pos := "ref.go:40", after := #[{ on := 18, ground := Ground.data }], guard := none }) (by kernel_rfl) rfl (fun K hK => ?_)
       rw [if_pos (by rfl)]
       go_simp
       have H10 := hidOf (KB.out (w8.drew.alloc (.cells #[.int .i64 0, .int .i64 d.id, .int .i64 d.ve, .int .i64 (gi : Int), .int .i64 yx, .int .i64 zb.1, .int .i64 n.ep, .int .i64 g.c, .int .i64 g.m, .bool false, .int .i64 0] 42)) ((hb10.block _ (by omega))) ((hb10.block _ (by omega))) ((hb10.block _ (by omega))) ((hb10.block _ (by omega))) ((hb10.block _ (by omega))) ((hb10.block _ (by omega))))
       refine hK.out _ _ (fun _ => H10.out) ?_
       clear hK K
       try simp only [Act.put, List.setIfInBounds_toArray, List.set_cons_zero, List.set_cons_succ]
       refine wpAnyM_one (i := 20) (o := { dst := some 115, op := Op.call { callee := Callee.builtin Builtin.append, args := #[Operand.tmp 96, Operand.tmp 114], argTypes := #[24, 24] }, type := 24, pos := "ref.go:40", after := #[{ on := 1, ground := Ground.data }, { on := 19, ground := Ground.data }], guard := none }) (by kernel_rfl) rfl (fun K hK => ?_)
       rw [if_pos (by rfl)]
       have HOW := hidOf (own_kept HM8.out (fun q _ hq => hb10.block q hq))
       have HNEW : Hid (∀ j u, (Al.cs (plA d n ((gi : Int), yx)))[j]? = some u → (w8.drew.alloc (.cells #[.int .i64 0, .int .i64 d.id, .int .i64 d.ve, .int .i64 (gi : Int), .int .i64 yx, .int .i64 zb.1, .int .i64 n.ep, .int .i64 g.c, .int .i64 g.m, .bool false, .int .i64 0] 42)).cell? ((⟨w8.drew.heap.size, 0, none⟩ : Addr).add j) = some u) := hidOf (fun j u hj => by have hj2 := hj; unfold plA at hj2; rw [HASK.out, HNI.out] at hj2; exact newN w8.drew [.int .i64 0, .int .i64 d.id, .int .i64 d.ve, .int .i64 (gi : Int), .int .i64 yx, .int .i64 zb.1, .int .i64 n.ep, .int .i64 g.c, .int .i64 g.m, .bool false, .int .i64 0] 42 j u hj2)
       refine oper_app1p _ _ _ 24 rfl w6.heap.size 42 _ 11 88 Try.underlying24 info33 rfl (by decide) pa pc M.length (fl Al.cs M) rfl HOW.out ⟨w8.heap.size, 0, none⟩ 1 (Al.cs (plA d n ((gi : Int), yx))) rfl rfl HNEW.out (Al.one _) HML.out HBY.out (Nat.le_trans hz68 (show w8.heap.size ≤ _ from hb10.size)) ?_
       intro pa2 pc2 w11 ho hg _
       have HO11 := hidOf ho
       have HG11 : Hid ((w8.drew.alloc (.cells #[.int .i64 0, .int .i64 d.id, .int .i64 d.ve, .int .i64 (gi : Int), .int .i64 yx, .int .i64 zb.1, .int .i64 n.ep, .int .i64 g.c, .int .i64 g.m, .bool false, .int .i64 0] 42)).grownBy w11 (Value.slice pa M.length pc).ownBlock) := hidOf hg
       clear ho hg
       have hz10 : w8.heap.size ≤ (w8.drew.alloc (.cells #[.int .i64 0, .int .i64 d.id, .int .i64 d.ve, .int .i64 (gi : Int), .int .i64 yx, .int .i64 zb.1, .int .i64 n.ep, .int .i64 g.c, .int .i64 g.m, .bool false, .int .i64 0] 42)).heap.size := hb10.size
       have HQ10 : Hid (Bq BP w6 w11) := hidOf ((HQ8.out.trans (Bq.of hb10)).grown HG11.out (fun x hx => (own_blk2 HM8.out x hx.symm).1))
       have hgS : ∀ (q t : Nat) (cs : Array Value), t ≠ 42 → w8.heap[q]? = some (.cells cs t (0, 0)) → q < w8.heap.size → w11.heap[q]? = w8.heap[q]? := fun q t cs ht hq hl => (HG11.out.block q (by have := hb10.size; omega) (fun e => by obtain ⟨cur, hc⟩ := own_ty HOW.out q e.symm; rw [(hb10.block q (by omega)).trans hq] at hc; simp at hc; exact ht hc.2)).trans (hb10.block q (by omega))
       have hlo : ∀ q, q < w6.heap.size → w11.heap[q]? = w8.heap[q]? := fun q hq => (HG11.out.block _ (by have := hb10.size; omega) (fun e => absurd (own_blk2 HM8.out _ e.symm).1 (by omega))).trans (hb10.block _ (by omega))
       have HP11 : Hid (w11.heap[BP]? = some (.cells #[.int .i64 d.id, .int .i64 d.ve, .int .i64 ev, .slice sa Sx.length sc, .slice pa M.length pc, .bool bl] 35 (0, 0))) := hidOf ((hlo _ (by omega)).trans HP8.out)
       have H11 := hidOf (KB.out w11 (hlo _ (by omega)) (hlo _ (by omega)) (hgS _ 67 _ (by decide) HYR8.out hbx) (hlo _ (by omega)) (hlo _ (by omega)) (hgS _ 40 _ (by decide) HAR8.out hba))
       clear hgS hlo HOW HNEW
       try simp only [Act.put, List.setIfInBounds_toArray, List.set_cons_zero, List.set_cons_succ]
       refine hK.out _ _ (fun _ => H11.out) ?_
       clear hK K
       try simp only [Act.put, List.setIfInBounds_toArray, List.set_cons_zero, List.set_cons_succ]
       refine wpAnyM_one (i := 21) (o := { dst := some 116, op := Op.fieldAddr 35 (Operand.tmp 7) 4, type := 0, pos := "ref.go:40", after := #[{ on := 0, ground := Ground.phase }, { on := 1, ground := Ground.phase }, { on := 2, ground := Ground.phase }, { on := 3, ground := Ground.phase }, { on := 4, ground := Ground.phase }, { on := 5, ground := Ground.phase }, { on := 6, ground := Ground.phase }, { on := 7, ground := Ground.phase }, { on := 8, ground := Ground.phase }, { on := 9, ground := Ground.phase }, { on := 10, ground := Ground.phase }, { on := 11, ground := Ground.phase }, { on := 12, ground := Ground.phase }, { on := 13, ground := Ground.phase }, { on := 14, ground := Ground.phase }, { on := 15, ground := Ground.phase }, { on := 16, ground := Ground.phase }, { on := 17, ground := Ground.phase }, { on := 18, ground := Ground.phase }, { on := 19, ground := Ground.phase }, { on := 20, ground := Ground.phase }], guard := none }) (by kernel_rfl) rfl (fun K hK => ?_)
       rw [if_pos (by rfl)]
       go_simp
       refine hK.out _ _ (fun _ => H11.out) ?_
       clear hK K
       try simp only [Act.put, List.setIfInBounds_toArray, List.set_cons_zero, List.set_cons_succ]
       refine wpAnyM_one (i := 22) (o := { dst := none, op := Op.store 24 (Operand.tmp 116) (Operand.tmp 115), type := 0, pos := "ref.go:40", after := #[{ on := 21, ground := Ground.data }, { on := 20, ground := Ground.data }, { on := 20, ground := Ground.chain }, { on := 0, ground := Ground.phase }, { on := 1, ground := Ground.phase }, { on := 2, ground := Ground.phase }, { on := 3, ground := Ground.phase }, { on := 4, ground := Ground.phase }, { on := 5, ground := Ground.phase }, { on := 6, ground := Ground.phase }, { on := 7, ground := Ground.phase }, { on := 8, ground := Ground.phase }, { on := 9, ground := Ground.phase }, { on := 10, ground := Ground.phase }, { on := 11, ground := Ground.phase }, { on := 12, ground := Ground.phase }, { on := 13, ground := Ground.phase }, { on := 14, ground := Ground.phase }, { on := 15, ground := Ground.phase }, { on := 16, ground := Ground.phase }, { on := 17, ground := Ground.phase }, { on := 18, ground := Ground.phase }, { on := 19, ground := Ground.phase }, { on := 20, ground := Ground.phase }], guard := none }) (by kernel_rfl) rfl (fun K hK => ?_)
       rw [if_pos (by rfl)]
       have p0 : w11.cell? ⟨BP, 0, none⟩ = some (.int .i64 d.id) := rowc HP11.out 0 _ rfl
       have p1 : w11.cell? ⟨BP, 1, none⟩ = some (.int .i64 d.ve) := rowc HP11.out 1 _ rfl
       have p2 : w11.cell? ⟨BP, 2, none⟩ = some (.int .i64 ev) := rowc HP11.out 2 _ rfl
       have p3 : w11.cell? ⟨BP, 3, none⟩ = some (.slice sa Sx.length sc) := rowc HP11.out 3 _ rfl
       have p4 : w11.cell? ⟨BP, 4, none⟩ = some (.slice pa M.length pc) := rowc HP11.out 4 _ rfl
       have p5 : w11.cell? ⟨BP, 5, none⟩ = some (.bool bl) := rowc HP11.out 5 _ rfl
       have f0 : w11.frozen? ⟨BP, 0, none⟩ = false := row_fz HP11.out 0
       have f1 : w11.frozen? ⟨BP, 1, none⟩ = false := row_fz HP11.out 1
       have f2 : w11.frozen? ⟨BP, 2, none⟩ = false := row_fz HP11.out 2
       have f3 : w11.frozen? ⟨BP, 3, none⟩ = false := row_fz HP11.out 3
       have f4 : w11.frozen? ⟨BP, 4, none⟩ = false := row_fz HP11.out 4
       have f5 : w11.frozen? ⟨BP, 5, none⟩ = false := row_fz HP11.out 5
       have lp : BP < w11.heap.size := lt_of_cell p0
       go_simp
       refine hK.out _ _ (fun h => absurd h (of_decide_eq_false (by kernel_rfl))) ?_
       clear hK K
       try simp only [Act.put, List.setIfInBounds_toArray, List.set_cons_zero, List.set_cons_succ]
       refine wpAnyM_done (by kernel_rfl) ?_ _
       have HQ12 : Hid (SetB w11 (w11.setCell ⟨BP, 4, none⟩ (.slice pa2 (M.length + 1) pc2)) BP [.int .i64 d.id, .int .i64 d.ve, .int .i64 ev, .slice sa Sx.length sc, .slice pa2 (M.length + 1) pc2, .bool bl] 35) := hidOf (by
        have := (SetB.refl (cs := [.int .i64 d.id, .int .i64 d.ve, .int .i64 ev, .slice sa Sx.length sc, .slice pa M.length pc, .bool bl]) HP11.out).step 4 (.slice pa2 (M.length + 1) pc2)
        simpa only [List.set_cons_zero, List.set_cons_succ] using this)
       clear p0 f0 p1 f1 p2 f2 p3 f3 p4 f4 p5 f5 lp
       clear H10 H11 HH KB hb10
       go_wp2
       go_roundw
       case rel => exact ⟨k + 1, M ++ [plA d n ((gi : Int), yx)], bl, pa2, pc2, by omega, by simp, by rw [List.length_append]; simp; omega, hidOf (by rw [HTK.out, plV_snoc, ← HPLV.out]; unfold plS; simp only [HNV.out]), hidOf (by rw [List.length_append]; exact HQ12.out.h), hidOf (by rw [List.length_append, fl_snoc]; exact own_kept HO11.out (fun q h1 hq => HQ12.out.o q (by omega))), hidOf (HQ10.out.trans (Bq.set HQ12.out))⟩
       case measure => simp [intOf]; omega
    ·have hkl : k = Fx.length := by omega
     subst hkl
     have hpl := HPLV.out
     rw [List.take_length] at hpl
     have HPL2 := hidOf hpl
     have hzr := HQr.out.size
     have hlc2 := HLC.out
     have HPZr : Hid (wr.heap[B2 + 1]? = some (.cells #[.int .i64 0, .int .i64 0, .int .i64 0, .slice none 0 0, .slice none 0 0, .bool false] 35 (0, 0))) := hidOf ((HQr.out.block _ (by omega) (by omega)).trans HPZ.out)
     clear hpl HPLV
     have p0 : wr.cell? ⟨BP, 0, none⟩ = some (.int .i64 d.id) := rowc HPr.out 0 _ rfl
     have p1 : wr.cell? ⟨BP, 1, none⟩ = some (.int .i64 d.ve) := rowc HPr.out 1 _ rfl
     have p2 : wr.cell? ⟨BP, 2, none⟩ = some (.int .i64 ev) := rowc HPr.out 2 _ rfl
     have p3 : wr.cell? ⟨BP, 3, none⟩ = some (.slice sa Sx.length sc) := rowc HPr.out 3 _ rfl
     have p4 : wr.cell? ⟨BP, 4, none⟩ = some (.slice pa M.length pc) := rowc HPr.out 4 _ rfl
     have p5 : wr.cell? ⟨BP, 5, none⟩ = some (.bool bl) := rowc HPr.out 5 _ rfl
     have f0 : wr.frozen? ⟨BP, 0, none⟩ = false := row_fz HPr.out 0
     have f1 : wr.frozen? ⟨BP, 1, none⟩ = false := row_fz HPr.out 1
     have f2 : wr.frozen? ⟨BP, 2, none⟩ = false := row_fz HPr.out 2
     have f3 : wr.frozen? ⟨BP, 3, none⟩ = false := row_fz HPr.out 3
     have f4 : wr.frozen? ⟨BP, 4, none⟩ = false := row_fz HPr.out 4
     have f5 : wr.frozen? ⟨BP, 5, none⟩ = false := row_fz HPr.out 5
     have lp : BP < wr.heap.size := lt_of_cell p0
     have r0 : wr.cell? ⟨B2 + 1, 0, none⟩ = some (.int .i64 0) := rowc HPZr.out 0 _ rfl
     have r1 : wr.cell? ⟨B2 + 1, 1, none⟩ = some (.int .i64 0) := rowc HPZr.out 1 _ rfl
     have r2 : wr.cell? ⟨B2 + 1, 2, none⟩ = some (.int .i64 0) := rowc HPZr.out 2 _ rfl
     have r3 : wr.cell? ⟨B2 + 1, 3, none⟩ = some (.slice none 0 0) := rowc HPZr.out 3 _ rfl
     have r4 : wr.cell? ⟨B2 + 1, 4, none⟩ = some (.slice none 0 0) := rowc HPZr.out 4 _ rfl
     have r5 : wr.cell? ⟨B2 + 1, 5, none⟩ = some (.bool false) := rowc HPZr.out 5 _ rfl
     have h0 : wr.frozen? ⟨B2 + 1, 0, none⟩ = false := row_fz HPZr.out 0
     have h1 : wr.frozen? ⟨B2 + 1, 1, none⟩ = false := row_fz HPZr.out 1
     have h2 : wr.frozen? ⟨B2 + 1, 2, none⟩ = false := row_fz HPZr.out 2
     have h3 : wr.frozen? ⟨B2 + 1, 3, none⟩ = false := row_fz HPZr.out 3
     have h4 : wr.frozen? ⟨B2 + 1, 4, none⟩ = false := row_fz HPZr.out 4
     have h5 : wr.frozen? ⟨B2 + 1, 5, none⟩ = false := row_fz HPZr.out 5
     have lr : B2 + 1 < wr.heap.size := lt_of_cell r0
     have HQ13 : Hid (SetB wr ((((((wr.setCell ⟨B2 + 1, 0, none⟩ (.int .i64 d.id)).setCell ⟨B2 + 1, 1, none⟩ (.int .i64 d.ve)).setCell ⟨B2 + 1, 2, none⟩ (.int .i64 ev)).setCell ⟨B2 + 1, 3, none⟩ (.slice sa Sx.length sc)).setCell ⟨B2 + 1, 4, none⟩ (.slice pa M.length pc)).setCell ⟨B2 + 1, 5, none⟩ (.bool bl)) (B2 + 1) [.int .i64 d.id, .int .i64 d.ve, .int .i64 ev, .slice sa Sx.length sc, .slice pa M.length pc, .bool bl] 35) := hidOf (by
      have := (((((((SetB.refl (cs := [.int .i64 0, .int .i64 0, .int .i64 0, .slice none 0 0, .slice none 0 0, .bool false]) HPZr.out).step 0 (.int .i64 d.id)).step 1 (.int .i64 d.ve)).step 2 (.int .i64 ev)).step 3 (.slice sa Sx.length sc)).step 4 (.slice pa M.length pc)).step 5 (.bool bl))
      simpa only [List.set_cons_zero, List.set_cons_succ] using this)
     go_wp2
     refine bodyPost_ret (results_cell_row Try.results10 _ _ (B2 + 1) 35 #[.int .i64 d.id, .int .i64 d.ve, .int .i64 ev, .slice sa Sx.length sc, .slice pa M.length pc, .bool bl] (0, 0) _ rfl (by exact HQ13.out.h) Try.underlying35 rfl (by kernel_rfl)) rfl ?_
     rw [← HPL2.out]
     have hbwx := HBW.out
     exact ⟨⟨sa, sc, pa, pc, rfl, own_low (own_kept (own_kept HOS6.out (fun q h1 hq => HQr.out.block q hq (by omega))) (fun q h1 hq => HQ13.out.o q (by omega))) HLO.out, own_low (own_kept HMO.out (fun q h1 hq => HQ13.out.o q (by omega))) (by have := HW6.out.size; omega)⟩, (HW6.out.trans (HQr.out.bel (n := w.heap.size) (by omega) (by omega))).trans (HQ13.out.bel (by omega))⟩
end Go.Proofs.Ytblofbdncolikaa
