/- A plan for a job: the code's Plan. -/
import Derived.Test.YtblofbdncolikaaPb
namespace Go.Proofs.Ytblofbdncolikaa
open Go.RowKit Go.Shelf
attribute [local go_sem] Oper.semAt_some
structure Pn where
 jb : Int
 ve : Int
 ix : Int
 st : List Int
 pl : List Al
 bl : Bool
def evX (E : List Qd) (id : Int) : Int := if fi (fun x => isI x.a id) E < 0 then 0 else (E[(fi (fun x => isI x.a id) E).toNat]?.getD default).d
def pnV (Lj : List Jb) (Ln : List Nd) (A : List Al) (E : List Qd) (id : Int) : Pn :=
 if dfI Lj id < 0 then ⟨0, 0, 0, [], [], false⟩
 else ⟨(dfJ Lj id).id, (dfJ Lj id).ve, evX E id, dfS Lj Ln A id, (plV (dfJ Lj id) Ln A (dfF Lj Ln A id)).1, (plV (dfJ Lj id) Ln A (dfF Lj Ln A id)).2⟩
def PnP (B : Nat) (v : Pn) (e : Ending) (w' : World) : Prop := ∃ sa sc pa pc, e = .returned (.agg #[.int .i64 v.jb, .int .i64 v.ve, .int .i64 v.ix, .slice sa v.st.length sc, .slice pa v.pl.length pc, .bool v.bl]) ∧ w'.ownsRow B 3 1 (.slice sa v.st.length sc) v.st.length (fl iC v.st) ∧ w'.ownsRow B 42 11 (.slice pa v.pl.length pc) v.pl.length (fl Al.cs v.pl)
structure Bq (B : Nat) (w W : World) : Prop where
 os : W.os = w.os
 tape : W.tape = w.tape
 output : W.output = w.output
 size : w.heap.size ≤ W.heap.size
 block : ∀ q, q < w.heap.size → q ≠ B → W.heap[q]? = w.heap[q]?
theorem Bq.refl (B : Nat) (w : World) : Bq B w w := ⟨rfl, rfl, rfl, Nat.le_refl _, fun _ _ _ => rfl⟩
theorem Bq.trans {B : Nat} {w W V : World} (h : Bq B w W) (g : Bq B W V) : Bq B w V := ⟨g.os.trans h.os, g.tape.trans h.tape, g.output.trans h.output, Nat.le_trans h.size g.size, fun q hq hn => (g.block q (Nat.lt_of_lt_of_le hq h.size) hn).trans (h.block q hq hn)⟩
theorem Bq.of {B : Nat} {w W : World} (h : Below w.heap.size w W) : Bq B w W := ⟨h.os, h.tape, h.output, h.size, fun q hq _ => h.block q hq⟩
theorem Bq.set {w W : World} {b t : Nat} {cs : List Value} (h : SetB w W b cs t) : Bq b w W := ⟨h.os, h.tp, h.ou, Nat.le_of_eq h.z.symm, fun q _ hn => h.o q hn⟩
theorem Bq.bel {B n : Nat} {w W : World} (h : Bq B w W) (hn : n ≤ B) (hs : n ≤ w.heap.size) : Below n w W := ⟨h.os, h.tape, h.output, h.size, fun q hq => h.block q (by omega) (by omega)⟩
theorem own_low {w : World} {lo lo' e k n : Nat} {v : Value} {xs : List Value} (h : w.ownsRow lo e k v n xs) (hl : lo' ≤ lo) : w.ownsRow lo' e k v n xs := by
 refine ⟨h.1, ?_⟩
 rcases h.2 with h2 | ⟨g, cap, cur, hv, h3, h4⟩
 ·exact .inl h2
 ·exact .inr ⟨g, cap, cur, hv, Nat.le_trans hl h3, h4⟩
theorem own_ty {w : World} {base e k n : Nat} {v : Value} {xs : List Value} (h : w.ownsRow base e k v n xs) : ∀ g, v.ownBlock = some g → ∃ cur, w.heap[g]? = some (.cells cur e (0, 0)) := by
 intro g hg
 rcases h.2 with ⟨hv, _⟩ | ⟨g', cap, cur, hv, hl, hg', _⟩
 ·rw [hv] at hg; cases hg
 ·rw [hv] at hg; cases hg; exact ⟨_, hg'⟩
theorem Bq.grown {B : Nat} {w W V : World} {r : Option Nat} (h : Bq B w W) (g : W.grownBy V r) (hr : ∀ x, some x = r → w.heap.size ≤ x) : Bq B w V := ⟨g.os.trans h.os, g.tape.trans h.tape, g.output.trans h.output, Nat.le_trans h.size g.size, fun q hq hn => (g.block q (Nat.lt_of_lt_of_le hq h.size) (fun e => by have := hr q e; omega)).trans (h.block q hq hn)⟩
theorem rowc {w : World} {b t : Nat} {cs : Array Value} (h : w.heap[b]? = some (.cells cs t (0, 0))) (j : Nat) (v : Value) (hj : cs[j]? = some v) : w.cell? ⟨b, j, none⟩ = some v := by
 rw [cell_of_row w b j cs t (0, 0) h]; exact hj
theorem slK_nat (ixs : Gp → List Int) (G : List Gp) (k : Nat) : ∀ s ∈ slK ixs G k, ∃ n : Nat, s.1 = (n : Int) ∧ n < k := by
 induction k with
 | zero => intro s hs; cases hs
 | succ k ih =>
  intro s hs
  rw [slK, List.mem_append] at hs
  rcases hs with h | h
  ·obtain ⟨n, h1, h2⟩ := ih s h
   exact ⟨n, h1, by omega⟩
  ·obtain ⟨i, _, rfl⟩ := List.mem_map.1 h
   exact ⟨k, rfl, by omega⟩
theorem fill_gr {Lj : List Jb} {Ln : List Nd} {A : List Al} {id : Int} (h : ¬ dfI Lj id < 0) : ∀ y ∈ dfF Lj Ln A id, ∃ gi : Nat, gi < (dfJ Lj id).gs.length ∧ y = ((gi : Int), y.2) := by
 intro y hy
 unfold dfF at hy
 rw [if_neg h] at hy
 unfold emV at hy
 have h2 := (List.mem_filter.1 hy).1
 unfold slV at h2
 by_cases hs : (dfJ Lj id).sd = true
 ·rw [if_pos hs] at h2; cases h2
 ·rw [if_neg hs] at h2
  obtain ⟨n, h3, h4⟩ := slK_nat _ _ _ y h2
  exact ⟨n, h4, Prod.ext h3 rfl⟩
set_option maxRecDepth 100000 in
set_option maxHeartbeats 8000000 in
theorem plan_any (s : Sc) (id : Int) (J : List Js) (Lj : List Jb) (Ln : List Nd) (A : List Al) (E : List Qd) (w : World) (hn2 : s.n2 = J.length) (hn4 : s.n4 = Ln.length) (hn5 : s.n5 = A.length) (hn6 : s.n6 = E.length) (hJ : JbR w (fun b => b < w.heap.size) s.a2 J Lj) (hN : Fl w (fun b => b < w.heap.size) 8 56 Nd.cs s.a4 Ln) (hA : Fl w (fun b => b < w.heap.size) 11 88 Al.cs s.a5 A) (hE : Fl w (fun b => b < w.heap.size) 4 32 Qd.cs s.a6 E) (hcap : cpL Ln = true) (hsl : ¬ dfI Lj id < 0 → (slV (dfJ Lj id) Ln).length * 16 ≤ 140737488355328) (hfl : (dfF Lj Ln A id).length * 88 ≤ 140737488355328) :
  Calls Try.prog 9 #[.agg #[.int .i64 s.ix, .int .i64 s.nx, .slice s.a2 s.n2 s.c2, .slice s.a3 s.n3 s.c3, .slice s.a4 s.n4 s.c4, .slice s.a5 s.n5 s.c5, .slice s.a6 s.n6 s.c6, .slice s.a7 s.n7 s.c7, .slice s.a8 s.n8 s.c8], .int .i64 id] w fun e w' => PnP w.heap.size (pnV Lj Ln A E id) e w' ∧ Below w.heap.size w w' := by
 obtain ⟨ix, nx, a2, n2, c2, a3, n3, c3, a4, n4, c4, a5, n5, c5, a6, n6, c6, a7, n7, c7, a8, n8, c8⟩ := s
 simp only at hn2 hn4 hn5 hn6 hJ hN hA hE
 subst hn2 hn4 hn5 hn6
 have HJB := hidOf (fun (W : World) (h : Below w.heap.size w W) => job_any ⟨ix, nx, a2, J.length, c2, a3, n3, c3, a4, Ln.length, c4, a5, A.length, c5, a6, E.length, c6, a7, n7, c7, a8, n8, c8⟩ id J W rfl (hJ.row.kept (fun b hb => h.block b hb) (fun b hb => Nat.lt_of_lt_of_le hb h.size)))
 rw [hJ.fi id] at HJB
 have HW2 : Hid (Below w.heap.size w ((w.alloc (.cells #[.int .i64 ix, .int .i64 nx, .slice a2 J.length c2, .slice a3 n3 c3, .slice a4 Ln.length c4, .slice a5 A.length c5, .slice a6 E.length c6, .slice a7 n7 c7, .slice a8 n8 c8] 29)).alloc (.cells #[.int .i64 0, .int .i64 0, .int .i64 0, .slice none 0 0, .slice none 0 0, .bool false] 35))) := hidOf (below2 w _ _)
 have hrng : dfI Lj id = -1 ∨ ∃ m : Nat, dfI Lj id = (m : Int) ∧ m < Lj.length := fi_rng (fun x : Jb => isI x.id id) Lj
 have hfold : fi (fun x : Jb => isI x.id id) Lj = dfI Lj id := rfl
 rw [hfold] at HJB
 clear hfold
 have HTB := two_boxes (cs := [.int .i64 ix, .int .i64 nx, .slice a2 J.length c2, .slice a3 n3 c3, .slice a4 Ln.length c4, .slice a5 A.length c5, .slice a6 E.length c6, .slice a7 n7 c7, .slice a8 n8 c8]) (ds := [.int .i64 0, .int .i64 0, .int .i64 0, .slice none 0 0, .slice none 0 0, .bool false]) (t := 29) (u := 35) (Below.refl _ ((w.alloc (.cells #[.int .i64 ix, .int .i64 nx, .slice a2 J.length c2, .slice a3 n3 c3, .slice a4 Ln.length c4, .slice a5 A.length c5, .slice a6 E.length c6, .slice a7 n7 c7, .slice a8 n8 c8] 29)).alloc (.cells #[.int .i64 0, .int .i64 0, .int .i64 0, .slice none 0 0, .slice none 0 0, .bool false] 35)))
 have hpr : ((w.alloc (.cells #[.int .i64 ix, .int .i64 nx, .slice a2 J.length c2, .slice a3 n3 c3, .slice a4 Ln.length c4, .slice a5 A.length c5, .slice a6 E.length c6, .slice a7 n7 c7, .slice a8 n8 c8] 29)).alloc (.cells #[.int .i64 0, .int .i64 0, .int .i64 0, .slice none 0 0, .slice none 0 0, .bool false] 35)).heap[w.heap.size + 1]? = some (.cells #[.int .i64 0, .int .i64 0, .int .i64 0, .slice none 0 0, .slice none 0 0, .bool false] 35 (0, 0)) := by
  have := heap_alloc_new (w.alloc (.cells #[.int .i64 ix, .int .i64 nx, .slice a2 J.length c2, .slice a3 n3 c3, .slice a4 Ln.length c4, .slice a5 A.length c5, .slice a6 E.length c6, .slice a7 n7 c7, .slice a8 n8 c8] 29)) (.cells #[.int .i64 0, .int .i64 0, .int .i64 0, .slice none 0 0, .slice none 0 0, .bool false] 35)
  rwa [World.size_alloc] at this
 obtain ⟨wa, hwa⟩ : ∃ wa, (w.alloc (.cells #[.int .i64 ix, .int .i64 nx, .slice a2 J.length c2, .slice a3 n3 c3, .slice a4 Ln.length c4, .slice a5 A.length c5, .slice a6 E.length c6, .slice a7 n7 c7, .slice a8 n8 c8] 29)).alloc (.cells #[.int .i64 0, .int .i64 0, .int .i64 0, .slice none 0 0, .slice none 0 0, .bool false] 35) = wa := ⟨_, rfl⟩
 rw [hwa] at HW2 HTB hpr
 have HSA := hidOf HTB.1
 have HPR := hidOf hpr
 have hz2 := HTB.2.2.2
 have HJ := hidOf hJ
 have HN := hidOf hN
 have HA := hidOf hA
 have HE := hidOf hE
 clear HTB hpr hJ hN hA hE
 rcases hrng with hv | ⟨m, hv, hm⟩
 ·have HPV : Hid (pnV Lj Ln A E id = ⟨0, 0, 0, [], [], false⟩) := hidOf (by unfold pnV; rw [if_pos (by omega)])
  rw [HPV.out]
  have HJ0 := hidOf (HJB.out wa HW2.out)
  rw [hv] at HJ0
  clear hv HPV hsl hfl HJB
  have t0 : wa.cell? ⟨w.heap.size, 0, none⟩ = some (.int .i64 ix) := HSA.out 0 _ rfl
  have t1 : wa.cell? ⟨w.heap.size, 1, none⟩ = some (.int .i64 nx) := HSA.out 1 _ rfl
  have t2 : wa.cell? ⟨w.heap.size, 2, none⟩ = some (.slice a2 J.length c2) := HSA.out 2 _ rfl
  have t3 : wa.cell? ⟨w.heap.size, 3, none⟩ = some (.slice a3 n3 c3) := HSA.out 3 _ rfl
  have t4 : wa.cell? ⟨w.heap.size, 4, none⟩ = some (.slice a4 Ln.length c4) := HSA.out 4 _ rfl
  have t5 : wa.cell? ⟨w.heap.size, 5, none⟩ = some (.slice a5 A.length c5) := HSA.out 5 _ rfl
  have t6 : wa.cell? ⟨w.heap.size, 6, none⟩ = some (.slice a6 E.length c6) := HSA.out 6 _ rfl
  have t7 : wa.cell? ⟨w.heap.size, 7, none⟩ = some (.slice a7 n7 c7) := HSA.out 7 _ rfl
  have t8 : wa.cell? ⟨w.heap.size, 8, none⟩ = some (.slice a8 n8 c8) := HSA.out 8 _ rfl
  have l0 : w.heap.size < wa.heap.size := lt_of_cell t0
  go_enter Try.func9, Try.ntmps9
  go_upto_region 1 with (fail)
  try rw [hwa]
  clear hwa
  go_upto_region 3 with (go_at_call 15; refine HJ0.out.mono ?_; rintro e w1 ⟨rfl, hb1⟩; have HB1 := hidOf hb1; clear hb1)
  clear t0 t1 t2 t3 t4 t5 t6 t7 t8 l0
  have HP1 : Hid (w1.heap[w.heap.size + 1]? = some (.cells #[.int .i64 0, .int .i64 0, .int .i64 0, .slice none 0 0, .slice none 0 0, .bool false] 35 (0, 0))) := hidOf ((HB1.out.block _ (by omega)).trans HPR.out)
  have p0 : w1.cell? ⟨w.heap.size + 1, 0, none⟩ = some (.int .i64 0) := rowc HP1.out 0 _ rfl
  have p1 : w1.cell? ⟨w.heap.size + 1, 1, none⟩ = some (.int .i64 0) := rowc HP1.out 1 _ rfl
  have p2 : w1.cell? ⟨w.heap.size + 1, 2, none⟩ = some (.int .i64 0) := rowc HP1.out 2 _ rfl
  have p3 : w1.cell? ⟨w.heap.size + 1, 3, none⟩ = some (.slice none 0 0) := rowc HP1.out 3 _ rfl
  have p4 : w1.cell? ⟨w.heap.size + 1, 4, none⟩ = some (.slice none 0 0) := rowc HP1.out 4 _ rfl
  have p5 : w1.cell? ⟨w.heap.size + 1, 5, none⟩ = some (.bool false) := rowc HP1.out 5 _ rfl
  have f0 : w1.frozen? ⟨w.heap.size + 1, 0, none⟩ = false := row_fz HP1.out 0
  have f1 : w1.frozen? ⟨w.heap.size + 1, 1, none⟩ = false := row_fz HP1.out 1
  have f2 : w1.frozen? ⟨w.heap.size + 1, 2, none⟩ = false := row_fz HP1.out 2
  have f3 : w1.frozen? ⟨w.heap.size + 1, 3, none⟩ = false := row_fz HP1.out 3
  have f4 : w1.frozen? ⟨w.heap.size + 1, 4, none⟩ = false := row_fz HP1.out 4
  have f5 : w1.frozen? ⟨w.heap.size + 1, 5, none⟩ = false := row_fz HP1.out 5
  have lp : w.heap.size + 1 < w1.heap.size := lt_of_cell p0
  go_wp2
  have q := (((((((SetB.refl (cs := [.int .i64 0, .int .i64 0, .int .i64 0, .slice none 0 0, .slice none 0 0, .bool false]) HP1.out).step 0 (.int .i64 0)).step 1 (.int .i64 0)).step 2 (.int .i64 0)).step 3 (.slice none 0 0)).step 4 (.slice none 0 0)).step 5 (.bool false))
  simp only [List.set_cons_zero, List.set_cons_succ] at q
  refine bodyPost_ret (results_cell_row Try.results9 _ _ (w.heap.size + 1) 35 #[.int .i64 0, .int .i64 0, .int .i64 0, .slice none 0 0, .slice none 0 0, .bool false] (0, 0) _ rfl (by exact q.h) Try.underlying35 rfl (by kernel_rfl)) rfl ?_
  exact ⟨⟨none, 0, none, 0, rfl, ⟨rfl, .inl ⟨rfl, rfl⟩⟩, ⟨rfl, .inl ⟨rfl, rfl⟩⟩⟩, (HW2.out.trans (HB1.out.mono HW2.out.size)).trans (q.bel (by omega))⟩
 ·obtain ⟨d, hd⟩ : ∃ d, Lj[m] = d := ⟨_, rfl⟩
  have hdj : dfJ Lj id = d := by unfold dfJ; rw [hv, Int.toNat_natCast, getD_at Lj m hm, hd]
  have hng : ¬ dfI Lj id < 0 := by omega
  obtain ⟨Fx, hFx⟩ : ∃ Fx, dfF Lj Ln A id = Fx := ⟨_, rfl⟩
  obtain ⟨Sx, hSx⟩ : ∃ Sx, dfS Lj Ln A id = Sx := ⟨_, rfl⟩
  obtain ⟨ev, hev⟩ : ∃ ev, evX E id = ev := ⟨_, rfl⟩
  have HPV : Hid (pnV Lj Ln A E id = ⟨d.id, d.ve, ev, Sx, (plV d Ln A Fx).1, (plV d Ln A Fx).2⟩) := hidOf (by unfold pnV; rw [if_neg hng, hdj, hFx, hSx, hev])
  have HGR := hidOf (fill_gr (Ln := Ln) (A := A) hng)
  rw [hFx, hdj] at HGR
  have HDF := hidOf (fun (W : World) (h : Below w.heap.size w W) => diff_any2 ⟨ix, nx, a2, J.length, c2, a3, n3, c3, a4, Ln.length, c4, a5, A.length, c5, a6, E.length, c6, a7, n7, c7, a8, n8, c8⟩ id J Lj Ln A W rfl rfl rfl (HJ.out.kept (fun b hb => h.block b hb) (fun b hb => Nat.lt_of_lt_of_le hb h.size)) (HN.out.kept (fun b hb => h.block b hb) (fun b hb => Nat.lt_of_lt_of_le hb h.size)) (HA.out.kept (fun b hb => h.block b hb) (fun b hb => Nat.lt_of_lt_of_le hb h.size)) hsl)
  rw [hFx, hSx] at HDF
  rw [hFx] at hfl
  have HEV := hidOf (fun (W : World) (h : Below w.heap.size w W) => eval_any ⟨ix, nx, a2, J.length, c2, a3, n3, c3, a4, Ln.length, c4, a5, A.length, c5, a6, E.length, c6, a7, n7, c7, a8, n8, c8⟩ id E W rfl (HE.out.kept (fun b hb => h.block b hb) (fun b hb => Nat.lt_of_lt_of_le hb h.size)))
  have hmJ : m < J.length := by rw [HJ.out.len]; exact hm
  obtain ⟨ga, gc, heq, hG⟩ := HJ.out.dp m hmJ hm
  rw [hd] at heq hG
  obtain ⟨b, off, ha, hQb, hcc⟩ := HJ.out.row.at m hmJ
  rw [heq] at hcc
  have hbw : b < w.heap.size := hQb
  have HG := hidOf hG
  have HCC := hidOf hcc
  subst ha
  have hk0 : ¬ ((m : Int) < 0) := by omega
  have hk1 : (m : Int) < (J.length : Int) := by omega
  have hk2 : decide ((m : Int) < 0) = false := by simp
  have HJ0 := hidOf (HJB.out wa HW2.out)
  rw [hv] at HJ0
  rw [HPV.out]
  clear hv hd hdj hng hFx hSx HPV heq hG hcc hQb hsl HJB
  have t0 : wa.cell? ⟨w.heap.size, 0, none⟩ = some (.int .i64 ix) := HSA.out 0 _ rfl
  have t1 : wa.cell? ⟨w.heap.size, 1, none⟩ = some (.int .i64 nx) := HSA.out 1 _ rfl
  have t2 : wa.cell? ⟨w.heap.size, 2, none⟩ = some (.slice (some ⟨b, off, none⟩) J.length c2) := HSA.out 2 _ rfl
  have t3 : wa.cell? ⟨w.heap.size, 3, none⟩ = some (.slice a3 n3 c3) := HSA.out 3 _ rfl
  have t4 : wa.cell? ⟨w.heap.size, 4, none⟩ = some (.slice a4 Ln.length c4) := HSA.out 4 _ rfl
  have t5 : wa.cell? ⟨w.heap.size, 5, none⟩ = some (.slice a5 A.length c5) := HSA.out 5 _ rfl
  have t6 : wa.cell? ⟨w.heap.size, 6, none⟩ = some (.slice a6 E.length c6) := HSA.out 6 _ rfl
  have t7 : wa.cell? ⟨w.heap.size, 7, none⟩ = some (.slice a7 n7 c7) := HSA.out 7 _ rfl
  have t8 : wa.cell? ⟨w.heap.size, 8, none⟩ = some (.slice a8 n8 c8) := HSA.out 8 _ rfl
  have l0 : w.heap.size < wa.heap.size := lt_of_cell t0
  go_enter Try.func9, Try.ntmps9
  go_upto_region 1 with (fail)
  try rw [hwa]
  clear hwa
  go_upto_region 4 with (go_at_call 15; refine HJ0.out.mono ?_; rintro e w1 ⟨rfl, hb1⟩; have HB1 := hidOf hb1; clear hb1)
  clear t0 t1 t2 t3 t4 t5 t6 t7 t8 l0
  have HW1 := hidOf (HW2.out.trans (HB1.out.mono HW2.out.size))
  have hz1 : w.heap.size + 1 < w1.heap.size := by have := HB1.out.size; omega
  have HS1 := hidOf (range_of HSA.out (HB1.out.block w.heap.size (by omega)))
  have HP1 : Hid (w1.heap[w.heap.size + 1]? = some (.cells #[.int .i64 0, .int .i64 0, .int .i64 0, .slice none 0 0, .slice none 0 0, .bool false] 35 (0, 0))) := hidOf ((HB1.out.block _ (by omega)).trans HPR.out)
  have hcr := range_of HCC.out (HW1.out.block b hbw)
  have j0 : w1.cell? ⟨b, off + m * 7, none⟩ = some (.int .i64 d.id) := hcr 0 _ rfl
  have j1 : w1.cell? ⟨b, off + m * 7 + 1, none⟩ = some (.int .i64 d.ty) := hcr 1 _ rfl
  have j2 : w1.cell? ⟨b, off + m * 7 + 2, none⟩ = some (.int .i64 d.pr) := hcr 2 _ rfl
  have j3 : w1.cell? ⟨b, off + m * 7 + 3, none⟩ = some (.int .i64 d.pa) := hcr 3 _ rfl
  have j4 : w1.cell? ⟨b, off + m * 7 + 4, none⟩ = some (.slice ga d.gs.length gc) := hcr 4 _ rfl
  have j5 : w1.cell? ⟨b, off + m * 7 + 5, none⟩ = some (.int .i64 d.ve) := hcr 5 _ rfl
  have j6 : w1.cell? ⟨b, off + m * 7 + 6, none⟩ = some (.bool d.sd) := hcr 6 _ rfl
  have lb1 : b < w1.heap.size := lt_of_cell j0
  have t0 : w1.cell? ⟨w.heap.size, 0, none⟩ = some (.int .i64 ix) := HS1.out 0 _ rfl
  have t1 : w1.cell? ⟨w.heap.size, 1, none⟩ = some (.int .i64 nx) := HS1.out 1 _ rfl
  have t2 : w1.cell? ⟨w.heap.size, 2, none⟩ = some (.slice (some ⟨b, off, none⟩) J.length c2) := HS1.out 2 _ rfl
  have t3 : w1.cell? ⟨w.heap.size, 3, none⟩ = some (.slice a3 n3 c3) := HS1.out 3 _ rfl
  have t4 : w1.cell? ⟨w.heap.size, 4, none⟩ = some (.slice a4 Ln.length c4) := HS1.out 4 _ rfl
  have t5 : w1.cell? ⟨w.heap.size, 5, none⟩ = some (.slice a5 A.length c5) := HS1.out 5 _ rfl
  have t6 : w1.cell? ⟨w.heap.size, 6, none⟩ = some (.slice a6 E.length c6) := HS1.out 6 _ rfl
  have t7 : w1.cell? ⟨w.heap.size, 7, none⟩ = some (.slice a7 n7 c7) := HS1.out 7 _ rfl
  have t8 : w1.cell? ⟨w.heap.size, 8, none⟩ = some (.slice a8 n8 c8) := HS1.out 8 _ rfl
  have l0 : w.heap.size < w1.heap.size := lt_of_cell t0
  clear hcr HSA HPR HB1 hz2 HCC
  go_upto_region 5 with (fail)
  obtain ⟨BJ, hBJ⟩ : ∃ BJ, w1.heap.size = BJ := ⟨_, rfl⟩
  obtain ⟨w2, hw2⟩ : ∃ w2, w1.alloc (.cells #[.int .i64 d.id, .int .i64 d.ty, .int .i64 d.pr, .int .i64 d.pa, .slice ga d.gs.length gc, .int .i64 d.ve, .bool d.sd] 51) = w2 := ⟨_, rfl⟩
  have hb2 := below1 w1 (.cells #[.int .i64 d.id, .int .i64 d.ty, .int .i64 d.pr, .int .i64 d.pa, .slice ga d.gs.length gc, .int .i64 d.ve, .bool d.sd] 51)
  have hx2 : (w1.alloc (.cells #[.int .i64 d.id, .int .i64 d.ty, .int .i64 d.pr, .int .i64 d.pa, .slice ga d.gs.length gc, .int .i64 d.ve, .bool d.sd] 51)).rangeAt w1.heap.size 0 [.int .i64 d.id, .int .i64 d.ty, .int .i64 d.pr, .int .i64 d.pa, .slice ga d.gs.length gc, .int .i64 d.ve, .bool d.sd] := box_new (Below.refl _ _)
  have hz : (w1.alloc (.cells #[.int .i64 d.id, .int .i64 d.ty, .int .i64 d.pr, .int .i64 d.pa, .slice ga d.gs.length gc, .int .i64 d.ve, .bool d.sd] 51)).heap.size = w1.heap.size + 1 := by simp
  try rw [hw2]
  try rw [hBJ]
  rw [hw2] at hb2 hx2 hz
  rw [hBJ] at hx2 hz
  have hBJ1 : w.heap.size + 1 < BJ := by rw [← hBJ]; exact hz1
  have HB2 := hidOf hb2
  have HX2 := hidOf hx2
  have HS2 := hidOf (range_of HS1.out (hb2.block w.heap.size (by omega)))
  have HP2 : Hid (w2.heap[w.heap.size + 1]? = some (.cells #[.int .i64 0, .int .i64 0, .int .i64 0, .slice none 0 0, .slice none 0 0, .bool false] 35 (0, 0))) := hidOf ((hb2.block _ (by omega)).trans HP1.out)
  have HW2 := hidOf (HW1.out.trans (hb2.mono HW1.out.size))
  clear t0 t1 t2 t3 t4 t5 t6 t7 t8 l0 lb1 j0 j1 j2 j3 j4 j5 j6
  clear hBJ hw2 hb2 hx2 hz1 HS1 HP1
  have j0 : w2.cell? ⟨BJ, 0, none⟩ = some (.int .i64 d.id) := HX2.out 0 _ rfl
  have j1 : w2.cell? ⟨BJ, 1, none⟩ = some (.int .i64 d.ty) := HX2.out 1 _ rfl
  have j2 : w2.cell? ⟨BJ, 2, none⟩ = some (.int .i64 d.pr) := HX2.out 2 _ rfl
  have j3 : w2.cell? ⟨BJ, 3, none⟩ = some (.int .i64 d.pa) := HX2.out 3 _ rfl
  have j4 : w2.cell? ⟨BJ, 4, none⟩ = some (.slice ga d.gs.length gc) := HX2.out 4 _ rfl
  have j5 : w2.cell? ⟨BJ, 5, none⟩ = some (.int .i64 d.ve) := HX2.out 5 _ rfl
  have j6 : w2.cell? ⟨BJ, 6, none⟩ = some (.bool d.sd) := HX2.out 6 _ rfl
  have lj : BJ < w2.heap.size := lt_of_cell j0
  have p0 : w2.cell? ⟨w.heap.size + 1, 0, none⟩ = some (.int .i64 0) := rowc HP2.out 0 _ rfl
  have p1 : w2.cell? ⟨w.heap.size + 1, 1, none⟩ = some (.int .i64 0) := rowc HP2.out 1 _ rfl
  have p2 : w2.cell? ⟨w.heap.size + 1, 2, none⟩ = some (.int .i64 0) := rowc HP2.out 2 _ rfl
  have p3 : w2.cell? ⟨w.heap.size + 1, 3, none⟩ = some (.slice none 0 0) := rowc HP2.out 3 _ rfl
  have p4 : w2.cell? ⟨w.heap.size + 1, 4, none⟩ = some (.slice none 0 0) := rowc HP2.out 4 _ rfl
  have p5 : w2.cell? ⟨w.heap.size + 1, 5, none⟩ = some (.bool false) := rowc HP2.out 5 _ rfl
  have f0 : w2.frozen? ⟨w.heap.size + 1, 0, none⟩ = false := row_fz HP2.out 0
  have f1 : w2.frozen? ⟨w.heap.size + 1, 1, none⟩ = false := row_fz HP2.out 1
  have f2 : w2.frozen? ⟨w.heap.size + 1, 2, none⟩ = false := row_fz HP2.out 2
  have f3 : w2.frozen? ⟨w.heap.size + 1, 3, none⟩ = false := row_fz HP2.out 3
  have f4 : w2.frozen? ⟨w.heap.size + 1, 4, none⟩ = false := row_fz HP2.out 4
  have f5 : w2.frozen? ⟨w.heap.size + 1, 5, none⟩ = false := row_fz HP2.out 5
  have lp : w.heap.size + 1 < w2.heap.size := lt_of_cell p0
  have QA := (SetB.refl (cs := [.int .i64 0, .int .i64 0, .int .i64 0, .slice none 0 0, .slice none 0 0, .bool false]) HP2.out).step 0 (.int .i64 d.id)
  have QB := QA.step 1 (.int .i64 d.ve)
  have hne : BJ ≠ w.heap.size + 1 := by omega
  have KS := hidOf (fun (W : World) (ho : ∀ x, x ≠ w.heap.size + 1 → W.heap[x]? = w2.heap[x]?) => (show (fun (Y : World) => Y.cell? ⟨BJ, 0, none⟩ = some (.int .i64 d.id) ∧ Y.cell? ⟨BJ, 5, none⟩ = some (.int .i64 d.ve)) W from ⟨(World.cell?_of_block (ho _ hne)).trans j0, (World.cell?_of_block (ho _ hne)).trans j5⟩))
  have KD := hidOf (fun (W : World) (ho : ∀ x, x ≠ w.heap.size + 1 → W.heap[x]? = w2.heap[x]?) => (show (fun (Y : World) => Y.cell? ⟨BJ, 0, none⟩ = some (.int .i64 d.id) ∧ Y.cell? ⟨BJ, 5, none⟩ = some (.int .i64 d.ve)) W.drew from KS.out W ho))
  go_region_held3 (fun (Y : World) => Y.cell? ⟨BJ, 0, none⟩ = some (.int .i64 d.id) ∧ Y.cell? ⟨BJ, 5, none⟩ = some (.int .i64 d.ve)) (first | with_reducible exact KD.out _ QA.o | with_reducible exact KD.out _ QB.o | with_reducible exact KS.out _ QA.o | with_reducible exact KS.out _ QB.o | go_keep) (fail)
  have hq := QB
  simp only [List.set_cons_zero, List.set_cons_succ] at hq
  obtain ⟨w3, hw3⟩ : ∃ w3, ((w2.setCell ⟨w.heap.size + 1, 0, none⟩ (.int .i64 d.id)).setCell ⟨w.heap.size + 1, 1, none⟩ (.int .i64 d.ve)).drew = w3 := ⟨_, rfl⟩
  have HQ3 : Hid (Bq (w.heap.size + 1) w2 w3) := hidOf (by rw [← hw3]; exact (Bq.set hq).trans (Bq.of (bdrew _)))
  have HP3 : Hid (w3.heap[w.heap.size + 1]? = some (.cells #[.int .i64 d.id, .int .i64 d.ve, .int .i64 0, .slice none 0 0, .slice none 0 0, .bool false] 35 (0, 0))) := hidOf (by rw [← hw3]; exact hq.h)
  try rw [hw3]
  have hsz3 := HQ3.out.size
  have HS3 := hidOf (range_of HS2.out (HQ3.out.block w.heap.size (by omega) (by omega)))
  have HX3 := hidOf (range_of HX2.out (HQ3.out.block BJ lj (by omega)))
  have HW3 := hidOf (HW2.out.trans (HQ3.out.bel (n := w.heap.size) (by omega) (by have := HW2.out.size; omega)))
  have hlj3 : BJ < w3.heap.size := by omega
  clear QA QB hq hw3 KS KD
  clear p0 f0 p1 f1 p2 f2 p3 f3 p4 f4 p5 f5 lp
  clear j0 j1 j2 j3 j4 j5 j6 lj
  clear HP2 HS2 HX2 HQ3 hsz3 HB2
  have hfe : fi (fun x : Qd => isI x.a id) E = -1 ∨ ∃ k : Nat, fi (fun x : Qd => isI x.a id) E = (k : Int) ∧ k < E.length := fi_rng _ E
  have HEV3 := hidOf (HEV.out w3 HW3.out)
  unfold evX at hev
  obtain ⟨fe, hfx⟩ : ∃ fe, fi (fun x : Qd => isI x.a id) E = fe := ⟨_, rfl⟩
  rw [hfx] at hfe hev HEV3
  clear hfx HEV
  have t0 : w3.cell? ⟨w.heap.size, 0, none⟩ = some (.int .i64 ix) := HS3.out 0 _ rfl
  have t1 : w3.cell? ⟨w.heap.size, 1, none⟩ = some (.int .i64 nx) := HS3.out 1 _ rfl
  have t2 : w3.cell? ⟨w.heap.size, 2, none⟩ = some (.slice (some ⟨b, off, none⟩) J.length c2) := HS3.out 2 _ rfl
  have t3 : w3.cell? ⟨w.heap.size, 3, none⟩ = some (.slice a3 n3 c3) := HS3.out 3 _ rfl
  have t4 : w3.cell? ⟨w.heap.size, 4, none⟩ = some (.slice a4 Ln.length c4) := HS3.out 4 _ rfl
  have t5 : w3.cell? ⟨w.heap.size, 5, none⟩ = some (.slice a5 A.length c5) := HS3.out 5 _ rfl
  have t6 : w3.cell? ⟨w.heap.size, 6, none⟩ = some (.slice a6 E.length c6) := HS3.out 6 _ rfl
  have t7 : w3.cell? ⟨w.heap.size, 7, none⟩ = some (.slice a7 n7 c7) := HS3.out 7 _ rfl
  have t8 : w3.cell? ⟨w.heap.size, 8, none⟩ = some (.slice a8 n8 c8) := HS3.out 8 _ rfl
  have l0 : w.heap.size < w3.heap.size := lt_of_cell t0
  go_upto_if 34 with (go_at_call 16; refine HEV3.out.mono ?_; rintro e w4 ⟨rfl, hb4⟩; have HB4 := hidOf hb4; clear hb4)
  clear t0 t1 t2 t3 t4 t5 t6 t7 t8 l0
  have HS4 := hidOf (range_of HS3.out (HB4.out.block w.heap.size (by omega)))
  have HX4 := hidOf (range_of HX3.out (HB4.out.block BJ hlj3))
  have HP4 : Hid (w4.heap[w.heap.size + 1]? = some (.cells #[.int .i64 d.id, .int .i64 d.ve, .int .i64 0, .slice none 0 0, .slice none 0 0, .bool false] 35 (0, 0))) := hidOf ((HB4.out.block _ (by omega)).trans HP3.out)
  have HW4 := hidOf (HW3.out.trans (HB4.out.mono HW3.out.size))
  have hl4 : BJ < w4.heap.size := Nat.lt_of_lt_of_le hlj3 HB4.out.size
  clear HS3 HX3 HP3 HB4 HEV3 hlj3
  go_cut [] from 13 (fun wc => Hid (wc.heap[w.heap.size + 1]? = some (.cells #[.int .i64 d.id, .int .i64 d.ve, .int .i64 ev, .slice none 0 0, .slice none 0 0, .bool false] 35 (0, 0))) ∧ Hid (Bq (w.heap.size + 1) w4 wc))
  case first =>
   rcases hfe with hf | ⟨k, hf, hk⟩
   ·subst hf
    have he0 : ev = 0 := by rw [← hev]; rfl
    subst he0
    go_wp2
    go_meet
    case rel => exact ⟨HP4, hidOf (Bq.refl _ _)⟩
   ·subst hf
    obtain ⟨be, offe, hae, hQe, hce⟩ := HE.out.at k hk
    have hQe' : be < w.heap.size := hQe
    have he0 : ev = E[k].d := by rw [← hev, if_neg (by omega), Int.toNat_natCast, getD_at E k hk]
    have hle : E.length * 32 ≤ 140737488355328 := HE.out.bd
    subst hae
    have hcr := range_of hce (HW4.out.block be hQe')
    have e3 : w4.cell? ⟨be, offe + k * 4 + 3, none⟩ = some (.int .i64 ev) := by rw [he0]; exact hcr 3 _ rfl
    have le : be < w4.heap.size := lt_of_cell e3
    have hq0 : decide ((0 : Int) ≤ (k : Int)) = true := by simp
    have hi0 : ¬ ((k : Int) < 0) := by omega
    have hi1 : (k : Int) < (E.length : Int) := by omega
    clear hce hcr he0 hQe hev
    have t0 : w4.cell? ⟨w.heap.size, 0, none⟩ = some (.int .i64 ix) := HS4.out 0 _ rfl
    have t1 : w4.cell? ⟨w.heap.size, 1, none⟩ = some (.int .i64 nx) := HS4.out 1 _ rfl
    have t2 : w4.cell? ⟨w.heap.size, 2, none⟩ = some (.slice (some ⟨b, off, none⟩) J.length c2) := HS4.out 2 _ rfl
    have t3 : w4.cell? ⟨w.heap.size, 3, none⟩ = some (.slice a3 n3 c3) := HS4.out 3 _ rfl
    have t4 : w4.cell? ⟨w.heap.size, 4, none⟩ = some (.slice a4 Ln.length c4) := HS4.out 4 _ rfl
    have t5 : w4.cell? ⟨w.heap.size, 5, none⟩ = some (.slice a5 A.length c5) := HS4.out 5 _ rfl
    have t6 : w4.cell? ⟨w.heap.size, 6, none⟩ = some (.slice (some ⟨be, offe, none⟩) E.length c6) := HS4.out 6 _ rfl
    have t7 : w4.cell? ⟨w.heap.size, 7, none⟩ = some (.slice a7 n7 c7) := HS4.out 7 _ rfl
    have t8 : w4.cell? ⟨w.heap.size, 8, none⟩ = some (.slice a8 n8 c8) := HS4.out 8 _ rfl
    have l0 : w.heap.size < w4.heap.size := lt_of_cell t0
    have p0 : w4.cell? ⟨w.heap.size + 1, 0, none⟩ = some (.int .i64 d.id) := rowc HP4.out 0 _ rfl
    have p1 : w4.cell? ⟨w.heap.size + 1, 1, none⟩ = some (.int .i64 d.ve) := rowc HP4.out 1 _ rfl
    have p2 : w4.cell? ⟨w.heap.size + 1, 2, none⟩ = some (.int .i64 0) := rowc HP4.out 2 _ rfl
    have p3 : w4.cell? ⟨w.heap.size + 1, 3, none⟩ = some (.slice none 0 0) := rowc HP4.out 3 _ rfl
    have p4 : w4.cell? ⟨w.heap.size + 1, 4, none⟩ = some (.slice none 0 0) := rowc HP4.out 4 _ rfl
    have p5 : w4.cell? ⟨w.heap.size + 1, 5, none⟩ = some (.bool false) := rowc HP4.out 5 _ rfl
    have f0 : w4.frozen? ⟨w.heap.size + 1, 0, none⟩ = false := row_fz HP4.out 0
    have f1 : w4.frozen? ⟨w.heap.size + 1, 1, none⟩ = false := row_fz HP4.out 1
    have f2 : w4.frozen? ⟨w.heap.size + 1, 2, none⟩ = false := row_fz HP4.out 2
    have f3 : w4.frozen? ⟨w.heap.size + 1, 3, none⟩ = false := row_fz HP4.out 3
    have f4 : w4.frozen? ⟨w.heap.size + 1, 4, none⟩ = false := row_fz HP4.out 4
    have f5 : w4.frozen? ⟨w.heap.size + 1, 5, none⟩ = false := row_fz HP4.out 5
    have lp : w.heap.size + 1 < w4.heap.size := lt_of_cell p0
    have q := (SetB.refl (cs := [.int .i64 d.id, .int .i64 d.ve, .int .i64 0, .slice none 0 0, .slice none 0 0, .bool false]) HP4.out).step 2 (.int .i64 ev)
    simp only [List.set_cons_zero, List.set_cons_succ] at q
    have HQ := hidOf q
    clear q
    go_wp2
    go_meet
    case rel => exact ⟨hidOf HQ.out.h, hidOf (Bq.set HQ.out)⟩
  case rest =>
   obtain ⟨HPc, HBc⟩ := hcut
   clear hev hfe HE
   have hszc := HBc.out.size
   have HSc := hidOf (range_of HS4.out (HBc.out.block w.heap.size (by omega) (by omega)))
   have HXc := hidOf (range_of HX4.out (HBc.out.block BJ hl4 (by omega)))
   have HWc := hidOf (HW4.out.trans (HBc.out.bel (n := w.heap.size) (by omega) (by omega)))
   have hlc : BJ < wc.heap.size := by omega
   clear HS4 HX4 HP4 HW4 HBc hszc hl4
   have t0 : wc.cell? ⟨w.heap.size, 0, none⟩ = some (.int .i64 ix) := HSc.out 0 _ rfl
   have t1 : wc.cell? ⟨w.heap.size, 1, none⟩ = some (.int .i64 nx) := HSc.out 1 _ rfl
   have t2 : wc.cell? ⟨w.heap.size, 2, none⟩ = some (.slice (some ⟨b, off, none⟩) J.length c2) := HSc.out 2 _ rfl
   have t3 : wc.cell? ⟨w.heap.size, 3, none⟩ = some (.slice a3 n3 c3) := HSc.out 3 _ rfl
   have t4 : wc.cell? ⟨w.heap.size, 4, none⟩ = some (.slice a4 Ln.length c4) := HSc.out 4 _ rfl
   have t5 : wc.cell? ⟨w.heap.size, 5, none⟩ = some (.slice a5 A.length c5) := HSc.out 5 _ rfl
   have t6 : wc.cell? ⟨w.heap.size, 6, none⟩ = some (.slice a6 E.length c6) := HSc.out 6 _ rfl
   have t7 : wc.cell? ⟨w.heap.size, 7, none⟩ = some (.slice a7 n7 c7) := HSc.out 7 _ rfl
   have t8 : wc.cell? ⟨w.heap.size, 8, none⟩ = some (.slice a8 n8 c8) := HSc.out 8 _ rfl
   have l0 : w.heap.size < wc.heap.size := lt_of_cell t0
   go_upto_region 11 with (go_at_call 17; refine (HDF.out _ HWc.out).mono ?_; rintro e w5 ⟨sa, sc, fa, fc, rfl, hos5, hof5, hb5⟩; have HOS := hidOf hos5; have HOF := hidOf hof5; have HB5 := hidOf hb5; have HP5 : Hid (w5.heap[w.heap.size + 1]? = some (.cells #[.int .i64 d.id, .int .i64 d.ve, .int .i64 ev, .slice none 0 0, .slice none 0 0, .bool false] 35 (0, 0))) := hidOf ((hb5.block _ (by omega)).trans HPc.out); have p0 : w5.cell? ⟨w.heap.size + 1, 0, none⟩ = some (.int .i64 d.id) := rowc HP5.out 0 _ rfl; have p1 : w5.cell? ⟨w.heap.size + 1, 1, none⟩ = some (.int .i64 d.ve) := rowc HP5.out 1 _ rfl; have p2 : w5.cell? ⟨w.heap.size + 1, 2, none⟩ = some (.int .i64 ev) := rowc HP5.out 2 _ rfl; have p3 : w5.cell? ⟨w.heap.size + 1, 3, none⟩ = some (.slice none 0 0) := rowc HP5.out 3 _ rfl; have p4 : w5.cell? ⟨w.heap.size + 1, 4, none⟩ = some (.slice none 0 0) := rowc HP5.out 4 _ rfl; have p5 : w5.cell? ⟨w.heap.size + 1, 5, none⟩ = some (.bool false) := rowc HP5.out 5 _ rfl; have f0 : w5.frozen? ⟨w.heap.size + 1, 0, none⟩ = false := row_fz HP5.out 0; have f1 : w5.frozen? ⟨w.heap.size + 1, 1, none⟩ = false := row_fz HP5.out 1; have f2 : w5.frozen? ⟨w.heap.size + 1, 2, none⟩ = false := row_fz HP5.out 2; have f3 : w5.frozen? ⟨w.heap.size + 1, 3, none⟩ = false := row_fz HP5.out 3; have f4 : w5.frozen? ⟨w.heap.size + 1, 4, none⟩ = false := row_fz HP5.out 4; have f5 : w5.frozen? ⟨w.heap.size + 1, 5, none⟩ = false := row_fz HP5.out 5; have lp : w.heap.size + 1 < w5.heap.size := lt_of_cell p0; clear hos5 hof5 hb5)
   clear t0 t1 t2 t3 t4 t5 t6 t7 t8 l0
   have hq : SetB w5 (w5.setCell ⟨w.heap.size + 1, 3, none⟩ (.slice sa Sx.length sc)) (w.heap.size + 1) [.int .i64 d.id, .int .i64 d.ve, .int .i64 ev, .slice sa Sx.length sc, .slice none 0 0, .bool false] 35 := by
    have := (SetB.refl (cs := [.int .i64 d.id, .int .i64 d.ve, .int .i64 ev, .slice none 0 0, .slice none 0 0, .bool false]) HP5.out).step 3 (.slice sa Sx.length sc)
    simpa only [List.set_cons_zero, List.set_cons_succ] using this
   obtain ⟨w6, hw6⟩ : ∃ w6, w5.setCell ⟨w.heap.size + 1, 3, none⟩ (.slice sa Sx.length sc) = w6 := ⟨_, rfl⟩
   rw [hw6] at hq
   try rw [hw6]
   have HQ6 := hidOf hq
   have hz6 : w6.heap.size = w5.heap.size := hq.z
   have hz5 := HB5.out.size
   have HP6 : Hid (w6.heap[w.heap.size + 1]? = some (.cells #[.int .i64 d.id, .int .i64 d.ve, .int .i64 ev, .slice sa Sx.length sc, .slice none 0 0, .bool false] 35 (0, 0))) := hidOf hq.h
   have HOS6 := hidOf (own_kept HOS.out (fun q h1 _ => HQ6.out.o q (by omega)))
   have HF6 := hidOf ((own_fl (y := 0) sC_len HOF.out (by omega)).kept (w' := w6) (S' := fun q => q < w6.heap.size ∧ q ≠ w.heap.size + 1) (fun q hq => HQ6.out.o q (by have := hq.1; omega)) (fun q hq => ⟨by have := hq.lt; omega, by have := hq.1; omega⟩))
   have HS6 := hidOf (range_of (range_of HSc.out (HB5.out.block w.heap.size (by omega))) (HQ6.out.o w.heap.size (by omega)))
   have HX6 := hidOf (range_of (range_of HXc.out (HB5.out.block BJ hlc)) (HQ6.out.o BJ (by omega)))
   have HW6 := hidOf ((HWc.out.trans (HB5.out.mono HWc.out.size)).trans (HQ6.out.bel (n := w.heap.size) (by omega)))
   have hl6 : BJ < w6.heap.size := by omega
   have HLO : Hid (w.heap.size ≤ wc.heap.size) := hidOf (by omega)
   have HLC : Hid (w.heap.size + 1 < wc.heap.size) := hidOf (by omega)
   clear p0 f0 p1 f1 p2 f2 p3 f3 p4 f4 p5 f5 lp
   clear hq hw6 HP5 HOS HOF HSc HXc HWc HB5 HQ6 hz6 hz5 hlc HDF HPc
   go_upto_region 11 with (fail)
   go_wp2
   go_loopw [51] (fun i wr => ∃ (k : Nat) (M : List Al) (bl : Bool) (pa : Option Addr) (pc : Nat), k ≤ Fx.length ∧ i = .int .i64 k ∧ M.length ≤ k ∧ Hid ((M, bl) = plV d Ln A (Fx.take k)) ∧ Hid (wr.heap[w.heap.size + 1]? = some (.cells #[.int .i64 d.id, .int .i64 d.ve, .int .i64 ev, .slice sa Sx.length sc, .slice pa M.length pc, .bool bl] 35 (0, 0))) ∧ Hid (wr.ownsRow w6.heap.size 42 11 (.slice pa M.length pc) M.length (fl Al.cs M)) ∧ Hid (Bq (w.heap.size + 1) w6 wr)) (fun i _ => Fx.length - (intOf i).toNat)
   case atStart => exact ⟨0, [], false, none, 0, Nat.zero_le _, rfl, Nat.zero_le _, hidOf rfl, HP6, hidOf ⟨rfl, .inl ⟨rfl, rfl⟩⟩, hidOf (Bq.refl _ _)⟩
   case round =>
    obtain ⟨k, M, bl, pa, pc, hk, rfl, hmk, HPL, HPr, HMO, HQr⟩ := hrel
    by_cases hlt : k < Fx.length
    ·obtain ⟨b9, off9, ha9, hQ9, hc9⟩ := HF6.out.at k hlt
     obtain ⟨hq9a, hq9b⟩ : b9 < w6.heap.size ∧ b9 ≠ w.heap.size + 1 := hQ9
     have HTK := hidOf (take_snoc Fx k hlt)
     obtain ⟨gi, hgi, hy⟩ := HGR.out Fx[k] (List.getElem_mem hlt)
     obtain ⟨yx, hyx⟩ : ∃ yx, (Fx[k]).2 = yx := ⟨_, rfl⟩
     rw [hyx] at hy
     rw [hy] at hc9 HTK
     subst ha9
     obtain ⟨g, hg⟩ : ∃ g, d.gs[gi] = g := ⟨_, rfl⟩
     have HASK := hidOf (askV_at hgi hg yx)
     have hzr := HQr.out.size
     have hcr := range_of hc9 (HQr.out.block b9 hq9a hq9b)
     have y0 : wr.cell? ⟨b9, off9 + k * 2, none⟩ = some (.int .i64 (gi : Int)) := hcr 0 _ rfl
     have y1 : wr.cell? ⟨b9, off9 + k * 2 + 1, none⟩ = some (.int .i64 yx) := hcr 1 _ rfl
     have l9 : b9 < wr.heap.size := lt_of_cell y0
     have hi0 : ¬ ((k : Int) < 0) := by omega
     have hi1 : (k : Int) < (Fx.length : Int) := by omega
     have hfl2 : Fx.length * 88 ≤ 140737488355328 := hfl
     clear hc9 hcr hy hyx
     go_upto_region 14 with (fail)
     obtain ⟨wq, hwq⟩ : ∃ wq, wr.alloc (.cells #[.int .i64 (gi : Int), .int .i64 yx] 60) = wq := ⟨_, rfl⟩
     obtain ⟨BS, hBS⟩ : ∃ BS, wr.heap.size = BS := ⟨_, rfl⟩
     have hbq := below1 wr (.cells #[.int .i64 (gi : Int), .int .i64 yx] 60)
     have hyr : (wr.alloc (.cells #[.int .i64 (gi : Int), .int .i64 yx] 60)).heap[wr.heap.size]? = some (.cells #[.int .i64 (gi : Int), .int .i64 yx] 60 (0, 0)) := heap_alloc_new _ _
     have hxq : (wr.alloc (.cells #[.int .i64 (gi : Int), .int .i64 yx] 60)).rangeAt wr.heap.size 0 [.int .i64 (gi : Int), .int .i64 yx] := box_new (Below.refl _ _)
     have hzq : (wr.alloc (.cells #[.int .i64 (gi : Int), .int .i64 yx] 60)).heap.size = wr.heap.size + 1 := by simp
     try rw [hwq]
     try rw [hBS]
     rw [hwq] at hbq hxq hzq hyr
     rw [hBS] at hxq hzq hyr
     have HYR := hidOf hyr
     clear hyr
     clear hwq y0 y1 l9
     have HBQ := hidOf hbq
     have HYQ := hidOf hxq
     have HQq := hidOf (HQr.out.trans (Bq.of hbq))
     have HSq := hidOf (range_of HS6.out (HQq.out.block w.heap.size (by omega) (by omega)))
     have HXq := hidOf (range_of HX6.out (HQq.out.block BJ hl6 (by omega)))
     have HPq : Hid (wq.heap[w.heap.size + 1]? = some (.cells #[.int .i64 d.id, .int .i64 d.ve, .int .i64 ev, .slice sa Sx.length sc, .slice pa M.length pc, .bool bl] 35 (0, 0))) := hidOf ((hbq.block _ (by omega)).trans HPr.out)
     have HMq := hidOf (own_kept HMO.out (fun q _ hq => hbq.block q hq))
     have HWq := hidOf (HW6.out.trans (HQq.out.bel (n := w.heap.size) (by omega) (by omega)))
     have HNF := hidOf (nodeFor_any ⟨ix, nx, some ⟨b, off, none⟩, J.length, c2, a3, n3, c3, a4, Ln.length, c4, a5, A.length, c5, a6, E.length, c6, a7, n7, c7, a8, n8, c8⟩ d ga gc gi yx Ln A M pa pc wq ⟨rfl, rfl, HN.out.kept (fun b hb => HWq.out.block b hb) (fun b hb => Nat.lt_of_lt_of_le hb HWq.out.size), HA.out.kept (fun b hb => HWq.out.block b hb) (fun b hb => Nat.lt_of_lt_of_le hb HWq.out.size)⟩ ((own_fl (y := 88) Al.len HMq.out (by omega)).kept (fun _ _ => rfl) (fun _ hb => hb.lt)) hcap (HG.out.kept (fun b hb => HWq.out.block b hb) (fun b hb => Nat.lt_of_lt_of_le hb HWq.out.size)) hgi)
     have hbs1 : BS < wq.heap.size := by omega
     have hbs2 : BJ < BS := by omega
     clear hbq hxq hBS
     have t0 : wq.cell? ⟨w.heap.size, 0, none⟩ = some (.int .i64 ix) := HSq.out 0 _ rfl
     have t1 : wq.cell? ⟨w.heap.size, 1, none⟩ = some (.int .i64 nx) := HSq.out 1 _ rfl
     have t2 : wq.cell? ⟨w.heap.size, 2, none⟩ = some (.slice (some ⟨b, off, none⟩) J.length c2) := HSq.out 2 _ rfl
     have t3 : wq.cell? ⟨w.heap.size, 3, none⟩ = some (.slice a3 n3 c3) := HSq.out 3 _ rfl
     have t4 : wq.cell? ⟨w.heap.size, 4, none⟩ = some (.slice a4 Ln.length c4) := HSq.out 4 _ rfl
     have t5 : wq.cell? ⟨w.heap.size, 5, none⟩ = some (.slice a5 A.length c5) := HSq.out 5 _ rfl
     have t6 : wq.cell? ⟨w.heap.size, 6, none⟩ = some (.slice a6 E.length c6) := HSq.out 6 _ rfl
     have t7 : wq.cell? ⟨w.heap.size, 7, none⟩ = some (.slice a7 n7 c7) := HSq.out 7 _ rfl
     have t8 : wq.cell? ⟨w.heap.size, 8, none⟩ = some (.slice a8 n8 c8) := HSq.out 8 _ rfl
     have l0 : w.heap.size < wq.heap.size := lt_of_cell t0
     have j0 : wq.cell? ⟨BJ, 0, none⟩ = some (.int .i64 d.id) := HXq.out 0 _ rfl
     have j1 : wq.cell? ⟨BJ, 1, none⟩ = some (.int .i64 d.ty) := HXq.out 1 _ rfl
     have j2 : wq.cell? ⟨BJ, 2, none⟩ = some (.int .i64 d.pr) := HXq.out 2 _ rfl
     have j3 : wq.cell? ⟨BJ, 3, none⟩ = some (.int .i64 d.pa) := HXq.out 3 _ rfl
     have j4 : wq.cell? ⟨BJ, 4, none⟩ = some (.slice ga d.gs.length gc) := HXq.out 4 _ rfl
     have j5 : wq.cell? ⟨BJ, 5, none⟩ = some (.int .i64 d.ve) := HXq.out 5 _ rfl
     have j6 : wq.cell? ⟨BJ, 6, none⟩ = some (.bool d.sd) := HXq.out 6 _ rfl
     have lj : BJ < wq.heap.size := lt_of_cell j0
     have y0 : wq.cell? ⟨BS, 0, none⟩ = some (.int .i64 (gi : Int)) := HYQ.out 0 _ rfl
     have y1 : wq.cell? ⟨BS, 1, none⟩ = some (.int .i64 yx) := HYQ.out 1 _ rfl
     have ly : BS < wq.heap.size := lt_of_cell y0
     have p4 : wq.cell? ⟨w.heap.size + 1, 4, none⟩ = some (.slice pa M.length pc) := rowc HPq.out 4 _ rfl
     have lp : w.heap.size + 1 < wq.heap.size := lt_of_cell p4
     cases hn : nfV d Ln A M ((gi : Int), yx) with
     | none =>
      have HNV := hidOf hn
      rw [hn] at HNF
      clear hn
      go_upto_region 16 with (go_at_call 18; refine HNF.out.mono ?_; rintro e w7 ⟨he, hb7⟩; have he2 : e = .returned (.tuple #[.agg #[.int .i64 0, .int .i64 0, .int .i64 0, .bool false, .bool false, .int .i64 0, .int .i64 0, .int .i64 0], .bool false]) := he; subst he2; have HB7 := hidOf hb7; clear hb7 he)
      clear t0 t1 t2 t3 t4 t5 t6 t7 t8 j0 j1 j2 j3 j4 j5 j6 y0 y1 p4 lp ly lj l0
      have hb8 := below1 w7 (.cells #[.int .i64 0, .int .i64 0, .int .i64 0, .bool false, .bool false, .int .i64 0, .int .i64 0, .int .i64 0] 46)
      obtain ⟨w8, hw8⟩ : ∃ w8, w7.alloc (.cells #[.int .i64 0, .int .i64 0, .int .i64 0, .bool false, .bool false, .int .i64 0, .int .i64 0, .int .i64 0] 46) = w8 := ⟨_, rfl⟩
      rw [hw8] at hb8
      try rw [hw8]
      clear hw8
      have HB8 := hidOf (HB7.out.trans (hb8.mono HB7.out.size))
      have HP8 : Hid (w8.heap[w.heap.size + 1]? = some (.cells #[.int .i64 d.id, .int .i64 d.ve, .int .i64 ev, .slice sa Sx.length sc, .slice pa M.length pc, .bool bl] 35 (0, 0))) := hidOf ((HB8.out.block _ (by omega)).trans HPq.out)
      have p0 : w8.cell? ⟨w.heap.size + 1, 0, none⟩ = some (.int .i64 d.id) := rowc HP8.out 0 _ rfl
      have p1 : w8.cell? ⟨w.heap.size + 1, 1, none⟩ = some (.int .i64 d.ve) := rowc HP8.out 1 _ rfl
      have p2 : w8.cell? ⟨w.heap.size + 1, 2, none⟩ = some (.int .i64 ev) := rowc HP8.out 2 _ rfl
      have p3 : w8.cell? ⟨w.heap.size + 1, 3, none⟩ = some (.slice sa Sx.length sc) := rowc HP8.out 3 _ rfl
      have p4 : w8.cell? ⟨w.heap.size + 1, 4, none⟩ = some (.slice pa M.length pc) := rowc HP8.out 4 _ rfl
      have p5 : w8.cell? ⟨w.heap.size + 1, 5, none⟩ = some (.bool bl) := rowc HP8.out 5 _ rfl
      have f0 : w8.frozen? ⟨w.heap.size + 1, 0, none⟩ = false := row_fz HP8.out 0
      have f1 : w8.frozen? ⟨w.heap.size + 1, 1, none⟩ = false := row_fz HP8.out 1
      have f2 : w8.frozen? ⟨w.heap.size + 1, 2, none⟩ = false := row_fz HP8.out 2
      have f3 : w8.frozen? ⟨w.heap.size + 1, 3, none⟩ = false := row_fz HP8.out 3
      have f4 : w8.frozen? ⟨w.heap.size + 1, 4, none⟩ = false := row_fz HP8.out 4
      have f5 : w8.frozen? ⟨w.heap.size + 1, 5, none⟩ = false := row_fz HP8.out 5
      have lp : w.heap.size + 1 < w8.heap.size := lt_of_cell p0
      have HQ8 : Hid (SetB w8 (w8.setCell ⟨w.heap.size + 1, 5, none⟩ (.bool true)) (w.heap.size + 1) [.int .i64 d.id, .int .i64 d.ve, .int .i64 ev, .slice sa Sx.length sc, .slice pa M.length pc, .bool true] 35) := hidOf (by
       have := (SetB.refl (cs := [.int .i64 d.id, .int .i64 d.ve, .int .i64 ev, .slice sa Sx.length sc, .slice pa M.length pc, .bool bl]) HP8.out).step 5 (.bool true)
       simpa only [List.set_cons_zero, List.set_cons_succ] using this)
      clear hb8
      go_wp2
      go_roundw
      case rel => exact ⟨k + 1, M, true, pa, pc, by omega, by simp, by omega, hidOf (by rw [HTK.out, plV_snoc, ← HPL.out]; unfold plS; simp only [HNV.out]), hidOf HQ8.out.h, hidOf (own_kept HMq.out (fun q h1 hq => (HQ8.out.o q (by omega)).trans (HB8.out.block q hq))), hidOf ((HQq.out.trans (Bq.of HB8.out)).trans (Bq.set HQ8.out))⟩
      case measure => simp [intOf]; omega
     | some n =>
      have HNV := hidOf hn
      rw [hn] at HNF
      clear hn
      go_upto_region 17 with (go_at_call 18; refine HNF.out.mono ?_; rintro e w7 ⟨he, hb7⟩; have he2 : e = .returned (.tuple #[.agg #[.int .i64 n.id, .int .i64 n.c, .int .i64 n.m, .bool n.up, .bool n.dr, .int .i64 n.bo, .int .i64 n.ep, .int .i64 n.se], .bool true]) := he; subst he2; have HB7 := hidOf hb7; clear hb7 he)
      clear t0 t1 t2 t3 t4 t5 t6 t7 t8 j0 j1 j2 j3 j4 j5 j6 y0 y1 p4 lp ly lj l0
      have hz7 := HB7.out.size
      have hb8 := below1 w7 (.cells #[.int .i64 n.id, .int .i64 n.c, .int .i64 n.m, .bool n.up, .bool n.dr, .int .i64 n.bo, .int .i64 n.ep, .int .i64 n.se] 46)
      have hnr : (w7.alloc (.cells #[.int .i64 n.id, .int .i64 n.c, .int .i64 n.m, .bool n.up, .bool n.dr, .int .i64 n.bo, .int .i64 n.ep, .int .i64 n.se] 46)).heap[w7.heap.size]? = some (.cells #[.int .i64 n.id, .int .i64 n.c, .int .i64 n.m, .bool n.up, .bool n.dr, .int .i64 n.bo, .int .i64 n.ep, .int .i64 n.se] 46 (0, 0)) := heap_alloc_new _ _
      have hx8 : (w7.alloc (.cells #[.int .i64 n.id, .int .i64 n.c, .int .i64 n.m, .bool n.up, .bool n.dr, .int .i64 n.bo, .int .i64 n.ep, .int .i64 n.se] 46)).rangeAt w7.heap.size 0 [.int .i64 n.id, .int .i64 n.c, .int .i64 n.m, .bool n.up, .bool n.dr, .int .i64 n.bo, .int .i64 n.ep, .int .i64 n.se] := box_new (Below.refl _ _)
      have hz8 : (w7.alloc (.cells #[.int .i64 n.id, .int .i64 n.c, .int .i64 n.m, .bool n.up, .bool n.dr, .int .i64 n.bo, .int .i64 n.ep, .int .i64 n.se] 46)).heap.size = w7.heap.size + 1 := by simp
      obtain ⟨w8, hw8⟩ : ∃ w8, w7.alloc (.cells #[.int .i64 n.id, .int .i64 n.c, .int .i64 n.m, .bool n.up, .bool n.dr, .int .i64 n.bo, .int .i64 n.ep, .int .i64 n.se] 46) = w8 := ⟨_, rfl⟩
      obtain ⟨BN, hBN⟩ : ∃ BN, w7.heap.size = BN := ⟨_, rfl⟩
      rw [hw8] at hb8 hx8 hz8 hnr
      try rw [hw8]
      try rw [hBN]
      rw [hBN] at hx8 hz8 hnr
      have HNR8 := hidOf hnr
      clear hw8
      have HB8 := hidOf (HB7.out.trans (hb8.mono HB7.out.size))
      have HQ8 := hidOf ((HQq.out.trans (Bq.of HB8.out)).trans (Bq.of (bdrew w8)))
      have HP8 : Hid (w8.drew.heap[w.heap.size + 1]? = some (.cells #[.int .i64 d.id, .int .i64 d.ve, .int .i64 ev, .slice sa Sx.length sc, .slice pa M.length pc, .bool bl] 35 (0, 0))) := hidOf ((HB8.out.block _ (by omega)).trans HPq.out)
      have HX8 := hidOf (range_of HXq.out (HB8.out.block BJ (by omega)))
      have HY8 := hidOf (range_of HYQ.out (HB8.out.block BS hbs1))
      have HMO := HMq
      have h6q := HQq.out.size
      have hq8 := HB8.out.size
      have hdz : w8.drew.heap.size = w8.heap.size := rfl
      have hbn : BN < w8.heap.size := by omega
      have hbj : BJ < w8.heap.size := by omega
      have hbs : BS < w8.heap.size := by omega
      have hbp : w.heap.size + 1 < w8.heap.size := by omega
      have HH : Hid ((fun (wz : World) => wz.cell? ⟨w.heap.size + 1, 4, none⟩ = some (.slice pa M.length pc) ∧ wz.cell? ⟨BJ, 0, none⟩ = some (.int .i64 d.id) ∧ wz.cell? ⟨BJ, 1, none⟩ = some (.int .i64 d.ty) ∧ wz.cell? ⟨BJ, 2, none⟩ = some (.int .i64 d.pr) ∧ wz.cell? ⟨BJ, 3, none⟩ = some (.int .i64 d.pa) ∧ wz.cell? ⟨BJ, 4, none⟩ = some (.slice ga d.gs.length gc) ∧ wz.cell? ⟨BJ, 5, none⟩ = some (.int .i64 d.ve) ∧ wz.cell? ⟨BJ, 6, none⟩ = some (.bool d.sd) ∧ wz.cell? ⟨BS, 0, none⟩ = some (.int .i64 (gi : Int)) ∧ wz.cell? ⟨BS, 1, none⟩ = some (.int .i64 yx) ∧ wz.cell? ⟨BN, 0, none⟩ = some (.int .i64 n.id) ∧ wz.cell? ⟨BN, 1, none⟩ = some (.int .i64 n.c) ∧ wz.cell? ⟨BN, 2, none⟩ = some (.int .i64 n.m) ∧ wz.cell? ⟨BN, 3, none⟩ = some (.bool n.up) ∧ wz.cell? ⟨BN, 4, none⟩ = some (.bool n.dr) ∧ wz.cell? ⟨BN, 5, none⟩ = some (.int .i64 n.bo) ∧ wz.cell? ⟨BN, 6, none⟩ = some (.int .i64 n.ep) ∧ wz.cell? ⟨BN, 7, none⟩ = some (.int .i64 n.se)) w8.drew) := hidOf ⟨rowc HP8.out 4 _ rfl, HX8.out 0 _ rfl, HX8.out 1 _ rfl, HX8.out 2 _ rfl, HX8.out 3 _ rfl, HX8.out 4 _ rfl, HX8.out 5 _ rfl, HX8.out 6 _ rfl, HY8.out 0 _ rfl, HY8.out 1 _ rfl, hx8 0 _ rfl, hx8 1 _ rfl, hx8 2 _ rfl, hx8 3 _ rfl, hx8 4 _ rfl, hx8 5 _ rfl, hx8 6 _ rfl, hx8 7 _ rfl⟩
      have KB := hidOf (fun (W : World) (hp : W.heap[w.heap.size + 1]? = w8.heap[w.heap.size + 1]?) (hj : W.heap[BJ]? = w8.heap[BJ]?) (hs : W.heap[BS]? = w8.heap[BS]?) (hn : W.heap[BN]? = w8.heap[BN]?) => (show (fun (wz : World) => wz.cell? ⟨w.heap.size + 1, 4, none⟩ = some (.slice pa M.length pc) ∧ wz.cell? ⟨BJ, 0, none⟩ = some (.int .i64 d.id) ∧ wz.cell? ⟨BJ, 1, none⟩ = some (.int .i64 d.ty) ∧ wz.cell? ⟨BJ, 2, none⟩ = some (.int .i64 d.pr) ∧ wz.cell? ⟨BJ, 3, none⟩ = some (.int .i64 d.pa) ∧ wz.cell? ⟨BJ, 4, none⟩ = some (.slice ga d.gs.length gc) ∧ wz.cell? ⟨BJ, 5, none⟩ = some (.int .i64 d.ve) ∧ wz.cell? ⟨BJ, 6, none⟩ = some (.bool d.sd) ∧ wz.cell? ⟨BS, 0, none⟩ = some (.int .i64 (gi : Int)) ∧ wz.cell? ⟨BS, 1, none⟩ = some (.int .i64 yx) ∧ wz.cell? ⟨BN, 0, none⟩ = some (.int .i64 n.id) ∧ wz.cell? ⟨BN, 1, none⟩ = some (.int .i64 n.c) ∧ wz.cell? ⟨BN, 2, none⟩ = some (.int .i64 n.m) ∧ wz.cell? ⟨BN, 3, none⟩ = some (.bool n.up) ∧ wz.cell? ⟨BN, 4, none⟩ = some (.bool n.dr) ∧ wz.cell? ⟨BN, 5, none⟩ = some (.int .i64 n.bo) ∧ wz.cell? ⟨BN, 6, none⟩ = some (.int .i64 n.ep) ∧ wz.cell? ⟨BN, 7, none⟩ = some (.int .i64 n.se)) W from by
       obtain ⟨h0, h1, h2, h3, h4, h5, h6, h7, h8, h9, h10, h11, h12, h13, h14, h15, h16, h17⟩ := HH.out
       exact ⟨(World.cell?_of_block hp).trans h0, (World.cell?_of_block hj).trans h1, (World.cell?_of_block hj).trans h2, (World.cell?_of_block hj).trans h3, (World.cell?_of_block hj).trans h4, (World.cell?_of_block hj).trans h5, (World.cell?_of_block hj).trans h6, (World.cell?_of_block hj).trans h7, (World.cell?_of_block hs).trans h8, (World.cell?_of_block hs).trans h9, (World.cell?_of_block hn).trans h10, (World.cell?_of_block hn).trans h11, (World.cell?_of_block hn).trans h12, (World.cell?_of_block hn).trans h13, (World.cell?_of_block hn).trans h14, (World.cell?_of_block hn).trans h15, (World.cell?_of_block hn).trans h16, (World.cell?_of_block hn).trans h17⟩))
      have HYR8 : Hid (w8.heap[BS]? = some (.cells #[.int .i64 (gi : Int), .int .i64 yx] 60 (0, 0))) := hidOf ((HB8.out.block BS hbs1).trans HYR.out)
      have HPLC := hidOf (place_any d ga gc gi yx n g w8.drew (HG.out.kept (fun b hb => (HB8.out.block b (by have := HWq.out.size; have hb2 : b < w.heap.size := hb; omega)).trans (HWq.out.block b hb)) (fun b hb => by have := HWq.out.size; have hb2 : b < w.heap.size := hb; show b < w8.heap.size; omega)) hgi hg)
      have HML : Hid (M.length + 1 ≤ maxLen) := hidOf (by unfold maxLen; omega)
      have HBY : Hid ((M.length + 1) * 88 ≤ 140737488355328) := hidOf (by omega)
      clear hb8 hx8 hnr
      refine wp_region_M (fun (wz : World) => wz.cell? ⟨w.heap.size + 1, 4, none⟩ = some (.slice pa M.length pc) ∧ wz.cell? ⟨BJ, 0, none⟩ = some (.int .i64 d.id) ∧ wz.cell? ⟨BJ, 1, none⟩ = some (.int .i64 d.ty) ∧ wz.cell? ⟨BJ, 2, none⟩ = some (.int .i64 d.pr) ∧ wz.cell? ⟨BJ, 3, none⟩ = some (.int .i64 d.pa) ∧ wz.cell? ⟨BJ, 4, none⟩ = some (.slice ga d.gs.length gc) ∧ wz.cell? ⟨BJ, 5, none⟩ = some (.int .i64 d.ve) ∧ wz.cell? ⟨BJ, 6, none⟩ = some (.bool d.sd) ∧ wz.cell? ⟨BS, 0, none⟩ = some (.int .i64 (gi : Int)) ∧ wz.cell? ⟨BS, 1, none⟩ = some (.int .i64 yx) ∧ wz.cell? ⟨BN, 0, none⟩ = some (.int .i64 n.id) ∧ wz.cell? ⟨BN, 1, none⟩ = some (.int .i64 n.c) ∧ wz.cell? ⟨BN, 2, none⟩ = some (.int .i64 n.m) ∧ wz.cell? ⟨BN, 3, none⟩ = some (.bool n.up) ∧ wz.cell? ⟨BN, 4, none⟩ = some (.bool n.dr) ∧ wz.cell? ⟨BN, 5, none⟩ = some (.int .i64 n.bo) ∧ wz.cell? ⟨BN, 6, none⟩ = some (.int .i64 n.ep) ∧ wz.cell? ⟨BN, 7, none⟩ = some (.int .i64 n.se)) 9 (by kernel_rfl) ?_
      have hHeld : (fun (wz : World) => wz.cell? ⟨w.heap.size + 1, 4, none⟩ = some (.slice pa M.length pc) ∧ wz.cell? ⟨BJ, 0, none⟩ = some (.int .i64 d.id) ∧ wz.cell? ⟨BJ, 1, none⟩ = some (.int .i64 d.ty) ∧ wz.cell? ⟨BJ, 2, none⟩ = some (.int .i64 d.pr) ∧ wz.cell? ⟨BJ, 3, none⟩ = some (.int .i64 d.pa) ∧ wz.cell? ⟨BJ, 4, none⟩ = some (.slice ga d.gs.length gc) ∧ wz.cell? ⟨BJ, 5, none⟩ = some (.int .i64 d.ve) ∧ wz.cell? ⟨BJ, 6, none⟩ = some (.bool d.sd) ∧ wz.cell? ⟨BS, 0, none⟩ = some (.int .i64 (gi : Int)) ∧ wz.cell? ⟨BS, 1, none⟩ = some (.int .i64 yx) ∧ wz.cell? ⟨BN, 0, none⟩ = some (.int .i64 n.id) ∧ wz.cell? ⟨BN, 1, none⟩ = some (.int .i64 n.c) ∧ wz.cell? ⟨BN, 2, none⟩ = some (.int .i64 n.m) ∧ wz.cell? ⟨BN, 3, none⟩ = some (.bool n.up) ∧ wz.cell? ⟨BN, 4, none⟩ = some (.bool n.dr) ∧ wz.cell? ⟨BN, 5, none⟩ = some (.int .i64 n.bo) ∧ wz.cell? ⟨BN, 6, none⟩ = some (.int .i64 n.ep) ∧ wz.cell? ⟨BN, 7, none⟩ = some (.int .i64 n.se)) _ := HH.out
      refine wpAnyM_takeP (i := 0) (oi := { dst := some 67, op := Op.fieldAddr 35 (Operand.tmp 4) 4, type := 0, pos := "sched.go:30", after := #[], guard := none }) (v := .pointer (some ⟨w.heap.size + 1, 4, none⟩)) rfl (by kernel_rfl) (by decide) (by kernel_rfl) (by kernel_rfl) (fun _ _ _ h => h) (Or.inl ⟨by rfl, ?_⟩) (fun _ => hHeld) ?_
      ·(intro wz hSw; clear hSw; go_simp)
      try simp only [Act.put, List.setIfInBounds_toArray, List.set_cons_zero, List.set_cons_succ]
      refine wpAnyM_take (i := 1) (oi := { dst := some 68, op := Op.load 24 (Operand.tmp 67), type := 24, pos := "sched.go:30", after := #[{ on := 0, ground := Ground.data }], guard := none }) (v := .slice pa M.length pc) rfl (by kernel_rfl) (by kernel_rfl) (by kernel_rfl) (by kernel_rfl) (by kernel_rfl) (fun _ _ _ h => h) (Or.inl ⟨by rfl, ?_⟩) hHeld ?_
      ·(intro w hSw; (try dsimp only at hSw); go_simp)
      try simp only [Act.put, List.setIfInBounds_toArray, List.set_cons_zero, List.set_cons_succ]
      refine wpAnyM_take (i := 2) (oi := { dst := some 69, op := Op.load 51 (Operand.tmp 6), type := 51, pos := "sched.go:30", after := #[], guard := none }) (v := .agg #[.int .i64 d.id, .int .i64 d.ty, .int .i64 d.pr, .int .i64 d.pa, .slice ga d.gs.length gc, .int .i64 d.ve, .bool d.sd]) rfl (by kernel_rfl) (by kernel_rfl) (by kernel_rfl) (by kernel_rfl) (by kernel_rfl) (fun _ _ _ h => h) (Or.inl ⟨by rfl, ?_⟩) hHeld ?_
      ·(intro w hSw; (try dsimp only at hSw); go_simp)
      try simp only [Act.put, List.setIfInBounds_toArray, List.set_cons_zero, List.set_cons_succ]
      refine wpAnyM_take (i := 3) (oi := { dst := some 70, op := Op.load 60 (Operand.tmp 10), type := 60, pos := "sched.go:30", after := #[], guard := none }) (v := .agg #[.int .i64 (gi : Int), .int .i64 yx]) rfl (by kernel_rfl) (by kernel_rfl) (by kernel_rfl) (by kernel_rfl) (by kernel_rfl) (fun _ _ _ h => h) (Or.inl ⟨by rfl, ?_⟩) hHeld ?_
      ·(intro w hSw; (try dsimp only at hSw); go_simp)
      try simp only [Act.put, List.setIfInBounds_toArray, List.set_cons_zero, List.set_cons_succ]
      refine wpAnyM_take (i := 4) (oi := { dst := some 71, op := Op.load 46 (Operand.tmp 11), type := 46, pos := "sched.go:30", after := #[], guard := none }) (v := .agg #[.int .i64 n.id, .int .i64 n.c, .int .i64 n.m, .bool n.up, .bool n.dr, .int .i64 n.bo, .int .i64 n.ep, .int .i64 n.se]) rfl (by kernel_rfl) (by kernel_rfl) (by kernel_rfl) (by kernel_rfl) (by kernel_rfl) (fun _ _ _ h => h) (Or.inl ⟨by rfl, ?_⟩) hHeld ?_
      ·(intro w hSw; (try dsimp only at hSw); go_simp)
      try simp only [Act.put, List.setIfInBounds_toArray, List.set_cons_zero, List.set_cons_succ]
      refine wpAnyM_one (i := 5) (o := { dst := some 72, op := Op.call { callee := Callee.value (Operand.func 19), args := #[Operand.tmp 69, Operand.tmp 70, Operand.tmp 71], argTypes := #[51, 60, 46] }, type := 42, pos := "sched.go:30", after := #[{ on := 2, ground := Ground.data }, { on := 3, ground := Ground.data }, { on := 4, ground := Ground.data }], guard := none }) (by kernel_rfl) rfl (fun K hK => ?_)
      rw [if_pos (by rfl)]
      go_simp
      refine HPLC.out.mono ?_
      rintro e w9 ⟨rfl, hb9⟩
      have HB9 := hidOf hb9
      have hz9 := HB9.out.size
      have H9 := hidOf (KB.out w9 (hb9.block _ hbp) (hb9.block _ hbj) (hb9.block _ hbs) (hb9.block _ hbn))
      clear hb9
      refine hK.out _ _ (fun _ => H9.out) ?_
      clear hK K
      try simp only [Act.put, List.setIfInBounds_toArray, List.set_cons_zero, List.set_cons_succ]
      refine wpAnyM_one (i := 6) (o := { dst := some 73, op := Op.buildSlice 24 1 #[(0, Operand.tmp 72)], type := 24, pos := "sched.go:30", after := #[{ on := 5, ground := Ground.data }], guard := none }) (by kernel_rfl) rfl (fun K hK => ?_)
      rw [if_pos (by rfl)]
      go_simp
      have H10 := hidOf (KB.out (w9.alloc (.cells #[.int .i64 0, .int .i64 d.id, .int .i64 d.ve, .int .i64 (gi : Int), .int .i64 yx, .int .i64 n.id, .int .i64 n.ep, .int .i64 g.c, .int .i64 g.m, .bool false, .int .i64 0] 42)) (((below1 w9 _).block _ (by omega)).trans (HB9.out.block _ hbp)) (((below1 w9 _).block _ (by omega)).trans (HB9.out.block _ hbj)) (((below1 w9 _).block _ (by omega)).trans (HB9.out.block _ hbs)) (((below1 w9 _).block _ (by omega)).trans (HB9.out.block _ hbn)))
      refine hK.out _ _ (fun _ => H10.out) ?_
      clear hK K
      try simp only [Act.put, List.setIfInBounds_toArray, List.set_cons_zero, List.set_cons_succ]
      refine wpAnyM_one (i := 7) (o := { dst := some 74, op := Op.call { callee := Callee.builtin Builtin.append, args := #[Operand.tmp 68, Operand.tmp 73], argTypes := #[24, 24] }, type := 24, pos := "sched.go:30", after := #[{ on := 1, ground := Ground.data }, { on := 6, ground := Ground.data }, { on := 5, ground := Ground.chain }], guard := none }) (by kernel_rfl) rfl (fun K hK => ?_)
      rw [if_pos (by rfl)]
      have hb10 := below1 w9 (.cells #[.int .i64 0, .int .i64 d.id, .int .i64 d.ve, .int .i64 (gi : Int), .int .i64 yx, .int .i64 n.id, .int .i64 n.ep, .int .i64 g.c, .int .i64 g.m, .bool false, .int .i64 0] 42)
      have HOW := hidOf (own_kept HMO.out (fun q _ hq => (hb10.block q (by have := HB9.out.size; omega)).trans ((HB9.out.block q (by omega)).trans (HB8.out.block q (by omega)))))
      have HNEW : Hid (∀ j u, (Al.cs (plA d n ((gi : Int), yx)))[j]? = some u → (w9.alloc (.cells #[.int .i64 0, .int .i64 d.id, .int .i64 d.ve, .int .i64 (gi : Int), .int .i64 yx, .int .i64 n.id, .int .i64 n.ep, .int .i64 g.c, .int .i64 g.m, .bool false, .int .i64 0] 42)).cell? ((⟨w9.heap.size, 0, none⟩ : Addr).add j) = some u) := hidOf (fun j u hj => by have hj2 := hj; unfold plA at hj2; rw [HASK.out] at hj2; exact newN w9 [.int .i64 0, .int .i64 d.id, .int .i64 d.ve, .int .i64 (gi : Int), .int .i64 yx, .int .i64 n.id, .int .i64 n.ep, .int .i64 g.c, .int .i64 g.m, .bool false, .int .i64 0] 42 j u hj2)
      refine oper_app1p _ _ _ 24 rfl w6.heap.size 42 _ 11 88 Try.underlying24 info33 rfl (by decide) pa pc M.length (fl Al.cs M) rfl HOW.out ⟨w9.heap.size, 0, none⟩ 1 (Al.cs (plA d n ((gi : Int), yx))) rfl rfl HNEW.out (Al.one _) HML.out HBY.out (by have := HB8.out.size; have := HB9.out.size; simp only [World.size_alloc]; omega) ?_
      intro pa2 pc2 w11 ho hg _
      have HO11 := hidOf ho
      have HG11 := hidOf hg
      clear ho hg
      have HQ10 : Hid (Bq (w.heap.size + 1) w6 w11) := hidOf (((HQ8.out.trans (Bq.of HB9.out)).trans (Bq.of hb10)).grown HG11.out (fun x hx => (own_blk2 HMO.out x hx.symm).1))
      have HP11 : Hid (w11.heap[w.heap.size + 1]? = some (.cells #[.int .i64 d.id, .int .i64 d.ve, .int .i64 ev, .slice sa Sx.length sc, .slice pa M.length pc, .bool bl] 35 (0, 0))) := hidOf ((HG11.out.block _ (by have := HB9.out.size; have := hb10.size; omega) (fun e => absurd (own_blk2 HMO.out _ e.symm).1 (by omega))).trans ((hb10.block _ (by have := HB9.out.size; omega)).trans ((HB9.out.block _ (by omega)).trans HP8.out)))
      have hgS : ∀ (q t : Nat) (cs : Array Value), t ≠ 42 → w8.heap[q]? = some (.cells cs t (0, 0)) → q < w8.heap.size → w11.heap[q]? = w8.heap[q]? := fun q t cs ht hq hl => (HG11.out.block q (by have := hb10.size; omega) (fun e => by obtain ⟨cur, hc⟩ := own_ty HOW.out q e.symm; rw [(hb10.block q (by omega)).trans ((HB9.out.block q hl).trans hq)] at hc; simp at hc; exact ht hc.2)).trans ((hb10.block q (by omega)).trans (HB9.out.block q hl))
      have H11 := hidOf (KB.out w11 (hgS _ 35 _ (by decide) HP8.out hbp) ((HG11.out.block _ (by have := hb10.size; omega) (fun e => absurd (own_blk2 HMO.out _ e.symm).1 (by omega))).trans ((hb10.block _ (by omega)).trans (HB9.out.block _ hbj))) (hgS _ 60 _ (by decide) HYR8.out hbs) (hgS _ 46 _ (by decide) HNR8.out hbn))
      clear hgS hb10 HOW HNEW
      try simp only [Act.put, List.setIfInBounds_toArray, List.set_cons_zero, List.set_cons_succ]
      refine hK.out _ _ (fun _ => H11.out) ?_
      clear hK K
      try simp only [Act.put, List.setIfInBounds_toArray, List.set_cons_zero, List.set_cons_succ]
      refine wpAnyM_one (i := 8) (o := { dst := some 75, op := Op.fieldAddr 35 (Operand.tmp 4) 4, type := 0, pos := "sched.go:30", after := #[{ on := 0, ground := Ground.phase }, { on := 1, ground := Ground.phase }, { on := 2, ground := Ground.phase }, { on := 3, ground := Ground.phase }, { on := 4, ground := Ground.phase }, { on := 5, ground := Ground.phase }, { on := 6, ground := Ground.phase }, { on := 7, ground := Ground.phase }], guard := none }) (by kernel_rfl) rfl (fun K hK => ?_)
      rw [if_pos (by rfl)]
      go_simp
      refine hK.out _ _ (fun _ => H11.out) ?_
      clear hK K
      try simp only [Act.put, List.setIfInBounds_toArray, List.set_cons_zero, List.set_cons_succ]
      refine wpAnyM_one (i := 9) (o := { dst := none, op := Op.store 24 (Operand.tmp 75) (Operand.tmp 74), type := 0, pos := "sched.go:30", after := #[{ on := 8, ground := Ground.data }, { on := 7, ground := Ground.data }, { on := 7, ground := Ground.chain }, { on := 0, ground := Ground.phase }, { on := 1, ground := Ground.phase }, { on := 2, ground := Ground.phase }, { on := 3, ground := Ground.phase }, { on := 4, ground := Ground.phase }, { on := 5, ground := Ground.phase }, { on := 6, ground := Ground.phase }, { on := 7, ground := Ground.phase }], guard := none }) (by kernel_rfl) rfl (fun K hK => ?_)
      rw [if_pos (by rfl)]
      have p0 : w11.cell? ⟨w.heap.size + 1, 0, none⟩ = some (.int .i64 d.id) := rowc HP11.out 0 _ rfl
      have p1 : w11.cell? ⟨w.heap.size + 1, 1, none⟩ = some (.int .i64 d.ve) := rowc HP11.out 1 _ rfl
      have p2 : w11.cell? ⟨w.heap.size + 1, 2, none⟩ = some (.int .i64 ev) := rowc HP11.out 2 _ rfl
      have p3 : w11.cell? ⟨w.heap.size + 1, 3, none⟩ = some (.slice sa Sx.length sc) := rowc HP11.out 3 _ rfl
      have p4 : w11.cell? ⟨w.heap.size + 1, 4, none⟩ = some (.slice pa M.length pc) := rowc HP11.out 4 _ rfl
      have p5 : w11.cell? ⟨w.heap.size + 1, 5, none⟩ = some (.bool bl) := rowc HP11.out 5 _ rfl
      have f0 : w11.frozen? ⟨w.heap.size + 1, 0, none⟩ = false := row_fz HP11.out 0
      have f1 : w11.frozen? ⟨w.heap.size + 1, 1, none⟩ = false := row_fz HP11.out 1
      have f2 : w11.frozen? ⟨w.heap.size + 1, 2, none⟩ = false := row_fz HP11.out 2
      have f3 : w11.frozen? ⟨w.heap.size + 1, 3, none⟩ = false := row_fz HP11.out 3
      have f4 : w11.frozen? ⟨w.heap.size + 1, 4, none⟩ = false := row_fz HP11.out 4
      have f5 : w11.frozen? ⟨w.heap.size + 1, 5, none⟩ = false := row_fz HP11.out 5
      have lp : w.heap.size + 1 < w11.heap.size := lt_of_cell p0
      go_simp
      refine hK.out _ _ (fun h => absurd h (of_decide_eq_false (by kernel_rfl))) ?_
      clear hK K
      try simp only [Act.put, List.setIfInBounds_toArray, List.set_cons_zero, List.set_cons_succ]
      refine wpAnyM_done (by kernel_rfl) ?_ _
      have HQ12 : Hid (SetB w11 (w11.setCell ⟨w.heap.size + 1, 4, none⟩ (.slice pa2 (M.length + 1) pc2)) (w.heap.size + 1) [.int .i64 d.id, .int .i64 d.ve, .int .i64 ev, .slice sa Sx.length sc, .slice pa2 (M.length + 1) pc2, .bool bl] 35) := hidOf (by
       have := (SetB.refl (cs := [.int .i64 d.id, .int .i64 d.ve, .int .i64 ev, .slice sa Sx.length sc, .slice pa M.length pc, .bool bl]) HP11.out).step 4 (.slice pa2 (M.length + 1) pc2)
       simpa only [List.set_cons_zero, List.set_cons_succ] using this)
      clear p0 f0 p1 f1 p2 f2 p3 f3 p4 f4 p5 f5 lp
      clear H9 H10 H11 HH KB HPLC
      go_wp2
      go_roundw
      case rel => exact ⟨k + 1, M ++ [plA d n ((gi : Int), yx)], bl, pa2, pc2, by omega, by simp, by rw [List.length_append]; simp; omega, hidOf (by rw [HTK.out, plV_snoc, ← HPL.out]; unfold plS; simp only [HNV.out]), hidOf (by rw [List.length_append]; exact HQ12.out.h), hidOf (by rw [List.length_append, fl_snoc]; exact own_kept HO11.out (fun q h1 hq => HQ12.out.o q (by omega))), hidOf (HQ10.out.trans (Bq.set HQ12.out))⟩
      case measure => simp [intOf]; omega
    ·have hkl : k = Fx.length := by omega
     subst hkl
     have hpl := HPL.out
     rw [List.take_length] at hpl
     have HPL2 := hidOf hpl
     have hzr := HQr.out.size
     have hlc2 := HLC.out
     clear hpl HPL
     have p0 : wr.cell? ⟨w.heap.size + 1, 0, none⟩ = some (.int .i64 d.id) := rowc HPr.out 0 _ rfl
     have p1 : wr.cell? ⟨w.heap.size + 1, 1, none⟩ = some (.int .i64 d.ve) := rowc HPr.out 1 _ rfl
     have p2 : wr.cell? ⟨w.heap.size + 1, 2, none⟩ = some (.int .i64 ev) := rowc HPr.out 2 _ rfl
     have p3 : wr.cell? ⟨w.heap.size + 1, 3, none⟩ = some (.slice sa Sx.length sc) := rowc HPr.out 3 _ rfl
     have p4 : wr.cell? ⟨w.heap.size + 1, 4, none⟩ = some (.slice pa M.length pc) := rowc HPr.out 4 _ rfl
     have p5 : wr.cell? ⟨w.heap.size + 1, 5, none⟩ = some (.bool bl) := rowc HPr.out 5 _ rfl
     have f0 : wr.frozen? ⟨w.heap.size + 1, 0, none⟩ = false := row_fz HPr.out 0
     have f1 : wr.frozen? ⟨w.heap.size + 1, 1, none⟩ = false := row_fz HPr.out 1
     have f2 : wr.frozen? ⟨w.heap.size + 1, 2, none⟩ = false := row_fz HPr.out 2
     have f3 : wr.frozen? ⟨w.heap.size + 1, 3, none⟩ = false := row_fz HPr.out 3
     have f4 : wr.frozen? ⟨w.heap.size + 1, 4, none⟩ = false := row_fz HPr.out 4
     have f5 : wr.frozen? ⟨w.heap.size + 1, 5, none⟩ = false := row_fz HPr.out 5
     have lp : w.heap.size + 1 < wr.heap.size := lt_of_cell p0
     have HQ13 : Hid (SetB wr ((((((wr.setCell ⟨w.heap.size + 1, 0, none⟩ (.int .i64 d.id)).setCell ⟨w.heap.size + 1, 1, none⟩ (.int .i64 d.ve)).setCell ⟨w.heap.size + 1, 2, none⟩ (.int .i64 ev)).setCell ⟨w.heap.size + 1, 3, none⟩ (.slice sa Sx.length sc)).setCell ⟨w.heap.size + 1, 4, none⟩ (.slice pa M.length pc)).setCell ⟨w.heap.size + 1, 5, none⟩ (.bool bl)) (w.heap.size + 1) [.int .i64 d.id, .int .i64 d.ve, .int .i64 ev, .slice sa Sx.length sc, .slice pa M.length pc, .bool bl] 35) := hidOf (by
      have := (((((((SetB.refl (cs := [.int .i64 d.id, .int .i64 d.ve, .int .i64 ev, .slice sa Sx.length sc, .slice pa M.length pc, .bool bl]) HPr.out).step 0 (.int .i64 d.id)).step 1 (.int .i64 d.ve)).step 2 (.int .i64 ev)).step 3 (.slice sa Sx.length sc)).step 4 (.slice pa M.length pc)).step 5 (.bool bl))
      simpa only [List.set_cons_zero, List.set_cons_succ] using this)
     go_wp2
     refine bodyPost_ret (results_cell_row Try.results9 _ _ (w.heap.size + 1) 35 #[.int .i64 d.id, .int .i64 d.ve, .int .i64 ev, .slice sa Sx.length sc, .slice pa M.length pc, .bool bl] (0, 0) _ rfl (by exact HQ13.out.h) Try.underlying35 rfl (by kernel_rfl)) rfl ?_
     rw [← HPL2.out]
     exact ⟨⟨sa, sc, pa, pc, rfl, own_low (own_kept (own_kept HOS6.out (fun q h1 hq => HQr.out.block q hq (by omega))) (fun q h1 hq => HQ13.out.o q (by omega))) HLO.out, own_low (own_kept HMO.out (fun q h1 hq => HQ13.out.o q (by omega))) (by have := HW6.out.size; omega)⟩, (HW6.out.trans (HQr.out.bel (n := w.heap.size) (by omega) (by omega))).trans (HQ13.out.bel (by omega))⟩
end Go.Proofs.Ytblofbdncolikaa
