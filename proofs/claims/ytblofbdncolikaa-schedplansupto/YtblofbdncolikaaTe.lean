/- Where a demand may be placed, of the document. -/
import Derived.Test.YtblofbdncolikaaTd
import Derived.Test.YtblofbdncolikaaRk
namespace Go.Proofs.Ytblofbdncolikaa
open Go.RowKit Go.Shelf
attribute [local go_sem] Oper.semAt_some
structure LfI (w W : World) (st ak : List Value) (q : Nat) (c m : Int) : Prop where
 z : FdS w W st ak
 p : Pr W q c m
 g : w.heap.size + 2 ≤ q
theorem LfI.grow {w W W' : World} {st ak : List Value} {q : Nat} {c m : Int} (h : LfI w W st ak q c m) (hb : Below W.heap.size W W') : LfI w W' st ak q c m := ⟨h.z.grow hb, h.p.grow hb, h.g⟩
theorem FdS.set {w W : World} {st ak : List Value} (h : FdS w W st ak) {q : Nat} (hq : w.heap.size + 2 ≤ q) (o : Nat) (v : Value) : FdS w (W.setCell ⟨q, o, none⟩ v) st ak := by
 refine ⟨range_of h.s (heap_setCell_other W ⟨q, o, none⟩ _ v (by show w.heap.size ≠ q; omega)), range_of h.a (heap_setCell_other W ⟨q, o, none⟩ _ v (by show w.heap.size + 1 ≠ q; omega)), h.b.setCell (p := ⟨q, o, none⟩) (by show w.heap.size ≤ q; omega) _, by simpa using h.l⟩
theorem LfI.set {w W : World} {st ak : List Value} {q : Nat} {c m : Int} (h : LfI w W st ak q c m) (c' m' : Int) : LfI w ((W.setCell ⟨q, 0, none⟩ (.int .i64 c')).setCell ⟨q, 1, none⟩ (.int .i64 m')) st ak q c' m' := ⟨(h.z.set h.g _ _).set h.g _ _, h.p.set _ _, h.g⟩
theorem LfI.other {w W : World} {st ak : List Value} {q r : Nat} {c m : Int} (h : LfI w W st ak q c m) (h1 : q ≠ r) (h2 : w.heap.size + 1 < r) (_h3 : w.heap.size ≤ r) (c' m' : Int) : LfI w ((W.setCell ⟨r, 0, none⟩ (.int .i64 c')).setCell ⟨r, 1, none⟩ (.int .i64 m')) st ak q c m := ⟨(h.z.set (by omega) _ _).set (by omega) _ _, (h.p.other h1 _).other h1 _, h.g⟩
set_option maxRecDepth 100000 in
set_option maxHeartbeats 8000000 in
theorem refLeft_any (s : Sc) (nd a b : Int) (N : List Nd) (A M : List Al) (am : Option Addr) (cm : Nat) (w : World) (hs : Sg w s N A) (hM : Mr w am M) (hcap : cpL N = true) :
  Calls Try.prog 42 #[.agg #[.int .i64 s.ix, .int .i64 s.nx, .slice s.a2 s.n2 s.c2, .slice s.a3 s.n3 s.c3, .slice s.a4 s.n4 s.c4, .slice s.a5 s.n5 s.c5, .slice s.a6 s.n6 s.c6, .slice s.a7 s.n7 s.c7, .slice s.a8 s.n8 s.c8], .slice am M.length cm, .int .i64 nd, .agg #[.int .i64 a, .int .i64 b]] w fun e w' => e = .returned (.tuple #[.int .i64 ((chV N A M nd a b).getD 0), .bool (chV N A M nd a b).isSome]) ∧ Below w.heap.size w w' := by
 have hlm : M.length * 88 ≤ 140737488355328 := hM.bd
 obtain ⟨ix, nx, a2, n2, c2, a3, n3, c3, a4, n4, c4, a5, n5, c5, a6, n6, c6, a7, n7, c7, a8, n8, c8⟩ := s
 obtain ⟨e4, e5⟩ : n4 = N.length ∧ n5 = A.length := ⟨hs.n4, hs.n5⟩
 subst e4
 subst e5
 have HN := hidOf (fun (W : World) (hW : Below w.heap.size w W) => node_ref ⟨ix, nx, a2, n2, c2, a3, n3, c3, a4, N.length, c4, a5, A.length, c5, a6, n6, c6, a7, n7, c7, a8, n8, c8⟩ nd N W rfl (hs.up hW).f4)
 have HU := hidOf (fun (W : World) (hW : Below w.heap.size w W) => refUsed_any ⟨ix, nx, a2, n2, c2, a3, n3, c3, a4, N.length, c4, a5, A.length, c5, a6, n6, c6, a7, n7, c7, a8, n8, c8⟩ nd A W rfl (hs.up hW).f5)
 dsimp only at HN HU
 have HM := hidOf hM
 have Z0 := hidOf (FdS.begin w [.int .i64 ix, .int .i64 nx, .slice a2 n2 c2, .slice a3 n3 c3, .slice a4 N.length c4, .slice a5 A.length c5, .slice a6 n6 c6, .slice a7 n7 c7, .slice a8 n8 c8] [.int .i64 a, .int .i64 b] 29 40)
 have hln : N.length ≤ 140737488355328 := Nat.le_trans (Nat.le_mul_of_pos_right _ (by decide)) hs.f4.bd
 rcases fi_range (fun y : Nd => isI y.id nd) N with hf | ⟨i, hi, hf⟩
 ·have HR := hidOf (chV_no (A := A) (M := M) (a := a) (b := b) hf)
  have HF := hidOf hf
  clear hf hs hM hcap HU
  go_enter Try.func42, Try.ntmps42
  go_wp2_with (go_at_call 25; refine (HN.out _ Z0.out.b).mono ?_; rintro e w1 ⟨rfl, hb⟩; rw [HF.out]; have Z1 := hidOf (Z0.out.grow hb); clear hb)
  go_ret2
  exact ⟨by rw [HR.out]; rfl, Z1.out.b⟩
 ·obtain ⟨bb, off, ha, hbl0, hc0⟩ := hs.f4.at i hi
  have hcp := cpL_at hcap i hi
  have HR := hidOf (chV_at (A := A) (M := M) (a := a) (b := b) hi hf)
  have HF := hidOf hf
  have HC0 := hidOf hc0
  have HBL := hidOf hbl0
  have hi64 : (i : Int) < (N.length : Int) := by omega
  have hi0 : ¬ ((i : Int) < 0) := by omega
  have hi1 : (0 : Int) ≤ (i : Int) := by omega
  dsimp only at ha
  subst ha
  clear hf hs hM hcap hc0 hbl0
  generalize N[i] = n at *
  cases hup : n.up with
  | false =>
   have HQ := hidOf (HR.out.trans (nvF_down hup))
   have HUP := hidOf hup
   clear hup hcp HU
   go_enter Try.func42, Try.ntmps42
   go_wp2_with (go_at_call 25; refine (HN.out _ Z0.out.b).mono ?_; rintro e w1 ⟨rfl, hb⟩; rw [HF.out]; have Z1 := hidOf (Z0.out.grow hb); clear hb; have s0 : w1.cell? ⟨w.heap.size, 0, none⟩ = some (.int .i64 ix) := Z1.out.s 0 _ rfl; have s1 : w1.cell? ⟨w.heap.size, 1, none⟩ = some (.int .i64 nx) := Z1.out.s 1 _ rfl; have s2 : w1.cell? ⟨w.heap.size, 2, none⟩ = some (.slice a2 n2 c2) := Z1.out.s 2 _ rfl; have s3 : w1.cell? ⟨w.heap.size, 3, none⟩ = some (.slice a3 n3 c3) := Z1.out.s 3 _ rfl; have s4 : w1.cell? ⟨w.heap.size, 4, none⟩ = some (.slice (some ⟨bb, off, none⟩) N.length c4) := Z1.out.s 4 _ rfl; have s5 : w1.cell? ⟨w.heap.size, 5, none⟩ = some (.slice a5 A.length c5) := Z1.out.s 5 _ rfl; have s6 : w1.cell? ⟨w.heap.size, 6, none⟩ = some (.slice a6 n6 c6) := Z1.out.s 6 _ rfl; have s7 : w1.cell? ⟨w.heap.size, 7, none⟩ = some (.slice a7 n7 c7) := Z1.out.s 7 _ rfl; have s8 : w1.cell? ⟨w.heap.size, 8, none⟩ = some (.slice a8 n8 c8) := Z1.out.s 8 _ rfl; have lw : w.heap.size < w1.heap.size := Nat.lt_of_succ_lt Z1.out.l; have hc := range_of HC0.out (Z1.out.b.block bb HBL.out); have hbl : bb < w1.heap.size := Nat.lt_of_lt_of_le HBL.out Z1.out.b.size; have g0 : w1.cell? ⟨bb, off + i * 8, none⟩ = some (.int .i64 n.id) := hc 0 _ rfl; have g1 : w1.cell? ⟨bb, off + i * 8 + 1, none⟩ = some (.int .i64 n.c) := hc 1 _ rfl; have g2 : w1.cell? ⟨bb, off + i * 8 + 2, none⟩ = some (.int .i64 n.m) := hc 2 _ rfl; have g3 : w1.cell? ⟨bb, off + i * 8 + 3, none⟩ = some (.bool n.up) := hc 3 _ rfl; have g4 : w1.cell? ⟨bb, off + i * 8 + 4, none⟩ = some (.bool n.dr) := hc 4 _ rfl; have g5 : w1.cell? ⟨bb, off + i * 8 + 5, none⟩ = some (.int .i64 n.bo) := hc 5 _ rfl; have g6 : w1.cell? ⟨bb, off + i * 8 + 6, none⟩ = some (.int .i64 n.ep) := hc 6 _ rfl; have g7 : w1.cell? ⟨bb, off + i * 8 + 7, none⟩ = some (.int .i64 n.se) := hc 7 _ rfl; clear hc; rw [HUP.out] at g3)
   go_ret2
   exact ⟨by rw [HQ.out]; rfl, Z1.out.b⟩
  | true =>
   have HUP := hidOf hup
   cases hdr : n.dr with
   | true =>
    have HQ := hidOf (HR.out.trans (nvF_drain hdr))
    have HDR := hidOf hdr
    clear hup hdr hcp HU
    go_enter Try.func42, Try.ntmps42
    go_wp2_with (go_at_call 25; refine (HN.out _ Z0.out.b).mono ?_; rintro e w1 ⟨rfl, hb⟩; rw [HF.out]; have Z1 := hidOf (Z0.out.grow hb); clear hb; have s0 : w1.cell? ⟨w.heap.size, 0, none⟩ = some (.int .i64 ix) := Z1.out.s 0 _ rfl; have s1 : w1.cell? ⟨w.heap.size, 1, none⟩ = some (.int .i64 nx) := Z1.out.s 1 _ rfl; have s2 : w1.cell? ⟨w.heap.size, 2, none⟩ = some (.slice a2 n2 c2) := Z1.out.s 2 _ rfl; have s3 : w1.cell? ⟨w.heap.size, 3, none⟩ = some (.slice a3 n3 c3) := Z1.out.s 3 _ rfl; have s4 : w1.cell? ⟨w.heap.size, 4, none⟩ = some (.slice (some ⟨bb, off, none⟩) N.length c4) := Z1.out.s 4 _ rfl; have s5 : w1.cell? ⟨w.heap.size, 5, none⟩ = some (.slice a5 A.length c5) := Z1.out.s 5 _ rfl; have s6 : w1.cell? ⟨w.heap.size, 6, none⟩ = some (.slice a6 n6 c6) := Z1.out.s 6 _ rfl; have s7 : w1.cell? ⟨w.heap.size, 7, none⟩ = some (.slice a7 n7 c7) := Z1.out.s 7 _ rfl; have s8 : w1.cell? ⟨w.heap.size, 8, none⟩ = some (.slice a8 n8 c8) := Z1.out.s 8 _ rfl; have lw : w.heap.size < w1.heap.size := Nat.lt_of_succ_lt Z1.out.l; have hc := range_of HC0.out (Z1.out.b.block bb HBL.out); have hbl : bb < w1.heap.size := Nat.lt_of_lt_of_le HBL.out Z1.out.b.size; have g0 : w1.cell? ⟨bb, off + i * 8, none⟩ = some (.int .i64 n.id) := hc 0 _ rfl; have g1 : w1.cell? ⟨bb, off + i * 8 + 1, none⟩ = some (.int .i64 n.c) := hc 1 _ rfl; have g2 : w1.cell? ⟨bb, off + i * 8 + 2, none⟩ = some (.int .i64 n.m) := hc 2 _ rfl; have g3 : w1.cell? ⟨bb, off + i * 8 + 3, none⟩ = some (.bool n.up) := hc 3 _ rfl; have g4 : w1.cell? ⟨bb, off + i * 8 + 4, none⟩ = some (.bool n.dr) := hc 4 _ rfl; have g5 : w1.cell? ⟨bb, off + i * 8 + 5, none⟩ = some (.int .i64 n.bo) := hc 5 _ rfl; have g6 : w1.cell? ⟨bb, off + i * 8 + 6, none⟩ = some (.int .i64 n.ep) := hc 6 _ rfl; have g7 : w1.cell? ⟨bb, off + i * 8 + 7, none⟩ = some (.int .i64 n.se) := hc 7 _ rfl; clear hc; rw [HUP.out] at g3; rw [HDR.out] at g4)
    go_ret2
    exact ⟨by rw [HQ.out]; rfl, Z1.out.b⟩
   | false =>
    have HDR := hidOf hdr
    obtain ⟨⟨u1, u2⟩, hu⟩ : ∃ p, usedV nd A = p := ⟨_, rfl⟩
    rw [hu] at HU
    have HW0 := hidOf ((wF_nil nd A).trans (congrArg (Prod.mk true) hu))
    dsimp only at HU
    clear hu
    have HUD := hidOf (And.intro hup hdr)
    have HCP := hidOf hcp
    clear hup hdr hcp
    go_enter Try.func42, Try.ntmps42
    go_wp2_with (first
     | (go_at_call 25; refine (HN.out _ Z0.out.b).mono ?_; rintro e w1 ⟨rfl, hb⟩; rw [HF.out]; have Z1 := hidOf (Z0.out.grow hb); clear hb; have s0 : w1.cell? ⟨w.heap.size, 0, none⟩ = some (.int .i64 ix) := Z1.out.s 0 _ rfl; have s1 : w1.cell? ⟨w.heap.size, 1, none⟩ = some (.int .i64 nx) := Z1.out.s 1 _ rfl; have s2 : w1.cell? ⟨w.heap.size, 2, none⟩ = some (.slice a2 n2 c2) := Z1.out.s 2 _ rfl; have s3 : w1.cell? ⟨w.heap.size, 3, none⟩ = some (.slice a3 n3 c3) := Z1.out.s 3 _ rfl; have s4 : w1.cell? ⟨w.heap.size, 4, none⟩ = some (.slice (some ⟨bb, off, none⟩) N.length c4) := Z1.out.s 4 _ rfl; have s5 : w1.cell? ⟨w.heap.size, 5, none⟩ = some (.slice a5 A.length c5) := Z1.out.s 5 _ rfl; have s6 : w1.cell? ⟨w.heap.size, 6, none⟩ = some (.slice a6 n6 c6) := Z1.out.s 6 _ rfl; have s7 : w1.cell? ⟨w.heap.size, 7, none⟩ = some (.slice a7 n7 c7) := Z1.out.s 7 _ rfl; have s8 : w1.cell? ⟨w.heap.size, 8, none⟩ = some (.slice a8 n8 c8) := Z1.out.s 8 _ rfl; have lw : w.heap.size < w1.heap.size := Nat.lt_of_succ_lt Z1.out.l; have hc := range_of HC0.out (Z1.out.b.block bb HBL.out); have hbl : bb < w1.heap.size := Nat.lt_of_lt_of_le HBL.out Z1.out.b.size; have g0 : w1.cell? ⟨bb, off + i * 8, none⟩ = some (.int .i64 n.id) := hc 0 _ rfl; have g1 : w1.cell? ⟨bb, off + i * 8 + 1, none⟩ = some (.int .i64 n.c) := hc 1 _ rfl; have g2 : w1.cell? ⟨bb, off + i * 8 + 2, none⟩ = some (.int .i64 n.m) := hc 2 _ rfl; have g3 : w1.cell? ⟨bb, off + i * 8 + 3, none⟩ = some (.bool n.up) := hc 3 _ rfl; have g4 : w1.cell? ⟨bb, off + i * 8 + 4, none⟩ = some (.bool n.dr) := hc 4 _ rfl; have g5 : w1.cell? ⟨bb, off + i * 8 + 5, none⟩ = some (.int .i64 n.bo) := hc 5 _ rfl; have g6 : w1.cell? ⟨bb, off + i * 8 + 6, none⟩ = some (.int .i64 n.ep) := hc 6 _ rfl; have g7 : w1.cell? ⟨bb, off + i * 8 + 7, none⟩ = some (.int .i64 n.se) := hc 7 _ rfl; clear hc; rw [HUP.out] at g3; rw [HDR.out] at g4)
     | (go_at_call 58; refine (HU.out _ Z1.out.b).mono ?_; rintro e w2 ⟨rfl, hb⟩; have HL0 : Hid (LfI w (w2.alloc (.cells #[.int .i64 u1, .int .i64 u2] 40)) [.int .i64 ix, .int .i64 nx, .slice a2 n2 c2, .slice a3 n3 c3, .slice (some ⟨bb, off, none⟩) N.length c4, .slice a5 A.length c5, .slice a6 n6 c6, .slice a7 n7 c7, .slice a8 n8 c8] [.int .i64 a, .int .i64 b] w2.heap.size u1 u2) := hidOf ⟨(Z1.out.grow hb).grow (below1 _ _), pr_new _ _ _, by have := (Z1.out.grow hb).l; omega⟩; clear hb lw s0 s1 s2 s3 s4 s5 s6 s7 s8 g0 g1 g2 g3 g4 g5 g6 g7 hbl))
    clear HU HN Z1 Z0 HUP HDR
    go_loopw [12] (fun i wr => ∃ (k : Nat) (c m : Int), k ≤ M.length ∧ i = .int .i64 k ∧ Hid (wF nd A (M.take k) = (true, c, m)) ∧ Hid (LfI w wr [.int .i64 ix, .int .i64 nx, .slice a2 n2 c2, .slice a3 n3 c3, .slice (some ⟨bb, off, none⟩) N.length c4, .slice a5 A.length c5, .slice a6 n6 c6, .slice a7 n7 c7, .slice a8 n8 c8] [.int .i64 a, .int .i64 b] w2.heap.size c m)) (fun i _ => M.length - (intOf i).toNat)
    case atStart => exact ⟨0, u1, u2, Nat.zero_le _, rfl, HW0, HL0⟩
    case round =>
     clear HL0 HW0
     obtain ⟨k, c, m, hk, rfl, HW, HL⟩ := hrel
     generalize w2.heap.size = q at *
     clear w2
     by_cases hlt : k < M.length
     ·obtain ⟨b2, off2, ha, hbl, hc0⟩ := HM.out.at k hlt
      have hbl2 : b2 < wr.heap.size := Nat.lt_of_lt_of_le hbl HL.out.z.b.size
      have hc := range_of hc0 (HL.out.z.b.block b2 hbl)
      clear hbl hc0
      subst ha
      have HT := hidOf ((wF_take nd A M k hlt).trans (congrArg (fun s => wS nd s M[k]) HW.out))
      generalize M[k] = x at *
      have x0 : wr.cell? ⟨b2, off2 + k * 11, none⟩ = some (.int .i64 x.id) := hc 0 _ rfl
      have x1 : wr.cell? ⟨b2, off2 + k * 11 + 1, none⟩ = some (.int .i64 x.jb) := hc 1 _ rfl
      have x2 : wr.cell? ⟨b2, off2 + k * 11 + 2, none⟩ = some (.int .i64 x.ve) := hc 2 _ rfl
      have x3 : wr.cell? ⟨b2, off2 + k * 11 + 3, none⟩ = some (.int .i64 x.gr) := hc 3 _ rfl
      have x4 : wr.cell? ⟨b2, off2 + k * 11 + 4, none⟩ = some (.int .i64 x.ix) := hc 4 _ rfl
      have x5 : wr.cell? ⟨b2, off2 + k * 11 + 5, none⟩ = some (.int .i64 x.nd) := hc 5 _ rfl
      have x6 : wr.cell? ⟨b2, off2 + k * 11 + 6, none⟩ = some (.int .i64 x.ep) := hc 6 _ rfl
      have x7 : wr.cell? ⟨b2, off2 + k * 11 + 7, none⟩ = some (.int .i64 x.c) := hc 7 _ rfl
      have x8 : wr.cell? ⟨b2, off2 + k * 11 + 8, none⟩ = some (.int .i64 x.m) := hc 8 _ rfl
      have x9 : wr.cell? ⟨b2, off2 + k * 11 + 9, none⟩ = some (.bool x.sp) := hc 9 _ rfl
      have x10 : wr.cell? ⟨b2, off2 + k * 11 + 10, none⟩ = some (.int .i64 x.st) := hc 10 _ rfl
      clear hc
      have lq : q < wr.heap.size := HL.out.p.lt
      have t0 : wr.cell? ⟨q, 0, none⟩ = _ := HL.out.p.c0
      have t1 : wr.cell? ⟨q, 1, none⟩ = _ := HL.out.p.c1
      have lw : w.heap.size < wr.heap.size := Nat.lt_of_succ_lt HL.out.z.l
      have s4 : True := trivial
      by_cases h1 : x.nd = nd
      ·have b1 : (x.nd == nd) = true := by simp [h1]
       have b1' : (x.nd != nd) = false := by simp [h1]
       have HNN := hidOf (isI_true h1)
       have HAD := hidOf (refAdd_any c m x.c x.m)
       have nq : ¬ q = wr.heap.size := by omega
       have nq2 : ¬ wr.heap.size = q := by omega
       have nb1 : ¬ b2 = wr.heap.size := by omega
       have nb2 : ¬ wr.heap.size = b2 := by omega
       cases hadd : addB c m x.c x.m with
       | true =>
        have HY := hidOf (HT.out.trans (wS_yes HNN.out hadd))
        have HC : Hid (addC c m x.c x.m = c + x.c) := hidOf (by unfold addC; rw [hadd]; rfl)
        have HMM : Hid (addM c m x.c x.m = m + x.m) := hidOf (by unfold addM; rw [hadd]; rfl)
        have HA := hidOf hadd
        clear hadd h1
        go_upto_region 9 with (fail)
        go_region_held3 (fun W => W.cell? ⟨q, 0, none⟩ = some (.int .i64 c) ∧ W.cell? ⟨q, 1, none⟩ = some (.int .i64 m) ∧ W.cell? ⟨b2, off2 + k * 11 + 7, none⟩ = some (.int .i64 x.c) ∧ W.cell? ⟨b2, off2 + k * 11 + 8, none⟩ = some (.int .i64 x.m)) (first | go_keep | exact KK.out) (first | (go_at_call 59; refine (HAD.out _).mono ?_; rintro e w2 ⟨rfl, hb⟩; rw [HC.out, HMM.out, HA.out]; have HBy := hidOf hb; have HBz : Hid (Below wr.heap.size wr w2) := hidOf (by first | exact (bdrew wr).trans hb | exact ((below1 wr _).trans ((bdrew _).mono (by simp))).trans (hb.mono (by simp)) | exact ((bdrew wr).trans ((below1 _ _).mono (by simp))).trans (hb.mono (by simp)) | exact (below1 wr _).trans (hb.mono (by simp))); have KK : Hid (w2.cell? ⟨q, 0, none⟩ = some (.int .i64 c) ∧ w2.cell? ⟨q, 1, none⟩ = some (.int .i64 m) ∧ w2.cell? ⟨b2, off2 + k * 11 + 7, none⟩ = some (.int .i64 x.c) ∧ w2.cell? ⟨b2, off2 + k * 11 + 8, none⟩ = some (.int .i64 x.m)) := hidOf ⟨(hb_cell HBz.out lq).trans t0, (hb_cell HBz.out lq).trans t1, (hb_cell HBz.out hbl2).trans x7, (hb_cell HBz.out hbl2).trans x8⟩; have t0w : w2.cell? ⟨q, 0, none⟩ = some (.int .i64 c) := KK.out.1; have t1w : w2.cell? ⟨q, 1, none⟩ = some (.int .i64 m) := KK.out.2.1; have x7w : w2.cell? ⟨b2, off2 + k * 11 + 7, none⟩ = some (.int .i64 x.c) := KK.out.2.2.1; have x8w : w2.cell? ⟨b2, off2 + k * 11 + 8, none⟩ = some (.int .i64 x.m) := KK.out.2.2.2; have lqw : q < w2.heap.size := Nat.lt_of_lt_of_le lq HBz.out.size; have lbw : b2 < w2.heap.size := Nat.lt_of_lt_of_le hbl2 HBz.out.size; (try (have HZ : Hid (Pr w2 wr.heap.size 0 0) := hidOf ((pr_new wr 0 0).grow (by first | exact HBy.out | exact (bdrew _).trans HBy.out)); have z0 : w2.cell? ⟨wr.heap.size, 0, none⟩ = _ := HZ.out.c0; have z1 : w2.cell? ⟨wr.heap.size, 1, none⟩ = _ := HZ.out.c1; have fz := HZ.out.fr; have lz : wr.heap.size < w2.heap.size := HZ.out.lt)); clear hb))
        ·obtain ⟨r, hr⟩ : ∃ r, r = w2.heap.size := ⟨_, rfl⟩
         obtain ⟨Wr, hWr⟩ : ∃ y, y = w2.alloc (.cells #[.int .i64 (c + x.c), .int .i64 (m + x.m)] 40) := ⟨_, rfl⟩
         have HL4 : Hid (LfI w Wr _ _ q c m) := hidOf (by rw [hWr]; exact (HL.out.grow HBz.out).grow (below1 w2 _))
         have HPr : Hid (Pr Wr r (c + x.c) (m + x.m)) := hidOf (by rw [hWr, hr]; exact pr_new w2 _ _)
         rw [← hWr]
         rw [← hr]
         clear hWr hr HBy HBz KK HL t0w t1w x7w x8w lqw lbw
         clear t0 t1 x0 x1 x2 x3 x4 x5 x6 x7 x8 x9 x10 lq hbl2 s4 lw
         have r0 : Wr.cell? ⟨r, 0, none⟩ = _ := HPr.out.c0
         have r1 : Wr.cell? ⟨r, 1, none⟩ = _ := HPr.out.c1
         have lr : r < Wr.heap.size := HPr.out.lt
         have t0 : Wr.cell? ⟨q, 0, none⟩ = _ := HL4.out.p.c0
         have t1 : Wr.cell? ⟨q, 1, none⟩ = _ := HL4.out.p.c1
         have tf := HL4.out.p.fr
         have lt : q < Wr.heap.size := HL4.out.p.lt
         go_wp2
         go_roundw
         case rel => exact ⟨k + 1, c + x.c, m + x.m, by omega, by go_num, HY, hidOf (HL4.out.set _ _)⟩
         case measure => simp [intOf]; omega
        ·obtain ⟨r, hr⟩ : ∃ r, r = wr.heap.size := ⟨_, rfl⟩
         obtain ⟨Wr, hWr⟩ : ∃ y, y = (w2.setCell ⟨wr.heap.size, 0, none⟩ (.int .i64 (c + x.c))).setCell ⟨wr.heap.size, 1, none⟩ (.int .i64 (m + x.m)) := ⟨_, rfl⟩
         have HL4 : Hid (LfI w Wr _ _ q c m) := hidOf (by rw [hWr]; exact (HL.out.grow HBz.out).other (by have := HL.out.p.lt; omega) (by have := HL.out.z.l; omega) (by have := HL.out.z.b.size; omega) _ _)
         have HPr : Hid (Pr Wr r (c + x.c) (m + x.m)) := hidOf (by rw [hWr, hr]; exact HZ.out.set _ _)
         rw [← hWr]
         rw [← hr]
         clear hWr hr HBy HBz KK HL t0w t1w x7w x8w lqw lbw z0 z1 fz lz HZ
         clear t0 t1 x0 x1 x2 x3 x4 x5 x6 x7 x8 x9 x10 lq hbl2 s4 lw
         have r0 : Wr.cell? ⟨r, 0, none⟩ = _ := HPr.out.c0
         have r1 : Wr.cell? ⟨r, 1, none⟩ = _ := HPr.out.c1
         have lr : r < Wr.heap.size := HPr.out.lt
         have t0 : Wr.cell? ⟨q, 0, none⟩ = _ := HL4.out.p.c0
         have t1 : Wr.cell? ⟨q, 1, none⟩ = _ := HL4.out.p.c1
         have tf := HL4.out.p.fr
         have lt : q < Wr.heap.size := HL4.out.p.lt
         go_wp2
         go_roundw
         case rel => exact ⟨k + 1, c + x.c, m + x.m, by omega, by go_num, HY, hidOf (HL4.out.set _ _)⟩
         case measure => simp [intOf]; omega
       | false =>
        have HY := hidOf ((HR.out.trans (congrArg (fun s => nvF n s a b) (wF_bad (HT.out.trans (wS_bad HNN.out hadd))))).trans (nvF_not (show okV n (false, top, top) a b = false from rfl)))
        have HC : Hid (addC c m x.c x.m = 0) := hidOf (by unfold addC; rw [hadd]; rfl)
        have HMM : Hid (addM c m x.c x.m = 0) := hidOf (by unfold addM; rw [hadd]; rfl)
        have HA := hidOf hadd
        clear hadd h1
        go_upto_region 9 with (fail)
        go_region_held3 (fun W => W.cell? ⟨q, 0, none⟩ = some (.int .i64 c) ∧ W.cell? ⟨q, 1, none⟩ = some (.int .i64 m) ∧ W.cell? ⟨b2, off2 + k * 11 + 7, none⟩ = some (.int .i64 x.c) ∧ W.cell? ⟨b2, off2 + k * 11 + 8, none⟩ = some (.int .i64 x.m)) (first | go_keep | exact KK.out) (first | (go_at_call 59; refine (HAD.out _).mono ?_; rintro e w2 ⟨rfl, hb⟩; rw [HC.out, HMM.out, HA.out]; have HBy := hidOf hb; have HBz : Hid (Below wr.heap.size wr w2) := hidOf (by first | exact (bdrew wr).trans hb | exact ((below1 wr _).trans ((bdrew _).mono (by simp))).trans (hb.mono (by simp)) | exact ((bdrew wr).trans ((below1 _ _).mono (by simp))).trans (hb.mono (by simp)) | exact (below1 wr _).trans (hb.mono (by simp))); have KK : Hid (w2.cell? ⟨q, 0, none⟩ = some (.int .i64 c) ∧ w2.cell? ⟨q, 1, none⟩ = some (.int .i64 m) ∧ w2.cell? ⟨b2, off2 + k * 11 + 7, none⟩ = some (.int .i64 x.c) ∧ w2.cell? ⟨b2, off2 + k * 11 + 8, none⟩ = some (.int .i64 x.m)) := hidOf ⟨(hb_cell HBz.out lq).trans t0, (hb_cell HBz.out lq).trans t1, (hb_cell HBz.out hbl2).trans x7, (hb_cell HBz.out hbl2).trans x8⟩; have t0w : w2.cell? ⟨q, 0, none⟩ = some (.int .i64 c) := KK.out.1; have t1w : w2.cell? ⟨q, 1, none⟩ = some (.int .i64 m) := KK.out.2.1; have x7w : w2.cell? ⟨b2, off2 + k * 11 + 7, none⟩ = some (.int .i64 x.c) := KK.out.2.2.1; have x8w : w2.cell? ⟨b2, off2 + k * 11 + 8, none⟩ = some (.int .i64 x.m) := KK.out.2.2.2; have lqw : q < w2.heap.size := Nat.lt_of_lt_of_le lq HBz.out.size; have lbw : b2 < w2.heap.size := Nat.lt_of_lt_of_le hbl2 HBz.out.size; (try (have HZ : Hid (Pr w2 wr.heap.size 0 0) := hidOf ((pr_new wr 0 0).grow (by first | exact HBy.out | exact (bdrew _).trans HBy.out)); have z0 : w2.cell? ⟨wr.heap.size, 0, none⟩ = _ := HZ.out.c0; have z1 : w2.cell? ⟨wr.heap.size, 1, none⟩ = _ := HZ.out.c1; have fz := HZ.out.fr; have lz : wr.heap.size < w2.heap.size := HZ.out.lt)); clear hb))
        ·obtain ⟨r, hr⟩ : ∃ r, r = w2.heap.size := ⟨_, rfl⟩
         obtain ⟨Wr, hWr⟩ : ∃ y, y = w2.alloc (.cells #[.int .i64 (0), .int .i64 (0)] 40) := ⟨_, rfl⟩
         have HL4 : Hid (LfI w Wr _ _ q c m) := hidOf (by rw [hWr]; exact (HL.out.grow HBz.out).grow (below1 w2 _))
         have HPr : Hid (Pr Wr r (0) (0)) := hidOf (by rw [hWr, hr]; exact pr_new w2 _ _)
         rw [← hWr]
         rw [← hr]
         clear hWr hr HBy HBz KK HL t0w t1w x7w x8w lqw lbw
         clear t0 t1 x0 x1 x2 x3 x4 x5 x6 x7 x8 x9 x10 lq hbl2 s4 lw
         go_wp2
         go_ret2
         exact ⟨by rw [HY.out]; rfl, HL4.out.z.b⟩
        ·obtain ⟨r, hr⟩ : ∃ r, r = wr.heap.size := ⟨_, rfl⟩
         obtain ⟨Wr, hWr⟩ : ∃ y, y = (w2.setCell ⟨wr.heap.size, 0, none⟩ (.int .i64 (0))).setCell ⟨wr.heap.size, 1, none⟩ (.int .i64 (0)) := ⟨_, rfl⟩
         have HL4 : Hid (LfI w Wr _ _ q c m) := hidOf (by rw [hWr]; exact (HL.out.grow HBz.out).other (by have := HL.out.p.lt; omega) (by have := HL.out.z.l; omega) (by have := HL.out.z.b.size; omega) _ _)
         have HPr : Hid (Pr Wr r (0) (0)) := hidOf (by rw [hWr, hr]; exact HZ.out.set _ _)
         rw [← hWr]
         rw [← hr]
         clear hWr hr HBy HBz KK HL t0w t1w x7w x8w lqw lbw z0 z1 fz lz HZ
         clear t0 t1 x0 x1 x2 x3 x4 x5 x6 x7 x8 x9 x10 lq hbl2 s4 lw
         go_wp2
         go_ret2
         exact ⟨by rw [HY.out]; rfl, HL4.out.z.b⟩
      ·have b1 : (x.nd == nd) = false := by simp [h1]
       have b1' : (x.nd != nd) = true := by simp [h1]
       have HY := hidOf (HT.out.trans (wS_no (isI_false h1) _))
       clear h1
       go_wp2
       go_roundw
       case rel => exact ⟨k + 1, c, m, by omega, by go_num, HY, HL⟩
       case measure => simp [intOf]; omega
     ·have hkl : k = M.length := by omega
      subst hkl
      have HV : Hid (chV N A M nd a b = nvF n (true, c, m) a b) := hidOf (by have h := HW.out; rw [List.take_length] at h; have h2 := HR.out; rwa [h] at h2)
      clear HW HR
      have hbl : bb < wr.heap.size := Nat.lt_of_lt_of_le HBL.out HL.out.z.b.size
      have hc := range_of HC0.out (HL.out.z.b.block bb HBL.out)
      have g0 : wr.cell? ⟨bb, off + i * 8, none⟩ = some (.int .i64 n.id) := hc 0 _ rfl
      have g1 : wr.cell? ⟨bb, off + i * 8 + 1, none⟩ = some (.int .i64 n.c) := hc 1 _ rfl
      have g2 : wr.cell? ⟨bb, off + i * 8 + 2, none⟩ = some (.int .i64 n.m) := hc 2 _ rfl
      have g3 : wr.cell? ⟨bb, off + i * 8 + 3, none⟩ = some (.bool n.up) := hc 3 _ rfl
      have g4 : wr.cell? ⟨bb, off + i * 8 + 4, none⟩ = some (.bool n.dr) := hc 4 _ rfl
      have g5 : wr.cell? ⟨bb, off + i * 8 + 5, none⟩ = some (.int .i64 n.bo) := hc 5 _ rfl
      have g6 : wr.cell? ⟨bb, off + i * 8 + 6, none⟩ = some (.int .i64 n.ep) := hc 6 _ rfl
      have g7 : wr.cell? ⟨bb, off + i * 8 + 7, none⟩ = some (.int .i64 n.se) := hc 7 _ rfl
      clear hc
      have s4 : wr.cell? ⟨w.heap.size, 4, none⟩ = some (.slice (some ⟨bb, off, none⟩) N.length c4) := HL.out.z.s 4 _ rfl
      have lw : w.heap.size < wr.heap.size := Nat.lt_of_succ_lt HL.out.z.l
      have la : w.heap.size + 1 < wr.heap.size := HL.out.z.l
      have a0 : wr.cell? ⟨w.heap.size + 1, 0, none⟩ = some (.int .i64 a) := HL.out.z.a 0 _ rfl
      have a1 : wr.cell? ⟨w.heap.size + 1, 1, none⟩ = some (.int .i64 b) := HL.out.z.a 1 _ rfl
      have lq : q < wr.heap.size := HL.out.p.lt
      have t0 : wr.cell? ⟨q, 0, none⟩ = _ := HL.out.p.c0
      have t1 : wr.cell? ⟨q, 1, none⟩ = _ := HL.out.p.c1
      have HAD := hidOf (refAdd_any c m a b)
      cases hadd : addB c m a b with
      | false =>
       have HQ := hidOf (HV.out.trans (nvF_not (show okV n (true, c, m) a b = false by rw [okV]; dsimp only; rw [hadd]; rfl)))
       have HC : Hid (addC c m a b = 0) := hidOf (by unfold addC; rw [hadd]; rfl)
       have HMM : Hid (addM c m a b = 0) := hidOf (by unfold addM; rw [hadd]; rfl)
       have HA := hidOf hadd
       clear hadd
       go_wp2_with (go_at_call 59; refine (HAD.out _).mono ?_; rintro e w2 ⟨rfl, hb⟩; rw [HC.out, HMM.out, HA.out]; have HB2 := hidOf ((HL.out.z.b.alloc HL.out.z.b.size _).trans (hb.mono (HL.out.z.b.alloc HL.out.z.b.size _).size)); have PM := hidOf ((pr_new wr n.c n.m).grow hb); clear hb; have m0 : w2.cell? ⟨wr.heap.size, 0, none⟩ = _ := PM.out.c0; have m1 : w2.cell? ⟨wr.heap.size, 1, none⟩ = _ := PM.out.c1; have lm : wr.heap.size < w2.heap.size := PM.out.lt)
       go_ret2
       exact ⟨by rw [HQ.out]; rfl, HB2.out.alloc HB2.out.size _⟩
      | true =>
       have HC : Hid (addC c m a b = c + a) := hidOf (by unfold addC; rw [hadd]; rfl)
       have HMM : Hid (addM c m a b = m + b) := hidOf (by unfold addM; rw [hadd]; rfl)
       have HA := hidOf hadd
       by_cases h1 : c + a ≤ n.c
       ·have h1' : ¬ n.c < c + a := by omega
        by_cases h2 : m + b ≤ n.m
        ·have h2' : ¬ n.m < m + b := by omega
         have hok : okV n (true, c, m) a b = true := by rw [okV]; dsimp only; rw [hadd, decide_eq_true h1, decide_eq_true h2]; rfl
         have HQ := hidOf (HV.out.trans (nvF_yes HUD.out.1 HUD.out.2 hok))
         have hov := okV_true hok
         dsimp only at hov
         have hcp := HCP.out
         have z1 : 0 ≤ c + a := by omega
         have z2 : 0 ≤ m + b := by omega
         have z3 := hcp.1
         have z4 := hcp.2
         clear hadd hok hov hcp
         go_wp2_with (go_at_call 59; refine (HAD.out _).mono ?_; rintro e w2 ⟨rfl, hb⟩; rw [HC.out, HMM.out, HA.out]; have HB2 := hidOf ((HL.out.z.b.alloc HL.out.z.b.size _).trans (hb.mono (HL.out.z.b.alloc HL.out.z.b.size _).size)); have PM := hidOf ((pr_new wr n.c n.m).grow hb); clear hb; have m0 : w2.cell? ⟨wr.heap.size, 0, none⟩ = _ := PM.out.c0; have m1 : w2.cell? ⟨wr.heap.size, 1, none⟩ = _ := PM.out.c1; have lm : wr.heap.size < w2.heap.size := PM.out.lt)
         go_ret2
         exact ⟨by rw [HQ.out]; rfl, HB2.out.alloc HB2.out.size _⟩
        ·have h2' : n.m < m + b := by omega
         have HQ := hidOf (HV.out.trans (nvF_not (show okV n (true, c, m) a b = false by rw [okV]; dsimp only; rw [decide_eq_false h2]; simp)))
         clear hadd h2
         go_wp2_with (go_at_call 59; refine (HAD.out _).mono ?_; rintro e w2 ⟨rfl, hb⟩; rw [HC.out, HMM.out, HA.out]; have HB2 := hidOf ((HL.out.z.b.alloc HL.out.z.b.size _).trans (hb.mono (HL.out.z.b.alloc HL.out.z.b.size _).size)); have PM := hidOf ((pr_new wr n.c n.m).grow hb); clear hb; have m0 : w2.cell? ⟨wr.heap.size, 0, none⟩ = _ := PM.out.c0; have m1 : w2.cell? ⟨wr.heap.size, 1, none⟩ = _ := PM.out.c1; have lm : wr.heap.size < w2.heap.size := PM.out.lt)
         go_ret2
         exact ⟨by rw [HQ.out]; rfl, HB2.out.alloc HB2.out.size _⟩
       ·have h1' : n.c < c + a := by omega
        have HQ := hidOf (HV.out.trans (nvF_not (show okV n (true, c, m) a b = false by rw [okV]; dsimp only; rw [decide_eq_false h1]; simp)))
        clear hadd h1
        go_wp2_with (go_at_call 59; refine (HAD.out _).mono ?_; rintro e w2 ⟨rfl, hb⟩; rw [HC.out, HMM.out, HA.out]; have HB2 := hidOf ((HL.out.z.b.alloc HL.out.z.b.size _).trans (hb.mono (HL.out.z.b.alloc HL.out.z.b.size _).size)); have PM := hidOf ((pr_new wr n.c n.m).grow hb); clear hb; have m0 : w2.cell? ⟨wr.heap.size, 0, none⟩ = _ := PM.out.c0; have m1 : w2.cell? ⟨wr.heap.size, 1, none⟩ = _ := PM.out.c1; have lm : wr.heap.size < w2.heap.size := PM.out.lt)
        go_ret2
        exact ⟨by rw [HQ.out]; rfl, HB2.out.alloc HB2.out.size _⟩
end Go.Proofs.Ytblofbdncolikaa
