/- On which node a demand is placed, of the code. -/
import Derived.Test.YtajfhknfknedmaaXb
namespace Go.Proofs.Ytajfhknfknedmaa
open Go.RowKit Go.Shelf
attribute [local go_sem] Oper.semAt_some
/- a choice stands in block p -/
def Ch (w : World) (p : Nat) (i l : Int) : Prop := w.heap[p]? = some (.cells #[.int .i64 i, .int .u64 l] 53 (0, 0))
theorem Ch.c0 {w : World} {p : Nat} {i l : Int} (h : Ch w p i l) : w.cell? ⟨p, 0, none⟩ = some (.int .i64 i) := by rw [cell_of_row w p 0 _ 53 (0, 0) h]; rfl
theorem Ch.c1 {w : World} {p : Nat} {i l : Int} (h : Ch w p i l) : w.cell? ⟨p, 1, none⟩ = some (.int .u64 l) := by rw [cell_of_row w p 1 _ 53 (0, 0) h]; rfl
theorem Ch.lt {w : World} {p : Nat} {i l : Int} (h : Ch w p i l) : p < w.heap.size := heap_lt h
theorem Ch.grow {w w' : World} {p : Nat} {i l : Int} (h : Ch w p i l) (hb : Below w.heap.size w w') : Ch w' p i l := (hb.block p h.lt).trans h
/- what is answered: no choice, or one -/
def ChP (o : Option Int) (nd : Int) (w : World) (e : Ending) (w' : World) : Prop := match o with
  | none => e = .returned (.pointer none) ∧ Below w.heap.size w w'
  | some l => ∃ p, e = .returned (.pointer (some ⟨p, 0, none⟩)) ∧ Ch w' p nd l ∧ Below w.heap.size w w'
set_option maxRecDepth 100000 in
set_option maxHeartbeats 4000000 in
theorem choose_any (s : Sc) (nd a b : Int) (N : List Nd) (A M : List Al) (am : Option Addr) (cm : Nat) (w : World) (hs : Sg w s N A) (hM : Mr w am M) (hcap : cpL N = true) :
    Calls Try.prog 13 #[.agg #[.int .i64 s.ix, .int .i64 s.nx, .slice s.a2 s.n2 s.c2, .slice s.a3 s.n3 s.c3, .slice s.a4 s.n4 s.c4, .slice s.a5 s.n5 s.c5, .slice s.a6 s.n6 s.c6, .slice s.a7 s.n7 s.c7, .slice s.a8 s.n8 s.c8], .slice am M.length cm, .int .i64 nd, .agg #[.int .i64 a, .int .i64 b]] w fun e w' => ChP (chV N A M nd a b) nd w e w' := by
  obtain ⟨ix, nx, a2, n2, c2, a3, n3, c3, a4, n4, c4, a5, n5, c5, a6, n6, c6, a7, n7, c7, a8, n8, c8⟩ := s
  obtain ⟨e4, e5⟩ : n4 = N.length ∧ n5 = A.length := ⟨hs.n4, hs.n5⟩
  subst e4
  subst e5
  have HN := hidOf (fun (W : World) (hW : Below w.heap.size w W) => node_any ⟨ix, nx, a2, n2, c2, a3, n3, c3, a4, N.length, c4, a5, A.length, c5, a6, n6, c6, a7, n7, c7, a8, n8, c8⟩ nd N W rfl (hs.up hW).f4)
  have HU := hidOf (fun (W : World) (hW : Below w.heap.size w W) => with_any ⟨ix, nx, a2, n2, c2, a3, n3, c3, a4, N.length, c4, a5, A.length, c5, a6, n6, c6, a7, n7, c7, a8, n8, c8⟩ nd N A M am cm W (hs.up hW) (mr_up hM hW))
  dsimp only at HN HU
  have Z0 := hidOf (FdS.begin w [.int .i64 ix, .int .i64 nx, .slice a2 n2 c2, .slice a3 n3 c3, .slice a4 N.length c4, .slice a5 A.length c5, .slice a6 n6 c6, .slice a7 n7 c7, .slice a8 n8 c8] [.int .i64 a, .int .i64 b] 29 31)
  have hln : N.length ≤ 140737488355328 := Nat.le_trans (Nat.le_mul_of_pos_right _ (by decide)) hs.f4.bd
  rcases fi_range (fun y : Nd => isI y.id nd) N with hf | ⟨i, hi, hf⟩
  · have HR := hidOf (chV_no (A := A) (M := M) (a := a) (b := b) hf)
    have HF := hidOf hf
    clear hf hs hM hcap HU
    go_enter Try.func13, Try.ntmps13
    go_wp2_with (go_at_call 18; refine (HN.out _ Z0.out.b).mono ?_; rintro e w1 ⟨rfl, hb⟩; rw [HF.out]; have Z1 := hidOf (Z0.out.grow hb); clear hb)
    go_ret
    rw [HR.out]
    exact ⟨rfl, Z1.out.b⟩
  · obtain ⟨bb, off, ha, hbl0, hc0⟩ := hs.f4.at i hi
    have hcp := cpL_at hcap i hi
    have HR := hidOf (chV_at (A := A) (M := M) (a := a) (b := b) hi hf)
    have HF := hidOf hf
    have HC0 := hidOf hc0
    have HBL := hidOf hbl0
    have hi64 : (i : Int) < (N.length : Int) := by omega
    have hi0 : ¬ ((i : Int) < 0) := by omega
    have hi1 : (0 : Int) ≤ (i : Int) := by omega
    dsimp only at ha
    subst ha
    clear hf hs hM hcap hc0 hbl0
    generalize N[i] = n at *
    cases hup : n.up with
    | false =>
      have HQ := hidOf (HR.out.trans (ndV_down hup))
      have HUP := hidOf hup
      clear hup hcp HU
      go_enter Try.func13, Try.ntmps13
      go_wp2_with (go_at_call 18; refine (HN.out _ Z0.out.b).mono ?_; rintro e w1 ⟨rfl, hb⟩; rw [HF.out]; have Z1 := hidOf (Z0.out.grow hb); clear hb; have s0 : w1.cell? ⟨w.heap.size, 0, none⟩ = some (.int .i64 ix) := Z1.out.s 0 _ rfl; have s1 : w1.cell? ⟨w.heap.size, 1, none⟩ = some (.int .i64 nx) := Z1.out.s 1 _ rfl; have s2 : w1.cell? ⟨w.heap.size, 2, none⟩ = some (.slice a2 n2 c2) := Z1.out.s 2 _ rfl; have s3 : w1.cell? ⟨w.heap.size, 3, none⟩ = some (.slice a3 n3 c3) := Z1.out.s 3 _ rfl; have s4 : w1.cell? ⟨w.heap.size, 4, none⟩ = some (.slice (some ⟨bb, off, none⟩) N.length c4) := Z1.out.s 4 _ rfl; have s5 : w1.cell? ⟨w.heap.size, 5, none⟩ = some (.slice a5 A.length c5) := Z1.out.s 5 _ rfl; have s6 : w1.cell? ⟨w.heap.size, 6, none⟩ = some (.slice a6 n6 c6) := Z1.out.s 6 _ rfl; have s7 : w1.cell? ⟨w.heap.size, 7, none⟩ = some (.slice a7 n7 c7) := Z1.out.s 7 _ rfl; have s8 : w1.cell? ⟨w.heap.size, 8, none⟩ = some (.slice a8 n8 c8) := Z1.out.s 8 _ rfl; have lw : w.heap.size < w1.heap.size := Nat.lt_of_succ_lt Z1.out.l; have la : w.heap.size + 1 < w1.heap.size := Z1.out.l; have a0 : w1.cell? ⟨w.heap.size + 1, 0, none⟩ = some (.int .i64 a) := Z1.out.a 0 _ rfl; have a1 : w1.cell? ⟨w.heap.size + 1, 1, none⟩ = some (.int .i64 b) := Z1.out.a 1 _ rfl; have hc := range_of HC0.out (Z1.out.b.block bb HBL.out); have hbl : bb < w1.heap.size := Nat.lt_of_lt_of_le HBL.out Z1.out.b.size; have c0 : w1.cell? ⟨bb, off + i * 8, none⟩ = some (.int .i64 n.id) := hc 0 _ rfl; have c1 : w1.cell? ⟨bb, off + i * 8 + 1, none⟩ = some (.int .i64 n.c) := hc 1 _ rfl; have c2 : w1.cell? ⟨bb, off + i * 8 + 2, none⟩ = some (.int .i64 n.m) := hc 2 _ rfl; have c3 : w1.cell? ⟨bb, off + i * 8 + 3, none⟩ = some (.bool n.up) := hc 3 _ rfl; have c4 : w1.cell? ⟨bb, off + i * 8 + 4, none⟩ = some (.bool n.dr) := hc 4 _ rfl; have c5 : w1.cell? ⟨bb, off + i * 8 + 5, none⟩ = some (.int .i64 n.bo) := hc 5 _ rfl; have c6 : w1.cell? ⟨bb, off + i * 8 + 6, none⟩ = some (.int .i64 n.ep) := hc 6 _ rfl; have c7 : w1.cell? ⟨bb, off + i * 8 + 7, none⟩ = some (.int .i64 n.se) := hc 7 _ rfl; clear hc; rw [HUP.out] at c3)
      go_ret
      rw [HQ.out]
      exact ⟨rfl, Z1.out.b⟩
    | true =>
      have HUP := hidOf hup
      cases hdr : n.dr with
      | true =>
        have HQ := hidOf (HR.out.trans (ndV_drain hdr))
        have HDR := hidOf hdr
        clear hup hdr hcp HU
        go_enter Try.func13, Try.ntmps13
        go_wp2_with (go_at_call 18; refine (HN.out _ Z0.out.b).mono ?_; rintro e w1 ⟨rfl, hb⟩; rw [HF.out]; have Z1 := hidOf (Z0.out.grow hb); clear hb; have s0 : w1.cell? ⟨w.heap.size, 0, none⟩ = some (.int .i64 ix) := Z1.out.s 0 _ rfl; have s1 : w1.cell? ⟨w.heap.size, 1, none⟩ = some (.int .i64 nx) := Z1.out.s 1 _ rfl; have s2 : w1.cell? ⟨w.heap.size, 2, none⟩ = some (.slice a2 n2 c2) := Z1.out.s 2 _ rfl; have s3 : w1.cell? ⟨w.heap.size, 3, none⟩ = some (.slice a3 n3 c3) := Z1.out.s 3 _ rfl; have s4 : w1.cell? ⟨w.heap.size, 4, none⟩ = some (.slice (some ⟨bb, off, none⟩) N.length c4) := Z1.out.s 4 _ rfl; have s5 : w1.cell? ⟨w.heap.size, 5, none⟩ = some (.slice a5 A.length c5) := Z1.out.s 5 _ rfl; have s6 : w1.cell? ⟨w.heap.size, 6, none⟩ = some (.slice a6 n6 c6) := Z1.out.s 6 _ rfl; have s7 : w1.cell? ⟨w.heap.size, 7, none⟩ = some (.slice a7 n7 c7) := Z1.out.s 7 _ rfl; have s8 : w1.cell? ⟨w.heap.size, 8, none⟩ = some (.slice a8 n8 c8) := Z1.out.s 8 _ rfl; have lw : w.heap.size < w1.heap.size := Nat.lt_of_succ_lt Z1.out.l; have la : w.heap.size + 1 < w1.heap.size := Z1.out.l; have a0 : w1.cell? ⟨w.heap.size + 1, 0, none⟩ = some (.int .i64 a) := Z1.out.a 0 _ rfl; have a1 : w1.cell? ⟨w.heap.size + 1, 1, none⟩ = some (.int .i64 b) := Z1.out.a 1 _ rfl; have hc := range_of HC0.out (Z1.out.b.block bb HBL.out); have hbl : bb < w1.heap.size := Nat.lt_of_lt_of_le HBL.out Z1.out.b.size; have c0 : w1.cell? ⟨bb, off + i * 8, none⟩ = some (.int .i64 n.id) := hc 0 _ rfl; have c1 : w1.cell? ⟨bb, off + i * 8 + 1, none⟩ = some (.int .i64 n.c) := hc 1 _ rfl; have c2 : w1.cell? ⟨bb, off + i * 8 + 2, none⟩ = some (.int .i64 n.m) := hc 2 _ rfl; have c3 : w1.cell? ⟨bb, off + i * 8 + 3, none⟩ = some (.bool n.up) := hc 3 _ rfl; have c4 : w1.cell? ⟨bb, off + i * 8 + 4, none⟩ = some (.bool n.dr) := hc 4 _ rfl; have c5 : w1.cell? ⟨bb, off + i * 8 + 5, none⟩ = some (.int .i64 n.bo) := hc 5 _ rfl; have c6 : w1.cell? ⟨bb, off + i * 8 + 6, none⟩ = some (.int .i64 n.ep) := hc 6 _ rfl; have c7 : w1.cell? ⟨bb, off + i * 8 + 7, none⟩ = some (.int .i64 n.se) := hc 7 _ rfl; clear hc; rw [HUP.out] at c3; rw [HDR.out] at c4)
        go_ret
        rw [HQ.out]
        exact ⟨rfl, Z1.out.b⟩
      | false =>
        have HDR := hidOf hdr
        have HM0 := wF_may nd A M
        generalize wF nd A M = sw at *
        obtain ⟨ok, c, m⟩ := sw
        cases ok with
        | false =>
          have HQ := hidOf (HR.out.trans (ndV_not (show okV n (false, c, m) a b = false from rfl)))
          clear hup hdr hcp HM0
          go_enter Try.func13, Try.ntmps13
          go_wp2_with (first
            | (go_at_call 18; refine (HN.out _ Z0.out.b).mono ?_; rintro e w1 ⟨rfl, hb⟩; rw [HF.out]; have Z1 := hidOf (Z0.out.grow hb); clear hb; have s0 : w1.cell? ⟨w.heap.size, 0, none⟩ = some (.int .i64 ix) := Z1.out.s 0 _ rfl; have s1 : w1.cell? ⟨w.heap.size, 1, none⟩ = some (.int .i64 nx) := Z1.out.s 1 _ rfl; have s2 : w1.cell? ⟨w.heap.size, 2, none⟩ = some (.slice a2 n2 c2) := Z1.out.s 2 _ rfl; have s3 : w1.cell? ⟨w.heap.size, 3, none⟩ = some (.slice a3 n3 c3) := Z1.out.s 3 _ rfl; have s4 : w1.cell? ⟨w.heap.size, 4, none⟩ = some (.slice (some ⟨bb, off, none⟩) N.length c4) := Z1.out.s 4 _ rfl; have s5 : w1.cell? ⟨w.heap.size, 5, none⟩ = some (.slice a5 A.length c5) := Z1.out.s 5 _ rfl; have s6 : w1.cell? ⟨w.heap.size, 6, none⟩ = some (.slice a6 n6 c6) := Z1.out.s 6 _ rfl; have s7 : w1.cell? ⟨w.heap.size, 7, none⟩ = some (.slice a7 n7 c7) := Z1.out.s 7 _ rfl; have s8 : w1.cell? ⟨w.heap.size, 8, none⟩ = some (.slice a8 n8 c8) := Z1.out.s 8 _ rfl; have lw : w.heap.size < w1.heap.size := Nat.lt_of_succ_lt Z1.out.l; have la : w.heap.size + 1 < w1.heap.size := Z1.out.l; have a0 : w1.cell? ⟨w.heap.size + 1, 0, none⟩ = some (.int .i64 a) := Z1.out.a 0 _ rfl; have a1 : w1.cell? ⟨w.heap.size + 1, 1, none⟩ = some (.int .i64 b) := Z1.out.a 1 _ rfl; have hc := range_of HC0.out (Z1.out.b.block bb HBL.out); have hbl : bb < w1.heap.size := Nat.lt_of_lt_of_le HBL.out Z1.out.b.size; have c0 : w1.cell? ⟨bb, off + i * 8, none⟩ = some (.int .i64 n.id) := hc 0 _ rfl; have c1 : w1.cell? ⟨bb, off + i * 8 + 1, none⟩ = some (.int .i64 n.c) := hc 1 _ rfl; have c2 : w1.cell? ⟨bb, off + i * 8 + 2, none⟩ = some (.int .i64 n.m) := hc 2 _ rfl; have c3 : w1.cell? ⟨bb, off + i * 8 + 3, none⟩ = some (.bool n.up) := hc 3 _ rfl; have c4 : w1.cell? ⟨bb, off + i * 8 + 4, none⟩ = some (.bool n.dr) := hc 4 _ rfl; have c5 : w1.cell? ⟨bb, off + i * 8 + 5, none⟩ = some (.int .i64 n.bo) := hc 5 _ rfl; have c6 : w1.cell? ⟨bb, off + i * 8 + 6, none⟩ = some (.int .i64 n.ep) := hc 6 _ rfl; have c7 : w1.cell? ⟨bb, off + i * 8 + 7, none⟩ = some (.int .i64 n.se) := hc 7 _ rfl; clear hc; rw [HUP.out] at c3; rw [HDR.out] at c4)
            | (go_at_call 19; refine (HU.out _ (Z1.out.b.alloc Z1.out.b.size _)).mono ?_; rintro e w2 ⟨rfl, hb⟩; have HB2 := hidOf ((Z1.out.b.alloc Z1.out.b.size _).trans (hb.mono (Z1.out.b.alloc Z1.out.b.size _).size)); clear hb))
          go_ret
          rw [HQ.out]
          exact ⟨rfl, HB2.out.alloc HB2.out.size _⟩
        | true =>
          have HFT := hidOf (fun W => fits_any c m a b n.c n.m W)
          cases hft : fitB c m a b n.c n.m with
          | false =>
            have HQ := hidOf (HR.out.trans (ndV_not (show okV n (true, c, m) a b = false from hft)))
            rw [hft] at HFT
            clear hup hdr hcp HM0 hft
            go_enter Try.func13, Try.ntmps13
            go_wp2_with (first
              | (go_at_call 18; refine (HN.out _ Z0.out.b).mono ?_; rintro e w1 ⟨rfl, hb⟩; rw [HF.out]; have Z1 := hidOf (Z0.out.grow hb); clear hb; have s0 : w1.cell? ⟨w.heap.size, 0, none⟩ = some (.int .i64 ix) := Z1.out.s 0 _ rfl; have s1 : w1.cell? ⟨w.heap.size, 1, none⟩ = some (.int .i64 nx) := Z1.out.s 1 _ rfl; have s2 : w1.cell? ⟨w.heap.size, 2, none⟩ = some (.slice a2 n2 c2) := Z1.out.s 2 _ rfl; have s3 : w1.cell? ⟨w.heap.size, 3, none⟩ = some (.slice a3 n3 c3) := Z1.out.s 3 _ rfl; have s4 : w1.cell? ⟨w.heap.size, 4, none⟩ = some (.slice (some ⟨bb, off, none⟩) N.length c4) := Z1.out.s 4 _ rfl; have s5 : w1.cell? ⟨w.heap.size, 5, none⟩ = some (.slice a5 A.length c5) := Z1.out.s 5 _ rfl; have s6 : w1.cell? ⟨w.heap.size, 6, none⟩ = some (.slice a6 n6 c6) := Z1.out.s 6 _ rfl; have s7 : w1.cell? ⟨w.heap.size, 7, none⟩ = some (.slice a7 n7 c7) := Z1.out.s 7 _ rfl; have s8 : w1.cell? ⟨w.heap.size, 8, none⟩ = some (.slice a8 n8 c8) := Z1.out.s 8 _ rfl; have lw : w.heap.size < w1.heap.size := Nat.lt_of_succ_lt Z1.out.l; have la : w.heap.size + 1 < w1.heap.size := Z1.out.l; have a0 : w1.cell? ⟨w.heap.size + 1, 0, none⟩ = some (.int .i64 a) := Z1.out.a 0 _ rfl; have a1 : w1.cell? ⟨w.heap.size + 1, 1, none⟩ = some (.int .i64 b) := Z1.out.a 1 _ rfl; have hc := range_of HC0.out (Z1.out.b.block bb HBL.out); have hbl : bb < w1.heap.size := Nat.lt_of_lt_of_le HBL.out Z1.out.b.size; have c0 : w1.cell? ⟨bb, off + i * 8, none⟩ = some (.int .i64 n.id) := hc 0 _ rfl; have c1 : w1.cell? ⟨bb, off + i * 8 + 1, none⟩ = some (.int .i64 n.c) := hc 1 _ rfl; have c2 : w1.cell? ⟨bb, off + i * 8 + 2, none⟩ = some (.int .i64 n.m) := hc 2 _ rfl; have c3 : w1.cell? ⟨bb, off + i * 8 + 3, none⟩ = some (.bool n.up) := hc 3 _ rfl; have c4 : w1.cell? ⟨bb, off + i * 8 + 4, none⟩ = some (.bool n.dr) := hc 4 _ rfl; have c5 : w1.cell? ⟨bb, off + i * 8 + 5, none⟩ = some (.int .i64 n.bo) := hc 5 _ rfl; have c6 : w1.cell? ⟨bb, off + i * 8 + 6, none⟩ = some (.int .i64 n.ep) := hc 6 _ rfl; have c7 : w1.cell? ⟨bb, off + i * 8 + 7, none⟩ = some (.int .i64 n.se) := hc 7 _ rfl; clear hc; rw [HUP.out] at c3; rw [HDR.out] at c4)
              | (go_at_call 19; refine (HU.out _ (Z1.out.b.alloc Z1.out.b.size _)).mono ?_; rintro e w2 ⟨rfl, hb⟩; have HB2 := hidOf ((Z1.out.b.alloc Z1.out.b.size _).trans (hb.mono (Z1.out.b.alloc Z1.out.b.size _).size)); have PM2 := hidOf ((pr_new w1 n.c n.m).grow hb); have Z2 := hidOf ((Z1.out.grow (below1 w1 _)).grow hb); clear hb a0 a1 la lw s0 s1 s2 s3 s4 s5 s6 s7 s8 c0 c1 c2 c3 c4 c5 c6 c7 hbl; have a0 : w2.cell? ⟨w.heap.size + 1, 0, none⟩ = some (.int .i64 a) := Z2.out.a 0 _ rfl; have a1 : w2.cell? ⟨w.heap.size + 1, 1, none⟩ = some (.int .i64 b) := Z2.out.a 1 _ rfl; have la : w.heap.size + 1 < w2.heap.size := Z2.out.l; have m0 : w2.cell? ⟨w1.heap.size, 0, none⟩ = _ := PM2.out.c0; have m1 : w2.cell? ⟨w1.heap.size, 1, none⟩ = _ := PM2.out.c1; have lm : w1.heap.size < w2.heap.size := PM2.out.lt)
              | (go_at_call 20; refine (HFT.out _).mono ?_; rintro e w3 ⟨rfl, hb⟩; have HB3 := hidOf ((HB2.out.alloc HB2.out.size _).trans (hb.mono (HB2.out.alloc HB2.out.size _).size)); clear hb))
            go_ret
            rw [HQ.out]
            exact ⟨rfl, HB3.out⟩
          | true =>
            have HQ := hidOf (HR.out.trans (ndV_yes hup hdr (show okV n (true, c, m) a b = true from hft)))
            have hov := okV_true (show okV n (true, c, m) a b = true from hft)
            dsimp only at hov
            have HLF := hidOf (fun W => left_any c m a b n.c n.m W hov.2.1.1 hov.2.2.1.1 hov.2.2.2.1.1 hov.2.2.2.2.1.1 hov.2.2.2.2.2.1 hov.2.2.2.2.2.2 hcp.1 hcp.2)
            rw [hft] at HFT
            clear hup hdr hcp HM0 hft hov
            go_enter Try.func13, Try.ntmps13
            go_wp2_with (first
              | (go_at_call 18; refine (HN.out _ Z0.out.b).mono ?_; rintro e w1 ⟨rfl, hb⟩; rw [HF.out]; have Z1 := hidOf (Z0.out.grow hb); clear hb; have s0 : w1.cell? ⟨w.heap.size, 0, none⟩ = some (.int .i64 ix) := Z1.out.s 0 _ rfl; have s1 : w1.cell? ⟨w.heap.size, 1, none⟩ = some (.int .i64 nx) := Z1.out.s 1 _ rfl; have s2 : w1.cell? ⟨w.heap.size, 2, none⟩ = some (.slice a2 n2 c2) := Z1.out.s 2 _ rfl; have s3 : w1.cell? ⟨w.heap.size, 3, none⟩ = some (.slice a3 n3 c3) := Z1.out.s 3 _ rfl; have s4 : w1.cell? ⟨w.heap.size, 4, none⟩ = some (.slice (some ⟨bb, off, none⟩) N.length c4) := Z1.out.s 4 _ rfl; have s5 : w1.cell? ⟨w.heap.size, 5, none⟩ = some (.slice a5 A.length c5) := Z1.out.s 5 _ rfl; have s6 : w1.cell? ⟨w.heap.size, 6, none⟩ = some (.slice a6 n6 c6) := Z1.out.s 6 _ rfl; have s7 : w1.cell? ⟨w.heap.size, 7, none⟩ = some (.slice a7 n7 c7) := Z1.out.s 7 _ rfl; have s8 : w1.cell? ⟨w.heap.size, 8, none⟩ = some (.slice a8 n8 c8) := Z1.out.s 8 _ rfl; have lw : w.heap.size < w1.heap.size := Nat.lt_of_succ_lt Z1.out.l; have la : w.heap.size + 1 < w1.heap.size := Z1.out.l; have a0 : w1.cell? ⟨w.heap.size + 1, 0, none⟩ = some (.int .i64 a) := Z1.out.a 0 _ rfl; have a1 : w1.cell? ⟨w.heap.size + 1, 1, none⟩ = some (.int .i64 b) := Z1.out.a 1 _ rfl; have hc := range_of HC0.out (Z1.out.b.block bb HBL.out); have hbl : bb < w1.heap.size := Nat.lt_of_lt_of_le HBL.out Z1.out.b.size; have c0 : w1.cell? ⟨bb, off + i * 8, none⟩ = some (.int .i64 n.id) := hc 0 _ rfl; have c1 : w1.cell? ⟨bb, off + i * 8 + 1, none⟩ = some (.int .i64 n.c) := hc 1 _ rfl; have c2 : w1.cell? ⟨bb, off + i * 8 + 2, none⟩ = some (.int .i64 n.m) := hc 2 _ rfl; have c3 : w1.cell? ⟨bb, off + i * 8 + 3, none⟩ = some (.bool n.up) := hc 3 _ rfl; have c4 : w1.cell? ⟨bb, off + i * 8 + 4, none⟩ = some (.bool n.dr) := hc 4 _ rfl; have c5 : w1.cell? ⟨bb, off + i * 8 + 5, none⟩ = some (.int .i64 n.bo) := hc 5 _ rfl; have c6 : w1.cell? ⟨bb, off + i * 8 + 6, none⟩ = some (.int .i64 n.ep) := hc 6 _ rfl; have c7 : w1.cell? ⟨bb, off + i * 8 + 7, none⟩ = some (.int .i64 n.se) := hc 7 _ rfl; clear hc; rw [HUP.out] at c3; rw [HDR.out] at c4)
              | (go_at_call 19; refine (HU.out _ (Z1.out.b.alloc Z1.out.b.size _)).mono ?_; rintro e w2 ⟨rfl, hb⟩; have HB2 := hidOf ((Z1.out.b.alloc Z1.out.b.size _).trans (hb.mono (Z1.out.b.alloc Z1.out.b.size _).size)); have PM2 := hidOf ((pr_new w1 n.c n.m).grow hb); have Z2 := hidOf ((Z1.out.grow (below1 w1 _)).grow hb); clear hb a0 a1 la lw s0 s1 s2 s3 s4 s5 s6 s7 s8 c0 c1 c2 c3 c4 c5 c6 c7 hbl; have a0 : w2.cell? ⟨w.heap.size + 1, 0, none⟩ = some (.int .i64 a) := Z2.out.a 0 _ rfl; have a1 : w2.cell? ⟨w.heap.size + 1, 1, none⟩ = some (.int .i64 b) := Z2.out.a 1 _ rfl; have la : w.heap.size + 1 < w2.heap.size := Z2.out.l; have m0 : w2.cell? ⟨w1.heap.size, 0, none⟩ = _ := PM2.out.c0; have m1 : w2.cell? ⟨w1.heap.size, 1, none⟩ = _ := PM2.out.c1; have lm : w1.heap.size < w2.heap.size := PM2.out.lt)
              | (go_at_call 20; refine (HFT.out _).mono ?_; rintro e w3 ⟨rfl, hb⟩; have HB3 := hidOf ((HB2.out.alloc HB2.out.size _).trans (hb.mono (HB2.out.alloc HB2.out.size _).size)); have PW := hidOf ((pr_new w2 c m).grow hb); have PM := hidOf ((PM2.out.grow (below1 w2 _)).grow hb); have Z3 := hidOf ((Z2.out.grow (below1 w2 _)).grow hb); clear hb a0 a1 la lm m0 m1; have u0 : w3.cell? ⟨w2.heap.size, 0, none⟩ = _ := PW.out.c0; have u1 : w3.cell? ⟨w2.heap.size, 1, none⟩ = _ := PW.out.c1; have lu : w2.heap.size < w3.heap.size := PW.out.lt; have m0 : w3.cell? ⟨w1.heap.size, 0, none⟩ = _ := PM.out.c0; have m1 : w3.cell? ⟨w1.heap.size, 1, none⟩ = _ := PM.out.c1; have lm : w1.heap.size < w3.heap.size := PM.out.lt; have a0 : w3.cell? ⟨w.heap.size + 1, 0, none⟩ = some (.int .i64 a) := Z3.out.a 0 _ rfl; have a1 : w3.cell? ⟨w.heap.size + 1, 1, none⟩ = some (.int .i64 b) := Z3.out.a 1 _ rfl; have la : w.heap.size + 1 < w3.heap.size := Z3.out.l)
              | (go_at_call 21; refine (HLF.out _).mono ?_; rintro e w4 ⟨rfl, hb⟩; have HB4 := hidOf (HB3.out.trans (hb.mono HB3.out.size)); clear hb))
            go_ret
            rw [HQ.out]
            exact ⟨w4.heap.size, rfl, heap_alloc_new w4 _, HB4.out.alloc HB4.out.size _⟩
end Go.Proofs.Ytajfhknfknedmaa
