/- The code's Diff again, with the bound asked of the job alone that is looked at. -/
import Derived.Test.YtblofbdncolikaaTk
import Derived.Test.YtblofbdncolikaaZf
namespace Go.Proofs.Ytblofbdncolikaa
open Go.RowKit Go.Shelf
def oZo_0 : Oper := { dst := some 13, op := Op.load 29 (Operand.tmp 2), type := 29, pos := "diff.go:30", after := #[], guard := none }
def oZo_1 : Oper := { dst := some 14, op := Op.fieldAddr 29 (Operand.tmp 2) 2, type := 0, pos := "diff.go:30", after := #[], guard := none }
def oZo_2 : Oper := { dst := some 15, op := Op.load 22 (Operand.tmp 14), type := 22, pos := "diff.go:30", after := #[{ on := 1, ground := Ground.data }], guard := none }
def oZo_3 : Oper := { dst := some 16, op := Op.move (Operand.tmp 6), type := 3, pos := "diff.go:30", after := #[], guard := none }
def oZo_4 : Oper := { dst := some 17, op := Op.indexAddr 22 (Operand.tmp 15) (Operand.tmp 16), type := 0, pos := "diff.go:30", after := #[{ on := 2, ground := Ground.data }, { on := 3, ground := Ground.data }], guard := none }
def oZo_5 : Oper := { dst := some 18, op := Op.load 51 (Operand.tmp 17), type := 51, pos := "diff.go:30", after := #[{ on := 4, ground := Ground.data }], guard := none }
def oZo_6 : Oper := { dst := some 7, op := Op.assign (Operand.tmp 19), type := 85, pos := "diff.go:30", after := #[{ on := 6, ground := Ground.data }, { on := 6, ground := Ground.chain }, { on := 0, ground := Ground.phase }, { on := 1, ground := Ground.phase }, { on := 2, ground := Ground.phase }, { on := 3, ground := Ground.phase }, { on := 4, ground := Ground.phase }, { on := 5, ground := Ground.phase }, { on := 6, ground := Ground.phase }], guard := none }
def oZo_7 : Oper := { dst := some 32, op := Op.move (Operand.tmp 7), type := 85, pos := "diff.go:35", after := #[], guard := none }
def oZo_8 : Oper := { dst := some 33, op := Op.nilCheck (Operand.tmp 32), type := 0, pos := "diff.go:35", after := #[{ on := 0, ground := Ground.data }], guard := none }
def oZo_9 : Oper := { dst := some 34, op := Op.fieldAddr 93 (Operand.tmp 33) 5, type := 0, pos := "diff.go:35", after := #[{ on := 1, ground := Ground.data }], guard := none }
def oZo_10 : Oper := { dst := some 35, op := Op.load 33 (Operand.tmp 34), type := 33, pos := "diff.go:35", after := #[{ on := 2, ground := Ground.data }], guard := none }
def oZo_11 : Oper := { dst := some 36, op := Op.move (Operand.tmp 7), type := 85, pos := "diff.go:35", after := #[], guard := none }
def oZo_12 : Oper := { dst := some 4, op := Op.assign (Operand.tmp 35), type := 33, pos := "diff.go:35", after := #[{ on := 3, ground := Ground.data }, { on := 5, ground := Ground.chain }, { on := 0, ground := Ground.phase }, { on := 1, ground := Ground.phase }, { on := 2, ground := Ground.phase }, { on := 3, ground := Ground.phase }, { on := 4, ground := Ground.textOnly Departure.lateStores }, { on := 5, ground := Ground.textOnly Departure.lateStoresUnsure }], guard := none }
def oZo_13 : Oper := { dst := some 5, op := Op.assign (Operand.tmp 37), type := 56, pos := "diff.go:35", after := #[{ on := 5, ground := Ground.data }, { on := 6, ground := Ground.chain }, { on := 0, ground := Ground.phase }, { on := 1, ground := Ground.phase }, { on := 2, ground := Ground.phase }, { on := 3, ground := Ground.phase }, { on := 4, ground := Ground.phase }, { on := 5, ground := Ground.phase }, { on := 6, ground := Ground.phase }], guard := none }
attribute [local go_sem] Oper.semAt_some
set_option maxRecDepth 100000 in
set_option maxHeartbeats 8000000 in
theorem diff_any2 (s : Sc) (id : Int) (J : List Js) (Lj : List Jb) (Ln : List Nd) (A : List Al) (w : World) (hn2 : s.n2 = J.length) (hn4 : s.n4 = Ln.length) (hn5 : s.n5 = A.length) (hJ : JbR w (fun b => b < w.heap.size) s.a2 J Lj) (hN : Fl w (fun b => b < w.heap.size) 8 56 Nd.cs s.a4 Ln) (hA : Fl w (fun b => b < w.heap.size) 11 88 Al.cs s.a5 A) (hsl0 : ¬ dfI Lj id < 0 → (slV (dfJ Lj id) Ln).length * 16 ≤ 140737488355328) :
  Calls Try.prog 17 #[.agg #[.int .i64 s.ix, .int .i64 s.nx, .slice s.a2 s.n2 s.c2, .slice s.a3 s.n3 s.c3, .slice s.a4 s.n4 s.c4, .slice s.a5 s.n5 s.c5, .slice s.a6 s.n6 s.c6, .slice s.a7 s.n7 s.c7, .slice s.a8 s.n8 s.c8], .int .i64 id] w fun e w' => ∃ a c b k, e = .returned (.tuple #[.slice a (dfS Lj Ln A id).length c, .slice b (dfF Lj Ln A id).length k]) ∧ w'.ownsRow w.heap.size 3 1 (.slice a (dfS Lj Ln A id).length c) (dfS Lj Ln A id).length (fl iC (dfS Lj Ln A id)) ∧ w'.ownsRow w.heap.size 60 2 (.slice b (dfF Lj Ln A id).length k) (dfF Lj Ln A id).length (fl sC (dfF Lj Ln A id)) ∧ Below w.heap.size w w' := by
 obtain ⟨ix, nx, a2, n2, c2, a3, n3, c3, a4, n4, c4, a5, n5, c5, a6, n6, c6, a7, n7, c7, a8, n8, c8⟩ := s
 simp only at hn2 hn4 hn5 hJ hN hA
 subst hn2 hn4 hn5
 have hbd2 := hJ.row.bd
 have hbdA := hA.bd
 have hFI : dfI Lj id = fi (fun x : Js => isI x.id id) J := (hJ.fi id).symm
 have hBW := below1 w (.cells #[.int .i64 ix, .int .i64 nx, .slice a2 J.length c2, .slice a3 n3 c3, .slice a4 Ln.length c4, .slice a5 A.length c5, .slice a6 n6 c6, .slice a7 n7 c7, .slice a8 n8 c8] 29)
 have HJB := hidOf (job_any ⟨ix, nx, a2, J.length, c2, a3, n3, c3, a4, Ln.length, c4, a5, A.length, c5, a6, n6, c6, a7, n7, c7, a8, n8, c8⟩ id J (w.alloc (.cells #[.int .i64 ix, .int .i64 nx, .slice a2 J.length c2, .slice a3 n3 c3, .slice a4 Ln.length c4, .slice a5 A.length c5, .slice a6 n6 c6, .slice a7 n7 c7, .slice a8 n8 c8] 29)) rfl (hJ.row.kept (fun b hb => hBW.block b hb) (fun b hb => Nat.lt_of_lt_of_le hb hBW.size)))
 rw [← hFI] at HJB
 have hbx := box_new (wr := w) (cs := [.int .i64 ix, .int .i64 nx, .slice a2 J.length c2, .slice a3 n3 c3, .slice a4 Ln.length c4, .slice a5 A.length c5, .slice a6 n6 c6, .slice a7 n7 c7, .slice a8 n8 c8]) (t := 29) (Below.refl _ _)
 have HBX := hidOf hbx
 have HJ := hidOf hJ
 have HN := hidOf hN
 have HA := hidOf hA
 have HBW := hidOf hBW
 have hrng := fi_rng (fun x : Jb => isI x.id id) Lj
 have hrng : dfI Lj id = -1 ∨ ∃ m : Nat, dfI Lj id = (m : Int) ∧ m < Lj.length := hrng
 clear hJ hN hA hBW hbx hFI
 rcases hrng with hi | ⟨m, hi, hm⟩
 ·have HS : Hid (dfS Lj Ln A id = []) := hidOf (by unfold dfS; rw [if_pos (by omega)])
  have HF : Hid (dfF Lj Ln A id = []) := hidOf (by unfold dfF; rw [if_pos (by omega)])
  rw [hi] at HJB
  rw [HS.out, HF.out]
  clear hi HS HF
  go_enter Try.func17, Try.ntmps17
  go_wp2_with (go_at_call 15; refine HJB.out.mono ?_; rintro e w1 ⟨rfl, hb1⟩; have HB1 := hidOf (HBW.out.trans (hb1.mono HBW.out.size)); clear hb1)
  go_ret2
  exact ⟨none, 0, none, 0, rfl, ⟨rfl, .inl ⟨rfl, rfl⟩⟩, ⟨rfl, .inl ⟨rfl, rfl⟩⟩, HB1.out⟩
 ·obtain ⟨d, hd⟩ : ∃ d, Lj[m] = d := ⟨_, rfl⟩
  have hdj : dfJ Lj id = d := by unfold dfJ; rw [hi, Int.toNat_natCast, getD_at Lj m hm, hd]
  have HS : Hid (dfS Lj Ln A id = (diT d Ln A).map (idA A)) := hidOf (by unfold dfS; rw [if_neg (by omega), hdj])
  have HF : Hid (dfF Lj Ln A id = emV d A (slV d Ln)) := hidOf (by unfold dfF; rw [if_neg (by omega), hdj])
  have hsl : (slV d Ln).length * 16 ≤ 140737488355328 := by have h := hsl0 (by omega); rw [hdj] at h; exact h
  rw [hi] at HJB
  rw [HS.out, HF.out]
  have hmJ : m < J.length := by rw [HJ.out.len]; exact hm
  obtain ⟨ga, gc, heq, hG⟩ := HJ.out.dp m hmJ hm
  rw [hd] at heq hG
  obtain ⟨b, off, ha, hQb, hcc⟩ := HJ.out.row.at m hmJ
  rw [heq] at hcc
  have hbw : b < w.heap.size := hQb
  have HG := hidOf hG
  have HCC := hidOf hcc
  subst ha
  have hk0 : ¬ ((m : Int) < 0) := by omega
  have hk1 : (m : Int) < (J.length : Int) := by omega
  have hk2 : decide ((m : Int) < 0) = false := by simp
  clear hi hd hdj hsl0 heq hG hcc hQb HS HF
  go_enter Try.func17, Try.ntmps17
  go_upto_region 4 with (go_at_call 15; refine HJB.out.mono ?_; rintro e w1 ⟨rfl, hb1⟩; have HB1 := hidOf (HBW.out.trans (hb1.mono HBW.out.size)); have HX1 := hidOf (range_of HBX.out (hb1.block w.heap.size (by simp))); clear hb1)
  have lS0 : w.heap.size < w1.heap.size := lt_of_cell (HX1.out 0 _ rfl)
  obtain ⟨BS, hBS⟩ : ∃ BS, w.heap.size = BS := ⟨_, rfl⟩
  have HBL0 := hidOf hBS
  have HX1' : Hid (w1.rangeAt BS 0 [.int .i64 ix, .int .i64 nx, .slice (some ⟨b, off, none⟩) J.length c2, .slice a3 n3 c3, .slice a4 Ln.length c4, .slice a5 A.length c5, .slice a6 n6 c6, .slice a7 n7 c7, .slice a8 n8 c8]) := hidOf (by rw [← hBS]; exact HX1.out)
  have lS : BS < w1.heap.size := by rw [← hBS]; exact lS0
  rw [hBS]
  clear hBS lS0 HX1
  have q0 : w1.cell? ⟨BS, 0, none⟩ = some (.int .i64 ix) := HX1'.out 0 _ rfl
  have q1 : w1.cell? ⟨BS, 1, none⟩ = some (.int .i64 nx) := HX1'.out 1 _ rfl
  have q2 : w1.cell? ⟨BS, 2, none⟩ = some (.slice (some ⟨b, off, none⟩) J.length c2) := HX1'.out 2 _ rfl
  have q3 : w1.cell? ⟨BS, 3, none⟩ = some (.slice a3 n3 c3) := HX1'.out 3 _ rfl
  have q4 : w1.cell? ⟨BS, 4, none⟩ = some (.slice a4 Ln.length c4) := HX1'.out 4 _ rfl
  have q5 : w1.cell? ⟨BS, 5, none⟩ = some (.slice a5 A.length c5) := HX1'.out 5 _ rfl
  have q6 : w1.cell? ⟨BS, 6, none⟩ = some (.slice a6 n6 c6) := HX1'.out 6 _ rfl
  have q7 : w1.cell? ⟨BS, 7, none⟩ = some (.slice a7 n7 c7) := HX1'.out 7 _ rfl
  have q8 : w1.cell? ⟨BS, 8, none⟩ = some (.slice a8 n8 c8) := HX1'.out 8 _ rfl
  have lb1 : b < w1.heap.size := Nat.lt_of_lt_of_le hbw HB1.out.size
  have hcr := range_of HCC.out (HB1.out.block b hbw)
  have j0 : w1.cell? ⟨b, off + m * 7, none⟩ = some (.int .i64 d.id) := hcr 0 _ rfl
  have j1 : w1.cell? ⟨b, off + m * 7 + 1, none⟩ = some (.int .i64 d.ty) := hcr 1 _ rfl
  have j2 : w1.cell? ⟨b, off + m * 7 + 2, none⟩ = some (.int .i64 d.pr) := hcr 2 _ rfl
  have j3 : w1.cell? ⟨b, off + m * 7 + 3, none⟩ = some (.int .i64 d.pa) := hcr 3 _ rfl
  have j4 : w1.cell? ⟨b, off + m * 7 + 4, none⟩ = some (.slice ga d.gs.length gc) := hcr 4 _ rfl
  have j5 : w1.cell? ⟨b, off + m * 7 + 5, none⟩ = some (.int .i64 d.ve) := hcr 5 _ rfl
  have j6 : w1.cell? ⟨b, off + m * 7 + 6, none⟩ = some (.bool d.sd) := hcr 6 _ rfl
  have hB1D : Below w.heap.size w w1.drew := HB1.out.trans ((bdrew w1).mono HB1.out.size)
  have HLA := hidOf (lookAt_any ⟨ix, nx, some ⟨b, off, none⟩, J.length, c2, a3, n3, c3, a4, Ln.length, c4, a5, A.length, c5, a6, n6, c6, a7, n7, c7, a8, n8, c8⟩ d ga gc Ln A w1.drew (HG.out.kept (fun k hk => hB1D.block k hk) (fun k hk => Nat.lt_of_lt_of_le hk hB1D.size)) (HN.out.kept (fun k hk => hB1D.block k hk) (fun k hk => Nat.lt_of_lt_of_le hk hB1D.size)) (HA.out.kept (fun k hk => hB1D.block k hk) (fun k hk => Nat.lt_of_lt_of_le hk hB1D.size)))
  have HB1D := hidOf hB1D
  clear hcr hB1D
  refine wp_region_held_drew (S := fun (Y : World) => Y.cell? ⟨BS, 0, none⟩ = some (.int .i64 ix) ∧ Y.cell? ⟨BS, 1, none⟩ = some (.int .i64 nx) ∧ Y.cell? ⟨BS, 2, none⟩ = some (.slice (some ⟨b, off, none⟩) J.length c2) ∧ Y.cell? ⟨BS, 3, none⟩ = some (.slice a3 n3 c3) ∧ Y.cell? ⟨BS, 4, none⟩ = some (.slice a4 Ln.length c4) ∧ Y.cell? ⟨BS, 5, none⟩ = some (.slice a5 A.length c5) ∧ Y.cell? ⟨BS, 6, none⟩ = some (.slice a6 n6 c6) ∧ Y.cell? ⟨BS, 7, none⟩ = some (.slice a7 n7 c7) ∧ Y.cell? ⟨BS, 8, none⟩ = some (.slice a8 n8 c8) ∧ Y.cell? ⟨b, off + m * 7, none⟩ = some (.int .i64 d.id) ∧ Y.cell? ⟨b, off + m * 7 + 1, none⟩ = some (.int .i64 d.ty) ∧ Y.cell? ⟨b, off + m * 7 + 2, none⟩ = some (.int .i64 d.pr) ∧ Y.cell? ⟨b, off + m * 7 + 3, none⟩ = some (.int .i64 d.pa) ∧ Y.cell? ⟨b, off + m * 7 + 4, none⟩ = some (.slice ga d.gs.length gc) ∧ Y.cell? ⟨b, off + m * 7 + 5, none⟩ = some (.int .i64 d.ve) ∧ Y.cell? ⟨b, off + m * 7 + 6, none⟩ = some (.bool d.sd)) (by kernel_rfl) ⟨q0, q1, q2, q3, q4, q5, q6, q7, q8, j0, j1, j2, j3, j4, j5, j6⟩ (fun hHeld => ?_)
  refine tkH 0 oZo_0 13 (.agg #[.int .i64 ix, .int .i64 nx, .slice (some ⟨b, off, none⟩) J.length c2, .slice a3 n3 c3, .slice a4 Ln.length c4, .slice a5 A.length c5, .slice a6 n6 c6, .slice a7 n7 c7, .slice a8 n8 c8]) hHeld (by intro w hS; dsimp only [oZo_0] at hS ⊢; go_simp) ?_
  try simp only [pA, pC, pD]
  refine tkH 1 oZo_1 14 (.pointer (some ⟨BS, 2, none⟩)) hHeld (by intro w hS; dsimp only [oZo_1] at hS ⊢; go_simp) ?_
  try simp only [pA, pC, pD]
  refine tkH 2 oZo_2 15 (.slice (some ⟨b, off, none⟩) J.length c2) hHeld (by intro w hS; dsimp only [oZo_2] at hS ⊢; go_simp) ?_
  try simp only [pA, pC, pD]
  refine tkH 3 oZo_3 16 (.int .i64 (m : Int)) hHeld (by intro w hS; dsimp only [oZo_3] at hS ⊢; go_simp) ?_
  try simp only [pA, pC, pD]
  refine tkH 4 oZo_4 17 (.pointer (some ⟨b, off + m * 7, none⟩)) hHeld (by intro w hS; dsimp only [oZo_4] at hS ⊢; go_simp) ?_
  try simp only [pA, pC, pD]
  refine tkH 5 oZo_5 18 (.agg #[.int .i64 d.id, .int .i64 d.ty, .int .i64 d.pr, .int .i64 d.pa, .slice ga d.gs.length gc, .int .i64 d.ve, .bool d.sd]) hHeld (by intro w hS; dsimp only [oZo_5] at hS ⊢; go_simp) ?_
  try simp only [pA, pC, pD]
  refine wpAnyH_ready (rs := [6]) (by kernel_rfl) (by simp) ?_
  refine AllReadyH.cons (o := { dst := some 19, op := Op.call { callee := Callee.value (Operand.func 33), args := #[Operand.tmp 13, Operand.tmp 18], argTypes := #[29, 51] }, type := 85, pos := "diff.go:30", after := #[{ on := 0, ground := Ground.data }, { on := 5, ground := Ground.data }], guard := none }) rfl (fun K hK => ?_) AllReadyH.nil
  go_simp
  refine HLA.out.mono ?_
  rintro e w3 ⟨p, hb, sb, lb, rfl, hL3, hI3, hB3, hp3, hs3⟩
  have HL3 := hidOf hL3
  have HI3 := hidOf hI3
  have HB3 := hidOf hB3
  have HP3 := hidOf (And.intro hp3 hs3)
  have hDB := (bdrew w1).trans (HB3.out.mono (bdrew w1).size)
  clear hL3 hI3 hB3 hp3 hs3
  refine hK.out _ _ ⟨(hb_cell hDB lS).trans q0, (hb_cell hDB lS).trans q1, (hb_cell hDB lS).trans q2, (hb_cell hDB lS).trans q3, (hb_cell hDB lS).trans q4, (hb_cell hDB lS).trans q5, (hb_cell hDB lS).trans q6, (hb_cell hDB lS).trans q7, (hb_cell hDB lS).trans q8, (hb_cell hDB lb1).trans j0, (hb_cell hDB lb1).trans j1, (hb_cell hDB lb1).trans j2, (hb_cell hDB lb1).trans j3, (hb_cell hDB lb1).trans j4, (hb_cell hDB lb1).trans j5, (hb_cell hDB lb1).trans j6⟩ (fun hHeld1 => ?_)
  clear hK K
  try simp only [Act.put, List.setIfInBounds_toArray, List.set_cons_zero, List.set_cons_succ]
  refine tkH 7 oZo_6 7 (.pointer (some ⟨p, 0, none⟩)) hHeld1 (by intro w hS; dsimp only [oZo_6] at hS ⊢; go_simp) ?_
  try simp only [pA, pC, pD]
  refine wpAnyH_done (by kernel_rfl) ?_ _
  obtain ⟨hp3, hs3⟩ := HP3.out
  have hz1 : w1.drew.heap.size = w1.heap.size := rfl
  have HW3 := hidOf (HB1D.out.trans (HB3.out.mono HB1D.out.size))
  have hsz3 : w.heap.size ≤ p ∧ w.heap.size ≤ sb := by have := HB1.out.size; omega
  have k4 := (hb_cell hDB (o := 4) lS).trans q4
  have lS3 : BS < w3.heap.size := lt_of_cell k4
  have HSU := hidOf (stopU_any HL3.out Ln a4 c4 (HN.out.kept (fun k hk => HW3.out.block k hk) (fun k hk => Nat.lt_of_lt_of_le hk HW3.out.size)))
  clear q0 q1 q2 q3 q4 q5 q6 q7 q8 j0 j1 j2 j3 j4 j5 j6 hDB hp3 hs3 hz1
  have hn3 := HL3.out.ne
  go_upto_region 6 with (go_at_call 34; refine HSU.out.mono ?_; rintro e w4 ⟨rfl, ia, ic, hL4, hF4⟩; have HL4 := hidOf hL4; have HF4 := hidOf hF4; clear hL4 hF4)
  have HI4 := hidOf (HI3.out.keep (fun k hk h1 h2 => HF4.out.same k hk (HL3.out.lo_out hk h1 h2)) HF4.out.size)
  have hlo3 : ∀ k, k < w.heap.size → ¬ LO p sb none k := fun k hk hh => by
   rcases hh with e | e | e
   ·omega
   ·omega
   ·cases e
  have HW4 := hidOf (HW3.out.trans (HF4.out.below (by have := HW3.out.size; omega) hlo3))
  have l1 : w4.cell? ⟨p, 1, none⟩ = some (.int .i64 d.ty) := HL4.out.rg 1 _ rfl
  have lp4 : p < w4.heap.size := heap_lt HL4.out.ce
  have HBL : Hid (w.heap.size ≤ w3.heap.size) := hidOf HW3.out.size
  by_cases hty : d.ty = 1
  ·have hq : (d.ty == 1) = true := by simp [hty]
   have hdt := diT_y d Ln A hty
   have HRO := hidOf (roll_any HL4.out HI4.out (by have := suK_le d Ln (slV d Ln) A; omega))
   clear hty
   obtain ⟨T, hT⟩ : ∃ T, (rlV d A (suK d Ln (slV d Ln) A A.length, (mvN d A (suK d Ln (slV d Ln) A A.length) (slV d Ln) : Int)) (slV d Ln)).1 = T := ⟨_, rfl⟩
   rw [hT] at HRO hdt
   have HDT := hidOf hdt
   clear hT hdt
   go_upto_region 8 with (go_at_call 35; refine HRO.out.mono ?_; rintro e w5 ⟨rfl, ia5, ic5, hL5, hF5⟩; have HL5 := hidOf hL5; have HF5 := hidOf hF5; clear hL5 hF5)
   have HI5 := hidOf (HI4.out.keep (fun k hk h1 h2 => HF5.out.same k (by have := HL4.out.ne; omega) (HL4.out.lo_out hk h1 h2)) HF5.out.size)
   have hlo4 : ∀ k, k < w.heap.size → ¬ LO p sb ia k := fun k hk hh => by
    rcases hh with e | e | e
    ·omega
    ·omega
    ·have := (own_blk2 HL4.out.ro k (ob_slice' e)).1; have := HBL.out; omega
   have HB5 := hidOf (HW4.out.trans (HF5.out.below HW4.out.size hlo4))
   clear l1
   have HEM := hidOf (empty_any (HL5.out.bel (bdrew w5)) (HI5.out.keep (w' := w5.drew) (fun _ _ _ _ => rfl) (Nat.le_refl _)) hsl)
   refine wp_region_held_drew (S := fun (Y : World) => Y.cell? ⟨p, 11, none⟩ = some (.slice ia5 T.length ic5)) (by kernel_rfl) (HL5.out.rg 11 _ rfl) (fun hHeld => ?_)
   refine tkH 0 oZo_7 32 (.pointer (some ⟨p, 0, none⟩)) hHeld (by intro w hS; dsimp only [oZo_7] at hS ⊢; go_simp) ?_
   try simp only [pA, pC, pD]
   refine tkH 1 oZo_8 33 (.pointer (some ⟨p, 0, none⟩)) hHeld (by intro w hS; dsimp only [oZo_8] at hS ⊢; go_simp) ?_
   try simp only [pA, pC, pD]
   refine tkH 2 oZo_9 34 (.pointer (some ⟨p, 11, none⟩)) hHeld (by intro w hS; dsimp only [oZo_9] at hS ⊢; go_simp) ?_
   try simp only [pA, pC, pD]
   refine tkH 3 oZo_10 35 (.slice ia5 T.length ic5) hHeld (by intro w hS; dsimp only [oZo_10] at hS ⊢; go_simp) ?_
   try simp only [pA, pC, pD]
   refine tkH 4 oZo_11 36 (.pointer (some ⟨p, 0, none⟩)) hHeld (by intro w hS; dsimp only [oZo_11] at hS ⊢; go_simp) ?_
   try simp only [pA, pC, pD]
   refine wpAnyH_ready (rs := [5]) (by kernel_rfl) (by simp) ?_
   refine AllReadyH.cons (o := { dst := some 37, op := Op.call { callee := Callee.value (Operand.func 36), args := #[Operand.tmp 36], argTypes := #[85] }, type := 56, pos := "diff.go:35", after := #[{ on := 4, ground := Ground.data }], guard := none }) rfl (fun K hK => ?_) AllReadyH.nil
   go_simp
   refine HEM.out.mono ?_
   rintro e w6 ⟨b6, c6, rfl, ho6, hb6⟩
   have HO6 := hidOf ho6
   have HB6 := hidOf ((bdrew w5).trans (hb6.mono (bdrew w5).size))
   clear ho6 hb6
   refine hK.out _ _ ((HL5.out.bel HB6.out).rg 11 _ rfl) (fun hHeld1 => ?_)
   clear hK K
   try simp only [Act.put, List.setIfInBounds_toArray, List.set_cons_zero, List.set_cons_succ]
   refine tkH 6 oZo_12 4 (.slice ia5 T.length ic5) hHeld1 (by intro w hS; dsimp only [oZo_12] at hS ⊢; go_simp) ?_
   try simp only [pA, pC, pD]
   refine tkH 7 oZo_13 5 (.slice b6 (emV d A (slV d Ln)).length c6) hHeld1 (by intro w hS; dsimp only [oZo_13] at hS ⊢; go_simp) ?_
   try simp only [pA, pC, pD]
   refine wpAnyH_done (by kernel_rfl) ?_ _
   go_wp2
   go_ret2
   refine ⟨ia5, ic5, b6, c6, ?_, ?_, ?_, ?_⟩
   ·rw [HDT.out, List.length_map]; rfl
   ·rw [HDT.out, List.length_map]
    exact own_mono (own_kept HL5.out.ro (fun k _ hk => HB6.out.block k hk)) HBL.out
   ·exact own_mono HO6.out HB5.out.size
   ·exact HB5.out.trans (HB6.out.mono HB5.out.size)
  ·have hq : (d.ty == 1) = false := by simp [hty]
   have hdt := diT_n d Ln A hty
   clear hty
   go_upto_region 8 with (fail)
   obtain ⟨T, hT⟩ : ∃ T, suK d Ln (slV d Ln) A A.length = T := ⟨_, rfl⟩
   rw [hT] at HL4 hdt
   have HDT := hidOf hdt
   clear hT hdt l1
   have HL5 := HL4
   have HI5 := HI4
   have HB5 := HW4
   have HEM := hidOf (empty_any (HL5.out.bel (bdrew w4)) (HI5.out.keep (w' := w4.drew) (fun _ _ _ _ => rfl) (Nat.le_refl _)) hsl)
   refine wp_region_held_drew (S := fun (Y : World) => Y.cell? ⟨p, 11, none⟩ = some (.slice ia T.length ic)) (by kernel_rfl) (HL5.out.rg 11 _ rfl) (fun hHeld => ?_)
   refine tkH 0 oZo_7 32 (.pointer (some ⟨p, 0, none⟩)) hHeld (by intro w hS; dsimp only [oZo_7] at hS ⊢; go_simp) ?_
   try simp only [pA, pC, pD]
   refine tkH 1 oZo_8 33 (.pointer (some ⟨p, 0, none⟩)) hHeld (by intro w hS; dsimp only [oZo_8] at hS ⊢; go_simp) ?_
   try simp only [pA, pC, pD]
   refine tkH 2 oZo_9 34 (.pointer (some ⟨p, 11, none⟩)) hHeld (by intro w hS; dsimp only [oZo_9] at hS ⊢; go_simp) ?_
   try simp only [pA, pC, pD]
   refine tkH 3 oZo_10 35 (.slice ia T.length ic) hHeld (by intro w hS; dsimp only [oZo_10] at hS ⊢; go_simp) ?_
   try simp only [pA, pC, pD]
   refine tkH 4 oZo_11 36 (.pointer (some ⟨p, 0, none⟩)) hHeld (by intro w hS; dsimp only [oZo_11] at hS ⊢; go_simp) ?_
   try simp only [pA, pC, pD]
   refine wpAnyH_ready (rs := [5]) (by kernel_rfl) (by simp) ?_
   refine AllReadyH.cons (o := { dst := some 37, op := Op.call { callee := Callee.value (Operand.func 36), args := #[Operand.tmp 36], argTypes := #[85] }, type := 56, pos := "diff.go:35", after := #[{ on := 4, ground := Ground.data }], guard := none }) rfl (fun K hK => ?_) AllReadyH.nil
   go_simp
   refine HEM.out.mono ?_
   rintro e w6 ⟨b6, c6, rfl, ho6, hb6⟩
   have HO6 := hidOf ho6
   have HB6 := hidOf ((bdrew w4).trans (hb6.mono (bdrew w4).size))
   clear ho6 hb6
   refine hK.out _ _ ((HL5.out.bel HB6.out).rg 11 _ rfl) (fun hHeld1 => ?_)
   clear hK K
   try simp only [Act.put, List.setIfInBounds_toArray, List.set_cons_zero, List.set_cons_succ]
   refine tkH 6 oZo_12 4 (.slice ia T.length ic) hHeld1 (by intro w hS; dsimp only [oZo_12] at hS ⊢; go_simp) ?_
   try simp only [pA, pC, pD]
   refine tkH 7 oZo_13 5 (.slice b6 (emV d A (slV d Ln)).length c6) hHeld1 (by intro w hS; dsimp only [oZo_13] at hS ⊢; go_simp) ?_
   try simp only [pA, pC, pD]
   refine wpAnyH_done (by kernel_rfl) ?_ _
   go_wp2
   go_ret2
   refine ⟨ia, ic, b6, c6, ?_, ?_, ?_, ?_⟩
   ·rw [HDT.out, List.length_map]; rfl
   ·rw [HDT.out, List.length_map]
    exact own_mono (own_kept HL5.out.ro (fun k _ hk => HB6.out.block k hk)) HBL.out
   ·exact own_mono HO6.out HB5.out.size
   ·exact HB5.out.trans (HB6.out.mono HB5.out.size)
end Go.Proofs.Ytblofbdncolikaa
