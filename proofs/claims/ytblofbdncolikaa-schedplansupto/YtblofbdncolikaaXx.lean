/- In which slots a job is done: the code's done. -/
import Derived.Test.YtblofbdncolikaaTk
import Derived.Test.YtblofbdncolikaaXw
namespace Go.Proofs.Ytblofbdncolikaa
open Go.RowKit Go.Shelf
def oXx_0 : Oper := { dst := some 23, op := Op.fieldAddr 42 (Operand.tmp 5) 1, type := 0, pos := "diff.go:143", after := #[], guard := none }
def oXx_1 : Oper := { dst := some 24, op := Op.load 3 (Operand.tmp 23), type := 3, pos := "diff.go:143", after := #[{ on := 0, ground := Ground.data }], guard := none }
def oXx_2 : Oper := { dst := some 25, op := Op.move (Operand.tmp 0), type := 85, pos := "diff.go:143", after := #[], guard := none }
def oXx_3 : Oper := { dst := some 26, op := Op.nilCheck (Operand.tmp 25), type := 0, pos := "diff.go:143", after := #[{ on := 2, ground := Ground.data }], guard := none }
def oXx_4 : Oper := { dst := some 27, op := Op.fieldAddr 93 (Operand.tmp 26) 0, type := 0, pos := "diff.go:143", after := #[{ on := 3, ground := Ground.data }], guard := none }
def oXx_5 : Oper := { dst := some 28, op := Op.fieldAddr 51 (Operand.tmp 27) 0, type := 0, pos := "diff.go:143", after := #[{ on := 4, ground := Ground.data }], guard := none }
def oXx_6 : Oper := { dst := some 29, op := Op.load 3 (Operand.tmp 28), type := 3, pos := "diff.go:143", after := #[{ on := 5, ground := Ground.data }], guard := none }
def oXx_7 : Oper := { dst := some 30, op := Op.binOp BinOp.eql 3 (Operand.tmp 24) (Operand.tmp 29) 3, type := 4, pos := "diff.go:143", after := #[{ on := 1, ground := Ground.data }, { on := 6, ground := Ground.data }], guard := none }
def oXx_8 : Oper := { dst := some 31, op := Op.move (Operand.tmp 30), type := 4, pos := "diff.go:143", after := #[{ on := 7, ground := Ground.data }], guard := none }
def oXx_9 : Oper := { dst := some 32, op := Op.fieldAddr 42 (Operand.tmp 5) 2, type := 0, pos := "diff.go:143", after := #[{ on := 8, ground := Ground.guard }], guard := some (8, true) }
def oXx_10 : Oper := { dst := some 33, op := Op.load 3 (Operand.tmp 32), type := 3, pos := "diff.go:143", after := #[{ on := 9, ground := Ground.data }, { on := 8, ground := Ground.guard }], guard := some (8, true) }
def oXx_11 : Oper := { dst := some 34, op := Op.move (Operand.tmp 0), type := 85, pos := "diff.go:143", after := #[{ on := 8, ground := Ground.guard }], guard := some (8, true) }
def oXx_12 : Oper := { dst := some 35, op := Op.nilCheck (Operand.tmp 34), type := 0, pos := "diff.go:143", after := #[{ on := 11, ground := Ground.data }, { on := 8, ground := Ground.guard }], guard := some (8, true) }
def oXx_13 : Oper := { dst := some 36, op := Op.fieldAddr 93 (Operand.tmp 35) 0, type := 0, pos := "diff.go:143", after := #[{ on := 12, ground := Ground.data }, { on := 8, ground := Ground.guard }], guard := some (8, true) }
def oXx_14 : Oper := { dst := some 37, op := Op.fieldAddr 51 (Operand.tmp 36) 5, type := 0, pos := "diff.go:143", after := #[{ on := 13, ground := Ground.data }, { on := 8, ground := Ground.guard }], guard := some (8, true) }
def oXx_15 : Oper := { dst := some 38, op := Op.load 3 (Operand.tmp 37), type := 3, pos := "diff.go:143", after := #[{ on := 14, ground := Ground.data }, { on := 8, ground := Ground.guard }], guard := some (8, true) }
def oXx_16 : Oper := { dst := some 39, op := Op.binOp BinOp.eql 3 (Operand.tmp 33) (Operand.tmp 38) 3, type := 4, pos := "diff.go:143", after := #[{ on := 10, ground := Ground.data }, { on := 15, ground := Ground.data }, { on := 8, ground := Ground.guard }], guard := some (8, true) }
def oXx_17 : Oper := { dst := some 40, op := Op.pick (Operand.tmp 31) (Operand.tmp 39) (Operand.const (Value.bool false)), type := 4, pos := "diff.go:143", after := #[{ on := 8, ground := Ground.data }, { on := 16, ground := Ground.data }], guard := none }
def oXx_18 : Oper := { dst := some 41, op := Op.move (Operand.tmp 40), type := 4, pos := "diff.go:143", after := #[{ on := 17, ground := Ground.data }, { on := 8, ground := Ground.chain }], guard := none }
def oXx_19 : Oper := { dst := some 42, op := Op.fieldAddr 42 (Operand.tmp 5) 9, type := 0, pos := "diff.go:143", after := #[{ on := 18, ground := Ground.guard }], guard := some (18, true) }
def oXx_20 : Oper := { dst := some 43, op := Op.load 3 (Operand.tmp 42), type := 3, pos := "diff.go:143", after := #[{ on := 19, ground := Ground.data }, { on := 18, ground := Ground.guard }], guard := some (18, true) }
def oXx_21 : Oper := { dst := some 44, op := Op.binOp BinOp.eql 3 (Operand.tmp 43) (Operand.const (Value.int IntKind.i64 3)) 3, type := 4, pos := "diff.go:143", after := #[{ on := 20, ground := Ground.data }, { on := 18, ground := Ground.guard }], guard := some (18, true) }
def oXx_22 : Oper := { dst := some 45, op := Op.pick (Operand.tmp 41) (Operand.tmp 44) (Operand.const (Value.bool false)), type := 4, pos := "diff.go:143", after := #[{ on := 18, ground := Ground.data }, { on := 21, ground := Ground.data }], guard := none }
def unP (D : List (Int × Int)) (j : Int × Int) : Option Value := if j ∈ D then some (.agg #[]) else none
theorem unP_snoc (D : List (Int × Int)) (z : Int × Int) : (fun j => if j = z then some (.agg #[]) else unP D j) = unP (D ++ [z]) := by
 funext j
 unfold unP
 by_cases h : j = z
 ·simp [h]
 ·by_cases h2 : j ∈ D <;> simp [h, h2]
theorem unP_look {w : World} {b : Nat} {D : List (Int × Int)} (h : MpR w b kS (unP D)) (g i : Int) : (Instr.lookup 113 (.map (some b)) (.agg #[.int .i64 g, .int .i64 i]) true).run Try.prog w = .ok (.tuple #[.agg #[], .bool (decide ((g, i) ∈ D))]) w := by
 have := h.look kyS Try.underlying113 (Try.zeroValue115 w) (g, i) true
 rw [if_pos rfl] at this
 refine this.trans ?_
 unfold unP
 by_cases h : (g, i) ∈ D <;> simp [h]
def dnK (d : Jb) (A : List Al) : Nat → List (Int × Int)
 | 0 => []
 | k + 1 => if (A[k]?.getD default).jb = d.id ∧ (A[k]?.getD default).ve = d.ve ∧ (A[k]?.getD default).st = 3 then dnK d A k ++ [((A[k]?.getD default).gr, (A[k]?.getD default).ix)] else dnK d A k
def dnV (d : Jb) (A : List Al) : List (Int × Int) := if d.ty = 2 then dnK d A A.length else []
theorem dnK_at (d : Jb) (A : List Al) (k : Nat) (D : List (Int × Int)) (hD : D = dnK d A k) (h : k < A.length) (x : Al) (hx : A[k] = x) : dnK d A (k + 1) = if x.jb = d.id ∧ x.ve = d.ve ∧ x.st = 3 then D ++ [(x.gr, x.ix)] else D := by
 rw [dnK, ← hD, getD_at A k h, hx]
set_option maxRecDepth 100000 in
set_option maxHeartbeats 4000000 in
theorem done_any (p : Nat) (d : Jb) (ga : Option Addr) (gc : Nat) (lb : Array Value) (aa : Option Addr) (ac : Nat) (A : List Al) (ho st : Option Nat) (ia : Option Addr) (il ic : Nat) (w : World)
  (hp : w.rangeAt p 0 (lkC d ga gc lb aa A.length ac ho st ia il ic)) (lp : p < w.heap.size) (hA : Fl w (fun b => b < w.heap.size) 11 88 Al.cs aa A) :
  Calls Try.prog 53 #[.pointer (some ⟨p, 0, none⟩)] w fun e w' => e = .returned (.map (some w.heap.size)) ∧ MpR w' w.heap.size kS (unP (dnV d A)) ∧ Below w.heap.size w w' := by
 have hbd := hA.bd
 have hmm := @run_makeMap Try.prog
 have hB1 := below1 w (.map #[] 0)
 have HP := hidOf hp
 have hp1 := range_of hp (hB1.block p lp)
 have q1 : (w.alloc (.map #[] 0)).cell? ⟨p, 1, none⟩ = some (.int .i64 d.ty) := hp1 1 _ rfl
 have q8 : (w.alloc (.map #[] 0)).cell? ⟨p, 8, none⟩ = some (.slice aa A.length ac) := hp1 8 _ rfl
 have HA := hidOf hA
 clear hA hp hp1
 by_cases hty : d.ty = 2
 ·have h1 : (d.ty != 2) = false := by simp [hty]
  have h2 : (d.ty == 2) = true := by simp [hty]
  have HV : Hid (dnV d A = dnK d A A.length) := hidOf (by unfold dnV; rw [if_pos hty])
  clear hty
  go_enter Try.func53, Try.ntmps53
  go_wp2
  go_loopw [19] (fun i wr => ∃ (k : Nat) (D : List (Int × Int)), k ≤ A.length ∧ i = .int .i64 k ∧ Hid (D = dnK d A k) ∧ Hid (MpR wr w.heap.size kS (unP D)) ∧ Hid (Below w.heap.size w wr) ∧ w.heap.size + 1 ≤ wr.heap.size) (fun i _ => A.length - (intOf i).toNat)
  case atStart => exact ⟨0, [], Nat.zero_le _, rfl, hidOf rfl, hidOf (MpR.new w kS), hidOf hB1, by simp⟩
  case round =>
   obtain ⟨k, D, hk, rfl, HD, HM, HB, hsz⟩ := hrel
   clear q1 q8
   by_cases hlt : k < A.length
   ·obtain ⟨b, off, ha, hQb, hcc⟩ := HA.out.at k hlt
    have hbw : b < w.heap.size := hQb
    obtain ⟨x, hx⟩ : ∃ x, A[k] = x := ⟨_, rfl⟩
    have HDK := hidOf (dnK_at d A k D HD.out hlt x hx)
    rw [hx] at hcc
    clear hx
    subst ha
    have hcr := range_of hcc (HB.out.block b hbw)
    have hbl : b < wr.heap.size := by omega
    have lpr : p < wr.heap.size := by omega
    have c0 : wr.cell? ⟨b, off + k * 11, none⟩ = some (.int .i64 x.id) := hcr 0 _ rfl
    have c1 : wr.cell? ⟨b, off + k * 11 + 1, none⟩ = some (.int .i64 x.jb) := hcr 1 _ rfl
    have c2 : wr.cell? ⟨b, off + k * 11 + 2, none⟩ = some (.int .i64 x.ve) := hcr 2 _ rfl
    have c3 : wr.cell? ⟨b, off + k * 11 + 3, none⟩ = some (.int .i64 x.gr) := hcr 3 _ rfl
    have c4 : wr.cell? ⟨b, off + k * 11 + 4, none⟩ = some (.int .i64 x.ix) := hcr 4 _ rfl
    have c5 : wr.cell? ⟨b, off + k * 11 + 5, none⟩ = some (.int .i64 x.nd) := hcr 5 _ rfl
    have c6 : wr.cell? ⟨b, off + k * 11 + 6, none⟩ = some (.int .i64 x.ep) := hcr 6 _ rfl
    have c7 : wr.cell? ⟨b, off + k * 11 + 7, none⟩ = some (.int .i64 x.c) := hcr 7 _ rfl
    have c8 : wr.cell? ⟨b, off + k * 11 + 8, none⟩ = some (.int .i64 x.m) := hcr 8 _ rfl
    have c9 : wr.cell? ⟨b, off + k * 11 + 9, none⟩ = some (.bool x.sp) := hcr 9 _ rfl
    have c10 : wr.cell? ⟨b, off + k * 11 + 10, none⟩ = some (.int .i64 x.st) := hcr 10 _ rfl
    have hpr := range_of HP.out (HB.out.block p lp)
    clear hcc hcr
    go_upto_region 7 with (fail)
    obtain ⟨wA, hwA⟩ : ∃ wA, wr.alloc (.cells #[.int .i64 x.id, .int .i64 x.jb, .int .i64 x.ve, .int .i64 x.gr, .int .i64 x.ix, .int .i64 x.nd, .int .i64 x.ep, .int .i64 x.c, .int .i64 x.m, .bool x.sp, .int .i64 x.st] 42) = wA := ⟨_, rfl⟩
    have hbA : Below wr.heap.size wr wA := by rw [← hwA]; exact below1 _ _
    have hbX : wA.rangeAt wr.heap.size 0 (Al.cs x) := by rw [← hwA]; exact box_new (wr := wr) (cs := Al.cs x) (t := 42) (Below.refl _ _)
    rw [hwA]
    clear hwA c0 c1 c2 c3 c4 c5 c6 c7 c8 c9 c10
    have hpA := range_of hpr (hbA.block p lpr)
    obtain ⟨B, hB⟩ : ∃ B, wr.heap.size = B := ⟨_, rfl⟩
    have hbX : wA.rangeAt B 0 (Al.cs x) := by rw [← hB]; exact hbX
    rw [hB]
    have g1 : wA.cell? ⟨B, 1, none⟩ = some (.int .i64 x.jb) := hbX 1 _ rfl
    have g2 : wA.cell? ⟨B, 2, none⟩ = some (.int .i64 x.ve) := hbX 2 _ rfl
    have g10 : wA.cell? ⟨B, 10, none⟩ = some (.int .i64 x.st) := hbX 10 _ rfl
    have f0 : wA.cell? ⟨p, 0, none⟩ = some (.int .i64 d.id) := hpA 0 _ rfl
    have f5 : wA.cell? ⟨p, 5, none⟩ = some (.int .i64 d.ve) := hpA 5 _ rfl
    have lB : B < wA.heap.size := lt_of_cell g1
    have lpA : p < wA.heap.size := lt_of_cell f0
    have HZD := hidOf (hbA.trans ((bdrew wA).mono hbA.size))
    have HBX := hidOf hbX
    have HBB := hidOf hB
    clear hbX hpA hpr hbA hB
    by_cases hj : x.jb = d.id
    ·have hj1 : (x.jb == d.id) = true := by simp [hj]
     have HJ := hidOf hj
     clear hj
     by_cases hv : x.ve = d.ve
     ·have hv1 : (x.ve == d.ve) = true := by simp [hv]
      have HVE := hidOf hv
      clear hv
      by_cases hs : x.st = 3
      ·have hs1 : (x.st == 3) = true := by simp [hs]
       have HST := hidOf hs
       clear hs
       refine wp_region_held_drew (S := fun (Y : World) => Y.cell? ⟨B, 1, none⟩ = some (.int .i64 x.jb) ∧ Y.cell? ⟨B, 2, none⟩ = some (.int .i64 x.ve) ∧ Y.cell? ⟨B, 10, none⟩ = some (.int .i64 x.st) ∧ Y.cell? ⟨p, 0, none⟩ = some (.int .i64 d.id) ∧ Y.cell? ⟨p, 5, none⟩ = some (.int .i64 d.ve)) (by kernel_rfl) ⟨g1, g2, g10, f0, f5⟩ (fun hHeld => ?_)
       refine tkH 0 oXx_0 23 (.pointer (some ⟨B, 1, none⟩)) hHeld (by intro w hS; dsimp only [oXx_0] at hS ⊢; go_simp) ?_
       try simp only [pA, pC, pD]
       refine tkH 1 oXx_1 24 (.int .i64 x.jb) hHeld (by intro w hS; dsimp only [oXx_1] at hS ⊢; go_simp) ?_
       try simp only [pA, pC, pD]
       refine tkH 2 oXx_2 25 (.pointer (some ⟨p, 0, none⟩)) hHeld (by intro w hS; dsimp only [oXx_2] at hS ⊢; go_simp) ?_
       try simp only [pA, pC, pD]
       refine tkH 3 oXx_3 26 (.pointer (some ⟨p, 0, none⟩)) hHeld (by intro w hS; dsimp only [oXx_3] at hS ⊢; go_simp) ?_
       try simp only [pA, pC, pD]
       refine tkH 4 oXx_4 27 (.pointer (some ⟨p, 0, none⟩)) hHeld (by intro w hS; dsimp only [oXx_4] at hS ⊢; go_simp) ?_
       try simp only [pA, pC, pD]
       refine tkH 5 oXx_5 28 (.pointer (some ⟨p, 0, none⟩)) hHeld (by intro w hS; dsimp only [oXx_5] at hS ⊢; go_simp) ?_
       try simp only [pA, pC, pD]
       refine tkH 6 oXx_6 29 (.int .i64 d.id) hHeld (by intro w hS; dsimp only [oXx_6] at hS ⊢; go_simp) ?_
       try simp only [pA, pC, pD]
       refine tkH 7 oXx_7 30 (.bool true) hHeld (by intro w hS; dsimp only [oXx_7] at hS ⊢; go_simp) ?_
       try simp only [pA, pC, pD]
       refine tkH 8 oXx_8 31 (.bool true) hHeld (by intro w hS; dsimp only [oXx_8] at hS ⊢; go_simp) ?_
       try simp only [pA, pC, pD]
       refine tkH 9 oXx_9 32 (.pointer (some ⟨B, 2, none⟩)) hHeld (by intro w hS; dsimp only [oXx_9] at hS ⊢; go_simp) ?_
       try simp only [pA, pC, pD]
       refine tkH 10 oXx_10 33 (.int .i64 x.ve) hHeld (by intro w hS; dsimp only [oXx_10] at hS ⊢; go_simp) ?_
       try simp only [pA, pC, pD]
       refine tkH 11 oXx_11 34 (.pointer (some ⟨p, 0, none⟩)) hHeld (by intro w hS; dsimp only [oXx_11] at hS ⊢; go_simp) ?_
       try simp only [pA, pC, pD]
       refine tkH 12 oXx_12 35 (.pointer (some ⟨p, 0, none⟩)) hHeld (by intro w hS; dsimp only [oXx_12] at hS ⊢; go_simp) ?_
       try simp only [pA, pC, pD]
       refine tkH 13 oXx_13 36 (.pointer (some ⟨p, 0, none⟩)) hHeld (by intro w hS; dsimp only [oXx_13] at hS ⊢; go_simp) ?_
       try simp only [pA, pC, pD]
       refine tkH 14 oXx_14 37 (.pointer (some ⟨p, 5, none⟩)) hHeld (by intro w hS; dsimp only [oXx_14] at hS ⊢; go_simp) ?_
       try simp only [pA, pC, pD]
       refine tkH 15 oXx_15 38 (.int .i64 d.ve) hHeld (by intro w hS; dsimp only [oXx_15] at hS ⊢; go_simp) ?_
       try simp only [pA, pC, pD]
       refine tkH 16 oXx_16 39 (.bool true) hHeld (by intro w hS; dsimp only [oXx_16] at hS ⊢; go_simp) ?_
       try simp only [pA, pC, pD]
       refine tkH 17 oXx_17 40 (.bool true) hHeld (by intro w hS; dsimp only [oXx_17] at hS ⊢; go_simp) ?_
       try simp only [pA, pC, pD]
       refine tkH 18 oXx_18 41 (.bool true) hHeld (by intro w hS; dsimp only [oXx_18] at hS ⊢; go_simp) ?_
       try simp only [pA, pC, pD]
       refine tkH 19 oXx_19 42 (.pointer (some ⟨B, 10, none⟩)) hHeld (by intro w hS; dsimp only [oXx_19] at hS ⊢; go_simp) ?_
       try simp only [pA, pC, pD]
       refine tkH 20 oXx_20 43 (.int .i64 x.st) hHeld (by intro w hS; dsimp only [oXx_20] at hS ⊢; go_simp) ?_
       try simp only [pA, pC, pD]
       refine tkH 21 oXx_21 44 (.bool true) hHeld (by intro w hS; dsimp only [oXx_21] at hS ⊢; go_simp) ?_
       try simp only [pA, pC, pD]
       refine tkH 22 oXx_22 45 (.bool true) hHeld (by intro w hS; dsimp only [oXx_22] at hS ⊢; go_simp) ?_
       try simp only [pA, pC, pD]
       refine wpAnyH_done (by kernel_rfl) ?_ _
       have HN : Hid (D ++ [(x.gr, x.ix)] = dnK d A (k + 1)) := hidOf (by rw [HDK.out, if_pos ⟨HJ.out, HVE.out, HST.out⟩])
       obtain ⟨wD, hwD⟩ : ∃ wD, wA.drew = wD := ⟨_, rfl⟩
       have hbX : wD.rangeAt B 0 (Al.cs x) := by rw [← hwD]; exact HBX.out
       have HZ : Hid (Below wr.heap.size wr wD) := hidOf (by rw [← hwD]; exact HZD.out)
       rw [hwD]
       clear hwD HZD
       have lBD : B < wD.heap.size := lt_of_cell (hbX 0 _ rfl)
       have e0 : wD.cell? ⟨B, 0, none⟩ = some (.int .i64 x.id) := hbX 0 _ rfl
       have e1 : wD.cell? ⟨B, 1, none⟩ = some (.int .i64 x.jb) := hbX 1 _ rfl
       have e2 : wD.cell? ⟨B, 2, none⟩ = some (.int .i64 x.ve) := hbX 2 _ rfl
       have e3 : wD.cell? ⟨B, 3, none⟩ = some (.int .i64 x.gr) := hbX 3 _ rfl
       have e4 : wD.cell? ⟨B, 4, none⟩ = some (.int .i64 x.ix) := hbX 4 _ rfl
       have e5 : wD.cell? ⟨B, 5, none⟩ = some (.int .i64 x.nd) := hbX 5 _ rfl
       have e6 : wD.cell? ⟨B, 6, none⟩ = some (.int .i64 x.ep) := hbX 6 _ rfl
       have e7 : wD.cell? ⟨B, 7, none⟩ = some (.int .i64 x.c) := hbX 7 _ rfl
       have e8 : wD.cell? ⟨B, 8, none⟩ = some (.int .i64 x.m) := hbX 8 _ rfl
       have e9 : wD.cell? ⟨B, 9, none⟩ = some (.bool x.sp) := hbX 9 _ rfl
       have e10 : wD.cell? ⟨B, 10, none⟩ = some (.int .i64 x.st) := hbX 10 _ rfl
       have HSO := hidOf (slotOf_any x wD)
       go_wp2_with (first | (go_at_call 50; refine HSO.out.mono ?_; rintro e w2 ⟨rfl, hb⟩; have HB2 := hidOf (HZ.out.trans (hb.mono HZ.out.size)); have HM2 := hidOf (HM.out.keep (HB2.out.block w.heap.size (by omega))); clear hb) | (at_mapUpdate; refine wpList_mapX _ rfl _ _ _ 113 rfl 60 115 kyS Try.underlying113 w.heap.size _ rfl HM2.out (x.gr, x.ix) (.agg #[]) rfl rfl ?_; intro w3 hm3 hs3 hz3 hg3; rw [unP_snoc] at hm3; have HM3 := hidOf hm3; have HG3 := hidOf hg3; have HZ3 := hidOf hz3; clear hm3 hs3 hz3 hg3))
       have hz3 := HZ3.out
       have hz2 := HB2.out.size
       go_roundw
       case rel => exact ⟨k + 1, D ++ [(x.gr, x.ix)], by omega, by simp, HN, HM3, hidOf ((HB.out.trans (HB2.out.mono HB.out.size)).grown HG3.out (by omega) (fun q e => by cases e; exact Nat.le_refl _)), by omega⟩
       case measure => simp [intOf]; omega
      ·have hs1 : (x.st == 3) = false := by simp [hs]
       have HST := hidOf hs
       clear hs
       refine wp_region_held_drew (S := fun (Y : World) => Y.cell? ⟨B, 1, none⟩ = some (.int .i64 x.jb) ∧ Y.cell? ⟨B, 2, none⟩ = some (.int .i64 x.ve) ∧ Y.cell? ⟨B, 10, none⟩ = some (.int .i64 x.st) ∧ Y.cell? ⟨p, 0, none⟩ = some (.int .i64 d.id) ∧ Y.cell? ⟨p, 5, none⟩ = some (.int .i64 d.ve)) (by kernel_rfl) ⟨g1, g2, g10, f0, f5⟩ (fun hHeld => ?_)
       refine tkH 0 oXx_0 23 (.pointer (some ⟨B, 1, none⟩)) hHeld (by intro w hS; dsimp only [oXx_0] at hS ⊢; go_simp) ?_
       try simp only [pA, pC, pD]
       refine tkH 1 oXx_1 24 (.int .i64 x.jb) hHeld (by intro w hS; dsimp only [oXx_1] at hS ⊢; go_simp) ?_
       try simp only [pA, pC, pD]
       refine tkH 2 oXx_2 25 (.pointer (some ⟨p, 0, none⟩)) hHeld (by intro w hS; dsimp only [oXx_2] at hS ⊢; go_simp) ?_
       try simp only [pA, pC, pD]
       refine tkH 3 oXx_3 26 (.pointer (some ⟨p, 0, none⟩)) hHeld (by intro w hS; dsimp only [oXx_3] at hS ⊢; go_simp) ?_
       try simp only [pA, pC, pD]
       refine tkH 4 oXx_4 27 (.pointer (some ⟨p, 0, none⟩)) hHeld (by intro w hS; dsimp only [oXx_4] at hS ⊢; go_simp) ?_
       try simp only [pA, pC, pD]
       refine tkH 5 oXx_5 28 (.pointer (some ⟨p, 0, none⟩)) hHeld (by intro w hS; dsimp only [oXx_5] at hS ⊢; go_simp) ?_
       try simp only [pA, pC, pD]
       refine tkH 6 oXx_6 29 (.int .i64 d.id) hHeld (by intro w hS; dsimp only [oXx_6] at hS ⊢; go_simp) ?_
       try simp only [pA, pC, pD]
       refine tkH 7 oXx_7 30 (.bool true) hHeld (by intro w hS; dsimp only [oXx_7] at hS ⊢; go_simp) ?_
       try simp only [pA, pC, pD]
       refine tkH 8 oXx_8 31 (.bool true) hHeld (by intro w hS; dsimp only [oXx_8] at hS ⊢; go_simp) ?_
       try simp only [pA, pC, pD]
       refine tkH 9 oXx_9 32 (.pointer (some ⟨B, 2, none⟩)) hHeld (by intro w hS; dsimp only [oXx_9] at hS ⊢; go_simp) ?_
       try simp only [pA, pC, pD]
       refine tkH 10 oXx_10 33 (.int .i64 x.ve) hHeld (by intro w hS; dsimp only [oXx_10] at hS ⊢; go_simp) ?_
       try simp only [pA, pC, pD]
       refine tkH 11 oXx_11 34 (.pointer (some ⟨p, 0, none⟩)) hHeld (by intro w hS; dsimp only [oXx_11] at hS ⊢; go_simp) ?_
       try simp only [pA, pC, pD]
       refine tkH 12 oXx_12 35 (.pointer (some ⟨p, 0, none⟩)) hHeld (by intro w hS; dsimp only [oXx_12] at hS ⊢; go_simp) ?_
       try simp only [pA, pC, pD]
       refine tkH 13 oXx_13 36 (.pointer (some ⟨p, 0, none⟩)) hHeld (by intro w hS; dsimp only [oXx_13] at hS ⊢; go_simp) ?_
       try simp only [pA, pC, pD]
       refine tkH 14 oXx_14 37 (.pointer (some ⟨p, 5, none⟩)) hHeld (by intro w hS; dsimp only [oXx_14] at hS ⊢; go_simp) ?_
       try simp only [pA, pC, pD]
       refine tkH 15 oXx_15 38 (.int .i64 d.ve) hHeld (by intro w hS; dsimp only [oXx_15] at hS ⊢; go_simp) ?_
       try simp only [pA, pC, pD]
       refine tkH 16 oXx_16 39 (.bool true) hHeld (by intro w hS; dsimp only [oXx_16] at hS ⊢; go_simp) ?_
       try simp only [pA, pC, pD]
       refine tkH 17 oXx_17 40 (.bool true) hHeld (by intro w hS; dsimp only [oXx_17] at hS ⊢; go_simp) ?_
       try simp only [pA, pC, pD]
       refine tkH 18 oXx_18 41 (.bool true) hHeld (by intro w hS; dsimp only [oXx_18] at hS ⊢; go_simp) ?_
       try simp only [pA, pC, pD]
       refine tkH 19 oXx_19 42 (.pointer (some ⟨B, 10, none⟩)) hHeld (by intro w hS; dsimp only [oXx_19] at hS ⊢; go_simp) ?_
       try simp only [pA, pC, pD]
       refine tkH 20 oXx_20 43 (.int .i64 x.st) hHeld (by intro w hS; dsimp only [oXx_20] at hS ⊢; go_simp) ?_
       try simp only [pA, pC, pD]
       refine tkH 21 oXx_21 44 (.bool false) hHeld (by intro w hS; dsimp only [oXx_21] at hS ⊢; go_simp) ?_
       try simp only [pA, pC, pD]
       refine tkH 22 oXx_22 45 (.bool false) hHeld (by intro w hS; dsimp only [oXx_22] at hS ⊢; go_simp) ?_
       try simp only [pA, pC, pD]
       refine wpAnyH_done (by kernel_rfl) ?_ _
       go_wp2
       go_roundw
       case rel => exact ⟨k + 1, D, by omega, by simp, hidOf (by rw [HDK.out, if_neg (fun h => HST.out h.2.2)]), hidOf (HM.out.keep (HZD.out.block _ (by omega))), hidOf (HB.out.trans (HZD.out.mono HB.out.size)), by have := HZD.out.size; omega⟩
       case measure => simp [intOf]; omega
     ·have hv1 : (x.ve == d.ve) = false := by simp [hv]
      have HVE := hidOf hv
      clear hv
      refine wp_region_held_drew (S := fun (Y : World) => Y.cell? ⟨B, 1, none⟩ = some (.int .i64 x.jb) ∧ Y.cell? ⟨B, 2, none⟩ = some (.int .i64 x.ve) ∧ Y.cell? ⟨B, 10, none⟩ = some (.int .i64 x.st) ∧ Y.cell? ⟨p, 0, none⟩ = some (.int .i64 d.id) ∧ Y.cell? ⟨p, 5, none⟩ = some (.int .i64 d.ve)) (by kernel_rfl) ⟨g1, g2, g10, f0, f5⟩ (fun hHeld => ?_)
      refine tkH 0 oXx_0 23 (.pointer (some ⟨B, 1, none⟩)) hHeld (by intro w hS; dsimp only [oXx_0] at hS ⊢; go_simp) ?_
      try simp only [pA, pC, pD]
      refine tkH 1 oXx_1 24 (.int .i64 x.jb) hHeld (by intro w hS; dsimp only [oXx_1] at hS ⊢; go_simp) ?_
      try simp only [pA, pC, pD]
      refine tkH 2 oXx_2 25 (.pointer (some ⟨p, 0, none⟩)) hHeld (by intro w hS; dsimp only [oXx_2] at hS ⊢; go_simp) ?_
      try simp only [pA, pC, pD]
      refine tkH 3 oXx_3 26 (.pointer (some ⟨p, 0, none⟩)) hHeld (by intro w hS; dsimp only [oXx_3] at hS ⊢; go_simp) ?_
      try simp only [pA, pC, pD]
      refine tkH 4 oXx_4 27 (.pointer (some ⟨p, 0, none⟩)) hHeld (by intro w hS; dsimp only [oXx_4] at hS ⊢; go_simp) ?_
      try simp only [pA, pC, pD]
      refine tkH 5 oXx_5 28 (.pointer (some ⟨p, 0, none⟩)) hHeld (by intro w hS; dsimp only [oXx_5] at hS ⊢; go_simp) ?_
      try simp only [pA, pC, pD]
      refine tkH 6 oXx_6 29 (.int .i64 d.id) hHeld (by intro w hS; dsimp only [oXx_6] at hS ⊢; go_simp) ?_
      try simp only [pA, pC, pD]
      refine tkH 7 oXx_7 30 (.bool true) hHeld (by intro w hS; dsimp only [oXx_7] at hS ⊢; go_simp) ?_
      try simp only [pA, pC, pD]
      refine tkH 8 oXx_8 31 (.bool true) hHeld (by intro w hS; dsimp only [oXx_8] at hS ⊢; go_simp) ?_
      try simp only [pA, pC, pD]
      refine tkH 9 oXx_9 32 (.pointer (some ⟨B, 2, none⟩)) hHeld (by intro w hS; dsimp only [oXx_9] at hS ⊢; go_simp) ?_
      try simp only [pA, pC, pD]
      refine tkH 10 oXx_10 33 (.int .i64 x.ve) hHeld (by intro w hS; dsimp only [oXx_10] at hS ⊢; go_simp) ?_
      try simp only [pA, pC, pD]
      refine tkH 11 oXx_11 34 (.pointer (some ⟨p, 0, none⟩)) hHeld (by intro w hS; dsimp only [oXx_11] at hS ⊢; go_simp) ?_
      try simp only [pA, pC, pD]
      refine tkH 12 oXx_12 35 (.pointer (some ⟨p, 0, none⟩)) hHeld (by intro w hS; dsimp only [oXx_12] at hS ⊢; go_simp) ?_
      try simp only [pA, pC, pD]
      refine tkH 13 oXx_13 36 (.pointer (some ⟨p, 0, none⟩)) hHeld (by intro w hS; dsimp only [oXx_13] at hS ⊢; go_simp) ?_
      try simp only [pA, pC, pD]
      refine tkH 14 oXx_14 37 (.pointer (some ⟨p, 5, none⟩)) hHeld (by intro w hS; dsimp only [oXx_14] at hS ⊢; go_simp) ?_
      try simp only [pA, pC, pD]
      refine tkH 15 oXx_15 38 (.int .i64 d.ve) hHeld (by intro w hS; dsimp only [oXx_15] at hS ⊢; go_simp) ?_
      try simp only [pA, pC, pD]
      refine tkH 16 oXx_16 39 (.bool false) hHeld (by intro w hS; dsimp only [oXx_16] at hS ⊢; go_simp) ?_
      try simp only [pA, pC, pD]
      refine tkH 17 oXx_17 40 (.bool false) hHeld (by intro w hS; dsimp only [oXx_17] at hS ⊢; go_simp) ?_
      try simp only [pA, pC, pD]
      refine tkH 18 oXx_18 41 (.bool false) hHeld (by intro w hS; dsimp only [oXx_18] at hS ⊢; go_simp) ?_
      try simp only [pA, pC, pD]
      refine tkN 19 oXx_19 42 hHeld ?_
      try simp only [pA, pC, pD]
      refine tkN 20 oXx_20 43 hHeld ?_
      try simp only [pA, pC, pD]
      refine tkN 21 oXx_21 44 hHeld ?_
      try simp only [pA, pC, pD]
      refine tkH 22 oXx_22 45 (.bool false) hHeld (by intro w hS; dsimp only [oXx_22] at hS ⊢; go_simp) ?_
      try simp only [pA, pC, pD]
      refine wpAnyH_done (by kernel_rfl) ?_ _
      go_wp2
      go_roundw
      case rel => exact ⟨k + 1, D, by omega, by simp, hidOf (by rw [HDK.out, if_neg (fun h => HVE.out h.2.1)]), hidOf (HM.out.keep (HZD.out.block _ (by omega))), hidOf (HB.out.trans (HZD.out.mono HB.out.size)), by have := HZD.out.size; omega⟩
      case measure => simp [intOf]; omega
    ·have hj1 : (x.jb == d.id) = false := by simp [hj]
     have HJ := hidOf hj
     clear hj
     refine wp_region_held_drew (S := fun (Y : World) => Y.cell? ⟨B, 1, none⟩ = some (.int .i64 x.jb) ∧ Y.cell? ⟨B, 2, none⟩ = some (.int .i64 x.ve) ∧ Y.cell? ⟨B, 10, none⟩ = some (.int .i64 x.st) ∧ Y.cell? ⟨p, 0, none⟩ = some (.int .i64 d.id) ∧ Y.cell? ⟨p, 5, none⟩ = some (.int .i64 d.ve)) (by kernel_rfl) ⟨g1, g2, g10, f0, f5⟩ (fun hHeld => ?_)
     refine tkH 0 oXx_0 23 (.pointer (some ⟨B, 1, none⟩)) hHeld (by intro w hS; dsimp only [oXx_0] at hS ⊢; go_simp) ?_
     try simp only [pA, pC, pD]
     refine tkH 1 oXx_1 24 (.int .i64 x.jb) hHeld (by intro w hS; dsimp only [oXx_1] at hS ⊢; go_simp) ?_
     try simp only [pA, pC, pD]
     refine tkH 2 oXx_2 25 (.pointer (some ⟨p, 0, none⟩)) hHeld (by intro w hS; dsimp only [oXx_2] at hS ⊢; go_simp) ?_
     try simp only [pA, pC, pD]
     refine tkH 3 oXx_3 26 (.pointer (some ⟨p, 0, none⟩)) hHeld (by intro w hS; dsimp only [oXx_3] at hS ⊢; go_simp) ?_
     try simp only [pA, pC, pD]
     refine tkH 4 oXx_4 27 (.pointer (some ⟨p, 0, none⟩)) hHeld (by intro w hS; dsimp only [oXx_4] at hS ⊢; go_simp) ?_
     try simp only [pA, pC, pD]
     refine tkH 5 oXx_5 28 (.pointer (some ⟨p, 0, none⟩)) hHeld (by intro w hS; dsimp only [oXx_5] at hS ⊢; go_simp) ?_
     try simp only [pA, pC, pD]
     refine tkH 6 oXx_6 29 (.int .i64 d.id) hHeld (by intro w hS; dsimp only [oXx_6] at hS ⊢; go_simp) ?_
     try simp only [pA, pC, pD]
     refine tkH 7 oXx_7 30 (.bool false) hHeld (by intro w hS; dsimp only [oXx_7] at hS ⊢; go_simp) ?_
     try simp only [pA, pC, pD]
     refine tkH 8 oXx_8 31 (.bool false) hHeld (by intro w hS; dsimp only [oXx_8] at hS ⊢; go_simp) ?_
     try simp only [pA, pC, pD]
     refine tkN 9 oXx_9 32 hHeld ?_
     try simp only [pA, pC, pD]
     refine tkN 10 oXx_10 33 hHeld ?_
     try simp only [pA, pC, pD]
     refine tkN 11 oXx_11 34 hHeld ?_
     try simp only [pA, pC, pD]
     refine tkN 12 oXx_12 35 hHeld ?_
     try simp only [pA, pC, pD]
     refine tkN 13 oXx_13 36 hHeld ?_
     try simp only [pA, pC, pD]
     refine tkN 14 oXx_14 37 hHeld ?_
     try simp only [pA, pC, pD]
     refine tkN 15 oXx_15 38 hHeld ?_
     try simp only [pA, pC, pD]
     refine tkN 16 oXx_16 39 hHeld ?_
     try simp only [pA, pC, pD]
     refine tkH 17 oXx_17 40 (.bool false) hHeld (by intro w hS; dsimp only [oXx_17] at hS ⊢; go_simp) ?_
     try simp only [pA, pC, pD]
     refine tkH 18 oXx_18 41 (.bool false) hHeld (by intro w hS; dsimp only [oXx_18] at hS ⊢; go_simp) ?_
     try simp only [pA, pC, pD]
     refine tkN 19 oXx_19 42 hHeld ?_
     try simp only [pA, pC, pD]
     refine tkN 20 oXx_20 43 hHeld ?_
     try simp only [pA, pC, pD]
     refine tkN 21 oXx_21 44 hHeld ?_
     try simp only [pA, pC, pD]
     refine tkH 22 oXx_22 45 (.bool false) hHeld (by intro w hS; dsimp only [oXx_22] at hS ⊢; go_simp) ?_
     try simp only [pA, pC, pD]
     refine wpAnyH_done (by kernel_rfl) ?_ _
     go_wp2
     go_roundw
     case rel => exact ⟨k + 1, D, by omega, by simp, hidOf (by rw [HDK.out, if_neg (fun h => HJ.out h.1)]), hidOf (HM.out.keep (HZD.out.block _ (by omega))), hidOf (HB.out.trans (HZD.out.mono HB.out.size)), by have := HZD.out.size; omega⟩
     case measure => simp [intOf]; omega
   ·have hkl : k = A.length := by omega
    subst hkl
    have HDD := HD.out
    subst HDD
    go_wp2
    go_ret
    exact ⟨rfl, by rw [HV.out]; exact HM.out, HB.out⟩
 ·have h1 : (d.ty != 2) = true := by simp [hty]
  have h2 : (d.ty == 2) = false := by simp [hty]
  have HV : Hid (dnV d A = []) := hidOf (by unfold dnV; rw [if_neg hty])
  clear hty
  go_enter Try.func53, Try.ntmps53
  go_wp2
  go_ret
  exact ⟨rfl, by rw [HV.out]; exact MpR.new w kS, hB1⟩
end Go.Proofs.Ytblofbdncolikaa
