/- Whether a slot moves: the code's moves. -/
import Derived.Test.YtblofbdncolikaaTk
import Derived.Test.YtblofbdncolikaaXv
namespace Go.Proofs.Ytblofbdncolikaa
open Go.RowKit Go.Shelf
def oXw_0 : Oper := { dst := some 9, op := Op.move (Operand.tmp 0), type := 85, pos := "diff.go:115", after := #[], guard := none }
def oXw_1 : Oper := { dst := some 10, op := Op.nilCheck (Operand.tmp 9), type := 0, pos := "diff.go:115", after := #[{ on := 0, ground := Ground.data }], guard := none }
def oXw_2 : Oper := { dst := some 11, op := Op.fieldAddr 93 (Operand.tmp 10) 3, type := 0, pos := "diff.go:115", after := #[{ on := 1, ground := Ground.data }], guard := none }
def oXw_3 : Oper := { dst := some 12, op := Op.load 90 (Operand.tmp 11), type := 90, pos := "diff.go:115", after := #[{ on := 2, ground := Ground.data }], guard := none }
def oXw_4 : Oper := { dst := some 13, op := Op.load 60 (Operand.tmp 3), type := 60, pos := "diff.go:115", after := #[], guard := none }
def oXw_5 : Oper := { dst := some 14, op := Op.lookup 90 (Operand.tmp 12) (Operand.tmp 13) false, type := 3, pos := "diff.go:115", after := #[{ on := 3, ground := Ground.data }, { on := 4, ground := Ground.data }], guard := none }
def oXw_6 : Oper := { dst := some 5, op := Op.assign (Operand.tmp 14), type := 3, pos := "diff.go:115", after := #[{ on := 5, ground := Ground.data }, { on := 0, ground := Ground.phase }, { on := 1, ground := Ground.phase }, { on := 2, ground := Ground.phase }, { on := 3, ground := Ground.phase }, { on := 4, ground := Ground.phase }, { on := 5, ground := Ground.phase }], guard := none }
def oXw_7 : Oper := { dst := some 33, op := Op.move (Operand.tmp 8), type := 4, pos := "diff.go:121", after := #[], guard := none }
def oXw_8 : Oper := { dst := some 34, op := Op.move (Operand.tmp 33), type := 4, pos := "diff.go:121", after := #[{ on := 0, ground := Ground.data }], guard := none }
def oXw_9 : Oper := { dst := some 35, op := Op.fieldAddr 42 (Operand.tmp 6) 8, type := 0, pos := "diff.go:121", after := #[{ on := 1, ground := Ground.guard }], guard := some (1, false) }
def oXw_10 : Oper := { dst := some 36, op := Op.load 4 (Operand.tmp 35), type := 4, pos := "diff.go:121", after := #[{ on := 2, ground := Ground.data }, { on := 1, ground := Ground.guard }], guard := some (1, false) }
def oXw_11 : Oper := { dst := some 37, op := Op.pick (Operand.tmp 34) (Operand.const (Value.bool true)) (Operand.tmp 36), type := 4, pos := "diff.go:121", after := #[{ on := 1, ground := Ground.data }, { on := 3, ground := Ground.data }], guard := none }
def oXw_12 : Oper := { dst := some 38, op := Op.move (Operand.tmp 37), type := 4, pos := "diff.go:121", after := #[{ on := 4, ground := Ground.data }, { on := 1, ground := Ground.chain }], guard := none }
def oXw_13 : Oper := { dst := some 39, op := Op.fieldAddr 42 (Operand.tmp 6) 2, type := 0, pos := "diff.go:121", after := #[{ on := 5, ground := Ground.guard }], guard := some (5, false) }
def oXw_14 : Oper := { dst := some 40, op := Op.load 3 (Operand.tmp 39), type := 3, pos := "diff.go:121", after := #[{ on := 6, ground := Ground.data }, { on := 5, ground := Ground.guard }], guard := some (5, false) }
def oXw_15 : Oper := { dst := some 41, op := Op.move (Operand.tmp 0), type := 85, pos := "diff.go:121", after := #[{ on := 5, ground := Ground.guard }], guard := some (5, false) }
def oXw_16 : Oper := { dst := some 42, op := Op.nilCheck (Operand.tmp 41), type := 0, pos := "diff.go:121", after := #[{ on := 8, ground := Ground.data }, { on := 5, ground := Ground.guard }], guard := some (5, false) }
def oXw_17 : Oper := { dst := some 43, op := Op.fieldAddr 93 (Operand.tmp 42) 0, type := 0, pos := "diff.go:121", after := #[{ on := 9, ground := Ground.data }, { on := 5, ground := Ground.guard }], guard := some (5, false) }
def oXw_18 : Oper := { dst := some 44, op := Op.fieldAddr 51 (Operand.tmp 43) 5, type := 0, pos := "diff.go:121", after := #[{ on := 10, ground := Ground.data }, { on := 5, ground := Ground.guard }], guard := some (5, false) }
def oXw_19 : Oper := { dst := some 45, op := Op.load 3 (Operand.tmp 44), type := 3, pos := "diff.go:121", after := #[{ on := 11, ground := Ground.data }, { on := 5, ground := Ground.guard }], guard := some (5, false) }
def oXw_20 : Oper := { dst := some 46, op := Op.binOp BinOp.eql 3 (Operand.tmp 40) (Operand.tmp 45) 3, type := 4, pos := "diff.go:121", after := #[{ on := 7, ground := Ground.data }, { on := 12, ground := Ground.data }, { on := 5, ground := Ground.guard }], guard := some (5, false) }
def oXw_21 : Oper := { dst := some 47, op := Op.move (Operand.tmp 46), type := 4, pos := "diff.go:121", after := #[{ on := 13, ground := Ground.data }, { on := 5, ground := Ground.chain }, { on := 5, ground := Ground.guard }], guard := some (5, false) }
def oXw_22 : Oper := { dst := some 48, op := Op.fieldAddr 42 (Operand.tmp 6) 9, type := 0, pos := "diff.go:121", after := #[{ on := 14, ground := Ground.guard }], guard := some (14, true) }
def oXw_23 : Oper := { dst := some 49, op := Op.load 3 (Operand.tmp 48), type := 3, pos := "diff.go:121", after := #[{ on := 15, ground := Ground.data }, { on := 14, ground := Ground.guard }], guard := some (14, true) }
def oXw_24 : Oper := { dst := some 50, op := Op.binOp BinOp.neq 3 (Operand.tmp 49) (Operand.const (Value.int IntKind.i64 2)) 3, type := 4, pos := "diff.go:121", after := #[{ on := 16, ground := Ground.data }, { on := 14, ground := Ground.guard }], guard := some (14, true) }
def oXw_25 : Oper := { dst := some 51, op := Op.pick (Operand.tmp 47) (Operand.tmp 50) (Operand.const (Value.bool false)), type := 4, pos := "diff.go:121", after := #[{ on := 14, ground := Ground.data }, { on := 17, ground := Ground.data }, { on := 5, ground := Ground.guard }], guard := some (5, false) }
def oXw_26 : Oper := { dst := some 52, op := Op.pick (Operand.tmp 38) (Operand.const (Value.bool true)) (Operand.tmp 51), type := 4, pos := "diff.go:121", after := #[{ on := 5, ground := Ground.data }, { on := 18, ground := Ground.data }], guard := none }
def oXw_27 : Oper := { dst := some 4, op := Op.assign (Operand.tmp 52), type := 4, pos := "diff.go:121", after := #[{ on := 19, ground := Ground.data }, { on := 14, ground := Ground.chain }, { on := 0, ground := Ground.phase }, { on := 1, ground := Ground.phase }, { on := 2, ground := Ground.phase }, { on := 3, ground := Ground.phase }, { on := 4, ground := Ground.phase }, { on := 5, ground := Ground.phase }, { on := 6, ground := Ground.phase }, { on := 7, ground := Ground.phase }, { on := 8, ground := Ground.phase }, { on := 9, ground := Ground.phase }, { on := 10, ground := Ground.phase }, { on := 11, ground := Ground.phase }, { on := 12, ground := Ground.phase }, { on := 13, ground := Ground.phase }, { on := 14, ground := Ground.phase }, { on := 15, ground := Ground.phase }, { on := 16, ground := Ground.phase }, { on := 17, ground := Ground.phase }, { on := 18, ground := Ground.phase }, { on := 19, ground := Ground.phase }], guard := none }
theorem fiK_rng {α : Type} [Inhabited α] (P : α → Bool) (L : List α) (n : Nat) : fiK P L n = -1 ∨ ∃ m : Nat, fiK P L n = (m : Int) ∧ m < n := by
 induction n with
 | zero => exact .inl rfl
 | succ n ih =>
  rw [fiK]
  rcases ih with h | ⟨m, h, hm⟩
  ·rw [if_pos h]
   by_cases hp : P (L[n]?.getD default) = true
   ·exact .inr ⟨n, by rw [if_pos hp], by omega⟩
   ·exact .inl (by rw [if_neg hp])
  ·exact .inr ⟨m, by rw [if_neg (by omega)]; exact h, by omega⟩
def alA (A : List Al) (v : Int) : Al := A[v.toNat]?.getD default
def mvB (d : Jb) (A : List Al) (T : List Int) (v : Int) : Bool := if v = -1 then true else decide (v ∈ T) || ((alA A v).sp || (decide ((alA A v).ve = d.ve) && !decide ((alA A v).st = 2)))
theorem mvB_no (d : Jb) (A : List Al) (T : List Int) : mvB d A T (-1) = true := rfl
theorem mvB_at (d : Jb) (A : List Al) (T : List Int) (m : Nat) (h : m < A.length) (x : Al) (hx : A[m] = x) : mvB d A T (m : Int) = (decide ((m : Int) ∈ T) || (x.sp || (decide (x.ve = d.ve) && !decide (x.st = 2)))) := by
 unfold mvB alA
 rw [if_neg (by omega), Int.toNat_natCast, getD_at A m h, hx]
set_option maxRecDepth 100000 in
set_option maxHeartbeats 4000000 in
theorem moves_any (p : Nat) (d : Jb) (ga : Option Addr) (gc : Nat) (lb : Array Value) (aa : Option Addr) (ac : Nat) (A : List Al) (hb sb : Nat) (ia : Option Addr) (il ic : Nat) (S : List (Int × Int)) (T : List Int) (g i : Int) (w : World)
  (hp : w.rangeAt p 0 (lkC d ga gc lb aa A.length ac (some hb) (some sb) ia il ic)) (lp : p < w.heap.size) (hA : Fl w (fun b => b < w.heap.size) 11 88 Al.cs aa A) (hH : MpR w hb kS (hoK d.id S A A.length)) (hT : MpR w sb kI (unS T)) (hS : (g, i) ∈ S) :
  Calls Try.prog 52 #[.pointer (some ⟨p, 0, none⟩), .agg #[.int .i64 g, .int .i64 i]] w fun e w' => e = .returned (.bool (mvB d A T (fiK (slB d.id g i) A A.length))) ∧ Below w.heap.size w w' := by
 have hbd := hA.bd
 have hrng := fiK_rng (slB d.id g i) A A.length
 obtain ⟨v, hv⟩ : ∃ v, fiK (slB d.id g i) A A.length = v := ⟨_, rfl⟩
 have LK : Hid (∀ Y, MpR Y hb kS (hoK d.id S A A.length) → (Instr.lookup 90 (.map (some hb)) (.agg #[.int .i64 g, .int .i64 i]) false).run Try.prog Y = .ok (.int .i64 v) Y) := hidOf fun Y h => by
  have hlk := hoK_look h g i false
  rw [if_neg (by simp), if_pos hS, hv] at hlk
  exact hlk
 rw [hv] at hrng ⊢
 clear hv
 have hbA := below1 w (.cells #[.int .i64 g, .int .i64 i] 60)
 have hbx := box_new (wr := w) (cs := [.int .i64 g, .int .i64 i]) (t := 60) (Below.refl _ _)
 have HL := hidOf hH.lt
 go_enter Try.func52, Try.ntmps52
 go_upto_region 1 with (fail)
 obtain ⟨wA, hwA⟩ : ∃ wA, w.alloc (.cells #[.int .i64 g, .int .i64 i] 60) = wA := ⟨_, rfl⟩
 have hbx' : wA.rangeAt w.heap.size 0 [.int .i64 g, .int .i64 i] := by rw [← hwA]; exact hbx
 have hzA : wA.heap.size = w.heap.size + 1 := by rw [← hwA]; simp
 rw [hwA] at hbA ⊢
 clear hwA hbx
 have hpA := range_of hp (hbA.block p lp)
 have p9 : wA.cell? ⟨p, 9, none⟩ = some (.map (some hb)) := hpA 9 _ rfl
 have b0 : wA.cell? ⟨w.heap.size, 0, none⟩ = some (.int .i64 g) := hbx' 0 _ rfl
 have b1 : wA.cell? ⟨w.heap.size, 1, none⟩ = some (.int .i64 i) := hbx' 1 _ rfl
 have HHA := hidOf (hH.keep (hbA.block hb hH.lt))
 have HTA := hidOf (hT.keep (hbA.block sb hT.lt))
 have HLT := hidOf hT.lt
 have lpA : p < wA.heap.size := by omega
 have lxA : w.heap.size < wA.heap.size := by omega
 have HPA := hidOf hpA
 have HAA := hidOf (hA.kept (w' := wA) (S' := fun b => b < wA.heap.size) (fun b hb => hbA.block b hb) (fun b hb => Nat.lt_of_lt_of_le hb hbA.size))
 have HBA := hidOf hbA
 clear hp hA hH hT hbx' hpA hbA
 refine wp_region_held_drew (S := fun (Y : World) => Y.cell? ⟨p, 9, none⟩ = some (.map (some hb)) ∧ Y.cell? ⟨w.heap.size, 0, none⟩ = some (.int .i64 g) ∧ Y.cell? ⟨w.heap.size, 1, none⟩ = some (.int .i64 i) ∧ MpR Y hb kS (hoK d.id S A A.length)) (by kernel_rfl) ⟨p9, b0, b1, HHA.out⟩ (fun hHeld => ?_)
 refine tkH 0 oXw_0 9 (.pointer (some ⟨p, 0, none⟩)) hHeld (by intro w hS; dsimp only [oXw_0] at hS ⊢; go_simp) ?_
 try simp only [pA, pC, pD]
 refine tkH 1 oXw_1 10 (.pointer (some ⟨p, 0, none⟩)) hHeld (by intro w hS; dsimp only [oXw_1] at hS ⊢; go_simp) ?_
 try simp only [pA, pC, pD]
 refine tkH 2 oXw_2 11 (.pointer (some ⟨p, 9, none⟩)) hHeld (by intro w hS; dsimp only [oXw_2] at hS ⊢; go_simp) ?_
 try simp only [pA, pC, pD]
 refine tkH 3 oXw_3 12 (.map (some hb)) hHeld (by intro w hS; dsimp only [oXw_3] at hS ⊢; go_simp) ?_
 try simp only [pA, pC, pD]
 refine tkH 4 oXw_4 13 (.agg #[.int .i64 g, .int .i64 i]) hHeld (by intro w hS; dsimp only [oXw_4] at hS ⊢; go_simp) ?_
 try simp only [pA, pC, pD]
 refine wpAnyH_take (i := 5) (oi := { dst := some 14, op := Op.lookup 90 (Operand.tmp 12) (Operand.tmp 13) false, type := 3, pos := "diff.go:115", after := #[{ on := 3, ground := Ground.data }, { on := 4, ground := Ground.data }], guard := none }) (v := .int .i64 v) rfl (by kernel_rfl) (by kernel_rfl) (by kernel_rfl) (fun _ _ _ h => h) (Or.inl ⟨by rfl, ?_⟩) hHeld ?_
 ·(intro Y hSw; (try dsimp only at hSw); have hlk := LK.out Y hSw.2.2.2; go_simp)
 try simp only [Act.put, List.setIfInBounds_toArray, List.set_cons_zero, List.set_cons_succ]
 refine tkH 6 oXw_6 5 (.int .i64 v) hHeld (by intro w hS; dsimp only [oXw_6] at hS ⊢; go_simp) ?_
 try simp only [pA, pC, pD]
 refine wpAnyH_done (by kernel_rfl) ?_ _
 have hBD := HBA.out.trans ((bdrew wA).mono HBA.out.size)
 obtain ⟨wD, hwD⟩ : ∃ wD, wA.drew = wD := ⟨_, rfl⟩
 have hzD : wD.heap.size = wA.heap.size := by rw [← hwD]; rfl
 have HAD : Hid (Fl wD (fun b => b < wD.heap.size) 11 88 Al.cs aa A) := hidOf (by rw [← hwD]; exact HAA.out.kept (fun _ _ => rfl) (fun _ h => h))
 have HPD : Hid (wD.rangeAt p 0 (lkC d ga gc lb aa A.length ac (some hb) (some sb) ia il ic)) := hidOf (by rw [← hwD]; exact HPA.out)
 have HTD : Hid (MpR wD sb kI (unS T)) := hidOf (by rw [← hwD]; exact HTA.out)
 rw [hwD] at hBD ⊢
 have HBD := hidOf hBD
 have HZD := hidOf hzD
 have lpD : p < wD.heap.size := by omega
 have HLT := hidOf (show sb < wD.heap.size by have := HLT.out; omega)
 clear hwD hBD hzD HAA HPA HTA p9 b0 b1 lpA lxA
 rcases hrng with hv | ⟨m, hv, hm⟩
 ·subst hv
  go_wp2
  go_ret
  exact ⟨by simp [mvB], HBD.out⟩
 ·subst hv
  obtain ⟨b, off, ha, hQb, hcc⟩ := HAD.out.at m hm
  have hQb' : b < wD.heap.size := hQb
  obtain ⟨x, hx⟩ : ∃ x, A[m] = x := ⟨_, rfl⟩
  have HMV := hidOf (mvB_at d A T m hm x hx)
  rw [hx] at hcc
  have hcr : wD.rangeAt b (off + m * 11) (Al.cs x) := hcc
  clear hx
  subst ha
  have p8 : wD.cell? ⟨p, 8, none⟩ = some (.slice (some ⟨b, off, none⟩) A.length ac) := HPD.out 8 _ rfl
  have p10 : wD.cell? ⟨p, 10, none⟩ = some (.map (some sb)) := HPD.out 10 _ rfl
  have p5 : wD.cell? ⟨p, 5, none⟩ = some (.int .i64 d.ve) := HPD.out 5 _ rfl
  have hbl : b < wD.heap.size := hQb
  have c0 : wD.cell? ⟨b, off + m * 11, none⟩ = some (.int .i64 x.id) := hcr 0 _ rfl
  have c1 : wD.cell? ⟨b, off + m * 11 + 1, none⟩ = some (.int .i64 x.jb) := hcr 1 _ rfl
  have c2 : wD.cell? ⟨b, off + m * 11 + 2, none⟩ = some (.int .i64 x.ve) := hcr 2 _ rfl
  have c3 : wD.cell? ⟨b, off + m * 11 + 3, none⟩ = some (.int .i64 x.gr) := hcr 3 _ rfl
  have c4 : wD.cell? ⟨b, off + m * 11 + 4, none⟩ = some (.int .i64 x.ix) := hcr 4 _ rfl
  have c5 : wD.cell? ⟨b, off + m * 11 + 5, none⟩ = some (.int .i64 x.nd) := hcr 5 _ rfl
  have c6 : wD.cell? ⟨b, off + m * 11 + 6, none⟩ = some (.int .i64 x.ep) := hcr 6 _ rfl
  have c7 : wD.cell? ⟨b, off + m * 11 + 7, none⟩ = some (.int .i64 x.c) := hcr 7 _ rfl
  have c8 : wD.cell? ⟨b, off + m * 11 + 8, none⟩ = some (.int .i64 x.m) := hcr 8 _ rfl
  have c9 : wD.cell? ⟨b, off + m * 11 + 9, none⟩ = some (.bool x.sp) := hcr 9 _ rfl
  have c10 : wD.cell? ⟨b, off + m * 11 + 10, none⟩ = some (.int .i64 x.st) := hcr 10 _ rfl
  have hk0 : ¬ ((m : Int) < 0) := by omega
  have hk1 : (m : Int) < (A.length : Int) := by omega
  have hne : (((m : Int)) == -1) = false := by simp
  have hlk := unS_look (HTD.out.keep (w' := wD.alloc (.cells #[.int .i64 x.id, .int .i64 x.jb, .int .i64 x.ve, .int .i64 x.gr, .int .i64 x.ix, .int .i64 x.nd, .int .i64 x.ep, .int .i64 x.c, .int .i64 x.m, .bool x.sp, .int .i64 x.st] 42)) ((below1 wD _).block sb HLT.out)) (m : Int)
  have HBX := hidOf (box_new (wr := wD) (cs := Al.cs x) (t := 42) (below1 (wD.alloc (.cells #[.int .i64 x.id, .int .i64 x.jb, .int .i64 x.ve, .int .i64 x.gr, .int .i64 x.ix, .int .i64 x.nd, .int .i64 x.ep, .int .i64 x.c, .int .i64 x.m, .bool x.sp, .int .i64 x.st] 42)) (.cells #[] 115)))
  have HBC := hidOf (HBD.out.trans ((below2 wD (.cells #[.int .i64 x.id, .int .i64 x.jb, .int .i64 x.ve, .int .i64 x.gr, .int .i64 x.ix, .int .i64 x.nd, .int .i64 x.ep, .int .i64 x.c, .int .i64 x.m, .bool x.sp, .int .i64 x.st] 42) (.cells #[] 115)).mono HBD.out.size))
  have HPC := hidOf (((below2 wD (.cells #[.int .i64 x.id, .int .i64 x.jb, .int .i64 x.ve, .int .i64 x.gr, .int .i64 x.ix, .int .i64 x.nd, .int .i64 x.ep, .int .i64 x.c, .int .i64 x.m, .bool x.sp, .int .i64 x.st] 42) (.cells #[] 115)).block p lpD))
  cases hmT : decide ((m : Int) ∈ T) with
  | true =>
   rw [hmT] at hlk
   have HMT := hidOf hmT
   clear hmT
   go_upto_region 6 with (fail)
   obtain ⟨wC, hwC⟩ : ∃ wC, (wD.alloc (.cells #[.int .i64 x.id, .int .i64 x.jb, .int .i64 x.ve, .int .i64 x.gr, .int .i64 x.ix, .int .i64 x.nd, .int .i64 x.ep, .int .i64 x.c, .int .i64 x.m, .bool x.sp, .int .i64 x.st] 42)).alloc (.cells #[] 115) = wC := ⟨_, rfl⟩
   rw [hwC]
   have hBX : wC.rangeAt wD.heap.size 0 (Al.cs x) := by rw [← hwC]; exact HBX.out
   have hPC : wC.heap[p]? = wD.heap[p]? := by rw [← hwC]; exact HPC.out
   have hBC : Below w.heap.size w wC := by rw [← hwC]; exact HBC.out
   clear hwC HBX HPC HBC hlk
   obtain ⟨B, hB⟩ : ∃ B, wD.heap.size = B := ⟨_, rfl⟩
   have hBX : wC.rangeAt B 0 (Al.cs x) := by rw [← hB]; exact hBX
   rw [hB]
   have g9 : wC.cell? ⟨B, 9, none⟩ = some (.bool x.sp) := hBX 9 _ rfl
   have g2 : wC.cell? ⟨B, 2, none⟩ = some (.int .i64 x.ve) := hBX 2 _ rfl
   have g10 : wC.cell? ⟨B, 10, none⟩ = some (.int .i64 x.st) := hBX 10 _ rfl
   have g5 : wC.cell? ⟨p, 5, none⟩ = some (.int .i64 d.ve) := (World.cell?_of_block hPC).trans p5
   have HBC2 := hidOf (hBC.trans ((bdrew wC).mono hBC.size))
   have lBC : B < wC.heap.size := lt_of_cell g9
   have lpC : p < wC.heap.size := lt_of_cell g5
   clear hBX hPC hBC c0 c1 c2 c3 c4 c5 c6 c7 c8 c9 c10 p5 p8 p10
   refine wp_region_held_drew (S := fun (Y : World) => Y.cell? ⟨B, 9, none⟩ = some (.bool x.sp) ∧ Y.cell? ⟨B, 2, none⟩ = some (.int .i64 x.ve) ∧ Y.cell? ⟨B, 10, none⟩ = some (.int .i64 x.st) ∧ Y.cell? ⟨p, 5, none⟩ = some (.int .i64 d.ve)) (by kernel_rfl) ⟨g9, g2, g10, g5⟩ (fun hHeld => ?_)
   refine tkH 0 oXw_7 33 (.bool true) hHeld (by intro w hS; dsimp only [oXw_7] at hS ⊢; go_simp) ?_
   try simp only [pA, pC, pD]
   refine tkH 1 oXw_8 34 (.bool true) hHeld (by intro w hS; dsimp only [oXw_8] at hS ⊢; go_simp) ?_
   try simp only [pA, pC, pD]
   refine tkN 2 oXw_9 35 hHeld ?_
   try simp only [pA, pC, pD]
   refine tkN 3 oXw_10 36 hHeld ?_
   try simp only [pA, pC, pD]
   refine tkH 4 oXw_11 37 (.bool true) hHeld (by intro w hS; dsimp only [oXw_11] at hS ⊢; go_simp) ?_
   try simp only [pA, pC, pD]
   refine tkH 5 oXw_12 38 (.bool true) hHeld (by intro w hS; dsimp only [oXw_12] at hS ⊢; go_simp) ?_
   try simp only [pA, pC, pD]
   refine tkN 6 oXw_13 39 hHeld ?_
   try simp only [pA, pC, pD]
   refine tkN 7 oXw_14 40 hHeld ?_
   try simp only [pA, pC, pD]
   refine tkN 8 oXw_15 41 hHeld ?_
   try simp only [pA, pC, pD]
   refine tkN 9 oXw_16 42 hHeld ?_
   try simp only [pA, pC, pD]
   refine tkN 10 oXw_17 43 hHeld ?_
   try simp only [pA, pC, pD]
   refine tkN 11 oXw_18 44 hHeld ?_
   try simp only [pA, pC, pD]
   refine tkN 12 oXw_19 45 hHeld ?_
   try simp only [pA, pC, pD]
   refine tkN 13 oXw_20 46 hHeld ?_
   try simp only [pA, pC, pD]
   refine tkN 14 oXw_21 47 hHeld ?_
   try simp only [pA, pC, pD]
   refine tkN 15 oXw_22 48 hHeld ?_
   try simp only [pA, pC, pD]
   refine tkN 16 oXw_23 49 hHeld ?_
   try simp only [pA, pC, pD]
   refine tkN 17 oXw_24 50 hHeld ?_
   try simp only [pA, pC, pD]
   refine tkN 18 oXw_25 51 hHeld ?_
   try simp only [pA, pC, pD]
   refine tkH 19 oXw_26 52 (.bool true) hHeld (by intro w hS; dsimp only [oXw_26] at hS ⊢; go_simp) ?_
   try simp only [pA, pC, pD]
   refine tkH 20 oXw_27 4 (.bool true) hHeld (by intro w hS; dsimp only [oXw_27] at hS ⊢; go_simp) ?_
   try simp only [pA, pC, pD]
   refine wpAnyH_done (by kernel_rfl) ?_ _
   go_wp2
   go_ret
   exact ⟨by rw [HMV.out, HMT.out]; rfl, HBC2.out⟩
  | false =>
   rw [hmT] at hlk
   have HMT := hidOf hmT
   clear hmT
   go_upto_region 6 with (fail)
   obtain ⟨wC, hwC⟩ : ∃ wC, (wD.alloc (.cells #[.int .i64 x.id, .int .i64 x.jb, .int .i64 x.ve, .int .i64 x.gr, .int .i64 x.ix, .int .i64 x.nd, .int .i64 x.ep, .int .i64 x.c, .int .i64 x.m, .bool x.sp, .int .i64 x.st] 42)).alloc (.cells #[] 115) = wC := ⟨_, rfl⟩
   rw [hwC]
   have hBX : wC.rangeAt wD.heap.size 0 (Al.cs x) := by rw [← hwC]; exact HBX.out
   have hPC : wC.heap[p]? = wD.heap[p]? := by rw [← hwC]; exact HPC.out
   have hBC : Below w.heap.size w wC := by rw [← hwC]; exact HBC.out
   clear hwC HBX HPC HBC hlk
   obtain ⟨B, hB⟩ : ∃ B, wD.heap.size = B := ⟨_, rfl⟩
   have hBX : wC.rangeAt B 0 (Al.cs x) := by rw [← hB]; exact hBX
   rw [hB]
   have g9 : wC.cell? ⟨B, 9, none⟩ = some (.bool x.sp) := hBX 9 _ rfl
   have g2 : wC.cell? ⟨B, 2, none⟩ = some (.int .i64 x.ve) := hBX 2 _ rfl
   have g10 : wC.cell? ⟨B, 10, none⟩ = some (.int .i64 x.st) := hBX 10 _ rfl
   have g5 : wC.cell? ⟨p, 5, none⟩ = some (.int .i64 d.ve) := (World.cell?_of_block hPC).trans p5
   have HBC2 := hidOf (hBC.trans ((bdrew wC).mono hBC.size))
   have lBC : B < wC.heap.size := lt_of_cell g9
   have lpC : p < wC.heap.size := lt_of_cell g5
   clear hBX hPC hBC c0 c1 c2 c3 c4 c5 c6 c7 c8 c9 c10 p5 p8 p10
   cases hsp : x.sp with
   | true =>
    rw [hsp] at g9
    refine wp_region_held_drew (S := fun (Y : World) => Y.cell? ⟨B, 9, none⟩ = some (.bool true) ∧ Y.cell? ⟨B, 2, none⟩ = some (.int .i64 x.ve) ∧ Y.cell? ⟨B, 10, none⟩ = some (.int .i64 x.st) ∧ Y.cell? ⟨p, 5, none⟩ = some (.int .i64 d.ve)) (by kernel_rfl) ⟨g9, g2, g10, g5⟩ (fun hHeld => ?_)
    refine tkH 0 oXw_7 33 (.bool false) hHeld (by intro w hS; dsimp only [oXw_7] at hS ⊢; go_simp) ?_
    try simp only [pA, pC, pD]
    refine tkH 1 oXw_8 34 (.bool false) hHeld (by intro w hS; dsimp only [oXw_8] at hS ⊢; go_simp) ?_
    try simp only [pA, pC, pD]
    refine tkH 2 oXw_9 35 (.pointer (some ⟨B, 9, none⟩)) hHeld (by intro w hS; dsimp only [oXw_9] at hS ⊢; go_simp) ?_
    try simp only [pA, pC, pD]
    refine tkH 3 oXw_10 36 (.bool true) hHeld (by intro w hS; dsimp only [oXw_10] at hS ⊢; go_simp) ?_
    try simp only [pA, pC, pD]
    refine tkH 4 oXw_11 37 (.bool true) hHeld (by intro w hS; dsimp only [oXw_11] at hS ⊢; go_simp) ?_
    try simp only [pA, pC, pD]
    refine tkH 5 oXw_12 38 (.bool true) hHeld (by intro w hS; dsimp only [oXw_12] at hS ⊢; go_simp) ?_
    try simp only [pA, pC, pD]
    refine tkN 6 oXw_13 39 hHeld ?_
    try simp only [pA, pC, pD]
    refine tkN 7 oXw_14 40 hHeld ?_
    try simp only [pA, pC, pD]
    refine tkN 8 oXw_15 41 hHeld ?_
    try simp only [pA, pC, pD]
    refine tkN 9 oXw_16 42 hHeld ?_
    try simp only [pA, pC, pD]
    refine tkN 10 oXw_17 43 hHeld ?_
    try simp only [pA, pC, pD]
    refine tkN 11 oXw_18 44 hHeld ?_
    try simp only [pA, pC, pD]
    refine tkN 12 oXw_19 45 hHeld ?_
    try simp only [pA, pC, pD]
    refine tkN 13 oXw_20 46 hHeld ?_
    try simp only [pA, pC, pD]
    refine tkN 14 oXw_21 47 hHeld ?_
    try simp only [pA, pC, pD]
    refine tkN 15 oXw_22 48 hHeld ?_
    try simp only [pA, pC, pD]
    refine tkN 16 oXw_23 49 hHeld ?_
    try simp only [pA, pC, pD]
    refine tkN 17 oXw_24 50 hHeld ?_
    try simp only [pA, pC, pD]
    refine tkN 18 oXw_25 51 hHeld ?_
    try simp only [pA, pC, pD]
    refine tkH 19 oXw_26 52 (.bool true) hHeld (by intro w hS; dsimp only [oXw_26] at hS ⊢; go_simp) ?_
    try simp only [pA, pC, pD]
    refine tkH 20 oXw_27 4 (.bool true) hHeld (by intro w hS; dsimp only [oXw_27] at hS ⊢; go_simp) ?_
    try simp only [pA, pC, pD]
    refine wpAnyH_done (by kernel_rfl) ?_ _
    go_wp2
    go_ret
    exact ⟨by rw [HMV.out, HMT.out, hsp]; rfl, HBC2.out⟩
   | false =>
    rw [hsp] at g9
    by_cases hve : x.ve = d.ve
    ·have hv1 : (x.ve == d.ve) = true := by simp [hve]
     have HVE := hidOf hve
     clear hve
     by_cases hst : x.st = 2
     ·have hs1 : (x.st != 2) = false := by simp [hst]
      have hs2 : (x.st == 2) = true := by simp [hst]
      have HST := hidOf hst
      clear hst
      refine wp_region_held_drew (S := fun (Y : World) => Y.cell? ⟨B, 9, none⟩ = some (.bool false) ∧ Y.cell? ⟨B, 2, none⟩ = some (.int .i64 x.ve) ∧ Y.cell? ⟨B, 10, none⟩ = some (.int .i64 x.st) ∧ Y.cell? ⟨p, 5, none⟩ = some (.int .i64 d.ve)) (by kernel_rfl) ⟨g9, g2, g10, g5⟩ (fun hHeld => ?_)
      refine tkH 0 oXw_7 33 (.bool false) hHeld (by intro w hS; dsimp only [oXw_7] at hS ⊢; go_simp) ?_
      try simp only [pA, pC, pD]
      refine tkH 1 oXw_8 34 (.bool false) hHeld (by intro w hS; dsimp only [oXw_8] at hS ⊢; go_simp) ?_
      try simp only [pA, pC, pD]
      refine tkH 2 oXw_9 35 (.pointer (some ⟨B, 9, none⟩)) hHeld (by intro w hS; dsimp only [oXw_9] at hS ⊢; go_simp) ?_
      try simp only [pA, pC, pD]
      refine tkH 3 oXw_10 36 (.bool false) hHeld (by intro w hS; dsimp only [oXw_10] at hS ⊢; go_simp) ?_
      try simp only [pA, pC, pD]
      refine tkH 4 oXw_11 37 (.bool false) hHeld (by intro w hS; dsimp only [oXw_11] at hS ⊢; go_simp) ?_
      try simp only [pA, pC, pD]
      refine tkH 5 oXw_12 38 (.bool false) hHeld (by intro w hS; dsimp only [oXw_12] at hS ⊢; go_simp) ?_
      try simp only [pA, pC, pD]
      refine tkH 6 oXw_13 39 (.pointer (some ⟨B, 2, none⟩)) hHeld (by intro w hS; dsimp only [oXw_13] at hS ⊢; go_simp) ?_
      try simp only [pA, pC, pD]
      refine tkH 7 oXw_14 40 (.int .i64 x.ve) hHeld (by intro w hS; dsimp only [oXw_14] at hS ⊢; go_simp) ?_
      try simp only [pA, pC, pD]
      refine tkH 8 oXw_15 41 (.pointer (some ⟨p, 0, none⟩)) hHeld (by intro w hS; dsimp only [oXw_15] at hS ⊢; go_simp) ?_
      try simp only [pA, pC, pD]
      refine tkH 9 oXw_16 42 (.pointer (some ⟨p, 0, none⟩)) hHeld (by intro w hS; dsimp only [oXw_16] at hS ⊢; go_simp) ?_
      try simp only [pA, pC, pD]
      refine tkH 10 oXw_17 43 (.pointer (some ⟨p, 0, none⟩)) hHeld (by intro w hS; dsimp only [oXw_17] at hS ⊢; go_simp) ?_
      try simp only [pA, pC, pD]
      refine tkH 11 oXw_18 44 (.pointer (some ⟨p, 5, none⟩)) hHeld (by intro w hS; dsimp only [oXw_18] at hS ⊢; go_simp) ?_
      try simp only [pA, pC, pD]
      refine tkH 12 oXw_19 45 (.int .i64 d.ve) hHeld (by intro w hS; dsimp only [oXw_19] at hS ⊢; go_simp) ?_
      try simp only [pA, pC, pD]
      refine tkH 13 oXw_20 46 (.bool true) hHeld (by intro w hS; dsimp only [oXw_20] at hS ⊢; go_simp) ?_
      try simp only [pA, pC, pD]
      refine tkH 14 oXw_21 47 (.bool true) hHeld (by intro w hS; dsimp only [oXw_21] at hS ⊢; go_simp) ?_
      try simp only [pA, pC, pD]
      refine tkH 15 oXw_22 48 (.pointer (some ⟨B, 10, none⟩)) hHeld (by intro w hS; dsimp only [oXw_22] at hS ⊢; go_simp) ?_
      try simp only [pA, pC, pD]
      refine tkH 16 oXw_23 49 (.int .i64 x.st) hHeld (by intro w hS; dsimp only [oXw_23] at hS ⊢; go_simp) ?_
      try simp only [pA, pC, pD]
      refine tkH 17 oXw_24 50 (.bool false) hHeld (by intro w hS; dsimp only [oXw_24] at hS ⊢; go_simp) ?_
      try simp only [pA, pC, pD]
      refine tkH 18 oXw_25 51 (.bool false) hHeld (by intro w hS; dsimp only [oXw_25] at hS ⊢; go_simp) ?_
      try simp only [pA, pC, pD]
      refine tkH 19 oXw_26 52 (.bool false) hHeld (by intro w hS; dsimp only [oXw_26] at hS ⊢; go_simp) ?_
      try simp only [pA, pC, pD]
      refine tkH 20 oXw_27 4 (.bool false) hHeld (by intro w hS; dsimp only [oXw_27] at hS ⊢; go_simp) ?_
      try simp only [pA, pC, pD]
      refine wpAnyH_done (by kernel_rfl) ?_ _
      go_wp2
      go_ret
      exact ⟨by rw [HMV.out, HMT.out, hsp, decide_eq_true HVE.out, decide_eq_true HST.out]; rfl, HBC2.out⟩
     ·have hs1 : (x.st != 2) = true := by simp [hst]
      have hs2 : (x.st == 2) = false := by simp [hst]
      have HST := hidOf hst
      clear hst
      refine wp_region_held_drew (S := fun (Y : World) => Y.cell? ⟨B, 9, none⟩ = some (.bool false) ∧ Y.cell? ⟨B, 2, none⟩ = some (.int .i64 x.ve) ∧ Y.cell? ⟨B, 10, none⟩ = some (.int .i64 x.st) ∧ Y.cell? ⟨p, 5, none⟩ = some (.int .i64 d.ve)) (by kernel_rfl) ⟨g9, g2, g10, g5⟩ (fun hHeld => ?_)
      refine tkH 0 oXw_7 33 (.bool false) hHeld (by intro w hS; dsimp only [oXw_7] at hS ⊢; go_simp) ?_
      try simp only [pA, pC, pD]
      refine tkH 1 oXw_8 34 (.bool false) hHeld (by intro w hS; dsimp only [oXw_8] at hS ⊢; go_simp) ?_
      try simp only [pA, pC, pD]
      refine tkH 2 oXw_9 35 (.pointer (some ⟨B, 9, none⟩)) hHeld (by intro w hS; dsimp only [oXw_9] at hS ⊢; go_simp) ?_
      try simp only [pA, pC, pD]
      refine tkH 3 oXw_10 36 (.bool false) hHeld (by intro w hS; dsimp only [oXw_10] at hS ⊢; go_simp) ?_
      try simp only [pA, pC, pD]
      refine tkH 4 oXw_11 37 (.bool false) hHeld (by intro w hS; dsimp only [oXw_11] at hS ⊢; go_simp) ?_
      try simp only [pA, pC, pD]
      refine tkH 5 oXw_12 38 (.bool false) hHeld (by intro w hS; dsimp only [oXw_12] at hS ⊢; go_simp) ?_
      try simp only [pA, pC, pD]
      refine tkH 6 oXw_13 39 (.pointer (some ⟨B, 2, none⟩)) hHeld (by intro w hS; dsimp only [oXw_13] at hS ⊢; go_simp) ?_
      try simp only [pA, pC, pD]
      refine tkH 7 oXw_14 40 (.int .i64 x.ve) hHeld (by intro w hS; dsimp only [oXw_14] at hS ⊢; go_simp) ?_
      try simp only [pA, pC, pD]
      refine tkH 8 oXw_15 41 (.pointer (some ⟨p, 0, none⟩)) hHeld (by intro w hS; dsimp only [oXw_15] at hS ⊢; go_simp) ?_
      try simp only [pA, pC, pD]
      refine tkH 9 oXw_16 42 (.pointer (some ⟨p, 0, none⟩)) hHeld (by intro w hS; dsimp only [oXw_16] at hS ⊢; go_simp) ?_
      try simp only [pA, pC, pD]
      refine tkH 10 oXw_17 43 (.pointer (some ⟨p, 0, none⟩)) hHeld (by intro w hS; dsimp only [oXw_17] at hS ⊢; go_simp) ?_
      try simp only [pA, pC, pD]
      refine tkH 11 oXw_18 44 (.pointer (some ⟨p, 5, none⟩)) hHeld (by intro w hS; dsimp only [oXw_18] at hS ⊢; go_simp) ?_
      try simp only [pA, pC, pD]
      refine tkH 12 oXw_19 45 (.int .i64 d.ve) hHeld (by intro w hS; dsimp only [oXw_19] at hS ⊢; go_simp) ?_
      try simp only [pA, pC, pD]
      refine tkH 13 oXw_20 46 (.bool true) hHeld (by intro w hS; dsimp only [oXw_20] at hS ⊢; go_simp) ?_
      try simp only [pA, pC, pD]
      refine tkH 14 oXw_21 47 (.bool true) hHeld (by intro w hS; dsimp only [oXw_21] at hS ⊢; go_simp) ?_
      try simp only [pA, pC, pD]
      refine tkH 15 oXw_22 48 (.pointer (some ⟨B, 10, none⟩)) hHeld (by intro w hS; dsimp only [oXw_22] at hS ⊢; go_simp) ?_
      try simp only [pA, pC, pD]
      refine tkH 16 oXw_23 49 (.int .i64 x.st) hHeld (by intro w hS; dsimp only [oXw_23] at hS ⊢; go_simp) ?_
      try simp only [pA, pC, pD]
      refine tkH 17 oXw_24 50 (.bool true) hHeld (by intro w hS; dsimp only [oXw_24] at hS ⊢; go_simp) ?_
      try simp only [pA, pC, pD]
      refine tkH 18 oXw_25 51 (.bool true) hHeld (by intro w hS; dsimp only [oXw_25] at hS ⊢; go_simp) ?_
      try simp only [pA, pC, pD]
      refine tkH 19 oXw_26 52 (.bool true) hHeld (by intro w hS; dsimp only [oXw_26] at hS ⊢; go_simp) ?_
      try simp only [pA, pC, pD]
      refine tkH 20 oXw_27 4 (.bool true) hHeld (by intro w hS; dsimp only [oXw_27] at hS ⊢; go_simp) ?_
      try simp only [pA, pC, pD]
      refine wpAnyH_done (by kernel_rfl) ?_ _
      go_wp2
      go_ret
      exact ⟨by rw [HMV.out, HMT.out, hsp, decide_eq_true HVE.out, decide_eq_false HST.out]; rfl, HBC2.out⟩
    ·have hv1 : (x.ve == d.ve) = false := by simp [hve]
     have HVE := hidOf hve
     clear hve
     refine wp_region_held_drew (S := fun (Y : World) => Y.cell? ⟨B, 9, none⟩ = some (.bool false) ∧ Y.cell? ⟨B, 2, none⟩ = some (.int .i64 x.ve) ∧ Y.cell? ⟨B, 10, none⟩ = some (.int .i64 x.st) ∧ Y.cell? ⟨p, 5, none⟩ = some (.int .i64 d.ve)) (by kernel_rfl) ⟨g9, g2, g10, g5⟩ (fun hHeld => ?_)
     refine tkH 0 oXw_7 33 (.bool false) hHeld (by intro w hS; dsimp only [oXw_7] at hS ⊢; go_simp) ?_
     try simp only [pA, pC, pD]
     refine tkH 1 oXw_8 34 (.bool false) hHeld (by intro w hS; dsimp only [oXw_8] at hS ⊢; go_simp) ?_
     try simp only [pA, pC, pD]
     refine tkH 2 oXw_9 35 (.pointer (some ⟨B, 9, none⟩)) hHeld (by intro w hS; dsimp only [oXw_9] at hS ⊢; go_simp) ?_
     try simp only [pA, pC, pD]
     refine tkH 3 oXw_10 36 (.bool false) hHeld (by intro w hS; dsimp only [oXw_10] at hS ⊢; go_simp) ?_
     try simp only [pA, pC, pD]
     refine tkH 4 oXw_11 37 (.bool false) hHeld (by intro w hS; dsimp only [oXw_11] at hS ⊢; go_simp) ?_
     try simp only [pA, pC, pD]
     refine tkH 5 oXw_12 38 (.bool false) hHeld (by intro w hS; dsimp only [oXw_12] at hS ⊢; go_simp) ?_
     try simp only [pA, pC, pD]
     refine tkH 6 oXw_13 39 (.pointer (some ⟨B, 2, none⟩)) hHeld (by intro w hS; dsimp only [oXw_13] at hS ⊢; go_simp) ?_
     try simp only [pA, pC, pD]
     refine tkH 7 oXw_14 40 (.int .i64 x.ve) hHeld (by intro w hS; dsimp only [oXw_14] at hS ⊢; go_simp) ?_
     try simp only [pA, pC, pD]
     refine tkH 8 oXw_15 41 (.pointer (some ⟨p, 0, none⟩)) hHeld (by intro w hS; dsimp only [oXw_15] at hS ⊢; go_simp) ?_
     try simp only [pA, pC, pD]
     refine tkH 9 oXw_16 42 (.pointer (some ⟨p, 0, none⟩)) hHeld (by intro w hS; dsimp only [oXw_16] at hS ⊢; go_simp) ?_
     try simp only [pA, pC, pD]
     refine tkH 10 oXw_17 43 (.pointer (some ⟨p, 0, none⟩)) hHeld (by intro w hS; dsimp only [oXw_17] at hS ⊢; go_simp) ?_
     try simp only [pA, pC, pD]
     refine tkH 11 oXw_18 44 (.pointer (some ⟨p, 5, none⟩)) hHeld (by intro w hS; dsimp only [oXw_18] at hS ⊢; go_simp) ?_
     try simp only [pA, pC, pD]
     refine tkH 12 oXw_19 45 (.int .i64 d.ve) hHeld (by intro w hS; dsimp only [oXw_19] at hS ⊢; go_simp) ?_
     try simp only [pA, pC, pD]
     refine tkH 13 oXw_20 46 (.bool false) hHeld (by intro w hS; dsimp only [oXw_20] at hS ⊢; go_simp) ?_
     try simp only [pA, pC, pD]
     refine tkH 14 oXw_21 47 (.bool false) hHeld (by intro w hS; dsimp only [oXw_21] at hS ⊢; go_simp) ?_
     try simp only [pA, pC, pD]
     refine tkN 15 oXw_22 48 hHeld ?_
     try simp only [pA, pC, pD]
     refine tkN 16 oXw_23 49 hHeld ?_
     try simp only [pA, pC, pD]
     refine tkN 17 oXw_24 50 hHeld ?_
     try simp only [pA, pC, pD]
     refine tkH 18 oXw_25 51 (.bool false) hHeld (by intro w hS; dsimp only [oXw_25] at hS ⊢; go_simp) ?_
     try simp only [pA, pC, pD]
     refine tkH 19 oXw_26 52 (.bool false) hHeld (by intro w hS; dsimp only [oXw_26] at hS ⊢; go_simp) ?_
     try simp only [pA, pC, pD]
     refine tkH 20 oXw_27 4 (.bool false) hHeld (by intro w hS; dsimp only [oXw_27] at hS ⊢; go_simp) ?_
     try simp only [pA, pC, pD]
     refine wpAnyH_done (by kernel_rfl) ?_ _
     go_wp2
     go_ret
     exact ⟨by rw [HMV.out, HMT.out, hsp, decide_eq_false HVE.out]; rfl, HBC2.out⟩
end Go.Proofs.Ytblofbdncolikaa
