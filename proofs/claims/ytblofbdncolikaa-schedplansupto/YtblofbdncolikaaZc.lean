/- What is not wanted as it stands is stopped: the code's stopUnwanted. -/
import Derived.Test.YtblofbdncolikaaTk
import Derived.Test.YtblofbdncolikaaZb
namespace Go.Proofs.Ytblofbdncolikaa
open Go.RowKit Go.Shelf
def oZc_0 : Oper := { dst := some 22, op := Op.fieldAddr 42 (Operand.tmp 6) 1, type := 0, pos := "diff.go:65", after := #[], guard := none }
def oZc_1 : Oper := { dst := some 23, op := Op.load 3 (Operand.tmp 22), type := 3, pos := "diff.go:65", after := #[{ on := 0, ground := Ground.data }], guard := none }
def oZc_2 : Oper := { dst := some 24, op := Op.move (Operand.tmp 0), type := 85, pos := "diff.go:65", after := #[], guard := none }
def oZc_3 : Oper := { dst := some 25, op := Op.nilCheck (Operand.tmp 24), type := 0, pos := "diff.go:65", after := #[{ on := 2, ground := Ground.data }], guard := none }
def oZc_4 : Oper := { dst := some 26, op := Op.fieldAddr 93 (Operand.tmp 25) 0, type := 0, pos := "diff.go:65", after := #[{ on := 3, ground := Ground.data }], guard := none }
def oZc_5 : Oper := { dst := some 27, op := Op.fieldAddr 51 (Operand.tmp 26) 0, type := 0, pos := "diff.go:65", after := #[{ on := 4, ground := Ground.data }], guard := none }
def oZc_6 : Oper := { dst := some 28, op := Op.load 3 (Operand.tmp 27), type := 3, pos := "diff.go:65", after := #[{ on := 5, ground := Ground.data }], guard := none }
def oZc_7 : Oper := { dst := some 29, op := Op.binOp BinOp.neq 3 (Operand.tmp 23) (Operand.tmp 28) 3, type := 4, pos := "diff.go:65", after := #[{ on := 1, ground := Ground.data }, { on := 6, ground := Ground.data }], guard := none }
def oZc_8 : Oper := { dst := some 30, op := Op.move (Operand.tmp 29), type := 4, pos := "diff.go:65", after := #[{ on := 7, ground := Ground.data }], guard := none }
def oZc_9 : Oper := { dst := some 31, op := Op.load 42 (Operand.tmp 6), type := 42, pos := "diff.go:65", after := #[{ on := 8, ground := Ground.guard }], guard := some (8, false) }
def oZc_10 : Oper := { dst := some 33, op := Op.pick (Operand.tmp 30) (Operand.const (Value.bool true)) (Operand.tmp 32), type := 4, pos := "diff.go:65", after := #[{ on := 8, ground := Ground.data }, { on := 10, ground := Ground.data }], guard := none }
def oZc_11 : Oper := { dst := some 34, op := Op.move (Operand.tmp 33), type := 4, pos := "diff.go:65", after := #[{ on := 11, ground := Ground.data }, { on := 10, ground := Ground.chain }], guard := none }
def oZc_12 : Oper := { dst := some 35, op := Op.fieldAddr 42 (Operand.tmp 6) 8, type := 0, pos := "diff.go:65", after := #[{ on := 12, ground := Ground.guard }], guard := some (12, false) }
def oZc_13 : Oper := { dst := some 36, op := Op.load 4 (Operand.tmp 35), type := 4, pos := "diff.go:65", after := #[{ on := 13, ground := Ground.data }, { on := 12, ground := Ground.guard }], guard := some (12, false) }
def oZc_14 : Oper := { dst := some 37, op := Op.pick (Operand.tmp 34) (Operand.const (Value.bool true)) (Operand.tmp 36), type := 4, pos := "diff.go:65", after := #[{ on := 12, ground := Ground.data }, { on := 14, ground := Ground.data }], guard := none }
def oZc_15 : Oper := { dst := some 39, op := Op.move (Operand.tmp 0), type := 85, pos := "diff.go:68", after := #[], guard := none }
def oZc_16 : Oper := { dst := some 40, op := Op.nilCheck (Operand.tmp 39), type := 0, pos := "diff.go:68", after := #[{ on := 0, ground := Ground.data }], guard := none }
def oZc_17 : Oper := { dst := some 41, op := Op.fieldAddr 93 (Operand.tmp 40) 3, type := 0, pos := "diff.go:68", after := #[{ on := 1, ground := Ground.data }], guard := none }
def oZc_18 : Oper := { dst := some 42, op := Op.load 90 (Operand.tmp 41), type := 90, pos := "diff.go:68", after := #[{ on := 2, ground := Ground.data }], guard := none }
def oZc_19 : Oper := { dst := some 43, op := Op.load 42 (Operand.tmp 6), type := 42, pos := "diff.go:68", after := #[], guard := none }
def oZc_20 : Oper := { dst := some 45, op := Op.lookup 90 (Operand.tmp 42) (Operand.tmp 44) true, type := 69, pos := "diff.go:68", after := #[{ on := 3, ground := Ground.data }, { on := 5, ground := Ground.data }], guard := none }
def oZc_21 : Oper := { dst := some 38, op := Op.move (Operand.tmp 45), type := 69, pos := "diff.go:68", after := #[{ on := 6, ground := Ground.data }], guard := none }
def oZc_22 : Oper := { dst := some 46, op := Op.extract (Operand.tmp 38) 0, type := 3, pos := "diff.go:68", after := #[{ on := 7, ground := Ground.data }], guard := none }
def oZc_23 : Oper := { dst := some 47, op := Op.extract (Operand.tmp 38) 1, type := 4, pos := "diff.go:68", after := #[{ on := 7, ground := Ground.data }, { on := 10, ground := Ground.gcOnly Departure.lateStores }], guard := none }
def oZc_24 : Oper := { dst := some 7, op := Op.assign (Operand.tmp 46), type := 3, pos := "diff.go:68", after := #[{ on := 8, ground := Ground.data }, { on := 5, ground := Ground.chain }, { on := 0, ground := Ground.phase }, { on := 1, ground := Ground.phase }, { on := 2, ground := Ground.phase }, { on := 3, ground := Ground.phase }, { on := 4, ground := Ground.phase }, { on := 5, ground := Ground.phase }, { on := 6, ground := Ground.phase }, { on := 7, ground := Ground.phase }, { on := 8, ground := Ground.phase }, { on := 9, ground := Ground.textOnly Departure.lateStores }], guard := none }
def oZc_25 : Oper := { dst := some 8, op := Op.assign (Operand.tmp 47), type := 4, pos := "diff.go:68", after := #[{ on := 9, ground := Ground.data }, { on := 10, ground := Ground.chain }, { on := 0, ground := Ground.phase }, { on := 1, ground := Ground.phase }, { on := 2, ground := Ground.phase }, { on := 3, ground := Ground.phase }, { on := 4, ground := Ground.phase }, { on := 5, ground := Ground.phase }, { on := 6, ground := Ground.phase }, { on := 7, ground := Ground.phase }, { on := 8, ground := Ground.phase }, { on := 9, ground := Ground.phase }, { on := 10, ground := Ground.phase }], guard := none }
def oZc_26 : Oper := { dst := some 48, op := Op.move (Operand.tmp 0), type := 85, pos := "diff.go:69", after := #[], guard := none }
def oZc_27 : Oper := { dst := some 49, op := Op.nilCheck (Operand.tmp 48), type := 0, pos := "diff.go:69", after := #[{ on := 0, ground := Ground.data }], guard := none }
def oZc_28 : Oper := { dst := some 50, op := Op.fieldAddr 93 (Operand.tmp 49) 0, type := 0, pos := "diff.go:69", after := #[{ on := 1, ground := Ground.data }], guard := none }
def oZc_29 : Oper := { dst := some 51, op := Op.fieldAddr 51 (Operand.tmp 50) 1, type := 0, pos := "diff.go:69", after := #[{ on := 2, ground := Ground.data }], guard := none }
def oZc_30 : Oper := { dst := some 52, op := Op.load 3 (Operand.tmp 51), type := 3, pos := "diff.go:69", after := #[{ on := 3, ground := Ground.data }], guard := none }
def oZc_31 : Oper := { dst := some 53, op := Op.binOp BinOp.neq 3 (Operand.tmp 52) (Operand.const (Value.int IntKind.i64 1)) 3, type := 4, pos := "diff.go:69", after := #[{ on := 4, ground := Ground.data }], guard := none }
def oZc_32 : Oper := { dst := some 54, op := Op.move (Operand.tmp 53), type := 4, pos := "diff.go:69", after := #[{ on := 5, ground := Ground.data }], guard := none }
def oZc_33 : Oper := { dst := some 55, op := Op.fieldAddr 42 (Operand.tmp 6) 2, type := 0, pos := "diff.go:69", after := #[{ on := 6, ground := Ground.guard }], guard := some (6, true) }
def oZc_34 : Oper := { dst := some 56, op := Op.load 3 (Operand.tmp 55), type := 3, pos := "diff.go:69", after := #[{ on := 7, ground := Ground.data }, { on := 6, ground := Ground.guard }], guard := some (6, true) }
def oZc_35 : Oper := { dst := some 57, op := Op.move (Operand.tmp 0), type := 85, pos := "diff.go:69", after := #[{ on := 6, ground := Ground.guard }], guard := some (6, true) }
def oZc_36 : Oper := { dst := some 58, op := Op.nilCheck (Operand.tmp 57), type := 0, pos := "diff.go:69", after := #[{ on := 9, ground := Ground.data }, { on := 6, ground := Ground.guard }], guard := some (6, true) }
def oZc_37 : Oper := { dst := some 59, op := Op.fieldAddr 93 (Operand.tmp 58) 0, type := 0, pos := "diff.go:69", after := #[{ on := 10, ground := Ground.data }, { on := 6, ground := Ground.guard }], guard := some (6, true) }
def oZc_38 : Oper := { dst := some 60, op := Op.fieldAddr 51 (Operand.tmp 59) 5, type := 0, pos := "diff.go:69", after := #[{ on := 11, ground := Ground.data }, { on := 6, ground := Ground.guard }], guard := some (6, true) }
def oZc_39 : Oper := { dst := some 61, op := Op.load 3 (Operand.tmp 60), type := 3, pos := "diff.go:69", after := #[{ on := 12, ground := Ground.data }, { on := 6, ground := Ground.guard }], guard := some (6, true) }
def oZc_40 : Oper := { dst := some 62, op := Op.binOp BinOp.neq 3 (Operand.tmp 56) (Operand.tmp 61) 3, type := 4, pos := "diff.go:69", after := #[{ on := 8, ground := Ground.data }, { on := 13, ground := Ground.data }, { on := 6, ground := Ground.guard }], guard := some (6, true) }
def oZc_41 : Oper := { dst := some 63, op := Op.pick (Operand.tmp 54) (Operand.tmp 62) (Operand.const (Value.bool false)), type := 4, pos := "diff.go:69", after := #[{ on := 6, ground := Ground.data }, { on := 14, ground := Ground.data }], guard := none }
def oZc_42 : Oper := { dst := some 9, op := Op.assign (Operand.tmp 63), type := 4, pos := "diff.go:69", after := #[{ on := 15, ground := Ground.data }, { on := 6, ground := Ground.chain }, { on := 0, ground := Ground.phase }, { on := 1, ground := Ground.phase }, { on := 2, ground := Ground.phase }, { on := 3, ground := Ground.phase }, { on := 4, ground := Ground.phase }, { on := 5, ground := Ground.phase }, { on := 6, ground := Ground.phase }, { on := 7, ground := Ground.phase }, { on := 8, ground := Ground.phase }, { on := 9, ground := Ground.phase }, { on := 10, ground := Ground.phase }, { on := 11, ground := Ground.phase }, { on := 12, ground := Ground.phase }, { on := 13, ground := Ground.phase }, { on := 14, ground := Ground.phase }, { on := 15, ground := Ground.phase }], guard := none }
def oZc_43 : Oper := { dst := some 32, op := Op.call { callee := Callee.value (Operand.func 49), args := #[Operand.tmp 31], argTypes := #[42] }, type := 4, pos := "diff.go:65", after := #[{ on := 9, ground := Ground.data }, { on := 8, ground := Ground.chain }, { on := 8, ground := Ground.guard }], guard := some (8, false) }
theorem fd54 (y : Nd) (w : World) : (Instr.field 46 (ndV y) 3).run Try.prog w = .ok (.bool y.dr) w := by
 have hu := Try.underlying46
 unfold Instr.field ndV
 simp [go_sem, asAgg]
theorem ndG (o : Option Nd) : (o.map ndV).getD (.agg #[.int .i64 0, .int .i64 0, .int .i64 0, .bool false, .bool false, .int .i64 0, .int .i64 0, .int .i64 0]) = ndV (o.getD default) := by cases o <;> rfl
theorem ndD_eq (Ln : List Nd) (z : Int) : ndD Ln z = ((fnM Ln Ln.length z).getD default).dr := by unfold ndD; cases fnM Ln Ln.length z <;> rfl
set_option maxRecDepth 100000 in
set_option maxHeartbeats 8000000 in
theorem stopU_any {lo p hb sb : Nat} {d : Jb} {ga : Option Addr} {gc : Nat} {lb : Array Value} {aa : Option Addr} {ac : Nat} {A : List Al} {S : List (Int × Int)} {w : World} (h : LkR lo p hb sb d ga gc lb aa ac A S [] none 0 w) (Ln : List Nd) (na : Option Addr) (nc : Nat) (hN : Fl w (fun b => b < w.heap.size) 8 56 Nd.cs na Ln) :
  Calls Try.prog 34 #[.pointer (some ⟨p, 0, none⟩), .slice na Ln.length nc] w fun e w' => e = .returned (.tuple #[]) ∧ ∃ ia ic, LkR lo p hb sb d ga gc lb aa ac A S (suK d Ln S A A.length) ia ic w' ∧ Frm (LO p sb none) (LO p sb ia) w w' := by
 have hbd := h.al.bd
 have HLK := hidOf h
 have HN := hidOf (nodes_any Ln na nc w hN)
 clear h hN
 go_enter Try.func34, Try.ntmps34
 go_upto_region 1 with (go_at_call 48; refine HN.out.mono ?_; rintro e w1 ⟨rfl, hm1, hb1⟩; have HM1 := hidOf hm1; have HB1 := hidOf hb1; clear hm1 hb1)
 have HL1 := hidOf (HLK.out.bel HB1.out)
 have hp1 := HL1.out.rg
 have p8 : w1.cell? ⟨p, 8, none⟩ = some (.slice aa A.length ac) := hp1 8 _ rfl
 have lp1 : p < w1.heap.size := heap_lt HL1.out.ce
 clear hp1
 have HF1 := hidOf (Frm.bel HLK.out.lo_lt HB1.out)
 obtain ⟨nb, hnb⟩ : ∃ nb, w.heap.size = nb := ⟨_, rfl⟩
 rw [hnb] at HM1 ⊢
 have hnlo : lo ≤ nb := by rw [← hnb]; exact HLK.out.ne.2.2.2.2.2.2
 have hnout : ¬ LO p sb none nb := fun hh => by have := HLK.out.lo_lt nb hh; omega
 have hnlt : nb < w1.heap.size := HM1.out.lt
 clear hnb
 go_wp2
 go_loopw [17] (fun i wr => ∃ (k : Nat) (T : List Int) (ia : Option Addr) (ic : Nat), k ≤ A.length ∧ i = .int .i64 k ∧ Hid (T = suK d Ln S A k) ∧ Hid (LkR lo p hb sb d ga gc lb aa ac A S T ia ic wr) ∧ Hid (Frm (LO p sb none) (LO p sb ia) w1 wr)) (fun i _ => A.length - (intOf i).toNat)
 case atStart => exact ⟨0, [], none, 0, Nat.zero_le _, rfl, hidOf rfl, HL1, hidOf (Frm.refl HL1.out.lo_lt)⟩
 case round =>
  obtain ⟨k, T, ia, ic, hk, rfl, HT, HL, HF⟩ := hrel
  clear p8 lp1
  by_cases hlt : k < A.length
  ·obtain ⟨b, off, ha, hQb, hcc⟩ := HL.out.al.at k hlt
   obtain ⟨x, hx⟩ : ∃ x, A[k] = x := ⟨_, rfl⟩
   have HSU := hidOf (suK_at d Ln S A k T HT.out hlt x hx)
   have HBT := hidOf (show (T.length + 1) * 8 ≤ 140737488355328 by have := suK_len d Ln S A k; rw [← HT.out] at this; omega)
   rw [hx] at hcc
   clear hx
   subst ha
   have hbl : b < wr.heap.size := by have := HL.out.ne; have := hQb.1; omega
   have c0 : wr.cell? ⟨b, off + k * 11, none⟩ = some (.int .i64 x.id) := hcc 0 _ rfl
   have c1 : wr.cell? ⟨b, off + k * 11 + 1, none⟩ = some (.int .i64 x.jb) := hcc 1 _ rfl
   have c2 : wr.cell? ⟨b, off + k * 11 + 2, none⟩ = some (.int .i64 x.ve) := hcc 2 _ rfl
   have c3 : wr.cell? ⟨b, off + k * 11 + 3, none⟩ = some (.int .i64 x.gr) := hcc 3 _ rfl
   have c4 : wr.cell? ⟨b, off + k * 11 + 4, none⟩ = some (.int .i64 x.ix) := hcc 4 _ rfl
   have c5 : wr.cell? ⟨b, off + k * 11 + 5, none⟩ = some (.int .i64 x.nd) := hcc 5 _ rfl
   have c6 : wr.cell? ⟨b, off + k * 11 + 6, none⟩ = some (.int .i64 x.ep) := hcc 6 _ rfl
   have c7 : wr.cell? ⟨b, off + k * 11 + 7, none⟩ = some (.int .i64 x.c) := hcc 7 _ rfl
   have c8 : wr.cell? ⟨b, off + k * 11 + 8, none⟩ = some (.int .i64 x.m) := hcc 8 _ rfl
   have c9 : wr.cell? ⟨b, off + k * 11 + 9, none⟩ = some (.bool x.sp) := hcc 9 _ rfl
   have c10 : wr.cell? ⟨b, off + k * 11 + 10, none⟩ = some (.int .i64 x.st) := hcc 10 _ rfl
   have HNB0 := hidOf (HM1.out.keep (HF.out.same nb hnlt hnout))
   have hnlr : nb < wr.heap.size := Nat.lt_of_lt_of_le hnlt HF.out.size
   clear hcc hQb
   go_upto_region 4 with (fail)
   obtain ⟨wA, hwA⟩ : ∃ wA, wr.alloc (.cells #[.int .i64 x.id, .int .i64 x.jb, .int .i64 x.ve, .int .i64 x.gr, .int .i64 x.ix, .int .i64 x.nd, .int .i64 x.ep, .int .i64 x.c, .int .i64 x.m, .bool x.sp, .int .i64 x.st] 42) = wA := ⟨_, rfl⟩
   have hbA : Below wr.heap.size wr wA := by rw [← hwA]; exact below1 _ _
   have hbX : wA.rangeAt wr.heap.size 0 (Al.cs x) := by rw [← hwA]; exact box_new (wr := wr) (cs := Al.cs x) (t := 42) (Below.refl _ _)
   rw [hwA]
   clear hwA c0 c1 c2 c3 c4 c5 c6 c7 c8 c9 c10
   obtain ⟨B, hB⟩ : ∃ B, wr.heap.size = B := ⟨_, rfl⟩
   have hlB : B < wA.heap.size := by rw [← hB]; exact lt_of_cell (hbX 0 _ rfl)
   rw [hB] at hbX ⊢
   clear hB
   have HX : Hid (∀ Y, Below wA.heap.size wA Y → Y.rangeAt B 0 (Al.cs x)) := hidOf fun Y hY => range_of hbX (hY.block B hlB)
   have HLA := hidOf (HL.out.bel hbA)
   have HFA : Hid (∀ Y, Below wA.heap.size wA Y → Frm (LO p sb ia) (LO p sb ia) wr Y) := hidOf fun Y hY => Frm.bel HL.out.lo_lt (hbA.trans (hY.mono hbA.size))
   have HNB : Hid (∀ Y, Below wA.heap.size wA Y → MpR Y nb kI (fnV Ln Ln.length)) := hidOf fun Y hY => (HNB0.out.keep (hbA.block nb hnlr)).keep (hY.block nb (Nat.lt_of_lt_of_le hnlr hbA.size))
   have HYA := hidOf (Below.refl wA.heap.size wA)
   have HYD := hidOf (bdrew wA)
   have lpA : p < wA.heap.size := heap_lt HLA.out.ce
   clear hbA hbX HNB0
   by_cases hj : x.jb = d.id
   ·have hjb : (x.jb != d.id) = false := by simp [hj]
    have HJ := hidOf hj
    clear hj
    cases hov : ovr x.st with
    | true =>
     have hc1 := over_any x wA.drew
     rw [hov] at hc1
     have HOV := hidOf hc1
     clear hc1
     refine wp_region_held_drew (S := fun (Y : World) => Y.cell? ⟨B, 1, none⟩ = some (.int .i64 x.jb) ∧ Y.cell? ⟨p, 0, none⟩ = some (.int .i64 d.id) ∧ Y.cell? ⟨B, 0, none⟩ = some (.int .i64 x.id) ∧ Y.cell? ⟨B, 2, none⟩ = some (.int .i64 x.ve) ∧ Y.cell? ⟨B, 3, none⟩ = some (.int .i64 x.gr) ∧ Y.cell? ⟨B, 4, none⟩ = some (.int .i64 x.ix) ∧ Y.cell? ⟨B, 5, none⟩ = some (.int .i64 x.nd) ∧ Y.cell? ⟨B, 6, none⟩ = some (.int .i64 x.ep) ∧ Y.cell? ⟨B, 7, none⟩ = some (.int .i64 x.c) ∧ Y.cell? ⟨B, 8, none⟩ = some (.int .i64 x.m) ∧ Y.cell? ⟨B, 9, none⟩ = some (.bool x.sp) ∧ Y.cell? ⟨B, 10, none⟩ = some (.int .i64 x.st)) (by kernel_rfl) ⟨HX.out _ HYA.out 1 _ rfl, (HLA.out.bel HYA.out).rg 0 _ rfl, HX.out _ HYA.out 0 _ rfl, HX.out _ HYA.out 2 _ rfl, HX.out _ HYA.out 3 _ rfl, HX.out _ HYA.out 4 _ rfl, HX.out _ HYA.out 5 _ rfl, HX.out _ HYA.out 6 _ rfl, HX.out _ HYA.out 7 _ rfl, HX.out _ HYA.out 8 _ rfl, HX.out _ HYA.out 9 _ rfl, HX.out _ HYA.out 10 _ rfl⟩ (fun hHeld => ?_)
     refine tkH 0 oZc_0 22 (.pointer (some ⟨B, 1, none⟩)) hHeld (by intro w hS; dsimp only [oZc_0] at hS ⊢; go_simp) ?_
     try simp only [pA, pC, pD]
     refine tkH 1 oZc_1 23 (.int .i64 x.jb) hHeld (by intro w hS; dsimp only [oZc_1] at hS ⊢; go_simp) ?_
     try simp only [pA, pC, pD]
     refine tkH 2 oZc_2 24 (.pointer (some ⟨p, 0, none⟩)) hHeld (by intro w hS; dsimp only [oZc_2] at hS ⊢; go_simp) ?_
     try simp only [pA, pC, pD]
     refine tkH 3 oZc_3 25 (.pointer (some ⟨p, 0, none⟩)) hHeld (by intro w hS; dsimp only [oZc_3] at hS ⊢; go_simp) ?_
     try simp only [pA, pC, pD]
     refine tkH 4 oZc_4 26 (.pointer (some ⟨p, 0, none⟩)) hHeld (by intro w hS; dsimp only [oZc_4] at hS ⊢; go_simp) ?_
     try simp only [pA, pC, pD]
     refine tkH 5 oZc_5 27 (.pointer (some ⟨p, 0, none⟩)) hHeld (by intro w hS; dsimp only [oZc_5] at hS ⊢; go_simp) ?_
     try simp only [pA, pC, pD]
     refine tkH 6 oZc_6 28 (.int .i64 d.id) hHeld (by intro w hS; dsimp only [oZc_6] at hS ⊢; go_simp) ?_
     try simp only [pA, pC, pD]
     refine tkH 7 oZc_7 29 (.bool false) hHeld (by intro w hS; dsimp only [oZc_7] at hS ⊢; go_simp) ?_
     try simp only [pA, pC, pD]
     refine tkH 8 oZc_8 30 (.bool false) hHeld (by intro w hS; dsimp only [oZc_8] at hS ⊢; go_simp) ?_
     try simp only [pA, pC, pD]
     refine tkH 9 oZc_9 31 (.agg #[.int .i64 x.id, .int .i64 x.jb, .int .i64 x.ve, .int .i64 x.gr, .int .i64 x.ix, .int .i64 x.nd, .int .i64 x.ep, .int .i64 x.c, .int .i64 x.m, .bool x.sp, .int .i64 x.st]) hHeld (by intro w hS; dsimp only [oZc_9] at hS ⊢; go_simp) ?_
     try simp only [pA, pC, pD]
     refine wpAnyH_ready (rs := [10]) (by kernel_rfl) (by simp) ?_
     refine AllReadyH.cons (o := { dst := some 32, op := Op.call { callee := Callee.value (Operand.func 49), args := #[Operand.tmp 31], argTypes := #[42] }, type := 4, pos := "diff.go:65", after := #[{ on := 9, ground := Ground.data }, { on := 8, ground := Ground.chain }, { on := 8, ground := Ground.guard }], guard := some (8, false) }) rfl (fun K hK => ?_) AllReadyH.nil
     go_simp
     refine HOV.out.mono ?_
     rintro e w2 ⟨rfl, hb2⟩
     have HY2 := hidOf (HYD.out.trans (hb2.mono HYD.out.size))
     clear hb2
     refine hK.out _ _ ⟨HX.out _ HY2.out 1 _ rfl, (HLA.out.bel HY2.out).rg 0 _ rfl, HX.out _ HY2.out 0 _ rfl, HX.out _ HY2.out 2 _ rfl, HX.out _ HY2.out 3 _ rfl, HX.out _ HY2.out 4 _ rfl, HX.out _ HY2.out 5 _ rfl, HX.out _ HY2.out 6 _ rfl, HX.out _ HY2.out 7 _ rfl, HX.out _ HY2.out 8 _ rfl, HX.out _ HY2.out 9 _ rfl, HX.out _ HY2.out 10 _ rfl⟩ (fun hHeld1 => ?_)
     clear hK K
     try simp only [Act.put, List.setIfInBounds_toArray, List.set_cons_zero, List.set_cons_succ]
     refine tkH 11 oZc_10 33 (.bool true) hHeld1 (by intro w hS; dsimp only [oZc_10] at hS ⊢; go_simp) ?_
     try simp only [pA, pC, pD]
     refine tkH 12 oZc_11 34 (.bool true) hHeld1 (by intro w hS; dsimp only [oZc_11] at hS ⊢; go_simp) ?_
     try simp only [pA, pC, pD]
     refine tkN 13 oZc_12 35 hHeld1 ?_
     try simp only [pA, pC, pD]
     refine tkN 14 oZc_13 36 hHeld1 ?_
     try simp only [pA, pC, pD]
     refine tkH 15 oZc_14 37 (.bool true) hHeld1 (by intro w hS; dsimp only [oZc_14] at hS ⊢; go_simp) ?_
     try simp only [pA, pC, pD]
     refine wpAnyH_done (by kernel_rfl) ?_ _
     go_wp2
     go_roundw
     case rel => exact ⟨k + 1, T, ia, ic, by omega, by simp, hidOf (by rw [HSU.out, if_neg (fun h => by have := h.1; simp [skB, hov] at this)]), hidOf (HLA.out.bel HY2.out), hidOf (HF.out.trans (HFA.out _ HY2.out))⟩
     case measure => simp [intOf]; omega
    | false =>
     have hc1 := over_any x wA.drew
     rw [hov] at hc1
     have HOV := hidOf hc1
     clear hc1
     cases hsp : x.sp with
     | true =>
      unfold Al.cs at HX
      rw [hsp] at HX HOV
      refine wp_region_held_drew (S := fun (Y : World) => Y.cell? ⟨B, 1, none⟩ = some (.int .i64 x.jb) ∧ Y.cell? ⟨p, 0, none⟩ = some (.int .i64 d.id) ∧ Y.cell? ⟨B, 0, none⟩ = some (.int .i64 x.id) ∧ Y.cell? ⟨B, 2, none⟩ = some (.int .i64 x.ve) ∧ Y.cell? ⟨B, 3, none⟩ = some (.int .i64 x.gr) ∧ Y.cell? ⟨B, 4, none⟩ = some (.int .i64 x.ix) ∧ Y.cell? ⟨B, 5, none⟩ = some (.int .i64 x.nd) ∧ Y.cell? ⟨B, 6, none⟩ = some (.int .i64 x.ep) ∧ Y.cell? ⟨B, 7, none⟩ = some (.int .i64 x.c) ∧ Y.cell? ⟨B, 8, none⟩ = some (.int .i64 x.m) ∧ Y.cell? ⟨B, 9, none⟩ = some (.bool true) ∧ Y.cell? ⟨B, 10, none⟩ = some (.int .i64 x.st)) (by kernel_rfl) ⟨HX.out _ HYA.out 1 _ rfl, (HLA.out.bel HYA.out).rg 0 _ rfl, HX.out _ HYA.out 0 _ rfl, HX.out _ HYA.out 2 _ rfl, HX.out _ HYA.out 3 _ rfl, HX.out _ HYA.out 4 _ rfl, HX.out _ HYA.out 5 _ rfl, HX.out _ HYA.out 6 _ rfl, HX.out _ HYA.out 7 _ rfl, HX.out _ HYA.out 8 _ rfl, HX.out _ HYA.out 9 _ rfl, HX.out _ HYA.out 10 _ rfl⟩ (fun hHeld => ?_)
      refine tkH 0 oZc_0 22 (.pointer (some ⟨B, 1, none⟩)) hHeld (by intro w hS; dsimp only [oZc_0] at hS ⊢; go_simp) ?_
      try simp only [pA, pC, pD]
      refine tkH 1 oZc_1 23 (.int .i64 x.jb) hHeld (by intro w hS; dsimp only [oZc_1] at hS ⊢; go_simp) ?_
      try simp only [pA, pC, pD]
      refine tkH 2 oZc_2 24 (.pointer (some ⟨p, 0, none⟩)) hHeld (by intro w hS; dsimp only [oZc_2] at hS ⊢; go_simp) ?_
      try simp only [pA, pC, pD]
      refine tkH 3 oZc_3 25 (.pointer (some ⟨p, 0, none⟩)) hHeld (by intro w hS; dsimp only [oZc_3] at hS ⊢; go_simp) ?_
      try simp only [pA, pC, pD]
      refine tkH 4 oZc_4 26 (.pointer (some ⟨p, 0, none⟩)) hHeld (by intro w hS; dsimp only [oZc_4] at hS ⊢; go_simp) ?_
      try simp only [pA, pC, pD]
      refine tkH 5 oZc_5 27 (.pointer (some ⟨p, 0, none⟩)) hHeld (by intro w hS; dsimp only [oZc_5] at hS ⊢; go_simp) ?_
      try simp only [pA, pC, pD]
      refine tkH 6 oZc_6 28 (.int .i64 d.id) hHeld (by intro w hS; dsimp only [oZc_6] at hS ⊢; go_simp) ?_
      try simp only [pA, pC, pD]
      refine tkH 7 oZc_7 29 (.bool false) hHeld (by intro w hS; dsimp only [oZc_7] at hS ⊢; go_simp) ?_
      try simp only [pA, pC, pD]
      refine tkH 8 oZc_8 30 (.bool false) hHeld (by intro w hS; dsimp only [oZc_8] at hS ⊢; go_simp) ?_
      try simp only [pA, pC, pD]
      refine tkH 9 oZc_9 31 (.agg #[.int .i64 x.id, .int .i64 x.jb, .int .i64 x.ve, .int .i64 x.gr, .int .i64 x.ix, .int .i64 x.nd, .int .i64 x.ep, .int .i64 x.c, .int .i64 x.m, .bool true, .int .i64 x.st]) hHeld (by intro w hS; dsimp only [oZc_9] at hS ⊢; go_simp) ?_
      try simp only [pA, pC, pD]
      refine wpAnyH_ready (rs := [10]) (by kernel_rfl) (by simp) ?_
      refine AllReadyH.cons (o := { dst := some 32, op := Op.call { callee := Callee.value (Operand.func 49), args := #[Operand.tmp 31], argTypes := #[42] }, type := 4, pos := "diff.go:65", after := #[{ on := 9, ground := Ground.data }, { on := 8, ground := Ground.chain }, { on := 8, ground := Ground.guard }], guard := some (8, false) }) rfl (fun K hK => ?_) AllReadyH.nil
      go_simp
      refine HOV.out.mono ?_
      rintro e w2 ⟨rfl, hb2⟩
      have HY2 := hidOf (HYD.out.trans (hb2.mono HYD.out.size))
      clear hb2
      refine hK.out _ _ ⟨HX.out _ HY2.out 1 _ rfl, (HLA.out.bel HY2.out).rg 0 _ rfl, HX.out _ HY2.out 0 _ rfl, HX.out _ HY2.out 2 _ rfl, HX.out _ HY2.out 3 _ rfl, HX.out _ HY2.out 4 _ rfl, HX.out _ HY2.out 5 _ rfl, HX.out _ HY2.out 6 _ rfl, HX.out _ HY2.out 7 _ rfl, HX.out _ HY2.out 8 _ rfl, HX.out _ HY2.out 9 _ rfl, HX.out _ HY2.out 10 _ rfl⟩ (fun hHeld1 => ?_)
      clear hK K
      try simp only [Act.put, List.setIfInBounds_toArray, List.set_cons_zero, List.set_cons_succ]
      refine tkH 11 oZc_10 33 (.bool false) hHeld1 (by intro w hS; dsimp only [oZc_10] at hS ⊢; go_simp) ?_
      try simp only [pA, pC, pD]
      refine tkH 12 oZc_11 34 (.bool false) hHeld1 (by intro w hS; dsimp only [oZc_11] at hS ⊢; go_simp) ?_
      try simp only [pA, pC, pD]
      refine tkH 13 oZc_12 35 (.pointer (some ⟨B, 9, none⟩)) hHeld1 (by intro w hS; dsimp only [oZc_12] at hS ⊢; go_simp) ?_
      try simp only [pA, pC, pD]
      refine tkH 14 oZc_13 36 (.bool true) hHeld1 (by intro w hS; dsimp only [oZc_13] at hS ⊢; go_simp) ?_
      try simp only [pA, pC, pD]
      refine tkH 15 oZc_14 37 (.bool true) hHeld1 (by intro w hS; dsimp only [oZc_14] at hS ⊢; go_simp) ?_
      try simp only [pA, pC, pD]
      refine wpAnyH_done (by kernel_rfl) ?_ _
      go_wp2
      go_roundw
      case rel => exact ⟨k + 1, T, ia, ic, by omega, by simp, hidOf (by rw [HSU.out, if_neg (fun h => by have := h.1; simp [skB, hsp] at this)]), hidOf (HLA.out.bel HY2.out), hidOf (HF.out.trans (HFA.out _ HY2.out))⟩
      case measure => simp [intOf]; omega
     | false =>
      have HSK := hidOf (show skB d x = false by simp [skB, HJ.out, hov, hsp])
      unfold Al.cs at HX
      rw [hsp] at HX HOV
      refine wp_region_held_drew (S := fun (Y : World) => Y.cell? ⟨B, 1, none⟩ = some (.int .i64 x.jb) ∧ Y.cell? ⟨p, 0, none⟩ = some (.int .i64 d.id) ∧ Y.cell? ⟨B, 0, none⟩ = some (.int .i64 x.id) ∧ Y.cell? ⟨B, 2, none⟩ = some (.int .i64 x.ve) ∧ Y.cell? ⟨B, 3, none⟩ = some (.int .i64 x.gr) ∧ Y.cell? ⟨B, 4, none⟩ = some (.int .i64 x.ix) ∧ Y.cell? ⟨B, 5, none⟩ = some (.int .i64 x.nd) ∧ Y.cell? ⟨B, 6, none⟩ = some (.int .i64 x.ep) ∧ Y.cell? ⟨B, 7, none⟩ = some (.int .i64 x.c) ∧ Y.cell? ⟨B, 8, none⟩ = some (.int .i64 x.m) ∧ Y.cell? ⟨B, 9, none⟩ = some (.bool false) ∧ Y.cell? ⟨B, 10, none⟩ = some (.int .i64 x.st)) (by kernel_rfl) ⟨HX.out _ HYA.out 1 _ rfl, (HLA.out.bel HYA.out).rg 0 _ rfl, HX.out _ HYA.out 0 _ rfl, HX.out _ HYA.out 2 _ rfl, HX.out _ HYA.out 3 _ rfl, HX.out _ HYA.out 4 _ rfl, HX.out _ HYA.out 5 _ rfl, HX.out _ HYA.out 6 _ rfl, HX.out _ HYA.out 7 _ rfl, HX.out _ HYA.out 8 _ rfl, HX.out _ HYA.out 9 _ rfl, HX.out _ HYA.out 10 _ rfl⟩ (fun hHeld => ?_)
      refine tkH 0 oZc_0 22 (.pointer (some ⟨B, 1, none⟩)) hHeld (by intro w hS; dsimp only [oZc_0] at hS ⊢; go_simp) ?_
      try simp only [pA, pC, pD]
      refine tkH 1 oZc_1 23 (.int .i64 x.jb) hHeld (by intro w hS; dsimp only [oZc_1] at hS ⊢; go_simp) ?_
      try simp only [pA, pC, pD]
      refine tkH 2 oZc_2 24 (.pointer (some ⟨p, 0, none⟩)) hHeld (by intro w hS; dsimp only [oZc_2] at hS ⊢; go_simp) ?_
      try simp only [pA, pC, pD]
      refine tkH 3 oZc_3 25 (.pointer (some ⟨p, 0, none⟩)) hHeld (by intro w hS; dsimp only [oZc_3] at hS ⊢; go_simp) ?_
      try simp only [pA, pC, pD]
      refine tkH 4 oZc_4 26 (.pointer (some ⟨p, 0, none⟩)) hHeld (by intro w hS; dsimp only [oZc_4] at hS ⊢; go_simp) ?_
      try simp only [pA, pC, pD]
      refine tkH 5 oZc_5 27 (.pointer (some ⟨p, 0, none⟩)) hHeld (by intro w hS; dsimp only [oZc_5] at hS ⊢; go_simp) ?_
      try simp only [pA, pC, pD]
      refine tkH 6 oZc_6 28 (.int .i64 d.id) hHeld (by intro w hS; dsimp only [oZc_6] at hS ⊢; go_simp) ?_
      try simp only [pA, pC, pD]
      refine tkH 7 oZc_7 29 (.bool false) hHeld (by intro w hS; dsimp only [oZc_7] at hS ⊢; go_simp) ?_
      try simp only [pA, pC, pD]
      refine tkH 8 oZc_8 30 (.bool false) hHeld (by intro w hS; dsimp only [oZc_8] at hS ⊢; go_simp) ?_
      try simp only [pA, pC, pD]
      refine tkH 9 oZc_9 31 (.agg #[.int .i64 x.id, .int .i64 x.jb, .int .i64 x.ve, .int .i64 x.gr, .int .i64 x.ix, .int .i64 x.nd, .int .i64 x.ep, .int .i64 x.c, .int .i64 x.m, .bool false, .int .i64 x.st]) hHeld (by intro w hS; dsimp only [oZc_9] at hS ⊢; go_simp) ?_
      try simp only [pA, pC, pD]
      refine wpAnyH_ready (rs := [10]) (by kernel_rfl) (by simp) ?_
      refine AllReadyH.cons (o := { dst := some 32, op := Op.call { callee := Callee.value (Operand.func 49), args := #[Operand.tmp 31], argTypes := #[42] }, type := 4, pos := "diff.go:65", after := #[{ on := 9, ground := Ground.data }, { on := 8, ground := Ground.chain }, { on := 8, ground := Ground.guard }], guard := some (8, false) }) rfl (fun K hK => ?_) AllReadyH.nil
      go_simp
      refine HOV.out.mono ?_
      rintro e w2 ⟨rfl, hb2⟩
      have HY2 := hidOf (HYD.out.trans (hb2.mono HYD.out.size))
      clear hb2
      refine hK.out _ _ ⟨HX.out _ HY2.out 1 _ rfl, (HLA.out.bel HY2.out).rg 0 _ rfl, HX.out _ HY2.out 0 _ rfl, HX.out _ HY2.out 2 _ rfl, HX.out _ HY2.out 3 _ rfl, HX.out _ HY2.out 4 _ rfl, HX.out _ HY2.out 5 _ rfl, HX.out _ HY2.out 6 _ rfl, HX.out _ HY2.out 7 _ rfl, HX.out _ HY2.out 8 _ rfl, HX.out _ HY2.out 9 _ rfl, HX.out _ HY2.out 10 _ rfl⟩ (fun hHeld1 => ?_)
      clear hK K
      try simp only [Act.put, List.setIfInBounds_toArray, List.set_cons_zero, List.set_cons_succ]
      refine tkH 11 oZc_10 33 (.bool false) hHeld1 (by intro w hS; dsimp only [oZc_10] at hS ⊢; go_simp) ?_
      try simp only [pA, pC, pD]
      refine tkH 12 oZc_11 34 (.bool false) hHeld1 (by intro w hS; dsimp only [oZc_11] at hS ⊢; go_simp) ?_
      try simp only [pA, pC, pD]
      refine tkH 13 oZc_12 35 (.pointer (some ⟨B, 9, none⟩)) hHeld1 (by intro w hS; dsimp only [oZc_12] at hS ⊢; go_simp) ?_
      try simp only [pA, pC, pD]
      refine tkH 14 oZc_13 36 (.bool false) hHeld1 (by intro w hS; dsimp only [oZc_13] at hS ⊢; go_simp) ?_
      try simp only [pA, pC, pD]
      refine tkH 15 oZc_14 37 (.bool false) hHeld1 (by intro w hS; dsimp only [oZc_14] at hS ⊢; go_simp) ?_
      try simp only [pA, pC, pD]
      refine wpAnyH_done (by kernel_rfl) ?_ _
      have HSO := hidOf (slotOf_any x w2.drew)
      rw [hsp] at HSO
      have HY2D := hidOf (HY2.out.trans ((bdrew w2).mono HY2.out.size))
      go_upto_region 5 with (fail)
      by_cases hwn : (x.gr, x.ix) ∈ S
      ·skip
       have HWN := hidOf hwn
       obtain ⟨hv, hhv⟩ : ∃ hv, (if (x.gr, x.ix) ∈ S then fiK (slB d.id x.gr x.ix) A A.length else 0) = hv := ⟨_, rfl⟩
       have HLK : Hid (∀ Y, MpR Y hb kS (hoK d.id S A A.length) → (Instr.lookup 90 (.map (some hb)) (.agg #[.int .i64 x.gr, .int .i64 x.ix]) true).run Try.prog Y = .ok (.tuple #[.int .i64 hv, .bool true]) Y) := hidOf fun Y h => by
        have hlk := hoK_look h x.gr x.ix true
        rw [if_pos rfl, hhv, decide_eq_true hwn] at hlk
        exact hlk
       clear hwn hhv
       refine wp_region_held_drew (S := fun (Y : World) => Y.cell? ⟨p, 9, none⟩ = some (.map (some hb)) ∧ Y.cell? ⟨B, 0, none⟩ = some (.int .i64 x.id) ∧ Y.cell? ⟨B, 1, none⟩ = some (.int .i64 x.jb) ∧ Y.cell? ⟨B, 2, none⟩ = some (.int .i64 x.ve) ∧ Y.cell? ⟨B, 3, none⟩ = some (.int .i64 x.gr) ∧ Y.cell? ⟨B, 4, none⟩ = some (.int .i64 x.ix) ∧ Y.cell? ⟨B, 5, none⟩ = some (.int .i64 x.nd) ∧ Y.cell? ⟨B, 6, none⟩ = some (.int .i64 x.ep) ∧ Y.cell? ⟨B, 7, none⟩ = some (.int .i64 x.c) ∧ Y.cell? ⟨B, 8, none⟩ = some (.int .i64 x.m) ∧ Y.cell? ⟨B, 9, none⟩ = some (.bool false) ∧ Y.cell? ⟨B, 10, none⟩ = some (.int .i64 x.st) ∧ MpR Y hb kS (hoK d.id S A A.length)) (by kernel_rfl) ⟨(HLA.out.bel HY2.out).rg 9 _ rfl, HX.out _ HY2.out 0 _ rfl, HX.out _ HY2.out 1 _ rfl, HX.out _ HY2.out 2 _ rfl, HX.out _ HY2.out 3 _ rfl, HX.out _ HY2.out 4 _ rfl, HX.out _ HY2.out 5 _ rfl, HX.out _ HY2.out 6 _ rfl, HX.out _ HY2.out 7 _ rfl, HX.out _ HY2.out 8 _ rfl, HX.out _ HY2.out 9 _ rfl, HX.out _ HY2.out 10 _ rfl, (HLA.out.bel HY2.out).ho⟩ (fun hHeld => ?_)
       refine tkH 0 oZc_15 39 (.pointer (some ⟨p, 0, none⟩)) hHeld (by intro w hS; dsimp only [oZc_15] at hS ⊢; go_simp) ?_
       try simp only [pA, pC, pD]
       refine tkH 1 oZc_16 40 (.pointer (some ⟨p, 0, none⟩)) hHeld (by intro w hS; dsimp only [oZc_16] at hS ⊢; go_simp) ?_
       try simp only [pA, pC, pD]
       refine tkH 2 oZc_17 41 (.pointer (some ⟨p, 9, none⟩)) hHeld (by intro w hS; dsimp only [oZc_17] at hS ⊢; go_simp) ?_
       try simp only [pA, pC, pD]
       refine tkH 3 oZc_18 42 (.map (some hb)) hHeld (by intro w hS; dsimp only [oZc_18] at hS ⊢; go_simp) ?_
       try simp only [pA, pC, pD]
       refine tkH 4 oZc_19 43 (.agg #[.int .i64 x.id, .int .i64 x.jb, .int .i64 x.ve, .int .i64 x.gr, .int .i64 x.ix, .int .i64 x.nd, .int .i64 x.ep, .int .i64 x.c, .int .i64 x.m, .bool false, .int .i64 x.st]) hHeld (by intro w hS; dsimp only [oZc_19] at hS ⊢; go_simp) ?_
       try simp only [pA, pC, pD]
       refine wpAnyH_ready (rs := [5]) (by kernel_rfl) (by simp) ?_
       refine AllReadyH.cons (o := { dst := some 44, op := Op.call { callee := Callee.value (Operand.func 50), args := #[Operand.tmp 43], argTypes := #[42] }, type := 60, pos := "diff.go:68", after := #[{ on := 4, ground := Ground.data }], guard := none }) rfl (fun K hK => ?_) AllReadyH.nil
       go_simp
       refine HSO.out.mono ?_
       rintro e w3 ⟨rfl, hb3⟩
       have HY3 := hidOf (HY2D.out.trans (hb3.mono HY2D.out.size))
       clear hb3
       refine hK.out _ _ ⟨(HLA.out.bel HY3.out).rg 9 _ rfl, HX.out _ HY3.out 0 _ rfl, HX.out _ HY3.out 1 _ rfl, HX.out _ HY3.out 2 _ rfl, HX.out _ HY3.out 3 _ rfl, HX.out _ HY3.out 4 _ rfl, HX.out _ HY3.out 5 _ rfl, HX.out _ HY3.out 6 _ rfl, HX.out _ HY3.out 7 _ rfl, HX.out _ HY3.out 8 _ rfl, HX.out _ HY3.out 9 _ rfl, HX.out _ HY3.out 10 _ rfl, (HLA.out.bel HY3.out).ho⟩ (fun hHeld1 => ?_)
       clear hK K
       try simp only [Act.put, List.setIfInBounds_toArray, List.set_cons_zero, List.set_cons_succ]
       refine wpAnyH_take (i := 6) (oi := { dst := some 45, op := Op.lookup 90 (Operand.tmp 42) (Operand.tmp 44) true, type := 69, pos := "diff.go:68", after := #[{ on := 3, ground := Ground.data }, { on := 5, ground := Ground.data }], guard := none }) (v := .tuple #[.int .i64 hv, .bool true]) rfl (by kernel_rfl) (by kernel_rfl) (by kernel_rfl) (fun _ _ _ h => h) (Or.inl ⟨by rfl, ?_⟩) hHeld1 ?_
       ·(intro Y hSw; have hlk := HLK.out Y hSw.2.2.2.2.2.2.2.2.2.2.2.2; clear hSw; go_simp)
       try simp only [Act.put, List.setIfInBounds_toArray, List.set_cons_zero, List.set_cons_succ]
       refine tkH 7 oZc_21 38 (.tuple #[.int .i64 hv, .bool true]) hHeld1 (by intro w hS; dsimp only [oZc_21] at hS ⊢; go_simp) ?_
       try simp only [pA, pC, pD]
       refine tkH 8 oZc_22 46 (.int .i64 hv) hHeld1 (by intro w hS; dsimp only [oZc_22] at hS ⊢; go_simp) ?_
       try simp only [pA, pC, pD]
       refine tkH 9 oZc_23 47 (.bool true) hHeld1 (by intro w hS; dsimp only [oZc_23] at hS ⊢; go_simp) ?_
       try simp only [pA, pC, pD]
       refine tkH 10 oZc_24 7 (.int .i64 hv) hHeld1 (by intro w hS; dsimp only [oZc_24] at hS ⊢; go_simp) ?_
       try simp only [pA, pC, pD]
       refine tkH 11 oZc_25 8 (.bool true) hHeld1 (by intro w hS; dsimp only [oZc_25] at hS ⊢; go_simp) ?_
       try simp only [pA, pC, pD]
       refine wpAnyH_done (by kernel_rfl) ?_ _
       have HY3D := hidOf (HY3.out.trans ((bdrew w3).mono HY3.out.size))
       go_upto_region 6 with (fail)
       by_cases hty : d.ty = 1
       ·have hq : (d.ty != 1) = false := by simp [hty]
        have HTY := hidOf hty
        clear hty
        refine wp_region_held_drew (S := fun (Y : World) => Y.cell? ⟨p, 1, none⟩ = some (.int .i64 d.ty)) (by kernel_rfl) ((HLA.out.bel HY3.out).rg 1 _ rfl) (fun hHeld => ?_)
        refine tkH 0 oZc_26 48 (.pointer (some ⟨p, 0, none⟩)) hHeld (by intro w hS; dsimp only [oZc_26] at hS ⊢; go_simp) ?_
        try simp only [pA, pC, pD]
        refine tkH 1 oZc_27 49 (.pointer (some ⟨p, 0, none⟩)) hHeld (by intro w hS; dsimp only [oZc_27] at hS ⊢; go_simp) ?_
        try simp only [pA, pC, pD]
        refine tkH 2 oZc_28 50 (.pointer (some ⟨p, 0, none⟩)) hHeld (by intro w hS; dsimp only [oZc_28] at hS ⊢; go_simp) ?_
        try simp only [pA, pC, pD]
        refine tkH 3 oZc_29 51 (.pointer (some ⟨p, 1, none⟩)) hHeld (by intro w hS; dsimp only [oZc_29] at hS ⊢; go_simp) ?_
        try simp only [pA, pC, pD]
        refine tkH 4 oZc_30 52 (.int .i64 d.ty) hHeld (by intro w hS; dsimp only [oZc_30] at hS ⊢; go_simp) ?_
        try simp only [pA, pC, pD]
        refine tkH 5 oZc_31 53 (.bool false) hHeld (by intro w hS; dsimp only [oZc_31] at hS ⊢; go_simp) ?_
        try simp only [pA, pC, pD]
        refine tkH 6 oZc_32 54 (.bool false) hHeld (by intro w hS; dsimp only [oZc_32] at hS ⊢; go_simp) ?_
        try simp only [pA, pC, pD]
        refine tkN 7 oZc_33 55 hHeld ?_
        try simp only [pA, pC, pD]
        refine tkN 8 oZc_34 56 hHeld ?_
        try simp only [pA, pC, pD]
        refine tkN 9 oZc_35 57 hHeld ?_
        try simp only [pA, pC, pD]
        refine tkN 10 oZc_36 58 hHeld ?_
        try simp only [pA, pC, pD]
        refine tkN 11 oZc_37 59 hHeld ?_
        try simp only [pA, pC, pD]
        refine tkN 12 oZc_38 60 hHeld ?_
        try simp only [pA, pC, pD]
        refine tkN 13 oZc_39 61 hHeld ?_
        try simp only [pA, pC, pD]
        refine tkN 14 oZc_40 62 hHeld ?_
        try simp only [pA, pC, pD]
        refine tkH 15 oZc_41 63 (.bool false) hHeld (by intro w hS; dsimp only [oZc_41] at hS ⊢; go_simp) ?_
        try simp only [pA, pC, pD]
        refine tkH 16 oZc_42 9 (.bool false) hHeld (by intro w hS; dsimp only [oZc_42] at hS ⊢; go_simp) ?_
        try simp only [pA, pC, pD]
        refine wpAnyH_done (by kernel_rfl) ?_ _
        obtain ⟨w5, hw5⟩ : ∃ w5, w3.drew = w5 := ⟨_, rfl⟩
        have HY5 : Hid (Below wA.heap.size wA w5) := hidOf (by rw [← hw5]; exact HY3D.out)
        rw [hw5]
        clear hw5
        have e5 : w5.cell? ⟨B, 5, none⟩ = some (.int .i64 x.nd) := HX.out _ HY5.out 5 _ rfl
        have lB5 : B < w5.heap.size := lt_of_cell e5
        have HL5 := hidOf (HLA.out.bel HY5.out)
        have hl5 := HL5.out.ne
        have hlk := fnV_look (HNB.out _ HY5.out) x.nd false
        rw [if_neg (by simp)] at hlk
        rw [ndG] at hlk
        have hnd := ndD_eq Ln x.nd
        obtain ⟨y, hy⟩ : ∃ y, (fnM Ln Ln.length x.nd).getD default = y := ⟨_, rfl⟩
        rw [hy] at hlk hnd
        have HND := hidOf hnd
        clear hnd hy
        have hfd := fun wz => fd54 y wz
        cases hdr : y.dr with
        | true =>
         rw [hdr] at HND
         simp only [ndV, hdr] at hlk hfd
         have HST := hidOf (stop_l HL5.out k hlt HBT.out)
         go_wp2_with (go_at_call 51; refine HST.out.mono ?_; rintro e w6 ⟨rfl, ia2, ic2, hL6, hF6⟩; have HL6 := hidOf hL6; have HF6 := hidOf hF6; clear hL6 hF6)
         go_roundw
         case rel => exact ⟨k + 1, T ++ [(k : Int)], ia2, ic2, by omega, by simp, hidOf (by rw [HSU.out, if_pos ⟨HSK.out, by simp [unB, HND.out]⟩]), HL6, hidOf (HF.out.trans ((HFA.out _ HY5.out).trans HF6.out))⟩
         case measure => simp [intOf]; omega
        | false =>
         rw [hdr] at HND
         simp only [ndV, hdr] at hlk hfd
         go_wp2
         go_roundw
         case rel => exact ⟨k + 1, T, ia, ic, by omega, by simp, hidOf (by rw [HSU.out, if_neg (fun h => by have := h.2; simp [unB, HND.out, HWN.out, HTY.out] at this)]), hidOf (HLA.out.bel HY5.out), hidOf (HF.out.trans (HFA.out _ HY5.out))⟩
         case measure => simp [intOf]; omega
       ·have hq : (d.ty != 1) = true := by simp [hty]
        have HTY := hidOf hty
        clear hty
        by_cases hve : x.ve = d.ve
        ·have hq2 : (x.ve != d.ve) = false := by simp [hve]
         have HVE := hidOf hve
         clear hve
         refine wp_region_held_drew (S := fun (Y : World) => Y.cell? ⟨p, 1, none⟩ = some (.int .i64 d.ty) ∧ Y.cell? ⟨B, 2, none⟩ = some (.int .i64 x.ve) ∧ Y.cell? ⟨p, 5, none⟩ = some (.int .i64 d.ve)) (by kernel_rfl) ⟨(HLA.out.bel HY3.out).rg 1 _ rfl, HX.out _ HY3.out 2 _ rfl, (HLA.out.bel HY3.out).rg 5 _ rfl⟩ (fun hHeld => ?_)
         refine tkH 0 oZc_26 48 (.pointer (some ⟨p, 0, none⟩)) hHeld (by intro w hS; dsimp only [oZc_26] at hS ⊢; go_simp) ?_
         try simp only [pA, pC, pD]
         refine tkH 1 oZc_27 49 (.pointer (some ⟨p, 0, none⟩)) hHeld (by intro w hS; dsimp only [oZc_27] at hS ⊢; go_simp) ?_
         try simp only [pA, pC, pD]
         refine tkH 2 oZc_28 50 (.pointer (some ⟨p, 0, none⟩)) hHeld (by intro w hS; dsimp only [oZc_28] at hS ⊢; go_simp) ?_
         try simp only [pA, pC, pD]
         refine tkH 3 oZc_29 51 (.pointer (some ⟨p, 1, none⟩)) hHeld (by intro w hS; dsimp only [oZc_29] at hS ⊢; go_simp) ?_
         try simp only [pA, pC, pD]
         refine tkH 4 oZc_30 52 (.int .i64 d.ty) hHeld (by intro w hS; dsimp only [oZc_30] at hS ⊢; go_simp) ?_
         try simp only [pA, pC, pD]
         refine tkH 5 oZc_31 53 (.bool true) hHeld (by intro w hS; dsimp only [oZc_31] at hS ⊢; go_simp) ?_
         try simp only [pA, pC, pD]
         refine tkH 6 oZc_32 54 (.bool true) hHeld (by intro w hS; dsimp only [oZc_32] at hS ⊢; go_simp) ?_
         try simp only [pA, pC, pD]
         refine tkH 7 oZc_33 55 (.pointer (some ⟨B, 2, none⟩)) hHeld (by intro w hS; dsimp only [oZc_33] at hS ⊢; go_simp) ?_
         try simp only [pA, pC, pD]
         refine tkH 8 oZc_34 56 (.int .i64 x.ve) hHeld (by intro w hS; dsimp only [oZc_34] at hS ⊢; go_simp) ?_
         try simp only [pA, pC, pD]
         refine tkH 9 oZc_35 57 (.pointer (some ⟨p, 0, none⟩)) hHeld (by intro w hS; dsimp only [oZc_35] at hS ⊢; go_simp) ?_
         try simp only [pA, pC, pD]
         refine tkH 10 oZc_36 58 (.pointer (some ⟨p, 0, none⟩)) hHeld (by intro w hS; dsimp only [oZc_36] at hS ⊢; go_simp) ?_
         try simp only [pA, pC, pD]
         refine tkH 11 oZc_37 59 (.pointer (some ⟨p, 0, none⟩)) hHeld (by intro w hS; dsimp only [oZc_37] at hS ⊢; go_simp) ?_
         try simp only [pA, pC, pD]
         refine tkH 12 oZc_38 60 (.pointer (some ⟨p, 5, none⟩)) hHeld (by intro w hS; dsimp only [oZc_38] at hS ⊢; go_simp) ?_
         try simp only [pA, pC, pD]
         refine tkH 13 oZc_39 61 (.int .i64 d.ve) hHeld (by intro w hS; dsimp only [oZc_39] at hS ⊢; go_simp) ?_
         try simp only [pA, pC, pD]
         refine tkH 14 oZc_40 62 (.bool false) hHeld (by intro w hS; dsimp only [oZc_40] at hS ⊢; go_simp) ?_
         try simp only [pA, pC, pD]
         refine tkH 15 oZc_41 63 (.bool false) hHeld (by intro w hS; dsimp only [oZc_41] at hS ⊢; go_simp) ?_
         try simp only [pA, pC, pD]
         refine tkH 16 oZc_42 9 (.bool false) hHeld (by intro w hS; dsimp only [oZc_42] at hS ⊢; go_simp) ?_
         try simp only [pA, pC, pD]
         refine wpAnyH_done (by kernel_rfl) ?_ _
         obtain ⟨w5, hw5⟩ : ∃ w5, w3.drew = w5 := ⟨_, rfl⟩
         have HY5 : Hid (Below wA.heap.size wA w5) := hidOf (by rw [← hw5]; exact HY3D.out)
         rw [hw5]
         clear hw5
         have e5 : w5.cell? ⟨B, 5, none⟩ = some (.int .i64 x.nd) := HX.out _ HY5.out 5 _ rfl
         have lB5 : B < w5.heap.size := lt_of_cell e5
         have HL5 := hidOf (HLA.out.bel HY5.out)
         have hl5 := HL5.out.ne
         have hlk := fnV_look (HNB.out _ HY5.out) x.nd false
         rw [if_neg (by simp)] at hlk
         rw [ndG] at hlk
         have hnd := ndD_eq Ln x.nd
         obtain ⟨y, hy⟩ : ∃ y, (fnM Ln Ln.length x.nd).getD default = y := ⟨_, rfl⟩
         rw [hy] at hlk hnd
         have HND := hidOf hnd
         clear hnd hy
         have hfd := fun wz => fd54 y wz
         cases hdr : y.dr with
         | true =>
          rw [hdr] at HND
          simp only [ndV, hdr] at hlk hfd
          have HST := hidOf (stop_l HL5.out k hlt HBT.out)
          go_wp2_with (go_at_call 51; refine HST.out.mono ?_; rintro e w6 ⟨rfl, ia2, ic2, hL6, hF6⟩; have HL6 := hidOf hL6; have HF6 := hidOf hF6; clear hL6 hF6)
          go_roundw
          case rel => exact ⟨k + 1, T ++ [(k : Int)], ia2, ic2, by omega, by simp, hidOf (by rw [HSU.out, if_pos ⟨HSK.out, by simp [unB, HND.out]⟩]), HL6, hidOf (HF.out.trans ((HFA.out _ HY5.out).trans HF6.out))⟩
          case measure => simp [intOf]; omega
         | false =>
          rw [hdr] at HND
          simp only [ndV, hdr] at hlk hfd
          go_wp2
          go_roundw
          case rel => exact ⟨k + 1, T, ia, ic, by omega, by simp, hidOf (by rw [HSU.out, if_neg (fun h => by have := h.2; simp [unB, HND.out, HWN.out, HVE.out] at this)]), hidOf (HLA.out.bel HY5.out), hidOf (HF.out.trans (HFA.out _ HY5.out))⟩
          case measure => simp [intOf]; omega
        ·have hq2 : (x.ve != d.ve) = true := by simp [hve]
         have HVE := hidOf hve
         clear hve
         refine wp_region_held_drew (S := fun (Y : World) => Y.cell? ⟨p, 1, none⟩ = some (.int .i64 d.ty) ∧ Y.cell? ⟨B, 2, none⟩ = some (.int .i64 x.ve) ∧ Y.cell? ⟨p, 5, none⟩ = some (.int .i64 d.ve)) (by kernel_rfl) ⟨(HLA.out.bel HY3.out).rg 1 _ rfl, HX.out _ HY3.out 2 _ rfl, (HLA.out.bel HY3.out).rg 5 _ rfl⟩ (fun hHeld => ?_)
         refine tkH 0 oZc_26 48 (.pointer (some ⟨p, 0, none⟩)) hHeld (by intro w hS; dsimp only [oZc_26] at hS ⊢; go_simp) ?_
         try simp only [pA, pC, pD]
         refine tkH 1 oZc_27 49 (.pointer (some ⟨p, 0, none⟩)) hHeld (by intro w hS; dsimp only [oZc_27] at hS ⊢; go_simp) ?_
         try simp only [pA, pC, pD]
         refine tkH 2 oZc_28 50 (.pointer (some ⟨p, 0, none⟩)) hHeld (by intro w hS; dsimp only [oZc_28] at hS ⊢; go_simp) ?_
         try simp only [pA, pC, pD]
         refine tkH 3 oZc_29 51 (.pointer (some ⟨p, 1, none⟩)) hHeld (by intro w hS; dsimp only [oZc_29] at hS ⊢; go_simp) ?_
         try simp only [pA, pC, pD]
         refine tkH 4 oZc_30 52 (.int .i64 d.ty) hHeld (by intro w hS; dsimp only [oZc_30] at hS ⊢; go_simp) ?_
         try simp only [pA, pC, pD]
         refine tkH 5 oZc_31 53 (.bool true) hHeld (by intro w hS; dsimp only [oZc_31] at hS ⊢; go_simp) ?_
         try simp only [pA, pC, pD]
         refine tkH 6 oZc_32 54 (.bool true) hHeld (by intro w hS; dsimp only [oZc_32] at hS ⊢; go_simp) ?_
         try simp only [pA, pC, pD]
         refine tkH 7 oZc_33 55 (.pointer (some ⟨B, 2, none⟩)) hHeld (by intro w hS; dsimp only [oZc_33] at hS ⊢; go_simp) ?_
         try simp only [pA, pC, pD]
         refine tkH 8 oZc_34 56 (.int .i64 x.ve) hHeld (by intro w hS; dsimp only [oZc_34] at hS ⊢; go_simp) ?_
         try simp only [pA, pC, pD]
         refine tkH 9 oZc_35 57 (.pointer (some ⟨p, 0, none⟩)) hHeld (by intro w hS; dsimp only [oZc_35] at hS ⊢; go_simp) ?_
         try simp only [pA, pC, pD]
         refine tkH 10 oZc_36 58 (.pointer (some ⟨p, 0, none⟩)) hHeld (by intro w hS; dsimp only [oZc_36] at hS ⊢; go_simp) ?_
         try simp only [pA, pC, pD]
         refine tkH 11 oZc_37 59 (.pointer (some ⟨p, 0, none⟩)) hHeld (by intro w hS; dsimp only [oZc_37] at hS ⊢; go_simp) ?_
         try simp only [pA, pC, pD]
         refine tkH 12 oZc_38 60 (.pointer (some ⟨p, 5, none⟩)) hHeld (by intro w hS; dsimp only [oZc_38] at hS ⊢; go_simp) ?_
         try simp only [pA, pC, pD]
         refine tkH 13 oZc_39 61 (.int .i64 d.ve) hHeld (by intro w hS; dsimp only [oZc_39] at hS ⊢; go_simp) ?_
         try simp only [pA, pC, pD]
         refine tkH 14 oZc_40 62 (.bool true) hHeld (by intro w hS; dsimp only [oZc_40] at hS ⊢; go_simp) ?_
         try simp only [pA, pC, pD]
         refine tkH 15 oZc_41 63 (.bool true) hHeld (by intro w hS; dsimp only [oZc_41] at hS ⊢; go_simp) ?_
         try simp only [pA, pC, pD]
         refine tkH 16 oZc_42 9 (.bool true) hHeld (by intro w hS; dsimp only [oZc_42] at hS ⊢; go_simp) ?_
         try simp only [pA, pC, pD]
         refine wpAnyH_done (by kernel_rfl) ?_ _
         obtain ⟨w5, hw5⟩ : ∃ w5, w3.drew = w5 := ⟨_, rfl⟩
         have HY5 : Hid (Below wA.heap.size wA w5) := hidOf (by rw [← hw5]; exact HY3D.out)
         rw [hw5]
         clear hw5
         have e5 : w5.cell? ⟨B, 5, none⟩ = some (.int .i64 x.nd) := HX.out _ HY5.out 5 _ rfl
         have lB5 : B < w5.heap.size := lt_of_cell e5
         have HL5 := hidOf (HLA.out.bel HY5.out)
         have hl5 := HL5.out.ne
         have HST := hidOf (stop_l HL5.out k hlt HBT.out)
         go_wp2_with (go_at_call 51; refine HST.out.mono ?_; rintro e w6 ⟨rfl, ia2, ic2, hL6, hF6⟩; have HL6 := hidOf hL6; have HF6 := hidOf hF6; clear hL6 hF6)
         go_roundw
         case rel => exact ⟨k + 1, T ++ [(k : Int)], ia2, ic2, by omega, by simp, hidOf (by rw [HSU.out, if_pos ⟨HSK.out, by simp [unB, HTY.out, HVE.out]⟩]), HL6, hidOf (HF.out.trans ((HFA.out _ HY5.out).trans HF6.out))⟩
         case measure => simp [intOf]; omega
      ·skip
       have HWN := hidOf hwn
       obtain ⟨hv, hhv⟩ : ∃ hv, (if (x.gr, x.ix) ∈ S then fiK (slB d.id x.gr x.ix) A A.length else 0) = hv := ⟨_, rfl⟩
       have HLK : Hid (∀ Y, MpR Y hb kS (hoK d.id S A A.length) → (Instr.lookup 90 (.map (some hb)) (.agg #[.int .i64 x.gr, .int .i64 x.ix]) true).run Try.prog Y = .ok (.tuple #[.int .i64 hv, .bool false]) Y) := hidOf fun Y h => by
        have hlk := hoK_look h x.gr x.ix true
        rw [if_pos rfl, hhv, decide_eq_false hwn] at hlk
        exact hlk
       clear hwn hhv
       refine wp_region_held_drew (S := fun (Y : World) => Y.cell? ⟨p, 9, none⟩ = some (.map (some hb)) ∧ Y.cell? ⟨B, 0, none⟩ = some (.int .i64 x.id) ∧ Y.cell? ⟨B, 1, none⟩ = some (.int .i64 x.jb) ∧ Y.cell? ⟨B, 2, none⟩ = some (.int .i64 x.ve) ∧ Y.cell? ⟨B, 3, none⟩ = some (.int .i64 x.gr) ∧ Y.cell? ⟨B, 4, none⟩ = some (.int .i64 x.ix) ∧ Y.cell? ⟨B, 5, none⟩ = some (.int .i64 x.nd) ∧ Y.cell? ⟨B, 6, none⟩ = some (.int .i64 x.ep) ∧ Y.cell? ⟨B, 7, none⟩ = some (.int .i64 x.c) ∧ Y.cell? ⟨B, 8, none⟩ = some (.int .i64 x.m) ∧ Y.cell? ⟨B, 9, none⟩ = some (.bool false) ∧ Y.cell? ⟨B, 10, none⟩ = some (.int .i64 x.st) ∧ MpR Y hb kS (hoK d.id S A A.length)) (by kernel_rfl) ⟨(HLA.out.bel HY2.out).rg 9 _ rfl, HX.out _ HY2.out 0 _ rfl, HX.out _ HY2.out 1 _ rfl, HX.out _ HY2.out 2 _ rfl, HX.out _ HY2.out 3 _ rfl, HX.out _ HY2.out 4 _ rfl, HX.out _ HY2.out 5 _ rfl, HX.out _ HY2.out 6 _ rfl, HX.out _ HY2.out 7 _ rfl, HX.out _ HY2.out 8 _ rfl, HX.out _ HY2.out 9 _ rfl, HX.out _ HY2.out 10 _ rfl, (HLA.out.bel HY2.out).ho⟩ (fun hHeld => ?_)
       refine tkH 0 oZc_15 39 (.pointer (some ⟨p, 0, none⟩)) hHeld (by intro w hS; dsimp only [oZc_15] at hS ⊢; go_simp) ?_
       try simp only [pA, pC, pD]
       refine tkH 1 oZc_16 40 (.pointer (some ⟨p, 0, none⟩)) hHeld (by intro w hS; dsimp only [oZc_16] at hS ⊢; go_simp) ?_
       try simp only [pA, pC, pD]
       refine tkH 2 oZc_17 41 (.pointer (some ⟨p, 9, none⟩)) hHeld (by intro w hS; dsimp only [oZc_17] at hS ⊢; go_simp) ?_
       try simp only [pA, pC, pD]
       refine tkH 3 oZc_18 42 (.map (some hb)) hHeld (by intro w hS; dsimp only [oZc_18] at hS ⊢; go_simp) ?_
       try simp only [pA, pC, pD]
       refine tkH 4 oZc_19 43 (.agg #[.int .i64 x.id, .int .i64 x.jb, .int .i64 x.ve, .int .i64 x.gr, .int .i64 x.ix, .int .i64 x.nd, .int .i64 x.ep, .int .i64 x.c, .int .i64 x.m, .bool false, .int .i64 x.st]) hHeld (by intro w hS; dsimp only [oZc_19] at hS ⊢; go_simp) ?_
       try simp only [pA, pC, pD]
       refine wpAnyH_ready (rs := [5]) (by kernel_rfl) (by simp) ?_
       refine AllReadyH.cons (o := { dst := some 44, op := Op.call { callee := Callee.value (Operand.func 50), args := #[Operand.tmp 43], argTypes := #[42] }, type := 60, pos := "diff.go:68", after := #[{ on := 4, ground := Ground.data }], guard := none }) rfl (fun K hK => ?_) AllReadyH.nil
       go_simp
       refine HSO.out.mono ?_
       rintro e w3 ⟨rfl, hb3⟩
       have HY3 := hidOf (HY2D.out.trans (hb3.mono HY2D.out.size))
       clear hb3
       refine hK.out _ _ ⟨(HLA.out.bel HY3.out).rg 9 _ rfl, HX.out _ HY3.out 0 _ rfl, HX.out _ HY3.out 1 _ rfl, HX.out _ HY3.out 2 _ rfl, HX.out _ HY3.out 3 _ rfl, HX.out _ HY3.out 4 _ rfl, HX.out _ HY3.out 5 _ rfl, HX.out _ HY3.out 6 _ rfl, HX.out _ HY3.out 7 _ rfl, HX.out _ HY3.out 8 _ rfl, HX.out _ HY3.out 9 _ rfl, HX.out _ HY3.out 10 _ rfl, (HLA.out.bel HY3.out).ho⟩ (fun hHeld1 => ?_)
       clear hK K
       try simp only [Act.put, List.setIfInBounds_toArray, List.set_cons_zero, List.set_cons_succ]
       refine wpAnyH_take (i := 6) (oi := { dst := some 45, op := Op.lookup 90 (Operand.tmp 42) (Operand.tmp 44) true, type := 69, pos := "diff.go:68", after := #[{ on := 3, ground := Ground.data }, { on := 5, ground := Ground.data }], guard := none }) (v := .tuple #[.int .i64 hv, .bool false]) rfl (by kernel_rfl) (by kernel_rfl) (by kernel_rfl) (fun _ _ _ h => h) (Or.inl ⟨by rfl, ?_⟩) hHeld1 ?_
       ·(intro Y hSw; have hlk := HLK.out Y hSw.2.2.2.2.2.2.2.2.2.2.2.2; clear hSw; go_simp)
       try simp only [Act.put, List.setIfInBounds_toArray, List.set_cons_zero, List.set_cons_succ]
       refine tkH 7 oZc_21 38 (.tuple #[.int .i64 hv, .bool false]) hHeld1 (by intro w hS; dsimp only [oZc_21] at hS ⊢; go_simp) ?_
       try simp only [pA, pC, pD]
       refine tkH 8 oZc_22 46 (.int .i64 hv) hHeld1 (by intro w hS; dsimp only [oZc_22] at hS ⊢; go_simp) ?_
       try simp only [pA, pC, pD]
       refine tkH 9 oZc_23 47 (.bool false) hHeld1 (by intro w hS; dsimp only [oZc_23] at hS ⊢; go_simp) ?_
       try simp only [pA, pC, pD]
       refine tkH 10 oZc_24 7 (.int .i64 hv) hHeld1 (by intro w hS; dsimp only [oZc_24] at hS ⊢; go_simp) ?_
       try simp only [pA, pC, pD]
       refine tkH 11 oZc_25 8 (.bool false) hHeld1 (by intro w hS; dsimp only [oZc_25] at hS ⊢; go_simp) ?_
       try simp only [pA, pC, pD]
       refine wpAnyH_done (by kernel_rfl) ?_ _
       have HY3D := hidOf (HY3.out.trans ((bdrew w3).mono HY3.out.size))
       go_upto_region 6 with (fail)
       by_cases hty : d.ty = 1
       ·have hq : (d.ty != 1) = false := by simp [hty]
        have HTY := hidOf hty
        clear hty
        refine wp_region_held_drew (S := fun (Y : World) => Y.cell? ⟨p, 1, none⟩ = some (.int .i64 d.ty)) (by kernel_rfl) ((HLA.out.bel HY3.out).rg 1 _ rfl) (fun hHeld => ?_)
        refine tkH 0 oZc_26 48 (.pointer (some ⟨p, 0, none⟩)) hHeld (by intro w hS; dsimp only [oZc_26] at hS ⊢; go_simp) ?_
        try simp only [pA, pC, pD]
        refine tkH 1 oZc_27 49 (.pointer (some ⟨p, 0, none⟩)) hHeld (by intro w hS; dsimp only [oZc_27] at hS ⊢; go_simp) ?_
        try simp only [pA, pC, pD]
        refine tkH 2 oZc_28 50 (.pointer (some ⟨p, 0, none⟩)) hHeld (by intro w hS; dsimp only [oZc_28] at hS ⊢; go_simp) ?_
        try simp only [pA, pC, pD]
        refine tkH 3 oZc_29 51 (.pointer (some ⟨p, 1, none⟩)) hHeld (by intro w hS; dsimp only [oZc_29] at hS ⊢; go_simp) ?_
        try simp only [pA, pC, pD]
        refine tkH 4 oZc_30 52 (.int .i64 d.ty) hHeld (by intro w hS; dsimp only [oZc_30] at hS ⊢; go_simp) ?_
        try simp only [pA, pC, pD]
        refine tkH 5 oZc_31 53 (.bool false) hHeld (by intro w hS; dsimp only [oZc_31] at hS ⊢; go_simp) ?_
        try simp only [pA, pC, pD]
        refine tkH 6 oZc_32 54 (.bool false) hHeld (by intro w hS; dsimp only [oZc_32] at hS ⊢; go_simp) ?_
        try simp only [pA, pC, pD]
        refine tkN 7 oZc_33 55 hHeld ?_
        try simp only [pA, pC, pD]
        refine tkN 8 oZc_34 56 hHeld ?_
        try simp only [pA, pC, pD]
        refine tkN 9 oZc_35 57 hHeld ?_
        try simp only [pA, pC, pD]
        refine tkN 10 oZc_36 58 hHeld ?_
        try simp only [pA, pC, pD]
        refine tkN 11 oZc_37 59 hHeld ?_
        try simp only [pA, pC, pD]
        refine tkN 12 oZc_38 60 hHeld ?_
        try simp only [pA, pC, pD]
        refine tkN 13 oZc_39 61 hHeld ?_
        try simp only [pA, pC, pD]
        refine tkN 14 oZc_40 62 hHeld ?_
        try simp only [pA, pC, pD]
        refine tkH 15 oZc_41 63 (.bool false) hHeld (by intro w hS; dsimp only [oZc_41] at hS ⊢; go_simp) ?_
        try simp only [pA, pC, pD]
        refine tkH 16 oZc_42 9 (.bool false) hHeld (by intro w hS; dsimp only [oZc_42] at hS ⊢; go_simp) ?_
        try simp only [pA, pC, pD]
        refine wpAnyH_done (by kernel_rfl) ?_ _
        obtain ⟨w5, hw5⟩ : ∃ w5, w3.drew = w5 := ⟨_, rfl⟩
        have HY5 : Hid (Below wA.heap.size wA w5) := hidOf (by rw [← hw5]; exact HY3D.out)
        rw [hw5]
        clear hw5
        have e5 : w5.cell? ⟨B, 5, none⟩ = some (.int .i64 x.nd) := HX.out _ HY5.out 5 _ rfl
        have lB5 : B < w5.heap.size := lt_of_cell e5
        have HL5 := hidOf (HLA.out.bel HY5.out)
        have hl5 := HL5.out.ne
        have HST := hidOf (stop_l HL5.out k hlt HBT.out)
        go_wp2_with (go_at_call 51; refine HST.out.mono ?_; rintro e w6 ⟨rfl, ia2, ic2, hL6, hF6⟩; have HL6 := hidOf hL6; have HF6 := hidOf hF6; clear hL6 hF6)
        go_roundw
        case rel => exact ⟨k + 1, T ++ [(k : Int)], ia2, ic2, by omega, by simp, hidOf (by rw [HSU.out, if_pos ⟨HSK.out, by simp [unB, HWN.out]⟩]), HL6, hidOf (HF.out.trans ((HFA.out _ HY5.out).trans HF6.out))⟩
        case measure => simp [intOf]; omega
       ·have hq : (d.ty != 1) = true := by simp [hty]
        have HTY := hidOf hty
        clear hty
        by_cases hve : x.ve = d.ve
        ·have hq2 : (x.ve != d.ve) = false := by simp [hve]
         have HVE := hidOf hve
         clear hve
         refine wp_region_held_drew (S := fun (Y : World) => Y.cell? ⟨p, 1, none⟩ = some (.int .i64 d.ty) ∧ Y.cell? ⟨B, 2, none⟩ = some (.int .i64 x.ve) ∧ Y.cell? ⟨p, 5, none⟩ = some (.int .i64 d.ve)) (by kernel_rfl) ⟨(HLA.out.bel HY3.out).rg 1 _ rfl, HX.out _ HY3.out 2 _ rfl, (HLA.out.bel HY3.out).rg 5 _ rfl⟩ (fun hHeld => ?_)
         refine tkH 0 oZc_26 48 (.pointer (some ⟨p, 0, none⟩)) hHeld (by intro w hS; dsimp only [oZc_26] at hS ⊢; go_simp) ?_
         try simp only [pA, pC, pD]
         refine tkH 1 oZc_27 49 (.pointer (some ⟨p, 0, none⟩)) hHeld (by intro w hS; dsimp only [oZc_27] at hS ⊢; go_simp) ?_
         try simp only [pA, pC, pD]
         refine tkH 2 oZc_28 50 (.pointer (some ⟨p, 0, none⟩)) hHeld (by intro w hS; dsimp only [oZc_28] at hS ⊢; go_simp) ?_
         try simp only [pA, pC, pD]
         refine tkH 3 oZc_29 51 (.pointer (some ⟨p, 1, none⟩)) hHeld (by intro w hS; dsimp only [oZc_29] at hS ⊢; go_simp) ?_
         try simp only [pA, pC, pD]
         refine tkH 4 oZc_30 52 (.int .i64 d.ty) hHeld (by intro w hS; dsimp only [oZc_30] at hS ⊢; go_simp) ?_
         try simp only [pA, pC, pD]
         refine tkH 5 oZc_31 53 (.bool true) hHeld (by intro w hS; dsimp only [oZc_31] at hS ⊢; go_simp) ?_
         try simp only [pA, pC, pD]
         refine tkH 6 oZc_32 54 (.bool true) hHeld (by intro w hS; dsimp only [oZc_32] at hS ⊢; go_simp) ?_
         try simp only [pA, pC, pD]
         refine tkH 7 oZc_33 55 (.pointer (some ⟨B, 2, none⟩)) hHeld (by intro w hS; dsimp only [oZc_33] at hS ⊢; go_simp) ?_
         try simp only [pA, pC, pD]
         refine tkH 8 oZc_34 56 (.int .i64 x.ve) hHeld (by intro w hS; dsimp only [oZc_34] at hS ⊢; go_simp) ?_
         try simp only [pA, pC, pD]
         refine tkH 9 oZc_35 57 (.pointer (some ⟨p, 0, none⟩)) hHeld (by intro w hS; dsimp only [oZc_35] at hS ⊢; go_simp) ?_
         try simp only [pA, pC, pD]
         refine tkH 10 oZc_36 58 (.pointer (some ⟨p, 0, none⟩)) hHeld (by intro w hS; dsimp only [oZc_36] at hS ⊢; go_simp) ?_
         try simp only [pA, pC, pD]
         refine tkH 11 oZc_37 59 (.pointer (some ⟨p, 0, none⟩)) hHeld (by intro w hS; dsimp only [oZc_37] at hS ⊢; go_simp) ?_
         try simp only [pA, pC, pD]
         refine tkH 12 oZc_38 60 (.pointer (some ⟨p, 5, none⟩)) hHeld (by intro w hS; dsimp only [oZc_38] at hS ⊢; go_simp) ?_
         try simp only [pA, pC, pD]
         refine tkH 13 oZc_39 61 (.int .i64 d.ve) hHeld (by intro w hS; dsimp only [oZc_39] at hS ⊢; go_simp) ?_
         try simp only [pA, pC, pD]
         refine tkH 14 oZc_40 62 (.bool false) hHeld (by intro w hS; dsimp only [oZc_40] at hS ⊢; go_simp) ?_
         try simp only [pA, pC, pD]
         refine tkH 15 oZc_41 63 (.bool false) hHeld (by intro w hS; dsimp only [oZc_41] at hS ⊢; go_simp) ?_
         try simp only [pA, pC, pD]
         refine tkH 16 oZc_42 9 (.bool false) hHeld (by intro w hS; dsimp only [oZc_42] at hS ⊢; go_simp) ?_
         try simp only [pA, pC, pD]
         refine wpAnyH_done (by kernel_rfl) ?_ _
         obtain ⟨w5, hw5⟩ : ∃ w5, w3.drew = w5 := ⟨_, rfl⟩
         have HY5 : Hid (Below wA.heap.size wA w5) := hidOf (by rw [← hw5]; exact HY3D.out)
         rw [hw5]
         clear hw5
         have e5 : w5.cell? ⟨B, 5, none⟩ = some (.int .i64 x.nd) := HX.out _ HY5.out 5 _ rfl
         have lB5 : B < w5.heap.size := lt_of_cell e5
         have HL5 := hidOf (HLA.out.bel HY5.out)
         have hl5 := HL5.out.ne
         have HST := hidOf (stop_l HL5.out k hlt HBT.out)
         go_wp2_with (go_at_call 51; refine HST.out.mono ?_; rintro e w6 ⟨rfl, ia2, ic2, hL6, hF6⟩; have HL6 := hidOf hL6; have HF6 := hidOf hF6; clear hL6 hF6)
         go_roundw
         case rel => exact ⟨k + 1, T ++ [(k : Int)], ia2, ic2, by omega, by simp, hidOf (by rw [HSU.out, if_pos ⟨HSK.out, by simp [unB, HWN.out]⟩]), HL6, hidOf (HF.out.trans ((HFA.out _ HY5.out).trans HF6.out))⟩
         case measure => simp [intOf]; omega
        ·have hq2 : (x.ve != d.ve) = true := by simp [hve]
         have HVE := hidOf hve
         clear hve
         refine wp_region_held_drew (S := fun (Y : World) => Y.cell? ⟨p, 1, none⟩ = some (.int .i64 d.ty) ∧ Y.cell? ⟨B, 2, none⟩ = some (.int .i64 x.ve) ∧ Y.cell? ⟨p, 5, none⟩ = some (.int .i64 d.ve)) (by kernel_rfl) ⟨(HLA.out.bel HY3.out).rg 1 _ rfl, HX.out _ HY3.out 2 _ rfl, (HLA.out.bel HY3.out).rg 5 _ rfl⟩ (fun hHeld => ?_)
         refine tkH 0 oZc_26 48 (.pointer (some ⟨p, 0, none⟩)) hHeld (by intro w hS; dsimp only [oZc_26] at hS ⊢; go_simp) ?_
         try simp only [pA, pC, pD]
         refine tkH 1 oZc_27 49 (.pointer (some ⟨p, 0, none⟩)) hHeld (by intro w hS; dsimp only [oZc_27] at hS ⊢; go_simp) ?_
         try simp only [pA, pC, pD]
         refine tkH 2 oZc_28 50 (.pointer (some ⟨p, 0, none⟩)) hHeld (by intro w hS; dsimp only [oZc_28] at hS ⊢; go_simp) ?_
         try simp only [pA, pC, pD]
         refine tkH 3 oZc_29 51 (.pointer (some ⟨p, 1, none⟩)) hHeld (by intro w hS; dsimp only [oZc_29] at hS ⊢; go_simp) ?_
         try simp only [pA, pC, pD]
         refine tkH 4 oZc_30 52 (.int .i64 d.ty) hHeld (by intro w hS; dsimp only [oZc_30] at hS ⊢; go_simp) ?_
         try simp only [pA, pC, pD]
         refine tkH 5 oZc_31 53 (.bool true) hHeld (by intro w hS; dsimp only [oZc_31] at hS ⊢; go_simp) ?_
         try simp only [pA, pC, pD]
         refine tkH 6 oZc_32 54 (.bool true) hHeld (by intro w hS; dsimp only [oZc_32] at hS ⊢; go_simp) ?_
         try simp only [pA, pC, pD]
         refine tkH 7 oZc_33 55 (.pointer (some ⟨B, 2, none⟩)) hHeld (by intro w hS; dsimp only [oZc_33] at hS ⊢; go_simp) ?_
         try simp only [pA, pC, pD]
         refine tkH 8 oZc_34 56 (.int .i64 x.ve) hHeld (by intro w hS; dsimp only [oZc_34] at hS ⊢; go_simp) ?_
         try simp only [pA, pC, pD]
         refine tkH 9 oZc_35 57 (.pointer (some ⟨p, 0, none⟩)) hHeld (by intro w hS; dsimp only [oZc_35] at hS ⊢; go_simp) ?_
         try simp only [pA, pC, pD]
         refine tkH 10 oZc_36 58 (.pointer (some ⟨p, 0, none⟩)) hHeld (by intro w hS; dsimp only [oZc_36] at hS ⊢; go_simp) ?_
         try simp only [pA, pC, pD]
         refine tkH 11 oZc_37 59 (.pointer (some ⟨p, 0, none⟩)) hHeld (by intro w hS; dsimp only [oZc_37] at hS ⊢; go_simp) ?_
         try simp only [pA, pC, pD]
         refine tkH 12 oZc_38 60 (.pointer (some ⟨p, 5, none⟩)) hHeld (by intro w hS; dsimp only [oZc_38] at hS ⊢; go_simp) ?_
         try simp only [pA, pC, pD]
         refine tkH 13 oZc_39 61 (.int .i64 d.ve) hHeld (by intro w hS; dsimp only [oZc_39] at hS ⊢; go_simp) ?_
         try simp only [pA, pC, pD]
         refine tkH 14 oZc_40 62 (.bool true) hHeld (by intro w hS; dsimp only [oZc_40] at hS ⊢; go_simp) ?_
         try simp only [pA, pC, pD]
         refine tkH 15 oZc_41 63 (.bool true) hHeld (by intro w hS; dsimp only [oZc_41] at hS ⊢; go_simp) ?_
         try simp only [pA, pC, pD]
         refine tkH 16 oZc_42 9 (.bool true) hHeld (by intro w hS; dsimp only [oZc_42] at hS ⊢; go_simp) ?_
         try simp only [pA, pC, pD]
         refine wpAnyH_done (by kernel_rfl) ?_ _
         obtain ⟨w5, hw5⟩ : ∃ w5, w3.drew = w5 := ⟨_, rfl⟩
         have HY5 : Hid (Below wA.heap.size wA w5) := hidOf (by rw [← hw5]; exact HY3D.out)
         rw [hw5]
         clear hw5
         have e5 : w5.cell? ⟨B, 5, none⟩ = some (.int .i64 x.nd) := HX.out _ HY5.out 5 _ rfl
         have lB5 : B < w5.heap.size := lt_of_cell e5
         have HL5 := hidOf (HLA.out.bel HY5.out)
         have hl5 := HL5.out.ne
         have HST := hidOf (stop_l HL5.out k hlt HBT.out)
         go_wp2_with (go_at_call 51; refine HST.out.mono ?_; rintro e w6 ⟨rfl, ia2, ic2, hL6, hF6⟩; have HL6 := hidOf hL6; have HF6 := hidOf hF6; clear hL6 hF6)
         go_roundw
         case rel => exact ⟨k + 1, T ++ [(k : Int)], ia2, ic2, by omega, by simp, hidOf (by rw [HSU.out, if_pos ⟨HSK.out, by simp [unB, HWN.out]⟩]), HL6, hidOf (HF.out.trans ((HFA.out _ HY5.out).trans HF6.out))⟩
         case measure => simp [intOf]; omega
   ·have hjb : (x.jb != d.id) = true := by simp [hj]
    have HJ := hidOf hj
    clear hj
    refine wp_region_held_drew (S := fun (Y : World) => Y.cell? ⟨B, 1, none⟩ = some (.int .i64 x.jb) ∧ Y.cell? ⟨p, 0, none⟩ = some (.int .i64 d.id)) (by kernel_rfl) ⟨HX.out _ HYA.out 1 _ rfl, (HLA.out.bel HYA.out).rg 0 _ rfl⟩ (fun hHeld => ?_)
    refine tkH 0 oZc_0 22 (.pointer (some ⟨B, 1, none⟩)) hHeld (by intro w hS; dsimp only [oZc_0] at hS ⊢; go_simp) ?_
    try simp only [pA, pC, pD]
    refine tkH 1 oZc_1 23 (.int .i64 x.jb) hHeld (by intro w hS; dsimp only [oZc_1] at hS ⊢; go_simp) ?_
    try simp only [pA, pC, pD]
    refine tkH 2 oZc_2 24 (.pointer (some ⟨p, 0, none⟩)) hHeld (by intro w hS; dsimp only [oZc_2] at hS ⊢; go_simp) ?_
    try simp only [pA, pC, pD]
    refine tkH 3 oZc_3 25 (.pointer (some ⟨p, 0, none⟩)) hHeld (by intro w hS; dsimp only [oZc_3] at hS ⊢; go_simp) ?_
    try simp only [pA, pC, pD]
    refine tkH 4 oZc_4 26 (.pointer (some ⟨p, 0, none⟩)) hHeld (by intro w hS; dsimp only [oZc_4] at hS ⊢; go_simp) ?_
    try simp only [pA, pC, pD]
    refine tkH 5 oZc_5 27 (.pointer (some ⟨p, 0, none⟩)) hHeld (by intro w hS; dsimp only [oZc_5] at hS ⊢; go_simp) ?_
    try simp only [pA, pC, pD]
    refine tkH 6 oZc_6 28 (.int .i64 d.id) hHeld (by intro w hS; dsimp only [oZc_6] at hS ⊢; go_simp) ?_
    try simp only [pA, pC, pD]
    refine tkH 7 oZc_7 29 (.bool true) hHeld (by intro w hS; dsimp only [oZc_7] at hS ⊢; go_simp) ?_
    try simp only [pA, pC, pD]
    refine tkH 8 oZc_8 30 (.bool true) hHeld (by intro w hS; dsimp only [oZc_8] at hS ⊢; go_simp) ?_
    try simp only [pA, pC, pD]
    refine tkN 9 oZc_9 31 hHeld ?_
    try simp only [pA, pC, pD]
    refine tkN 10 oZc_43 32 hHeld ?_
    try simp only [pA, pC, pD]
    refine tkH 11 oZc_10 33 (.bool true) hHeld (by intro w hS; dsimp only [oZc_10] at hS ⊢; go_simp) ?_
    try simp only [pA, pC, pD]
    refine tkH 12 oZc_11 34 (.bool true) hHeld (by intro w hS; dsimp only [oZc_11] at hS ⊢; go_simp) ?_
    try simp only [pA, pC, pD]
    refine tkN 13 oZc_12 35 hHeld ?_
    try simp only [pA, pC, pD]
    refine tkN 14 oZc_13 36 hHeld ?_
    try simp only [pA, pC, pD]
    refine tkH 15 oZc_14 37 (.bool true) hHeld (by intro w hS; dsimp only [oZc_14] at hS ⊢; go_simp) ?_
    try simp only [pA, pC, pD]
    refine wpAnyH_done (by kernel_rfl) ?_ _
    go_wp2
    go_roundw
    case rel => exact ⟨k + 1, T, ia, ic, by omega, by simp, hidOf (by rw [HSU.out, if_neg (fun h => by have := h.1; simp [skB, HJ.out] at this)]), hidOf (HLA.out.bel HYD.out), hidOf (HF.out.trans (HFA.out _ HYD.out))⟩
    case measure => simp [intOf]; omega
  ·have hkl : k = A.length := by omega
   subst hkl
   have HTT := HT.out
   subst HTT
   go_wp2
   go_end0
   exact ⟨rfl, ia, ⟨ic, HL.out⟩, HF1.out.trans HF.out⟩
end Go.Proofs.Ytblofbdncolikaa
