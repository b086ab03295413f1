/- A look is made: the code's lookAt. -/
import Derived.Test.YtblofbdncolikaaTk
import Derived.Test.YtblofbdncolikaaZa
namespace Go.Proofs.Ytblofbdncolikaa
open Go.RowKit Go.Shelf
def oZb_0 : Oper := { dst := some 6, op := Op.load 51 (Operand.tmp 3), type := 51, pos := "diff.go:39", after := #[], guard := none }
def oZb_1 : Oper := { dst := some 7, op := Op.load 51 (Operand.tmp 3), type := 51, pos := "diff.go:39", after := #[], guard := none }
def oZb_2 : Oper := { dst := some 8, op := Op.fieldAddr 29 (Operand.tmp 2) 4, type := 0, pos := "diff.go:39", after := #[], guard := none }
def oZb_3 : Oper := { dst := some 9, op := Op.load 23 (Operand.tmp 8), type := 23, pos := "diff.go:39", after := #[{ on := 2, ground := Ground.data }], guard := none }
def oZb_4 : Oper := { dst := some 11, op := Op.fieldAddr 29 (Operand.tmp 2) 5, type := 0, pos := "diff.go:39", after := #[], guard := none }
def oZb_5 : Oper := { dst := some 12, op := Op.load 24 (Operand.tmp 11), type := 24, pos := "diff.go:39", after := #[{ on := 5, ground := Ground.data }], guard := none }
def oZb_6 : Oper := { dst := some 14, op := Op.build 93 #[(0, Operand.tmp 6), (1, Operand.tmp 10), (2, Operand.tmp 12), (4, Operand.tmp 13)], type := 93, pos := "diff.go:39", after := #[{ on := 0, ground := Ground.data }, { on := 4, ground := Ground.data }, { on := 6, ground := Ground.data }, { on := 7, ground := Ground.data }], guard := none }
def oZb_7 : Oper := { dst := some 5, op := Op.assign (Operand.tmp 15), type := 85, pos := "diff.go:39", after := #[{ on := 9, ground := Ground.data }, { on := 4, ground := Ground.chain }, { on := 0, ground := Ground.phase }, { on := 1, ground := Ground.phase }, { on := 2, ground := Ground.phase }, { on := 3, ground := Ground.phase }, { on := 4, ground := Ground.phase }, { on := 5, ground := Ground.phase }, { on := 6, ground := Ground.phase }, { on := 7, ground := Ground.phase }, { on := 8, ground := Ground.phase }, { on := 9, ground := Ground.phase }], guard := none }
set_option maxRecDepth 100000 in
set_option maxHeartbeats 4000000 in
theorem lookAt_any (s : Sc) (d : Jb) (ga : Option Addr) (gc : Nat) (Ln : List Nd) (A : List Al) (w : World) (hG : Fl w (fun b => b < w.heap.size) 3 24 Gp.cs ga d.gs) (hN : Fl w (fun b => b < w.heap.size) 8 56 Nd.cs s.a4 Ln) (hA : Fl w (fun b => b < w.heap.size) 11 88 Al.cs s.a5 A) :
  Calls Try.prog 33 #[.agg #[.int .i64 s.ix, .int .i64 s.nx, .slice s.a2 s.n2 s.c2, .slice s.a3 s.n3 s.c3, .slice s.a4 Ln.length s.c4, .slice s.a5 A.length s.c5, .slice s.a6 s.n6 s.c6, .slice s.a7 s.n7 s.c7, .slice s.a8 s.n8 s.c8], .agg #[.int .i64 d.id, .int .i64 d.ty, .int .i64 d.pr, .int .i64 d.pa, .slice ga d.gs.length gc, .int .i64 d.ve, .bool d.sd]] w fun e w' => ∃ p hb sb lb, e = .returned (.pointer (some ⟨p, 0, none⟩)) ∧ LkR w'.heap.size p hb sb d ga gc lb s.a5 s.c5 A (slV d Ln) [] none 0 w' ∧ ItR p sb w'.heap.size lb (slV d Ln) w' ∧ Below w.heap.size w w' ∧ w.heap.size ≤ p ∧ w.heap.size ≤ sb := by
 have hmm := @run_makeMap Try.prog
 have HG := hidOf hG
 have HN := hidOf hN
 have HA := hidOf hA
 clear hG hN hA
 have HT := hidOf (two_boxes (cs := [.int .i64 s.ix, .int .i64 s.nx, .slice s.a2 s.n2 s.c2, .slice s.a3 s.n3 s.c3, .slice s.a4 Ln.length s.c4, .slice s.a5 A.length s.c5, .slice s.a6 s.n6 s.c6, .slice s.a7 s.n7 s.c7, .slice s.a8 s.n8 s.c8]) (ds := [.int .i64 d.id, .int .i64 d.ty, .int .i64 d.pr, .int .i64 d.pa, .slice ga d.gs.length gc, .int .i64 d.ve, .bool d.sd]) (t := 29) (u := 51) (w := w) (Below.refl _ _))
 go_enter Try.func33, Try.ntmps33
 go_upto_region 1 with (fail)
 obtain ⟨wB, hwB⟩ : ∃ wB, (w.alloc (.cells #[.int .i64 s.ix, .int .i64 s.nx, .slice s.a2 s.n2 s.c2, .slice s.a3 s.n3 s.c3, .slice s.a4 Ln.length s.c4, .slice s.a5 A.length s.c5, .slice s.a6 s.n6 s.c6, .slice s.a7 s.n7 s.c7, .slice s.a8 s.n8 s.c8] 29)).alloc (.cells #[.int .i64 d.id, .int .i64 d.ty, .int .i64 d.pr, .int .i64 d.pa, .slice ga d.gs.length gc, .int .i64 d.ve, .bool d.sd] 51) = wB := ⟨_, rfl⟩
 have hzB : wB.heap.size = w.heap.size + 2 := by rw [← hwB]; simp
 have HBB : Hid (Below w.heap.size w wB) := hidOf (by rw [← hwB]; exact below2 w _ _)
 have HRB : Hid (wB.rangeAt w.heap.size 0 [.int .i64 s.ix, .int .i64 s.nx, .slice s.a2 s.n2 s.c2, .slice s.a3 s.n3 s.c3, .slice s.a4 Ln.length s.c4, .slice s.a5 A.length s.c5, .slice s.a6 s.n6 s.c6, .slice s.a7 s.n7 s.c7, .slice s.a8 s.n8 s.c8] ∧ wB.rangeAt (w.heap.size + 1) 0 [.int .i64 d.id, .int .i64 d.ty, .int .i64 d.pr, .int .i64 d.pa, .slice ga d.gs.length gc, .int .i64 d.ve, .bool d.sd]) := hidOf (by rw [← hwB]; exact ⟨HT.out.1, HT.out.2.1⟩)
 rw [hwB]
 clear hwB HT
 have qj0 : wB.cell? ⟨w.heap.size + 1, 0, none⟩ = some (.int .i64 d.id) := HRB.out.2 0 _ rfl
 have qj1 : wB.cell? ⟨w.heap.size + 1, 1, none⟩ = some (.int .i64 d.ty) := HRB.out.2 1 _ rfl
 have qj2 : wB.cell? ⟨w.heap.size + 1, 2, none⟩ = some (.int .i64 d.pr) := HRB.out.2 2 _ rfl
 have qj3 : wB.cell? ⟨w.heap.size + 1, 3, none⟩ = some (.int .i64 d.pa) := HRB.out.2 3 _ rfl
 have qj4 : wB.cell? ⟨w.heap.size + 1, 4, none⟩ = some (.slice ga d.gs.length gc) := HRB.out.2 4 _ rfl
 have qj5 : wB.cell? ⟨w.heap.size + 1, 5, none⟩ = some (.int .i64 d.ve) := HRB.out.2 5 _ rfl
 have qj6 : wB.cell? ⟨w.heap.size + 1, 6, none⟩ = some (.bool d.sd) := HRB.out.2 6 _ rfl
 have qs4 : wB.cell? ⟨w.heap.size, 4, none⟩ = some (.slice s.a4 Ln.length s.c4) := HRB.out.1 4 _ rfl
 have qs5 : wB.cell? ⟨w.heap.size, 5, none⟩ = some (.slice s.a5 A.length s.c5) := HRB.out.1 5 _ rfl
 refine wp_region_held_drew (S := fun (Y : World) => Y.cell? ⟨w.heap.size + 1, 0, none⟩ = some (.int .i64 d.id) ∧ Y.cell? ⟨w.heap.size + 1, 1, none⟩ = some (.int .i64 d.ty) ∧ Y.cell? ⟨w.heap.size + 1, 2, none⟩ = some (.int .i64 d.pr) ∧ Y.cell? ⟨w.heap.size + 1, 3, none⟩ = some (.int .i64 d.pa) ∧ Y.cell? ⟨w.heap.size + 1, 4, none⟩ = some (.slice ga d.gs.length gc) ∧ Y.cell? ⟨w.heap.size + 1, 5, none⟩ = some (.int .i64 d.ve) ∧ Y.cell? ⟨w.heap.size + 1, 6, none⟩ = some (.bool d.sd) ∧ Y.cell? ⟨w.heap.size, 4, none⟩ = some (.slice s.a4 Ln.length s.c4) ∧ Y.cell? ⟨w.heap.size, 5, none⟩ = some (.slice s.a5 A.length s.c5)) (by kernel_rfl) ⟨qj0, qj1, qj2, qj3, qj4, qj5, qj6, qs4, qs5⟩ (fun hHeld => ?_)
 obtain ⟨wD, hwD⟩ : ∃ wD, wB.drew = wD := ⟨_, rfl⟩
 have hBD : Below w.heap.size w wD := by rw [← hwD]; exact HBB.out.trans ((bdrew wB).mono HBB.out.size)
 have hzD : wD.heap.size ≤ w.heap.size + 2 ∧ w.heap.size + 2 ≤ wD.heap.size := by rw [← hwD]; exact ⟨Nat.le_of_eq hzB, Nat.le_of_eq hzB.symm⟩
 have HRS : Hid (wD.rangeAt w.heap.size 0 [.int .i64 s.ix, .int .i64 s.nx, .slice s.a2 s.n2 s.c2, .slice s.a3 s.n3 s.c3, .slice s.a4 Ln.length s.c4, .slice s.a5 A.length s.c5, .slice s.a6 s.n6 s.c6, .slice s.a7 s.n7 s.c7, .slice s.a8 s.n8 s.c8] ∧ wD.rangeAt (w.heap.size + 1) 0 [.int .i64 d.id, .int .i64 d.ty, .int .i64 d.pr, .int .i64 d.pa, .slice ga d.gs.length gc, .int .i64 d.ve, .bool d.sd]) := hidOf (by rw [← hwD]; exact HRB.out)
 rw [hwD] at hHeld ⊢
 clear hwD hzB
 have HBD := hidOf hBD
 clear hBD
 refine tkH 0 oZb_0 6 (.agg #[.int .i64 d.id, .int .i64 d.ty, .int .i64 d.pr, .int .i64 d.pa, .slice ga d.gs.length gc, .int .i64 d.ve, .bool d.sd]) hHeld (by intro w hS; dsimp only [oZb_0] at hS ⊢; go_simp) ?_
 try simp only [pA, pC, pD]
 refine tkH 1 oZb_1 7 (.agg #[.int .i64 d.id, .int .i64 d.ty, .int .i64 d.pr, .int .i64 d.pa, .slice ga d.gs.length gc, .int .i64 d.ve, .bool d.sd]) hHeld (by intro w hS; dsimp only [oZb_1] at hS ⊢; go_simp) ?_
 try simp only [pA, pC, pD]
 refine tkH 2 oZb_2 8 (.pointer (some ⟨w.heap.size, 4, none⟩)) hHeld (by intro w hS; dsimp only [oZb_2] at hS ⊢; go_simp) ?_
 try simp only [pA, pC, pD]
 refine tkH 3 oZb_3 9 (.slice s.a4 Ln.length s.c4) hHeld (by intro w hS; dsimp only [oZb_3] at hS ⊢; go_simp) ?_
 try simp only [pA, pC, pD]
 refine tkH 5 oZb_4 11 (.pointer (some ⟨w.heap.size, 5, none⟩)) hHeld (by intro w hS; dsimp only [oZb_4] at hS ⊢; go_simp) ?_
 try simp only [pA, pC, pD]
 refine tkH 6 oZb_5 12 (.slice s.a5 A.length s.c5) hHeld (by intro w hS; dsimp only [oZb_5] at hS ⊢; go_simp) ?_
 try simp only [pA, pC, pD]
 clear qj0 qj1 qj2 qj3 qj4 qj5 qj6 qs4 qs5
 refine wpAnyH_ready (rs := [4, 7]) (by kernel_rfl) (by simp) ?_
 refine AllReadyH.cons (o := { dst := some 10, op := Op.call { callee := Callee.value (Operand.func 46), args := #[Operand.tmp 7, Operand.tmp 9], argTypes := #[51, 23] }, type := 89, pos := "diff.go:39", after := #[{ on := 1, ground := Ground.data }, { on := 3, ground := Ground.data }], guard := none }) rfl (fun K hK => ?_) (AllReadyH.cons (o := { dst := some 13, op := Op.makeMap 91 none, type := 91, pos := "diff.go:39", after := #[], guard := none }) rfl (fun K hK => ?_) AllReadyH.nil)
 ·go_simp
  have HB0 := HBD
  refine (slots_any d ga gc Ln s.a4 s.c4 (fun b => b < w.heap.size) wD (fun k hk => by have : k < w.heap.size := hk; omega) (HG.out.kept (fun b hb => HB0.out.block b hb) (fun _ h => h)) (HN.out.kept (fun b hb => HB0.out.block b hb) (fun b hb => by have : b < w.heap.size := hb; show b < wD.heap.size; omega))).mono ?_
  rintro e w1 ⟨rfl, hb1, hz1, hseq⟩
  have HB1 := hidOf (HB0.out.trans (hb1.mono HB0.out.size))
  have HSE := hidOf hseq
  have hs1 := hb1.size
  have HC1 := hidOf hb1
  clear hseq hb1
  obtain ⟨lb, hlb⟩ : ∃ lb : Array Value, #[.pointer (some ⟨wD.heap.size, 0, none⟩), .pointer (some ⟨wD.heap.size + 1, 0, none⟩)] = lb := ⟨_, rfl⟩
  rw [hlb] at HSE ⊢
  clear hlb
  refine hK.out _ _ ⟨(hb_cell HC1.out (by omega)).trans (HRS.out.2 0 _ rfl), (hb_cell HC1.out (by omega)).trans (HRS.out.2 1 _ rfl), (hb_cell HC1.out (by omega)).trans (HRS.out.2 2 _ rfl), (hb_cell HC1.out (by omega)).trans (HRS.out.2 3 _ rfl), (hb_cell HC1.out (by omega)).trans (HRS.out.2 4 _ rfl), (hb_cell HC1.out (by omega)).trans (HRS.out.2 5 _ rfl), (hb_cell HC1.out (by omega)).trans (HRS.out.2 6 _ rfl), (hb_cell HC1.out (by omega)).trans (HRS.out.1 4 _ rfl), (hb_cell HC1.out (by omega)).trans (HRS.out.1 5 _ rfl)⟩ (fun hHeld1 => ?_)
  clear hK K
  try simp only [Act.put, List.setIfInBounds_toArray, List.set_cons_zero, List.set_cons_succ]
  have hbM := below1 w1 (.map #[] 0)
  refine wpAnyH_ready (rs := [7]) (by kernel_rfl) (by simp) ?_
  refine AllReadyH.cons (o := { dst := some 13, op := Op.makeMap 91 none, type := 91, pos := "diff.go:39", after := #[], guard := none }) rfl (fun K hK => ?_) AllReadyH.nil
  go_simp
  refine hK.out _ _ ⟨(hb_cell (HC1.out.trans (hbM.mono HC1.out.size)) (by omega)).trans (HRS.out.2 0 _ rfl), (hb_cell (HC1.out.trans (hbM.mono HC1.out.size)) (by omega)).trans (HRS.out.2 1 _ rfl), (hb_cell (HC1.out.trans (hbM.mono HC1.out.size)) (by omega)).trans (HRS.out.2 2 _ rfl), (hb_cell (HC1.out.trans (hbM.mono HC1.out.size)) (by omega)).trans (HRS.out.2 3 _ rfl), (hb_cell (HC1.out.trans (hbM.mono HC1.out.size)) (by omega)).trans (HRS.out.2 4 _ rfl), (hb_cell (HC1.out.trans (hbM.mono HC1.out.size)) (by omega)).trans (HRS.out.2 5 _ rfl), (hb_cell (HC1.out.trans (hbM.mono HC1.out.size)) (by omega)).trans (HRS.out.2 6 _ rfl), (hb_cell (HC1.out.trans (hbM.mono HC1.out.size)) (by omega)).trans (HRS.out.1 4 _ rfl), (hb_cell (HC1.out.trans (hbM.mono HC1.out.size)) (by omega)).trans (HRS.out.1 5 _ rfl)⟩ (fun hHeld2 => ?_)
  clear hK K
  try simp only [Act.put, List.setIfInBounds_toArray, List.set_cons_zero, List.set_cons_succ]
  have hb2 : Below wD.heap.size wD ((w1.alloc (.map #[] 0)).alloc (.cells #[.int .i64 d.id, .int .i64 d.ty, .int .i64 d.pr, .int .i64 d.pa, .slice ga d.gs.length gc, .int .i64 d.ve, .bool d.sd, .func (.func 66) #[] lb, .slice s.a5 A.length s.c5, .map none, .map (some w1.heap.size), .slice none 0 0] 93)) := (HC1.out.trans (hbM.mono HC1.out.size)).alloc (by simp; omega) _
  refine wpAnyH_take (i := 8) (oi := { dst := some 14, op := Op.build 93 #[(0, Operand.tmp 6), (1, Operand.tmp 10), (2, Operand.tmp 12), (4, Operand.tmp 13)], type := 93, pos := "diff.go:39", after := #[{ on := 0, ground := Ground.data }, { on := 4, ground := Ground.data }, { on := 6, ground := Ground.data }, { on := 7, ground := Ground.data }], guard := none }) (v := .agg #[.int .i64 d.id, .int .i64 d.ty, .int .i64 d.pr, .int .i64 d.pa, .slice ga d.gs.length gc, .int .i64 d.ve, .bool d.sd, .func (.func 66) #[] lb, .slice s.a5 A.length s.c5, .map none, .map (some w1.heap.size), .slice none 0 0]) rfl (by kernel_rfl) (by kernel_rfl) (by kernel_rfl) (fun _ _ _ h => h) (Or.inl ⟨by rfl, ?_⟩) hHeld2 ?_
  ·(intro wz hSw; clear hSw; go_simp)
  try simp only [Act.put, List.setIfInBounds_toArray, List.set_cons_zero, List.set_cons_succ]
  refine wpAnyH_ready (rs := [9]) (by kernel_rfl) (by simp) ?_
  refine AllReadyH.cons (o := { dst := some 15, op := Op.box 93 (Operand.tmp 14), type := 85, pos := "diff.go:39", after := #[{ on := 8, ground := Ground.data }], guard := none }) rfl (fun K hK => ?_) AllReadyH.nil
  go_simp
  refine hK.out _ _ ⟨(hb_cell hb2 (by omega)).trans (HRS.out.2 0 _ rfl), (hb_cell hb2 (by omega)).trans (HRS.out.2 1 _ rfl), (hb_cell hb2 (by omega)).trans (HRS.out.2 2 _ rfl), (hb_cell hb2 (by omega)).trans (HRS.out.2 3 _ rfl), (hb_cell hb2 (by omega)).trans (HRS.out.2 4 _ rfl), (hb_cell hb2 (by omega)).trans (HRS.out.2 5 _ rfl), (hb_cell hb2 (by omega)).trans (HRS.out.2 6 _ rfl), (hb_cell hb2 (by omega)).trans (HRS.out.1 4 _ rfl), (hb_cell hb2 (by omega)).trans (HRS.out.1 5 _ rfl)⟩ (fun hHeld3 => ?_)
  clear hK K
  try simp only [Act.put, List.setIfInBounds_toArray, List.set_cons_zero, List.set_cons_succ]
  refine wpAnyH_take (i := 10) (oi := { dst := some 5, op := Op.assign (Operand.tmp 15), type := 85, pos := "diff.go:39", after := #[{ on := 9, ground := Ground.data }, { on := 4, ground := Ground.chain }, { on := 0, ground := Ground.phase }, { on := 1, ground := Ground.phase }, { on := 2, ground := Ground.phase }, { on := 3, ground := Ground.phase }, { on := 4, ground := Ground.phase }, { on := 5, ground := Ground.phase }, { on := 6, ground := Ground.phase }, { on := 7, ground := Ground.phase }, { on := 8, ground := Ground.phase }, { on := 9, ground := Ground.phase }], guard := none }) (v := .pointer (some ⟨w1.heap.size + 1, 0, none⟩)) rfl (by kernel_rfl) (by kernel_rfl) (by kernel_rfl) (fun _ _ _ h => h) (Or.inl ⟨by rfl, ?_⟩) hHeld3 ?_
  ·(intro wz hSw; clear hSw; go_simp)
  try simp only [Act.put, List.setIfInBounds_toArray, List.set_cons_zero, List.set_cons_succ]
  refine wpAnyH_done (by kernel_rfl) ?_ _
  have hzM : (w1.alloc (.map #[] 0)).heap.size = w1.heap.size + 1 := by simp
  obtain ⟨p, hp⟩ : ∃ p, w1.heap.size + 1 = p := ⟨_, rfl⟩
  have hpw : (w1.alloc (.map #[] 0)).heap.size = p := by subst hp; first | rfl | simp
  obtain ⟨wP, hwP⟩ : ∃ wP, (w1.alloc (.map #[] 0)).alloc (.cells #[.int .i64 d.id, .int .i64 d.ty, .int .i64 d.pr, .int .i64 d.pa, .slice ga d.gs.length gc, .int .i64 d.ve, .bool d.sd, .func (.func 66) #[] lb, .slice s.a5 A.length s.c5, .map none, .map (some w1.heap.size), .slice none 0 0] 93) = wP := ⟨_, rfl⟩
  have hzP : wP.heap.size ≤ p + 1 ∧ p + 1 ≤ wP.heap.size := by rw [← hwP, ← hpw]; simp
  have hbP : Below p (w1.alloc (.map #[] 0)) wP := by rw [← hwP, ← hpw]; exact below1 _ _
  have hcP : wP.heap[p]? = some (.cells (lkC d ga gc lb s.a5 A.length s.c5 none (some w1.heap.size) none 0 0).toArray 93 (0, 0)) := by rw [← hwP, ← hpw]; exact heap_alloc_new _ _
  rw [hwP, hp]
  clear hwP
  have hpe : (w1.alloc (.map #[] 0)).heap.size ≤ p ∧ p ≤ (w1.alloc (.map #[] 0)).heap.size := by rw [hpw]; exact ⟨Nat.le_refl _, Nat.le_refl _⟩
  have HBX := hidOf (HB1.out.trans (hbM.mono HB1.out.size))
  have HMX := hidOf (MpR.new w1 kI)
  have hBP : Below w.heap.size w wP := HBX.out.trans (hbP.mono (by rw [← hpw]; exact HBX.out.size))
  have hsX : w.heap.size + 2 ≤ w1.heap.size := by omega
  have hKP : Kq (fun k => k < w.heap.size ∨ (wD.heap.size ≤ k ∧ k < w1.heap.size)) w1 wP := ⟨by omega, fun k hk => (hbP.block k (by omega)).trans (hbM.block k (by omega))⟩
  have hST : MpR wP w1.heap.size kI (unS []) := (HMX.out).keep (hbP.block w1.heap.size (by omega))
  have HHO := hidOf (holders_any p d ga gc lb s.a5 s.c5 A none (some w1.heap.size) none 0 0 (slV d Ln) (fun k => k < w.heap.size ∨ (wD.heap.size ≤ k ∧ k < w1.heap.size)) w1 wP hKP (row_range hcP (fun j v h => by simpa using h)) (by omega) (HA.out.kept (fun b hb => hBP.block b hb) (fun b hb => Nat.lt_of_lt_of_le hb hBP.size)) (fun k hk => by omega) HSE.out)
  have HCP := hidOf hcP
  have HBP := hidOf hBP
  have HKP := hidOf hKP
  clear hp hpw
  have HST := hidOf hST
  have HA2 := hidOf (HA.out.kept (w' := wP) (S' := fun b => b < w.heap.size) (fun b hb => hBP.block b hb) (fun _ h => h))
  clear hcP hBP hKP hST hbP
  go_wp2_with (go_at_call 47; refine HHO.out.mono ?_; rintro e w4 ⟨rfl, hm4, hb4⟩; have HM4 := hidOf hm4; have HB4 := hidOf hb4; have hs4 := hb4.size; have HP4 := hidOf ((hb4.block p (by omega)).trans HCP.out); have p9 : w4.cell? ⟨p, 9, none⟩ = some (.map none) := (cell_of_row w4 p 9 _ 93 (0, 0) HP4.out).trans rfl; have fp := frozen_of_row w4 p 9 _ 93 HP4.out; have lp4 : p < w4.heap.size := (by omega); clear hm4 hb4)
  go_ret
  have hlt4 := HM4.out.lt
  have hz5 : (w4.setCell ⟨p, 9, none⟩ (.map (some wP.heap.size))).heap.size = w4.heap.size := by simp
  have hoth : ∀ b, b ≠ p → (w4.setCell ⟨p, 9, none⟩ (.map (some wP.heap.size))).heap[b]? = w4.heap[b]? := fun b hne => heap_setCell_other w4 ⟨p, 9, none⟩ b _ hne
  have hB5 : Below w.heap.size w (w4.setCell ⟨p, 9, none⟩ (.map (some wP.heap.size))) := (HBP.out.trans (HB4.out.mono HBP.out.size)).setCell (p := ⟨p, 9, none⟩) (by show w.heap.size ≤ p; omega) _
  refine ⟨p, wP.heap.size, w1.heap.size, lb, rfl, ⟨?_, ?_, ?_, ⟨rfl, .inl ⟨rfl, rfl⟩⟩, ?_, by omega, by omega, by omega, by rw [hz5]; omega, by rw [hz5]; omega, by rw [hz5]; omega, Nat.le_refl _⟩, ⟨fun k => k < w.heap.size ∨ (wD.heap.size ≤ k ∧ k < w1.heap.size), w1, HSE.out, HKP.out.trans ⟨by rw [hz5]; omega, fun k hk => (hoth k (by omega)).trans (HB4.out.block k (by omega))⟩, fun k hk => ⟨by rw [hz5]; omega, by omega, by omega⟩⟩, hB5, by omega, by omega⟩
  ·rw [heap_setCell_same w4 p 9 _ 93 _ HP4.out]
   simp only [lkC, List.setIfInBounds_toArray, List.set_cons_zero, List.set_cons_succ]
   rfl
  ·exact HM4.out.keep (hoth _ (by omega))
  ·exact HST.out.keep ((hoth _ (by omega)).trans (HB4.out.block _ (by omega)))
  ·exact HA2.out.kept (fun b hb => (hoth b (by have : b < w.heap.size := hb; omega)).trans (HB4.out.block b (by have : b < w.heap.size := hb; omega))) (fun b hb => by have : b < w.heap.size := hb; exact ⟨by rw [hz5]; omega, by omega, by omega⟩)
 ·go_simp
  have hbM := below1 wD (.map #[] 0)
  refine hK.out _ _ ⟨(hb_cell hbM (by omega)).trans (HRS.out.2 0 _ rfl), (hb_cell hbM (by omega)).trans (HRS.out.2 1 _ rfl), (hb_cell hbM (by omega)).trans (HRS.out.2 2 _ rfl), (hb_cell hbM (by omega)).trans (HRS.out.2 3 _ rfl), (hb_cell hbM (by omega)).trans (HRS.out.2 4 _ rfl), (hb_cell hbM (by omega)).trans (HRS.out.2 5 _ rfl), (hb_cell hbM (by omega)).trans (HRS.out.2 6 _ rfl), (hb_cell hbM (by omega)).trans (HRS.out.1 4 _ rfl), (hb_cell hbM (by omega)).trans (HRS.out.1 5 _ rfl)⟩ (fun hHeld1 => ?_)
  clear hK K
  try simp only [Act.put, List.setIfInBounds_toArray, List.set_cons_zero, List.set_cons_succ]
  obtain ⟨wM, hwM⟩ : ∃ wM, wD.alloc (.map #[] 0) = wM := ⟨_, rfl⟩
  have hzM : wM.heap.size ≤ wD.heap.size + 1 ∧ wD.heap.size + 1 ≤ wM.heap.size := by rw [← hwM]; simp
  have HMD : Hid (MpR wM wD.heap.size kI (unS [])) := hidOf (by rw [← hwM]; exact MpR.new wD kI)
  rw [hwM] at hbM hHeld1 ⊢
  clear hwM
  have HB0 := hidOf (HBD.out.trans (hbM.mono HBD.out.size))
  refine wpAnyH_ready (rs := [4]) (by kernel_rfl) (by simp) ?_
  refine AllReadyH.cons (o := { dst := some 10, op := Op.call { callee := Callee.value (Operand.func 46), args := #[Operand.tmp 7, Operand.tmp 9], argTypes := #[51, 23] }, type := 89, pos := "diff.go:39", after := #[{ on := 1, ground := Ground.data }, { on := 3, ground := Ground.data }], guard := none }) rfl (fun K hK => ?_) AllReadyH.nil
  go_simp
  refine (slots_any d ga gc Ln s.a4 s.c4 (fun b => b < w.heap.size) wM (fun k hk => by have : k < w.heap.size := hk; omega) (HG.out.kept (fun b hb => HB0.out.block b hb) (fun _ h => h)) (HN.out.kept (fun b hb => HB0.out.block b hb) (fun b hb => by have : b < w.heap.size := hb; show b < wM.heap.size; omega))).mono ?_
  rintro e w1 ⟨rfl, hb1, hz1, hseq⟩
  have HB1 := hidOf (HB0.out.trans (hb1.mono HB0.out.size))
  have HSE := hidOf hseq
  have hs1 := hb1.size
  have HC1 := hidOf hb1
  clear hseq hb1
  obtain ⟨lb, hlb⟩ : ∃ lb : Array Value, #[.pointer (some ⟨wM.heap.size, 0, none⟩), .pointer (some ⟨wM.heap.size + 1, 0, none⟩)] = lb := ⟨_, rfl⟩
  rw [hlb] at HSE ⊢
  clear hlb
  refine hK.out _ _ ⟨(hb_cell (hbM.trans (HC1.out.mono hbM.size)) (by omega)).trans (HRS.out.2 0 _ rfl), (hb_cell (hbM.trans (HC1.out.mono hbM.size)) (by omega)).trans (HRS.out.2 1 _ rfl), (hb_cell (hbM.trans (HC1.out.mono hbM.size)) (by omega)).trans (HRS.out.2 2 _ rfl), (hb_cell (hbM.trans (HC1.out.mono hbM.size)) (by omega)).trans (HRS.out.2 3 _ rfl), (hb_cell (hbM.trans (HC1.out.mono hbM.size)) (by omega)).trans (HRS.out.2 4 _ rfl), (hb_cell (hbM.trans (HC1.out.mono hbM.size)) (by omega)).trans (HRS.out.2 5 _ rfl), (hb_cell (hbM.trans (HC1.out.mono hbM.size)) (by omega)).trans (HRS.out.2 6 _ rfl), (hb_cell (hbM.trans (HC1.out.mono hbM.size)) (by omega)).trans (HRS.out.1 4 _ rfl), (hb_cell (hbM.trans (HC1.out.mono hbM.size)) (by omega)).trans (HRS.out.1 5 _ rfl)⟩ (fun hHeld2 => ?_)
  clear hK K
  try simp only [Act.put, List.setIfInBounds_toArray, List.set_cons_zero, List.set_cons_succ]
  have hb2 : Below wD.heap.size wD (w1.alloc (.cells #[.int .i64 d.id, .int .i64 d.ty, .int .i64 d.pr, .int .i64 d.pa, .slice ga d.gs.length gc, .int .i64 d.ve, .bool d.sd, .func (.func 66) #[] lb, .slice s.a5 A.length s.c5, .map none, .map (some wD.heap.size), .slice none 0 0] 93)) := (hbM.trans (HC1.out.mono hbM.size)).alloc (by omega) _
  refine wpAnyH_take (i := 8) (oi := { dst := some 14, op := Op.build 93 #[(0, Operand.tmp 6), (1, Operand.tmp 10), (2, Operand.tmp 12), (4, Operand.tmp 13)], type := 93, pos := "diff.go:39", after := #[{ on := 0, ground := Ground.data }, { on := 4, ground := Ground.data }, { on := 6, ground := Ground.data }, { on := 7, ground := Ground.data }], guard := none }) (v := .agg #[.int .i64 d.id, .int .i64 d.ty, .int .i64 d.pr, .int .i64 d.pa, .slice ga d.gs.length gc, .int .i64 d.ve, .bool d.sd, .func (.func 66) #[] lb, .slice s.a5 A.length s.c5, .map none, .map (some wD.heap.size), .slice none 0 0]) rfl (by kernel_rfl) (by kernel_rfl) (by kernel_rfl) (fun _ _ _ h => h) (Or.inl ⟨by rfl, ?_⟩) hHeld2 ?_
  ·(intro wz hSw; clear hSw; go_simp)
  try simp only [Act.put, List.setIfInBounds_toArray, List.set_cons_zero, List.set_cons_succ]
  refine wpAnyH_ready (rs := [9]) (by kernel_rfl) (by simp) ?_
  refine AllReadyH.cons (o := { dst := some 15, op := Op.box 93 (Operand.tmp 14), type := 85, pos := "diff.go:39", after := #[{ on := 8, ground := Ground.data }], guard := none }) rfl (fun K hK => ?_) AllReadyH.nil
  go_simp
  refine hK.out _ _ ⟨(hb_cell hb2 (by omega)).trans (HRS.out.2 0 _ rfl), (hb_cell hb2 (by omega)).trans (HRS.out.2 1 _ rfl), (hb_cell hb2 (by omega)).trans (HRS.out.2 2 _ rfl), (hb_cell hb2 (by omega)).trans (HRS.out.2 3 _ rfl), (hb_cell hb2 (by omega)).trans (HRS.out.2 4 _ rfl), (hb_cell hb2 (by omega)).trans (HRS.out.2 5 _ rfl), (hb_cell hb2 (by omega)).trans (HRS.out.2 6 _ rfl), (hb_cell hb2 (by omega)).trans (HRS.out.1 4 _ rfl), (hb_cell hb2 (by omega)).trans (HRS.out.1 5 _ rfl)⟩ (fun hHeld3 => ?_)
  clear hK K
  try simp only [Act.put, List.setIfInBounds_toArray, List.set_cons_zero, List.set_cons_succ]
  refine wpAnyH_take (i := 10) (oi := { dst := some 5, op := Op.assign (Operand.tmp 15), type := 85, pos := "diff.go:39", after := #[{ on := 9, ground := Ground.data }, { on := 4, ground := Ground.chain }, { on := 0, ground := Ground.phase }, { on := 1, ground := Ground.phase }, { on := 2, ground := Ground.phase }, { on := 3, ground := Ground.phase }, { on := 4, ground := Ground.phase }, { on := 5, ground := Ground.phase }, { on := 6, ground := Ground.phase }, { on := 7, ground := Ground.phase }, { on := 8, ground := Ground.phase }, { on := 9, ground := Ground.phase }], guard := none }) (v := .pointer (some ⟨w1.heap.size, 0, none⟩)) rfl (by kernel_rfl) (by kernel_rfl) (by kernel_rfl) (fun _ _ _ h => h) (Or.inl ⟨by rfl, ?_⟩) hHeld3 ?_
  ·(intro wz hSw; clear hSw; go_simp)
  try simp only [Act.put, List.setIfInBounds_toArray, List.set_cons_zero, List.set_cons_succ]
  refine wpAnyH_done (by kernel_rfl) ?_ _
  obtain ⟨p, hp⟩ : ∃ p, w1.heap.size = p := ⟨_, rfl⟩
  have hpw : w1.heap.size = p := by subst hp; first | rfl | simp
  obtain ⟨wP, hwP⟩ : ∃ wP, w1.alloc (.cells #[.int .i64 d.id, .int .i64 d.ty, .int .i64 d.pr, .int .i64 d.pa, .slice ga d.gs.length gc, .int .i64 d.ve, .bool d.sd, .func (.func 66) #[] lb, .slice s.a5 A.length s.c5, .map none, .map (some wD.heap.size), .slice none 0 0] 93) = wP := ⟨_, rfl⟩
  have hzP : wP.heap.size ≤ p + 1 ∧ p + 1 ≤ wP.heap.size := by rw [← hwP, ← hpw]; simp
  have hbP : Below p w1 wP := by rw [← hwP, ← hpw]; exact below1 _ _
  have hcP : wP.heap[p]? = some (.cells (lkC d ga gc lb s.a5 A.length s.c5 none (some wD.heap.size) none 0 0).toArray 93 (0, 0)) := by rw [← hwP, ← hpw]; exact heap_alloc_new _ _
  rw [hwP, hp]
  clear hwP
  have hpe : w1.heap.size ≤ p ∧ p ≤ w1.heap.size := by rw [hpw]; exact ⟨Nat.le_refl _, Nat.le_refl _⟩
  have HBX := HB1
  have HMX := hidOf (HMD.out.keep (HC1.out.block _ (by omega)))
  have hBP : Below w.heap.size w wP := HBX.out.trans (hbP.mono (by rw [← hpw]; exact HBX.out.size))
  have hsX : w.heap.size + 2 ≤ wD.heap.size := by omega
  have hKP : Kq (fun k => k < w.heap.size ∨ (wM.heap.size ≤ k ∧ k < w1.heap.size)) w1 wP := ⟨by omega, fun k hk => hbP.block k (by omega)⟩
  have hST : MpR wP wD.heap.size kI (unS []) := (HMX.out).keep (hbP.block wD.heap.size (by omega))
  have HHO := hidOf (holders_any p d ga gc lb s.a5 s.c5 A none (some wD.heap.size) none 0 0 (slV d Ln) (fun k => k < w.heap.size ∨ (wM.heap.size ≤ k ∧ k < w1.heap.size)) w1 wP hKP (row_range hcP (fun j v h => by simpa using h)) (by omega) (HA.out.kept (fun b hb => hBP.block b hb) (fun b hb => Nat.lt_of_lt_of_le hb hBP.size)) (fun k hk => by omega) HSE.out)
  have HCP := hidOf hcP
  have HBP := hidOf hBP
  have HKP := hidOf hKP
  clear hp hpw
  have HST := hidOf hST
  have HA2 := hidOf (HA.out.kept (w' := wP) (S' := fun b => b < w.heap.size) (fun b hb => hBP.block b hb) (fun _ h => h))
  clear hcP hBP hKP hST hbP
  go_wp2_with (go_at_call 47; refine HHO.out.mono ?_; rintro e w4 ⟨rfl, hm4, hb4⟩; have HM4 := hidOf hm4; have HB4 := hidOf hb4; have hs4 := hb4.size; have HP4 := hidOf ((hb4.block p (by omega)).trans HCP.out); have p9 : w4.cell? ⟨p, 9, none⟩ = some (.map none) := (cell_of_row w4 p 9 _ 93 (0, 0) HP4.out).trans rfl; have fp := frozen_of_row w4 p 9 _ 93 HP4.out; have lp4 : p < w4.heap.size := (by omega); clear hm4 hb4)
  go_ret
  have hlt4 := HM4.out.lt
  have hz5 : (w4.setCell ⟨p, 9, none⟩ (.map (some wP.heap.size))).heap.size = w4.heap.size := by simp
  have hoth : ∀ b, b ≠ p → (w4.setCell ⟨p, 9, none⟩ (.map (some wP.heap.size))).heap[b]? = w4.heap[b]? := fun b hne => heap_setCell_other w4 ⟨p, 9, none⟩ b _ hne
  have hB5 : Below w.heap.size w (w4.setCell ⟨p, 9, none⟩ (.map (some wP.heap.size))) := (HBP.out.trans (HB4.out.mono HBP.out.size)).setCell (p := ⟨p, 9, none⟩) (by show w.heap.size ≤ p; omega) _
  refine ⟨p, wP.heap.size, wD.heap.size, lb, rfl, ⟨?_, ?_, ?_, ⟨rfl, .inl ⟨rfl, rfl⟩⟩, ?_, by omega, by omega, by omega, by rw [hz5]; omega, by rw [hz5]; omega, by rw [hz5]; omega, Nat.le_refl _⟩, ⟨fun k => k < w.heap.size ∨ (wM.heap.size ≤ k ∧ k < w1.heap.size), w1, HSE.out, HKP.out.trans ⟨by rw [hz5]; omega, fun k hk => (hoth k (by omega)).trans (HB4.out.block k (by omega))⟩, fun k hk => ⟨by rw [hz5]; omega, by omega, by omega⟩⟩, hB5, by omega, by omega⟩
  ·rw [heap_setCell_same w4 p 9 _ 93 _ HP4.out]
   simp only [lkC, List.setIfInBounds_toArray, List.set_cons_zero, List.set_cons_succ]
   rfl
  ·exact HM4.out.keep (hoth _ (by omega))
  ·exact HST.out.keep ((hoth _ (by omega)).trans (HB4.out.block _ (by omega)))
  ·exact HA2.out.kept (fun b hb => (hoth b (by have : b < w.heap.size := hb; omega)).trans (HB4.out.block b (by have : b < w.heap.size := hb; omega))) (fun b hb => by have : b < w.heap.size := hb; exact ⟨by rw [hz5]; omega, by omega, by omega⟩)
end Go.Proofs.Ytblofbdncolikaa
