/- StoreCopies walked. -/
import Derived.Test.YtkokkdekbilkjaaCh
import Derived.Test.YtkokkdekbilkjaaRm
import Derived.Test.YtkokkdekbilkjaaCc
import Derived.Test.YtkokkdekbilkjaaRc
import Derived.Test.YtkokkdekbilkjaaLi
namespace Go.Proofs.Ytkokkdekbilkjaa
open Go.RowKit Go.Shelf
attribute [local go_sem] Oper.semAt_some
/- while the copy is written over: the store and the first copy stay, the copy stays a store -/
structure CpI (W2 : World) (N2 : Nat) (s : Sc) (wr : World) : Prop where
  bl : Below W2.heap.size W2 wr
  bx : wr.heap[N2]? = some (.cells #[.int .i64 s.ix, .int .i64 s.nx, .slice s.a2 s.n2 s.c2, .slice s.a3 s.n3 s.c3, .slice s.a4 s.n4 s.c4, .slice s.a5 s.n5 s.c5, .slice s.a6 s.n6 s.c6, .slice s.a7 s.n7 s.c7, .slice s.a8 s.n8 s.c8] 29 (0, 0))
  ge : W2.heap.size ≤ N2
  st : ∃ J B X d, StR wr (fun b => NBr W2.heap.size wr b ∧ b ≠ N2) s J B X d
theorem CpI.poke {W2 wr : World} {N2 : Nat} {s : Sc} (h : CpI W2 N2 s wr) {q o : Nat} {i j : Int} (hc : wr.cell? ⟨q, o, none⟩ = some (.int .i64 i)) (hq : NBr W2.heap.size wr q) (hn : q ≠ N2) : CpI W2 N2 s (wr.setCell ⟨q, o, none⟩ (.int .i64 j)) := by
  have hp := Pk.set hc (.inr (.inl ⟨i, j, rfl, rfl⟩))
  obtain ⟨J, B, X, d, hs⟩ := h.st
  obtain ⟨J', B', X', d', h2, _, _⟩ := hs.poke (S' := fun b => NBr W2.heap.size (wr.setCell ⟨q, o, none⟩ (.int .i64 j)) b ∧ b ≠ N2) hp (fun b hb => ⟨nbr_poke hp b hb.1, hb.2⟩)
  exact ⟨h.bl.setCell (p := ⟨q, o, none⟩) hq.1 _, (heap_setCell_other wr ⟨q, o, none⟩ N2 _ (Ne.symm hn)).trans h.bx, h.ge, J', B', X', d', h2⟩
theorem CpI.fz {W2 wr : World} {q : Nat} (hq : NBr W2.heap.size wr q) (j : Nat) : wr.frozen? ⟨q, j, none⟩ = false := by obtain ⟨cs, t, hc⟩ := hq.2.2; exact frozen_of_row wr q j cs t hc
/- another store is put into the box -/
theorem CpI.next {W2 wr w' W9 : World} {N2 : Nat} {s s' : Sc} {J B : List Js} {X : List Ss} {d : St} (h : CpI W2 N2 s wr) (hs : StR w' (fun b => NBr W2.heap.size w' b ∧ b ≠ N2) s' J B X d) (_hb : Below W2.heap.size wr w') (h9 : W9.heap[N2]? = some (.cells #[.int .i64 s'.ix, .int .i64 s'.nx, .slice s'.a2 s'.n2 s'.c2, .slice s'.a3 s'.n3 s'.c3, .slice s'.a4 s'.n4 s'.c4, .slice s'.a5 s'.n5 s'.c5, .slice s'.a6 s'.n6 s'.c6, .slice s'.a7 s'.n7 s'.c7, .slice s'.a8 s'.n8 s'.c8] 29 (0, 0))) (hof : ∀ b, b ≠ N2 → W9.heap[b]? = w'.heap[b]?) (hbf : Below W2.heap.size W2 W9) (hsz : W9.heap.size = w'.heap.size) : CpI W2 N2 s' W9 :=
  ⟨hbf, h9, h.ge, J, B, X, d, hs.kept (fun b hb => hof b hb.2) (fun b hb => ⟨⟨hb.1.1, by rw [hsz]; exact hb.1.2.1, hb.1.2.2.to (hof b hb.2)⟩, hb.2⟩)⟩
set_option maxRecDepth 100000 in
set_option maxHeartbeats 16000000 in
theorem lawCopies (s : Sc) (J B : List Js) (X : List Ss) (d : St) (w : World) (ha : StR w (fun b => b < w.heap.size) s J B X d) :
    Calls Try.prog 6 #[.agg #[.int .i64 s.ix, .int .i64 s.nx, .slice s.a2 s.n2 s.c2, .slice s.a3 s.n3 s.c3, .slice s.a4 s.n4 s.c4, .slice s.a5 s.n5 s.c5, .slice s.a6 s.n6 s.c6, .slice s.a7 s.n7 s.c7, .slice s.a8 s.n8 s.c8]] w fun e w' => e = .returned (.bool true) ∧ Below w.heap.size w w' := by
  have HA := hidOf (fun (W : World) (hW : Below w.heap.size w W) => ha.kept (w' := W) (S' := fun b => b < W.heap.size) (fun b hb => hW.block b hb) (fun b (h : b < w.heap.size) => Nat.lt_of_lt_of_le h hW.size))
  have HR := hidOf (fun (W : World) (hW : Below w.heap.size w W) => refCopy_any s J B X d W (HA.out W hW))
  have HC := hidOf (fun (W : World) (hW : Below w.heap.size w W) => copy_any s J B X d W (HA.out W hW))
  clear ha
  have HB0 := hidOf (below1 w (.cells #[.int .i64 s.ix, .int .i64 s.nx, .slice s.a2 s.n2 s.c2, .slice s.a3 s.n3 s.c3, .slice s.a4 s.n4 s.c4, .slice s.a5 s.n5 s.c5, .slice s.a6 s.n6 s.c6, .slice s.a7 s.n7 s.c7, .slice s.a8 s.n8 s.c8] 29))
  have HX0 := hidOf (heap_alloc_new w (.cells #[.int .i64 s.ix, .int .i64 s.nx, .slice s.a2 s.n2 s.c2, .slice s.a3 s.n3 s.c3, .slice s.a4 s.n4 s.c4, .slice s.a5 s.n5 s.c5, .slice s.a6 s.n6 s.c6, .slice s.a7 s.n7 s.c7, .slice s.a8 s.n8 s.c8] 29))
  go_enter Try.func6, Try.ntmps6
  go_upto_region 2 with (go_at_call 31; refine (HR.out _ HB0.out).mono ?_; rintro e w1 ⟨s1, J1, B1, X1, rfl, hs1, hb, _⟩; have HS1 := hidOf hs1; have HB1 := hidOf hb; clear hs1 hb)
  obtain ⟨W2, hW2⟩ : ∃ yy, yy = w1.alloc (.cells #[.int .i64 s1.ix, .int .i64 s1.nx, .slice s1.a2 s1.n2 s1.c2, .slice s1.a3 s1.n3 s1.c3, .slice s1.a4 s1.n4 s1.c4, .slice s1.a5 s1.n5 s1.c5, .slice s1.a6 s1.n6 s1.c6, .slice s1.a7 s1.n7 s1.c7, .slice s1.a8 s1.n8 s1.c8] 29) := ⟨_, rfl⟩
  rw [← hW2]
  have hb2 : Below w1.heap.size w1 W2 := by rw [hW2]; exact below1 w1 _
  have hx1 : W2.heap[w1.heap.size]? = some (.cells #[.int .i64 s1.ix, .int .i64 s1.nx, .slice s1.a2 s1.n2 s1.c2, .slice s1.a3 s1.n3 s1.c3, .slice s1.a4 s1.n4 s1.c4, .slice s1.a5 s1.n5 s1.c5, .slice s1.a6 s1.n6 s1.c6, .slice s1.a7 s1.n7 s1.c7, .slice s1.a8 s1.n8 s1.c8] 29 (0, 0)) := by rw [hW2]; exact heap_alloc_new w1 _
  clear hW2
  have hB2 : Below (w.alloc (.cells #[.int .i64 s.ix, .int .i64 s.nx, .slice s.a2 s.n2 s.c2, .slice s.a3 s.n3 s.c3, .slice s.a4 s.n4 s.c4, .slice s.a5 s.n5 s.c5, .slice s.a6 s.n6 s.c6, .slice s.a7 s.n7 s.c7, .slice s.a8 s.n8 s.c8] 29)).heap.size (w.alloc (.cells #[.int .i64 s.ix, .int .i64 s.nx, .slice s.a2 s.n2 s.c2, .slice s.a3 s.n3 s.c3, .slice s.a4 s.n4 s.c4, .slice s.a5 s.n5 s.c5, .slice s.a6 s.n6 s.c6, .slice s.a7 s.n7 s.c7, .slice s.a8 s.n8 s.c8] 29)) W2 := HB1.out.trans (hb2.mono HB1.out.size)
  have hx0 : W2.heap[w.heap.size]? = some (.cells #[.int .i64 s.ix, .int .i64 s.nx, .slice s.a2 s.n2 s.c2, .slice s.a3 s.n3 s.c3, .slice s.a4 s.n4 s.c4, .slice s.a5 s.n5 s.c5, .slice s.a6 s.n6 s.c6, .slice s.a7 s.n7 s.c7, .slice s.a8 s.n8 s.c8] 29 (0, 0)) := (hB2.block _ (by simp)).trans HX0.out
  have HBW2 : Hid (Below w.heap.size w W2) := hidOf (HB0.out.trans (hB2.mono (by simp)))
  have HS2 : Hid (StR W2 (fun b => b < W2.heap.size) s1 J1 B1 X1 d) := hidOf (HS1.out.kept (fun b hb => hb2.block b hb.2.1) (fun b hb => Nat.lt_of_lt_of_le hb.2.1 hb2.size))
  have HX1 := hidOf hx1
  have HX0' := hidOf hx0
  have l0 : w.heap.size < W2.heap.size := heap_lt hx0
  have l1 : w1.heap.size < W2.heap.size := heap_lt hx1
  have x0 : W2.cell? ⟨w.heap.size, 0, none⟩ = some (.int .i64 s.ix) := (cell_of_row W2 _ 0 _ 29 (0, 0) hx0).trans rfl
  have x1 : W2.cell? ⟨w.heap.size, 1, none⟩ = some (.int .i64 s.nx) := (cell_of_row W2 _ 1 _ 29 (0, 0) hx0).trans rfl
  have x2 : W2.cell? ⟨w.heap.size, 2, none⟩ = some (.slice s.a2 s.n2 s.c2) := (cell_of_row W2 _ 2 _ 29 (0, 0) hx0).trans rfl
  have x3 : W2.cell? ⟨w.heap.size, 3, none⟩ = some (.slice s.a3 s.n3 s.c3) := (cell_of_row W2 _ 3 _ 29 (0, 0) hx0).trans rfl
  have x4 : W2.cell? ⟨w.heap.size, 4, none⟩ = some (.slice s.a4 s.n4 s.c4) := (cell_of_row W2 _ 4 _ 29 (0, 0) hx0).trans rfl
  have x5 : W2.cell? ⟨w.heap.size, 5, none⟩ = some (.slice s.a5 s.n5 s.c5) := (cell_of_row W2 _ 5 _ 29 (0, 0) hx0).trans rfl
  have x6 : W2.cell? ⟨w.heap.size, 6, none⟩ = some (.slice s.a6 s.n6 s.c6) := (cell_of_row W2 _ 6 _ 29 (0, 0) hx0).trans rfl
  have x7 : W2.cell? ⟨w.heap.size, 7, none⟩ = some (.slice s.a7 s.n7 s.c7) := (cell_of_row W2 _ 7 _ 29 (0, 0) hx0).trans rfl
  have x8 : W2.cell? ⟨w.heap.size, 8, none⟩ = some (.slice s.a8 s.n8 s.c8) := (cell_of_row W2 _ 8 _ 29 (0, 0) hx0).trans rfl
  clear hx0 hx1 hb2 hB2 HX0 HB0 HB1 HS1
  go_upto_region 3 with (go_at_call 33; refine (HC.out _ HBW2.out).mono ?_; rintro e w3 ⟨s3, J3, B3, X3, rfl, hs3, hb⟩; have HS3 := hidOf hs3.str; have HB3 := hidOf hb; clear hs3 hb)
  obtain ⟨W4, hW4⟩ : ∃ yy, yy = w3.alloc (.cells #[.int .i64 s3.ix, .int .i64 s3.nx, .slice s3.a2 s3.n2 s3.c2, .slice s3.a3 s3.n3 s3.c3, .slice s3.a4 s3.n4 s3.c4, .slice s3.a5 s3.n5 s3.c5, .slice s3.a6 s3.n6 s3.c6, .slice s3.a7 s3.n7 s3.c7, .slice s3.a8 s3.n8 s3.c8] 29) := ⟨_, rfl⟩
  rw [← hW4]
  have hb4 : Below w3.heap.size w3 W4 := by rw [hW4]; exact below1 w3 _
  have hx2 : W4.heap[w3.heap.size]? = some (.cells #[.int .i64 s3.ix, .int .i64 s3.nx, .slice s3.a2 s3.n2 s3.c2, .slice s3.a3 s3.n3 s3.c3, .slice s3.a4 s3.n4 s3.c4, .slice s3.a5 s3.n5 s3.c5, .slice s3.a6 s3.n6 s3.c6, .slice s3.a7 s3.n7 s3.c7, .slice s3.a8 s3.n8 s3.c8] 29 (0, 0)) := by rw [hW4]; exact heap_alloc_new w3 _
  clear hW4 x0 x1 x2 x3 x4 x5 x6 x7 x8
  have h23 : W2.heap.size ≤ w3.heap.size := HB3.out.size
  have hS4 : StR W4 (fun b => NBr W2.heap.size W4 b ∧ b ≠ w3.heap.size) s3 J3 B3 X3 d := HS3.out.kept (fun b hb => hb4.block b hb.2.1) (fun b hb => ⟨⟨hb.1, Nat.lt_of_lt_of_le hb.2.1 hb4.size, hb.2.2.to (hb4.block b hb.2.1)⟩, by have := hb.2.1; omega⟩)
  have HCI : Hid (CpI W2 w3.heap.size s3 W4) := hidOf ⟨HB3.out.trans (hb4.mono HB3.out.size), hx2, h23, J3, B3, X3, d, hS4⟩
  have HW4 : Hid (Below w.heap.size w W4) := hidOf (HBW2.out.trans (HCI.out.bl.mono HBW2.out.size))
  have HSM := hidOf (refSame_any s3 s1 J3 B3 J1 B1 X3 X1 d d (fun b => b < W4.heap.size) W4 (fun _ h => h) (hS4.kept (fun _ _ => rfl) (fun b hb => hb.1.2.1)) (HS2.out.kept (fun b hb => HCI.out.bl.block b hb) (fun b (hb : b < W2.heap.size) => Nat.lt_of_lt_of_le hb HCI.out.bl.size)))
  have l2 : w3.heap.size < W4.heap.size := heap_lt hx2
  have l1' : w1.heap.size < W4.heap.size := by omega
  have hx1 : W4.heap[w1.heap.size]? = _ := (HCI.out.bl.block _ l1).trans HX1.out
  have y0 : W4.cell? ⟨w3.heap.size, 0, none⟩ = some (.int .i64 s3.ix) := (cell_of_row W4 _ 0 _ 29 (0, 0) hx2).trans rfl
  have y1 : W4.cell? ⟨w3.heap.size, 1, none⟩ = some (.int .i64 s3.nx) := (cell_of_row W4 _ 1 _ 29 (0, 0) hx2).trans rfl
  have y2 : W4.cell? ⟨w3.heap.size, 2, none⟩ = some (.slice s3.a2 s3.n2 s3.c2) := (cell_of_row W4 _ 2 _ 29 (0, 0) hx2).trans rfl
  have y3 : W4.cell? ⟨w3.heap.size, 3, none⟩ = some (.slice s3.a3 s3.n3 s3.c3) := (cell_of_row W4 _ 3 _ 29 (0, 0) hx2).trans rfl
  have y4 : W4.cell? ⟨w3.heap.size, 4, none⟩ = some (.slice s3.a4 s3.n4 s3.c4) := (cell_of_row W4 _ 4 _ 29 (0, 0) hx2).trans rfl
  have y5 : W4.cell? ⟨w3.heap.size, 5, none⟩ = some (.slice s3.a5 s3.n5 s3.c5) := (cell_of_row W4 _ 5 _ 29 (0, 0) hx2).trans rfl
  have y6 : W4.cell? ⟨w3.heap.size, 6, none⟩ = some (.slice s3.a6 s3.n6 s3.c6) := (cell_of_row W4 _ 6 _ 29 (0, 0) hx2).trans rfl
  have y7 : W4.cell? ⟨w3.heap.size, 7, none⟩ = some (.slice s3.a7 s3.n7 s3.c7) := (cell_of_row W4 _ 7 _ 29 (0, 0) hx2).trans rfl
  have y8 : W4.cell? ⟨w3.heap.size, 8, none⟩ = some (.slice s3.a8 s3.n8 s3.c8) := (cell_of_row W4 _ 8 _ 29 (0, 0) hx2).trans rfl
  have v0 : W4.cell? ⟨w1.heap.size, 0, none⟩ = some (.int .i64 s1.ix) := (cell_of_row W4 _ 0 _ 29 (0, 0) hx1).trans rfl
  have v1 : W4.cell? ⟨w1.heap.size, 1, none⟩ = some (.int .i64 s1.nx) := (cell_of_row W4 _ 1 _ 29 (0, 0) hx1).trans rfl
  have v2 : W4.cell? ⟨w1.heap.size, 2, none⟩ = some (.slice s1.a2 s1.n2 s1.c2) := (cell_of_row W4 _ 2 _ 29 (0, 0) hx1).trans rfl
  have v3 : W4.cell? ⟨w1.heap.size, 3, none⟩ = some (.slice s1.a3 s1.n3 s1.c3) := (cell_of_row W4 _ 3 _ 29 (0, 0) hx1).trans rfl
  have v4 : W4.cell? ⟨w1.heap.size, 4, none⟩ = some (.slice s1.a4 s1.n4 s1.c4) := (cell_of_row W4 _ 4 _ 29 (0, 0) hx1).trans rfl
  have v5 : W4.cell? ⟨w1.heap.size, 5, none⟩ = some (.slice s1.a5 s1.n5 s1.c5) := (cell_of_row W4 _ 5 _ 29 (0, 0) hx1).trans rfl
  have v6 : W4.cell? ⟨w1.heap.size, 6, none⟩ = some (.slice s1.a6 s1.n6 s1.c6) := (cell_of_row W4 _ 6 _ 29 (0, 0) hx1).trans rfl
  have v7 : W4.cell? ⟨w1.heap.size, 7, none⟩ = some (.slice s1.a7 s1.n7 s1.c7) := (cell_of_row W4 _ 7 _ 29 (0, 0) hx1).trans rfl
  have v8 : W4.cell? ⟨w1.heap.size, 8, none⟩ = some (.slice s1.a8 s1.n8 s1.c8) := (cell_of_row W4 _ 8 _ 29 (0, 0) hx1).trans rfl
  clear hx1 hx2 hb4 hS4
  have hdd : decide (d = d) = true := decide_eq_true rfl
  rw [hdd] at HSM
  clear hdd
  go_upto_region 6 with (go_at_call 30; refine HSM.out.mono ?_; rintro e w5 ⟨rfl, hb⟩; have HB5 := hidOf hb; clear hb)
  have HC5 : Hid (CpI W2 w3.heap.size s3 w5) := hidOf (by
    obtain ⟨J, B, X, d, hs⟩ := HCI.out.st
    exact ⟨HCI.out.bl.trans (HB5.out.mono HCI.out.bl.size), (HB5.out.block _ l2).trans HCI.out.bx, h23, J, B, X, d, hs.kept (fun b hb => HB5.out.block b hb.1.2.1) (fun b hb => ⟨⟨hb.1.1, Nat.lt_of_lt_of_le hb.1.2.1 HB5.out.size, hb.1.2.2.to (HB5.out.block b hb.1.2.1)⟩, hb.2⟩)⟩)
  clear HCI HSM HB5 HS3 HB3 HW4 l2 l1' y0 v0 y1 v1 y2 v2 y3 v3 y4 v4 y5 v5 y6 v6 y7 v7 y8 v8
  go_wp2
  go_loopw [6] (fun i wr => ∃ (k : Nat) (s6 : Sc), k ≤ 10 ∧ i = .int .i64 (k : Int) ∧ Hid (CpI W2 w3.heap.size s6 wr)) (fun i _ => 10 - (intOf i).toNat)
  case atStart => exact ⟨0, s3, Nat.zero_le _, rfl, HC5⟩
  case round =>
    clear HC5
    obtain ⟨k, s6, hk, rfl, HI⟩ := hrel
    by_cases hlt : k < 10
    · have h64 : (k : Int) < 10 := by omega
      have hx := HI.out.bx
      have lN : w3.heap.size < wr.heap.size := heap_lt hx
      have y0 : wr.cell? ⟨w3.heap.size, 0, none⟩ = some (.int .i64 s6.ix) := (cell_of_row wr _ 0 _ 29 (0, 0) hx).trans rfl
      have y1 : wr.cell? ⟨w3.heap.size, 1, none⟩ = some (.int .i64 s6.nx) := (cell_of_row wr _ 1 _ 29 (0, 0) hx).trans rfl
      have y2 : wr.cell? ⟨w3.heap.size, 2, none⟩ = some (.slice s6.a2 s6.n2 s6.c2) := (cell_of_row wr _ 2 _ 29 (0, 0) hx).trans rfl
      have y3 : wr.cell? ⟨w3.heap.size, 3, none⟩ = some (.slice s6.a3 s6.n3 s6.c3) := (cell_of_row wr _ 3 _ 29 (0, 0) hx).trans rfl
      have y4 : wr.cell? ⟨w3.heap.size, 4, none⟩ = some (.slice s6.a4 s6.n4 s6.c4) := (cell_of_row wr _ 4 _ 29 (0, 0) hx).trans rfl
      have y5 : wr.cell? ⟨w3.heap.size, 5, none⟩ = some (.slice s6.a5 s6.n5 s6.c5) := (cell_of_row wr _ 5 _ 29 (0, 0) hx).trans rfl
      have y6 : wr.cell? ⟨w3.heap.size, 6, none⟩ = some (.slice s6.a6 s6.n6 s6.c6) := (cell_of_row wr _ 6 _ 29 (0, 0) hx).trans rfl
      have y7 : wr.cell? ⟨w3.heap.size, 7, none⟩ = some (.slice s6.a7 s6.n7 s6.c7) := (cell_of_row wr _ 7 _ 29 (0, 0) hx).trans rfl
      have y8 : wr.cell? ⟨w3.heap.size, 8, none⟩ = some (.slice s6.a8 s6.n8 s6.c8) := (cell_of_row wr _ 8 _ 29 (0, 0) hx).trans rfl
      clear hx
      obtain ⟨J6, B6, X6, d6, hs6⟩ := HI.out.st
      have HCH := hidOf (changed_any s6 J6 B6 X6 d6 W2.heap.size (fun b => b ≠ w3.heap.size) (k : Int) wr HI.out.bl.size (by omega) (by omega) hs6)
      clear hs6
      go_wp2_with (go_at_call 32; refine HCH.out.mono ?_; rintro e w7 ⟨s7, J7, B7, X7, d7, rfl, hs7, hb7, hx7⟩; have hbx := (hx7 w3.heap.size lN (fun h => h rfl)).trans HI.out.bx; have HBX := hidOf hbx; have HS7 := hidOf hs7; have HB7 := hidOf hb7; have lN7 : w3.heap.size < w7.heap.size := heap_lt hbx; clear y0 y1 y2 y3 y4 y5 y6 y7 y8; have fN : ∀ j, w7.frozen? ⟨w3.heap.size, j, none⟩ = false := (fun j => frozen_of_row w7 _ j _ 29 hbx); have y0 : w7.cell? ⟨w3.heap.size, 0, none⟩ = some (.int .i64 s6.ix) := (cell_of_row w7 _ 0 _ 29 (0, 0) hbx).trans rfl; have y1 : w7.cell? ⟨w3.heap.size, 1, none⟩ = some (.int .i64 s6.nx) := (cell_of_row w7 _ 1 _ 29 (0, 0) hbx).trans rfl; have y2 : w7.cell? ⟨w3.heap.size, 2, none⟩ = some (.slice s6.a2 s6.n2 s6.c2) := (cell_of_row w7 _ 2 _ 29 (0, 0) hbx).trans rfl; have y3 : w7.cell? ⟨w3.heap.size, 3, none⟩ = some (.slice s6.a3 s6.n3 s6.c3) := (cell_of_row w7 _ 3 _ 29 (0, 0) hbx).trans rfl; have y4 : w7.cell? ⟨w3.heap.size, 4, none⟩ = some (.slice s6.a4 s6.n4 s6.c4) := (cell_of_row w7 _ 4 _ 29 (0, 0) hbx).trans rfl; have y5 : w7.cell? ⟨w3.heap.size, 5, none⟩ = some (.slice s6.a5 s6.n5 s6.c5) := (cell_of_row w7 _ 5 _ 29 (0, 0) hbx).trans rfl; have y6 : w7.cell? ⟨w3.heap.size, 6, none⟩ = some (.slice s6.a6 s6.n6 s6.c6) := (cell_of_row w7 _ 6 _ 29 (0, 0) hbx).trans rfl; have y7 : w7.cell? ⟨w3.heap.size, 7, none⟩ = some (.slice s6.a7 s6.n7 s6.c7) := (cell_of_row w7 _ 7 _ 29 (0, 0) hbx).trans rfl; have y8 : w7.cell? ⟨w3.heap.size, 8, none⟩ = some (.slice s6.a8 s6.n8 s6.c8) := (cell_of_row w7 _ 8 _ 29 (0, 0) hbx).trans rfl; clear hs7 hb7 hx7 hbx)
      go_roundw
      case rel =>
        have hr9 := set9 HBX.out (.int .i64 s7.ix) (.int .i64 s7.nx) (.slice s7.a2 s7.n2 s7.c2) (.slice s7.a3 s7.n3 s7.c3) (.slice s7.a4 s7.n4 s7.c4) (.slice s7.a5 s7.n5 s7.c5) (.slice s7.a6 s7.n6 s7.c6) (.slice s7.a7 s7.n7 s7.c7) (.slice s7.a8 s7.n8 s7.c8)
        have hof : ∀ b, b ≠ w3.heap.size → _ = w7.heap[b]? := set9_other (w := w7) (k := w3.heap.size) (.int .i64 s7.ix) (.int .i64 s7.nx) (.slice s7.a2 s7.n2 s7.c2) (.slice s7.a3 s7.n3 s7.c3) (.slice s7.a4 s7.n4 s7.c4) (.slice s7.a5 s7.n5 s7.c5) (.slice s7.a6 s7.n6 s7.c6) (.slice s7.a7 s7.n7 s7.c7) (.slice s7.a8 s7.n8 s7.c8)
        have hbf := set9_below (HI.out.bl.trans HB7.out) (k := w3.heap.size) h23 (.int .i64 s7.ix) (.int .i64 s7.nx) (.slice s7.a2 s7.n2 s7.c2) (.slice s7.a3 s7.n3 s7.c3) (.slice s7.a4 s7.n4 s7.c4) (.slice s7.a5 s7.n5 s7.c5) (.slice s7.a6 s7.n6 s7.c6) (.slice s7.a7 s7.n7 s7.c7) (.slice s7.a8 s7.n8 s7.c8)
        have hsf : (((((((((w7.setCell ⟨w3.heap.size, 0, none⟩ (.int .i64 s7.ix)).setCell ⟨w3.heap.size, 1, none⟩ (.int .i64 s7.nx)).setCell ⟨w3.heap.size, 2, none⟩ (.slice s7.a2 s7.n2 s7.c2)).setCell ⟨w3.heap.size, 3, none⟩ (.slice s7.a3 s7.n3 s7.c3)).setCell ⟨w3.heap.size, 4, none⟩ (.slice s7.a4 s7.n4 s7.c4)).setCell ⟨w3.heap.size, 5, none⟩ (.slice s7.a5 s7.n5 s7.c5)).setCell ⟨w3.heap.size, 6, none⟩ (.slice s7.a6 s7.n6 s7.c6)).setCell ⟨w3.heap.size, 7, none⟩ (.slice s7.a7 s7.n7 s7.c7)).setCell ⟨w3.heap.size, 8, none⟩ (.slice s7.a8 s7.n8 s7.c8)).heap.size = w7.heap.size := by simp
        exact ⟨k + 1, s7, by omega, by go_num, hidOf (HI.out.next HS7.out HB7.out hr9 hof hbf hsf)⟩
      case measure => simp [intOf]; omega
    · have h64 : ¬ (k : Int) < 10 := by omega
      clear hk hlt
      go_wp2
      obtain ⟨wA, hnA⟩ : ∃ yy, yy = wr := ⟨_, rfl⟩
      subst hnA
      have hn8 : s6.n8 ≤ 140737488355328 := by obtain ⟨J8, B8, X8, d8, hs8⟩ := HI.out.st; rw [hs8.f.n8]; have := hs8.f.f8.bd; omega
      have hn3 : s6.n3 ≤ 140737488355328 := by obtain ⟨J8, B8, X8, d8, hs8⟩ := HI.out.st; rw [hs8.f.n3]; have := hs8.f.f3.bd; omega
      go_loopw [7, 8] (fun i _ wr => ∃ (k : Nat), k ≤ s6.n8 ∧ i = .int .i64 (k : Int) ∧ Hid (CpI W2 w3.heap.size s6 wr)) (fun i _ _ => s6.n8 - (intOf i).toNat)
      case atStart => exact ⟨0, Nat.zero_le _, rfl, HI⟩
      case round =>
        clear HI h64
        obtain ⟨k, hk, rfl, HI⟩ := hrel
        have hx := HI.out.bx
        have lN : w3.heap.size < wr.heap.size := heap_lt hx
        have y8 : wr.cell? ⟨w3.heap.size, 8, none⟩ = some (.slice s6.a8 s6.n8 s6.c8) := (cell_of_row wr _ 8 _ 29 (0, 0) hx).trans rfl
        clear hx
        by_cases hlt : k < s6.n8
        · have h64 : (k : Int) < (s6.n8 : Int) := by omega
          have HQ : Hid (∀ W, CpI W2 w3.heap.size s6 W → ∃ p o ga n gc, s6.a8 = some ⟨p, o, none⟩ ∧ p < W.heap.size ∧ W.cell? ⟨p, o + k * 5 + 4, none⟩ = some (.slice ga n gc) ∧ n * 88 ≤ 140737488355328 ∧ ∀ j, j < n → ∃ q oq i, ga = some ⟨q, oq, none⟩ ∧ W.cell? ⟨q, oq + j * 11, none⟩ = some (.int .i64 i) ∧ NBr W2.heap.size W q ∧ q ≠ w3.heap.size) := hidOf (fun W hI => by
            obtain ⟨J8, B8, X8, d8, hs8⟩ := hI.st
            have hl : k < X8.length := by rw [← hs8.f.n8]; exact hlt
            have hl2 : k < d8.seen.length := by rw [← hs8.x.len]; exact hl
            obtain ⟨p, o, h1, hS, h2⟩ := hs8.x.row.at k hl
            obtain ⟨ga, gc, e1, hf⟩ := hs8.x.dp k hl hl2
            rw [e1] at h2
            refine ⟨p, o, ga, d8.seen[k].al.length, gc, h1, hS.1.2.1, h2 4 _ rfl, hf.bd, fun j hj => ?_⟩
            obtain ⟨q, oq, h3, hS2, h4⟩ := hf.at j hj
            exact ⟨q, oq, _, h3, h4 0 _ rfl, hS2.1, hS2.2⟩)
          obtain ⟨p, o, ga, n, gc, ha, hpl, hc, hnb, hin⟩ := HQ.out wr HI.out
          have HPA := hidOf ha
          rw [ha] at y8
          clear hin ha
          have hnn : n ≤ 140737488355328 := by omega
          go_wp2
          obtain ⟨wB, hnB⟩ : ∃ yy, yy = wr := ⟨_, rfl⟩
          subst hnB
          clear y8 lN
          go_loopw [8] (fun i wr => ∃ (j : Nat), j ≤ n ∧ i = .int .i64 (j : Int) ∧ Hid (CpI W2 w3.heap.size s6 wr) ∧ wr.cell? ⟨p, o + k * 5 + 4, none⟩ = some (.slice ga n gc)) (fun i _ => n - (intOf i).toNat)
          case atStart => exact ⟨0, Nat.zero_le _, rfl, HI, hc⟩
          case round =>
            clear HI hc hpl
            obtain ⟨j, hj, rfl, HI, hc⟩ := hrel
            have hx := HI.out.bx
            have lN : w3.heap.size < wr.heap.size := heap_lt hx
            have y8 : wr.cell? ⟨w3.heap.size, 8, none⟩ = some (.slice s6.a8 s6.n8 s6.c8) := (cell_of_row wr _ 8 _ 29 (0, 0) hx).trans rfl
            rw [HPA.out] at y8
            clear hx
            obtain ⟨p', o', ga', n', gc', ha', hpl, hc', _, hin⟩ := HQ.out wr HI.out
            rw [HPA.out] at ha'
            cases ha'
            rw [hc] at hc'
            cases hc'
            have hc0 : wr.cell? ⟨p, o + k * 5 + 2 + 2, none⟩ = some (.slice ga n gc) := hc
            by_cases hjn : j < n
            · obtain ⟨q, oq, i, hga, hqc, hqn, hqx⟩ := hin j hjn
              have HGA := hidOf hga
              subst hga
              have h65 : (j : Int) < (n : Int) := by omega
              have lq : q < wr.heap.size := hqn.2.1
              have fq := CpI.fz hqn
              have HQN := hidOf hqn
              have HQX := hidOf hqx
              have HC2 := hidOf hc
              clear hin hqn hqx
              go_wp2
              go_roundw
              case rel =>
                have hni := HI.out.poke (j := -7) hqc HQN.out HQX.out
                refine ⟨j + 1, by omega, by go_num, hidOf hni, ?_⟩
                by_cases e : (⟨q, oq + j * 11, none⟩ : Addr) = ⟨p, o + k * 5 + 4, none⟩
                · rw [e] at hqc
                  rw [HC2.out] at hqc
                  cases hqc
                · exact (World.cell?_setCell_other _ _ _ _ e).trans HC2.out
              case measure => simp [intOf]; omega
            · have h65 : ¬ (j : Int) < (n : Int) := by omega
              clear hj hjn hin
              go_wp2
              go_roundw
              case rel => exact ⟨k + 1, by omega, by go_num, HI⟩
              case measure => simp [intOf]; omega
        · have h64 : ¬ (k : Int) < (s6.n8 : Int) := by omega
          clear hk hlt
          go_wp2
          clear y8 lN
          obtain ⟨wX, hnC⟩ : ∃ yy, yy = wr := ⟨_, rfl⟩
          subst hnC
          go_loopw [9, 10] (fun i _ wr => ∃ (k : Nat), k ≤ s6.n3 ∧ i = .int .i64 (k : Int) ∧ Hid (CpI W2 w3.heap.size s6 wr)) (fun i _ _ => s6.n3 - (intOf i).toNat)
          case atStart => exact ⟨0, Nat.zero_le _, rfl, HI⟩
          case round =>
            clear HI h64
            obtain ⟨k, hk, rfl, HI⟩ := hrel
            have hx := HI.out.bx
            have lN : w3.heap.size < wr.heap.size := heap_lt hx
            have y3 : wr.cell? ⟨w3.heap.size, 3, none⟩ = some (.slice s6.a3 s6.n3 s6.c3) := (cell_of_row wr _ 3 _ 29 (0, 0) hx).trans rfl
            clear hx
            by_cases hlt : k < s6.n3
            · have h64 : (k : Int) < (s6.n3 : Int) := by omega
              have HQ : Hid (∀ W, CpI W2 w3.heap.size s6 W → ∃ p o ga n gc, s6.a3 = some ⟨p, o, none⟩ ∧ p < W.heap.size ∧ W.cell? ⟨p, o + k * 7 + 4, none⟩ = some (.slice ga n gc) ∧ n * 24 ≤ 140737488355328 ∧ ∀ j, j < n → ∃ q oq i, ga = some ⟨q, oq, none⟩ ∧ W.cell? ⟨q, oq + j * 3, none⟩ = some (.int .i64 i) ∧ NBr W2.heap.size W q ∧ q ≠ w3.heap.size) := hidOf (fun W hI => by
                obtain ⟨J8, B8, X8, d8, hs8⟩ := hI.st
                have hl : k < B8.length := by rw [← hs8.f.n3]; exact hlt
                have hl2 : k < d8.stab.length := by rw [← hs8.b.len]; exact hl
                obtain ⟨p, o, h1, hS, h2⟩ := hs8.b.row.at k hl
                obtain ⟨ga, gc, e1, hf⟩ := hs8.b.dp k hl hl2
                rw [e1] at h2
                refine ⟨p, o, ga, d8.stab[k].gs.length, gc, h1, hS.1.2.1, h2 4 _ rfl, hf.bd, fun j hj => ?_⟩
                obtain ⟨q, oq, h3, hS2, h4⟩ := hf.at j hj
                exact ⟨q, oq, _, h3, h4 0 _ rfl, hS2.1, hS2.2⟩)
              obtain ⟨p, o, ga, n, gc, ha, hpl, hc, hnb, hin⟩ := HQ.out wr HI.out
              have HPA := hidOf ha
              rw [ha] at y3
              clear hin ha
              have hnn : n ≤ 140737488355328 := by omega
              go_wp2
              obtain ⟨wB, hnB⟩ : ∃ yy, yy = wr := ⟨_, rfl⟩
              subst hnB
              clear y3 lN
              go_loopw [10] (fun i wr => ∃ (j : Nat), j ≤ n ∧ i = .int .i64 (j : Int) ∧ Hid (CpI W2 w3.heap.size s6 wr) ∧ wr.cell? ⟨p, o + k * 7 + 4, none⟩ = some (.slice ga n gc)) (fun i _ => n - (intOf i).toNat)
              case atStart => exact ⟨0, Nat.zero_le _, rfl, HI, hc⟩
              case round =>
                clear HI hc hpl
                obtain ⟨j, hj, rfl, HI, hc⟩ := hrel
                have hx := HI.out.bx
                have lN : w3.heap.size < wr.heap.size := heap_lt hx
                have y3 : wr.cell? ⟨w3.heap.size, 3, none⟩ = some (.slice s6.a3 s6.n3 s6.c3) := (cell_of_row wr _ 3 _ 29 (0, 0) hx).trans rfl
                rw [HPA.out] at y3
                clear hx
                obtain ⟨p', o', ga', n', gc', ha', hpl, hc', _, hin⟩ := HQ.out wr HI.out
                rw [HPA.out] at ha'
                cases ha'
                rw [hc] at hc'
                cases hc'
                have hc0 : wr.cell? ⟨p, o + k * 7 + 4, none⟩ = some (.slice ga n gc) := hc
                by_cases hjn : j < n
                · obtain ⟨q, oq, i, hga, hqc, hqn, hqx⟩ := hin j hjn
                  have HGA := hidOf hga
                  subst hga
                  have h65 : (j : Int) < (n : Int) := by omega
                  have lq : q < wr.heap.size := hqn.2.1
                  have fq := CpI.fz hqn
                  have HQN := hidOf hqn
                  have HQX := hidOf hqx
                  have HC2 := hidOf hc
                  clear hin hqn hqx
                  go_wp2
                  go_roundw
                  case rel =>
                    have hni := HI.out.poke (j := -7) hqc HQN.out HQX.out
                    refine ⟨j + 1, by omega, by go_num, hidOf hni, ?_⟩
                    by_cases e : (⟨q, oq + j * 3, none⟩ : Addr) = ⟨p, o + k * 7 + 4, none⟩
                    · rw [e] at hqc
                      rw [HC2.out] at hqc
                      cases hqc
                    · exact (World.cell?_setCell_other _ _ _ _ e).trans HC2.out
                  case measure => simp [intOf]; omega
                · have h65 : ¬ (j : Int) < (n : Int) := by omega
                  clear hj hjn hin
                  go_wp2
                  go_roundw
                  case rel => exact ⟨k + 1, by omega, by go_num, HI⟩
                  case measure => simp [intOf]; omega
            · have h64 : ¬ (k : Int) < (s6.n3 : Int) := by omega
              clear hk hlt
              go_upto_region 24 with (fail)
              clear y3 lN
              obtain ⟨wY, hnC⟩ : ∃ yy, yy = wr := ⟨_, rfl⟩
              subst hnC
              have HBY := hidOf (HBW2.out.trans (HI.out.bl.mono HBW2.out.size))
              have hx0 : wY.heap[w.heap.size]? = _ := (HI.out.bl.block _ l0).trans HX0'.out
              have hx1 : wY.heap[w1.heap.size]? = _ := (HI.out.bl.block _ l1).trans HX1.out
              have l0' : w.heap.size < wY.heap.size := heap_lt hx0
              have l1' : w1.heap.size < wY.heap.size := heap_lt hx1
              have x0 : wY.cell? ⟨w.heap.size, 0, none⟩ = some (.int .i64 s.ix) := (cell_of_row wY _ 0 _ 29 (0, 0) hx0).trans rfl
              have x1 : wY.cell? ⟨w.heap.size, 1, none⟩ = some (.int .i64 s.nx) := (cell_of_row wY _ 1 _ 29 (0, 0) hx0).trans rfl
              have x2 : wY.cell? ⟨w.heap.size, 2, none⟩ = some (.slice s.a2 s.n2 s.c2) := (cell_of_row wY _ 2 _ 29 (0, 0) hx0).trans rfl
              have x3 : wY.cell? ⟨w.heap.size, 3, none⟩ = some (.slice s.a3 s.n3 s.c3) := (cell_of_row wY _ 3 _ 29 (0, 0) hx0).trans rfl
              have x4 : wY.cell? ⟨w.heap.size, 4, none⟩ = some (.slice s.a4 s.n4 s.c4) := (cell_of_row wY _ 4 _ 29 (0, 0) hx0).trans rfl
              have x5 : wY.cell? ⟨w.heap.size, 5, none⟩ = some (.slice s.a5 s.n5 s.c5) := (cell_of_row wY _ 5 _ 29 (0, 0) hx0).trans rfl
              have x6 : wY.cell? ⟨w.heap.size, 6, none⟩ = some (.slice s.a6 s.n6 s.c6) := (cell_of_row wY _ 6 _ 29 (0, 0) hx0).trans rfl
              have x7 : wY.cell? ⟨w.heap.size, 7, none⟩ = some (.slice s.a7 s.n7 s.c7) := (cell_of_row wY _ 7 _ 29 (0, 0) hx0).trans rfl
              have x8 : wY.cell? ⟨w.heap.size, 8, none⟩ = some (.slice s.a8 s.n8 s.c8) := (cell_of_row wY _ 8 _ 29 (0, 0) hx0).trans rfl
              have v0 : wY.cell? ⟨w1.heap.size, 0, none⟩ = some (.int .i64 s1.ix) := (cell_of_row wY _ 0 _ 29 (0, 0) hx1).trans rfl
              have v1 : wY.cell? ⟨w1.heap.size, 1, none⟩ = some (.int .i64 s1.nx) := (cell_of_row wY _ 1 _ 29 (0, 0) hx1).trans rfl
              have v2 : wY.cell? ⟨w1.heap.size, 2, none⟩ = some (.slice s1.a2 s1.n2 s1.c2) := (cell_of_row wY _ 2 _ 29 (0, 0) hx1).trans rfl
              have v3 : wY.cell? ⟨w1.heap.size, 3, none⟩ = some (.slice s1.a3 s1.n3 s1.c3) := (cell_of_row wY _ 3 _ 29 (0, 0) hx1).trans rfl
              have v4 : wY.cell? ⟨w1.heap.size, 4, none⟩ = some (.slice s1.a4 s1.n4 s1.c4) := (cell_of_row wY _ 4 _ 29 (0, 0) hx1).trans rfl
              have v5 : wY.cell? ⟨w1.heap.size, 5, none⟩ = some (.slice s1.a5 s1.n5 s1.c5) := (cell_of_row wY _ 5 _ 29 (0, 0) hx1).trans rfl
              have v6 : wY.cell? ⟨w1.heap.size, 6, none⟩ = some (.slice s1.a6 s1.n6 s1.c6) := (cell_of_row wY _ 6 _ 29 (0, 0) hx1).trans rfl
              have v7 : wY.cell? ⟨w1.heap.size, 7, none⟩ = some (.slice s1.a7 s1.n7 s1.c7) := (cell_of_row wY _ 7 _ 29 (0, 0) hx1).trans rfl
              have v8 : wY.cell? ⟨w1.heap.size, 8, none⟩ = some (.slice s1.a8 s1.n8 s1.c8) := (cell_of_row wY _ 8 _ 29 (0, 0) hx1).trans rfl
              have HSM := hidOf (refSame_any s s1 J B J1 B1 X X1 d d (fun b => b < wY.heap.size) wY (fun _ h => h) (HA.out wY HBY.out) (HS2.out.kept (fun b hb => HI.out.bl.block b hb) (fun b (hb : b < W2.heap.size) => Nat.lt_of_lt_of_le hb HI.out.bl.size)))
              have hdd : decide (d = d) = true := decide_eq_true rfl
              rw [hdd] at HSM
              clear hdd hx0 hx1 h64
              go_wp2_with (first
                | (go_at_call 30; refine HSM.out.mono ?_; rintro e w8 ⟨rfl, hb⟩; have HB8 := hidOf (HBY.out.trans (hb.mono HBY.out.size)); clear hb x0 v0 x1 v1 x2 v2 x3 v3 x4 v4 x5 v5 x6 v6 x7 v7 x8 v8 l0' l1')
                | (go_at_call 22; refine (lives_any _).mono ?_; rintro e w9 ⟨rfl, hb⟩; have HB9 := hidOf (HB8.out.trans (hb.mono HB8.out.size)); clear hb))
              go_ret
              exact ⟨rfl, HB9.out⟩
theorem walkCopies (s : Sc) (J B : List Js) (X : List Ss) (d : St) (w : World) (ha : StR w (fun b => b < w.heap.size) s J B X d) (_ha : d.allocs.length * 88 ≤ reachBytes) :
    Calls Try.prog 6 #[.agg #[.int .i64 s.ix, .int .i64 s.nx, .slice s.a2 s.n2 s.c2, .slice s.a3 s.n3 s.c3, .slice s.a4 s.n4 s.c4, .slice s.a5 s.n5 s.c5, .slice s.a6 s.n6 s.c6, .slice s.a7 s.n7 s.c7, .slice s.a8 s.n8 s.c8]] w fun e w' => e = .returned (.bool true) ∧ Below w.heap.size w w' := lawCopies s J B X d w ha
end Go.Proofs.Ytkokkdekbilkjaa
