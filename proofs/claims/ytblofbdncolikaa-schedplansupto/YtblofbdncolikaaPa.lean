/- A slot's task on a node: the code's place. -/
import Derived.Test.YtblofbdncolikaaLf
import Derived.Test.YtblofbdncolikaaTd
import Derived.Test.YtblofbdncolikaaZo
namespace Go.Proofs.Ytblofbdncolikaa
open Go.RowKit Go.Shelf
attribute [local go_sem] Oper.semAt_some
def askV (d : Jb) (y : Int × Int) : Gp := d.gs[y.1.toNat]?.getD default
def plA (d : Jb) (n : Nd) (y : Int × Int) : Al := ⟨0, d.id, d.ve, y.1, y.2, n.id, n.ep, (askV d y).c, (askV d y).m, false, 0⟩
def ndA (Ln : List Nd) (id : Int) : Nd := Ln[(atN Ln id).toNat]?.getD default
def nfV (d : Jb) (Ln : List Nd) (A M : List Al) (y : Int × Int) : Option Nd :=
  if d.ty = 3 then (if (chV Ln A M y.2 (askV d y).c (askV d y).m).isSome = true then some (ndA Ln y.2) else none)
  else (bV Ln A M (askV d y).c (askV d y).m).map (fun z => ndA Ln z.1)
def plS (d : Jb) (Ln : List Nd) (A : List Al) (z : List Al × Bool) (y : Int × Int) : List Al × Bool := match nfV d Ln A z.1 y with
  | some n => (z.1 ++ [plA d n y], z.2)
  | none => (z.1, true)
def plV (d : Jb) (Ln : List Nd) (A : List Al) (L : List (Int × Int)) : List Al × Bool := L.foldl (plS d Ln A) ([], false)
theorem plV_snoc (d : Jb) (Ln : List Nd) (A : List Al) (L : List (Int × Int)) (y : Int × Int) : plV d Ln A (L ++ [y]) = plS d Ln A (plV d Ln A L) y := by simp [plV]
set_option maxRecDepth 100000 in
set_option maxHeartbeats 4000000 in
theorem place_any (d : Jb) (ga : Option Addr) (gc gi : Nat) (ix : Int) (n : Nd) (g : Gp) (w : World) (hG : Fl w (fun b => b < w.heap.size) 3 24 Gp.cs ga d.gs) (hi : gi < d.gs.length) (hg : d.gs[gi] = g) :
    Calls Try.prog 19 #[.agg #[.int .i64 d.id, .int .i64 d.ty, .int .i64 d.pr, .int .i64 d.pa, .slice ga d.gs.length gc, .int .i64 d.ve, .bool d.sd], .agg #[.int .i64 (gi : Int), .int .i64 ix], .agg #[.int .i64 n.id, .int .i64 n.c, .int .i64 n.m, .bool n.up, .bool n.dr, .int .i64 n.bo, .int .i64 n.ep, .int .i64 n.se]] w fun e w' => e = .returned (.agg #[.int .i64 0, .int .i64 d.id, .int .i64 d.ve, .int .i64 (gi : Int), .int .i64 ix, .int .i64 n.id, .int .i64 n.ep, .int .i64 g.c, .int .i64 g.m, .bool false, .int .i64 0]) ∧ Below w.heap.size w w' := by
  obtain ⟨b, off, ha, hQ, hcc⟩ := hG.at gi hi
  have hQ' : b < w.heap.size := hQ
  rw [hg] at hcc
  subst ha
  have hk0 : ¬ ((gi : Int) < 0) := by omega
  have hk1 : (gi : Int) < (d.gs.length : Int) := by omega
  have hb1 := below1 w (.cells #[.int .i64 d.id, .int .i64 d.ty, .int .i64 d.pr, .int .i64 d.pa, .slice (some ⟨b, off, none⟩) d.gs.length gc, .int .i64 d.ve, .bool d.sd] 51)
  obtain ⟨W1, hW1⟩ : ∃ W1, w.alloc (.cells #[.int .i64 d.id, .int .i64 d.ty, .int .i64 d.pr, .int .i64 d.pa, .slice (some ⟨b, off, none⟩) d.gs.length gc, .int .i64 d.ve, .bool d.sd] 51) = W1 := ⟨_, rfl⟩
  have hz1 : W1.heap.size = w.heap.size + 1 := by rw [← hW1]; simp
  have hx1 : W1.rangeAt w.heap.size 0 [.int .i64 d.id, .int .i64 d.ty, .int .i64 d.pr, .int .i64 d.pa, .slice (some ⟨b, off, none⟩) d.gs.length gc, .int .i64 d.ve, .bool d.sd] := by rw [← hW1]; exact box_new (Below.refl _ _)
  rw [hW1] at hb1
  have hb2 := below1 W1 (.cells #[.int .i64 (gi : Int), .int .i64 ix] 60)
  obtain ⟨W2, hW2⟩ : ∃ W2, W1.alloc (.cells #[.int .i64 (gi : Int), .int .i64 ix] 60) = W2 := ⟨_, rfl⟩
  have hz2 : W2.heap.size = w.heap.size + 1 + 1 := by rw [← hW2]; simp [hz1]
  have hx2 : W2.rangeAt W1.heap.size 0 [.int .i64 (gi : Int), .int .i64 ix] := by rw [← hW2]; exact box_new (Below.refl _ _)
  rw [hW2] at hb2
  have hb3 := below1 W2 (.cells #[.int .i64 n.id, .int .i64 n.c, .int .i64 n.m, .bool n.up, .bool n.dr, .int .i64 n.bo, .int .i64 n.ep, .int .i64 n.se] 46)
  obtain ⟨W3, hW3⟩ : ∃ W3, W2.alloc (.cells #[.int .i64 n.id, .int .i64 n.c, .int .i64 n.m, .bool n.up, .bool n.dr, .int .i64 n.bo, .int .i64 n.ep, .int .i64 n.se] 46) = W3 := ⟨_, rfl⟩
  have hz3 : W3.heap.size = w.heap.size + 1 + 1 + 1 := by rw [← hW3]; simp [hz2]
  have hx3 : W3.rangeAt W2.heap.size 0 [.int .i64 n.id, .int .i64 n.c, .int .i64 n.m, .bool n.up, .bool n.dr, .int .i64 n.bo, .int .i64 n.ep, .int .i64 n.se] := by rw [← hW3]; exact box_new (Below.refl _ _)
  rw [hW3] at hb3
  rw [hz1] at hx2 hb2
  rw [hz2] at hx3 hb3
  have HB := hidOf (hb1.trans ((hb2.mono (by omega)).trans (hb3.mono (by omega))))
  have y1 := range_of (range_of hx1 (hb2.block _ (by omega))) (hb3.block _ (by omega))
  have y2 := range_of hx2 (hb3.block _ (by omega))
  have y3 := hx3
  have yg := range_of hcc (HB.out.block b hQ')
  have j0h : W3.cell? ⟨w.heap.size, 0, none⟩ = some (.int .i64 d.id) := y1 0 _ rfl
  have j4h : W3.cell? ⟨w.heap.size, 4, none⟩ = some (.slice (some ⟨b, off, none⟩) d.gs.length gc) := y1 4 _ rfl
  have j5h : W3.cell? ⟨w.heap.size, 5, none⟩ = some (.int .i64 d.ve) := y1 5 _ rfl
  have s0h : W3.cell? ⟨w.heap.size + 1, 0, none⟩ = some (.int .i64 (gi : Int)) := y2 0 _ rfl
  have s1h : W3.cell? ⟨w.heap.size + 1, 1, none⟩ = some (.int .i64 ix) := y2 1 _ rfl
  have n0h : W3.cell? ⟨w.heap.size + 1 + 1, 0, none⟩ = some (.int .i64 n.id) := y3 0 _ rfl
  have n6h : W3.cell? ⟨w.heap.size + 1 + 1, 6, none⟩ = some (.int .i64 n.ep) := y3 6 _ rfl
  have g1h : W3.cell? ⟨b, off + gi * 3 + 1, none⟩ = some (.int .i64 g.c) := yg 1 _ rfl
  have g2h : W3.cell? ⟨b, off + gi * 3 + 2, none⟩ = some (.int .i64 g.m) := yg 2 _ rfl
  have lw : w.heap.size ≤ W3.heap.size := HB.out.size
  have KK := hidOf (fun o => (show (fun (Y : World) => Y.cell? ⟨w.heap.size, 0, none⟩ = some (.int .i64 d.id) ∧ Y.cell? ⟨w.heap.size, 4, none⟩ = some (.slice (some ⟨b, off, none⟩) d.gs.length gc) ∧ Y.cell? ⟨w.heap.size, 5, none⟩ = some (.int .i64 d.ve) ∧ Y.cell? ⟨w.heap.size + 1, 0, none⟩ = some (.int .i64 (gi : Int)) ∧ Y.cell? ⟨w.heap.size + 1, 1, none⟩ = some (.int .i64 ix) ∧ Y.cell? ⟨w.heap.size + 1 + 1, 0, none⟩ = some (.int .i64 n.id) ∧ Y.cell? ⟨w.heap.size + 1 + 1, 6, none⟩ = some (.int .i64 n.ep) ∧ Y.cell? ⟨b, off + gi * 3 + 1, none⟩ = some (.int .i64 g.c) ∧ Y.cell? ⟨b, off + gi * 3 + 2, none⟩ = some (.int .i64 g.m)) (W3.alloc o).drew from ⟨(hb_cell (below1 W3 o) (by omega)).trans j0h, (hb_cell (below1 W3 o) (by omega)).trans j4h, (hb_cell (below1 W3 o) (by omega)).trans j5h, (hb_cell (below1 W3 o) (by omega)).trans s0h, (hb_cell (below1 W3 o) (by omega)).trans s1h, (hb_cell (below1 W3 o) (by omega)).trans n0h, (hb_cell (below1 W3 o) (by omega)).trans n6h, (hb_cell (below1 W3 o) (by omega)).trans g1h, (hb_cell (below1 W3 o) (by omega)).trans g2h⟩))
  have j0 : (W3.alloc (.cells #[.int .i64 0, .int .i64 0, .int .i64 0, .int .i64 0, .int .i64 0, .int .i64 0, .int .i64 0, .int .i64 0, .int .i64 0, .bool false, .int .i64 0] 42)).cell? ⟨w.heap.size, 0, none⟩ = some (.int .i64 d.id) := (hb_cell (below1 W3 _) (by omega)).trans j0h
  have j4 : (W3.alloc (.cells #[.int .i64 0, .int .i64 0, .int .i64 0, .int .i64 0, .int .i64 0, .int .i64 0, .int .i64 0, .int .i64 0, .int .i64 0, .bool false, .int .i64 0] 42)).cell? ⟨w.heap.size, 4, none⟩ = some (.slice (some ⟨b, off, none⟩) d.gs.length gc) := (hb_cell (below1 W3 _) (by omega)).trans j4h
  have j5 : (W3.alloc (.cells #[.int .i64 0, .int .i64 0, .int .i64 0, .int .i64 0, .int .i64 0, .int .i64 0, .int .i64 0, .int .i64 0, .int .i64 0, .bool false, .int .i64 0] 42)).cell? ⟨w.heap.size, 5, none⟩ = some (.int .i64 d.ve) := (hb_cell (below1 W3 _) (by omega)).trans j5h
  have s0 : (W3.alloc (.cells #[.int .i64 0, .int .i64 0, .int .i64 0, .int .i64 0, .int .i64 0, .int .i64 0, .int .i64 0, .int .i64 0, .int .i64 0, .bool false, .int .i64 0] 42)).cell? ⟨w.heap.size + 1, 0, none⟩ = some (.int .i64 (gi : Int)) := (hb_cell (below1 W3 _) (by omega)).trans s0h
  have s1 : (W3.alloc (.cells #[.int .i64 0, .int .i64 0, .int .i64 0, .int .i64 0, .int .i64 0, .int .i64 0, .int .i64 0, .int .i64 0, .int .i64 0, .bool false, .int .i64 0] 42)).cell? ⟨w.heap.size + 1, 1, none⟩ = some (.int .i64 ix) := (hb_cell (below1 W3 _) (by omega)).trans s1h
  have n0 : (W3.alloc (.cells #[.int .i64 0, .int .i64 0, .int .i64 0, .int .i64 0, .int .i64 0, .int .i64 0, .int .i64 0, .int .i64 0, .int .i64 0, .bool false, .int .i64 0] 42)).cell? ⟨w.heap.size + 1 + 1, 0, none⟩ = some (.int .i64 n.id) := (hb_cell (below1 W3 _) (by omega)).trans n0h
  have n6 : (W3.alloc (.cells #[.int .i64 0, .int .i64 0, .int .i64 0, .int .i64 0, .int .i64 0, .int .i64 0, .int .i64 0, .int .i64 0, .int .i64 0, .bool false, .int .i64 0] 42)).cell? ⟨w.heap.size + 1 + 1, 6, none⟩ = some (.int .i64 n.ep) := (hb_cell (below1 W3 _) (by omega)).trans n6h
  have g1 : (W3.alloc (.cells #[.int .i64 0, .int .i64 0, .int .i64 0, .int .i64 0, .int .i64 0, .int .i64 0, .int .i64 0, .int .i64 0, .int .i64 0, .bool false, .int .i64 0] 42)).cell? ⟨b, off + gi * 3 + 1, none⟩ = some (.int .i64 g.c) := (hb_cell (below1 W3 _) (by omega)).trans g1h
  have g2 : (W3.alloc (.cells #[.int .i64 0, .int .i64 0, .int .i64 0, .int .i64 0, .int .i64 0, .int .i64 0, .int .i64 0, .int .i64 0, .int .i64 0, .bool false, .int .i64 0] 42)).cell? ⟨b, off + gi * 3 + 2, none⟩ = some (.int .i64 g.m) := (hb_cell (below1 W3 _) (by omega)).trans g2h
  clear hx1 hx2 hx3 hcc y1 y2 y3 yg hb1 hb2 hb3 hG hg hQ j0h j4h j5h s0h s1h n0h n6h g1h g2h
  go_enter Try.func19, Try.ntmps19
  go_upto_region 1 with (fail)
  try rw [hz1, hz2, hz3]
  clear hW1 hW2 hW3 hz1 hz2
  go_region_held3 (fun (Y : World) => Y.cell? ⟨w.heap.size, 0, none⟩ = some (.int .i64 d.id) ∧ Y.cell? ⟨w.heap.size, 4, none⟩ = some (.slice (some ⟨b, off, none⟩) d.gs.length gc) ∧ Y.cell? ⟨w.heap.size, 5, none⟩ = some (.int .i64 d.ve) ∧ Y.cell? ⟨w.heap.size + 1, 0, none⟩ = some (.int .i64 (gi : Int)) ∧ Y.cell? ⟨w.heap.size + 1, 1, none⟩ = some (.int .i64 ix) ∧ Y.cell? ⟨w.heap.size + 1 + 1, 0, none⟩ = some (.int .i64 n.id) ∧ Y.cell? ⟨w.heap.size + 1 + 1, 6, none⟩ = some (.int .i64 n.ep) ∧ Y.cell? ⟨b, off + gi * 3 + 1, none⟩ = some (.int .i64 g.c) ∧ Y.cell? ⟨b, off + gi * 3 + 2, none⟩ = some (.int .i64 g.m)) (first | exact KK.out _ | go_keep) (fail)
  clear j0 j4 j5 s0 s1 n0 n6 g1 g2 KK
  go_wp2
  refine bodyPost_ret (results_cell_row Try.results19 _ _ (w.heap.size + 1 + 1 + 1) 42 #[.int .i64 0, .int .i64 d.id, .int .i64 d.ve, .int .i64 (gi : Int), .int .i64 ix, .int .i64 n.id, .int .i64 n.ep, .int .i64 g.c, .int .i64 g.m, .bool false, .int .i64 0] (0, 0) _ rfl (by rw [← hz3]; exact heap_alloc_new _ _) Try.underlying42 rfl (by kernel_rfl)) rfl ?_
  exact ⟨rfl, HB.out.trans (((below1 W3 _).trans ((bdrew _).mono (below1 W3 _).size)).mono lw)⟩
end Go.Proofs.Ytblofbdncolikaa
