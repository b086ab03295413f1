/- A job in memory of its own, of the document. -/
import Derived.Test.YtblofbdncolikaaAp
import Derived.Test.YtblofbdncolikaaLf
namespace Go.Proofs.Ytblofbdncolikaa
open Go.RowKit Go.Shelf
attribute [local go_sem] Oper.semAt_some
theorem set7 {w : World} {k : Nat} {t : TypeId} {z0 z1 z2 z3 z4 z5 z6 : Value} (h0 : w.heap[k]? = some (.cells #[z0, z1, z2, z3, z4, z5, z6] t (0, 0))) (a0 a1 a2 a3 a4 a5 a6 : Value) : (((((((w.setCell ⟨k, 0, none⟩ a0).setCell ⟨k, 1, none⟩ a1).setCell ⟨k, 2, none⟩ a2).setCell ⟨k, 3, none⟩ a3).setCell ⟨k, 4, none⟩ a4).setCell ⟨k, 5, none⟩ a5).setCell ⟨k, 6, none⟩ a6).heap[k]? = some (.cells #[a0, a1, a2, a3, a4, a5, a6] t (0, 0)) := by
 have h1 := heap_setCell_same _ k 0 _ t a0 h0
 have h2 := heap_setCell_same _ k 1 _ t a1 h1
 have h3 := heap_setCell_same _ k 2 _ t a2 h2
 have h4 := heap_setCell_same _ k 3 _ t a3 h3
 have h5 := heap_setCell_same _ k 4 _ t a4 h4
 have h6 := heap_setCell_same _ k 5 _ t a5 h5
 have h7 := heap_setCell_same _ k 6 _ t a6 h6
 rw [h7]
 simp only [List.setIfInBounds_toArray, List.set_cons_zero, List.set_cons_succ]
theorem set7_other {w : World} {k : Nat} (a0 a1 a2 a3 a4 a5 a6 : Value) (b : Nat) (hb : b ≠ k) : (((((((w.setCell ⟨k, 0, none⟩ a0).setCell ⟨k, 1, none⟩ a1).setCell ⟨k, 2, none⟩ a2).setCell ⟨k, 3, none⟩ a3).setCell ⟨k, 4, none⟩ a4).setCell ⟨k, 5, none⟩ a5).setCell ⟨k, 6, none⟩ a6).heap[b]? = w.heap[b]? := by
 rw [heap_setCell_other _ ⟨k, 6, none⟩ b _ hb, heap_setCell_other _ ⟨k, 5, none⟩ b _ hb, heap_setCell_other _ ⟨k, 4, none⟩ b _ hb, heap_setCell_other _ ⟨k, 3, none⟩ b _ hb, heap_setCell_other _ ⟨k, 2, none⟩ b _ hb, heap_setCell_other _ ⟨k, 1, none⟩ b _ hb, heap_setCell_other _ ⟨k, 0, none⟩ b _ hb]
theorem set7_below {B k : Nat} {w W : World} (h : Below B w W) (hk : B ≤ k) (a0 a1 a2 a3 a4 a5 a6 : Value) : Below B w (((((((W.setCell ⟨k, 0, none⟩ a0).setCell ⟨k, 1, none⟩ a1).setCell ⟨k, 2, none⟩ a2).setCell ⟨k, 3, none⟩ a3).setCell ⟨k, 4, none⟩ a4).setCell ⟨k, 5, none⟩ a5).setCell ⟨k, 6, none⟩ a6) := (((((((h.setCell (p := ⟨k, 0, none⟩) hk _).setCell (p := ⟨k, 1, none⟩) hk _).setCell (p := ⟨k, 2, none⟩) hk _).setCell (p := ⟨k, 3, none⟩) hk _).setCell (p := ⟨k, 4, none⟩) hk _).setCell (p := ⟨k, 5, none⟩) hk _).setCell (p := ⟨k, 6, none⟩) hk _)
theorem set9 {w : World} {k : Nat} {t : TypeId} {z0 z1 z2 z3 z4 z5 z6 z7 z8 : Value} (h0 : w.heap[k]? = some (.cells #[z0, z1, z2, z3, z4, z5, z6, z7, z8] t (0, 0))) (a0 a1 a2 a3 a4 a5 a6 a7 a8 : Value) : (((((((((w.setCell ⟨k, 0, none⟩ a0).setCell ⟨k, 1, none⟩ a1).setCell ⟨k, 2, none⟩ a2).setCell ⟨k, 3, none⟩ a3).setCell ⟨k, 4, none⟩ a4).setCell ⟨k, 5, none⟩ a5).setCell ⟨k, 6, none⟩ a6).setCell ⟨k, 7, none⟩ a7).setCell ⟨k, 8, none⟩ a8).heap[k]? = some (.cells #[a0, a1, a2, a3, a4, a5, a6, a7, a8] t (0, 0)) := by
 have h1 := heap_setCell_same _ k 0 _ t a0 h0
 have h2 := heap_setCell_same _ k 1 _ t a1 h1
 have h3 := heap_setCell_same _ k 2 _ t a2 h2
 have h4 := heap_setCell_same _ k 3 _ t a3 h3
 have h5 := heap_setCell_same _ k 4 _ t a4 h4
 have h6 := heap_setCell_same _ k 5 _ t a5 h5
 have h7 := heap_setCell_same _ k 6 _ t a6 h6
 have h8 := heap_setCell_same _ k 7 _ t a7 h7
 have h9 := heap_setCell_same _ k 8 _ t a8 h8
 rw [h9]
 simp only [List.setIfInBounds_toArray, List.set_cons_zero, List.set_cons_succ]
theorem set9_other {w : World} {k : Nat} (a0 a1 a2 a3 a4 a5 a6 a7 a8 : Value) (b : Nat) (hb : b ≠ k) : (((((((((w.setCell ⟨k, 0, none⟩ a0).setCell ⟨k, 1, none⟩ a1).setCell ⟨k, 2, none⟩ a2).setCell ⟨k, 3, none⟩ a3).setCell ⟨k, 4, none⟩ a4).setCell ⟨k, 5, none⟩ a5).setCell ⟨k, 6, none⟩ a6).setCell ⟨k, 7, none⟩ a7).setCell ⟨k, 8, none⟩ a8).heap[b]? = w.heap[b]? := by
 rw [heap_setCell_other _ ⟨k, 8, none⟩ b _ hb, heap_setCell_other _ ⟨k, 7, none⟩ b _ hb, heap_setCell_other _ ⟨k, 6, none⟩ b _ hb, heap_setCell_other _ ⟨k, 5, none⟩ b _ hb, heap_setCell_other _ ⟨k, 4, none⟩ b _ hb, heap_setCell_other _ ⟨k, 3, none⟩ b _ hb, heap_setCell_other _ ⟨k, 2, none⟩ b _ hb, heap_setCell_other _ ⟨k, 1, none⟩ b _ hb, heap_setCell_other _ ⟨k, 0, none⟩ b _ hb]
theorem set9_below {B k : Nat} {w W : World} (h : Below B w W) (hk : B ≤ k) (a0 a1 a2 a3 a4 a5 a6 a7 a8 : Value) : Below B w (((((((((W.setCell ⟨k, 0, none⟩ a0).setCell ⟨k, 1, none⟩ a1).setCell ⟨k, 2, none⟩ a2).setCell ⟨k, 3, none⟩ a3).setCell ⟨k, 4, none⟩ a4).setCell ⟨k, 5, none⟩ a5).setCell ⟨k, 6, none⟩ a6).setCell ⟨k, 7, none⟩ a7).setCell ⟨k, 8, none⟩ a8) := (((((((((h.setCell (p := ⟨k, 0, none⟩) hk _).setCell (p := ⟨k, 1, none⟩) hk _).setCell (p := ⟨k, 2, none⟩) hk _).setCell (p := ⟨k, 3, none⟩) hk _).setCell (p := ⟨k, 4, none⟩) hk _).setCell (p := ⟨k, 5, none⟩) hk _).setCell (p := ⟨k, 6, none⟩) hk _).setCell (p := ⟨k, 7, none⟩) hk _).setCell (p := ⟨k, 8, none⟩) hk _)
theorem info57 : (Try.prog.info? 48).map (fun i => (i.zero, i.size, i.bytes)) = some (some (.agg #[.int .i64 0, .int .i64 0, .int .i64 0]), 3, 24) := by kernel_rfl
theorem info55 : (Try.prog.info? 51).map (fun i => (i.zero, i.size, i.bytes)) = some (some (.agg #[.int .i64 0, .int .i64 0, .int .i64 0, .int .i64 0, .slice none 0 0, .int .i64 0, .bool false]), 7, 72) := by kernel_rfl
theorem info64 : (Try.prog.info? 46).map (fun i => (i.zero, i.size, i.bytes)) = some (some (.agg #[.int .i64 0, .int .i64 0, .int .i64 0, .bool false, .bool false, .int .i64 0, .int .i64 0, .int .i64 0]), 8, 56) := by kernel_rfl
theorem info33 : (Try.prog.info? 42).map (fun i => (i.zero, i.size, i.bytes)) = some (some (.agg #[.int .i64 0, .int .i64 0, .int .i64 0, .int .i64 0, .int .i64 0, .int .i64 0, .int .i64 0, .int .i64 0, .int .i64 0, .bool false, .int .i64 0]), 11, 88) := by kernel_rfl
theorem info69 : (Try.prog.info? 53).map (fun i => (i.zero, i.size, i.bytes)) = some (some (.agg #[.int .i64 0, .int .i64 0, .int .i64 0, .int .i64 0]), 4, 32) := by kernel_rfl
theorem info73 : (Try.prog.info? 79).map (fun i => (i.zero, i.size, i.bytes)) = some (some (.agg #[.int .i64 0, .int .i64 0, .int .i64 0, .int .i64 0]), 4, 32) := by kernel_rfl
theorem info52 : (Try.prog.info? 76).map (fun i => (i.zero, i.size, i.bytes)) = some (some (.agg #[.int .i64 0, .int .i64 0, .int .i64 0, .int .i64 0, .slice none 0 0]), 5, 56) := by kernel_rfl
set_option maxRecDepth 100000 in
set_option maxHeartbeats 2000000 in
theorem refJob_any (d : Jb) (ga : Option Addr) (gc : Nat) (S : Nat → Prop) (w : World) (hS : ∀ b, S b → b < w.heap.size) (hG : Fl w S 3 24 Gp.cs ga d.gs) :
  Calls Try.prog 26 #[.agg #[.int .i64 d.id, .int .i64 d.ty, .int .i64 d.pr, .int .i64 d.pa, .slice ga d.gs.length gc, .int .i64 d.ve, .bool d.sd]] w fun e w' => ∃ ga' gc', e = .returned (.agg #[.int .i64 d.id, .int .i64 d.ty, .int .i64 d.pr, .int .i64 d.pa, .slice ga' d.gs.length gc', .int .i64 d.ve, .bool d.sd]) ∧ Fl w' (NB w.heap.size 48 w') 3 24 Gp.cs ga' d.gs ∧ Below w.heap.size w w' := by
 have hG2 := hG.kept (S' := S) (w' := (w.alloc (.cells #[.int .i64 d.id, .int .i64 d.ty, .int .i64 d.pr, .int .i64 d.pa, .slice ga d.gs.length gc, .int .i64 d.ve, .bool d.sd] 51)).alloc (.cells #[.int .i64 0, .int .i64 0, .int .i64 0, .int .i64 0, .slice none 0 0, .int .i64 0, .bool false] 51)) (fun b hb => (below2 w _ _).block b (hS b hb)) (fun _ h => h)
 have HG := hidOf hG2
 have hbd := hG.bd
 have HBD := hidOf hbd
 clear hG hG2 hbd hS
 go_enter Try.func26, Try.ntmps26
 go_wp2_with (at_builtin; refine wpList_app0 _ rfl _ _ 49 rfl 48 _ 3 24 Try.underlying49 info57 rfl Gp.cs Gp.len Gp.one (by decide) (by decide) ga d.gs gc S rfl rfl HG.out ?_; intro a' c' w1 hown hb; obtain ⟨hd, hj, hbw, hz⟩ := two_boxes (cs := [.int .i64 d.id, .int .i64 d.ty, .int .i64 d.pr, .int .i64 d.pa, .slice ga d.gs.length gc, .int .i64 d.ve, .bool d.sd]) (ds := [.int .i64 0, .int .i64 0, .int .i64 0, .int .i64 0, .slice none 0 0, .int .i64 0, .bool false]) hb; have h1 : w1.heap[w.heap.size]? = some (.cells #[.int .i64 d.id, .int .i64 d.ty, .int .i64 d.pr, .int .i64 d.pa, .slice ga d.gs.length gc, .int .i64 d.ve, .bool d.sd] 51 (0, 0)) := (hb.block _ (by simp <;> omega)).trans (alloc_at (heap_alloc_new w _) _); have h2 := heap_alloc_new (w.alloc (.cells #[.int .i64 d.id, .int .i64 d.ty, .int .i64 d.pr, .int .i64 d.pa, .slice ga d.gs.length gc, .int .i64 d.ve, .bool d.sd] 51)) (.cells #[.int .i64 0, .int .i64 0, .int .i64 0, .int .i64 0, .slice none 0 0, .int .i64 0, .bool false] 51); rw [World.size_alloc] at h2; have h3 : w1.heap[w.heap.size + 1]? = some (.cells #[.int .i64 0, .int .i64 0, .int .i64 0, .int .i64 0, .slice none 0 0, .int .i64 0, .bool false] 51 (0, 0)) := (hb.block _ (by simp <;> omega)).trans h2; have HO := hidOf hown; have HB := hidOf hbw; have H1 := hidOf h1; have H3 := hidOf h3; have f1 : ∀ j, w1.frozen? ⟨w.heap.size, j, none⟩ = false := fun j => frozen_of_row w1 _ j _ 51 h1; have f3 : ∀ j, w1.frozen? ⟨w.heap.size + 1, j, none⟩ = false := fun j => frozen_of_row w1 _ j _ 51 h3; have q0 : w1.cell? ⟨w.heap.size, 0, none⟩ = some (.int .i64 d.id) := hd 0 _ rfl; have q1 : w1.cell? ⟨w.heap.size, 1, none⟩ = some (.int .i64 d.ty) := hd 1 _ rfl; have q2 : w1.cell? ⟨w.heap.size, 2, none⟩ = some (.int .i64 d.pr) := hd 2 _ rfl; have q3 : w1.cell? ⟨w.heap.size, 3, none⟩ = some (.int .i64 d.pa) := hd 3 _ rfl; have q4 : w1.cell? ⟨w.heap.size, 4, none⟩ = some (.slice ga d.gs.length gc) := hd 4 _ rfl; have q5 : w1.cell? ⟨w.heap.size, 5, none⟩ = some (.int .i64 d.ve) := hd 5 _ rfl; have q6 : w1.cell? ⟨w.heap.size, 6, none⟩ = some (.bool d.sd) := hd 6 _ rfl; have r0 : w1.cell? ⟨w.heap.size + 1, 0, none⟩ = some (.int .i64 0) := hj 0 _ rfl; have r1 : w1.cell? ⟨w.heap.size + 1, 1, none⟩ = some (.int .i64 0) := hj 1 _ rfl; have r2 : w1.cell? ⟨w.heap.size + 1, 2, none⟩ = some (.int .i64 0) := hj 2 _ rfl; have r3 : w1.cell? ⟨w.heap.size + 1, 3, none⟩ = some (.int .i64 0) := hj 3 _ rfl; have r4 : w1.cell? ⟨w.heap.size + 1, 4, none⟩ = some (.slice none 0 0) := hj 4 _ rfl; have r5 : w1.cell? ⟨w.heap.size + 1, 5, none⟩ = some (.int .i64 0) := hj 5 _ rfl; have r6 : w1.cell? ⟨w.heap.size + 1, 6, none⟩ = some (.bool false) := hj 6 _ rfl; clear hb hown hd hj hbw h1 h2 h3)
 have h3 : (w1.setCell ⟨w.heap.size, 4, none⟩ (.slice a' d.gs.length c')).heap[w.heap.size + 1]? = some (.cells #[.int .i64 0, .int .i64 0, .int .i64 0, .int .i64 0, .slice none 0 0, .int .i64 0, .bool false] 51 (0, 0)) := (heap_setCell_other w1 ⟨w.heap.size, 4, none⟩ _ _ (by show w.heap.size + 1 ≠ w.heap.size; omega)).trans H3.out
 have hfl := own_fl (y := 24) Gp.len HO.out HBD.out
 refine bodyPost_ret (results_cell_row Try.results26 _ _ (w.heap.size + 1) 51 #[.int .i64 d.id, .int .i64 d.ty, .int .i64 d.pr, .int .i64 d.pa, .slice a' d.gs.length c', .int .i64 d.ve, .bool d.sd] (0, 0) _ rfl (set7 h3 _ _ _ _ _ _ _) Try.underlying51 rfl (by kernel_rfl)) rfl ⟨a', c', rfl, hfl.kept (fun b hb => ?_) (fun b hb => ?_), ?_⟩
 ·have hl : w.heap.size + 2 ≤ b := by have := hb.1; simpa using this
  exact (set7_other _ _ _ _ _ _ _ b (by omega)).trans (heap_setCell_other w1 ⟨w.heap.size, 4, none⟩ b _ (by show b ≠ w.heap.size; omega))
 ·have hl : w.heap.size + 2 ≤ b := by have := hb.1; simpa using this
  exact hb.to ((set7_other _ _ _ _ _ _ _ b (by omega)).trans (heap_setCell_other w1 ⟨w.heap.size, 4, none⟩ b _ (by show b ≠ w.heap.size; omega))) (by omega)
 ·exact set7_below (HB.out.setCell (p := ⟨w.heap.size, 4, none⟩) (Nat.le_refl _) _) (by omega) _ _ _ _ _ _ _
end Go.Proofs.Ytblofbdncolikaa
