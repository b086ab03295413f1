/- The law's example. -/
import Derived.Test.YtnkdchajgpkmpaaSjob
namespace Go.Proofs.Ytnkdchajgpkmpaa
open Go.RowKit

def exG : List Gp := [⟨2, 100, 200⟩]
theorem exJ : errJ (jobB 1 1 50 1 exG) = 0 := by decide
theorem exJ2 : errJ (jobB 1 1 101 1 exG) = 30 := by decide
theorem job_ex (pr r : Int) (hr : errJ (jobB 1 1 pr 1 exG) = r) (g : Nat) (w : World) (hg : w.heap[g]? = some (.cells #[.int .i64 2, .int .i64 100, .int .i64 200] 43 (0, 0))) :
    Calls Try.prog 8 #[.agg #[.int .i64 1, .int .i64 1, .int .i64 pr, .int .i64 1, .slice (some ⟨g, 0, none⟩) 1 1, .int .i64 0, .bool false]] w fun e w' => e = .returned (.int .i64 r) ∧ Below w.heap.size w w' := by
  have h : Grs w (some ⟨g, 0, none⟩) exG := by
    intro _
    refine ⟨g, 0, rfl, heap_lt hg, fun j hj => ?_⟩
    have hj0 : j = 0 := by simp [exG] at hj; omega
    subst hj0
    refine ⟨?_, ?_, ?_⟩
    · rw [cell_of_row w g _ _ 43 (0, 0) hg]; rfl
    · rw [cell_of_row w g _ _ 43 (0, 0) hg]; rfl
    · rw [cell_of_row w g _ _ 43 (0, 0) hg]; rfl
  have := job_any 1 1 pr 1 0 false (some ⟨g, 0, none⟩) 1 exG w h
  rw [hr] at this
  exact this
theorem add_ex (w : World) : Calls Try.prog 13 #[.agg #[.int .i64 1, .int .i64 2], .agg #[.int .i64 3, .int .i64 4]] w fun e w' => e = .returned (.tuple #[.agg #[.int .i64 4, .int .i64 6], .bool true]) ∧ Below w.heap.size w w' := by
  have := add_any 1 2 3 4 w
  rw [show addC 1 2 3 4 = 4 by decide, show addM 1 2 3 4 = 6 by decide, show addB 1 2 3 4 = true by decide] at this
  exact this

theorem job_cells {w : World} {g : Nat} {id ty pr pa ve : Int} {st : Bool} {s : Value} (h : w.heap[g]? = some (.cells #[.int .i64 id, .int .i64 ty, .int .i64 pr, .int .i64 pa, s, .int .i64 ve, .bool st] 24 (0, 0))) : (w.cell? ⟨g, 0, none⟩ = some (.int .i64 id) ∧ w.cell? ⟨g, 1, none⟩ = some (.int .i64 ty) ∧ w.cell? ⟨g, 2, none⟩ = some (.int .i64 pr) ∧ w.cell? ⟨g, 3, none⟩ = some (.int .i64 pa) ∧ w.cell? ⟨g, 4, none⟩ = some s ∧ w.cell? ⟨g, 5, none⟩ = some (.int .i64 ve) ∧ w.cell? ⟨g, 6, none⟩ = some (.bool st)) ∧ (∀ j, w.frozen? ⟨g, j, none⟩ = false) ∧ g < w.heap.size := by
  refine ⟨⟨?_, ?_, ?_, ?_, ?_, ?_, ?_⟩, fun j => frozen_of_row w g j _ 24 h, heap_lt h⟩
  all_goals
    rw [cell_of_row w g _ _ 24 (0, 0) h]
    rfl
set_option maxHeartbeats 1000000 in
theorem lives_any (w : World) : Calls Try.prog 12 #[] w fun e w' => e = .returned (.bool true) ∧ Below w.heap.size w w' := by
  have T1 : True := trivial
  go_enter Try.func12, Try.ntmps12
  go_wp2_with (first
    | (go_at_call 8; clear T1; refine (job_ex 50 0 exJ w.heap.size _ (heap_alloc2_old w _ _)).mono ?_; rintro e w1 ⟨rfl, hb⟩; have G1 := hidOf ((hb.block _ (by simp; omega)).trans (heap_alloc2_old w _ _)); have J1 := (hb.block _ (by simp)).trans (heap_alloc2_new w _ _); obtain ⟨⟨c0, c1, c2, c3, c4, c5, c6⟩, fz, lj⟩ := job_cells J1; have B1 := hidOf ((below2 w _ _).trans (hb.mono (by simp; omega))); clear hb J1)
    | (go_at_call 8; refine (job_ex 101 30 exJ2 w.heap.size _ ((heap_setCell_other _ _ _ _ (by simp)).trans G1.out)).mono ?_; rintro e w2 ⟨rfl, hb⟩; have B2 := hidOf ((B1.out.setCell (by simp) _).trans (hb.mono (Nat.le_trans B1.out.size (by simp)))); clear hb c0 c1 c2 c3 c4 c5 c6 fz lj)
    | (go_at_call 13; refine (add_ex _).mono ?_; rintro e w3 ⟨rfl, hb⟩; have B3 := hidOf (B2.out.trans (hb.mono B2.out.size)); clear hb))
  go_ret
  exact ⟨rfl, B3.out.alloc B3.out.size _⟩
end Go.Proofs.Ytnkdchajgpkmpaa
