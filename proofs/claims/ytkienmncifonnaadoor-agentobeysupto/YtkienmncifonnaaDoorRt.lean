/- Whether a task runs; plain facts of tasks. -/
import Derived.Test.YtkienmncifonnaaDoorRo
namespace Go.Proofs.YtkienmncifonnaaDoor
open Go.RowKit Go.Maps
theorem getA_some {T : TM} {k : Int} {a : Ak} (h : T k = some a) : getA T k = a := by simp [getA, h]
theorem alC_size (a : Al) : (alC a).size = 11 := rfl
theorem akC_size (a : Ak) : (akC a).size = 12 := rfl
theorem al_all (a : Al) : (alC a).all (·.oneCell') = true := by simp [alC, Value.oneCell']
theorem ak_all (a : Ak) : (akC a).all (·.oneCell') = true := by simp [akC, Value.oneCell']
theorem al_one (a : Al) : ∀ u ∈ (alC a).toList, u.oneCell' = true := by
  intro u hu
  simp [alC] at hu
  rcases hu with rfl | rfl | rfl | rfl | rfl | rfl | rfl | rfl | rfl | rfl | rfl <;> rfl
set_option maxRecDepth 100000 in
theorem runs_any (a : Ak) (w : World) : Calls Tryd.prog 22 #[.agg (akC a)] w fun e w' => e = .returned (.bool (decide (a.s = 2))) ∧ Below w.heap.size w w' := by
  have HB : Hid (Below w.heap.size w (w.alloc (.cells (akC a) 86))) := hidOf (below1 w _)
  by_cases h : a.s = 2
  · have hb : (a.s == 2) = true := by simp [h]
    have e : decide (a.s = 2) = true := by simp [h]
    rw [e]
    clear h e
    unfold akC at HB ⊢
    go_enter Tryd.func22, Tryd.ntmps22
    go_wp2
    go_ret
    exact ⟨rfl, HB.out⟩
  · have hb : (a.s == 2) = false := by simp [h]
    have e : decide (a.s = 2) = false := by simp [h]
    rw [e]
    clear h e
    unfold akC at HB ⊢
    go_enter Tryd.func22, Tryd.ntmps22
    go_wp2
    go_ret
    exact ⟨rfl, HB.out⟩
end Go.Proofs.YtkienmncifonnaaDoor
