/- Plain facts that the document's Diff wants. -/
import Derived.Test.YtblofbdncolikaaGz
namespace Go.Proofs.Ytblofbdncolikaa
theorem ndD_none (Ln : List Nd) (z : Int) (h : ∀ x ∈ Ln, ¬ x.id = z) : ndD Ln z = false := by
  have : fnM Ln Ln.length z = none := by
    unfold fnM
    rw [List.take_length, List.find?_eq_none]
    intro x hx
    simp [isI, h x hx]
  unfold ndD
  rw [this]; rfl
theorem hoV_fi (d : Jb) (A : List Al) (s : Int × Int) : hoV d A s = fi (slB d.id s.1 s.2) A := by unfold hoV; rw [fiK_fi]
theorem ndD_fi {Ln : List Nd} {z : Int} {m : Nat} (h : fi (fun x : Nd => isI x.id z) Ln = (m : Int)) (hm : m < Ln.length) : ndD Ln z = Ln[m].dr := by
  obtain ⟨h1, h2⟩ := fi_at h hm
  unfold ndD
  rw [fnM_fi hm (by simpa [isI] using h1) (fun j hj => by have := h2 j hj; simpa [isI] using this)]
  rfl
theorem ndD_fn {Ln : List Nd} {z : Int} (h : fi (fun x : Nd => isI x.id z) Ln = -1) : ndD Ln z = false := ndD_none Ln z (fun x hx => by have := fi_none h x hx; simpa [isI] using this)
theorem take_memP {L : List (Int × Int)} {k : Nat} (h : k < L.length) (z : Int × Int) : decide (z ∈ L.take (k + 1)) = (decide (z ∈ L.take k) || decide (L[k] = z)) := by
  have e : (z ∈ L.take (k + 1)) ↔ (z ∈ L.take k ∨ L[k] = z) := by
    rw [take_snoc L k h, List.mem_append, List.mem_singleton]
    exact ⟨fun h => h.elim .inl (fun e => .inr e.symm), fun h => h.elim .inl (fun e => .inr e.symm)⟩
  rw [decide_eq_decide.2 e, Bool.decide_or]
end Go.Proofs.Ytblofbdncolikaa
