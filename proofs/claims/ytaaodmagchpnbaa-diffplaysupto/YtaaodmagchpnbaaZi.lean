/- What Diff answers: plain facts. -/
import Derived.Test.YtaaodmagchpnbaaZh
namespace Go.Proofs.Ytaaodmagchpnbaa
theorem fi_at {α : Type} [Inhabited α] {P : α → Bool} {L : List α} {m : Nat} (h : fi P L = (m : Int)) (hm : m < L.length) : P L[m] = true ∧ ∀ j (hj : j < m), P (L[j]'(by omega)) = false := by
  have key : ∀ n, n ≤ L.length → (fiK P L n = -1 → ∀ j (hj : j < n) (hl : j < L.length), P L[j] = false) ∧ (∀ m : Nat, fiK P L n = (m : Int) → ∃ hl : m < L.length, P L[m] = true ∧ ∀ j (hj : j < m), P (L[j]'(by omega)) = false) := by
    intro n
    induction n with
    | zero => exact fun _ => ⟨fun _ j hj => absurd hj (by omega), fun m h => by simp [fiK] at h <;> omega⟩
    | succ n ih =>
      intro hn
      obtain ⟨i1, i2⟩ := ih (by omega)
      rw [fiK, getD_at L n (by omega)]
      by_cases h0 : fiK P L n = -1
      · rw [if_pos h0]
        by_cases hp : P (L[n]'(by omega)) = true
        · rw [if_pos hp]
          refine ⟨fun h => by omega, fun m hm => ?_⟩
          have : n = m := by omega
          subst this
          exact ⟨by omega, hp, fun j hj => i1 h0 j hj (by omega)⟩
        · rw [if_neg hp]
          refine ⟨fun _ j hj hl => ?_, fun m hm => by omega⟩
          by_cases hjn : j = n
          · subst hjn; simpa using hp
          · exact i1 h0 j (by omega) hl
      · rw [if_neg h0]
        exact ⟨fun h => absurd h h0, i2⟩
  obtain ⟨_, h2⟩ := key L.length (Nat.le_refl _)
  obtain ⟨_, h3⟩ := h2 m (by rw [fiK_fi]; exact h)
  exact h3
theorem fi_none {α : Type} [Inhabited α] {P : α → Bool} {L : List α} (h : fi P L = -1) : ∀ x ∈ L, P x = false := by
  intro x hx
  obtain ⟨j, hj, rfl⟩ := List.getElem_of_mem hx
  have key : ∀ n, n ≤ L.length → fiK P L n = -1 → ∀ j (hj : j < n) (hl : j < L.length), P L[j] = false := by
    intro n
    induction n with
    | zero => exact fun _ _ j hj => absurd hj (by omega)
    | succ n ih =>
      intro hn h0 j hj hl
      rw [fiK, getD_at L n (by omega)] at h0
      by_cases h1 : fiK P L n = -1
      · rw [if_pos h1] at h0
        by_cases hp : P (L[n]'(by omega)) = true
        · rw [if_pos hp] at h0; omega
        · by_cases hjn : j = n
          · subst hjn; simpa using hp
          · exact ih (by omega) h1 j (by omega) hl
      · rw [if_neg h1] at h0; exact absurd h0 h1
  exact key L.length (Nat.le_refl _) (by rw [fiK_fi]; exact h) j hj hj
theorem dfJ_id {Lj : List Jb} {id : Int} (h : ¬ dfI Lj id < 0) : (dfJ Lj id).id = id ∧ dfJ Lj id ∈ Lj := by
  rcases fi_rng (fun x : Jb => isI x.id id) Lj with h1 | ⟨m, h1, hm⟩
  · exact absurd (show dfI Lj id < 0 by unfold dfI; omega) h
  · have e : dfJ Lj id = Lj[m] := by unfold dfJ dfI; rw [h1, Int.toNat_natCast, getD_at Lj m hm]
    rw [e]
    refine ⟨?_, List.getElem_mem hm⟩
    have := (fi_at h1 hm).1
    simpa [isI] using this
theorem suK_sub (d : Jb) (Ln : List Nd) (S : List (Int × Int)) (A : List Al) (k n : Nat) (h : k ≤ n) : suK d Ln S A k ⊆ suK d Ln S A n := by
  induction n with
  | zero => have : k = 0 := by omega
            subst this; exact fun _ h => h
  | succ n ih =>
    by_cases hk : k = n + 1
    · subst hk; exact fun _ h => h
    · intro x hx
      have := ih (by omega) hx
      rw [suK]
      split
      · exact List.mem_append_left _ this
      · exact this
theorem suK_mem (d : Jb) (Ln : List Nd) (S : List (Int × Int)) (A : List Al) (k : Nat) (hk : k < A.length) (h1 : skB d A[k] = false) (h2 : unB d Ln S A[k] = true) : (k : Int) ∈ suK d Ln S A A.length := by
  refine suK_sub d Ln S A (k + 1) A.length (by omega) ?_
  rw [suK, getD_at A k hk, if_pos ⟨h1, h2⟩]
  simp
theorem rlS_sub (d : Jb) (A : List Al) (z : List Int × Int) (s : Int × Int) : z.1 ⊆ (rlS d A z s).1 := by
  unfold rlS
  split
  · exact fun _ h => h
  · split
    · exact fun _ h => h
    · exact fun _ h => List.mem_append_left _ h
theorem rlV_sub (d : Jb) (A : List Al) (L : List (Int × Int)) (z : List Int × Int) : z.1 ⊆ (rlV d A z L).1 := by
  induction L generalizing z with
  | nil => exact fun _ h => h
  | cons s L ih => exact fun x hx => ih _ (rlS_sub d A z s hx)
theorem diT_sub (d : Jb) (Ln : List Nd) (A : List Al) : suK d Ln (slV d Ln) A A.length ⊆ diT d Ln A := by
  unfold diT
  split
  · exact rlV_sub d A _ (_, _)
  · exact fun _ h => h
theorem idA_nat (A : List Al) (k : Nat) (hk : k < A.length) : idA A (k : Int) = A[k].id := by unfold idA alA; rw [Int.toNat_natCast, getD_at A k hk]
theorem fnM_fi {Ln : List Nd} {z : Int} {m : Nat} (hm : m < Ln.length) (h1 : Ln[m].id = z) (h2 : ∀ j (hj : j < m), ¬ (Ln[j]'(by omega)).id = z) : fnM Ln Ln.length z = some Ln[m] := by
  unfold fnM
  rw [List.take_length]
  induction Ln generalizing m with
  | nil => simp at hm
  | cons y L ih =>
    cases m with
    | zero => simp only [List.getElem_cons_zero] at h1 ⊢; rw [List.find?_cons, h1]; simp [isI]
    | succ m =>
      have h0 : ¬ y.id = z := h2 0 (by omega)
      rw [List.find?_cons]
      have e : isI y.id z = false := by simp [isI, h0]
      rw [e]
      simp only [List.getElem_cons_succ] at h1 ⊢
      exact ih (by simpa using hm) h1 (fun j hj => by have := h2 (j + 1) (by omega); simpa using this)
/- a node that is drained -/
theorem ndD_set {Ln : List Nd} {z : Int} {m : Nat} (h : fi (fun x : Nd => isI x.id z) Ln = (m : Int)) (hm : m < Ln.length) : ndD (Ln.set m { Ln[m] with dr := true }) z = true := by
  obtain ⟨h1, h2⟩ := fi_at h hm
  have hm' : m < (Ln.set m { Ln[m] with dr := true }).length := by rw [List.length_set]; exact hm
  unfold ndD
  rw [fnM_fi (Ln := Ln.set m { Ln[m] with dr := true }) (m := m) hm' (by rw [List.getElem_set_self]; simpa [isI] using h1) (fun j hj => by
    rw [List.getElem_set_ne (by omega)]
    have := h2 j hj
    simpa [isI] using this), List.getElem_set_self]
  rfl
theorem drain_stop {Lj : List Jb} {Ln : List Nd} {A : List Al} {job z : Int} (hj : ¬ dfI Lj job < 0) (hd : ndD Ln z = true) (k : Nat) (hk : k < A.length) (h1 : A[k].jb = job) (h2 : A[k].nd = z) (h3 : ovr A[k].st = false) (h4 : A[k].sp = false) : A[k].id ∈ dfS Lj Ln A job := by
  unfold dfS
  rw [if_neg hj, List.mem_map]
  refine ⟨(k : Int), diT_sub _ _ _ (suK_mem _ _ _ _ k hk ?_ ?_), idA_nat A k hk⟩
  · simp [skB, (dfJ_id hj).1, h1, h3, h4]
  · simp [unB, h2, hd]
theorem dfI_set_nodes (Lj : List Jb) (id : Int) : dfI Lj id = fi (fun x : Jb => isI x.id id) Lj := rfl
end Go.Proofs.Ytaaodmagchpnbaa
