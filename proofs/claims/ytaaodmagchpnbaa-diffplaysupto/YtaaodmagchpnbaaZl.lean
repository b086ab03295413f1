/- What Diff answers of a job that has all it wants: plain facts. -/
import Derived.Test.YtaaodmagchpnbaaZk
namespace Go.Proofs.Ytaaodmagchpnbaa
def qA (job ve : Int) (i : Nat) (s : Int × Int) : Al := ⟨1000 + (i : Int), job, ve, s.1, s.2, -5, 0, 0, 0, false, 2⟩
def qL (job ve : Int) (L : List (Int × Int)) : Nat → List Al
  | 0 => []
  | k + 1 => qL job ve L k ++ [qA job ve k (L[k]?.getD default)]
def kpK (job : Int) (A : List Al) : Nat → List Al
  | 0 => []
  | k + 1 => if (A[k]?.getD default).jb = job then kpK job A k else kpK job A k ++ [A[k]?.getD default]
theorem kpK_at (job : Int) (A : List Al) (k : Nat) (K : List Al) (hK : K = kpK job A k) (h : k < A.length) (x : Al) (hx : A[k] = x) : kpK job A (k + 1) = if x.jb = job then K else K ++ [x] := by
  rw [kpK, ← hK, getD_at A k h, hx]
theorem kpK_len (job : Int) (A : List Al) (k : Nat) : (kpK job A k).length ≤ k := by
  induction k with
  | zero => simp [kpK]
  | succ k ih =>
    rw [kpK]
    split
    · omega
    · rw [List.length_append]; simp; omega
theorem qL_len (job ve : Int) (L : List (Int × Int)) (k : Nat) : (qL job ve L k).length = k := by
  induction k with
  | zero => rfl
  | succ k ih => rw [qL, List.length_append, ih]; rfl
theorem qL_at (job ve : Int) (L : List (Int × Int)) (k : Nat) (h : k < L.length) (y : Int × Int) (hy : L[k] = y) : qL job ve L (k + 1) = qL job ve L k ++ [qA job ve k y] := by
  rw [qL, getD_at L k h, hy]
theorem kpK_jb (job : Int) (A : List Al) (k : Nat) : ∀ x ∈ kpK job A k, ¬ x.jb = job := by
  induction k with
  | zero => intro x hx; simp [kpK] at hx
  | succ k ih =>
    intro x hx
    rw [kpK] at hx
    split at hx
    · exact ih x hx
    · rename_i h
      rcases List.mem_append.1 hx with h1 | h1
      · exact ih x h1
      · simp only [List.mem_singleton] at h1
        rw [h1]; exact h
theorem qL_mem (job ve : Int) (L : List (Int × Int)) (n : Nat) (hn : n ≤ L.length) : (∀ x ∈ qL job ve L n, ∃ i s, s ∈ L ∧ x = qA job ve i s) ∧ (∀ j (h : j < n), ∃ x ∈ qL job ve L n, x = qA job ve j (L[j]'(by omega))) := by
  induction n with
  | zero => exact ⟨fun x hx => by simp [qL] at hx, fun j h => absurd h (by omega)⟩
  | succ n ih =>
    obtain ⟨h1, h2⟩ := ih (by omega)
    rw [qL_at job ve L n (by omega) _ rfl]
    refine ⟨fun x hx => ?_, fun j h => ?_⟩
    · rcases List.mem_append.1 hx with h3 | h3
      · exact h1 x h3
      · simp only [List.mem_singleton] at h3
        exact ⟨n, L[n], List.getElem_mem (by omega), h3⟩
    · by_cases hj : j = n
      · subst hj
        exact ⟨_, List.mem_append_right _ (by simp), rfl⟩
      · obtain ⟨x, hx, e⟩ := h2 j (by omega)
        exact ⟨x, List.mem_append_left _ hx, e⟩
theorem suK_none (d : Jb) (Ln : List Nd) (S : List (Int × Int)) (A : List Al) (h : ∀ x ∈ A, skB d x = false → unB d Ln S x = false) (n : Nat) (hn : n ≤ A.length) : suK d Ln S A n = [] := by
  induction n with
  | zero => rfl
  | succ n ih =>
    rw [suK, getD_at A n (by omega), ih (by omega), if_neg]
    rintro ⟨h1, h2⟩
    rw [h _ (List.getElem_mem (by omega)) h1] at h2
    cases h2
theorem ndD_none (Ln : List Nd) (z : Int) (h : ∀ x ∈ Ln, ¬ x.id = z) : ndD Ln z = false := by
  have : fnM Ln Ln.length z = none := by
    unfold fnM
    rw [List.take_length, List.find?_eq_none]
    intro x hx
    simp [isI, h x hx]
  unfold ndD
  rw [this]; rfl
theorem hoV_in (d : Jb) (A : List Al) (s : Int × Int) (x : Al) (hx : x ∈ A) (hs : slB d.id s.1 s.2 x = true) : ∃ m : Nat, hoV d A s = (m : Int) ∧ ∃ hm : m < A.length, slB d.id s.1 s.2 A[m] = true := by
  have e : hoV d A s = fi (slB d.id s.1 s.2) A := by unfold hoV; rw [fiK_fi]
  rcases fi_rng (slB d.id s.1 s.2) A with h | ⟨m, h, hm⟩
  · have := fi_none h x hx
    rw [hs] at this; cases this
  · exact ⟨m, by rw [e, h], hm, (fi_at h hm).1⟩
theorem rlV_pass (d : Jb) (A : List Al) (T : List Int) (n : Int) (L : List (Int × Int)) (h : ∀ s ∈ L, (alA A (hoV d A s)).ve = d.ve) : rlV d A (T, n) L = (T, n) := by
  induction L with
  | nil => rfl
  | cons s L ih =>
    have h1 : rlV d A (T, n) (s :: L) = rlV d A (rlS d A (T, n) s) L := rfl
    have h2 : rlS d A (T, n) s = (T, n) := by
      unfold rlS
      split
      · rfl
      · rw [if_pos (.inr (h s (by simp)))]
    rw [h1, h2]
    exact ih (fun s hs => h s (by simp [hs]))
theorem quiet {Lj : List Jb} {Ln : List Nd} {job : Int} (A : List Al) (hj : ¬ dfI Lj job < 0) (hn : ∀ x ∈ Ln, ¬ x.id = -5) :
    dfS Lj Ln (kpK job A A.length ++ qL job (dfJ Lj job).ve (slV (dfJ Lj job) Ln) (slV (dfJ Lj job) Ln).length) job = [] ∧ dfF Lj Ln (kpK job A A.length ++ qL job (dfJ Lj job).ve (slV (dfJ Lj job) Ln) (slV (dfJ Lj job) Ln).length) job = [] := by
  have hid := (dfJ_id hj).1
  unfold dfS dfF
  rw [if_neg hj, if_neg hj]
  obtain ⟨d, hd⟩ : ∃ d, dfJ Lj job = d := ⟨_, rfl⟩
  rw [hd] at hid ⊢
  clear hd hj
  obtain ⟨q1, q2⟩ := qL_mem job d.ve (slV d Ln) (slV d Ln).length (Nat.le_refl _)
  have hkp := kpK_jb job A A.length
  generalize kpK job A A.length = K at *
  obtain ⟨Q, hQ⟩ : ∃ Q, qL job d.ve (slV d Ln) (slV d Ln).length = Q := ⟨_, rfl⟩
  rw [hQ] at q1 q2 ⊢
  clear hQ
  have hx : ∀ x ∈ K ++ Q, x.jb = job → ∃ i s, s ∈ slV d Ln ∧ x = qA job d.ve i s := fun x hx hj => by
    rcases List.mem_append.1 hx with h | h
    · exact absurd hj (hkp x h)
    · exact q1 x h
  have hsu : suK d Ln (slV d Ln) (K ++ Q) (K ++ Q).length = [] := suK_none d Ln _ _ (fun x hx1 hs => by
    obtain ⟨h1, _, _⟩ := (skB_iff d x job hid).1 hs
    obtain ⟨i, s, hs1, rfl⟩ := hx x hx1 h1
    have h5 := ndD_none Ln (-5) hn
    have hmem : ((qA job d.ve i s).gr, (qA job d.ve i s).ix) ∈ slV d Ln := hs1
    simp only [unB, qA, h5] at hmem ⊢
    simp [hmem]) _ (Nat.le_refl _)
  have hho : ∀ s ∈ slV d Ln, ∃ m : Nat, hoV d (K ++ Q) s = (m : Int) ∧ ∃ hm : m < (K ++ Q).length, ∃ i s', (K ++ Q)[m] = qA job d.ve i s' := fun s hs => by
    obtain ⟨j, hjl, rfl⟩ := List.getElem_of_mem hs
    obtain ⟨x, hxm, rfl⟩ := q2 j hjl
    obtain ⟨m, h1, hm, h2⟩ := hoV_in d (K ++ Q) (slV d Ln)[j] _ (List.mem_append_right _ hxm) (by simp [slB, qA, isI, hid, ovr])
    refine ⟨m, h1, hm, ?_⟩
    have h3 : (K ++ Q)[m].jb = job := by
      simp only [slB, isI, Bool.and_eq_true, decide_eq_true_eq] at h2
      rw [h2.1, hid]
    obtain ⟨i, s', _, e⟩ := hx _ (List.getElem_mem hm) h3
    exact ⟨i, s', e⟩
  have hdi : diT d Ln (K ++ Q) = [] := by
    unfold diT
    rw [hsu]
    split
    · rw [rlV_pass]
      intro s hs
      obtain ⟨m, h1, hm, i, s', e⟩ := hho s hs
      unfold alA
      rw [h1, Int.toNat_natCast, getD_at _ m hm, e]
      rfl
    · rfl
  refine ⟨by rw [hdi]; rfl, ?_⟩
  unfold emV
  rw [List.filter_eq_nil_iff]
  intro s hs
  obtain ⟨m, h1, _, _⟩ := hho s hs
  simp only [h1, Bool.and_eq_true, decide_eq_true_eq]
  rintro ⟨_, h2⟩
  omega
end Go.Proofs.Ytaaodmagchpnbaa
