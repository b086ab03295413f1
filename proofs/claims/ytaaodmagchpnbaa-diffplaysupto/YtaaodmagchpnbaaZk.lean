/- What Diff answers: slots that nobody holds, none twice; allocations that may stop. -/
import Derived.Test.YtaaodmagchpnbaaZj
namespace Go.Proofs.Ytaaodmagchpnbaa
theorem opK_nodup (L : List Nd) (k : Nat) : (opK L k).Nodup := by
  induction k with
  | zero => exact List.nodup_nil
  | succ k ih =>
    rw [opK]
    split
    · exact ih
    · rename_i h
      rw [List.nodup_append]
      refine ⟨ih, by simp, fun a ha b hb => ?_⟩
      simp only [List.mem_singleton] at hb
      subst hb
      exact fun e => h (.inl (e ▸ ha))
theorem ups_nodup (k : Nat) : (ups k).Nodup := by
  induction k with
  | zero => simp [ups]
  | succ k ih =>
    rw [ups_succ, List.nodup_append]
    refine ⟨ih, by simp, fun a ha b hb => ?_⟩
    simp only [List.mem_singleton] at hb
    subst hb
    have h2 : ∃ j : Nat, j < k ∧ (j : Int) = a := by simpa [ups] using ha
    intro e
    obtain ⟨j, hj, hja⟩ := h2
    omega
theorem slK_fst (ixs : Gp → List Int) (G : List Gp) (k : Nat) : ∀ s ∈ slK ixs G k, s.1 < (k : Int) := by
  induction k with
  | zero => intro s hs; simp [slK] at hs
  | succ k ih =>
    intro s hs
    rw [slK, List.mem_append, List.mem_map] at hs
    rcases hs with h | ⟨i, _, rfl⟩
    · have := ih s h; omega
    · show (k : Int) < _; omega
theorem slK_nodup (ixs : Gp → List Int) (G : List Gp) (h : ∀ g, (ixs g).Nodup) (k : Nat) : (slK ixs G k).Nodup := by
  induction k with
  | zero => exact List.nodup_nil
  | succ k ih =>
    rw [slK, List.nodup_append]
    refine ⟨ih, ?_, fun a ha b hb => ?_⟩
    · have := h (G[k]?.getD default)
      exact List.Pairwise.map _ (fun a b hab e => hab (by cases e; rfl)) this
    · obtain ⟨i, _, rfl⟩ := List.mem_map.1 hb
      have := slK_fst ixs G k a ha
      intro e
      rw [e] at this
      simp at this
theorem slV_nodup (d : Jb) (Ln : List Nd) : (slV d Ln).Nodup := by
  unfold slV
  split
  · exact List.nodup_nil
  · refine slK_nodup _ _ (fun g => ?_) _
    unfold ixV
    split
    · exact opK_nodup Ln _
    · exact ups_nodup _
theorem dfF_ok {Lj : List Jb} {Ln : List Nd} {A : List Al} {job : Int} : (dfF Lj Ln A job).Nodup ∧ ∀ s ∈ dfF Lj Ln A job, fi (slB job s.1 s.2) A = -1 := by
  unfold dfF
  by_cases h : dfI Lj job < 0
  · rw [if_pos h]
    exact ⟨List.nodup_nil, fun s hs => by cases hs⟩
  · rw [if_neg h]
    refine ⟨(slV_nodup _ _).filter _, fun s hs => ?_⟩
    unfold emV at hs
    have h1 := (List.mem_filter.1 hs).2
    simp only [Bool.and_eq_true, decide_eq_true_eq] at h1
    have h2 := h1.2
    unfold hoV at h2
    rw [fiK_fi, (dfJ_id h).1] at h2
    exact h2
def maB (job z : Int) (x : Al) : Bool := decide (x.id = z) && (decide (x.jb = job) && (decide (x.st < 3) && !x.sp))
theorem maB_of {d : Jb} {job : Int} {x : Al} (hd : d.id = job) (h : skB d x = false) : maB job x.id x = true := by
  obtain ⟨h1, h2, h3⟩ := (skB_iff d x job hd).1 h
  unfold maB
  simp [h1, h3]
  omega
theorem suK_of (d : Jb) (Ln : List Nd) (S : List (Int × Int)) (A : List Al) (n : Nat) (hn : n ≤ A.length) : ∀ z ∈ suK d Ln S A n, ∃ k : Nat, z = (k : Int) ∧ ∃ hk : k < A.length, skB d A[k] = false := by
  induction n with
  | zero => intro z hz; simp [suK] at hz
  | succ n ih =>
    intro z hz
    rw [suK, getD_at A n (by omega)] at hz
    split at hz
    · rename_i hc
      rcases List.mem_append.1 hz with h | h
      · exact ih (by omega) z h
      · simp only [List.mem_singleton] at h
        exact ⟨n, h, by omega, hc.1⟩
    · exact ih (by omega) z hz
theorem rlS_of (d : Jb) (A : List Al) (z : List Int × Int) (s : Int × Int) (h : ∀ v ∈ z.1, ∃ k : Nat, v = (k : Int) ∧ ∃ hk : k < A.length, skB d A[k] = false) : ∀ v ∈ (rlS d A z s).1, ∃ k : Nat, v = (k : Int) ∧ ∃ hk : k < A.length, skB d A[k] = false := by
  unfold rlS
  split
  · exact h
  · split
    · exact h
    · rename_i h1
      intro v hv
      rcases List.mem_append.1 hv with h2 | h2
      · exact h v h2
      · simp only [List.mem_singleton] at h2
        subst h2
        have hmv : mvB d A z.1 (hoV d A s) = false := by
          cases hb : mvB d A z.1 (hoV d A s) with
          | false => rfl
          | true => exact absurd (.inl hb) h1
        have hf : hoV d A s = fi (slB d.id s.1 s.2) A := by unfold hoV; rw [fiK_fi]
        rcases fi_rng (slB d.id s.1 s.2) A with h3 | ⟨m, h3, hm⟩
        · rw [hf, h3, mvB_no] at hmv; cases hmv
        · refine ⟨m, by rw [hf, h3], hm, ?_⟩
          have h4 := (fi_at h3 hm).1
          rw [hf, h3, mvB_at d A z.1 m hm A[m] rfl] at hmv
          simp only [Bool.or_eq_false_iff] at hmv
          simp only [slB, isI, Bool.and_eq_true, decide_eq_true_eq, Bool.not_eq_true'] at h4
          simp [skB, h4.1, h4.2.2.2, hmv.2.1]
theorem rlV_of (d : Jb) (A : List Al) (L : List (Int × Int)) (z : List Int × Int) (h : ∀ v ∈ z.1, ∃ k : Nat, v = (k : Int) ∧ ∃ hk : k < A.length, skB d A[k] = false) : ∀ v ∈ (rlV d A z L).1, ∃ k : Nat, v = (k : Int) ∧ ∃ hk : k < A.length, skB d A[k] = false := by
  induction L generalizing z with
  | nil => exact h
  | cons s L ih => exact ih _ (rlS_of d A z s h)
theorem dfS_ok {Lj : List Jb} {Ln : List Nd} {A : List Al} {job : Int} : ∀ z ∈ dfS Lj Ln A job, A.any (maB job z) = true := by
  intro z hz
  unfold dfS at hz
  by_cases h : dfI Lj job < 0
  · rw [if_pos h] at hz; cases hz
  · rw [if_neg h] at hz
    obtain ⟨v, hv, rfl⟩ := List.mem_map.1 hz
    have h0 := suK_of (dfJ Lj job) Ln (slV (dfJ Lj job) Ln) A A.length (Nat.le_refl _)
    have : ∃ k : Nat, v = (k : Int) ∧ ∃ hk : k < A.length, skB (dfJ Lj job) A[k] = false := by
      unfold diT at hv
      split at hv
      · exact rlV_of _ A _ (_, _) h0 v hv
      · exact h0 v hv
    obtain ⟨k, rfl, hk, hs⟩ := this
    rw [idA_nat A k hk, List.any_eq_true]
    exact ⟨A[k], List.getElem_mem hk, maB_of (dfJ_id h).1 hs⟩
theorem any_take {A : List Al} {k : Nat} (h : k < A.length) (P : Al → Bool) : (A.take (k + 1)).any P = ((A.take k).any P || P A[k]) := by
  rw [take_snoc A k h, List.any_append]
  simp
end Go.Proofs.Ytaaodmagchpnbaa
