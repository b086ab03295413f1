/- A change rolls: plain facts. -/
import Derived.Test.YtaaodmagchpnbaaZl
namespace Go.Proofs.Ytaaodmagchpnbaa
/- of a job whose allocations all stand in its slots, one a slot, on nodes that are not drained, each found by its number -/
structure RoP (d : Jb) (Ln : List Nd) (S : List (Int × Int)) (A : List Al) (n : Nat) : Prop where
  ok : ∀ i (h : i < A.length), i < n → A[i].jb = d.id → A[i].st < 3 → (A[i].gr, A[i].ix) ∈ S ∧ ndD Ln A[i].nd = false ∧ fi (slB d.id A[i].gr A[i].ix) A = (i : Int) ∧ fi (fun x : Al => isI x.id A[i].id) A = (i : Int)
theorem cnt_le (S : List (Int × Int)) (hn : S.Nodup) (p q : Int × Int → Bool) (y : Int × Int) (h : ∀ s ∈ S, q s = true → p s = true ∨ s = y) : (S.filter q).length ≤ (S.filter p).length + 1 := by
  induction S with
  | nil => simp
  | cons s S ih =>
    rw [List.nodup_cons] at hn
    have i1 := ih hn.2 (fun s hs => h s (by simp [hs]))
    by_cases hy : s = y
    · subst hy
      have i2 : (S.filter q).length ≤ (S.filter p).length := by
        have : ∀ L : List (Int × Int), (∀ s' ∈ L, q s' = true → p s' = true) → (L.filter q).length ≤ (L.filter p).length := by
          intro L
          induction L with
          | nil => simp
          | cons a L ih2 =>
            intro h2
            have i3 := ih2 (fun s' hs => h2 s' (by simp [hs]))
            rw [List.filter_cons, List.filter_cons]
            by_cases hq : q a = true
            · rw [if_pos hq, if_pos (h2 a (by simp) hq)]; simp; exact i3
            · rw [if_neg hq]
              split
              · simp; omega
              · exact i3
        refine this S (fun s' hs hq => ?_)
        rcases h s' (by simp [hs]) hq with h3 | h3
        · exact h3
        · exact absurd (h3 ▸ hs) hn.1
      rw [List.filter_cons, List.filter_cons]
      split <;> split <;> simp <;> omega
    · rw [List.filter_cons, List.filter_cons]
      by_cases hq : q s = true
      · have hp : p s = true := (h s (by simp) hq).resolve_right hy
        rw [if_pos hq, if_pos hp]; simp; exact i1
      · rw [if_neg hq]
        split
        · simp; omega
        · exact i1
theorem hoV_fi (d : Jb) (A : List Al) (s : Int × Int) : hoV d A s = fi (slB d.id s.1 s.2) A := by unfold hoV; rw [fiK_fi]
theorem mvN_more (d : Jb) (A : List Al) (T : List Int) (S : List (Int × Int)) (hn : S.Nodup) (y : Int × Int) (hv : ¬ hoV d A y = -1) : mvN d A (T ++ [hoV d A y]) S ≤ mvN d A T S + 1 := by
  unfold mvN
  refine cnt_le S hn _ _ y (fun s hs hq => ?_)
  by_cases he : hoV d A s = hoV d A y
  · right
    rw [hoV_fi] at he hv
    rw [hoV_fi] at he
    rcases fi_rng (slB d.id y.1 y.2) A with h | ⟨m, h, hm⟩
    · exact absurd h hv
    · rw [h] at he
      have h1 := (fi_at h hm).1
      have h2 := (fi_at he hm).1
      simp only [slB, isI, Bool.and_eq_true, decide_eq_true_eq] at h1 h2
      exact Prod.ext (h2.2.1.symm.trans h1.2.1) (h2.2.2.1.symm.trans h1.2.2.1)
  · left
    unfold mvB at hq ⊢
    split
    · rfl
    · rename_i h0
      rw [if_neg h0] at hq
      simp only [List.mem_append, List.mem_singleton, Bool.or_eq_true, decide_eq_true_eq] at hq ⊢
      rcases hq with (h | h) | h
      · exact .inl h
      · exact absurd h he
      · exact .inr h
theorem rlV_roll (d : Jb) (A : List Al) (S : List (Int × Int)) (hn : S.Nodup) (n0 : Int) (h0 : (mvN d A [] S : Int) ≤ n0) (L : List (Int × Int)) : (mvN d A (rlV d A ([], n0) L).1 S : Int) ≤ (rlV d A ([], n0) L).2 ∧ ((rlV d A ([], n0) L).2 ≤ d.pa ∨ (rlV d A ([], n0) L).2 = n0) := by
  have key : ∀ (L : List (Int × Int)) (z : List Int × Int), (mvN d A z.1 S : Int) ≤ z.2 → (z.2 ≤ d.pa ∨ z.2 = n0) → (mvN d A (rlV d A z L).1 S : Int) ≤ (rlV d A z L).2 ∧ ((rlV d A z L).2 ≤ d.pa ∨ (rlV d A z L).2 = n0) := by
    intro L
    induction L with
    | nil => exact fun z h1 h2 => ⟨h1, h2⟩
    | cons s L ih =>
      intro z h1 h2
      refine ih (rlS d A z s) ?_ ?_
      · unfold rlS
        split
        · exact h1
        · split
          · exact h1
          · rename_i _ hc
            have hv : ¬ hoV d A s = -1 := fun e => hc (.inl (by rw [e]; rfl))
            have := mvN_more d A z.1 S hn s hv
            show ((mvN d A (z.1 ++ [hoV d A s]) S : Nat) : Int) ≤ z.2 + 1
            omega
      · unfold rlS
        split
        · exact h2
        · rename_i hp
          split
          · exact h2
          · left
            show z.2 + 1 ≤ d.pa
            omega
  exact key L ([], n0) h0 (.inr rfl)
/- with these to stop -/
def spS (A : List Al) : List Int → List Al
  | [] => A
  | v :: T => spS (A.set v.toNat { (A[v.toNat]?.getD default) with sp := true }) T
end Go.Proofs.Ytaaodmagchpnbaa
