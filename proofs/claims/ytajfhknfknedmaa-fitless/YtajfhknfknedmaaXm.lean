/- Where a demand may be placed and what it leaves: plain mathematics. -/
import Derived.Test.YtajfhknfknedmaaUr
namespace Go.Proofs.Ytajfhknfknedmaa
open Go.RowKit
theorem sel_lt {α : Type} [Inhabited α] (P : α → Bool) (L : List α) (k : Nat) : ∀ p ∈ sel P L k, p.1 < k := by
  induction k with
  | zero => intro p hp; simp [sel] at hp
  | succ k ih =>
    intro p hp
    rw [sel, List.mem_append] at hp
    rcases hp with hp | hp
    · have := ih p hp; omega
    · split at hp
      · simp at hp; subst hp; simp
      · simp at hp
theorem fi_range {α : Type} [Inhabited α] (P : α → Bool) (L : List α) : fi P L = -1 ∨ ∃ i : Nat, i < L.length ∧ fi P L = (i : Int) := by
  cases hs : sel P L L.length with
  | nil => exact .inl (fi_nil hs)
  | cons p r => exact .inr ⟨p.1, sel_lt P L L.length p (by rw [hs]; simp), by rw [fi, hs]⟩
/- the sum of what is used and of what more is there -/
def wS (nd : Int) (s : Bool × Int × Int) (x : Al) : Bool × Int × Int := if isI x.nd nd = true then uS s x else s
def wF (nd : Int) (A M : List Al) : Bool × Int × Int := M.foldl (wS nd) (true, usedV nd A)
theorem wF_nil (nd : Int) (A : List Al) : wF nd A [] = (true, usedV nd A) := rfl
theorem wF_snoc (nd : Int) (A M : List Al) (x : Al) : wF nd A (M ++ [x]) = wS nd (wF nd A M) x := by simp [wF]
theorem wF_take (nd : Int) (A M : List Al) (k : Nat) (h : k < M.length) : wF nd A (M.take (k + 1)) = wS nd (wF nd A (M.take k)) M[k] := by
  rw [List.take_succ_eq_append_getElem h, wF_snoc]
theorem wS_no {nd : Int} {x : Al} (h : isI x.nd nd = false) (s : Bool × Int × Int) : wS nd s x = s := by simp [wS, h]
theorem wS_yes {nd c m : Int} {x : Al} (h : isI x.nd nd = true) (hadd : addB c m x.c x.m = true) : wS nd (true, c, m) x = (true, c + x.c, m + x.m) := by rw [wS, if_pos h, uS_yes hadd]
theorem wS_bad {nd c m : Int} {x : Al} (h : isI x.nd nd = true) (hadd : addB c m x.c x.m = false) : wS nd (true, c, m) x = (false, top, top) := by rw [wS, if_pos h, uS_bad hadd]
theorem wS_off {s : Bool × Int × Int} (h : s.1 = false) (nd : Int) (x : Al) : wS nd s x = s := by
  unfold wS
  split
  · exact uS_no h x
  · rfl
theorem fold_off {s : Bool × Int × Int} (h : s.1 = false) (nd : Int) (R : List Al) : R.foldl (wS nd) s = s := by
  induction R with
  | nil => rfl
  | cons x R ih => rw [List.foldl_cons, wS_off h, ih]
theorem wF_bad {nd : Int} {A M : List Al} {k : Nat} (h : wF nd A (M.take k) = (false, top, top)) : wF nd A M = (false, top, top) := by
  have e : wF nd A M = (M.drop k).foldl (wS nd) (wF nd A (M.take k)) := by
    unfold wF
    rw [← List.foldl_append, List.take_append_drop]
  rw [e, h, fold_off rfl]
/- a sum that stands is one that may be -/
theorem uS_may (s : Bool × Int × Int) (x : Al) (h : s.1 = true → mayR s.2.1 s.2.2 = true) : (uS s x).1 = true → mayR (uS s x).2.1 (uS s x).2.2 = true := by
  obtain ⟨ok, c, m⟩ := s
  cases ok with
  | false => intro h1; rw [uS_no rfl] at h1; cases h1
  | true =>
    cases hadd : addB c m x.c x.m with
    | false => rw [uS_bad hadd]; intro h1; cases h1
    | true =>
      rw [uS_yes hadd]
      intro _
      unfold addB at hadd
      rw [Bool.and_eq_true] at hadd
      exact hadd.2
theorem uF_may (L : List (Nat × Al)) : mayR (uF L).2.1 (uF L).2.2 = true := by
  have key : ∀ (L : List (Nat × Al)) (s : Bool × Int × Int), mayR s.2.1 s.2.2 = true → mayR (L.foldl (fun s p => uS s p.2) s).2.1 (L.foldl (fun s p => uS s p.2) s).2.2 = true := by
    intro L
    induction L with
    | nil => intro s h; exact h
    | cons x L ih =>
      intro s h
      rw [List.foldl_cons]
      refine ih _ ?_
      obtain ⟨ok, c, m⟩ := s
      cases ok with
      | false => rw [uS_no rfl]; exact h
      | true =>
        cases hadd : addB c m x.2.c x.2.m with
        | false => rw [uS_bad hadd]; decide
        | true => have := uS_may (true, c, m) x.2 (fun _ => h); rw [uS_yes hadd] at this ⊢; exact this rfl
  exact key L (true, 0, 0) (by decide)
theorem used_may (nd : Int) (A : List Al) : mayR (usedV nd A).1 (usedV nd A).2 = true := uF_may _
theorem wF_may (nd : Int) (A M : List Al) : (wF nd A M).1 = true → mayR (wF nd A M).2.1 (wF nd A M).2.2 = true := by
  have key : ∀ (M : List Al) (s : Bool × Int × Int), (s.1 = true → mayR s.2.1 s.2.2 = true) → (M.foldl (wS nd) s).1 = true → mayR (M.foldl (wS nd) s).2.1 (M.foldl (wS nd) s).2.2 = true := by
    intro M
    induction M with
    | nil => intro s h; exact h
    | cons x M ih =>
      intro s h
      rw [List.foldl_cons]
      refine ih _ ?_
      unfold wS
      split
      · exact uS_may s x h
      · exact h
  exact key M _ (fun _ => used_may nd A)
/- what is told of the sum -/
def wC (s : Bool × Int × Int) : Int := if s.1 = true then s.2.1 else 0
def wM (s : Bool × Int × Int) : Int := if s.1 = true then s.2.2 else 0
/- where a node stands, and which it is -/
def atN (N : List Nd) (nd : Int) : Int := fi (fun x => isI x.id nd) N
def okV (n : Nd) (s : Bool × Int × Int) (a b : Int) : Bool := s.1 && (addB s.2.1 s.2.2 a b && (decide (s.2.1 + a ≤ n.c) && decide (s.2.2 + b ≤ n.m)))
def lfV (n : Nd) (s : Bool × Int × Int) (a b : Int) : Int := (n.c - (s.2.1 + a)) + (n.m - (s.2.2 + b))
def ndV (n : Nd) (s : Bool × Int × Int) (a b : Int) : Option Int := if (n.up && (!n.dr && okV n s a b)) = true then some (lfV n s a b) else none
def chV (N : List Nd) (A M : List Al) (nd a b : Int) : Option Int := if atN N nd < 0 then none else ndV (N[(atN N nd).toNat]?.getD default) (wF nd A M) a b
theorem chV_no {N : List Nd} {A M : List Al} {nd a b : Int} (h : atN N nd = -1) : chV N A M nd a b = none := by rw [chV, h]; rfl
theorem chV_at {N : List Nd} {A M : List Al} {nd a b : Int} {i : Nat} (hi : i < N.length) (h : atN N nd = (i : Int)) : chV N A M nd a b = ndV N[i] (wF nd A M) a b := by
  rw [chV, h, if_neg (by omega), show ((i : Int)).toNat = i from rfl, getD_at N i hi]
theorem ndV_down {n : Nd} {s : Bool × Int × Int} {a b : Int} (h : n.up = false) : ndV n s a b = none := by simp [ndV, h]
theorem ndV_drain {n : Nd} {s : Bool × Int × Int} {a b : Int} (h : n.dr = true) : ndV n s a b = none := by simp [ndV, h]
theorem ndV_not {n : Nd} {s : Bool × Int × Int} {a b : Int} (h : okV n s a b = false) : ndV n s a b = none := by simp [ndV, h]
theorem ndV_yes {n : Nd} {s : Bool × Int × Int} {a b : Int} (h1 : n.up = true) (h2 : n.dr = false) (h : okV n s a b = true) : ndV n s a b = some (lfV n s a b) := by simp [ndV, h1, h2, h]
/- may capacities be added -/
def cpB (n : Nd) : Bool := decide (n.c ≤ 2305843009213693952) && decide (n.m ≤ 2305843009213693952)
def cpL (N : List Nd) : Bool := N.all cpB
theorem cpL_at {N : List Nd} (h : cpL N = true) (i : Nat) (hi : i < N.length) : N[i].c ≤ 2305843009213693952 ∧ N[i].m ≤ 2305843009213693952 := by
  have := List.all_eq_true.1 h N[i] (List.getElem_mem hi)
  simpa [cpB] using this
/- what an ask that fits says of the numbers -/
theorem okV_true {n : Nd} {s : Bool × Int × Int} {a b : Int} (h : okV n s a b = true) : s.1 = true ∧ (0 ≤ s.2.1 ∧ s.2.1 ≤ 1152921504606846976) ∧ (0 ≤ s.2.2 ∧ s.2.2 ≤ 1152921504606846976) ∧ (0 ≤ a ∧ a ≤ 1152921504606846976) ∧ (0 ≤ b ∧ b ≤ 1152921504606846976) ∧ s.2.1 + a ≤ n.c ∧ s.2.2 + b ≤ n.m := by
  unfold okV at h
  rw [Bool.and_eq_true, Bool.and_eq_true, Bool.and_eq_true, decide_eq_true_eq, decide_eq_true_eq] at h
  obtain ⟨h1, h2, h3, h4⟩ := h
  unfold addB at h2
  rw [Bool.and_eq_true, Bool.and_eq_true, mayR_true, mayR_true] at h2
  exact ⟨h1, h2.1.1.1, h2.1.1.2, h2.1.2.1, h2.1.2.2, h3, h4⟩
/- the best of the first nodes -/
def bt (x y : Int × Int) : Bool := decide (x.2 < y.2) || (decide (x.2 = y.2) && decide (x.1 < y.1))
def bS (N : List Nd) (A M : List Al) (a b : Int) (s : Option (Int × Int)) (id : Int) : Option (Int × Int) := match chV N A M id a b with
  | none => s
  | some l => match s with
    | none => some (id, l)
    | some y => if bt (id, l) y = true then some (id, l) else some y
def bF (N : List Nd) (A M : List Al) (a b : Int) (k : Nat) : Option (Int × Int) := (N.take k).foldl (fun s n => bS N A M a b s n.id) none
theorem bF_step (N : List Nd) (A M : List Al) (a b : Int) (k : Nat) (h : k < N.length) : bF N A M a b (k + 1) = bS N A M a b (bF N A M a b k) N[k].id := by
  rw [bF, List.take_succ_eq_append_getElem h, List.foldl_append]; rfl
def bV (N : List Nd) (A M : List Al) (a b : Int) : Option (Int × Int) := bF N A M a b N.length
theorem bS_none {N : List Nd} {A M : List Al} {a b id : Int} (h : chV N A M id a b = none) (s : Option (Int × Int)) : bS N A M a b s id = s := by rw [bS, h]
theorem bS_first {N : List Nd} {A M : List Al} {a b id l : Int} (h : chV N A M id a b = some l) : bS N A M a b none id = some (id, l) := by rw [bS, h]
theorem bS_some {N : List Nd} {A M : List Al} {a b id l : Int} (h : chV N A M id a b = some l) (y : Int × Int) : bS N A M a b (some y) id = if bt (id, l) y = true then some (id, l) else some y := by rw [bS, h]
theorem bF_is (N : List Nd) (A M : List Al) (a b : Int) (k : Nat) (hk : k ≤ N.length) : ∀ y, bF N A M a b k = some y → chV N A M y.1 a b = some y.2 := by
  induction k with
  | zero => intro y h; cases h
  | succ k ih =>
    intro y h
    rw [bF_step N A M a b k (by omega)] at h
    cases hc : chV N A M N[k].id a b with
    | none => rw [bS_none hc] at h; exact ih (by omega) y h
    | some l =>
      cases hs : bF N A M a b k with
      | none => rw [hs, bS_first hc] at h; cases h; exact hc
      | some z =>
        rw [hs, bS_some hc] at h
        split at h
        · cases h; exact hc
        · cases h; exact ih (by omega) _ hs
theorem bF_least (N : List Nd) (A M : List Al) (a b : Int) (k : Nat) (hk : k ≤ N.length) : ∀ i (hi : i < k), ∀ l, chV N A M (N[i]'(by omega)).id a b = some l → ∃ y, bF N A M a b k = some y ∧ (y.2 < l ∨ (y.2 = l ∧ y.1 ≤ (N[i]'(by omega)).id)) := by
  induction k with
  | zero => intro i hi; omega
  | succ k ih =>
    intro i hi l hl
    rw [bF_step N A M a b k (by omega)]
    by_cases e : i = k
    · subst e
      cases hs : bF N A M a b i with
      | none => exact ⟨_, bS_first hl, .inr ⟨rfl, Int.le_refl _⟩⟩
      | some z =>
        rw [bS_some hl]
        by_cases hb : bt (N[i].id, l) z = true
        · exact ⟨_, if_pos hb, .inr ⟨rfl, Int.le_refl _⟩⟩
        · refine ⟨_, if_neg hb, ?_⟩
          simp only [bt, Bool.or_eq_true, Bool.and_eq_true, decide_eq_true_eq] at hb
          omega
    · obtain ⟨y, hy, hle⟩ := ih (by omega) i (by omega) l hl
      cases hc : chV N A M N[k].id a b with
      | none => rw [bS_none hc]; exact ⟨y, hy, hle⟩
      | some l2 =>
        rw [hy, bS_some hc]
        by_cases hb : bt (N[k].id, l2) y = true
        · refine ⟨_, if_pos hb, ?_⟩
          simp only [bt, Bool.or_eq_true, Bool.and_eq_true, decide_eq_true_eq] at hb
          simp only
          omega
        · exact ⟨_, if_neg hb, hle⟩
/- a greater ask, and one more -/
theorem chV_more {N : List Nd} {A M : List Al} {nd a b : Int} {x : Al} (h : (chV N A (M ++ [x]) nd a b).isSome = true) : (chV N A M nd a b).isSome = true := by
  rcases fi_range (fun y : Nd => isI y.id nd) N with e | ⟨i, hi, e⟩
  · rw [chV_no e] at h; cases h
  · rw [chV_at hi e] at h ⊢
    rw [wF_snoc] at h
    generalize wF nd A M = s at *
    obtain ⟨ok, c, m⟩ := s
    cases hn : isI x.nd nd with
    | false => rw [wS_no hn] at h; exact h
    | true =>
      cases ok with
      | false => rw [wS_off rfl] at h; exact h
      | true =>
        cases hadd : addB c m x.c x.m with
        | false =>
          rw [wS_bad hn hadd] at h
          rw [ndV_not (by simp [okV])] at h
          cases h
        | true =>
          rw [wS_yes hn hadd] at h
          cases h1 : N[i].up with
          | false => rw [ndV_down h1] at h; cases h
          | true =>
            cases h2 : N[i].dr with
            | true => rw [ndV_drain h2] at h; cases h
            | false =>
              cases h3 : okV N[i] (true, c + x.c, m + x.m) a b with
              | false => rw [ndV_not h3] at h; cases h
              | true =>
                have h4 := okV_true h3
                unfold addB at hadd
                rw [Bool.and_eq_true, Bool.and_eq_true, mayR_true, mayR_true, mayR_true] at hadd
                have h5 : okV N[i] (true, c, m) a b = true := by
                  simp only [okV, addB, Bool.and_eq_true, mayR_true, decide_eq_true_eq, true_and] at h3 ⊢
                  simp only at h4
                  omega
                rw [ndV_yes h1 h2 h5]; rfl
theorem chV_less {N : List Nd} {A M : List Al} {nd a b : Int} (ha : 0 ≤ a) (h : (chV N A M nd (a + 1) b).isSome = true) : (chV N A M nd a b).isSome = true := by
  rcases fi_range (fun y : Nd => isI y.id nd) N with e | ⟨i, hi, e⟩
  · rw [chV_no e] at h; cases h
  · rw [chV_at hi e] at h ⊢
    generalize wF nd A M = s at *
    obtain ⟨ok, c, m⟩ := s
    cases h1 : N[i].up with
    | false => rw [ndV_down h1] at h; cases h
    | true =>
      cases h2 : N[i].dr with
      | true => rw [ndV_drain h2] at h; cases h
      | false =>
        cases h3 : okV N[i] (ok, c, m) (a + 1) b with
        | false => rw [ndV_not h3] at h; cases h
        | true =>
          have h5 : okV N[i] (ok, c, m) a b = true := by
            simp only [okV, addB, Bool.and_eq_true, mayR_true, decide_eq_true_eq] at h3 ⊢
            refine ⟨h3.1, ?_⟩
            have h6 := h3.2
            omega
          rw [ndV_yes h1 h2 h5]; rfl
/- what is left on a node now -/
def lnV (N : List Nd) (A : List Al) (nd : Int) : Int := ((N[(atN N nd).toNat]?.getD default).c - (usedV nd A).1) + ((N[(atN N nd).toNat]?.getD default).m - (usedV nd A).2)
theorem chV_left {N : List Nd} {A : List Al} {nd a b l : Int} (h : chV N A [] nd a b = some l) : ∃ i : Nat, ∃ hi : i < N.length, atN N nd = (i : Int) ∧ l = lnV N A nd - a - b ∧ (0 ≤ (usedV nd A).1 ∧ (usedV nd A).1 ≤ 1152921504606846976) ∧ (0 ≤ (usedV nd A).2 ∧ (usedV nd A).2 ≤ 1152921504606846976) ∧ (usedV nd A).1 ≤ N[i].c ∧ (usedV nd A).2 ≤ N[i].m := by
  rcases fi_range (fun y : Nd => isI y.id nd) N with e | ⟨i, hi, e⟩
  · rw [chV_no e] at h; cases h
  · refine ⟨i, hi, e, ?_⟩
    have ee : atN N nd = (i : Int) := e
    rw [chV_at hi e, wF_nil] at h
    cases h1 : N[i].up with
    | false => rw [ndV_down h1] at h; cases h
    | true =>
      cases h2 : N[i].dr with
      | true => rw [ndV_drain h2] at h; cases h
      | false =>
        cases h3 : okV N[i] (true, usedV nd A) a b with
        | false => rw [ndV_not h3] at h; cases h
        | true =>
          rw [ndV_yes h1 h2 h3] at h
          have h4 := okV_true h3
          cases h
          simp only at h4
          refine ⟨?_, h4.2.1, h4.2.2.1, by omega, by omega⟩
          rw [lnV, ee, show ((i : Int)).toNat = i from rfl, getD_at N i hi, lfV]
          simp only
          omega
end Go.Proofs.Ytajfhknfknedmaa
