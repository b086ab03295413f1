/- A log as a base and a list of entries: what is asked of it, and what stays true. -/
namespace Go.Proofs.Ytdkmlgkljhhokaa

structure En where
  ix : Int
  tm : Int
  op : Int
  id : Int
deriving DecidableEq, Inhabited
structure Lg where
  bi : Int
  bt : Int
  L : List En
/- entries that stand behind one of this index and term -/
def mayB (i t : Int) : List En → Bool
  | [] => true
  | x :: D => decide (x.ix = i + 1) && decide (x.ix ≤ 1099511627776) && decide (t ≤ x.tm) && decide (x.tm ≤ 1099511627776) && mayB x.ix x.tm D
structure Wf (M : Lg) : Prop where
  b0 : 0 ≤ M.bi
  b1 : M.bi ≤ 1099511627776
  t0 : 0 ≤ M.bt
  t1 : M.bt ≤ 1099511627776
  may : mayB M.bi M.bt M.L = true
theorem mayB_cons {i t : Int} {x : En} {D : List En} : mayB i t (x :: D) = true ↔ x.ix = i + 1 ∧ x.ix ≤ 1099511627776 ∧ t ≤ x.tm ∧ x.tm ≤ 1099511627776 ∧ mayB x.ix x.tm D = true := by
  simp [mayB, and_assoc]
def lastI (M : Lg) : Int := M.bi + M.L.length
def endT (t : Int) : List En → Int
  | [] => t
  | x :: L => endT x.tm L
def lastT (M : Lg) : Int := endT M.bt M.L
theorem endT_nil (t : Int) : endT t [] = t := rfl
theorem endT_cons (t : Int) (x : En) (L : List En) : endT t (x :: L) = endT x.tm L := rfl
theorem endT_snoc (x : En) (L : List En) : ∀ t : Int, endT t (L ++ [x]) = x.tm := by
  induction L with
  | nil => intro t; rfl
  | cons y L ih => intro t; exact ih y.tm
theorem mayB_app {D : List En} : ∀ {C : List En} {i t : Int}, mayB i t (C ++ D) = (mayB i t C && mayB (i + C.length) (endT t C) D) := by
  intro C
  induction C with
  | nil => intro i t; simp [mayB, endT_nil]
  | cons x C ih =>
    intro i t
    by_cases h : x.ix = i + 1
    · have e : i + 1 + (C.length : Int) = i + ((x :: C).length : Nat) := by simp; omega
      simp only [List.cons_append, mayB, ih, endT_cons, Bool.and_assoc]
      rw [h, e]
    · simp [mayB, h]
theorem mayB_at : ∀ {L : List En} {i t : Int}, mayB i t L = true → ∀ (j : Nat) (e : En), L[j]? = some e → e.ix = i + 1 + j ∧ e.ix ≤ 1099511627776 ∧ t ≤ e.tm ∧ e.tm ≤ 1099511627776 := by
  intro L
  induction L with
  | nil => intro i t _ j e h; simp at h
  | cons x L ih =>
    intro i t h j e hj
    obtain ⟨h1, h2, h3, h4, h5⟩ := mayB_cons.1 h
    cases j with
    | zero => simp at hj; subst hj; exact ⟨by simp; omega, h2, h3, h4⟩
    | succ j =>
      obtain ⟨k1, k2, k3, k4⟩ := ih h5 j e (by simpa using hj)
      exact ⟨by rw [k1, h1]; push_cast; omega, k2, by omega, k4⟩
theorem mayB_end {L : List En} {i t : Int} (h : mayB i t L = true) : t ≤ endT t L ∧ (t ≤ 1099511627776 → endT t L ≤ 1099511627776) := by
  rcases List.eq_nil_or_concat L with rfl | ⟨C, x, rfl⟩
  · exact ⟨Int.le_refl _, id⟩
  · rw [List.concat_eq_append, endT_snoc]
    obtain ⟨_, _, k3, k4⟩ := mayB_at h C.length x (by simp)
    exact ⟨k3, fun _ => k4⟩
theorem Wf.at {M : Lg} (h : Wf M) {j : Nat} {e : En} (hj : M.L[j]? = some e) : e.ix = M.bi + 1 + j ∧ e.ix ≤ 1099511627776 ∧ M.bt ≤ e.tm ∧ e.tm ≤ 1099511627776 := mayB_at h.may j e hj
theorem Wf.lastI_le {M : Lg} (h : Wf M) : M.bi ≤ lastI M ∧ lastI M ≤ 1099511627776 := by
  unfold lastI
  refine ⟨by omega, ?_⟩
  rcases List.eq_nil_or_concat M.L with e | ⟨C, x, e⟩
  · rw [e]; simp; exact h.b1
  · rw [List.concat_eq_append] at e
    have := h.at (j := C.length) (e := x) (by rw [e]; simp)
    rw [e]; simp; omega
theorem Wf.lastT_le {M : Lg} (h : Wf M) : 0 ≤ lastT M ∧ lastT M ≤ 1099511627776 := by
  have := mayB_end h.may
  have h0 := h.t0
  have h1 := h.t1
  unfold lastT
  exact ⟨by omega, this.2 h1⟩
/- the term of an index -/
def termT (M : Lg) (i : Int) : Int := if i < M.bi then 0 else if lastI M < i then 0 else if i = M.bi then M.bt else (M.L.getD (i - M.bi - 1).toNat default).tm
def termE (M : Lg) (i : Int) : Int := if i < M.bi then 23 else if lastI M < i then 3 else 0
def hasB (M : Lg) (i t : Int) : Bool := decide (termE M i = 0) && decide (termT M i = t)
def sliceM (M : Lg) (from_ most : Int) : List En := if from_ ≤ M.bi ∨ lastI M < from_ ∨ most < 1 then [] else (M.L.drop (from_ - M.bi - 1).toNat).take most.toNat
def newerB (M : Lg) (i t : Int) : Bool := decide (lastT M < t) || (decide (t = lastT M) && decide (lastI M ≤ i))
def putE (M : Lg) (t : Int) : Int := if t < lastT M ∨ t < 1 ∨ 1099511627776 < t then 1 else if lastI M = 1099511627776 then 2 else 0
def putX (M : Lg) (t op id : Int) : En := if putE M t = 0 then ⟨lastI M + 1, t, op, id⟩ else ⟨0, 0, 0, 0⟩
def putM (M : Lg) (t op id : Int) : Lg := if putE M t = 0 then ⟨M.bi, M.bt, M.L ++ [⟨lastI M + 1, t, op, id⟩]⟩ else M
def compE (M : Lg) (i : Int) : Int := if lastI M < i then 3 else 0
def compM (M : Lg) (i : Int) : Lg := if lastI M < i ∨ i ≤ M.bi then M else ⟨i, termT M i, M.L.drop (i - M.bi).toNat⟩
/- the first entry that is new, with those behind it -/
def freshD (M : Lg) : List En → List En
  | [] => []
  | x :: D => if hasB M x.ix x.tm then freshD M D else x :: D
def accB (M : Lg) (i t : Int) (D : List En) : Bool := hasB M i t && mayB i t D
def accX (M : Lg) (i t : Int) (D : List En) : Int := if accB M i t D = true then (match freshD M D with | [] => 0 | x :: _ => x.ix) else 0
def replM (M : Lg) : List En → Lg
  | [] => M
  | x :: D => ⟨M.bi, M.bt, M.L.take (x.ix - M.bi - 1).toNat ++ x :: D⟩
def accM (M : Lg) (i t : Int) (D : List En) : Lg := if accB M i t D = true then replM M (freshD M D) else M

theorem hasB_iff {M : Lg} {i t : Int} : hasB M i t = true ↔ (M.bi ≤ i ∧ i ≤ lastI M) ∧ termT M i = t := by
  unfold hasB
  rw [Bool.and_eq_true, decide_eq_true_iff, decide_eq_true_iff]
  unfold termE
  constructor
  · rintro ⟨h1, h2⟩
    split at h1
    · omega
    · split at h1
      · omega
      · exact ⟨by omega, h2⟩
  · rintro ⟨⟨h1, h2⟩, h3⟩
    rw [if_neg (by omega), if_neg (by omega)]
    exact ⟨rfl, h3⟩
theorem termT_at {M : Lg} {j : Nat} {e : En} (hj : M.L[j]? = some e) : termT M (M.bi + 1 + j) = e.tm := by
  have hl := (List.getElem?_eq_some_iff.1 hj).1
  unfold termT lastI
  rw [if_neg (by omega), if_neg (by omega), if_neg (by omega)]
  rw [show (M.bi + 1 + j - M.bi - 1).toNat = j by omega]
  simp [List.getD, hj]
theorem endT_take {M : Lg} {i : Int} (h : M.bi ≤ i) (h2 : i ≤ lastI M) : endT M.bt (M.L.take (i - M.bi).toNat) = termT M i := by
  unfold lastI at h2
  by_cases e : i = M.bi
  · subst e
    unfold termT lastI
    rw [if_neg (by omega), if_neg (by omega), if_pos rfl]
    rw [show (M.bi - M.bi).toNat = 0 by omega]
    rfl
  · obtain ⟨j, hj⟩ : ∃ j : Nat, i = M.bi + 1 + j := ⟨(i - M.bi - 1).toNat, by omega⟩
    subst hj
    obtain ⟨x, hx⟩ : ∃ x, M.L[j]? = some x := ⟨_, List.getElem?_eq_getElem (by omega)⟩
    rw [termT_at hx, show (M.bi + 1 + j - M.bi).toNat = j + 1 by omega]
    obtain ⟨hl, rfl⟩ := List.getElem?_eq_some_iff.1 hx
    rw [List.take_succ_eq_append_getElem hl, endT_snoc]
theorem Wf.term {M : Lg} (h : Wf M) (i : Int) : 0 ≤ termT M i ∧ termT M i ≤ 1099511627776 := by
  have h0 := h.t0
  have h1 := h.t1
  unfold termT
  split
  · omega
  split
  · omega
  split
  · omega
  · rename_i g1 g2 g3
    unfold lastI at g2
    obtain ⟨x, hx⟩ : ∃ x, M.L[(i - M.bi - 1).toNat]? = some x := ⟨_, List.getElem?_eq_getElem (by omega)⟩
    have := h.at hx
    rw [List.getD, hx]
    simp only [Option.getD_some]
    omega
/- what stands behind an entry follows it -/
theorem mayB_split {M : Lg} (h : Wf M) {i : Int} (h1 : M.bi ≤ i) (h2 : i ≤ lastI M) : mayB M.bi M.bt (M.L.take (i - M.bi).toNat) = true ∧ mayB i (termT M i) (M.L.drop (i - M.bi).toNat) = true := by
  have hm := h.may
  rw [← List.take_append_drop (i - M.bi).toNat M.L, mayB_app, Bool.and_eq_true] at hm
  rw [endT_take h1 h2] at hm
  have hl : ((M.L.take (i - M.bi).toNat).length : Int) = i - M.bi := by
    rw [List.length_take]; unfold lastI at h2; omega
  rw [hl, show M.bi + (i - M.bi) = i by omega] at hm
  exact hm
theorem Wf.comp {M : Lg} (h : Wf M) (i : Int) : Wf (compM M i) := by
  unfold compM
  split
  · exact h
  · rename_i hc
    have h1 : M.bi ≤ i := by omega
    have h2 : i ≤ lastI M := by omega
    have ht := h.term i
    have hb := h.b0
    have hl := h.lastI_le
    exact ⟨by show 0 ≤ i; omega, by show i ≤ _; omega, ht.1, ht.2, (mayB_split h h1 h2).2⟩
theorem Wf.put {M : Lg} (h : Wf M) (t op id : Int) : Wf (putM M t op id) := by
  unfold putM
  split
  · rename_i he
    unfold putE at he
    split at he
    · omega
    · rename_i h1
      split at he
      · omega
      · rename_i h2
        have hl := h.lastI_le
        refine ⟨h.b0, h.b1, h.t0, h.t1, ?_⟩
        show mayB M.bi M.bt (M.L ++ [_]) = true
        rw [mayB_app, h.may, Bool.true_and]
        refine mayB_cons.2 ⟨rfl, ?_, ?_, ?_, rfl⟩
        · show lastI M + 1 ≤ _; omega
        · show lastT M ≤ t; omega
        · show t ≤ _; omega
  · exact h
/- behind an entry that the log has -/
theorem freshD_suffix {M : Lg} : ∀ {D : List En} {i t : Int}, M.bi ≤ i → i ≤ lastI M → termT M i = t → mayB i t D = true → freshD M D = [] ∨ ∃ k x E, freshD M D = x :: E ∧ D.drop k = x :: E ∧ k < D.length ∧ (∀ j y, j < k → D[j]? = some y → hasB M y.ix y.tm = true) ∧ hasB M x.ix x.tm = false ∧ M.bi + 1 ≤ x.ix ∧ x.ix ≤ lastI M + 1 ∧ mayB (x.ix - 1) (termT M (x.ix - 1)) (x :: E) = true := by
  intro D
  induction D with
  | nil => intro i t _ _ _ _; exact .inl rfl
  | cons x D ih =>
    intro i t h1 h2 h3 h4
    obtain ⟨k1, k2, k3, k4, k5⟩ := mayB_cons.1 h4
    unfold freshD
    cases hh : hasB M x.ix x.tm with
    | true =>
      obtain ⟨⟨g1, g2⟩, g3⟩ := hasB_iff.1 hh
      rw [if_pos rfl]
      rcases ih g1 g2 g3 k5 with e | ⟨k, y, E, e1, e2, e3, e4, e5⟩
      · exact .inl e
      · refine .inr ⟨k + 1, y, E, e1, by simpa using e2, by simp; omega, fun j z hj hz => ?_, e5⟩
        cases j with
        | zero => simp at hz; subst hz; exact hh
        | succ j => exact e4 j z (by omega) (by simpa using hz)
    | false =>
      rw [if_neg (by simp)]
      refine .inr ⟨0, x, D, rfl, rfl, by simp, fun j z hj => by omega, hh, by omega, by omega, ?_⟩
      rw [show x.ix - 1 = i by omega, h3]
      exact h4
theorem Wf.repl {M : Lg} (h : Wf M) {x : En} {E : List En} (h1 : M.bi + 1 ≤ x.ix) (h2 : x.ix ≤ lastI M + 1) (h3 : mayB (x.ix - 1) (termT M (x.ix - 1)) (x :: E) = true) : Wf (replM M (x :: E)) := by
  refine ⟨h.b0, h.b1, h.t0, h.t1, ?_⟩
  show mayB M.bi M.bt (M.L.take (x.ix - M.bi - 1).toNat ++ x :: E) = true
  have e : (x.ix - M.bi - 1).toNat = (x.ix - 1 - M.bi).toNat := by congr 1; omega
  rw [e, mayB_app, (mayB_split h (i := x.ix - 1) (by omega) (by omega)).1, Bool.true_and, endT_take (by omega) (by omega)]
  have hl : ((M.L.take (x.ix - 1 - M.bi).toNat).length : Int) = x.ix - 1 - M.bi := by
    rw [List.length_take]; unfold lastI at h2; omega
  rw [hl, show M.bi + (x.ix - 1 - M.bi) = x.ix - 1 by omega]
  exact h3
theorem Wf.acc {M : Lg} (h : Wf M) (i t : Int) (D : List En) : Wf (accM M i t D) := by
  unfold accM
  split
  · rename_i ha
    unfold accB at ha
    rw [Bool.and_eq_true] at ha
    obtain ⟨⟨g1, g2⟩, g3⟩ := hasB_iff.1 ha.1
    rcases freshD_suffix g1 g2 g3 ha.2 with e | ⟨k, x, E, e1, _, _, _, _, e6, e7, e8⟩
    · rw [e]; exact h
    · rw [e1]; exact h.repl e6 e7 e8
  · exact h
end Go.Proofs.Ytdkmlgkljhhokaa
