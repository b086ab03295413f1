/- Heaps as lists of items: what taking one up, and taking one down, leaves; the least one stands first. -/
import Derived.Test.YtndomlbjdppckaaBless
namespace Go.Proofs.Ytndomlbjdppckaa
open Go.RowKit

def gt (L : List It) (i : Nat) : It := L.getD i default
def le (a b : It) : Prop := klt a.x b.x = true ∨ (a.x.pr = b.x.pr ∧ a.x.ix = b.x.ix ∧ a.x.jb = b.x.jb ∧ a.c ≤ b.c)
theorem klt_iff (a b : Itm) : klt a b = true ↔ (b.pr < a.pr ∨ (a.pr = b.pr ∧ (a.ix < b.ix ∨ (a.ix = b.ix ∧ a.jb < b.jb)))) := by
  unfold klt
  by_cases h1 : a.pr = b.pr
  · by_cases h2 : a.ix = b.ix
    · simp [h1, h2]
    · simp [h1, h2]
  · simp [h1]
theorem klt_false (a b : Itm) : klt a b = false ↔ ¬ (b.pr < a.pr ∨ (a.pr = b.pr ∧ (a.ix < b.ix ∨ (a.ix = b.ix ∧ a.jb < b.jb)))) := by
  rw [← klt_iff]; simp
theorem le_of_not {a b : It} (h : bef b a = false) : le a b := by
  simp only [bef, Bool.or_eq_false_iff, Bool.and_eq_false_iff, decide_eq_false_iff_not, Bool.not_eq_false', klt_iff, klt_false] at h
  unfold le; rw [klt_iff]; omega
theorem le_of_bef {a b : It} (h : bef a b = true) : le a b := by
  simp only [bef, Bool.or_eq_true, Bool.and_eq_true, decide_eq_true_eq, Bool.not_eq_true', klt_iff, klt_false] at h
  unfold le; rw [klt_iff]; omega
theorem le.refl (a : It) : le a a := .inr ⟨rfl, rfl, rfl, Int.le_refl _⟩
theorem le.trans {a b c : It} (h : le a b) (k : le b c) : le a c := by unfold le at *; rw [klt_iff] at *; omega

theorem gt_eq {L : List It} {i : Nat} (h : i < L.length) : gt L i = L[i] := by simp [gt, List.getD, h]
theorem gt_mem {L : List It} {i : Nat} (h : i < L.length) : gt L i ∈ L := by rw [gt_eq h]; exact List.getElem_mem h
theorem mem_gt {L : List It} {y : It} (h : y ∈ L) : ∃ i, i < L.length ∧ gt L i = y := by
  obtain ⟨i, hi, e⟩ := List.getElem_of_mem h
  exact ⟨i, hi, (gt_eq hi).trans e⟩

def sw (L : List It) (i j : Nat) : List It := (L.set i (gt L j)).set j (gt L i)
theorem sw_length (L : List It) (i j : Nat) : (sw L i j).length = L.length := by simp [sw]
theorem gt_set (L : List It) (i x : Nat) (v : It) (hi : i < L.length) : gt (L.set i v) x = if x = i then v else gt L x := by
  by_cases h : x = i
  · subst h; simp [gt, List.getD, hi]
  · simp [gt, List.getD, h, Ne.symm h]
theorem gt_sw (L : List It) (i j x : Nat) (hi : i < L.length) (hj : j < L.length) : gt (sw L i j) x = if x = j then gt L i else if x = i then gt L j else gt L x := by
  unfold sw
  rw [gt_set _ _ _ _ (by simpa using hj), gt_set _ _ _ _ hi]
theorem sw_perm (L : List It) (i j : Nat) (hi : i < L.length) (hj : j < L.length) : (sw L i j).Perm L := by
  have h := Array.swap_perm (xs := L.toArray) (i := i) (j := j) (by simpa using hi) (by simpa using hj)
  have e : (L.toArray.swap i j (by simpa using hi) (by simpa using hj)) = (sw L i j).toArray := by
    simp [sw, gt_eq hi, gt_eq hj]
  rw [e] at h
  simpa using h.toList

def HeapFrom (lo : Nat) (L : List It) : Prop := ∀ i j, lo ≤ i → j < L.length → (j = 2 * i + 1 ∨ j = 2 * i + 2) → le (gt L i) (gt L j)
theorem HeapFrom.root {L : List It} (h : HeapFrom 0 L) : ∀ j, j < L.length → le (gt L 0) (gt L j) := by
  intro j
  induction j using Nat.strongRecOn with
  | ind j ih =>
    intro hj
    by_cases h0 : j = 0
    · subst h0; exact le.refl _
    · exact (ih ((j - 1) / 2) (by omega) (by omega)).trans (h ((j - 1) / 2) j (by omega) hj (by omega))
theorem HeapFrom.half (L : List It) : HeapFrom (L.length / 2) L := by
  intro i j hi hj h
  omega

/- one that is taken up stands at p -/
structure RInv (L0 L : List It) (p : Nat) : Prop where
  perm : L.Perm L0
  lt : p < L.length
  ok : ∀ i j, j < L.length → (j = 2 * i + 1 ∨ j = 2 * i + 2) → j ≠ p → le (gt L i) (gt L j)
  over : ∀ i j, (p = 2 * i + 1 ∨ p = 2 * i + 2) → j < L.length → (j = 2 * p + 1 ∨ j = 2 * p + 2) → le (gt L i) (gt L j)
theorem RInv.start {L : List It} (x : It) (h : HeapFrom 0 L) : RInv (L ++ [x]) (L ++ [x]) L.length := by
  have e : ∀ i, i < L.length → gt (L ++ [x]) i = gt L i := fun i hi => by rw [gt_eq (by simp; omega), gt_eq hi, List.getElem_append_left hi]
  refine ⟨.refl _, by simp, fun i j hj hij hne => ?_, fun i j hp hj hij => ?_⟩
  · simp at hj
    rw [e i (by omega), e j (by omega)]
    exact h i j (by omega) (by omega) hij
  · simp at hj; omega
theorem RInv.stop {L0 L : List It} {p : Nat} (h : RInv L0 L p) (hb : p = 0 ∨ bef (gt L p) (gt L ((p - 1) / 2)) = false) : HeapFrom 0 L := by
  intro i j _ hj hij
  by_cases hp : j = p
  · subst hp
    rcases hb with rfl | hb
    · omega
    · have : (j - 1) / 2 = i := by omega
      rw [this] at hb
      exact le_of_not hb
  · exact h.ok i j hj hij hp
theorem RInv.step {L0 L : List It} {p q : Nat} (h : RInv L0 L p) (hp : 0 < p) (hq : q = (p - 1) / 2) (hb : bef (gt L p) (gt L q) = true) : RInv L0 (sw L p q) q := by
  have hlt := h.lt
  have hql : q < L.length := by omega
  have hpq : p = 2 * q + 1 ∨ p = 2 * q + 2 := by omega
  have hle := le_of_bef hb
  refine ⟨(sw_perm L p q hlt hql).trans h.perm, by rw [sw_length]; exact hql, fun i j hj hij hne => ?_, fun i j hi hj hij => ?_⟩
  · rw [sw_length] at hj
    rw [gt_sw _ _ _ _ hlt hql, gt_sw _ _ _ _ hlt hql, if_neg hne]
    by_cases hjp : j = p
    · subst hjp
      have : i = q := by omega
      subst this
      simp only [if_true]
      exact hle
    · rw [if_neg hjp]
      by_cases hiq : i = q
      · subst hiq
        rw [if_pos rfl]
        exact hle.trans (h.ok _ j hj hij hjp)
      · rw [if_neg hiq]
        by_cases hip : i = p
        · subst hip
          rw [if_pos rfl]
          exact h.over q j hpq hj hij
        · rw [if_neg hip]
          exact h.ok i j hj hij hjp
  · rw [sw_length] at hj
    have hiq : i ≠ q := by omega
    have hip : i ≠ p := by omega
    have hjq : j ≠ q := by omega
    rw [gt_sw _ _ _ _ hlt hql, gt_sw _ _ _ _ hlt hql, if_neg hiq, if_neg hip, if_neg hjq]
    have hiq2 := h.ok i q hql hi (by omega)
    by_cases hjp : j = p
    · subst hjp
      rw [if_pos rfl]
      exact hiq2
    · rw [if_neg hjp]
      exact hiq2.trans (h.ok q j hj hij hjp)

/- one that is taken down stands at p, below lo nothing is asked -/
structure SInv (lo : Nat) (L0 L : List It) (p : Nat) : Prop where
  perm : L.Perm L0
  ge : lo ≤ p
  ok : ∀ i j, lo ≤ i → j < L.length → (j = 2 * i + 1 ∨ j = 2 * i + 2) → i ≠ p → le (gt L i) (gt L j)
  over : ∀ i j, lo ≤ i → (p = 2 * i + 1 ∨ p = 2 * i + 2) → j < L.length → (j = 2 * p + 1 ∨ j = 2 * p + 2) → le (gt L i) (gt L j)
theorem SInv.start {L : List It} {lo : Nat} (h : HeapFrom (lo + 1) L) : SInv lo L L lo :=
  ⟨.refl _, Nat.le_refl _, fun i j hi hj hij hne => h i j (by omega) hj hij, fun i j hi hp => by omega⟩
/- which one stands first among p and those under it, below u -/
structure FInv (L : List It) (p u f : Nat) : Prop where
  from_ : f = p ∨ (2 * p + 1 ≤ f ∧ f < u ∧ f < L.length ∧ le (gt L f) (gt L p))
  least : ∀ j, 2 * p + 1 ≤ j → j < u → j < L.length → le (gt L f) (gt L j)
theorem FInv.start (L : List It) (p : Nat) : FInv L p (2 * p + 1) p := ⟨.inl rfl, fun j h1 h2 => by omega⟩
theorem FInv.keep {L : List It} {p u f : Nat} (h : FInv L p u f) (hb : bef (gt L u) (gt L f) = false) : FInv L p (u + 1) f := by
  refine ⟨?_, fun j h1 h2 h3 => ?_⟩
  · rcases h.from_ with e | ⟨a, b, c, d⟩
    · exact .inl e
    · exact .inr ⟨a, by omega, c, d⟩
  · by_cases hj : j = u
    · subst hj; exact le_of_not hb
    · exact h.least j h1 (by omega) h3
theorem FInv.turn {L : List It} {p u f : Nat} (h : FInv L p u f) (hu : 2 * p + 1 ≤ u) (hl : u < L.length) (hb : bef (gt L u) (gt L f) = true) : FInv L p (u + 1) u := by
  have hle := le_of_bef hb
  refine ⟨.inr ⟨hu, by omega, hl, ?_⟩, fun j h1 h2 h3 => ?_⟩
  · rcases h.from_ with e | ⟨a, b, c, d⟩
    · exact e ▸ hle
    · exact hle.trans d
  · by_cases hj : j = u
    · subst hj; exact le.refl _
    · exact hle.trans (h.least j h1 (by omega) h3)
theorem SInv.stop {lo : Nat} {L0 L : List It} {p u : Nat} (h : SInv lo L0 L p) (hf : FInv L p u p) (hu : 2 * p + 2 < u ∨ L.length ≤ u) : HeapFrom lo L := by
  intro i j hi hj hij
  by_cases hp : i = p
  · subst hp
    exact hf.least j (by omega) (by omega) hj
  · exact h.ok i j hi hj hij hp
theorem SInv.step {lo : Nat} {L0 L : List It} {p u f : Nat} (h : SInv lo L0 L p) (hf : FInv L p u f) (hne : f ≠ p) (hu2 : u ≤ 2 * p + 3) (hu : 2 * p + 2 < u ∨ L.length ≤ u) : SInv lo L0 (sw L p f) f := by
  have hge := h.ge
  rcases hf.from_ with e | ⟨h1, h2, h3, h4⟩
  · exact absurd e hne
  have hpl : p < L.length := by omega
  refine ⟨(sw_perm L p f hpl h3).trans h.perm, by omega, fun i j hi hj hij hnf => ?_, fun i j hi hfi hj hij => ?_⟩
  · rw [sw_length] at hj
    rw [gt_sw _ _ _ _ hpl h3, gt_sw _ _ _ _ hpl h3, if_neg hnf]
    by_cases hip : i = p
    · subst hip
      rw [if_pos rfl]
      by_cases hjf : j = f
      · rw [if_pos hjf]; exact h4
      · rw [if_neg hjf, if_neg (by omega)]
        exact hf.least j (by omega) (by omega) hj
    · rw [if_neg hip]
      have hjf : j ≠ f := by omega
      rw [if_neg hjf]
      by_cases hjp : j = p
      · rw [if_pos hjp]
        subst hjp
        exact h.over i f hi hij h3 (by omega)
      · rw [if_neg hjp]
        exact h.ok i j hi hj hij hip
  · rw [sw_length] at hj
    have : i = p := by omega
    subst this
    rw [gt_sw _ _ _ _ hpl h3, gt_sw _ _ _ _ hpl h3, if_neg (by omega), if_pos rfl, if_neg (by omega), if_neg (by omega)]
    exact h.ok f j (by omega) hj hij hne

/- the first one goes, the last one stands in its place -/
def cutL (L : List It) : List It := (L.set 0 (gt L (L.length - 1))).take (L.length - 1)
theorem cutL_length (L : List It) : (cutL L).length = L.length - 1 := by simp [cutL]
theorem cutL_perm {L : List It} (h : L ≠ []) : (gt L 0 :: cutL L).Perm L := by
  cases L with
  | nil => exact absurd rfl h
  | cons x T =>
    rcases List.eq_nil_or_concat T with rfl | ⟨T', y, rfl⟩
    · simp [cutL, gt]
    · have e : cutL (x :: (T' ++ [y])) = y :: T' := by
        simp [cutL, gt, List.getD]
      simp only [List.concat_eq_append] at *
      rw [e]
      exact .cons _ (List.perm_append_singleton y T').symm
theorem cutL_heap {L : List It} (h : HeapFrom 0 L) : HeapFrom 1 (cutL L) := by
  intro i j hi hj hij
  rw [cutL_length] at hj
  have e : ∀ x, 1 ≤ x → x < L.length - 1 → gt (cutL L) x = gt L x := fun x h1 h2 => by
    rw [gt_eq (by rw [cutL_length]; exact h2), gt_eq (by omega)]
    simp only [cutL, List.getElem_take]
    rw [List.getElem_set_ne (by omega)]
  rw [e i hi (by omega), e j (by omega) hj]
  exact h i j (by omega) (by omega) hij

/- the items in the order in which they came -/
def Came (M : List It) : Prop := M.Pairwise fun a b => a.c < b.c
def MinOf (M : List It) (m : It) : Prop := m ∈ M ∧ ∀ y ∈ M, le m y
theorem Came.inj {M : List It} (h : Came M) {a b : It} (ha : a ∈ M) (hb : b ∈ M) (e : a.c = b.c) : a = b := by
  induction M with
  | nil => cases ha
  | cons x T ih =>
    have hx := List.pairwise_cons.1 h
    rcases List.mem_cons.1 ha with e1 | ha'
    · rcases List.mem_cons.1 hb with e2 | hb'
      · rw [e1, e2]
      · have := hx.1 b hb'; rw [e1] at e; omega
    · rcases List.mem_cons.1 hb with e2 | hb'
      · have := hx.1 a ha'; rw [e2] at e; omega
      · exact ih hx.2 ha' hb'
theorem MinOf.unique {M : List It} (h : Came M) {m m' : It} (a : MinOf M m) (b : MinOf M m') : m = m' := by
  have h1 := a.2 m' b.1
  have h2 := b.2 m a.1
  refine h.inj a.1 b.1 ?_
  unfold le at h1 h2
  rw [klt_iff] at h1 h2
  omega
theorem HeapFrom.minOf {L M : List It} (h : HeapFrom 0 L) (hp : L.Perm M) (hne : L ≠ []) : MinOf M (gt L 0) := by
  have hl : 0 < L.length := List.length_pos_iff.2 hne
  refine ⟨hp.mem_iff.1 (gt_mem hl), fun y hy => ?_⟩
  obtain ⟨i, hi, rfl⟩ := mem_gt (hp.mem_iff.2 hy)
  exact h.root i hi
theorem Came.erase {M : List It} (h : Came M) (m : It) : Came (M.erase m) := List.Pairwise.sublist List.erase_sublist h
theorem Came.filter {M : List It} (h : Came M) (p : It → Bool) : Came (M.filter p) := List.Pairwise.sublist List.filter_sublist h
theorem cutL_erase {L M : List It} (hne : L ≠ []) (hp : L.Perm M) : (cutL L).Perm (M.erase (gt L 0)) := by
  have h := (((cutL_perm hne).trans hp)).erase (gt L 0)
  rwa [List.erase_cons_head] at h

end Go.Proofs.Ytndomlbjdppckaa
