/- Lists of servers, majorities, and how far they have come: the reckoning. -/
namespace Go.Proofs.Yteaohmlbioooaaa

def nth (l : List Int) (j : Nat) : Int := l.getD j 0
def srt (l : List Int) : List Int := l.mergeSort fun x y => decide (x ≤ y)
def risF (a : Int) : List Int → Bool
  | [] => true
  | x :: r => decide (a < x ∧ x ≤ 5) && risF x r
def isOne (V L : List Int) (k : Nat) : Bool := V.contains ((k : Int) + 1) && L.contains ((k : Int) + 1)
def mayB (V L : List Int) : Bool := !V.isEmpty && (risF 0 V && (risF 0 L && !(List.range 5).any (isOne V L)))
def majB (V Y : List Int) : Bool := decide (V.length < 2 * V.countP (fun v => Y.contains v))
def rea (M : List Int) (s : Int) : Int := if s < 1 ∨ (M.length : Int) < s then 0 else max (nth M (s - 1).toNat) 0
def agr (V M : List Int) : Int := if V = [] then 0 else nth (srt (V.map (rea M))) ((V.length - 1) / 2)
def dif (V V' : List Int) : Nat → Nat
  | 0 => 0
  | k + 1 => dif V V' k + if V.contains ((k : Int) + 1) = V'.contains ((k : Int) + 1) then 0 else 1
def sglB (V L V' L' : List Int) : Bool := mayB V L && (mayB V' L' && decide (dif V V' 5 ≤ 1))
def wth (l : List Int) (s : Int) : List Int := srt (l ++ [s])
def wto (l : List Int) (s : Int) : List Int := l.filter (fun x => !(x == s))

theorem nth_get {l : List Int} {j : Nat} (h : j < l.length) : nth l j = l[j] := by simp [nth, h]
theorem drop_nth {l : List Int} {k : Nat} (h : k < l.length) : l.drop k = nth l k :: l.drop (k + 1) := by rw [nth_get h]; exact List.drop_eq_getElem_cons h
theorem take_nth {l : List Int} {k : Nat} (h : k < l.length) : l.take (k + 1) = l.take k ++ [nth l k] := by rw [nth_get h]; exact List.take_succ_eq_append_getElem h
theorem nth_mem {l : List Int} {k : Nat} (h : k < l.length) : nth l k ∈ l := by rw [nth_get h]; exact List.getElem_mem h

theorem srt_perm (l : List Int) : (srt l).Perm l := List.mergeSort_perm _ _
theorem srt_sorted (l : List Int) : (srt l).Pairwise (· ≤ ·) := by
  have h := List.pairwise_mergeSort (le := fun x y : Int => decide (x ≤ y)) (fun a b c h1 h2 => by simp only [decide_eq_true_eq] at *; omega) (fun a b => by simp only [Bool.or_eq_true, decide_eq_true_eq]; omega) l
  exact h.imp fun {a b} h => by simpa using h
theorem srt_length (l : List Int) : (srt l).length = l.length := (srt_perm l).length_eq
theorem srt_mem (l : List Int) (x : Int) : x ∈ srt l ↔ x ∈ l := (srt_perm l).mem_iff
theorem srt_contains (l : List Int) (x : Int) : (srt l).contains x = l.contains x := by
  rw [Bool.eq_iff_iff, List.contains_iff_mem, List.contains_iff_mem, srt_mem]

/- rising lists that hold the same are the same -/
theorem nodup_of_lt {l : List Int} (h : l.Pairwise (· < ·)) : l.Nodup := h.imp fun {a b} h e => by omega
theorem ext_lt {l k : List Int} (hl : l.Pairwise (· < ·)) (hk : k.Pairwise (· < ·)) (h : ∀ x, x ∈ l ↔ x ∈ k) : l = k := by
  refine List.Perm.eq_of_pairwise (le := fun a b : Int => a < b) (fun a b _ _ h1 h2 => by omega) hl hk ?_
  exact (List.perm_ext_iff_of_nodup (nodup_of_lt hl) (nodup_of_lt hk)).2 h
theorem lt_of_sorted {l : List Int} (h : l.Pairwise (· ≤ ·)) (hn : l.Nodup) : l.Pairwise (· < ·) := by
  have := h.and hn
  exact this.imp fun {a b} h => by have := h.2; have := h.1; omega
theorem srt_lt {l : List Int} (hn : l.Nodup) : (srt l).Pairwise (· < ·) := lt_of_sorted (srt_sorted l) ((srt_perm l).nodup_iff.2 hn)

def Rise (l : List Int) : Prop := l.Pairwise (· < ·) ∧ ∀ x ∈ l, 1 ≤ x ∧ x ≤ 5
theorem risF_iff (l : List Int) : ∀ a, risF a l = true ↔ l.Pairwise (· < ·) ∧ ∀ x ∈ l, a < x ∧ x ≤ 5 := by
  induction l with
  | nil => intro a; simp [risF]
  | cons x r ih =>
    intro a
    simp only [risF, Bool.and_eq_true, decide_eq_true_eq, ih, List.pairwise_cons, List.mem_cons]
    constructor
    · rintro ⟨⟨h1, h2⟩, h3, h4⟩
      refine ⟨⟨fun y hy => (h4 y hy).1, h3⟩, fun y hy => ?_⟩
      rcases hy with rfl | hy
      · exact ⟨h1, h2⟩
      · have := h4 y hy; omega
    · rintro ⟨⟨h1, h2⟩, h3⟩
      exact ⟨h3 x (Or.inl rfl), h2, fun y hy => ⟨h1 y hy, (h3 y (Or.inr hy)).2⟩⟩
theorem rise_iff (l : List Int) : risF 0 l = true ↔ Rise l := by
  rw [risF_iff]
  constructor
  · rintro ⟨h1, h2⟩; exact ⟨h1, fun x hx => by have := h2 x hx; omega⟩
  · rintro ⟨h1, h2⟩; exact ⟨h1, fun x hx => by have := h2 x hx; omega⟩
def MayP (V L : List Int) : Prop := V ≠ [] ∧ Rise V ∧ Rise L ∧ ∀ x, x ∈ V → x ∈ L → False
theorem may_iff (V L : List Int) : mayB V L = true ↔ MayP V L := by
  simp only [mayB, Bool.and_eq_true, rise_iff, MayP, Bool.not_eq_true', List.isEmpty_eq_false_iff, List.any_eq_false, List.mem_range, isOne, List.contains_iff_mem]
  constructor
  · rintro ⟨h1, h2, h3, h4⟩
    refine ⟨h1, h2, h3, fun x hv hl => ?_⟩
    have hx := h2.2 x hv
    have := h4 (x - 1).toNat (by omega)
    rw [show (((x - 1).toNat : Nat) : Int) + 1 = x by omega] at this
    exact this ⟨hv, hl⟩
  · rintro ⟨h1, h2, h3, h4⟩
    exact ⟨h1, h2, h3, fun k _ h => h4 _ h.1 h.2⟩
theorem Rise.filter {l : List Int} (h : Rise l) (p : Int → Bool) : Rise (l.filter p) := ⟨h.1.filter p, fun x hx => h.2 x (List.mem_filter.1 hx).1⟩
theorem wth_mem (l : List Int) (s x : Int) : x ∈ wth l s ↔ x ∈ l ∨ x = s := by unfold wth; rw [srt_mem]; simp
theorem wto_mem (l : List Int) (s x : Int) : x ∈ wto l s ↔ x ∈ l ∧ x ≠ s := by unfold wto; simp [List.mem_filter]
theorem Rise.wth {l : List Int} (h : Rise l) {s : Int} (h1 : 1 ≤ s) (h5 : s ≤ 5) (hs : s ∉ l) : Rise (wth l s) := by
  refine ⟨srt_lt ?_, fun x hx => ?_⟩
  · rw [List.nodup_append]
    refine ⟨nodup_of_lt h.1, by simp, fun a ha b hb => ?_⟩
    rw [List.mem_singleton.1 hb]
    intro e; rw [e] at ha; exact hs ha
  · rcases (wth_mem l s x).1 hx with h' | rfl
    · exact h.2 x h'
    · exact ⟨h1, h5⟩
theorem Rise.wto {l : List Int} (h : Rise l) (s : Int) : Rise (wto l s) := h.filter _
theorem Rise.ext {l k : List Int} (hl : Rise l) (hk : Rise k) (h : ∀ x, x ∈ l ↔ x ∈ k) : l = k := ext_lt hl.1 hk.1 h
theorem wto_same {l : List Int} {s : Int} (h : s ∉ l) : wto l s = l := by
  unfold wto
  rw [List.filter_eq_self]
  intro x hx
  simp only [Bool.not_eq_true', beq_eq_false_iff_ne]
  intro e; rw [e] at hx; exact h hx
theorem wto_wth {l : List Int} (h : Rise l) {s : Int} (h1 : 1 ≤ s) (h5 : s ≤ 5) (hs : s ∉ l) : wto (wth l s) s = l := by
  refine ((h.wth h1 h5 hs).wto s).ext h fun x => ?_
  rw [wto_mem, wth_mem]
  constructor
  · rintro ⟨h1 | h1, h2⟩
    · exact h1
    · exact absurd h1 h2
  · intro hx; exact ⟨Or.inl hx, fun e => hs (e ▸ hx)⟩
theorem contains_eq {l : List Int} {x : Int} : l.contains x = true ↔ x ∈ l := List.contains_iff_mem
theorem contains_no {l : List Int} {x : Int} : l.contains x = false ↔ x ∉ l := by rw [← Bool.not_eq_true, List.contains_iff_mem]

/- how many differ -/
theorem dif_one {V V' : List Int} (s : Int) (h : ∀ x, x ≠ s → (x ∈ V ↔ x ∈ V')) : ∀ k : Nat, dif V V' k ≤ if 1 ≤ s ∧ s ≤ k then 1 else 0 := by
  intro k
  induction k with
  | zero => simp [dif]
  | succ k ih =>
    simp only [dif]
    by_cases e : ((k : Int) + 1) = s
    · have h1 : ¬ (1 ≤ s ∧ s ≤ (k : Int)) := by omega
      rw [if_neg h1] at ih
      have h4 : 1 ≤ s ∧ s ≤ ((k + 1 : Nat) : Int) := by omega
      rw [if_pos h4]
      split <;> omega
    · have h2 : V.contains ((k : Int) + 1) = V'.contains ((k : Int) + 1) := by
        rw [Bool.eq_iff_iff, contains_eq, contains_eq]; exact h _ e
      rw [if_pos h2]
      by_cases h3 : 1 ≤ s ∧ s ≤ (k : Int)
      · rw [if_pos h3] at ih
        have h4 : 1 ≤ s ∧ s ≤ ((k + 1 : Nat) : Int) := by omega
        rw [if_pos h4]; omega
      · rw [if_neg h3] at ih
        have h4 : ¬ (1 ≤ s ∧ s ≤ ((k + 1 : Nat) : Int)) := by omega
        rw [if_neg h4]; omega
theorem dif_le {V V' : List Int} (s : Int) (h : ∀ x, x ≠ s → (x ∈ V ↔ x ∈ V')) (k : Nat) : dif V V' k ≤ 1 := by
  have := dif_one s h k
  split at this <;> omega
theorem dif_symm (V V' : List Int) (k : Nat) : dif V V' k = dif V' V k := by
  induction k with
  | zero => rfl
  | succ k ih =>
    simp only [dif, ih]
    by_cases e : V.contains ((k : Int) + 1) = V'.contains ((k : Int) + 1)
    · rw [if_pos e, if_pos e.symm]
    · rw [if_neg e, if_neg (fun e2 => e e2.symm)]
theorem sgl_symm (V L V' L' : List Int) : sglB V L V' L' = sglB V' L' V L := by
  unfold sglB
  rw [dif_symm]
  cases mayB V L <;> cases mayB V' L' <;> rfl

/- majorities -/
theorem maj_mono {V Y Z : List Int} (h : ∀ x, x ∈ Y → x ∈ Z) (hm : majB V Y = true) : majB V Z = true := by
  unfold majB at *
  simp only [decide_eq_true_eq] at *
  have := List.countP_mono_left (l := V) (p := fun v => Y.contains v) (q := fun v => Z.contains v) (fun x _ hx => contains_eq.2 (h x (contains_eq.1 hx)))
  omega
theorem maj_ext {V Y Z : List Int} (h : ∀ x, x ∈ Y ↔ x ∈ Z) : majB V Y = majB V Z := by
  rw [Bool.eq_iff_iff]
  exact ⟨maj_mono fun x => (h x).1, maj_mono fun x => (h x).2⟩

/- how far a majority has come -/
theorem rea_pos (M : List Int) (s : Int) : 0 ≤ rea M s := by unfold rea; split <;> omega
def cut (V M : List Int) (t : Int) : Nat := V.countP (fun v => decide (t ≤ rea M v))
structure IsAg (V M : List Int) (m : Int) : Prop where
  pos : 0 ≤ m
  has : m = 0 ∨ V.length < 2 * cut V M m
  most : ∀ t, m < t → ¬ V.length < 2 * cut V M t
theorem IsAg.uniq {V M : List Int} {m m' : Int} (h : IsAg V M m) (h' : IsAg V M m') : m = m' := by
  rcases Int.lt_trichotomy m m' with e | e | e
  · have := h.most m' e
    rcases h'.has with z | z
    · have := h.pos; omega
    · exact absurd z this
  · exact e
  · have := h'.most m e
    rcases h.has with z | z
    · have := h'.pos; omega
    · exact absurd z this
theorem sorted_get {S : List Int} (h : S.Pairwise (· ≤ ·)) {i j : Nat} (hi : i ≤ j) (hj : j < S.length) : nth S i ≤ nth S j := by
  rw [nth_get hj, nth_get (by omega)]
  rcases Nat.lt_or_eq_of_le hi with e | rfl
  · exact List.pairwise_iff_getElem.1 h i j (by omega) hj e
  · exact Int.le_refl _
theorem mem_drop_nth {S : List Int} {i : Nat} {x : Int} (h : x ∈ S.drop i) : ∃ j, i ≤ j ∧ j < S.length ∧ x = nth S j := by
  obtain ⟨k, hk, e⟩ := List.getElem_of_mem h
  simp at hk
  refine ⟨i + k, by omega, by omega, ?_⟩
  rw [nth_get (by omega), ← e]; simp
theorem mem_take_nth {S : List Int} {i : Nat} {x : Int} (h : x ∈ S.take i) : ∃ j, j < i ∧ j < S.length ∧ x = nth S j := by
  obtain ⟨k, hk, e⟩ := List.getElem_of_mem h
  simp at hk
  refine ⟨k, by omega, by omega, ?_⟩
  rw [nth_get (by omega), ← e]; simp
theorem sorted_ge {S : List Int} (h : S.Pairwise (· ≤ ·)) {i : Nat} (_hi : i < S.length) : S.length - i ≤ S.countP (fun x => decide (nth S i ≤ x)) := by
  have e : S.countP (fun x => decide (nth S i ≤ x)) = (S.take i).countP (fun x => decide (nth S i ≤ x)) + (S.drop i).countP (fun x => decide (nth S i ≤ x)) := by rw [← List.countP_append, List.take_append_drop]
  have e2 : (S.drop i).countP (fun x => decide (nth S i ≤ x)) = (S.drop i).length := by
    rw [List.countP_eq_length]
    intro x hx
    obtain ⟨j, h1, h2, rfl⟩ := mem_drop_nth hx
    exact decide_eq_true (sorted_get h h1 h2)
  rw [e, e2]; simp
theorem sorted_gt {S : List Int} (h : S.Pairwise (· ≤ ·)) {i : Nat} (hi : i < S.length) {t : Int} (ht : nth S i < t) : S.countP (fun x => decide (t ≤ x)) ≤ S.length - (i + 1) := by
  have e : S.countP (fun x => decide (t ≤ x)) = (S.take (i + 1)).countP (fun x => decide (t ≤ x)) + (S.drop (i + 1)).countP (fun x => decide (t ≤ x)) := by rw [← List.countP_append, List.take_append_drop]
  have e2 : (S.take (i + 1)).countP (fun x => decide (t ≤ x)) = 0 := by
    rw [List.countP_eq_zero]
    intro x hx
    obtain ⟨j, h1, h2, rfl⟩ := mem_take_nth hx
    have := sorted_get h (i := j) (j := i) (by omega) hi
    simp only [decide_eq_true_eq]; omega
  have e3 := List.countP_le_length (p := fun x => decide (t ≤ x)) (l := S.drop (i + 1))
  simp only [List.length_drop] at e3
  omega
theorem agr_is (V M : List Int) : IsAg V M (agr V M) := by
  unfold agr
  by_cases e : V = []
  · subst e
    rw [if_pos rfl]
    exact ⟨Int.le_refl _, Or.inl rfl, fun t _ => by simp [cut]⟩
  · rw [if_neg e]
    have hp : 0 < V.length := List.length_pos_iff.2 e
    have hl : (srt (V.map (rea M))).length = V.length := by rw [srt_length, List.length_map]
    have hi : (V.length - 1) / 2 < (srt (V.map (rea M))).length := by omega
    have hc : ∀ t, (srt (V.map (rea M))).countP (fun x => decide (t ≤ x)) = cut V M t := by
      intro t
      rw [(srt_perm _).countP_eq, List.countP_map]
      rfl
    have hs := srt_sorted (V.map (rea M))
    refine ⟨?_, Or.inr ?_, fun t ht => ?_⟩
    · have := (srt_mem _ _).1 (nth_mem hi)
      obtain ⟨v, _, hv⟩ := List.mem_map.1 this
      rw [← hv]; exact rea_pos M v
    · have := sorted_ge hs hi
      rw [hc, hl] at this
      omega
    · have := sorted_gt hs hi ht
      rw [hc, hl] at this
      omega
theorem agr_eq {V M : List Int} {m : Int} (h : IsAg V M m) : agr V M = m := (agr_is V M).uniq h

/- the servers that have come to t, of the first k -/
def geL (M : List Int) (t : Int) (k : Nat) : List Int := ((List.range k).filter (fun j => decide (t ≤ nth M j))).map (fun j : Nat => (j : Int) + 1)
theorem geL_succ (M : List Int) (t : Int) (k : Nat) : geL M t (k + 1) = geL M t k ++ if t ≤ nth M k then [(k : Int) + 1] else [] := by
  unfold geL
  rw [List.range_succ, List.filter_append, List.map_append]
  by_cases h : t ≤ nth M k
  · rw [if_pos h]; simp [h]
  · rw [if_neg h]; simp [h]
theorem geL_length (M : List Int) (t : Int) (k : Nat) : (geL M t k).length ≤ k := by
  unfold geL
  rw [List.length_map]
  have := List.length_filter_le (fun j => decide (t ≤ nth M j)) (List.range k)
  simpa using this
theorem geL_mem (M : List Int) (t : Int) (k : Nat) (x : Int) : x ∈ geL M t k ↔ 1 ≤ x ∧ x ≤ k ∧ t ≤ nth M (x - 1).toNat := by
  unfold geL
  simp only [List.mem_map, List.mem_filter, List.mem_range, decide_eq_true_eq]
  constructor
  · rintro ⟨j, ⟨h1, h2⟩, rfl⟩
    refine ⟨by omega, by omega, ?_⟩
    rw [show ((j : Int) + 1 - 1).toNat = j by omega]; exact h2
  · rintro ⟨h1, h2, h3⟩
    exact ⟨(x - 1).toNat, ⟨by omega, h3⟩, by omega⟩
theorem geL_contains (M : List Int) {t : Int} (ht : 0 < t) (x : Int) : (geL M t M.length).contains x = decide (t ≤ rea M x) := by
  rw [Bool.eq_iff_iff, contains_eq, geL_mem, decide_eq_true_eq]
  unfold rea
  split
  · constructor
    · intro h; omega
    · intro h; omega
  · omega
theorem maj_geL (V M : List Int) {t : Int} (ht : 0 < t) : majB V (geL M t M.length) = decide (V.length < 2 * cut V M t) := by
  unfold majB cut
  simp only [geL_contains M ht]

/- the document's way: the best of all that is reached -/
structure Best (V M : List Int) (k : Nat) (b : Int) : Prop where
  pos : 0 ≤ b
  has : b = 0 ∨ V.length < 2 * cut V M b
  most : ∀ j, j < k → 0 < nth M j → V.length < 2 * cut V M (nth M j) → nth M j ≤ b
theorem Best.start (V M : List Int) : Best V M 0 0 := ⟨Int.le_refl _, Or.inl rfl, fun _ hj => absurd hj (Nat.not_lt_zero _)⟩
theorem Best.take {V M : List Int} {k : Nat} {b : Int} (h : Best V M k b) (hm : majB V (geL M (nth M k) M.length) = true) (hb : b < nth M k) : Best V M (k + 1) (nth M k) := by
  have h0 : 0 < nth M k := by have := h.pos; omega
  rw [maj_geL V M h0, decide_eq_true_eq] at hm
  refine ⟨by omega, Or.inr hm, fun j hj h1 h2 => ?_⟩
  by_cases e : j = k
  · subst e; exact Int.le_refl _
  · have := h.most j (by omega) h1 h2; omega
theorem Best.leave {V M : List Int} {k : Nat} {b : Int} (h : Best V M k b) (hm : majB V (geL M (nth M k) M.length) = true → ¬ b < nth M k) : Best V M (k + 1) b := by
  refine ⟨h.pos, h.has, fun j hj h1 h2 => ?_⟩
  by_cases e : j = k
  · subst e
    have := hm (by rw [maj_geL V M h1, decide_eq_true_eq]; exact h2)
    omega
  · exact h.most j (by omega) h1 h2
theorem min_of {f : Int → Int} : ∀ {l : List Int}, l ≠ [] → ∃ v ∈ l, ∀ u ∈ l, f v ≤ f u := by
  intro l
  induction l with
  | nil => intro h; exact absurd rfl h
  | cons x r ih =>
    intro _
    by_cases e : r = []
    · subst e; exact ⟨x, by simp, fun u hu => by rw [List.mem_singleton.1 hu]; exact Int.le_refl _⟩
    · obtain ⟨v, hv, hm⟩ := ih e
      by_cases h : f x ≤ f v
      · refine ⟨x, by simp, fun u hu => ?_⟩
        rcases List.mem_cons.1 hu with rfl | hu
        · exact Int.le_refl _
        · have := hm u hu; omega
      · refine ⟨v, by simp [hv], fun u hu => ?_⟩
        rcases List.mem_cons.1 hu with rfl | hu
        · omega
        · exact hm u hu
theorem Best.end_ {V M : List Int} {b : Int} (h : Best V M M.length b) : agr V M = b := by
  refine agr_eq ⟨h.pos, h.has, fun t ht hm => ?_⟩
  have hp := h.pos
  have hne : V.filter (fun v => decide (t ≤ rea M v)) ≠ [] := by
    intro e
    have : cut V M t = 0 := by unfold cut; rw [List.countP_eq_length_filter, e]; rfl
    omega
  obtain ⟨v, hv, hmin⟩ := min_of (f := rea M) hne
  have hvt := (List.mem_filter.1 hv).2
  simp only [decide_eq_true_eq] at hvt
  have hr : ¬ (v < 1 ∨ (M.length : Int) < v) := by
    intro e
    unfold rea at hvt
    rw [if_pos e] at hvt; omega
  have hre : rea M v = nth M (v - 1).toNat := by
    have h2 : t ≤ rea M v := hvt
    unfold rea at h2 ⊢
    rw [if_neg hr] at h2 ⊢
    omega
  have hc : cut V M t ≤ cut V M (rea M v) := by
    unfold cut
    refine List.countP_mono_left fun x hx hxt => ?_
    simp only [decide_eq_true_eq] at hxt ⊢
    exact hmin x (List.mem_filter.2 ⟨hx, by simpa using hxt⟩)
  have := h.most (v - 1).toNat (by omega) (by rw [← hre]; omega) (by rw [← hre]; omega)
  rw [← hre] at this
  omega

/- who goes further takes nothing back -/
theorem agr_mono {V M N : List Int} (h : ∀ s, rea M s ≤ rea N s) : agr V M ≤ agr V N := by
  have a := agr_is V M
  have b := agr_is V N
  apply Int.not_lt.1
  intro e
  have h1 := b.most _ e
  rcases a.has with z | z
  · have := b.pos; omega
  · apply h1
    have : cut V M (agr V M) ≤ cut V N (agr V M) := by
      unfold cut
      refine List.countP_mono_left fun x _ hx => ?_
      simp only [decide_eq_true_eq] at hx ⊢
      have := h x; omega
    omega
theorem rea_set {M : List Int} {k : Nat} {x : Int} (hx : nth M k ≤ x) (s : Int) : rea M s ≤ rea (M.set k x) s := by
  unfold rea
  rw [List.length_set]
  split
  · exact Int.le_refl _
  · have : nth M (s - 1).toNat ≤ nth (M.set k x) (s - 1).toNat := by
      by_cases e : k = (s - 1).toNat
      · by_cases hk : k < M.length
        · rw [← e, nth_get (l := M.set k x) (by simpa using hk)]; simpa using hx
        · rw [List.set_eq_of_length_le (by omega)]; exact Int.le_refl _
      · unfold nth
        rw [List.getD_eq_getElem?_getD, List.getD_eq_getElem?_getD, List.getElem?_set_ne e]; exact Int.le_refl _
    omega

/- majorities meet -/
def one (b : Bool) : Nat := if b then 1 else 0
def five (f : Int → Nat) : Nat := f 1 + (f 2 + (f 3 + (f 4 + (f 5 + 0))))
theorem rise_filter {V : List Int} (h : Rise V) : V = [1, 2, 3, 4, 5].filter (fun x => V.contains x) := by
  refine h.ext ⟨List.Pairwise.filter _ (by decide), fun x hx => ?_⟩ fun x => ?_
  · have := (List.mem_filter.1 hx).1
    simp only [List.mem_cons, List.not_mem_nil, or_false] at this
    omega
  · rw [List.mem_filter, contains_eq]
    constructor
    · intro hx
      refine ⟨?_, hx⟩
      have := h.2 x hx
      simp only [List.mem_cons, List.not_mem_nil, or_false]
      omega
    · exact fun h => h.2
theorem count_five {V : List Int} (h : Rise V) (p : Int → Bool) : V.countP p = five (fun x => one (V.contains x && p x)) := by
  have e : V.countP p = ([1, 2, 3, 4, 5].filter (fun x => V.contains x)).countP p := congrArg (List.countP p) (rise_filter h)
  rw [e]
  generalize V.contains = q
  simp only [List.countP_filter, List.countP_cons, List.countP_nil, five, one]
  simp only [Bool.and_comm (q _)]
  omega
theorem dif_five (V V' : List Int) : dif V V' 5 = five (fun x => one (V.contains x != V'.contains x)) := by
  simp only [dif, five, one]
  simp only [show ((0 : Nat) : Int) + 1 = 1 from rfl, show ((1 : Nat) : Int) + 1 = 2 from rfl, show ((2 : Nat) : Int) + 1 = 3 from rfl, show ((3 : Nat) : Int) + 1 = 4 from rfl, show ((4 : Nat) : Int) + 1 = 5 from rfl]
  generalize V.contains = q
  generalize V'.contains = r
  have : ∀ x, (if q x = r x then 0 else 1) = (if (q x != r x) = true then 1 else 0) := by
    intro x; cases q x <;> cases r x <;> rfl
  simp only [this]
  omega
theorem meet_bits (a b x y : Bool) (h : ¬ (x = true ∧ y = true ∧ a = true ∧ b = true)) : 2 * (one (a && x) + one (b && y)) ≤ one a + one b + one (a != b) := by
  cases a <;> cases b <;> cases x <;> cases y <;> simp_all [one]
theorem meets {V L V' L' Y Z : List Int} (hs : sglB V L V' L' = true) (h1 : majB V Y = true) (h2 : majB V' Z = true) : ∃ s : Int, 1 ≤ s ∧ s ≤ 5 ∧ s ∈ Y ∧ s ∈ Z ∧ s ∈ V ∧ s ∈ V' := by
  unfold sglB at hs
  simp only [Bool.and_eq_true, decide_eq_true_eq, may_iff] at hs
  obtain ⟨⟨_, r1, _⟩, ⟨_, r2, _⟩, hd⟩ := hs
  unfold majB at h1 h2
  rw [decide_eq_true_eq] at h1 h2
  have l1 : V.length = V.countP (fun _ => true) := by simp
  have l2 : V'.length = V'.countP (fun _ => true) := by simp
  rw [l1, count_five r1, count_five r1] at h1
  rw [l2, count_five r2, count_five r2] at h2
  rw [dif_five] at hd
  simp only [five, Bool.and_true] at h1 h2 hd
  apply Classical.byContradiction
  intro hn
  have k : ∀ s : Int, 1 ≤ s → s ≤ 5 → 2 * (one (V.contains s && Y.contains s) + one (V'.contains s && Z.contains s)) ≤ one (V.contains s) + one (V'.contains s) + one (V.contains s != V'.contains s) := by
    intro s b1 b5
    refine meet_bits _ _ _ _ fun ⟨c1, c2, c3, c4⟩ => hn ⟨s, b1, b5, ?_⟩
    exact ⟨contains_eq.1 c1, contains_eq.1 c2, contains_eq.1 c3, contains_eq.1 c4⟩
  have k1 := k 1 (by omega) (by omega)
  have k2 := k 2 (by omega) (by omega)
  have k3 := k 3 (by omega) (by omega)
  have k4 := k 4 (by omega) (by omega)
  have k5 := k 5 (by omega) (by omega)
  omega
end Go.Proofs.Yteaohmlbioooaaa
