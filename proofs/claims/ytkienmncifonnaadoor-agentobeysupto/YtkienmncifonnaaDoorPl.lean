/- AgentObeys on plain data. -/
import Derived.Test.YtkienmncifonnaaDoorLv
import Derived.Test.YtkienmncifonnaaDoorOy
namespace Go.Proofs.YtkienmncifonnaaDoor
open Go.RowKit Go.Maps
/- tasks of node 2 under epoch 5; E: what was to stop -/
structure PO (T : TM) (E : List Int) : Prop where
  ok : TkOk T
  g : ∀ k a, T k = some a → a.al.nd = 2 ∧ a.al.ep = 5
  e : ∀ k a, T k = some a → a.s = 2 ∨ k ∈ E
theorem PO.zero : PO tk0 [] := ⟨tk0_ok, fun k a h => (by cases h), fun k a h => (by cases h)⟩
def spI (L : List Al) : List Int := (L.filter (·.sp)).map (·.id)
theorem spI_mem {L : List Al} {x : Al} (h : x ∈ L) (hs : x.sp = true) : x.id ∈ spI L := List.mem_map.2 ⟨x, List.mem_filter.2 ⟨h, hs⟩, rfl⟩
theorem tkF_spec {T : TM} {E : List Int} (h : PO T E) (x : Al) (hn : x.nd = 2) (he : x.ep = 5) : (tkF T x).al.id = x.id ∧ (tkF T x).al.nd = 2 ∧ (tkF T x).al.ep = 5 ∧ ((tkF T x).s = 2 ∨ x.id ∈ E ∨ x.sp = true) ∧ (x.sp = true → (tkF T x).s ≠ 2) := by
  have h1 : (tk1 T x).al.id = x.id ∧ (tk1 T x).al.nd = 2 ∧ (tk1 T x).al.ep = 5 ∧ ((tk1 T x).s = 2 ∨ x.id ∈ E) := by
    unfold tk1
    cases ht : T x.id with
    | none => exact ⟨rfl, hn, he, .inl rfl⟩
    | some a => exact ⟨(h.ok.ok _ _ ht).1, (h.g _ _ ht).1, (h.g _ _ ht).2, h.e _ _ ht⟩
  unfold tkF
  split
  · rename_i hc
    exact ⟨h1.1, h1.2.1, h1.2.2.1, .inr (.inr hc.1), fun _ => by show (5 : Int) ≠ 2; decide⟩
  · rename_i hc
    exact ⟨h1.1, h1.2.1, h1.2.2.1, h1.2.2.2.elim .inl (fun h => .inr (.inl h)), fun hs h2 => hc ⟨hs, h2⟩⟩
theorem fold_at {T : TM} (L : List Al) : ∀ (M : TM) (k : Int) (a : Ak), (L.foldl (rnS T 2 5) M) k = some a → M k = some a ∨ ∃ x ∈ L, x.nd = 2 ∧ x.ep = 5 ∧ x.id = k ∧ a = tkF T x := by
  induction L with
  | nil => intro M k a h; exact .inl h
  | cons x L ih =>
    intro M k a h
    rcases ih _ k a h with h | ⟨y, h1, h2⟩
    · unfold rnS at h
      split at h
      · rename_i hc
        unfold tup at h
        split at h
        · rename_i hk
          cases h
          exact .inr ⟨x, by simp, hc.1, hc.2, hk.symm, rfl⟩
        · exact .inl h
      · exact .inl h
    · exact .inr ⟨y, by simp [h1], h2⟩
theorem runT_at {T : TM} {L : List Al} {k : Int} {a : Ak} (h : runT T 2 5 L k = some a) : ∃ x ∈ L, x.nd = 2 ∧ x.ep = 5 ∧ x.id = k ∧ a = tkF T x := by
  rcases fold_at L tk0 k a h with h | h
  · cases h
  · exact h
/- an ID that comes once is run by its own allocation -/
theorem fold_keep {T : TM} (L : List Al) : ∀ (M : TM) (k : Int), (∀ x ∈ L, x.id ≠ k) → (L.foldl (rnS T 2 5) M) k = M k := by
  induction L with
  | nil => intro M k _; rfl
  | cons x L ih =>
    intro M k h
    rw [List.foldl_cons, ih _ k (fun y hy => h y (by simp [hy]))]
    unfold rnS
    split
    · unfold tup
      rw [if_neg (fun e => h x (by simp) e.symm)]
    · rfl
theorem runT_one {T : TM} {L : List Al} {i : Nat} {x : Al} (hx : L[i]? = some x) (hn : x.nd = 2) (he : x.ep = 5) (h1 : ¬ ∃ j : Nat, j ≠ i ∧ ∃ y : Al, L[j]? = some y ∧ y.id = x.id) : runT T 2 5 L x.id = some (tkF T x) := by
  have hi : i < L.length := (List.getElem?_eq_some_iff.1 hx).1
  have hs : L = L.take i ++ x :: L.drop (i + 1) := by
    have e1 : x = L[i] := by rw [List.getElem?_eq_getElem hi] at hx; exact (Option.some.inj hx).symm
    rw [e1, List.getElem_cons_drop hi, List.take_append_drop]
  unfold runT
  rw [hs, List.foldl_append, List.foldl_cons, fold_keep _ _ _ (fun y hy => ?_)]
  · unfold rnS
    rw [if_pos ⟨hn, he⟩]
    unfold tup
    rw [if_pos rfl]
  · obtain ⟨j, hj⟩ := List.mem_iff_getElem?.1 hy
    rw [List.getElem?_drop] at hj
    exact fun e => h1 ⟨i + 1 + j, by omega, y, hj, e⟩
theorem PO.run {T : TM} {E : List Int} (h : PO T E) (L : List Al) (hw : ∀ x ∈ L, wf64 x.id) : PO (runT T 2 5 L) (E ++ spI L) := by
  refine ⟨runT_ok h.ok L hw, fun k a ha => ?_, fun k a ha => ?_⟩
  · obtain ⟨x, _, hn, he, _, rfl⟩ := runT_at ha
    have := tkF_spec h x hn he
    exact ⟨this.2.1, this.2.2.1⟩
  · obtain ⟨x, hx, hn, he, rfl, rfl⟩ := runT_at ha
    have := (tkF_spec h x hn he).2.2.2.1
    rw [List.mem_append]
    rcases this with h2 | h2 | h2
    · exact .inl h2
    · exact .inr (.inl h2)
    · exact .inr (.inr (spI_mem hx h2))
theorem run_in {T : TM} {E : List Int} (h : PO T E) {L : List Al} {K : List Int} (hk : Kn (runT T 2 5 L) K) {y : Al} (hy : y ∈ runL (runT T 2 5 L) K) : y.nd = 2 ∧ y.ep = 5 ∧ ∃ x ∈ L, x.id = y.id := by
  obtain ⟨k, a, h1, rfl, h2⟩ := (runL_mem hk y).1 hy
  obtain ⟨x, hx, hn, he, rfl, rfl⟩ := runT_at h1
  have := tkF_spec h x hn he
  exact ⟨this.2.1, this.2.2.1, x, hx, this.1.symm⟩
theorem oby_of {T : TM} {E : List Int} (h : PO T E) {L : List Al} {K : List Int} (hk : Kn (runT T 2 5 L) K) : Oby (runL (runT T 2 5 L) K) L E := by
  have key : ∀ (i : Nat) (x : Al), L[i]? = some x → x.nd = 2 → x.ep = 5 → (¬ ∃ j : Nat, j ≠ i ∧ ∃ y : Al, L[j]? = some y ∧ y.id = x.id) → ((∃ y ∈ runL (runT T 2 5 L) K, y.id = x.id) ↔ (tkF T x).s = 2) := by
    intro i x hx hn he h1
    have h2 := runT_one (T := T) hx hn he h1
    constructor
    · rintro ⟨y, hy, e⟩
      obtain ⟨k, a, h3, rfl, h4⟩ := (runL_mem hk y).1 hy
      obtain ⟨z, hz, zn, ze, rfl, rfl⟩ := runT_at h3
      have := (tkF_spec h z zn ze).1
      rw [this] at e
      rw [e] at h3
      have h5 := Option.some.inj (h2.symm.trans h3)
      rw [h5]
      exact h4
    · intro h3
      exact ⟨(tkF T x).al, (runL_mem hk _).2 ⟨x.id, _, h2, rfl, h3⟩, (tkF_spec h x hn he).1⟩
  refine ⟨fun i x hx hn he h1 hr => ?_, fun i x hx hn he h1 hr => ?_⟩
  · have := (key i x hx hn he h1).1 hr
    cases hs : x.sp with
    | false => rfl
    | true => exact absurd this ((tkF_spec h x hn he).2.2.2.2 hs)
  · rcases (tkF_spec h x hn he).2.2.2.1 with h2 | h2 | h2
    · exact absurd ((key i x hx hn he h1).2 h2) hr
    · exact .inr h2
    · exact .inl h2
end Go.Proofs.YtkienmncifonnaaDoor
