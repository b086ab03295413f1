/- Lists of files by name, as the document has them: what they say of each name. -/
import Derived.Test.YtkbmfookdhlphaaGdb
import Derived.Test.YtkbmfookdhlphaaGpy
namespace Go.Proofs.Ytkbmfookdhlphaa
open Go.RowKit Go.Sort

def Fe.k (f : Fe) : Nm := f.nm.data.toList
/- the list l says of each name what fs says, and goes by name -/
structure Lst (l : List Fe) (fs : FS) : Prop where
  up : l.Pairwise (fun a b => a.k < b.k)
  to : ∀ f ∈ l, fs f.k = some f.d
  all : ∀ k d, fs k = some d → ∃ f ∈ l, f.k = k
theorem Lst.nil : Lst [] fs0 := ⟨List.Pairwise.nil, fun _ h => (by cases h), fun _ _ h => (by cases h)⟩
theorem keq (f : Fe) (s : ByteArray) : (f.nm.toList == s.toList) = decide (f.k = s.data.toList) := str_eq f.nm s
theorem Lst.one {l : List Fe} {fs : FS} (h : Lst l fs) {i j : Nat} {f g : Fe} (hi : l[i]? = some f) (hj : l[j]? = some g) (e : f.k = g.k) : i = j := by
  obtain ⟨hil, rfl⟩ := List.getElem?_eq_some_iff.1 hi
  obtain ⟨hjl, rfl⟩ := List.getElem?_eq_some_iff.1 hj
  rcases Nat.lt_trichotomy i j with hlt | hlt | hlt
  · have := List.pairwise_iff_getElem.1 h.up i j hil hjl hlt
    rw [e] at this
    exact absurd this (List.lt_irrefl _)
  · exact hlt
  · have := List.pairwise_iff_getElem.1 h.up j i hjl hil hlt
    rw [e] at this
    exact absurd this (List.lt_irrefl _)
theorem Lst.yes {l : List Fe} {fs : FS} (h : Lst l fs) {s : ByteArray} {d : List UInt8} (hd : fs s.data.toList = some d) : ∃ (i : Nat) (g : Fe), l[i]? = some g ∧ fiI l s = (i : Int) ∧ g.k = s.data.toList ∧ g.d = d := by
  obtain ⟨g, hg, ek⟩ := h.all _ _ hd
  obtain ⟨i, hi⟩ := List.getElem?_of_mem hg
  refine ⟨i, g, hi, fiI_at hi (by rw [keq, ek]; simp) (fun j f hj hf => ?_), ek, ?_⟩
  · rw [keq]
    refine decide_eq_false fun e => ?_
    have := h.one hf hi (e.trans ek.symm)
    omega
  · have := h.to g hg
    rw [ek, hd] at this
    exact (Option.some.inj this).symm
theorem Lst.no {l : List Fe} {fs : FS} (h : Lst l fs) {s : ByteArray} (hd : fs s.data.toList = none) : fiI l s = -1 := by
  refine fiI_no fun j g hj => ?_
  rw [keq]
  refine decide_eq_false fun e => ?_
  have := h.to g (List.mem_of_getElem? hj)
  rw [e, hd] at this
  cases this
theorem mem_wo {l : List Fe} {s : ByteArray} {f : Fe} : f ∈ wo l s ↔ f ∈ l ∧ f.k ≠ s.data.toList := by
  unfold wo
  rw [List.mem_filter, keq]
  simp
theorem Lst.wo {l : List Fe} {fs : FS} (h : Lst l fs) (s : ByteArray) : Lst (wo l s) (fup fs s.data.toList none) := by
  refine ⟨h.up.filter _, fun f hf => ?_, fun k d hk => ?_⟩
  · obtain ⟨h1, h2⟩ := mem_wo.1 hf
    unfold fup
    rw [if_neg h2]
    exact h.to f h1
  · unfold fup at hk
    split at hk
    · cases hk
    · rename_i hne
      obtain ⟨f, hf, e⟩ := h.all k d hk
      exact ⟨f, mem_wo.2 ⟨hf, by rw [e]; exact hne⟩, e⟩
theorem takeWhile_take {α : Type} (p : α → Bool) (l : List α) : l.take (l.takeWhile p).length = l.takeWhile p := by
  induction l with
  | nil => rfl
  | cons a l ih =>
    by_cases h : p a = true
    · simp [h, ih]
    · simp [h]
theorem takeWhile_drop {α : Type} (p : α → Bool) (l : List α) : l.drop (l.takeWhile p).length = l.dropWhile p := by
  induction l with
  | nil => rfl
  | cons a l ih =>
    by_cases h : p a = true
    · simp [h, ih]
    · simp [h]
theorem all_takeWhile {α : Type} (p : α → Bool) (l : List α) : ∀ x ∈ l.takeWhile p, p x = true := by
  induction l with
  | nil => intro x hx; cases hx
  | cons a l ih =>
    intro x hx
    rw [List.takeWhile_cons] at hx
    split at hx
    · rcases List.mem_cons.1 hx with rfl | hx
      · assumption
      · exact ih x hx
    · cases hx
theorem head_dropWhile {α : Type} (p : α → Bool) (l : List α) : ∀ x r, l.dropWhile p = x :: r → p x = false := by
  induction l with
  | nil => intro x r h; cases h
  | cons a l ih =>
    intro x r h
    rw [List.dropWhile_cons] at h
    split at h
    · exact ih x r h
    · cases h; simpa using ‹¬ p _ = true›
theorem lss (g : Fe) (s : ByteArray) : Op.bytesLess g.nm.toList s.toList = decide (g.k < s.data.toList) := by
  rw [bytesLess_eq, Lib.toList_data, Lib.toList_data]; rfl
theorem Lst.wi {l : List Fe} {fs : FS} (h : Lst l fs) (x : Fe) : Lst (wi l x) (fup fs x.k (some x.d)) := by
  have hw := h.wo x.nm
  obtain ⟨m, hm⟩ : ∃ m, m = Proofs.Ytkbmfookdhlphaa.wo l x.nm := ⟨_, rfl⟩
  rw [← hm] at hw
  have hne : ∀ f ∈ m, f.k ≠ x.k := fun f hf => by rw [hm] at hf; exact (mem_wo.1 hf).2
  have e : Proofs.Ytkbmfookdhlphaa.wi l x = m.takeWhile (fun g => decide (g.k < x.k)) ++ [x] ++ m.dropWhile (fun g => decide (g.k < x.k)) := by
    unfold Proofs.Ytkbmfookdhlphaa.wi atN
    rw [← hm]
    have ep : (fun g : Fe => Op.bytesLess g.nm.toList x.nm.toList) = (fun g => decide (g.k < x.k)) := by funext g; exact lss g x.nm
    rw [ep, takeWhile_take, takeWhile_drop]
  have hsp : m.takeWhile (fun g => decide (g.k < x.k)) ++ m.dropWhile (fun g => decide (g.k < x.k)) = m := List.takeWhile_append_dropWhile
  have hmem : ∀ f, f ∈ Proofs.Ytkbmfookdhlphaa.wi l x ↔ f = x ∨ f ∈ m := fun f => by
    rw [e]
    conv => rhs; rw [← hsp]
    simp only [List.mem_append, List.mem_singleton]
    constructor
    · rintro ((a | a) | a)
      · exact .inr (.inl a)
      · exact .inl a
      · exact .inr (.inr a)
    · rintro (a | a | a)
      · exact .inl (.inr a)
      · exact .inl (.inl a)
      · exact .inr a
  refine ⟨?_, fun f hf => ?_, fun k d hk => ?_⟩
  · have hup := hw.up
    rw [← hsp, List.pairwise_append] at hup
    obtain ⟨u1, u2, u3⟩ := hup
    have g1 : ∀ a ∈ m.takeWhile (fun g => decide (g.k < x.k)), a.k < x.k := fun a ha => of_decide_eq_true (all_takeWhile _ m a ha)
    have g2 : ∀ b ∈ m.dropWhile (fun g => decide (g.k < x.k)), x.k < b.k := by
      intro b hb
      cases hd : m.dropWhile (fun g => decide (g.k < x.k)) with
      | nil => rw [hd] at hb; cases hb
      | cons y r =>
        have hy := of_decide_eq_false (head_dropWhile _ m y r hd)
        have hym : y ∈ m := by rw [← hsp, hd]; simp
        have hlt : x.k < y.k := by
          rcases Std.lt_trichotomy x.k y.k with hh | hh | hh
          · exact hh
          · exact absurd hh.symm (hne y hym)
          · exact absurd hh hy
        rw [hd] at hb u2
        rcases List.mem_cons.1 hb with rfl | hb
        · exact hlt
        · exact Std.lt_trans hlt ((List.pairwise_cons.1 u2).1 b hb)
    rw [e, List.pairwise_append, List.pairwise_append]
    refine ⟨⟨u1, List.pairwise_singleton _ _, fun a ha b hb => ?_⟩, u2, fun a ha b hb => ?_⟩
    · rw [List.mem_singleton.1 hb]; exact g1 a ha
    · rcases List.mem_append.1 ha with ha | ha
      · exact u3 a ha b hb
      · rw [List.mem_singleton.1 ha]; exact g2 b hb
  · rcases (hmem f).1 hf with rfl | hf
    · unfold fup; rw [if_pos rfl]
    · have := hw.to f hf
      unfold fup at this ⊢
      rw [if_neg (show ¬ f.k = x.nm.data.toList from hne f hf)] at this
      rw [if_neg (hne f hf)]
      exact this
  · unfold fup at hk
    split at hk
    · rename_i ek
      exact ⟨x, (hmem x).2 (.inl rfl), ek.symm⟩
    · rename_i ek
      obtain ⟨f, hf, e2⟩ := hw.all k d (by unfold fup; rw [if_neg (show ¬ k = x.nm.data.toList from ek)]; exact hk)
      exact ⟨f, (hmem f).2 (.inr hf), e2⟩
/- by name: as the code's list is -/
theorem Lst.srt {l : List Fe} {fs : FS} (h : Lst l fs) : Srt fs (l.map Fe.k) := by
  have hp : (l.map Fe.k).Pairwise (fun a b => a < b) := List.pairwise_map.2 h.up
  refine ⟨hp.imp (fun hab => Std.le_of_lt hab), hp.imp (fun hab e => by rw [e] at hab; exact List.lt_irrefl _ hab), fun k => ?_⟩
  constructor
  · intro hk
    obtain ⟨f, hf, rfl⟩ := List.mem_map.1 hk
    rw [h.to f hf]; rfl
  · intro hk
    obtain ⟨d, hd⟩ := Option.isSome_iff_exists.1 hk
    obtain ⟨f, hf, e⟩ := h.all k d hd
    exact List.mem_map.2 ⟨f, hf, e⟩
theorem Card.len {l : List Fe} {fs : FS} {m : Nat} (h : Lst l fs) (hc : Card fs m) : l.length = m := by
  obtain ⟨ks, hk, rfl⟩ := hc
  rw [← h.srt.uniq hk, List.length_map]
end Go.Proofs.Ytkbmfookdhlphaa
