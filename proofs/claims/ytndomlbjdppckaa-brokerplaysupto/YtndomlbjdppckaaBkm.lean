/- What BrokerKeeps stands on: lists of items alone. -/
import Derived.Test.YtndomlbjdppckaaBli
namespace Go.Proofs.Ytndomlbjdppckaa
open Go.RowKit
variable {D : Nat}

/- whoever has one is one of four, from j on -/
def AK (j : Int) (R : List Itm) : Prop := ∀ x ∈ R, x.tk = true → j ≤ x.wk ∧ x.wk < 4
theorem AK.nil (j : Int) : AK j [] := fun x hx => absurd hx (by simp)
theorem AK.set {j : Int} {R : List Itm} (h : AK j R) {i : Nat} {y : Itm} (hy : y.tk = true → j ≤ y.wk ∧ y.wk < 4) : AK j (R.set i y) := by
  intro z hz
  rcases List.mem_or_eq_of_mem_set hz with h1 | h1
  · exact h z h1
  · rw [h1]; exact hy
theorem AK.sub {j : Int} {R R' : List Itm} (h : AK j R) (hs : R'.Sublist R) : AK j R' := fun x hx => h x (hs.mem hx)
theorem AK.nack {j : Int} {R : List Itm} (h : AK j R) (wk : Int) : AK j (nackM wk R) := by
  unfold nackM
  split
  · exact h.set (fun e => by rw [nk_tk] at e; cases e)
  · exact h
theorem AK.ack {j : Int} {R : List Itm} (h : AK j R) (wk : Int) : AK j (ackM wk R) := by
  unfold ackM
  split
  · exact h.sub (List.eraseIdx_sublist ..)
  · exact h
theorem AK.tick {j : Int} {R : List Itm} (h : AK j R) : AK j (R.map tk1) := by
  intro x hx ht
  obtain ⟨y, hy, rfl⟩ := List.mem_map.1 hx
  obtain ⟨h1, h2⟩ := tk1_wk y ht
  rw [h2]; exact h y hy h1
theorem AK.u1 {j : Int} {R : List Itm} (h : AK j R) (e : Ev) : AK j (u1 R e) := by
  unfold _root_.Go.Proofs.Ytndomlbjdppckaa.u1
  split
  · split
    · split
      · exact h
      · rename_i i hi htk
        refine h.set (fun ht => ?_)
        have h1 : (R.getD i default).tk = true := ht
        exact absurd h1 htk
    · intro x hx
      rcases List.mem_append.1 hx with hx | hx
      · exact h x hx
      · rw [List.mem_singleton.1 hx]; intro ht; simp [newI] at ht
  · exact h
theorem AK.ups {j : Int} {R : List Itm} (h : AK j R) (es : List Ev) : AK j (es.foldl _root_.Go.Proofs.Ytndomlbjdppckaa.u1 R) := by
  induction es generalizing R with
  | nil => exact h
  | cons e es ih => exact ih (h.u1 e)
theorem AK.up {j : Int} {R : List Itm} (h : AK j R) (es : List Ev) : AK j (upM R es) := (h.ups es).sub List.filter_sublist
theorem AK.step {j : Int} {R : List Itm} (h : AK j R) (hw : WU R) : AK (j + 1) (ackM j R) := by
  unfold ackM
  split
  · rename_i i hi
    rw [List.findIdx?_eq_some_iff_getElem] at hi
    obtain ⟨hl, hp, _⟩ := hi
    intro x hx ht
    obtain ⟨k, hk⟩ := List.mem_iff_getElem?.1 hx
    have h0 := h x ((List.eraseIdx_sublist ..).mem hx) ht
    have hne : x.wk ≠ j := by
      intro e
      have hpw := List.pairwise_iff_getElem.1 hw
      simp [hb] at hp
      rw [List.getElem?_eraseIdx] at hk
      split at hk
      · rename_i hlt
        obtain ⟨l1, e1⟩ := List.getElem?_eq_some_iff.1 hk
        have := hpw k i l1 hl hlt
        rw [e1] at this
        exact this ht hp.1 (e.trans hp.2.symm)
      · rename_i hlt
        obtain ⟨l1, e1⟩ := List.getElem?_eq_some_iff.1 hk
        have := hpw i (k + 1) hl l1 (by omega)
        rw [e1] at this
        exact this hp.1 ht (hp.2.trans e.symm)
    omega
  · rename_i hi
    rw [List.findIdx?_eq_none_iff] at hi
    intro x hx ht
    have h0 := h x hx ht
    have h1 := hi x hx
    simp [hb, ht] at h1
    omega
theorem AK.none {R : List Itm} (h : AK 4 R) : ∀ x ∈ R, x.tk = false := by
  intro x hx
  cases ht : x.tk with
  | false => rfl
  | true => have := h x hx ht; omega
theorem AK.of_none {R : List Itm} (h : ∀ x ∈ R, x.tk = false) : AK 4 R := fun x hx ht => by rw [h x hx] at ht; cases ht

theorem u1_has {R : List Itm} {e : Ev} {j : Int} (h : (∃ x ∈ R, x.jb = j) ∨ (e.st = 1 ∧ e.jb = j)) : ∃ x ∈ u1 R e, x.jb = j := by
  unfold u1
  by_cases hs : e.st = 1
  · rw [if_pos hs]
    split
    · rename_i i hi
      rw [List.findIdx?_eq_some_iff_getElem] at hi
      obtain ⟨hl, hp, _⟩ := hi
      have hg : R.getD i default = R[i] := by simp [List.getD, hl]
      have hj : R[i].jb = e.jb := by simpa using hp
      rw [hg]
      split
      · rcases h with h | h
        · exact h
        · exact ⟨R[i], List.getElem_mem hl, hj.trans h.2⟩
      · rcases h with ⟨x, hx, e1⟩ | h
        · obtain ⟨k, hk⟩ := List.mem_iff_getElem?.1 hx
          by_cases hki : i = k
          · subst hki
            have e2 := (List.getElem?_eq_some_iff.1 hk).2
            exact ⟨_, List.mem_of_getElem? (List.getElem?_set_self hl), by simp only [evI]; rw [← hj, e2, e1]⟩
          · exact ⟨x, List.mem_of_getElem? (by rw [List.getElem?_set_ne hki]; exact hk), e1⟩
        · exact ⟨_, List.mem_of_getElem? (List.getElem?_set_self hl), by simp only [evI]; exact h.2⟩
    · rcases h with ⟨x, hx, e1⟩ | h
      · exact ⟨x, List.mem_append_left _ hx, e1⟩
      · exact ⟨newI e, by simp, h.2⟩
  · rw [if_neg hs]
    rcases h with h | h
    · exact h
    · exact absurd h.1 hs
theorem ups_has {es : List Ev} {j : Int} : ∀ {R : List Itm}, ((∃ x ∈ R, x.jb = j) ∨ ∃ e ∈ es, e.st = 1 ∧ e.jb = j) → ∃ x ∈ es.foldl u1 R, x.jb = j := by
  induction es with
  | nil =>
    intro R h
    rcases h with h | ⟨e, he, _⟩
    · exact h
    · cases he
  | cons e es ih =>
    intro R h
    refine ih ?_
    rcases h with h | ⟨e', he, h2⟩
    · exact .inl (u1_has (.inl h))
    · rcases List.mem_cons.1 he with rfl | he
      · exact .inl (u1_has (.inr h2))
      · exact .inr ⟨e', he, h2⟩
theorem up_has {R : List Itm} {es : List Ev} {e : Ev} (he : e ∈ es) (hs : e.st = 1) : e.jb ∈ (upM R es).map (·.jb) := by
  obtain ⟨x, hx, hj⟩ := ups_has (R := R) (.inr ⟨e, he, hs, rfl⟩)
  refine List.mem_map.2 ⟨x, ?_, hj⟩
  unfold upM
  refine List.mem_filter.2 ⟨hx, ?_⟩
  have : pend es x.jb = true := by
    unfold pend
    rw [List.any_eq_true]
    exact ⟨e, he, by simp [hs, hj]⟩
  simp [this]
theorem nodup_len : ∀ (A B : List Int), A.Nodup → (∀ a ∈ A, a ∈ B) → A.length ≤ B.length
  | [], _, _, _ => Nat.zero_le _
  | a :: A, B, hn, hs => by
    rw [List.nodup_cons] at hn
    have ha := hs a (List.mem_cons_self ..)
    have h1 := nodup_len A (B.erase a) hn.2 (fun x hx => (List.mem_erase_of_ne (fun e => hn.1 (by rw [← e]; exact hx))).2 (hs x (List.mem_cons_of_mem _ hx)))
    have h2 := List.length_erase_of_mem ha
    have h3 := List.length_pos_of_mem ha
    simp only [List.length_cons]
    omega
theorem up_len {R : List Itm} {es : List Ev} (h : Ok (upM R es)) (hn : ∀ x ∈ upM R es, x.tk = false) : (upM R es).length ≤ es.length := by
  have h1 := nodup_len ((upM R es).map (fun x : Itm => x.jb)) (es.map (fun x : Ev => x.jb)) h.j (fun a ha => by
    obtain ⟨x, hx, rfl⟩ := List.mem_map.1 ha
    have h2 := hn x hx
    unfold upM at hx
    have h3 := (List.mem_filter.1 hx).2
    simp only [h2, Bool.or_false] at h3
    unfold pend at h3
    obtain ⟨e, he, h4⟩ := List.any_eq_true.1 h3
    simp at h4
    exact List.mem_map.2 ⟨e, he, h4.2⟩)
  simpa using h1
/- what is put off comes nearer -/
def Off (d : Int) (R : List Itm) : Prop := ∀ x ∈ R, x.tk = false ∧ 0 ≤ x.dl ∧ x.dl ≤ d
theorem Off.start {R : List Itm} (h : Ok R) (hn : ∀ x ∈ R, x.tk = false) : Off 6 R := fun x hx => ⟨hn x hx, (h.i x hx).d0, (h.i x hx).d6⟩
theorem Off.tick {d : Int} {R : List Itm} (h : Off d R) (hd : 1 ≤ d) : Off (d - 1) (R.map tk1) := by
  intro x hx
  obtain ⟨y, hy, rfl⟩ := List.mem_map.1 hx
  obtain ⟨h1, h2, h3⟩ := h y hy
  unfold tk1
  rw [if_neg (by simp [h1])]
  by_cases hp : 0 < y.dl
  · rw [if_pos hp]; exact ⟨h1, by simp only; omega, by simp only; omega⟩
  · rw [if_neg hp]; exact ⟨h1, h2, by omega⟩
theorem tick_jb (R : List Itm) : (R.map tk1).map (·.jb) = R.map (·.jb) := by
  rw [List.map_map]
  apply List.map_congr_left
  intro x _
  exact tk1_jb x
theorem Off.free {R : List Itm} (h : Off 0 R) : ∀ x ∈ R, fr x = true := fun x hx => by
  obtain ⟨h1, h2, h3⟩ := h x hx
  have : x.dl = 0 := by omega
  simp [fr, h1, this]
/- Dequeue, whatever there is; whoever gets one is one of four -/
theorem s_deqW {pB N : Nat} {R : List Itm} {w : World} (h : Sta D w pB R N) (wk : Int) (hA : AK 0 R) (hk : 0 ≤ wk ∧ wk < 4) (hN : N ≤ 8796093022208) : Calls Try.prog 11 #[.pointer (some ⟨pB, 0, none⟩), .int .i64 wk] w fun e w' => ∃ R2 v b, e = .returned (.tuple #[v, .bool b]) ∧ Sta D w' pB R2 N ∧ R2.length = R.length ∧ AK 0 R2 ∧ FrT D TB w w' := by
  cases hh : heldM wk R with
  | some y =>
    refine (s_deq_no h wk (.inl (by rw [hh]; rfl))).mono ?_
    rintro e w' ⟨rfl, hb⟩
    exact ⟨R, _, _, rfl, h.grow hb, rfl, hA, FrT.of_below hb⟩
  | none =>
    by_cases hz : ∃ z ∈ R, fr z = true
    · obtain ⟨z, hz, hf⟩ := hz
      refine (s_deq_yes h wk hh hz hf hN).mono ?_
      rintro e w' ⟨i, x, hm, rfl, h1, h2⟩
      exact ⟨_, _, _, rfl, h1, by simp, hA.set (fun _ => hk), h2.mono tp_tb⟩
    · refine (s_deq_no h wk (.inr (fun z hzz => ?_))).mono ?_
      · cases hf : fr z with
        | false => rfl
        | true => exact absurd ⟨z, hzz, hf⟩ hz
      · rintro e w' ⟨rfl, hb⟩
        exact ⟨R, _, _, rfl, h.grow hb, rfl, hA, FrT.of_below hb⟩
end Go.Proofs.Ytndomlbjdppckaa
