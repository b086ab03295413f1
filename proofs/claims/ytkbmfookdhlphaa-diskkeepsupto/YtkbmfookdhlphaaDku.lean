/- What a crash may leave of unit deeds: a state that there was; the disk's calls beside a list of texts. -/
import Derived.Test.YtkbmfookdhlphaaDkp
namespace Go.Proofs.Ytkbmfookdhlphaa
open Go.RowKit Go.Maps Go.Sort

def TT (fs : FS) (t : ByteArray) : Prop := ∃ ks, Srt fs ks ∧ t = accB fs ks
theorem TT.uniq {fs : FS} {t t' : ByteArray} (h : TT fs t) (h' : TT fs t') : t = t' := by
  obtain ⟨ks, h1, rfl⟩ := h
  obtain ⟨ks', h2, rfl⟩ := h'
  rw [h1.uniq h2]
structure Pre (M : Md) (S : List ByteArray) : Prop where
  un : ∀ y ∈ M.done, y.1 = 1
  st : ∀ j, j < M.done.length → ∃ t ∈ S, TT (rep (M.done.take j) M.dur) t
structure Inv (M : Md) (S : List ByteArray) : Prop where
  un : ∀ y ∈ M.done, y.1 = 1
  st : ∀ j, j ≤ M.done.length → ∃ t ∈ S, TT (rep (M.done.take j) M.dur) t
theorem Inv.pre {M : Md} {S : List ByteArray} (h : Inv M S) : Pre M S := ⟨h.un, fun j hj => h.st j (by omega)⟩
theorem Pre.told {M : Md} {S : List ByteArray} (h : Pre M S) (hm : OkM M) {t : ByteArray} (ht : TT M.files t) : Inv M (S ++ [t]) := by
  refine ⟨h.un, fun j hj => ?_⟩
  by_cases hj2 : j < M.done.length
  · obtain ⟨u, h1, h2⟩ := h.st j hj2
    exact ⟨u, List.mem_append_left _ h1, h2⟩
  · refine ⟨t, by simp, ?_⟩
    rw [List.take_of_length_le (by omega), ← hm.fl]
    exact ht
theorem Inv.step {M : Md} {S : List ByteArray} (h : Inv M S) (x : Dd) : Pre (stepM M x 1) S := by
  refine ⟨fun y hy => ?_, fun j hj => ?_⟩
  · rcases List.mem_append.1 hy with hy | hy
    · exact h.un y hy
    · rw [List.mem_singleton.1 hy]
  · have hj2 : j < (M.done ++ [(1, x)]).length := hj
    rw [List.length_append] at hj2
    simp only [List.length_cons, List.length_nil] at hj2
    show ∃ t ∈ S, TT (rep ((M.done ++ [(1, x)]).take j) M.dur) t
    rw [List.take_append_of_le_length (by omega)]
    exact h.st j (by omega)
theorem Inv.mv {M : Md} {S : List ByteArray} (h : Inv M S) (x : Dd) (E : Int) : Pre (mv E (stepM M x 1) M) S := by
  unfold Proofs.Ytkbmfookdhlphaa.mv
  split
  · exact h.step x
  · exact h.pre
theorem pre_sync (M : Md) : Pre (syncM M) [] := ⟨fun y hy => (by cases hy), fun j hj => (by simp [syncM] at hj)⟩
theorem inv0 : Inv M0 [⟨#[]⟩] := by
  refine ⟨fun y hy => (by cases hy), fun j _ => ⟨_, List.mem_singleton.2 rfl, [], ⟨List.Pairwise.nil, List.nodup_nil, fun k => ?_⟩, rfl⟩⟩
  have e : rep (M0.done.take j) M0.dur = fs0 := by
    show rep (([] : List (Nat × Dd)).take j) fs0 = fs0
    rw [List.take_nil]; rfl
  rw [e]
  simp [fs0]
theorem mkD_one (l : List (Nat × Dd)) : ∀ (fs : FS) (u : Nat), (∀ y ∈ l, y.1 = 1) → mkD l u fs = rep (l.take u) fs := by
  induction l with
  | nil => intro fs u _; rw [List.take_nil]; rfl
  | cons y l ih =>
    intro fs u h
    obtain ⟨v, x⟩ := y
    have hv : v = 1 := h (v, x) (by simp)
    subst hv
    cases u with
    | zero => unfold mkD; rw [if_pos (by simp)]; rfl
    | succ u =>
      unfold mkD
      have e1 : min (u + 1) 1 = 1 := by omega
      rw [e1, if_neg (by omega), Nat.add_sub_cancel, ih _ _ (fun y hy => h y (by simp [hy])), List.take_succ_cons]
      rfl
theorem Inv.crash {M : Md} {S : List ByteArray} (h : Inv M S) (pick : Int) : ∃ t ∈ S, TT (crashM pick M).files t := by
  show ∃ t ∈ S, TT (mkD M.done (pickN pick (sumU M.done)) M.dur) t
  rw [mkD_one _ _ _ h.un]
  by_cases hj : pickN pick (sumU M.done) ≤ M.done.length
  · exact h.st _ hj
  · have := h.st M.done.length (Nat.le_refl _)
    rw [List.take_of_length_le (Nat.le_refl _)] at this
    rw [List.take_of_length_le (by omega)]
    exact this
section
variable {w wr : World} {p : Nat} {M : Md} {cnt : Nat} {v : Value} {S : List ByteArray}
theorem Cst.okm (h : Cst w wr p M cnt) : OkM M := by
  obtain ⟨F, q1, _, _⟩ := h; exact q1.2
theorem kst_new (h : Cst w wr p M cnt) (T : ByteArray) : Kst w (wr.alloc (.cells #[.string T] 9)) p M cnt (.slice (some ⟨wr.heap.size, 0, none⟩) 1 1) [T] :=
  ⟨h.below (below1 _ _), ⟨rfl, .inr ⟨wr.heap.size, 1, #[.string T], rfl, h.bel.size, heap_alloc_new wr _, Nat.le_refl _, by unfold maxLen; omega, rfl, rfl⟩⟩, fun e => by cases e⟩
theorem told_k (h : Kst w wr p M cnt v S) : Calls Try.prog 15 #[.pointer (some ⟨p, 0, none⟩)] wr fun e w' => ∃ t, e = .returned (.string t) ∧ TT M.files t ∧ Below wr.heap.size wr w' := by
  obtain ⟨⟨F, q1, q2, q3⟩, _, _⟩ := h
  refine (told_st p cnt M F wr q1).mono ?_
  rintro e w' ⟨ks, hk, rfl, hb⟩
  exact ⟨_, rfl, ⟨ks, hk, rfl⟩, hb⟩
theorem append_k (s : ByteArray) (a : Option Addr) (cap : Nat) (b : UInt8) (h : Kst w wr p M cnt v S) (hi : Inv M S) (hB : Bs wr a [b]) (hnn : a ≠ none) (hc : cnt + 1 ≤ 2199023255552) : Calls Try.prog 14 #[.pointer (some ⟨p, 0, none⟩), .string s, .slice a 1 cap] wr fun e w' => ∃ E M', e = .returned (.int .i64 E) ∧ Kst w w' p M' (cnt + 1) v S ∧ Pre M' S ∧ K31 wr w' := by
  obtain ⟨F, q1, q2, q3⟩ := id h.1
  refine (append_st s a cap [b] p cnt M F wr q1 hB (fun e => absurd e hnn) hc).mono ?_
  rintro e w' ⟨m, F', _, rfl, g1, g2⟩
  obtain ⟨k1, k2⟩ := h.fr q1 q2 g1 g2
  exact ⟨_, _, rfl, k1, hi.mv _ _, k2⟩
theorem put_k (s : ByteArray) (a : Option Addr) (cap : Nat) (d : List UInt8) (h : Kst w wr p M cnt v S) (hi : Inv M S) (hB : Bs w a d) (hnn : a = none → d = []) (hc : cnt + 1 ≤ 2199023255552) : Calls Try.prog 16 #[.pointer (some ⟨p, 0, none⟩), .string s, .slice a d.length cap] wr fun e w' => ∃ E M', e = .returned (.int .i64 E) ∧ Kst w w' p M' (cnt + 1) v S ∧ Pre M' S ∧ K31 wr w' := by
  obtain ⟨F, q1, q2, q3⟩ := id h.1
  refine (put_st s a cap d p cnt M F wr q1 (hB.grow q3) hnn hc).mono ?_
  rintro e w' ⟨m, F', _, rfl, g1, g2⟩
  obtain ⟨k1, k2⟩ := h.fr q1 q2 g1 g2
  exact ⟨_, _, rfl, k1, hi.mv _ _, k2⟩
theorem remove_k (s : ByteArray) (h : Kst w wr p M cnt v S) (hi : Inv M S) (hc : cnt + 1 ≤ 2199023255552) : Calls Try.prog 17 #[.pointer (some ⟨p, 0, none⟩), .string s] wr fun e w' => ∃ E M', e = .returned (.int .i64 E) ∧ Kst w w' p M' (cnt + 1) v S ∧ Pre M' S ∧ K31 wr w' := by
  obtain ⟨F, q1, q2, q3⟩ := id h.1
  refine (remove_st s p cnt M F wr q1 hc).mono ?_
  rintro e w' ⟨F', rfl, g1, g2⟩
  obtain ⟨k1, k2⟩ := h.fr q1 q2 g1 g2
  exact ⟨_, _, rfl, k1, hi.mv _ _, k2⟩
theorem rename_k (s s2 : ByteArray) (h : Kst w wr p M cnt v S) (hi : Inv M S) (hc : cnt + 1 ≤ 2199023255552) : Calls Try.prog 18 #[.pointer (some ⟨p, 0, none⟩), .string s, .string s2] wr fun e w' => ∃ E M', e = .returned (.int .i64 E) ∧ Kst w w' p M' (cnt + 1) v S ∧ Pre M' S ∧ K31 wr w' := by
  obtain ⟨F, q1, q2, q3⟩ := id h.1
  refine (rename_st s s2 p cnt M F wr q1 hc).mono ?_
  rintro e w' ⟨F', rfl, g1, g2⟩
  obtain ⟨k1, k2⟩ := h.fr q1 q2 g1 g2
  exact ⟨_, _, rfl, k1, hi.mv _ _, k2⟩
theorem Kst.more (h : Kst w wr p M cnt v S) (hc : cnt + 1 ≤ 4398046511104) : Kst w wr p M (cnt + 1) v S := ⟨h.1.more hc, h.2⟩
theorem cut_k (n : Int) (h : Kst w wr p M cnt v S) (hi : Inv M S) (hc : cnt + 1 ≤ 2199023255552) : Calls Try.prog 19 #[.pointer (some ⟨p, 0, none⟩), .int .i64 n] wr fun e w' => ∃ E M', e = .returned (.int .i64 E) ∧ Kst w w' p M' (cnt + 1) v S ∧ Pre M' S ∧ K31 wr w' := by
  by_cases hn : 0 ≤ n ∧ n ≤ 1099511627776
  · obtain ⟨F, q1, q2, q3⟩ := id h.1
    refine (cut_st n p cnt M F wr q1 hn).mono ?_
    rintro e w' ⟨rfl, g1, g2⟩
    obtain ⟨k1, k2⟩ := h.fr q1 q2 g1 g2
    exact ⟨_, _, rfl, k1.more (by omega), ⟨hi.pre.un, hi.pre.st⟩, k2⟩
  · refine (cut_no p n wr (by omega)).mono ?_
    rintro e w' ⟨rfl, rfl⟩
    exact ⟨_, _, rfl, h.more (by omega), hi.pre, fun _ _ _ _ => rfl⟩
theorem sync_k0 (h : Kst w wr p M cnt v S) (hc : cnt + 1 ≤ 2199023255552) (hl : M.left ≠ 0) : Calls Try.prog 20 #[.pointer (some ⟨p, 0, none⟩)] wr fun e w' => e = .returned (.int .i64 0) ∧ Kst w w' p (syncM M) (cnt + 1) v S ∧ K31 wr w' := by
  obtain ⟨F, q1, q2, q3⟩ := id h.1
  refine (sync_st p cnt M F wr q1 (by omega)).mono ?_
  rintro e w' ⟨F', rfl, g1, g2⟩
  have e0 : syE M = 0 := if_neg hl
  rw [e0, mv_0] at g1
  obtain ⟨k1, k2⟩ := h.fr q1 q2 g1 g2
  exact ⟨by rw [e0], k1.more (by omega), k2⟩
theorem sync_k1 (h : Kst w wr p M cnt v S) (hc : cnt + 1 ≤ 2199023255552) (hl : M.left = 0) : Calls Try.prog 20 #[.pointer (some ⟨p, 0, none⟩)] wr fun e w' => e = .returned (.int .i64 11) ∧ Kst w w' p M (cnt + 1) v S ∧ K31 wr w' := by
  obtain ⟨F, q1, q2, q3⟩ := id h.1
  refine (sync_st p cnt M F wr q1 (by omega)).mono ?_
  rintro e w' ⟨F', rfl, g1, g2⟩
  have e0 : syE M = 11 := if_pos hl
  rw [e0, mv_ne (by decide)] at g1
  obtain ⟨k1, k2⟩ := h.fr q1 q2 g1 g2
  exact ⟨by rw [e0], k1.more (by omega), k2⟩
theorem crash_k (pick : Int) (h : Kst w wr p M cnt v S) (hc : cnt ≤ 2199023255552) : Calls Try.prog 21 #[.pointer (some ⟨p, 0, none⟩), .int .i64 pick] wr fun e w' => e = .returned (.tuple #[]) ∧ Kst w w' p (crashM pick M) cnt v S := by
  obtain ⟨F, q1, q2, q3⟩ := id h.1
  refine (crash_st pick p cnt M F wr q1 hc).mono ?_
  rintro e w' ⟨F', rfl, g1, g2⟩
  exact ⟨rfl, (h.fr q1 q2 g1 g2).1⟩
theorem Kst.form (h : Kst w wr p M cnt v S) : ∃ a cap, v = .slice a S.length cap := by
  rcases h.2.1.2 with ⟨e, e2⟩ | ⟨g, cap, cur, e, _⟩
  · exact ⟨none, 0, by rw [e, e2]⟩
  · exact ⟨_, cap, e⟩
theorem Kst.cell (h : Kst w wr p M cnt v S) {i : Nat} {t : ByteArray} (hi : S[i]? = some t) : ∃ g cap, v = .slice (some ⟨g, 0, none⟩) S.length cap ∧ g < wr.heap.size ∧ wr.cell? ⟨g, i, none⟩ = some (.string t) := by
  have hlt := (List.getElem?_eq_some_iff.1 hi).1
  rcases h.2.1.2 with ⟨_, e⟩ | ⟨g, cap, cur, e, _, h4, h5, h6, h7, h8⟩
  · omega
  · refine ⟨g, cap, e, heap_lt h4, ?_⟩
    rw [cell_of_row wr g i cur 9 (0, 0) h4]
    have : (S.map Value.string)[i]? = some (.string t) := by rw [List.getElem?_map, hi]; rfl
    rw [← h8, List.getElem?_take, if_pos (by omega)] at this
    simpa using this
end
end Go.Proofs.Ytkbmfookdhlphaa
