/- What is known of the states in between, kept from call to call. -/
import Derived.Test.YtkbmfookdhlphaaRcr
namespace Go.Proofs.Ytkbmfookdhlphaa
open Go.RowKit Go.Sort

theorem Lst.of_srt {fs : FS} {ks : List Nm} (h : Srt fs ks) : Lst (ks.map fun k => ⟨⟨⟨k⟩⟩, none, 0, (fs k).getD []⟩) fs := by
  obtain ⟨h1, h2, h3⟩ := h
  refine ⟨?_, fun f hf => ?_, fun k d hk => ?_⟩
  · rw [List.pairwise_map]
    have h4 : ks.Pairwise (fun a b => a ≤ b ∧ a ≠ b) := List.Pairwise.and h1 h2
    exact h4.imp (fun hab => Std.lt_of_le_of_ne hab.1 hab.2)
  · obtain ⟨k, hk, rfl⟩ := List.mem_map.1 hf
    obtain ⟨d, hd⟩ := Option.isSome_iff_exists.1 ((h3 k).1 hk)
    show fs k = some ((fs k).getD [])
    rw [hd]; rfl
  · exact ⟨_, List.mem_map.2 ⟨k, (h3 k).2 (by rw [hk]; rfl), rfl⟩, rfl⟩
theorem Card.lst {fs : FS} {m : Nat} (h : Card fs m) : ∃ l, Lst l fs ∧ l.length = m := by
  obtain ⟨ks, hk, rfl⟩ := h
  exact ⟨_, Lst.of_srt hk, by rw [List.length_map]⟩
theorem wo_lt {l : List Fe} {s : ByteArray} {f : Fe} (hf : f ∈ l) (hk : f.k = s.data.toList) : (wo l s).length + 1 ≤ l.length := by
  unfold wo
  have := List.length_filter_lt_length_iff_exists (l := l) (p := fun f => !(f.nm.toList == s.toList))
  exact this.2 ⟨f, hf, by rw [keq, hk]; simp⟩
theorem Card.put {fs : FS} {m m' : Nat} {n : Nm} {d : List UInt8} (h : Card fs m) (h' : Card (fup fs n (some d)) m') : m' ≤ m + 1 ∧ ((fs n).isSome = true → m' ≤ m) := by
  obtain ⟨l, hl, rfl⟩ := h.lst
  have h1 := hl.wi ⟨⟨⟨n⟩⟩, none, 0, d⟩
  have h2 : (wi l ⟨⟨⟨n⟩⟩, none, 0, d⟩).length = m' := Card.len h1 h'
  have h3 : (wi l ⟨⟨⟨n⟩⟩, none, 0, d⟩).length = (wo l ⟨⟨n⟩⟩).length + 1 := by
    unfold wi
    simp only [List.length_append, List.length_take, List.length_drop, List.length_cons, List.length_nil]
    omega
  have h4 := wo_len l ⟨⟨n⟩⟩
  refine ⟨by omega, fun hs => ?_⟩
  obtain ⟨d0, hd⟩ := Option.isSome_iff_exists.1 hs
  obtain ⟨f, hf, hk⟩ := hl.all n d0 hd
  have := wo_lt (s := ⟨⟨n⟩⟩) hf hk
  omega
theorem Card.del {fs : FS} {m m' : Nat} {n : Nm} (h : Card fs m) (h' : Card (fup fs n none) m') : m' ≤ m ∧ ((fs n).isSome = true → m' + 1 ≤ m) := by
  obtain ⟨l, hl, rfl⟩ := h.lst
  have h1 : Lst (wo l ⟨⟨n⟩⟩) (fup fs n none) := hl.wo ⟨⟨n⟩⟩
  have h2 : (wo l ⟨⟨n⟩⟩).length = m' := Card.len h1 h'
  have h4 := wo_len l ⟨⟨n⟩⟩
  refine ⟨by omega, fun hs => ?_⟩
  obtain ⟨d0, hd⟩ := Option.isSome_iff_exists.1 hs
  obtain ⟨f, hf, hk⟩ := hl.all n d0 hd
  have := wo_lt (s := ⟨⟨n⟩⟩) hf hk
  omega
theorem Card.has {l : List Fe} {fs : FS} (h : Lst l fs) : Card fs l.length := ⟨_, h.srt, by rw [List.length_map]⟩
theorem RkM.step {M : Md} (h : RkM M) (ho : OkM M) {x : Dd} {u : Nat} (hx : isRn x M.files) (hf : ∀ m, Card (doD x u M.files) m → m ≤ 64) : RkM (stepM M x u) := by
  refine ⟨fun k m hm => ?_, fun k y hy => ?_⟩
  · have hm : Card (rep ((M.done ++ [(u, x)]).take k) M.dur) m := hm
    by_cases hk : k ≤ M.done.length
    · rw [List.take_append_of_le_length hk] at hm
      exact h.few k m hm
    · rw [List.take_of_length_le (by simp; omega), rep_snoc, ← ho.fl] at hm
      exact hf m hm
  · have hy : (M.done ++ [(u, x)])[k]? = some y := hy
    show isRn y.2 (rep ((M.done ++ [(u, x)]).take k) M.dur)
    by_cases hk : k < M.done.length
    · rw [List.getElem?_append_left hk] at hy
      rw [List.take_append_of_le_length (Nat.le_of_lt hk)]
      exact h.rn k y hy
    · have hk' := (List.getElem?_eq_some_iff.1 hy).1
      have e : k = M.done.length := by simp at hk'; omega
      subst e
      rw [List.getElem?_append_right (Nat.le_refl _), Nat.sub_self] at hy
      cases hy
      rw [List.take_append_of_le_length (Nat.le_refl _), List.take_length, ← ho.fl]
      exact hx
theorem RkM.flat {fl du : FS} {lf : Int} (h : ∀ m, Card du m → m ≤ 64) : RkM ⟨fl, du, [], lf⟩ :=
  ⟨fun k m hm => h m (by have hm : Card (rep (([] : List (Nat × Dd)).take k) du) m := hm; rw [List.take_nil] at hm; exact hm), fun k y hy => (by have hy : ([] : List (Nat × Dd))[k]? = some y := hy; simp at hy)⟩
theorem RkM.files {M : Md} (h : RkM M) (ho : OkM M) : ∀ m, Card M.files m → m ≤ 64 := fun m hm => h.few M.done.length m (by rw [List.take_length, ← ho.fl]; exact hm)
theorem RkM.left {M : Md} (h : RkM M) (n : Int) : RkM ⟨M.files, M.dur, M.done, n⟩ := ⟨h.few, h.rn⟩
theorem RkM.sync {M : Md} (h : RkM M) (ho : OkM M) : RkM (syncM M) := RkM.flat (fun m hm => h.files ho m (by rw [ho.fl]; exact hm))
/- part of what a deed does: as many files -/
theorem few_part {fs : FS} {x : Dd} {u v : Nat} (h : ∀ m, Card (doD x v fs) m → m ≤ 64) : ∀ m, Card (doD x u fs) m → m ≤ 64 := by
  cases x with
  | ap n d =>
    intro m hm
    obtain ⟨ks, ⟨h1, h2, h3⟩, rfl⟩ := hm
    refine h ks.length ⟨ks, ⟨h1, h2, fun k => ?_⟩, rfl⟩
    rw [h3 k]
    show (fup fs n _ k).isSome = true ↔ (fup fs n _ k).isSome = true
    rw [isSome_fup, isSome_fup]
    rfl
  | pt n d => exact h
  | rm n => exact h
  | rn a b => exact h
theorem few_mkD (l : List (Nat × Dd)) : ∀ (fs : FS) (u : Nat), (∀ k m, Card (rep (l.take k) fs) m → m ≤ 64) → ∀ m, Card (mkD l u fs) m → m ≤ 64 := by
  induction l with
  | nil => intro fs u h m hm; exact h 0 m hm
  | cons y l ih =>
    intro fs u h m hm
    obtain ⟨v, x⟩ := y
    unfold mkD at hm
    by_cases h0 : min u v = 0
    · rw [if_pos h0] at hm; exact h 0 m hm
    · rw [if_neg h0] at hm
      by_cases hv : v ≤ u
      · rw [Nat.min_eq_right hv] at hm
        exact ih _ _ (fun k => h (k + 1)) m hm
      · rw [Nat.min_eq_left (by omega), Nat.sub_self] at hm
        have e : mkD l 0 (doD x u fs) = doD x u fs := by
          cases l with
          | nil => rfl
          | cons z l => simp [mkD]
        rw [e] at hm
        exact few_part (h 1) m hm
theorem RkM.crash {M : Md} (h : RkM M) (pick : Int) : RkM (crashM pick M) := RkM.flat (few_mkD M.done M.dur _ h.few)
theorem RkM.ap {M : Md} (h : RkM M) (ho : OkM M) {n : Nm} {d : List UInt8} {u m : Nat} (hc : Card M.files m) {sz : Int} (hr : roomB sz (M.files n).isSome m = true) : RkM (stepM M (.ap n d) u) := by
  refine h.step ho trivial (fun m' hm' => ?_)
  have h1 := Card.put hc hm'
  have h2 := h.files ho m hc
  unfold roomB at hr
  rw [Bool.and_eq_true, Bool.or_eq_true] at hr
  rcases hr.2 with e | e
  · have := h1.2 e; omega
  · have := of_decide_eq_true e; omega
theorem RkM.pt {M : Md} (h : RkM M) (ho : OkM M) {n : Nm} {d : List UInt8} {u m : Nat} (hc : Card M.files m) {sz : Int} (hr : roomB sz (M.files n).isSome m = true) : RkM (stepM M (.pt n d) u) := by
  refine h.step ho trivial (fun m' hm' => ?_)
  have h1 := Card.put hc hm'
  have h2 := h.files ho m hc
  unfold roomB at hr
  rw [Bool.and_eq_true, Bool.or_eq_true] at hr
  rcases hr.2 with e | e
  · have := h1.2 e; omega
  · have := of_decide_eq_true e; omega
theorem RkM.rm {M : Md} (h : RkM M) (ho : OkM M) {n : Nm} {u m : Nat} (hc : Card M.files m) : RkM (stepM M (.rm n) u) := by
  refine h.step ho trivial (fun m' hm' => ?_)
  have h1 := Card.del hc hm'
  have h2 := h.files ho m hc
  omega
theorem RkM.rnm {M : Md} (h : RkM M) (ho : OkM M) {na nb : Nm} {u m : Nat} (hc : Card M.files m) (hy : (M.files na).isSome = true) : RkM (stepM M (.rn na nb) u) := by
  refine h.step ho hy (fun m' hm' => ?_)
  obtain ⟨l, hl, hlm⟩ := hc.lst
  have h0 : Lst (wo l ⟨⟨na⟩⟩) (fup M.files na none) := hl.wo ⟨⟨na⟩⟩
  have h1 := (Card.del hc (Card.has h0)).2 hy
  have h2 := Card.put (Card.has h0) hm'
  have h3 := h.files ho m hc
  omega
theorem rkM0 : RkM M0 := RkM.flat (fun m hm => by
  obtain ⟨ks, ⟨_, _, h3⟩, rfl⟩ := hm
  cases ks with
  | nil => exact Nat.zero_le _
  | cons k ks => have := (h3 k).1 (by simp); cases this)
end Go.Proofs.Ytkbmfookdhlphaa
