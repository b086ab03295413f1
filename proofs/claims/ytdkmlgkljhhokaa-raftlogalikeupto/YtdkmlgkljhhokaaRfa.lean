/- The document's log: New, Last, Term, Newer, come. -/
import Derived.Test.YtdkmlgkljhhokaaLgl
namespace Go.Proofs.Ytdkmlgkljhhokaa
open Go.RowKit

theorem rnew_yes (i t : Int) (w : World) (h : newB i t = true) : Calls Try.prog 10 #[.int .i64 i, .int .i64 t] w fun e w' => e = .returned (.pointer (some ⟨w.heap.size, 0, none⟩)) ∧ w' = w.alloc (.cells #[.int .i64 i, .int .i64 t, .slice none 0 0] 69) := by
  unfold newB isN at h
  simp only [Bool.and_eq_true, decide_eq_true_eq] at h
  obtain ⟨⟨⟨h1, h2⟩, h3, h4⟩, h5⟩ := h
  by_cases e1 : i = 0
  · have e2 : t = 0 := by subst e1; simpa using h5
    subst e1
    subst e2
    clear h5
    go_enter Try.func10, Try.ntmps10
    go_wp2
    go_ret
    exact ⟨rfl, rfl⟩
  · have e2 : t ≠ 0 := fun e => by subst e; simp [e1] at h5
    have e3 : (i == 0) = false := beq_false_of_ne e1
    have e4 : (t == 0) = false := beq_false_of_ne e2
    clear h5 e1 e2
    go_enter Try.func10, Try.ntmps10
    go_wp2
    go_ret
    exact ⟨rfl, rfl⟩
theorem rnew_no (i t : Int) (w : World) (h : newB i t = false) : Calls Try.prog 10 #[.int .i64 i, .int .i64 t] w fun e w' => e = .returned (.pointer none) ∧ w' = w := by
  have hc : i < 0 ∨ (¬ i < 0 ∧ 1099511627776 < i) ∨ (¬ i < 0 ∧ ¬ 1099511627776 < i ∧ t < 0) ∨ (¬ i < 0 ∧ ¬ 1099511627776 < i ∧ ¬ t < 0 ∧ 1099511627776 < t) ∨ (¬ i < 0 ∧ ¬ 1099511627776 < i ∧ ¬ t < 0 ∧ ¬ 1099511627776 < t ∧ i = 0 ∧ t ≠ 0) ∨ (¬ i < 0 ∧ ¬ 1099511627776 < i ∧ ¬ t < 0 ∧ ¬ 1099511627776 < t ∧ i ≠ 0 ∧ t = 0) := by
    apply Classical.byContradiction
    intro hn
    have : newB i t = true := by
      unfold newB isN
      simp only [Bool.and_eq_true, decide_eq_true_eq]
      refine ⟨⟨⟨by omega, by omega⟩, by omega, by omega⟩, ?_⟩
      by_cases e1 : i = 0
      · have e2 : t = 0 := by omega
        simp [e1, e2]
      · have e2 : t ≠ 0 := by omega
        simp [e1, e2]
    rw [h] at this
    cases this
  clear h
  rcases hc with h1 | ⟨h1, h2⟩ | ⟨h1, h2, h3⟩ | ⟨h1, h2, h3, h4⟩ | ⟨h1, h2, h3, h4, h5, h6⟩ | ⟨h1, h2, h3, h4, h5, h6⟩
  · go_enter Try.func10, Try.ntmps10
    go_wp2
    go_ret
    exact ⟨rfl, rfl⟩
  · go_enter Try.func10, Try.ntmps10
    go_wp2
    go_ret
    exact ⟨rfl, rfl⟩
  · go_enter Try.func10, Try.ntmps10
    go_wp2
    go_ret
    exact ⟨rfl, rfl⟩
  · go_enter Try.func10, Try.ntmps10
    go_wp2
    go_ret
    exact ⟨rfl, rfl⟩
  · have hb : (t == 0) = false := beq_false_of_ne h6
    subst h5
    clear h6
    go_enter Try.func10, Try.ntmps10
    go_wp2
    go_ret
    exact ⟨rfl, rfl⟩
  · have hb : (i == 0) = false := beq_false_of_ne h5
    subst h6
    clear h5
    go_enter Try.func10, Try.ntmps10
    go_wp2
    go_ret
    exact ⟨rfl, rfl⟩
section
variable {w0 w : World} {q : Nat} {M : Lg} {v : Value}
theorem endT_step {L : List En} {k : Nat} {e : En} (t : Int) (h : L[k]? = some e) : endT t (L.take (k + 1)) = e.tm := by
  obtain ⟨hl, rfl⟩ := List.getElem?_eq_some_iff.1 h
  rw [List.take_succ_eq_append_getElem hl, endT_snoc]
theorem rlast_any (h : LgR w0 w 69 q M v) : Calls Try.prog 32 #[.pointer (some ⟨q, 0, none⟩)] w fun e w' => e = .returned (.tuple #[.int .i64 (lastI M), .int .i64 (lastT M)]) ∧ w' = w := by
  obtain ⟨c0, c1, c2, hp, _⟩ := h.cells
  have HES := hidOf h.own.es
  obtain ⟨va, vc, hv⟩ := h.form
  subst hv
  have hl := h.len
  have HWF := hidOf h.wf
  clear h
  go_enter Try.func32, Try.ntmps32
  go_wp2
  go_loopw [4, 5, 6] (fun iv tv kv wr => ∃ k : Nat, k ≤ M.L.length ∧ kv = .int .i64 (k : Int) ∧ iv = .int .i64 (M.bi + k) ∧ tv = .int .i64 (endT M.bt (M.L.take k)) ∧ wr = w) (fun _ _ kv _ => M.L.length - (intOf kv).toNat)
  case atStart => exact ⟨0, Nat.zero_le _, rfl, by simp, rfl, rfl⟩
  case round =>
    obtain ⟨k, hk, rfl, rfl, rfl, hwr⟩ := hrel
    subst wr
    by_cases hlt : k < M.L.length
    · have hltz : (k : Int) < (M.L.length : Int) := by omega
      obtain ⟨e, he⟩ : ∃ e, M.L[k]? = some e := ⟨_, List.getElem?_eq_getElem hlt⟩
      obtain ⟨b, off, cap, c, hv, hb, d0, d1, _, _⟩ := HES.out.at he
      cases hv
      have HIX : Hid (e.ix = M.bi + ((k + 1 : Nat) : Int) ∧ endT M.bt (M.L.take (k + 1)) = e.tm) := hidOf ⟨by have := (HWF.out.at he).1; push_cast; omega, endT_step _ he⟩
      clear he
      generalize endT M.bt (M.L.take k) = tk at *
      obtain ⟨ix, tm, op, id⟩ := e
      dsimp only at d0 d1 HIX
      go_wp2
      go_roundw
      case rel => exact ⟨k + 1, by omega, by go_num, by rw [HIX.out.1], by rw [HIX.out.2], by first | trivial | rfl⟩
      case measure => simp [intOf]; omega
    · have hltz : ¬ (k : Int) < (M.L.length : Int) := by omega
      have HE : Hid (lastI M = M.bi + k ∧ lastT M = endT M.bt (M.L.take k)) := hidOf ⟨by unfold lastI; omega, by unfold lastT; rw [List.take_of_length_le (by omega)]⟩
      generalize endT M.bt (M.L.take k) = tk at *
      go_wp2
      go_ret2
      exact ⟨by rw [HE.out.1, HE.out.2]; rfl, rfl⟩
theorem rterm_any (h : LgR w0 w 69 q M v) (i : Int) : Calls Try.prog 28 #[.pointer (some ⟨q, 0, none⟩), .int .i64 i] w fun e w' => e = .returned (.tuple #[.int .i64 (termT M i), .int .i64 (termE M i)]) ∧ w' = w := by
  obtain ⟨c0, c1, c2, hp, _⟩ := h.cells
  have HES := hidOf h.own.es
  obtain ⟨va, vc, hv⟩ := h.form
  subst hv
  have hl := h.len
  have HWF := hidOf h.wf
  by_cases h1 : i < M.bi
  · have HE : Hid (termT M i = 0 ∧ termE M i = 23) := hidOf ⟨if_pos h1, if_pos h1⟩
    rw [HE.out.1, HE.out.2]
    clear h HE
    go_enter Try.func28, Try.ntmps28
    go_wp2
    go_ret2
    exact ⟨rfl, rfl⟩
  · by_cases h3 : i = M.bi
    · have HE : Hid (termT M i = M.bt ∧ termE M i = 0) := by
        have h2 : ¬ lastI M < i := by have := h.wf.lastI_le; omega
        exact hidOf ⟨by unfold termT; rw [if_neg h1, if_neg h2, if_pos h3], by unfold termE; rw [if_neg h1, if_neg h2]⟩
      rw [HE.out.1, HE.out.2]
      subst h3
      clear h HE
      go_enter Try.func28, Try.ntmps28
      go_wp2
      go_ret2
      exact ⟨rfl, rfl⟩
    · have hb3 : (i == M.bi) = false := beq_false_of_ne h3
      clear h
      go_enter Try.func28, Try.ntmps28
      go_wp2
      go_loopw [6] (fun kv wr => ∃ k : Nat, k ≤ M.L.length ∧ kv = .int .i64 (k : Int) ∧ ¬ i ≤ M.bi + k ∧ wr = w) (fun kv _ => M.L.length - (intOf kv).toNat)
      case atStart => exact ⟨0, Nat.zero_le _, rfl, by simp; omega, rfl⟩
      case round =>
        obtain ⟨k, hk, rfl, hik, hwr⟩ := hrel
        subst wr
        by_cases hlt : k < M.L.length
        · have hltz : (k : Int) < (M.L.length : Int) := by omega
          obtain ⟨e, he⟩ : ∃ e, M.L[k]? = some e := ⟨_, List.getElem?_eq_getElem hlt⟩
          obtain ⟨b, off, cap, c, hv, hb, d0, d1, _, _⟩ := HES.out.at he
          cases hv
          have hix := (HWF.out.at he).1
          by_cases hie : e.ix = i
          · have HE : Hid (termT M i = e.tm ∧ termE M i = 0) := hidOf ⟨by have := termT_at he; rw [← hix, hie] at this; exact this, by unfold termE lastI; rw [if_neg (by omega), if_neg (by omega)]⟩
            clear he
            obtain ⟨ix, tm, op, id⟩ := e
            dsimp only at d0 d1 HE hie
            subst hie
            clear hix
            go_wp2
            go_ret2
            exact ⟨by rw [HE.out.1, HE.out.2]; rfl, rfl⟩
          · have hbe : (e.ix == i) = false := beq_false_of_ne hie
            have hi2 : ¬ i ≤ M.bi + ((k + 1 : Nat) : Int) := by push_cast; omega
            have HI2 := hidOf hi2
            clear he hix hi2
            obtain ⟨ix, tm, op, id⟩ := e
            dsimp only at d0 d1 hbe hie
            go_wp2
            go_roundw
            case rel => exact ⟨k + 1, by omega, by go_num, HI2.out, by first | trivial | rfl⟩
            case measure => simp [intOf]; omega
        · have hltz : ¬ (k : Int) < (M.L.length : Int) := by omega
          have HE : Hid (termT M i = 0 ∧ termE M i = 3) := hidOf ⟨by unfold termT lastI; rw [if_neg (by omega), if_pos (by omega)], by unfold termE lastI; rw [if_neg (by omega), if_pos (by omega)]⟩
          go_wp2
          go_ret2
          exact ⟨by rw [HE.out.1, HE.out.2]; rfl, rfl⟩
theorem rnewer_any (h : LgR w0 w 69 q M v) (i t : Int) : Calls Try.prog 31 #[.pointer (some ⟨q, 0, none⟩), .int .i64 i, .int .i64 t] w fun e w' => e = .returned (.bool (newerB M i t)) ∧ w' = w := by
  have HL := hidOf (rlast_any h)
  have HN : Hid (newerB M i t = (decide (lastT M < t) || (decide (t = lastT M) && decide (lastI M ≤ i)))) := hidOf rfl
  rw [HN.out]
  clear h HN
  generalize lastI M = li at *
  generalize lastT M = lt at *
  by_cases h2 : t = lt
  · subst h2
    go_enter Try.func31, Try.ntmps31
    go_wp2_with (go_at_call 32; refine HL.out.mono ?_; rintro e w1 ⟨rfl, rfl⟩)
    go_ret
    exact ⟨by simp, rfl⟩
  · have h3 : (t == lt) = false := beq_false_of_ne h2
    have h4 : (t != lt) = true := bne_iff_ne.2 h2
    go_enter Try.func31, Try.ntmps31
    go_wp2_with (go_at_call 32; refine HL.out.mono ?_; rintro e w1 ⟨rfl, rfl⟩)
    go_ret
    exact ⟨by simp [h2], rfl⟩
end
end Go.Proofs.Ytdkmlgkljhhokaa
