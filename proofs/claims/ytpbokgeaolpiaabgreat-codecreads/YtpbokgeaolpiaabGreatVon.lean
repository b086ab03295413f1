/- What the document's own writer does with a number, a truth, a count, bytes and numbers. Made by program (wip/gen/out.py). -/
import Derived.Test.YtpbokgeaolpiaabGreatVref
import Derived.Test.YtpbokgeaolpiaabGreatVfm
namespace Go.Proofs.YtpbokgeaolpiaabGreat
open Go.RowKit

theorem contB_n2 (u : Nat) : 128 + (u : Int) % 128 = ((contB u).toNat : Int) := by rw [← contB_n]; omega
set_option maxHeartbeats 800000 in
set_option maxRecDepth 100000 in
theorem num_ok_o (p : Nat) (l : List UInt8) (bad : Bool) (prot : Nat → Prop) (n : Int) (w : World) (h0 : -1099511627776 ≤ n) (h1 : n ≤ 1099511627776) (hl : l.length ≤ 137438953472) (h : WR w p l bad prot) :
    Calls Tryz.prog 125 #[.pointer (some ⟨p, 0, none⟩), .int .i64 n] w fun e w' => e = .returned (.tuple #[]) ∧ WR w' p (l ++ enc n) bad prot ∧ Kp w w' prot := by
  have f0 : 0 ≤ foldN n := by unfold foldN; split <;> omega
  have f1 : foldN n ≤ 2199023255552 := by unfold foldN; split <;> omega
  obtain ⟨u0, hu0⟩ := Int.eq_ofNat_of_zero_le f0
  rw [hu0] at f1
  have HE2 : Hid (enc n = encU u0) := by show enc n = _; unfold enc; rw [hu0]; rfl
  clear f0
  by_cases hneg : n < 0
  · have HU : Hid (-2 * n - 1 = (u0 : Int)) := by show _ = _; rw [← hu0]; unfold foldN; rw [if_pos hneg]
    clear hu0
    go_enter Tryz.func125, Tryz.ntmps125
    go_wp2
    go_loopw [4] (fun t wr => ∃ u : Nat, ∃ m : List UInt8, u ≤ u0 ∧ t = .int .i64 u ∧ Hid (m ++ encU u = l ++ encU u0) ∧ WR wr p m bad prot ∧ Kp w wr prot) (fun t _ => (intOf t).toNat)
    case atStart => exact ⟨u0, l, Nat.le_refl _, by rw [← HU.out], rfl, h, Kp.refl _ _⟩
    case round =>
      obtain ⟨u, m, hu, rfl, hpre, hW, hK⟩ := hrel
      obtain ⟨q1, q2, q3, v, q4, q5, q6, q7, q8, q9⟩ := hW
      obtain ⟨a, c, hv, hbs⟩ := q8.form
      subst hv
      have H2 : Hid _ := q2
      have H9 : Hid _ := q9
      have H1 : Hid _ := q1
      clear q1 q2 q9 hbs
      have hml : Hid (m.length ≤ 137438953482) := by
        have e := congrArg List.length hpre.out
        rw [List.length_append, List.length_append] at e
        have := encU_length u0 5 (by omega)
        show m.length ≤ _
        omega
      by_cases hub : u < 128
      · have hpu : Hid (encU u = [lastB u]) := encU_small u hub
        go_wp2_with (at_builtin; refine wpList_append_b _ rfl (.tmp 42) (.tmp 45) rfl _ m rfl (q8.alloc _) _ [lastB u] rfl ?src ?len ?next)
        case src => exact src_one _ _ _ (lastB_n u hub) _ rfl
        case len => have := hml.out; simp only [List.length_cons, List.length_nil]; omega
        case next =>
          intro v' w1 o1 s1
          obtain ⟨hW1, hK1, c1, d1⟩ := WR.store _ H1.out H2.out q3 q5 q6 q7 H9.out q4 o1 s1
          obtain ⟨a', c', hv', _⟩ := o1.form
          subst hv'
          rw [show (m ++ [lastB u]).length = m.length + 1 from by simp] at hW1 hK1
          go_wp2
          go_end0
          refine ⟨rfl, ?_, hK.trans hK1⟩
          have e : l ++ enc n = m ++ [lastB u] := by rw [HE2.out, ← hpre.out, hpu.out]
          rw [e]
          exact hW1
      · have hpu : Hid (encU u = contB u :: encU (u / 128)) := encU_big u hub
        go_wp2_with (at_builtin; refine wpList_append_b _ rfl (.tmp 27) (.tmp 32) rfl _ m rfl (q8.alloc _) _ [contB u] rfl ?src ?len ?next)
        case src => exact src_one _ _ _ (contB_n2 u) _ rfl
        case len => have := hml.out; simp only [List.length_cons, List.length_nil]; omega
        case next =>
          intro v' w1 o1 s1
          obtain ⟨hW1, hK1, c1, d1⟩ := WR.store _ H1.out H2.out q3 q5 q6 q7 H9.out q4 o1 s1
          obtain ⟨a', c', hv', _⟩ := o1.form
          subst hv'
          rw [show (m ++ [contB u]).length = m.length + 1 from by simp] at hW1 hK1
          go_wp2
          refine ⟨⟨u / 128, m ++ [contB u], by omega, by go_num, ?_, hW1, hK.trans hK1⟩, by simp [intOf]; omega⟩
          show m ++ [contB u] ++ encU (u / 128) = _
          rw [← hpre.out, hpu.out, List.append_assoc]; rfl

  · have HU : Hid (2 * n = (u0 : Int)) := by show _ = _; rw [← hu0]; unfold foldN; rw [if_neg hneg]
    clear hu0
    go_enter Tryz.func125, Tryz.ntmps125
    go_wp2
    go_loopw [4] (fun t wr => ∃ u : Nat, ∃ m : List UInt8, u ≤ u0 ∧ t = .int .i64 u ∧ Hid (m ++ encU u = l ++ encU u0) ∧ WR wr p m bad prot ∧ Kp w wr prot) (fun t _ => (intOf t).toNat)
    case atStart => exact ⟨u0, l, Nat.le_refl _, by rw [← HU.out], rfl, h, Kp.refl _ _⟩
    case round =>
      obtain ⟨u, m, hu, rfl, hpre, hW, hK⟩ := hrel
      obtain ⟨q1, q2, q3, v, q4, q5, q6, q7, q8, q9⟩ := hW
      obtain ⟨a, c, hv, hbs⟩ := q8.form
      subst hv
      have H2 : Hid _ := q2
      have H9 : Hid _ := q9
      have H1 : Hid _ := q1
      clear q1 q2 q9 hbs
      have hml : Hid (m.length ≤ 137438953482) := by
        have e := congrArg List.length hpre.out
        rw [List.length_append, List.length_append] at e
        have := encU_length u0 5 (by omega)
        show m.length ≤ _
        omega
      by_cases hub : u < 128
      · have hpu : Hid (encU u = [lastB u]) := encU_small u hub
        go_wp2_with (at_builtin; refine wpList_append_b _ rfl (.tmp 42) (.tmp 45) rfl _ m rfl (q8.alloc _) _ [lastB u] rfl ?src ?len ?next)
        case src => exact src_one _ _ _ (lastB_n u hub) _ rfl
        case len => have := hml.out; simp only [List.length_cons, List.length_nil]; omega
        case next =>
          intro v' w1 o1 s1
          obtain ⟨hW1, hK1, c1, d1⟩ := WR.store _ H1.out H2.out q3 q5 q6 q7 H9.out q4 o1 s1
          obtain ⟨a', c', hv', _⟩ := o1.form
          subst hv'
          rw [show (m ++ [lastB u]).length = m.length + 1 from by simp] at hW1 hK1
          go_wp2
          go_end0
          refine ⟨rfl, ?_, hK.trans hK1⟩
          have e : l ++ enc n = m ++ [lastB u] := by rw [HE2.out, ← hpre.out, hpu.out]
          rw [e]
          exact hW1
      · have hpu : Hid (encU u = contB u :: encU (u / 128)) := encU_big u hub
        go_wp2_with (at_builtin; refine wpList_append_b _ rfl (.tmp 27) (.tmp 32) rfl _ m rfl (q8.alloc _) _ [contB u] rfl ?src ?len ?next)
        case src => exact src_one _ _ _ (contB_n2 u) _ rfl
        case len => have := hml.out; simp only [List.length_cons, List.length_nil]; omega
        case next =>
          intro v' w1 o1 s1
          obtain ⟨hW1, hK1, c1, d1⟩ := WR.store _ H1.out H2.out q3 q5 q6 q7 H9.out q4 o1 s1
          obtain ⟨a', c', hv', _⟩ := o1.form
          subst hv'
          rw [show (m ++ [contB u]).length = m.length + 1 from by simp] at hW1 hK1
          go_wp2
          refine ⟨⟨u / 128, m ++ [contB u], by omega, by go_num, ?_, hW1, hK.trans hK1⟩, by simp [intOf]; omega⟩
          show m ++ [contB u] ++ encU (u / 128) = _
          rw [← hpre.out, hpu.out, List.append_assoc]; rfl

set_option maxHeartbeats 400000 in
theorem num_o (p : Nat) (l : List UInt8) (bad : Bool) (prot : Nat → Prop) (n : Int) (w : World) (hl : l.length + 6 ≤ 137438953472) (h : WR w p l bad prot) :
    Calls Tryz.prog 125 #[.pointer (some ⟨p, 0, none⟩), .int .i64 n] w fun e w' => e = .returned (.tuple #[]) ∧ WR w' p (l ++ (enN n).1) (bad || (enN n).2) prot ∧ Kp w w' prot := by
  by_cases hn : -1099511627776 ≤ n ∧ n ≤ 1099511627776
  · rw [enN_ok n hn.1 hn.2]
    simp only [Bool.or_false]
    exact num_ok_o p l bad prot n w hn.1 hn.2 (by omega) h
  · have e : enN n = ([], true) := by unfold enN; rw [if_neg hn]
    rw [e]
    simp only [Bool.or_true, List.append_nil]
    have HB : Hid _ := h.bad
    obtain ⟨h1, h2, h3, v, h4, h5, h6, h7, h8, h9⟩ := h
    clear h1 h2 h9 e h8
    by_cases hlo : n < -1099511627776
    · clear hn
      go_enter Tryz.func125, Tryz.ntmps125
      go_wp2
      (try simp only [Exit.inBlock, Exit.then]); refine bodyPost_ret (results_none rfl _ _ _) rfl ?_
      exact ⟨rfl, HB.out⟩
    · have hhi : 1099511627776 < n := by omega
      clear hn
      go_enter Tryz.func125, Tryz.ntmps125
      go_wp2
      (try simp only [Exit.inBlock, Exit.then]); refine bodyPost_ret (results_none rfl _ _ _) rfl ?_
      exact ⟨rfl, HB.out⟩

set_option maxHeartbeats 400000 in
theorem flag_o (p : Nat) (l : List UInt8) (bad : Bool) (prot : Nat → Prop) (b : Bool) (w : World) (hl : l.length + 6 ≤ 137438953472) (h : WR w p l bad prot) :
    Calls Tryz.prog 138 #[.pointer (some ⟨p, 0, none⟩), .bool b] w fun e w' => e = .returned (.tuple #[]) ∧ WR w' p (l ++ (enR .tru b).1) (bad || (enR .tru b).2) prot ∧ Kp w w' prot := by
  show Calls Tryz.prog 138 #[.pointer (some ⟨p, 0, none⟩), .bool b] w fun e w' => e = .returned (.tuple #[]) ∧ WR w' p (l ++ ((enc (if b = true then 1 else 0), false)).1) (bad || ((enc (if b = true then 1 else 0), false)).2) prot ∧ Kp w w' prot
  simp only [Bool.or_false]
  cases b with
  | false =>
    simp only [Bool.false_eq_true, if_false]
    go_enter Tryz.func138, Tryz.ntmps138
    go_wp2_with fail
    refine (num_ok_o p l bad prot 0 w (by omega) (by omega) (by omega) h).mono ?_
    rintro e w' ⟨rfl, hW, hK⟩
    go_wp2
    go_end0
    exact ⟨rfl, hW, hK⟩
  | true =>
    simp only [if_true]
    go_enter Tryz.func138, Tryz.ntmps138
    go_wp2_with fail
    refine (num_ok_o p l bad prot 1 w (by omega) (by omega) (by omega) h).mono ?_
    rintro e w' ⟨rfl, hW, hK⟩
    go_wp2
    go_end0
    exact ⟨rfl, hW, hK⟩

/- the mark is set anew -/
theorem WR.mark {w : World} {p : Nat} {l : List UInt8} {bad : Bool} {prot : Nat → Prop} (h : WR w p l bad prot) (b : Bool) : WR (w.setCell ⟨p, 1, none⟩ (.bool b)) p l b prot ∧ Kp w (w.setCell ⟨p, 1, none⟩ (.bool b)) prot := by
  obtain ⟨h1, h2, h3, v, h4, h5, h6, h7, h8, h9⟩ := h
  have hk : ∀ k, k ≠ p → (w.setCell ⟨p, 1, none⟩ (.bool b)).heap[k]? = w.heap[k]? := fun k hk => Below.heap_setCell w ⟨p, 1, none⟩ _ k hk
  refine ⟨⟨h1, fun b hb => by have := h2 b hb; simpa using this, by simpa using h3, v, ?_, ?_, ?_, ?_, h8.kept (fun k e => hk k (h9 k e).1), h9⟩, ⟨rfl, rfl, rfl, by simp, fun k x => hk k (fun e => h1 (e ▸ x))⟩⟩
  · rw [World.cell?_setCell_other w _ _ _ (by simp)]; exact h4
  · exact World.cell?_setCell_same w _ _ h5
  · rw [World.frozen?_setCell]; exact h6
  · rw [World.frozen?_setCell]; exact h7

set_option maxHeartbeats 400000 in
theorem count_o (p : Nat) (l : List UInt8) (bad : Bool) (prot : Nat → Prop) (n : Int) (w : World) (hl : l.length + 6 ≤ 137438953472) (h : WR w p l bad prot) :
    Calls Tryz.prog 128 #[.pointer (some ⟨p, 0, none⟩), .int .i64 n] w fun e w' => e = .returned (.tuple #[]) ∧ WR w' p (l ++ (enN n).1) (bad || (decide (64 < n) || (enN n).2)) prot ∧ Kp w w' prot := by
  have hM := h.mark (bad || decide (64 < n))
  have HM : Hid _ := hM
  obtain ⟨h1, h2, h3, v, h4, h5, h6, h7, h8, h9⟩ := h
  clear h1 h2 h9 h8 hM
  cases bad with
  | true =>
    simp only [Bool.true_or] at HM ⊢
    go_enter Tryz.func128, Tryz.ntmps128
    go_wp2_with fail
    refine (num_o p l true prot n _ hl HM.out.1).mono ?_
    rintro e w' ⟨rfl, hW, hK⟩
    simp only [Bool.true_or] at hW
    go_wp2
    go_end0
    exact ⟨rfl, hW, HM.out.2.trans hK⟩
  | false =>
    simp only [Bool.false_or] at HM ⊢
    go_enter Tryz.func128, Tryz.ntmps128
    go_wp2_with fail
    refine (num_o p l (decide (64 < n)) prot n _ hl HM.out.1).mono ?_
    rintro e w' ⟨rfl, hW, hK⟩
    go_wp2
    go_end0
    exact ⟨rfl, hW, HM.out.2.trans hK⟩

end Go.Proofs.YtpbokgeaolpiaabGreat
