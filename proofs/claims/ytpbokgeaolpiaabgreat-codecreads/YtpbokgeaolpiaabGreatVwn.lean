/- What the writer does with a number, a truth and bytes, whatever they are. Made by program (wip/gen/wr.py). -/
import Derived.Test.YtpbokgeaolpiaabGreatVrep
namespace Go.Proofs.YtpbokgeaolpiaabGreat
open Go.RowKit

theorem WR.bad {w : World} {p : Nat} {l : List UInt8} {bad : Bool} {prot : Nat → Prop} (h : WR w p l bad prot) : WR (w.setCell ⟨p, 1, none⟩ (.bool true)) p l true prot ∧ Kp w (w.setCell ⟨p, 1, none⟩ (.bool true)) prot := by
  obtain ⟨h1, h2, h3, v, h4, h5, h6, h7, h8, h9⟩ := h
  have hk : ∀ k, k ≠ p → (w.setCell ⟨p, 1, none⟩ (.bool true)).heap[k]? = w.heap[k]? := fun k hk => Below.heap_setCell w ⟨p, 1, none⟩ _ k hk
  refine ⟨⟨h1, fun b hb => by have := h2 b hb; simpa using this, by simpa using h3, v, ?_, ?_, ?_, ?_, h8.kept (fun k e => hk k (h9 k e).1), h9⟩, ⟨rfl, rfl, rfl, by simp, fun k x => hk k (fun e => h1 (e ▸ x))⟩⟩
  · rw [World.cell?_setCell_other w _ _ _ (by simp)]; exact h4
  · exact World.cell?_setCell_same w _ _ h5
  · rw [World.frozen?_setCell]; exact h6
  · rw [World.frozen?_setCell]; exact h7

theorem WR.grow {w w' : World} {p : Nat} {l : List UInt8} {bad : Bool} {prot : Nat → Prop} (h : WR w p l bad prot) (hb : Below w.heap.size w w') : WR w' p l bad prot := by
  obtain ⟨h1, h2, h3, v, h4, h5, h6, h7, h8, h9⟩ := h
  have e := hb.block p h3
  exact ⟨h1, fun b x => Nat.lt_of_lt_of_le (h2 b x) hb.size, Nat.lt_of_lt_of_le h3 hb.size, v, (World.cell?_of_block (a := ⟨p, 0, none⟩) e).trans h4, (World.cell?_of_block (a := ⟨p, 1, none⟩) e).trans h5,
    (World.frozen?_of_block (a := ⟨p, 0, none⟩) e).trans h6, (World.frozen?_of_block (a := ⟨p, 1, none⟩) e).trans h7, h8.below hb, h9⟩
theorem kp_below {w w' : World} (hb : Below w.heap.size w w') (prot : Nat → Prop) (h : ∀ b, prot b → b < w.heap.size) : Kp w w' prot := ⟨hb.os, hb.tape, hb.output, hb.size, fun k hk => hb.block k (h k hk)⟩

set_option maxHeartbeats 400000 in
theorem number_w (p : Nat) (l : List UInt8) (bad : Bool) (prot : Nat → Prop) (n : Int) (w : World) (hl : l.length + 6 ≤ 137438953472) (h : WR w p l bad prot) :
    Calls Tryz.prog 65 #[.pointer (some ⟨p, 0, none⟩), .int .i64 n] w fun e w' => e = .returned (.tuple #[]) ∧ WR w' p (l ++ (enN n).1) (bad || (enN n).2) prot ∧ Kp w w' prot := by
  by_cases hn : -1099511627776 ≤ n ∧ n ≤ 1099511627776
  · have e : enN n = (enc n, false) := by unfold enN; rw [if_pos hn]
    rw [e]
    simp only [Bool.or_false]
    exact number_ok p l bad prot n w hn.1 hn.2 (by omega) h
  · have e : enN n = ([], true) := by unfold enN; rw [if_neg hn]
    rw [e]
    simp only [Bool.or_true, List.append_nil]
    have hb := h.bad
    obtain ⟨h1, h2, h3, v, h4, h5, h6, h7, h8, h9⟩ := h
    have H2 : Hid _ := h2
    have H9 : Hid _ := h9
    have H1 : Hid _ := h1
    have HB : Hid _ := hb
    clear h1 h2 h9 hb e h8
    by_cases hlo : n < -1099511627776
    · clear hn
      go_enter Tryz.func65, Tryz.ntmps65
      go_wp2
      (try simp only [Exit.inBlock, Exit.then]); refine bodyPost_ret (results_none rfl _ _ _) rfl ?_
      exact ⟨rfl, HB.out⟩
    · have hhi : 1099511627776 < n := by omega
      clear hn
      go_enter Tryz.func65, Tryz.ntmps65
      go_wp2
      (try simp only [Exit.inBlock, Exit.then]); refine bodyPost_ret (results_none rfl _ _ _) rfl ?_
      exact ⟨rfl, HB.out⟩

set_option maxHeartbeats 400000 in
theorem truth_w (p : Nat) (l : List UInt8) (bad : Bool) (prot : Nat → Prop) (b : Bool) (w : World) (hl : l.length + 6 ≤ 137438953472) (h : WR w p l bad prot) :
    Calls Tryz.prog 86 #[.pointer (some ⟨p, 0, none⟩), .bool b] w fun e w' => e = .returned (.tuple #[]) ∧ WR w' p (l ++ (en .tru b).1) (bad || (en .tru b).2) prot ∧ Kp w w' prot := by
  show Calls Tryz.prog 86 #[.pointer (some ⟨p, 0, none⟩), .bool b] w fun e w' => e = .returned (.tuple #[]) ∧ WR w' p (l ++ ((enc (if b = true then 1 else 0), false)).1) (bad || ((enc (if b = true then 1 else 0), false)).2) prot ∧ Kp w w' prot
  simp only [Bool.or_false]
  cases b with
  | false =>
    simp only [Bool.false_eq_true, if_false]
    go_enter Tryz.func86, Tryz.ntmps86
    go_wp2_with fail
    refine (number_ok p l bad prot 0 w (by omega) (by omega) (by omega) h).mono ?_
    rintro e w' ⟨rfl, hW, hK⟩
    go_wp2
    go_end0
    exact ⟨rfl, hW, hK⟩
  | true =>
    simp only [if_true]
    go_enter Tryz.func86, Tryz.ntmps86
    go_wp2_with fail
    refine (number_ok p l bad prot 1 w (by omega) (by omega) (by omega) h).mono ?_
    rintro e w' ⟨rfl, hW, hK⟩
    go_wp2
    (try simp only [Exit.inBlock, Exit.then]); refine bodyPost_ret (results_none rfl _ _ _) rfl ?_
    exact ⟨rfl, hW, hK⟩


/- a store of the grown row into the writer, behind an append -/
theorem WR.store0 {w w1 : World} {p : Nat} {l' : List UInt8} {bad : Bool} {prot : Nat → Prop} {v v' : Value} (h1 : ¬ prot p) (h2 : ∀ b, prot b → b < w.heap.size) (h3 : p < w.heap.size)
    (h5 : w.cell? ⟨p, 1, none⟩ = some (.bool bad)) (h6 : w.frozen? ⟨p, 0, none⟩ = false) (h7 : w.frozen? ⟨p, 1, none⟩ = false) (h9 : ∀ r, v.ownBlock = some r → r ≠ p ∧ ¬ prot r) (h4 : w.cell? ⟨p, 0, none⟩ = some v)
    (o1 : Own w1 v' l') (s1 : Stp w w1 v.ownBlock v'.ownBlock) : WR (w1.setCell ⟨p, 0, none⟩ v') p l' bad prot ∧ Kp w (w1.setCell ⟨p, 0, none⟩ v') prot ∧ w1.cell? ⟨p, 0, none⟩ = some v ∧ w1.frozen? ⟨p, 0, none⟩ = false := by
  have hv : ∀ r, v'.ownBlock = some r → r ≠ p ∧ ¬ prot r := by
    intro r hr
    rcases s1.row with e | ⟨k, e, hk⟩
    · exact h9 r (by rw [← e]; exact hr)
    · rw [hr] at e; cases e
      exact ⟨by omega, fun x => by have := h2 r x; omega⟩
  have hp := s1.block p h3 (fun e => (h9 p e.symm).1 rfl)
  have c0 : w1.cell? ⟨p, 0, none⟩ = some v := (World.cell?_of_block hp).trans h4
  have hsz := s1.size
  have hk : ∀ k, k ≠ p → (w1.setCell ⟨p, 0, none⟩ v').heap[k]? = w1.heap[k]? := fun k hk => Below.heap_setCell w1 ⟨p, 0, none⟩ v' k hk
  refine ⟨⟨h1, fun b hb => by have := h2 b hb; simp; omega, by simp; omega, v', ?_, ?_, ?_, ?_, o1.kept (fun k e => hk k (hv k e).1), hv⟩, ⟨s1.os, s1.tape, s1.output, by simp; omega, fun k x => ?_⟩, c0, (World.frozen?_of_block hp).trans h6⟩
  · exact World.cell?_setCell_same w1 _ _ c0
  · rw [World.cell?_setCell_other w1 _ _ _ (by simp)]; exact (World.cell?_of_block hp).trans h5
  · rw [World.frozen?_setCell]; exact (World.frozen?_of_block hp).trans h6
  · rw [World.frozen?_setCell]; exact (World.frozen?_of_block hp).trans h7
  · rw [hk k (fun e => h1 (e ▸ x))]
    exact s1.block k (h2 k x) (fun e => (h9 k e.symm).2 x)


set_option maxHeartbeats 400000 in
theorem bytes_w (p : Nat) (l : List UInt8) (bad : Bool) (prot S : Nat → Prop) (a : Option Addr) (c : Nat) (v : List UInt8) (w : World) (hl : l.length + 65542 ≤ 137438953472) (hS : ∀ b, S b → prot b) (hr : RepB w S a v) (h : WR w p l bad prot) :
    Calls Tryz.prog 88 #[.pointer (some ⟨p, 0, none⟩), .slice a v.length c] w fun e w' => e = .returned (.tuple #[]) ∧ WR w' p (l ++ (en .byt v).1) (bad || (en .byt v).2) prot ∧ Kp w w' prot := by
  have hl2 : l.length + 65542 ≤ 137438953472 := hl
  by_cases hbig : v.length ≤ 65536
  · have e0 : en .byt v = (enc (v.length : Int) ++ v, false) := by show (if _ then _ else _) = _; rw [if_pos hbig]
    rw [e0]
    simp only [Bool.or_false]
    have e1 : Hid (enN (v.length : Int) = (enc (v.length : Int), false)) := by show _ = _; unfold enN; rw [if_pos (by omega)]
    have HEL : Hid ((enc (v.length : Int)).length ≤ 6) := enc_length _ (by omega) (by omega)
    have HSP : Hid (∀ b, S b → prot b) := hS
    clear hl e0 hS
    go_enter Tryz.func88, Tryz.ntmps88
    go_wp2_with fail
    refine (number_w p l bad prot (v.length : Int) w (by omega) h).mono ?_
    rintro e w1 ⟨rfl, hW1, hK1⟩
    rw [e1.out] at hW1
    simp only [Bool.or_false] at hW1
    have HR : Hid (RepB w1 S a v) := hr.keep hK1 HSP.out
    obtain ⟨q1, q2, q3, v1, q4, q5, q6, q7, q8, q9⟩ := hW1
    obtain ⟨a1, c1, hv, hbs⟩ := q8.form
    subst hv
    have H2 : Hid _ := q2
    have H9 : Hid _ := q9
    have H1 : Hid _ := q1
    clear q1 q2 q9 hbs hr
    have hlb : Hid ((l ++ enc (v.length : Int)).length + v.length ≤ 211106232532992) := by
      show _ ≤ _
      have := HEL.out
      rw [List.length_append]; omega
    obtain ⟨m, hm⟩ : ∃ m, Hid (m = l ++ enc (v.length : Int)) := ⟨_, rfl⟩
    rw [← hm.out] at q4 q8 hlb
    go_wp2_with (at_builtin; refine wpList_append_b _ rfl (.tmp 18) (.tmp 19) rfl (.slice a1 m.length c1) m rfl q8 (.slice a v.length c) v rfl ?src ?len ?next)
    case src => exact HR.out.1.src Tryz.underlying22 c
    case len => exact hlb.out
    case next =>
      intro v' w2 o1 s1
      obtain ⟨hW2, hK2, k1, d1⟩ := WR.store0 H1.out H2.out q3 q5 q6 q7 (by rw [hm.out]; exact H9.out) q4 o1 s1
      obtain ⟨a', c', hv', _⟩ := o1.form
      subst hv'
      rw [List.length_append] at hW2 hK2
      have HW2 : Hid (WR _ _ _ _ _) := hW2
      clear hW2 o1 s1
      go_wp2
      go_end0
      refine ⟨rfl, ?_, hK1.trans hK2⟩
      have e : l ++ (enc (v.length : Int) ++ v) = m ++ v := by rw [hm.out, List.append_assoc]
      rw [e]
      exact HW2.out
  · have e0 : en .byt v = ([], true) := by show (if _ then _ else _) = _; rw [if_neg hbig]
    rw [e0]
    simp only [Bool.or_true, List.append_nil]
    have HB : Hid _ := h.bad
    obtain ⟨h1, h2, h3, v, h4, h5, h6, h7, h8, h9⟩ := h
    clear h1 h2 h9 h8 hr hl hl2 e0
    go_enter Tryz.func88, Tryz.ntmps88
    go_wp2
    (try simp only [Exit.inBlock, Exit.then]); refine bodyPost_ret (results_none rfl _ _ _) rfl ?_
    exact ⟨rfl, HB.out⟩

end Go.Proofs.YtpbokgeaolpiaabGreat
