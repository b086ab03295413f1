/- What the document's writer does with bytes, whatever they are. Made by program (wip/gen/out.py). -/
import Derived.Test.YtcdoejdbmllnnabGreatVon
import Derived.Test.YtcdoejdbmllnnabGreatVrz
namespace Go.Proofs.YtcdoejdbmllnnabGreat
open Go.RowKit

set_option maxHeartbeats 400000 in
theorem bytes_o (p : Nat) (l : List UInt8) (bad : Bool) (prot S : Nat → Prop) (a : Option Addr) (c : Nat) (v : List UInt8) (w : World) (hl : l.length + szb .byt v ≤ 137438953472) (hS : ∀ b, S b → prot b) (hr : RepB w S a v) (h : WR w p l bad prot) :
    Calls Tryz.prog 43 #[.pointer (some ⟨p, 0, none⟩), .slice a v.length c] w fun e w' => e = .returned (.tuple #[]) ∧ WR w' p (l ++ (enR .byt v).1) (bad || (enR .byt v).2) prot ∧ Kp w w' prot := by
  have hl2 : Hid (l.length + (6 + v.length) ≤ 137438953472) := hl
  have HSP : Hid (∀ b, S b → prot b) := hS
  have HNL : Hid ((enN (v.length : Int)).1.length ≤ 6) := enN_len _
  have hM := h.mark (bad || decide (65536 < (v.length : Int)))
  have HR1 : Hid (RepB (w.setCell ⟨p, 1, none⟩ (.bool (bad || decide (65536 < (v.length : Int))))) S a v) := hr.keep hM.2 hS
  have HM : Hid _ := hM
  obtain ⟨h1, h2, h3, v0, h4, h5, h6, h7, h8, h9⟩ := h
  clear h1 h2 h9 h8 hM hl hS hr
  cases bad with
  | true =>
    simp only [Bool.true_or] at HM HR1
    go_enter Tryz.func43, Tryz.ntmps43
    go_wp2_with fail
    refine (num_o p l true prot (v.length : Int) _ (by have := hl2.out; omega) HM.out.1).mono ?_
    rintro e w1 ⟨rfl, hW1, hK1⟩
    have HR : Hid (RepB w1 S a v) := HR1.out.keep hK1 HSP.out
    obtain ⟨q1, q2, q3, v1, q4, q5, q6, q7, q8, q9⟩ := hW1
    obtain ⟨a1, c1, hv, hbs⟩ := q8.form
    subst hv
    have H2 : Hid _ := q2
    have H9 : Hid _ := q9
    have H1 : Hid _ := q1
    clear q1 q2 q9 hbs
    have hlb : Hid ((l ++ (enN (v.length : Int)).1).length + v.length ≤ 211106232532992) := by
      show _ ≤ _
      have := HNL.out
      have := hl2.out
      rw [List.length_append]; omega
    obtain ⟨m, hm⟩ : ∃ m, Hid (m = l ++ (enN (v.length : Int)).1) := ⟨_, rfl⟩
    rw [← hm.out] at q4 q8 hlb
    go_wp2_with (at_builtin; refine wpList_append_b _ rfl (.tmp 24) (.tmp 25) rfl (.slice a1 m.length c1) m rfl q8 (.slice a v.length c) v rfl ?src ?len ?next)
    case src => exact HR.out.1.src Tryz.underlying32 c
    case len => exact hlb.out
    case next =>
      intro v' w2 o1 s1
      obtain ⟨hW2, hK2, k1, d1⟩ := WR.store0 H1.out H2.out q3 q5 q6 q7 (by rw [hm.out]; exact H9.out) q4 o1 s1
      obtain ⟨a', c', hv', _⟩ := o1.form
      subst hv'
      rw [List.length_append] at hW2 hK2
      have HW2 : Hid (WR _ _ _ _ _) := hW2
      clear hW2 o1 s1
      go_wp2
      go_end0
      refine ⟨rfl, ?_, HM.out.2.trans (hK1.trans hK2)⟩
      have e : l ++ ((enN (v.length : Int)).1 ++ v) = m ++ v := by rw [hm.out, List.append_assoc]
      show WR _ p (l ++ ((enN (v.length : Int)).1 ++ v)) (true || (decide (65536 < (v.length : Int)) || (enN (v.length : Int)).2)) prot
      rw [e]
      simpa using HW2.out

  | false =>
    simp only [Bool.false_or] at HM HR1
    go_enter Tryz.func43, Tryz.ntmps43
    go_wp2_with fail
    refine (num_o p l (decide (65536 < (v.length : Int))) prot (v.length : Int) _ (by have := hl2.out; omega) HM.out.1).mono ?_
    rintro e w1 ⟨rfl, hW1, hK1⟩
    have HR : Hid (RepB w1 S a v) := HR1.out.keep hK1 HSP.out
    obtain ⟨q1, q2, q3, v1, q4, q5, q6, q7, q8, q9⟩ := hW1
    obtain ⟨a1, c1, hv, hbs⟩ := q8.form
    subst hv
    have H2 : Hid _ := q2
    have H9 : Hid _ := q9
    have H1 : Hid _ := q1
    clear q1 q2 q9 hbs
    have hlb : Hid ((l ++ (enN (v.length : Int)).1).length + v.length ≤ 211106232532992) := by
      show _ ≤ _
      have := HNL.out
      have := hl2.out
      rw [List.length_append]; omega
    obtain ⟨m, hm⟩ : ∃ m, Hid (m = l ++ (enN (v.length : Int)).1) := ⟨_, rfl⟩
    rw [← hm.out] at q4 q8 hlb
    go_wp2_with (at_builtin; refine wpList_append_b _ rfl (.tmp 24) (.tmp 25) rfl (.slice a1 m.length c1) m rfl q8 (.slice a v.length c) v rfl ?src ?len ?next)
    case src => exact HR.out.1.src Tryz.underlying32 c
    case len => exact hlb.out
    case next =>
      intro v' w2 o1 s1
      obtain ⟨hW2, hK2, k1, d1⟩ := WR.store0 H1.out H2.out q3 q5 q6 q7 (by rw [hm.out]; exact H9.out) q4 o1 s1
      obtain ⟨a', c', hv', _⟩ := o1.form
      subst hv'
      rw [List.length_append] at hW2 hK2
      have HW2 : Hid (WR _ _ _ _ _) := hW2
      clear hW2 o1 s1
      go_wp2
      go_end0
      refine ⟨rfl, ?_, HM.out.2.trans (hK1.trans hK2)⟩
      have e : l ++ ((enN (v.length : Int)).1 ++ v) = m ++ v := by rw [hm.out, List.append_assoc]
      show WR _ p (l ++ ((enN (v.length : Int)).1 ++ v)) (false || (decide (65536 < (v.length : Int)) || (enN (v.length : Int)).2)) prot
      rw [e]
      simpa using HW2.out


end Go.Proofs.YtcdoejdbmllnnabGreat
