/- The walk of the statement on Unframe: it returns true and changes nothing that was there. -/
import Derived.Test.YtpbokgeaolpiaaaKnow
import Derived.Test.YtpbokgeaolpiaaaRefU
namespace Go.Proofs.Ytpbokgeaolpiaaa
open Go.RowKit

theorem unf_body (l : List UInt8) : (unf l).body.length ≤ l.length := by
  unfold unf
  split
  · simp
  split
  · simp
  split
  · simp
  split
  · simp
  simp only [List.length_take, List.length_drop]; omega

set_option maxHeartbeats 800000 in
theorem lawUnframes (w : World) (a : Option Addr) (n cap : Nat) (l : List UInt8) (hn : n = l.length) (hcap : n ≤ cap) (h : Bs w a l) :
    Calls Try.prog 4 #[.slice a n cap] w fun e w' => e = .returned (.bool true) ∧ Below w.heap.size w w' := by
  have HN : Hid (n = l.length) := hn
  clear hn
  go_enter Try.func4, Try.ntmps4
  go_wp2_with fail
  refine (unframe_any a n cap l w HN.out hcap h).mono ?_
  rintro e w1 ⟨v1, rfl, o1, s1⟩
  have B1 := s1.belowN
  go_wp2_with fail
  refine (refUnframe_any a n cap l w1 HN.out hcap (h.grow B1)).mono ?_
  rintro e w2 ⟨v2, rfl, o2, s2⟩
  have B2 := B1.trans (s2.belowN.mono B1.size)
  have o12 := o1.below s2.belowN
  obtain ⟨a1, c1, hv1, hb1⟩ := o12.form
  obtain ⟨a2, c2, hv2, hb2⟩ := o2.form
  subst hv1
  subst hv2
  have hlen := h.1
  clear s1 s2 B1 o1 h
  have hlb : (unf l).body.length ≤ 211106232532992 := Nat.le_trans (unf_body l) (by have := HN.out; omega)
  generalize unf l = u at *
  go_wp2_with fail
  refine (same_any a1 a2 _ _ c1 c2 u.body u.body w2 rfl rfl (hb1 hlb) (hb2 hlb)).mono ?_
  rintro e w3 ⟨rfl, n3, hw3⟩
  have B3 : Below w.heap.size w w3 := by rw [hw3]; exact B2.trans ⟨rfl, rfl, rfl, Nat.le_refl _, fun _ _ => rfl⟩
  rw [decide_eq_true rfl]
  clear hw3 o12 o2 hb1 hb2
  go_wp2_with fail
  refine (known_any w3).mono ?_
  rintro e w4 ⟨rfl, B4⟩
  go_wp2
  go_ret
  exact ⟨rfl, B3.trans (B4.mono B3.size)⟩
end Go.Proofs.Ytpbokgeaolpiaaa
