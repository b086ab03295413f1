/- What Unframe tells of a part of a frame: nothing, and nothing wrong. -/
import Derived.Test.YtpbokgeaolpiaaaUfr
namespace Go.Proofs.Ytpbokgeaolpiaaa
open Go.RowKit

theorem take_take (l : List UInt8) (a b : Nat) (h : a ≤ b) : (l.take b).take a = l.take a := by rw [List.take_take, Nat.min_eq_left h]
theorem drop_take (l : List UInt8) (p a b : Nat) (h : p + a ≤ b) : ((l.take b).drop p).take a = (l.drop p).take a := by
  rw [List.drop_take, List.take_take, Nat.min_eq_left (by omega)]
/- of a part of a frame nothing is taken -/
theorem unf_part (k p : Nat) (b : List UInt8) (c : Nat) (hp : p ≤ 1099511627776) (hb : b.length ≤ 1048576) (hc : c < b.length + 15) : unf ((fr k p b).take c) = ⟨0, 0, [], 0, 0⟩ := by
  have hl : ((fr k p b).take c).length = c := by rw [List.length_take, fr_length]; omega
  unfold unf
  by_cases h11 : c < 11
  · rw [if_pos (by omega)]
  have e := fr_length k p b
  have hN : uN ((fr k p b).take c) = b.length := by
    have := uN_fr k p b [] hb
    rw [List.append_nil] at this
    rw [← this]
    unfold uN
    rw [take_take _ _ _ (by omega)]
  have hP : uP ((fr k p b).take c) = p := by
    have := uP_fr k p b [] hp
    rw [List.append_nil] at this
    refine Eq.trans ?_ this
    unfold uP
    rw [drop_take _ _ _ _ (by omega)]
  rw [hN, hP, if_neg (by omega), if_neg (by omega), if_pos (by omega)]
end Go.Proofs.Ytpbokgeaolpiaaa
