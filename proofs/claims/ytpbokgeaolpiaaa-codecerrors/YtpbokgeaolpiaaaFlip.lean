/- A frame that was changed in up to 32 bits side by side, behind its length, is never taken: what the document's Unframe tells of it. Plain mathematics. -/
import Derived.Test.YtpbokgeaolpiaaaCrc
import Derived.Test.YtpbokgeaolpiaaaTorn
namespace Go.Proofs.Ytpbokgeaolpiaaa
open Go.RowKit

theorem crc_fr (k p : Nat) (b : List UInt8) : crc (fr k p b) = itS 32 4294967295 := (sum_right (fr0 k p b) (lo4 (nsum (fr0 k p b))) rfl).1 rfl
theorem unf_changed (k p : Nat) (b l' : List UInt8) (hb : b.length ≤ 1048576) (hl : l'.length = b.length + 15) (h4 : l'.take 4 = (fr k p b).take 4) (s x : Nat) (hx : x < 4294967296) (hs : s ≤ 8 * (b.length + 15)) (h0 : x ≠ 0)
    (h : le l' = le (fr k p b) ^^^ (x * 2 ^ s)) : unf l' = ⟨0, 0, [], 0, 10⟩ := by
  have hN : uN l' = b.length := by
    have := uN_fr k p b [] hb
    rw [List.append_nil] at this
    refine Eq.trans ?_ this
    unfold uN
    rw [h4]
  unfold unf
  rw [hN, if_neg (by omega)]
  by_cases hP : 1048576 < b.length ∨ 1099511627776 < uP l'
  · rw [if_pos hP]
  rw [if_neg hP, if_neg (by omega), if_pos]
  intro he
  have hc : ((l'.drop (11 + b.length)).take 4).length = 4 := by simp only [List.length_take, List.length_drop]; omega
  have hsp : l'.take (11 + b.length) ++ (l'.drop (11 + b.length)).take 4 = l' := by
    rw [take_two l' (11 + b.length) 4 (b.length + 15) (by omega), List.take_of_length_le (by omega)]
  have := (sum_right _ _ hc).1 he
  rw [hsp] at this
  exact h0 (crc_change (fr k p b) l' (by rw [hl, fr_length]) s x hx (by rw [fr_length]; exact hs) h (by rw [this, crc_fr]))

/- one bit turned -/
theorem le_set (l : List UInt8) (i : Nat) (y : UInt8) (m : Nat) (hi : i < l.length) (hy : y.toNat = bn l i ^^^ m) : le (l.set i y) = le l ^^^ (m * 256 ^ i) := by
  induction l generalizing i with
  | nil => simp at hi
  | cons b r ih =>
    cases i with
    | zero =>
      have hb : bn (b :: r) 0 = b.toNat := rfl
      rw [hb] at hy
      rw [List.set_cons_zero, le, le, Nat.pow_zero, Nat.mul_one, hy, xor_low _ _ (by rw [← hy]; exact y.toNat_lt), xor_low _ _ b.toNat_lt, Nat.xor_assoc, Nat.xor_assoc, Nat.xor_comm m]
    | succ i =>
      have hb : bn (b :: r) (i + 1) = bn r i := rfl
      rw [hb] at hy
      rw [List.set_cons_succ, le, le, ih i (by simpa using hi) hy, xor_low _ _ b.toNat_lt, xor_low _ _ b.toNat_lt, Nat.xor_assoc]
      congr 1
      have e : m * 256 ^ (i + 1) = 256 * (m * 256 ^ i) := by rw [Nat.pow_succ, ← Nat.mul_assoc, Nat.mul_comm]
      rw [e]
      have d := Nat.shiftLeft_xor_distrib (a := le r) (b := m * 256 ^ i) (i := 8)
      simp only [Nat.shiftLeft_eq] at d
      rw [show (2 : Nat) ^ 8 = 256 from rfl] at d
      rw [Nat.mul_comm 256, Nat.mul_comm 256, Nat.mul_comm 256, d]
theorem flip_step (l f : List UInt8) (t k x : Nat) (hx : x < 2 ^ k) (h : le l = le f ^^^ (x * 2 ^ (32 + t))) (y : UInt8) (hi : 4 + (t + k) / 8 < l.length) (hy : y.toNat = bn l (4 + (t + k) / 8) ^^^ 2 ^ ((t + k) % 8)) :
    le (l.set (4 + (t + k) / 8) y) = le f ^^^ ((x + 2 ^ k) * 2 ^ (32 + t)) ∧ x + 2 ^ k < 2 ^ (k + 1) := by
  refine ⟨?_, by rw [Nat.pow_succ]; omega⟩
  rw [le_set l _ y _ hi hy, h, Nat.xor_assoc]
  congr 1
  have e1 : 2 ^ ((t + k) % 8) * 256 ^ (4 + (t + k) / 8) = 2 ^ k * 2 ^ (32 + t) := by
    rw [show (256 : Nat) = 2 ^ 8 from rfl, ← Nat.pow_mul, ← Nat.pow_add, ← Nat.pow_add]
    congr 1
    omega
  have e2 : x + 2 ^ k = x ^^^ 2 ^ k := by
    have := Nat.two_pow_add_eq_or_of_lt hx 1
    rw [Nat.mul_one] at this
    rw [Nat.add_comm, this]
    apply Nat.eq_of_testBit_eq
    intro i
    rw [Nat.testBit_or, Nat.testBit_xor]
    by_cases hik : i = k
    · subst hik
      rw [Nat.testBit_lt_two_pow hx]; simp
    · have : (2 ^ k).testBit i = false := by rw [Nat.testBit_two_pow]; simp; omega
      rw [this]; simp
  have d := Nat.shiftLeft_xor_distrib (a := x) (b := 2 ^ k) (i := 32 + t)
  simp only [Nat.shiftLeft_eq] at d
  rw [e1, e2, d]
theorem take_set (l : List UInt8) (i n : Nat) (y : UInt8) (h : n ≤ i) : (l.set i y).take n = l.take n := by
  apply List.ext_getElem?
  intro j
  rw [List.getElem?_take, List.getElem?_take]
  split
  · rw [List.getElem?_set]; rw [if_neg (by omega)]
  · rfl
end Go.Proofs.Ytpbokgeaolpiaaa
