/- The sum tells every change of up to 32 bits side by side: the register is a linear map without a kernel. Plain mathematics, nothing here speaks of a program. -/
import Derived.Test.YtpbokgeaolpiaaaMath
namespace Go.Proofs.Ytpbokgeaolpiaaa
open Go.RowKit

theorem xorLC (a b c : Nat) : a ^^^ (b ^^^ c) = b ^^^ (a ^^^ c) := by rw [← Nat.xor_assoc, Nat.xor_comm a b, Nat.xor_assoc]
theorem xor_zero_eq (a b : Nat) (h : a ^^^ b = 0) : a = b := by
  have : (a ^^^ b) ^^^ b = 0 ^^^ b := by rw [h]
  rw [Nat.xor_assoc, Nat.xor_self, Nat.xor_zero, Nat.zero_xor] at this
  exact this
theorem xor_div2 (a b : Nat) : (a ^^^ b) / 2 = (a / 2) ^^^ (b / 2) := by
  have := Nat.shiftRight_xor_distrib (a := a) (b := b) (i := 1)
  simpa [Nat.shiftRight_eq_div_pow] using this
theorem xor_mod2 (a b : Nat) : (a ^^^ b) % 2 = (a % 2 + b % 2) % 2 := by
  have := Nat.xor_mod_two_pow (a := a) (b := b) (n := 1)
  simp at this
  rw [this]
  have ha : a % 2 = 0 ∨ a % 2 = 1 := by omega
  have hb : b % 2 = 0 ∨ b % 2 = 1 := by omega
  rcases ha with ha | ha <;> rcases hb with hb | hb <;> simp [ha, hb]
theorem bitS_xor (a b : Nat) : bitS (a ^^^ b) = bitS a ^^^ bitS b := by
  unfold bitS
  rw [xor_mod2, xor_div2]
  have ha : a % 2 = 0 ∨ a % 2 = 1 := by omega
  have hb : b % 2 = 0 ∨ b % 2 = 1 := by omega
  rcases ha with ha | ha <;> rcases hb with hb | hb <;> simp [ha, hb]
  · rw [Nat.xor_assoc]
  · rw [Nat.xor_assoc, Nat.xor_assoc, Nat.xor_comm (b / 2)]
  · rw [Nat.xor_assoc, xorLC 2197175160 (b / 2), Nat.xor_self, Nat.xor_zero]
theorem itS_xor (n a b : Nat) : itS n (a ^^^ b) = itS n a ^^^ itS n b := by
  induction n with
  | zero => rfl
  | succ n ih => rw [itS, itS, itS, ih, bitS_xor]
theorem itS_add (n m s : Nat) : itS (n + m) s = itS n (itS m s) := by
  induction n with
  | zero => rw [Nat.zero_add]; rfl
  | succ n ih => rw [Nat.succ_add]; rw [itS, itS, ih]
theorem itS_shift (n x : Nat) : itS n (x * 2 ^ n) = x := by
  induction n generalizing x with
  | zero => simp [itS]
  | succ n ih =>
    rw [itS_add n 1]
    have : itS 1 (x * 2 ^ (n + 1)) = x * 2 ^ n := by
      show bitS (x * 2 ^ (n + 1)) = _
      unfold bitS
      rw [Nat.pow_succ, ← Nat.mul_assoc, Nat.mul_mod_left, if_neg (by omega), Nat.mul_div_cancel _ (by omega)]
    rw [this, ih]
theorem bitS_zero (s : Nat) (h : s < 4294967296) (h0 : bitS s = 0) : s = 0 := by
  unfold bitS at h0
  split at h0
  · have : s / 2 = 2197175160 := by
      have e : (s / 2 ^^^ 2197175160) ^^^ 2197175160 = 0 ^^^ 2197175160 := by rw [h0]
      rw [Nat.xor_assoc, Nat.xor_self, Nat.xor_zero, Nat.zero_xor] at e
      exact e
    omega
  · omega
theorem itS_zero (n s : Nat) (h : s < 4294967296) (h0 : itS n s = 0) : s = 0 := by
  induction n with
  | zero => exact h0
  | succ n ih => exact ih (bitS_zero _ (itS_lt n s h) h0)
theorem itS_inj (n a b : Nat) (ha : a < 4294967296) (hb : b < 4294967296) (h : itS n a = itS n b) : a = b := by
  have e : itS n (a ^^^ b) = 0 := by rw [itS_xor, h, Nat.xor_self]
  have := itS_zero n _ (xor_lt32 _ _ ha hb) e
  exact xor_zero_eq _ _ this

/- bytes as one number, the lowest first -/
def le : List UInt8 → Nat
  | [] => 0
  | b :: r => b.toNat + 256 * le r
theorem le_lt (l : List UInt8) : le l < 256 ^ l.length := by
  induction l with
  | nil => simp [le]
  | cons b r ih =>
    have := b.toNat_lt
    rw [le, List.length_cons, Nat.pow_succ]
    omega
theorem xor_low (b v : Nat) (h : b < 256) : b + 256 * v = b ^^^ (256 * v) := by
  have := Nat.two_pow_add_eq_or_of_lt (i := 8) h v
  rw [show (2 : Nat) ^ 8 = 256 from rfl] at this
  rw [Nat.add_comm, this]
  apply Nat.eq_of_testBit_eq
  intro i
  rw [Nat.testBit_or, Nat.testBit_xor]
  by_cases hi : i < 8
  · have : (256 * v).testBit i = false := by
      rw [show (256 : Nat) = 2 ^ 8 from rfl, Nat.testBit_two_pow_mul]; simp; omega
    rw [this]; simp
  · have : b.testBit i = false := Nat.testBit_lt_two_pow (Nat.lt_of_lt_of_le h (Nat.pow_le_pow_right (n := 2) (i := 8) (by omega) (by omega)))
    rw [this]; simp
theorem itS8_step (s b v : Nat) (h : b < 256) : itS 8 (s ^^^ (b + 256 * v)) = byteS s b ^^^ v := by
  rw [xor_low b v h, ← Nat.xor_assoc, itS_xor]
  have := itS_shift 8 v
  rw [show (2 : Nat) ^ 8 = 256 from rfl, Nat.mul_comm] at this
  rw [this]; rfl
theorem crc_le (l : List UInt8) (s : Nat) : crcFrom s l = itS (8 * l.length) (s ^^^ le l) := by
  induction l generalizing s with
  | nil => simp [crcFrom, le, itS]
  | cons b r ih =>
    have e : crcFrom s (b :: r) = crcFrom (byteS s b.toNat) r := rfl
    rw [e, ih, le, List.length_cons, Nat.mul_add, Nat.mul_one, itS_add, itS8_step _ _ _ b.toNat_lt]
theorem le_append (a b : List UInt8) : le (a ++ b) = le a + 256 ^ a.length * le b := by
  induction a with
  | nil => simp [le]
  | cons x r ih =>
    rw [List.cons_append, le, le, ih, List.length_cons, Nat.pow_succ, Nat.mul_add, ← Nat.mul_assoc, Nat.mul_comm 256 (256 ^ r.length), Nat.add_assoc]
theorem crc_append (s : Nat) (a b : List UInt8) : crcFrom s (a ++ b) = crcFrom (crcFrom s a) b := by unfold crcFrom; rw [List.foldl_append]
theorem le_inj (a b : List UInt8) (hl : a.length = b.length) (h : le a = le b) : a = b := by
  induction a generalizing b with
  | nil => cases b with
    | nil => rfl
    | cons y t => simp at hl
  | cons x r ih => cases b with
    | nil => simp at hl
    | cons y t =>
      rw [le, le] at h
      have hx := x.toNat_lt
      have hy := y.toNat_lt
      have h1 : x.toNat = y.toNat := by omega
      have h2 : le r = le t := by omega
      rw [ih t (by simpa using hl) h2, UInt8.toNat.inj h1]
theorem le_lo4 (n : Nat) (h : n < 4294967296) : le (lo4 n) = n := by
  have e : ∀ i, (lob n i).toNat = n / 256 ^ i % 256 := fun i => by unfold lob; simp
  simp only [lo4, le, e]
  omega

/- the sum is right just if the register ends at one number -/
theorem sum_right (d c : List UInt8) (hc : c.length = 4) : c = lo4 (nsum d) ↔ crc (d ++ c) = itS 32 4294967295 := by
  have hd := crc_lt d
  have e : crc (d ++ c) = itS 32 (crc d ^^^ le c) := by
    unfold crc
    rw [crc_append, crc_le c, hc]
  have hn : crc d ^^^ nsum d = 4294967295 := by unfold nsum; rw [xorLC, Nat.xor_self, Nat.xor_zero]
  constructor
  · intro h
    rw [e, h, le_lo4 _ (nsum_lt d), hn]
  · intro h
    rw [e] at h
    have hcl : le c < 4294967296 := by have := le_lt c; rw [hc] at this; exact this
    have := itS_inj 32 _ _ (xor_lt32 _ _ hd hcl) (by omega) h
    have e2 : le c = nsum d := by
      unfold nsum
      rw [← this, Nat.xor_comm (crc d), Nat.xor_assoc, Nat.xor_self, Nat.xor_zero]
    exact le_inj c _ (by rw [hc]; rfl) (by rw [e2, le_lo4 _ (nsum_lt d)])
/- a change of up to 32 bits side by side is told -/
theorem crc_change (l l' : List UInt8) (hl : l'.length = l.length) (s x : Nat) (hx : x < 4294967296) (hs : s ≤ 8 * l.length) (h : le l' = le l ^^^ (x * 2 ^ s)) (he : crc l' = crc l) : x = 0 := by
  unfold crc at he
  rw [crc_le, crc_le, hl, h, ← Nat.xor_assoc, itS_xor] at he
  have e : itS (8 * l.length) (x * 2 ^ s) = 0 := by
    have : itS (8 * l.length) (4294967295 ^^^ le l) ^^^ (itS (8 * l.length) (4294967295 ^^^ le l) ^^^ itS (8 * l.length) (x * 2 ^ s)) = itS (8 * l.length) (4294967295 ^^^ le l) ^^^ itS (8 * l.length) (4294967295 ^^^ le l) := by rw [he]
    rw [← Nat.xor_assoc, Nat.xor_self, Nat.zero_xor] at this
    exact this
  rw [show 8 * l.length = (8 * l.length - s) + s by omega, itS_add, itS_shift] at e
  exact itS_zero _ _ hx e
end Go.Proofs.Ytpbokgeaolpiaaa
