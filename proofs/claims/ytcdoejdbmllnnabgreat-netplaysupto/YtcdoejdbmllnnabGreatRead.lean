/- A frame is told by its bytes: numbers written with their highest byte first are read again, and the frame that is made of what was read is the one that stands there just if its sum is right. -/
import Derived.Test.YtcdoejdbmllnnabGreatUnfr
namespace Go.Proofs.YtcdoejdbmllnnabGreat
open Go.RowKit

theorem hi_foldl (l : List UInt8) (m : Nat) : l.foldl (fun n b => 256 * n + b.toNat) m = m * 256 ^ l.length + hi l := by
  induction l generalizing m with
  | nil => simp [hi]
  | cons x r ih =>
    have e : hi (x :: r) = r.foldl (fun n b => 256 * n + b.toNat) (256 * 0 + x.toNat) := rfl
    rw [e, List.foldl_cons, ih, ih, List.length_cons, Nat.pow_succ]
    have : (256 * m + x.toNat) * 256 ^ r.length = m * (256 ^ r.length * 256) + x.toNat * 256 ^ r.length := by
      rw [Nat.add_mul, Nat.mul_comm 256 m, Nat.mul_assoc, Nat.mul_comm 256]
    rw [this, Nat.mul_zero, Nat.zero_add, Nat.add_assoc]
theorem hi_cons (x : UInt8) (r : List UInt8) : hi (x :: r) = x.toNat * 256 ^ r.length + hi r := by
  have e : hi (x :: r) = r.foldl (fun n b => 256 * n + b.toNat) (256 * 0 + x.toNat) := rfl
  rw [e, hi_foldl]; simp
theorem hb_add (x k m j : Nat) (h : j ≤ k) : hb (x * 256 ^ k + m) j = hb m j := by
  induction j with
  | zero => rfl
  | succ j ih =>
    rw [hb, hb, ih (by omega)]
    congr 1
    have e : x * 256 ^ k = 256 ^ j * (256 * (x * 256 ^ (k - j - 1))) := by
      have hk : 256 ^ k = 256 ^ j * (256 * 256 ^ (k - j - 1)) := by
        conv => lhs; rw [show k = j + 1 + (k - j - 1) by omega, Nat.pow_add, Nat.pow_succ, Nat.mul_assoc]
      rw [hk, Nat.mul_left_comm]
      congr 1
      rw [Nat.mul_left_comm]
    rw [e, Nat.mul_add_div (Nat.pow_pos (by omega))]
    apply UInt8.toNat.inj
    simp
theorem hb_hi (l : List UInt8) : hb (hi l) l.length = l := by
  induction l with
  | nil => rfl
  | cons x r ih =>
    rw [List.length_cons, hb, hi_cons, hb_add _ _ _ _ (Nat.le_refl _), ih]
    congr 1
    have hlt := hi_lt r
    have : (x.toNat * 256 ^ r.length + hi r) / 256 ^ r.length = x.toNat := by
      rw [Nat.mul_comm, Nat.mul_add_div (Nat.pow_pos (by omega)), Nat.div_eq_of_lt hlt]; rfl
    rw [this]; simp
theorem take_two (l : List UInt8) (a b c : Nat) (h : c = a + b) : l.take a ++ (l.drop a).take b = l.take c := by rw [h, List.take_add]
theorem drop_two (l : List UInt8) (p q a b c : Nat) (hq : q = p + a) (h : c = a + b) : (l.drop p).take a ++ (l.drop q).take b = (l.drop p).take c := by
  rw [h, hq, List.take_add, List.drop_drop]
theorem fr0_of (l : List UInt8) (h : 11 + uN l ≤ l.length) : fr0 (uK l) (uP l) ((l.drop 11).take (uN l)) = l.take (11 + uN l) := by
  have hl : ((l.drop 11).take (uN l)).length = uN l := by simp only [List.length_take, List.length_drop]; omega
  unfold fr0
  rw [hl]
  have e4 : hb (uN l) 4 = l.take 4 := by
    have := hb_hi (l.take 4)
    rw [List.length_take, Nat.min_eq_left (by omega)] at this; exact this
  have e1 : hb (uK l) 1 = (l.drop 4).take 1 := by
    have := hb_hi ((l.drop 4).take 1)
    rw [List.length_take, List.length_drop, Nat.min_eq_left (by omega)] at this; exact this
  have e6 : hb (uP l) 6 = (l.drop 5).take 6 := by
    have := hb_hi ((l.drop 5).take 6)
    rw [List.length_take, List.length_drop, Nat.min_eq_left (by omega)] at this; exact this
  rw [e4, e1, e6, drop_two l 5 11 6 (uN l) (6 + uN l) (by omega) (by omega), drop_two l 4 5 1 (6 + uN l) (7 + uN l) (by omega) (by omega), take_two l 4 (7 + uN l) (11 + uN l) (by omega)]
theorem fr_of (l : List UInt8) (h : 11 + uN l + 4 ≤ l.length) : fr (uK l) (uP l) ((l.drop 11).take (uN l)) = l.take (11 + uN l + 4) ↔ (l.drop (11 + uN l)).take 4 = lo4 (nsum (l.take (11 + uN l))) := by
  unfold fr
  rw [fr0_of l (by omega), ← take_two l (11 + uN l) 4 (11 + uN l + 4) rfl, List.append_cancel_left_eq]
  exact eq_comm
theorem uK_bat (l : List UInt8) (h : 11 ≤ l.length) : bat l 4 = ((uK l : Nat) : Int) := by
  unfold uK
  have h4 : 4 < l.length := by omega
  have : (l.drop 4).take 1 = [l.getD 4 0] := by
    rw [List.drop_eq_getElem_cons h4, List.take_succ_cons, List.take_zero]; simp [List.getD, h4]
  rw [this]; simp [bat, bn, hi]

end Go.Proofs.YtcdoejdbmllnnabGreat
