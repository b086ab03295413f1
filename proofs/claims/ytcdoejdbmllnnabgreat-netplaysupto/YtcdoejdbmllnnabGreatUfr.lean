/- What Unframe tells of a frame, whatever stands behind it: what was framed. -/
import Derived.Test.YtcdoejdbmllnnabGreatRead
namespace Go.Proofs.YtcdoejdbmllnnabGreat
open Go.RowKit

theorem hi_hb (n s : Nat) : hi (hb n s) = n % 256 ^ s := by
  induction s with
  | zero => simp [hb, hi, Nat.mod_one]
  | succ s ih =>
    rw [hb, hi_cons, ih, hb_length, Nat.pow_succ, Nat.mod_mul]
    have : (UInt8.ofNat (n / 256 ^ s)).toNat = n / 256 ^ s % 256 := by simp
    rw [this, Nat.mul_comm, Nat.add_comm]
theorem hi_hb_lt (n s : Nat) (h : n < 256 ^ s) : hi (hb n s) = n := by rw [hi_hb, Nat.mod_eq_of_lt h]
theorem take_app (a b : List UInt8) (n : Nat) (h : a.length = n) : (a ++ b).take n = a := by rw [← h]; exact List.take_left
theorem drop_app (a b : List UInt8) (n : Nat) (h : a.length = n) : (a ++ b).drop n = b := by rw [← h]; exact List.drop_left
theorem drop_more (a b : List UInt8) (n m : Nat) (h : a.length = n) : (a ++ b).drop (n + m) = b.drop m := by rw [← List.drop_drop, drop_app a b n h]

theorem fr_form (k p : Nat) (b x : List UInt8) : fr k p b ++ x = hb b.length 4 ++ (hb k 1 ++ (hb p 6 ++ (b ++ (lo4 (nsum (fr0 k p b)) ++ x)))) := by
  unfold fr
  have : fr0 k p b = hb b.length 4 ++ (hb k 1 ++ (hb p 6 ++ b)) := rfl
  generalize nsum (fr0 k p b) = s
  rw [this]
  simp only [List.append_assoc]
theorem uN_fr (k p : Nat) (b x : List UInt8) (h : b.length ≤ 1048576) : uN (fr k p b ++ x) = b.length := by
  unfold uN
  rw [fr_form, take_app _ _ 4 (hb_length _ _), hi_hb_lt _ _ (by omega)]
theorem uK_fr (k p : Nat) (b x : List UInt8) (h : k ≤ 255) : uK (fr k p b ++ x) = k := by
  unfold uK
  rw [fr_form, drop_app _ _ 4 (hb_length _ _), take_app _ _ 1 (hb_length _ _), hi_hb_lt _ _ (by omega)]
theorem uP_fr (k p : Nat) (b x : List UInt8) (h : p ≤ 1099511627776) : uP (fr k p b ++ x) = p := by
  unfold uP
  rw [fr_form, show (5 : Nat) = 4 + 1 from rfl, drop_more _ _ 4 1 (hb_length _ _), drop_app _ _ 1 (hb_length _ _), take_app _ _ 6 (hb_length _ _), hi_hb_lt _ _ (by omega)]
theorem body_fr (k p : Nat) (b x : List UInt8) : ((fr k p b ++ x).drop 11).take b.length = b := by
  rw [fr_form, show (11 : Nat) = 4 + (1 + 6) from rfl, drop_more _ _ 4 _ (hb_length _ _), drop_more _ _ 1 6 (hb_length _ _), drop_app _ _ 6 (hb_length _ _), take_app _ _ _ rfl]
theorem take_fr (k p : Nat) (b x : List UInt8) : (fr k p b ++ x).take (11 + b.length) = fr0 k p b := by
  unfold fr
  rw [List.append_assoc, take_app _ _ _ (by rw [fr0_length]; omega)]
theorem sum_fr (k p : Nat) (b x : List UInt8) : ((fr k p b ++ x).drop (11 + b.length)).take 4 = lo4 (nsum (fr0 k p b)) := by
  unfold fr
  rw [List.append_assoc, drop_app _ _ _ (by rw [fr0_length]; omega), take_app _ _ 4 rfl]
theorem unf_fr (k p : Nat) (b x : List UInt8) (hk : k ≤ 255) (hp : p ≤ 1099511627776) (hb : b.length ≤ 1048576) : unf (fr k p b ++ x) = ⟨k, p, b, ((b.length + 15 : Nat) : Int), 0⟩ := by
  have hl : (fr k p b ++ x).length = b.length + 15 + x.length := by rw [List.length_append, fr_length]
  unfold unf
  rw [uN_fr k p b x hb, uK_fr k p b x hk, uP_fr k p b x hp, body_fr, take_fr, sum_fr]
  rw [if_neg (by omega), if_neg (by omega), if_neg (by omega), if_neg (by simp)]
  congr 2
  omega
end Go.Proofs.YtcdoejdbmllnnabGreat
