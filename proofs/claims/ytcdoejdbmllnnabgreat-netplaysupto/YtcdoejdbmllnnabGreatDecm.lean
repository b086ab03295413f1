/- How a number is read: groups of seven bits, the lowest first; the bytes that a number has are told by themselves. Plain mathematics. -/
import Derived.Test.YtcdoejdbmllnnabGreatMath
namespace Go.Proofs.YtcdoejdbmllnnabGreat
open Go.RowKit

def decA : Nat → Nat → Nat → List UInt8 → Option (Nat × List UInt8)
  | 0, _, _, _ => none
  | _ + 1, _, _, [] => none
  | k + 1, i, acc, b :: r =>
    if 128 ≤ b.toNat then decA k (i + 1) (acc + b.toNat % 128 * 128 ^ i) r
    else if 2199023255552 < acc + b.toNat % 128 * 128 ^ i ∨ (b.toNat = 0 ∧ 0 < i) then none
    else some (acc + b.toNat % 128 * 128 ^ i, r)
def unfoldN (u : Nat) : Int := if u % 2 = 1 then -(((u : Int) + 1) / 2) else (u : Int) / 2
/- what is left, and what was read -/
def numS (s : Option (List UInt8)) : Option (List UInt8) := s.bind fun l => (decA 6 0 0 l).map (·.2)
def numV (s : Option (List UInt8)) : Int := match s.bind fun l => decA 6 0 0 l with
  | none => 0
  | some x => unfoldN x.1

theorem decA_pre (k i acc : Nat) (l r : List UInt8) (u : Nat) (h : decA k i acc l = some (u, r)) : ∃ c, l = c ++ r ∧ ∀ y, decA k i acc (c ++ y) = some (u, y) := by
  induction k generalizing i acc l with
  | zero => simp [decA] at h
  | succ k ih =>
    cases l with
    | nil => simp [decA] at h
    | cons b t =>
      rw [decA] at h
      by_cases hb : 128 ≤ b.toNat
      · rw [if_pos hb] at h
        obtain ⟨c, rfl, hc⟩ := ih _ _ _ h
        exact ⟨b :: c, rfl, fun y => by rw [List.cons_append, decA, if_pos hb]; exact hc y⟩
      · rw [if_neg hb] at h
        by_cases hx : 2199023255552 < acc + b.toNat % 128 * 128 ^ i ∨ (b.toNat = 0 ∧ 0 < i)
        · rw [if_pos hx] at h; cases h
        · rw [if_neg hx] at h
          cases h
          exact ⟨[b], rfl, fun y => by rw [List.singleton_append, decA, if_neg hb, if_neg hx]⟩
theorem decA_step (k i acc : Nat) (b : UInt8) (r : List UInt8) (hb : 128 ≤ b.toNat) : decA (k + 1) i acc (b :: r) = decA k (i + 1) (acc + b.toNat % 128 * 128 ^ i) r := by rw [decA, if_pos hb]
theorem pow128 (i : Nat) : 128 ^ i = 2 ^ (7 * i) := by rw [show (128 : Nat) = 2 ^ 7 from rfl, ← Nat.pow_mul]
end Go.Proofs.YtcdoejdbmllnnabGreat
