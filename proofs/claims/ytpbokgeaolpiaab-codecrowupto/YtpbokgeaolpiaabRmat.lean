/- Frames that stand one behind the other, as one list of bytes: the first k of them, and those from k on. Plain mathematics. -/
import Derived.Test.YtpbokgeaolpiaabUfr
namespace Go.Proofs.Ytpbokgeaolpiaab
open Go.RowKit

def frK (f : Nat) (L : Nat → List UInt8) (k : Nat) : List UInt8 := fr (k % 256) (f + k) (L k)
def cat (f : Nat) (L : Nat → List UInt8) : Nat → List UInt8
  | 0 => []
  | k + 1 => cat f L k ++ frK f L k
def rest (f : Nat) (L : Nat → List UInt8) (m : Nat) (k : Nat) : Nat → List UInt8
  | 0 => []
  | d + 1 => frK f L k ++ rest f L m (k + 1) d
theorem frK_length (f : Nat) (L : Nat → List UInt8) (k : Nat) : (frK f L k).length = (L k).length + 15 := fr_length _ _ _
theorem cat_le (f : Nat) (L : Nat → List UInt8) (m : Nat) (h : ∀ r, r < m → (L r).length ≤ 1048576) (k : Nat) (hk : k ≤ m) : (cat f L k).length ≤ k * 1048591 := by
  induction k with
  | zero => simp [cat]
  | succ k ih =>
    have := ih (by omega)
    have h2 := h k (by omega)
    rw [cat, List.length_append, frK_length]
    omega
theorem cat_rest (f : Nat) (L : Nat → List UInt8) (m k d : Nat) : cat f L k ++ rest f L m k d = cat f L (k + d) := by
  induction d generalizing k with
  | zero => simp [rest]
  | succ d ih =>
    rw [rest, ← List.append_assoc]
    have := ih (k + 1)
    rw [cat] at this
    rw [this]
    congr 1
    omega
theorem rest_all (f : Nat) (L : Nat → List UInt8) (m : Nat) : rest f L m 0 m = cat f L m := by
  have := cat_rest f L m 0 m
  rw [Nat.zero_add] at this
  rw [← this]; rfl
theorem rest_le (f : Nat) (L : Nat → List UInt8) (m : Nat) (h : ∀ r, r < m → (L r).length ≤ 1048576) (d k : Nat) (hk : k + d ≤ m) : (rest f L m k d).length ≤ d * 1048591 := by
  induction d generalizing k with
  | zero => simp [rest]
  | succ d ih =>
    have := ih (k + 1) (by omega)
    have h2 := h k (by omega)
    rw [rest, List.length_append, frK_length]
    omega
theorem unf_rest (f : Nat) (L : Nat → List UInt8) (m k d : Nat) (hf : f + k ≤ 1099511627776) (h : (L k).length ≤ 1048576) : unf (rest f L m k (d + 1)) = ⟨((k % 256 : Nat) : Int), ((f + k : Nat) : Int), L k, (((L k).length + 15 : Nat) : Int), 0⟩ := by
  rw [rest]
  exact unf_fr _ _ _ _ (by omega) hf h
end Go.Proofs.Ytpbokgeaolpiaab
