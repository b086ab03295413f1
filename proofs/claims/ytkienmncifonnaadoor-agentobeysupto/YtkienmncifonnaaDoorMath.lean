/- Plain mathematics for the frames of layer 1: bytes as lists, the sum of a list of bytes, numbers written with their highest byte first. Nothing here speaks of a program. -/
import Derived.WalkKit
import Derived.WalkSpells
namespace Go.Proofs.YtkienmncifonnaaDoor
open Go.RowKit

/- the byte at a place, as a number -/
def bn (l : List UInt8) (k : Nat) : Nat := (l.getD k 0).toNat
theorem bn_lt (l : List UInt8) (k : Nat) : bn l k < 256 := (l.getD k 0).toNat_lt
def bat (l : List UInt8) (k : Nat) : Int := (bn l k : Int)
theorem bat_lo (l : List UInt8) (k : Nat) : 0 ≤ bat l k := by unfold bat; omega
theorem bat_hi (l : List UInt8) (k : Nat) : bat l k ≤ 255 := by unfold bat; have := bn_lt l k; omega

/- one bit of the sum; so many of them; a byte; all bytes -/
def bitS (s : Nat) : Nat := if s % 2 = 1 then (s / 2) ^^^ 2197175160 else s / 2
def itS : Nat → Nat → Nat
  | 0, s => s
  | j + 1, s => bitS (itS j s)
def byteS (s b : Nat) : Nat := itS 8 (s ^^^ b)
def crcFrom (s : Nat) (l : List UInt8) : Nat := l.foldl (fun s b => byteS s b.toNat) s
def crc (l : List UInt8) : Nat := crcFrom 4294967295 l

theorem bitS_lt (s : Nat) (h : s < 4294967296) : bitS s < 4294967296 := by
  unfold bitS
  split
  · exact Nat.xor_lt_two_pow (n := 32) (by omega) (by omega)
  · omega
theorem itS_lt (j s : Nat) (h : s < 4294967296) : itS j s < 4294967296 := by
  induction j with
  | zero => exact h
  | succ j ih => exact bitS_lt _ ih
theorem xor_lt32 (a b : Nat) (h : a < 4294967296) (g : b < 4294967296) : a ^^^ b < 4294967296 := Nat.xor_lt_two_pow (n := 32) (by omega) (by omega)
theorem byteS_lt (s b : Nat) (h : s < 4294967296) (g : b < 256) : byteS s b < 4294967296 := itS_lt _ _ (xor_lt32 _ _ h (by omega))
theorem crcFrom_lt (l : List UInt8) (s : Nat) (h : s < 4294967296) : crcFrom s l < 4294967296 := by
  unfold crcFrom
  induction l generalizing s with
  | nil => exact h
  | cons x r ih => exact ih _ (byteS_lt _ _ h x.toNat_lt)
theorem crc_lt (l : List UInt8) : crc l < 4294967296 := crcFrom_lt l _ (by omega)
theorem take_snoc (l : List UInt8) (k : Nat) (h : k < l.length) : l.take (k + 1) = l.take k ++ [l.getD k 0] := by
  rw [List.take_succ_eq_append_getElem h]; simp [List.getD, h]
theorem crc_take_succ (l : List UInt8) (k : Nat) (h : k < l.length) : crc (l.take (k + 1)) = byteS (crc (l.take k)) (bn l k) := by
  rw [take_snoc l k h]; unfold crc crcFrom; rw [List.foldl_append]; rfl

/- the walk's own forms -/
theorem xor32_bat (c : Nat) (l : List UInt8) (k : Nat) (h : c < 4294967296) : bits .xor .u32 (c : Int) (bat l k) = ((c ^^^ bn l k : Nat) : Int) := by
  have := bn_lt l k
  unfold bat
  rw [u32_xor_nat _ _ h (by omega)]
theorem and32_one (c : Nat) (h : c < 4294967296) : bits .and .u32 (c : Int) 1 = ((c % 2 : Nat) : Int) := by
  have := u32_and_nat c 1 h (by omega)
  rw [Nat.and_one_is_mod] at this
  exact this
theorem xor32_poly (c : Nat) (h : c < 4294967296) : bits .xor .u32 (c : Int) 2197175160 = ((c ^^^ 2197175160 : Nat) : Int) := by
  exact u32_xor_nat c 2197175160 h (by omega)

theorem step_one (j x : Nat) (il : itS j x < 4294967296) (h : ((itS j x : Int) % 2 == 1) = true) : Value.int .u32 (bits .xor .u32 ((itS j x : Int) / 2) 2197175160) = .int .u32 ((itS (j + 1) x : Nat) : Int) := by
  have h2 : itS j x % 2 = 1 := by have := of_decide_eq_true h; omega
  have e : ((itS j x : Int) / 2) = ((itS j x / 2 : Nat) : Int) := by omega
  rw [e, xor32_poly _ (by omega)]
  simp [itS, bitS, h2]
theorem step_none (j x : Nat) (h : ((itS j x : Int) % 2 == 1) = false) : Value.int .u32 ((itS j x : Int) / 2) = .int .u32 ((itS (j + 1) x : Nat) : Int) := by
  have h2 : ¬ itS j x % 2 = 1 := by have := of_decide_eq_false h; omega
  simp [itS, bitS, h2]
/- numbers with their highest byte first -/
def hi (l : List UInt8) : Nat := l.foldl (fun n b => 256 * n + b.toNat) 0
theorem hi_take_succ (l : List UInt8) (k : Nat) (h : k < l.length) : hi (l.take (k + 1)) = 256 * hi (l.take k) + bn l k := by
  rw [take_snoc l k h]; unfold hi; rw [List.foldl_append]; rfl
theorem hi_lt (l : List UInt8) : hi l < 256 ^ l.length := by
  have : ∀ (l : List UInt8) (m : Nat), l.foldl (fun n b => 256 * n + b.toNat) m < (m + 1) * 256 ^ l.length := by
    intro l
    induction l with
    | nil => intro m; simp
    | cons x r ih =>
      intro m
      have h := ih (256 * m + x.toNat)
      have hx := x.toNat_lt
      refine Nat.lt_of_lt_of_le h ?_
      rw [List.length_cons, Nat.pow_succ, Nat.mul_comm (256 ^ r.length) 256, ← Nat.mul_assoc]
      exact Nat.mul_le_mul_right _ (by omega)
  have h := this l 0
  simpa [hi] using h
theorem hi_lt_of (l : List UInt8) (n : Nat) (h : l.length ≤ n) : hi l < 256 ^ n := Nat.lt_of_lt_of_le (hi_lt l) (Nat.pow_le_pow_right (by omega) h)
theorem hi_lt5 (l : List UInt8) (h : l.length ≤ 5) : hi l < 1099511627776 := hi_lt_of l 5 h
theorem hi_lt6 (l : List UInt8) (h : l.length ≤ 6) : hi l < 281474976710656 := hi_lt_of l 6 h
theorem bn_drop (l : List UInt8) (p k : Nat) : bn (l.drop p) k = bn l (p + k) := by simp [bn, List.getD]
theorem bat_drop (l : List UInt8) (p k : Nat) : bat (l.drop p) k = bat l (p + k) := by rw [bat, bat, bn_drop]

theorem or_byte (n : Nat) (h : n < 1099511627776) (l : List UInt8) (k : Nat) : bits .or .i64 ((n : Int) * 256) (bat l k) = ((256 * n + bn l k : Nat) : Int) := by
  have b0 := bat_lo l k
  have b1 := bat_hi l k
  rw [bits_join .i64 62 (by decide) (fun n h0 h1 => by rw [IntKind.wrap_i64]; omega) 8 _ _ (by omega) (by omega) (by omega) b0 (by omega) (by omega)]
  unfold bat at *
  omega
def hb (n : Nat) : Nat → List UInt8
  | 0 => []
  | s + 1 => UInt8.ofNat (n / 256 ^ s) :: hb n s
theorem hb_length (n s : Nat) : (hb n s).length = s := by
  induction s with
  | zero => rfl
  | succ s ih => simp [hb, ih]
def nsum (l : List UInt8) : Nat := 4294967295 ^^^ crc l
theorem nsum_lt (l : List UInt8) : nsum l < 4294967296 := xor_lt32 _ _ (by omega) (crc_lt l)
theorem not32 (c : Nat) (h : c < 4294967296) : bits .xor .u32 IntKind.u32.max (c : Int) = ((4294967295 ^^^ c : Nat) : Int) := by
  have := u32_xor_nat 4294967295 c (by omega) h
  exact this
/- the four bytes of a sum, the lowest first -/
def lob (n : Nat) (i : Nat) : UInt8 := UInt8.ofNat (n / 256 ^ i)
def lo4 (n : Nat) : List UInt8 := [lob n 0, lob n 1, lob n 2, lob n 3]

end Go.Proofs.YtkienmncifonnaaDoor
