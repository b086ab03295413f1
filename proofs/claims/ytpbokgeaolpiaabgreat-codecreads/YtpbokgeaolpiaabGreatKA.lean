/- Several texts in one (wip/gen/group.py). -/
import Derived.WalkKit
import Derived.WalkSpells
import Derived.Test.YtpbokgeaolpiaabGreatProg
import Derived.WalkLawsBesides
import Derived.Deep.AppendSrc
import Derived.KernelRfl
import Derived.BigQuiet
import Derived.Deep.QuietTactic
import Derived.Deep.RegionWith
/- Plain mathematics for the frames of layer 1: bytes as lists, the sum of a list of bytes, numbers written with their highest byte first. Nothing here speaks of a program. -/
namespace Go.Proofs.YtpbokgeaolpiaabGreat
open Go.RowKit

/- the byte at a place, as a number -/
def bn (l : List UInt8) (k : Nat) : Nat := (l.getD k 0).toNat
theorem bn_lt (l : List UInt8) (k : Nat) : bn l k < 256 := (l.getD k 0).toNat_lt
def bat (l : List UInt8) (k : Nat) : Int := (bn l k : Int)
theorem bat_lo (l : List UInt8) (k : Nat) : 0 ≤ bat l k := by unfold bat; omega
theorem bat_hi (l : List UInt8) (k : Nat) : bat l k ≤ 255 := by unfold bat; have := bn_lt l k; omega

/- one bit of the sum; so many of them; a byte; all bytes -/
def bitS (s : Nat) : Nat := if s % 2 = 1 then (s / 2) ^^^ 2197175160 else s / 2
def itS : Nat → Nat → Nat
  | 0, s => s
  | j + 1, s => bitS (itS j s)
def byteS (s b : Nat) : Nat := itS 8 (s ^^^ b)
def crcFrom (s : Nat) (l : List UInt8) : Nat := l.foldl (fun s b => byteS s b.toNat) s
def crc (l : List UInt8) : Nat := crcFrom 4294967295 l

theorem bitS_lt (s : Nat) (h : s < 4294967296) : bitS s < 4294967296 := by
  unfold bitS
  split
  · exact Nat.xor_lt_two_pow (n := 32) (by omega) (by omega)
  · omega
theorem itS_lt (j s : Nat) (h : s < 4294967296) : itS j s < 4294967296 := by
  induction j with
  | zero => exact h
  | succ j ih => exact bitS_lt _ ih
theorem xor_lt32 (a b : Nat) (h : a < 4294967296) (g : b < 4294967296) : a ^^^ b < 4294967296 := Nat.xor_lt_two_pow (n := 32) (by omega) (by omega)
theorem byteS_lt (s b : Nat) (h : s < 4294967296) (g : b < 256) : byteS s b < 4294967296 := itS_lt _ _ (xor_lt32 _ _ h (by omega))
theorem crcFrom_lt (l : List UInt8) (s : Nat) (h : s < 4294967296) : crcFrom s l < 4294967296 := by
  unfold crcFrom
  induction l generalizing s with
  | nil => exact h
  | cons x r ih => exact ih _ (byteS_lt _ _ h x.toNat_lt)
theorem crc_lt (l : List UInt8) : crc l < 4294967296 := crcFrom_lt l _ (by omega)
theorem take_snoc (l : List UInt8) (k : Nat) (h : k < l.length) : l.take (k + 1) = l.take k ++ [l.getD k 0] := by
  rw [List.take_succ_eq_append_getElem h]; simp [List.getD, h]
theorem crc_take_succ (l : List UInt8) (k : Nat) (h : k < l.length) : crc (l.take (k + 1)) = byteS (crc (l.take k)) (bn l k) := by
  rw [take_snoc l k h]; unfold crc crcFrom; rw [List.foldl_append]; rfl

/- the walk's own forms -/
theorem xor32_bat (c : Nat) (l : List UInt8) (k : Nat) (h : c < 4294967296) : bits .xor .u32 (c : Int) (bat l k) = ((c ^^^ bn l k : Nat) : Int) := by
  have := bn_lt l k
  unfold bat
  rw [u32_xor_nat _ _ h (by omega)]
theorem and32_one (c : Nat) (h : c < 4294967296) : bits .and .u32 (c : Int) 1 = ((c % 2 : Nat) : Int) := by
  have := u32_and_nat c 1 h (by omega)
  rw [Nat.and_one_is_mod] at this
  exact this
theorem xor32_poly (c : Nat) (h : c < 4294967296) : bits .xor .u32 (c : Int) 2197175160 = ((c ^^^ 2197175160 : Nat) : Int) := by
  exact u32_xor_nat c 2197175160 h (by omega)

theorem step_one (j x : Nat) (il : itS j x < 4294967296) (h : ((itS j x : Int) % 2 == 1) = true) : Value.int .u32 (bits .xor .u32 ((itS j x : Int) / 2) 2197175160) = .int .u32 ((itS (j + 1) x : Nat) : Int) := by
  have h2 : itS j x % 2 = 1 := by have := of_decide_eq_true h; omega
  have e : ((itS j x : Int) / 2) = ((itS j x / 2 : Nat) : Int) := by omega
  rw [e, xor32_poly _ (by omega)]
  simp [itS, bitS, h2]
theorem step_none (j x : Nat) (h : ((itS j x : Int) % 2 == 1) = false) : Value.int .u32 ((itS j x : Int) / 2) = .int .u32 ((itS (j + 1) x : Nat) : Int) := by
  have h2 : ¬ itS j x % 2 = 1 := by have := of_decide_eq_false h; omega
  simp [itS, bitS, h2]
/- numbers with their highest byte first -/
def hi (l : List UInt8) : Nat := l.foldl (fun n b => 256 * n + b.toNat) 0
theorem hi_take_succ (l : List UInt8) (k : Nat) (h : k < l.length) : hi (l.take (k + 1)) = 256 * hi (l.take k) + bn l k := by
  rw [take_snoc l k h]; unfold hi; rw [List.foldl_append]; rfl
theorem hi_lt (l : List UInt8) : hi l < 256 ^ l.length := by
  have : ∀ (l : List UInt8) (m : Nat), l.foldl (fun n b => 256 * n + b.toNat) m < (m + 1) * 256 ^ l.length := by
    intro l
    induction l with
    | nil => intro m; simp
    | cons x r ih =>
      intro m
      have h := ih (256 * m + x.toNat)
      have hx := x.toNat_lt
      refine Nat.lt_of_lt_of_le h ?_
      rw [List.length_cons, Nat.pow_succ, Nat.mul_comm (256 ^ r.length) 256, ← Nat.mul_assoc]
      exact Nat.mul_le_mul_right _ (by omega)
  have h := this l 0
  simpa [hi] using h
theorem hi_lt_of (l : List UInt8) (n : Nat) (h : l.length ≤ n) : hi l < 256 ^ n := Nat.lt_of_lt_of_le (hi_lt l) (Nat.pow_le_pow_right (by omega) h)
theorem hi_lt5 (l : List UInt8) (h : l.length ≤ 5) : hi l < 1099511627776 := hi_lt_of l 5 h
theorem hi_lt6 (l : List UInt8) (h : l.length ≤ 6) : hi l < 281474976710656 := hi_lt_of l 6 h
theorem bn_drop (l : List UInt8) (p k : Nat) : bn (l.drop p) k = bn l (p + k) := by simp [bn, List.getD]
theorem bat_drop (l : List UInt8) (p k : Nat) : bat (l.drop p) k = bat l (p + k) := by rw [bat, bat, bn_drop]

theorem or_byte (n : Nat) (h : n < 1099511627776) (l : List UInt8) (k : Nat) : bits .or .i64 ((n : Int) * 256) (bat l k) = ((256 * n + bn l k : Nat) : Int) := by
  have b0 := bat_lo l k
  have b1 := bat_hi l k
  rw [bits_join .i64 62 (by decide) (fun n h0 h1 => by rw [IntKind.wrap_i64]; omega) 8 _ _ (by omega) (by omega) (by omega) b0 (by omega) (by omega)]
  unfold bat at *
  omega
def hb (n : Nat) : Nat → List UInt8
  | 0 => []
  | s + 1 => UInt8.ofNat (n / 256 ^ s) :: hb n s
theorem hb_length (n s : Nat) : (hb n s).length = s := by
  induction s with
  | zero => rfl
  | succ s ih => simp [hb, ih]
def nsum (l : List UInt8) : Nat := 4294967295 ^^^ crc l
theorem nsum_lt (l : List UInt8) : nsum l < 4294967296 := xor_lt32 _ _ (by omega) (crc_lt l)
theorem not32 (c : Nat) (h : c < 4294967296) : bits .xor .u32 IntKind.u32.max (c : Int) = ((4294967295 ^^^ c : Nat) : Int) := by
  have := u32_xor_nat 4294967295 c (by omega) h
  exact this
/- the four bytes of a sum, the lowest first -/
def lob (n : Nat) (i : Nat) : UInt8 := UInt8.ofNat (n / 256 ^ i)
def lo4 (n : Nat) : List UInt8 := [lob n 0, lob n 1, lob n 2, lob n 3]

end Go.Proofs.YtpbokgeaolpiaabGreat

/- How a number is read: groups of seven bits, the lowest first; the bytes that a number has are told by themselves. Plain mathematics. -/
namespace Go.Proofs.YtpbokgeaolpiaabGreat
open Go.RowKit

def decA : Nat → Nat → Nat → List UInt8 → Option (Nat × List UInt8)
  | 0, _, _, _ => none
  | _ + 1, _, _, [] => none
  | k + 1, i, acc, b :: r =>
    if 128 ≤ b.toNat then decA k (i + 1) (acc + b.toNat % 128 * 128 ^ i) r
    else if 2199023255552 < acc + b.toNat % 128 * 128 ^ i ∨ (b.toNat = 0 ∧ 0 < i) then none
    else some (acc + b.toNat % 128 * 128 ^ i, r)
def unfoldN (u : Nat) : Int := if u % 2 = 1 then -(((u : Int) + 1) / 2) else (u : Int) / 2
/- what is left, and what was read -/
def numS (s : Option (List UInt8)) : Option (List UInt8) := s.bind fun l => (decA 6 0 0 l).map (·.2)
def numV (s : Option (List UInt8)) : Int := match s.bind fun l => decA 6 0 0 l with
  | none => 0
  | some x => unfoldN x.1

theorem decA_pre (k i acc : Nat) (l r : List UInt8) (u : Nat) (h : decA k i acc l = some (u, r)) : ∃ c, l = c ++ r ∧ ∀ y, decA k i acc (c ++ y) = some (u, y) := by
  induction k generalizing i acc l with
  | zero => simp [decA] at h
  | succ k ih =>
    cases l with
    | nil => simp [decA] at h
    | cons b t =>
      rw [decA] at h
      by_cases hb : 128 ≤ b.toNat
      · rw [if_pos hb] at h
        obtain ⟨c, rfl, hc⟩ := ih _ _ _ h
        exact ⟨b :: c, rfl, fun y => by rw [List.cons_append, decA, if_pos hb]; exact hc y⟩
      · rw [if_neg hb] at h
        by_cases hx : 2199023255552 < acc + b.toNat % 128 * 128 ^ i ∨ (b.toNat = 0 ∧ 0 < i)
        · rw [if_pos hx] at h; cases h
        · rw [if_neg hx] at h
          cases h
          exact ⟨[b], rfl, fun y => by rw [List.singleton_append, decA, if_neg hb, if_neg hx]⟩
theorem decA_step (k i acc : Nat) (b : UInt8) (r : List UInt8) (hb : 128 ≤ b.toNat) : decA (k + 1) i acc (b :: r) = decA k (i + 1) (acc + b.toNat % 128 * 128 ^ i) r := by rw [decA, if_pos hb]
theorem pow128 (i : Nat) : 128 ^ i = 2 ^ (7 * i) := by rw [show (128 : Nat) = 2 ^ 7 from rfl, ← Nat.pow_mul]
end Go.Proofs.YtpbokgeaolpiaabGreat

/- Rows of bytes in memory: a slice that owns its row, what an append leaves of the old world, and the law of append for bytes from whatever source. Nothing here speaks of one function of the program. -/
namespace Go.Proofs.YtpbokgeaolpiaabGreat
open Go.RowKit

def vals (l : List UInt8) : List Value := l.map fun b => Value.int .u8 (b.toNat : Int)
theorem vals_length (l : List UInt8) : (vals l).length = l.length := by simp [vals]
theorem vals_append (a b : List UInt8) : vals (a ++ b) = vals a ++ vals b := by simp [vals]
theorem vals_get (l : List UInt8) (j : Nat) (h : j < l.length) : (vals l)[j]? = some (.int .u8 (bat l j)) := by
  simp [vals, bat, bn, h, List.getD]
theorem vals_get' (l : List UInt8) (j : Nat) (u : Value) (h : (vals l)[j]? = some u) : j < l.length ∧ u = .int .u8 (bat l j) := by
  have hj : j < l.length := by have := (List.getElem?_eq_some_iff.1 h).1; rwa [vals_length] at this
  rw [vals_get l j hj] at h
  exact ⟨hj, (Option.some.inj h).symm⟩
theorem vals_one (l : List UInt8) : ∀ u ∈ vals l, u.oneCell' = true := by
  intro u hu
  simp only [vals, List.mem_map] at hu
  obtain ⟨b, _, rfl⟩ := hu
  rfl

/- the bytes l lie behind the address a -/
def Bs (w : World) (a : Option Addr) (l : List UInt8) : Prop :=
  l.length ≤ 211106232532992 ∧ (l ≠ [] → ∃ b off, a = some ⟨b, off, none⟩ ∧ b < w.heap.size ∧ ∀ j, j < l.length → w.cell? ⟨b, off + j, none⟩ = some (.int .u8 (bat l j)))

/- the slice value v owns a row whose first cells are the bytes l -/
def Own (w : World) (v : Value) (l : List UInt8) : Prop :=
  (v = .slice none 0 0 ∧ l = []) ∨
  ∃ g cap cur, v = .slice (some ⟨g, 0, none⟩) l.length cap ∧ w.heap[g]? = some (.cells cur 5 (0, 0)) ∧ l.length ≤ cap ∧ cap ≤ maxLen ∧ cur.size = cap ∧ cur.toList.take l.length = vals l

/- w' is w with new blocks and with writes to block r alone; the row is now r' : the old one or a new one -/
structure Stp (w w' : World) (r r' : Option Nat) : Prop where
  os : w'.os = w.os
  tape : w'.tape = w.tape
  output : w'.output = w.output
  size : w.heap.size ≤ w'.heap.size
  block : ∀ k, k < w.heap.size → some k ≠ r → w'.heap[k]? = w.heap[k]?
  row : r' = r ∨ ∃ k, r' = some k ∧ w.heap.size ≤ k

theorem Stp.refl (w : World) (r : Option Nat) : Stp w w r r := ⟨rfl, rfl, rfl, Nat.le_refl _, fun _ _ _ => rfl, .inl rfl⟩
theorem Stp.trans {a b c : World} {r r1 r2 : Option Nat} (h : Stp a b r r1) (k : Stp b c r1 r2) : Stp a c r r2 := by
  refine ⟨k.os.trans h.os, k.tape.trans h.tape, k.output.trans h.output, Nat.le_trans h.size k.size, fun i hi hr => ?_, ?_⟩
  · refine (k.block i (Nat.lt_of_lt_of_le hi h.size) ?_).trans (h.block i hi hr)
    rcases h.row with e | ⟨n, e, hn⟩
    · rw [e]; exact hr
    · rw [e]; intro e2; have := Option.some.inj e2; omega
  · rcases k.row with e | ⟨n, e, hn⟩
    · rw [e]; exact h.row
    · exact .inr ⟨n, e, Nat.le_trans h.size hn⟩
theorem Stp.alloc {a w : World} {r r1 : Option Nat} (h : Stp a w r r1) (o : Obj) : Stp a (w.alloc o) r r1 :=
  h.trans ⟨rfl, rfl, rfl, by simp, fun k hk _ => Below.heap_alloc w o k hk, .inl rfl⟩
theorem Stp.drew {a w : World} {r r1 : Option Nat} (h : Stp a w r r1) : Stp a w.drew r r1 := ⟨h.os, h.tape, h.output, h.size, h.block, h.row⟩
theorem Stp.drewN {a w : World} {r r1 : Option Nat} (h : Stp a w r r1) (n : Nat) : Stp a (w.drewN n) r r1 := ⟨h.os, h.tape, h.output, h.size, h.block, h.row⟩
/- below a number that the row does not undercut -/
theorem Stp.below {w w' : World} {r r' : Option Nat} (h : Stp w w' r r') (B : Nat) (hB : B ≤ w.heap.size) (hr : ∀ k, r = some k → B ≤ k) : Below B w w' :=
  ⟨h.os, h.tape, h.output, h.size, fun k hk => h.block k (by omega) (fun e => by have := hr k e.symm; omega)⟩

theorem Stp.belowN {w w' : World} {r' : Option Nat} (h : Stp w w' none r') : Below w.heap.size w w' := h.below _ (Nat.le_refl _) (fun k hk => by cases hk)

theorem Own.kept {w w' : World} {v : Value} {l : List UInt8} (h : Own w v l) (hb : ∀ k, v.ownBlock = some k → w'.heap[k]? = w.heap[k]?) : Own w' v l := by
  rcases h with h | ⟨g, cap, cur, rfl, hg, rest⟩
  · exact .inl h
  · exact .inr ⟨g, cap, cur, rfl, by rw [hb g rfl]; exact hg, rest⟩
theorem Own.lt {w : World} {v : Value} {l : List UInt8} (h : Own w v l) : ∀ k, v.ownBlock = some k → k < w.heap.size := by
  intro k hk
  rcases h with ⟨rfl, _⟩ | ⟨g, cap, cur, rfl, hg, rest⟩
  · simp [Value.ownBlock] at hk
  · simp [Value.ownBlock] at hk
    subst hk
    exact (Array.getElem?_eq_some_iff.1 hg).1
theorem Own.alloc {w : World} {v : Value} {l : List UInt8} (h : Own w v l) (o : Obj) : Own (w.alloc o) v l := h.kept fun k hk => Below.heap_alloc w o k (h.lt k hk)
theorem Own.drew {w : World} {v : Value} {l : List UInt8} (h : Own w v l) : Own w.drew v l := h
theorem Own.drewN {w : World} {v : Value} {l : List UInt8} (h : Own w v l) (n : Nat) : Own (w.drewN n) v l := h
theorem Own.below {w w' : World} {v : Value} {l : List UInt8} (h : Own w v l) (hb : Below w.heap.size w w') : Own w' v l := h.kept fun k hk => hb.block k (h.lt k hk)

theorem Own.form {w : World} {v : Value} {l : List UInt8} (h : Own w v l) : ∃ a cap, v = .slice a l.length cap ∧ (l.length ≤ 211106232532992 → Bs w a l) := by
  rcases h with ⟨rfl, rfl⟩ | ⟨g, cap, cur, rfl, hg, h1, h2, h3, h4⟩
  · exact ⟨none, 0, rfl, fun _ => ⟨by simp, fun h => absurd rfl h⟩⟩
  · refine ⟨_, cap, rfl, fun hl => ⟨hl, fun _ => ⟨g, 0, rfl, (Array.getElem?_eq_some_iff.1 hg).1, fun j hj => ?_⟩⟩⟩
    rw [Nat.zero_add, cell_of_row w g j cur 5 (0, 0) hg]
    have := vals_get l j hj
    rw [← h4, List.getElem?_take, if_pos hj] at this
    simpa using this

theorem Bs.below {w w' : World} {a : Option Addr} {l : List UInt8} (h : Bs w a l) {B : Nat} (hb : Below B w w') (ha : ∀ x, a = some x → x.block < B) : Bs w' a l := by
  refine ⟨h.1, fun hne => ?_⟩
  obtain ⟨b, off, rfl, hlt, hc⟩ := h.2 hne
  have hB := ha _ rfl
  exact ⟨b, off, rfl, Nat.lt_of_lt_of_le hlt hb.size, fun j hj => (hb.cell (p := ⟨b, off + j, none⟩) hB).trans (hc j hj)⟩
theorem Bs.grow {w w' : World} {a : Option Addr} {l : List UInt8} (h : Bs w a l) (hb : Below w.heap.size w w') : Bs w' a l := by
  refine ⟨h.1, fun hne => ?_⟩
  obtain ⟨b, off, rfl, hlt, hc⟩ := h.2 hne
  exact ⟨b, off, rfl, Nat.lt_of_lt_of_le hlt hb.size, fun j hj => (hb.cell (p := ⟨b, off + j, none⟩) hlt).trans (hc j hj)⟩
theorem Bs.drew {w : World} {a : Option Addr} {l : List UInt8} (h : Bs w a l) : Bs w.drew a l := h.grow ((Below.refl _ _).drew)
theorem Bs.alloc {w : World} {a : Option Addr} {l : List UInt8} (h : Bs w a l) (o : Obj) : Bs (w.alloc o) a l := h.grow ((Below.refl _ _).alloc (Nat.le_refl _) o)

/- what an append's second argument yields: bytes behind an address -/
theorem Bs.src {P : Program} {w : World} {a : Option Addr} {l : List UInt8} (h : Bs w a l) (hk : P.underlying 22 = some (.slice 5)) (cap : Nat) : Src P 1 22 (.slice a l.length cap) l.length (vals l) w := by
  by_cases hne : l = []
  · subst hne
    cases a with
    | none => exact Src.ofNil w hk cap
    | some a => exact Src.ofSlice w hk a 0 cap [] rfl (by intro j u hu; simp at hu) (by intro u hu; simp at hu)
  · obtain ⟨b, off, rfl, hlt, hc⟩ := h.2 hne
    refine Src.ofSlice w hk _ _ cap (vals l) (by simp [vals]) (fun j u hu => ?_) (vals_one l)
    obtain ⟨hj, rfl⟩ := vals_get' l j u hu
    have := hc j hj
    rw [← this, Addr.add_lit]

/- what an append asks for fits, up to three quarters of the greatest size -/
theorem fits_b {need old : Nat} (h : old < need) (hb : need ≤ 211106232532992) : Builtin.nextslicecap need old ≤ 281474976710656 := by
  unfold Builtin.nextslicecap
  split
  · omega
  · split
    · omega
    · rw [growBy_four]
      repeat' split
      all_goals omega

/- THE LAW OF APPEND FOR BYTES -/
theorem run_append_b {P : Program} {i : TypeInfo} (ty : TypeId) (hk : P.underlying 22 = some (.slice 5)) (hi : P.info? 5 = some i) (hz : i.zero = some (.int .u8 0)) (hs1 : i.size = 1) (hb1 : i.bytes = 1)
    (w : World) (v : Value) (l : List UInt8) (hown : Own w v l) (x : Value) (news : List UInt8) (hs : Src P 1 22 x news.length (vals news) w) (hlen : l.length + news.length ≤ 211106232532992) :
    ∃ v' w', (Builtin.append_ #[22, 22] ty #[v, x]).run P w = .ok v' w' ∧ Own w' v' (l ++ news) ∧ Stp w w' v.ownBlock v'.ownBlock := by
  have hs' : Src P i.size 22 x news.length (vals news) w := by rw [hs1]; exact hs
  have grown : ∀ (base : Option Addr) (cap : Nat), l.length ≤ cap → cap < l.length + news.length → (Builtin.firstCells i.size l.length (.slice base l.length cap)).run P w.drew = .ok (vals l).toArray w.drew →
      ∃ v' w', (Builtin.append_ #[22, 22] ty #[.slice base l.length cap, x]).run P w = .ok v' w' ∧ Own w' v' (l ++ news) ∧ ∀ r, Stp w w' r v'.ownBlock := by
    intro base cap hc1 hc2 hold
    have hr := run_append_grow_src w 22 22 ty 5 i (.int .u8 0) hk hi hz base l.length cap (vals l) hold x news.length (vals news) hs' hc2 (by omega) (by rw [hb1, Nat.mul_one]; exact fits_b (by omega) (by omega))
    have hge := grownCap_ge w (l.length + news.length) cap 5
    have hm : grownCap w (l.length + news.length) cap 5 ≤ maxLen := grownCap_le_maxLen w _ cap 5 (by unfold maxLen; omega)
    refine ⟨_, _, hr, .inr ⟨w.heap.size, _, _, by rw [List.length_append], heap_alloc_new w.drew _, by rw [List.length_append]; exact hge, hm, ?_, ?_⟩, fun r => ⟨rfl, rfl, rfl, by simp, fun k hk _ => Below.heap_alloc w.drew _ k hk, .inr ⟨w.heap.size, rfl, Nat.le_refl _⟩⟩⟩
    · simp only [Array.size_append, List.size_toArray, size_zeroCells, List.length_append, vals_length]
      simp [Value.cells]
      omega
    · rw [vals_append]
      simp only [Array.toList_append]
      have : (l ++ news).length = (vals l ++ vals news).length := by simp [vals_length]
      rw [this]
      exact List.take_left
  rcases hown with ⟨rfl, rfl⟩ | ⟨g, cap, cur, rfl, hg, h1, h2, h3, h4⟩
  · by_cases hn : news = []
    · subst hn
      refine ⟨.slice none 0 0, w, ?_, .inl ⟨rfl, rfl⟩, Stp.refl _ _⟩
      have hc := hs'.cells
      have hlen0 := hs'.len
      simp only [vals, List.map_nil, List.length_nil] at hc hlen0
      simp [Builtin.append_, run_underlying hk, sizeOf, typeInfo, hi, hlen0, hc]
    · have hp : 0 < news.length := List.length_pos_iff.2 hn
      obtain ⟨v', w', a, b, c⟩ := grown none 0 (Nat.le_refl _) (by simpa using hp) (by exact run_firstCells_none w.drew i.size 0 0 0)
      exact ⟨v', w', a, b, c _⟩
  · by_cases hroom : l.length + news.length ≤ cap
    · have hst := run_storeCells_at P g (l.length * i.size) 5 (vals news) 0 cur w hg (by rw [hs1, vals_length]; omega) (vals_one news)
      simp only [Nat.add_zero] at hst
      have hr : (Builtin.append_ #[22, 22] ty #[.slice (some ⟨g, 0, none⟩) l.length cap, x]).run P w = .ok (.slice (some ⟨g, 0, none⟩) (l.length + news.length) cap)
          (w.setRow g (cur.toList.take (l.length * i.size) ++ vals news ++ cur.toList.drop (l.length * i.size + (vals news).length)).toArray) := by
        simp [Builtin.append_, run_underlying hk, sizeOf, typeInfo, hi, hs'.len, hroom, hs'.cells, Addr.add_lit, hst]
      refine ⟨_, _, hr, .inr ⟨g, cap, _, by rw [List.length_append], setRow_heap w g cur _ 5 _ hg, by rw [List.length_append]; exact hroom, h2, ?_, ?_⟩, ⟨rfl, rfl, rfl, by simp, fun k _ hk => setRow_other w g k _ (fun e => hk (by simp [Value.ownBlock, e])), .inl rfl⟩⟩
      · simp only [List.size_toArray, List.length_append, List.length_take, List.length_drop, Array.length_toList, vals_length, hs1]
        omega
      · rw [hs1, Nat.mul_one, h4, vals_append]
        have : (l ++ news).length = (vals l ++ vals news).length := by simp [vals_length]
        rw [this]
        exact List.take_left
    · have hold : ∀ j u, (vals l)[j]? = some u → w.drew.cell? ((⟨g, 0, none⟩ : Addr).add j) = some u := by
        intro j u hu
        obtain ⟨hj, rfl⟩ := vals_get' l j u hu
        have hadd : (⟨g, 0, none⟩ : Addr).add j = ⟨g, j, none⟩ := by unfold Addr.add; split <;> simp_all
        rw [hadd, cell_of_row w.drew g j cur 5 (0, 0) hg]
        have := vals_get l j hj
        rw [← h4, List.getElem?_take, if_pos hj] at this
        simpa using this
      obtain ⟨v', w', a, b, c⟩ := grown (some ⟨g, 0, none⟩) cap h1 (by omega) (run_firstCells_some w.drew i.size l.length _ _ _ (vals l) (by rw [hs1, vals_length]; omega) hold)
      exact ⟨v', w', a, b, c _⟩

theorem Tryz.info5 : (Tryz.prog.info? 5).map (fun i => (i.zero, i.size, i.bytes)) = some (some (.int .u8 0), 1, 1) := by kernel_rfl

/- the same, as a step of a walk -/
theorem wpList_append_b {ops : Array Oper} {rest : List Oper} {o : Oper} {a : Act} {Q : Exit → Act → World → Prop} (w : World) (hgd : o.guard = none) (s x : Operand)
    (ho : o.op = .call { callee := .builtin .append, args := #[s, x], argTypes := #[22, 22] })
    (v : Value) (l : List UInt8) (hs : a.eval s = v) (hown : Own w v l) (xv : Value) (news : List UInt8) (hx : a.eval x = xv) (hsrc : Src Tryz.prog 1 22 xv news.length (vals news) w) (hlen : l.length + news.length ≤ 211106232532992)
    (h : ∀ v' w', Own w' v' (l ++ news) → Stp w w' v.ownBlock v'.ownBlock → wpList Tryz.prog ops Q rest (a.put o.dst v') w') : wpList Tryz.prog ops Q (o :: rest) a w := by
  refine wpList_plain hgd fun K hK => ?_
  obtain ⟨i, hi, hz0, hz1, hz2⟩ := info_parts Tryz.info5
  obtain ⟨v', w', hr, h2, h3⟩ := run_append_b (P := Tryz.prog) o.type Tryz.underlying22 hi hz0 hz1 hz2 w v l hown xv news hsrc hlen
  unfold Oper.wp execOp
  simp only [ho, resolve, invoke, builtin, Sem.run_bind, Sem.run_pure, Result.andThen_ok, List.map_toArray, List.map_cons, List.map_nil, hs, hx, hr]
  exact hK _ _ (h v' w' h2 h3)

end Go.Proofs.YtpbokgeaolpiaabGreat

/- What the functions that only read bytes return: both sums are the same sum, both ways to read a number with its highest byte first are the same number, and two slices are the same just if their bytes are. -/
namespace Go.Proofs.YtpbokgeaolpiaabGreat
open Go.RowKit

set_option maxHeartbeats 400000 in
theorem sum_any (a : Option Addr) (n cap : Nat) (l : List UInt8) (w : World) (hn : n = l.length) (h : Bs w a l) :
    Calls Tryz.prog 135 #[.slice a n cap] w fun e w' => e = .returned (.int .u32 ((nsum l : Nat) : Int)) ∧ w' = w := by
  obtain ⟨hlen, hne⟩ := h
  go_enter Tryz.func135, Tryz.ntmps135
  go_wp2
  go_loop [3, 9] (fun s i => ∃ k : Nat, k ≤ n ∧ i = .int .i64 k ∧ s = .int .u32 ((crc (l.take k) : Nat) : Int)) (fun _ i => n - (intOf i).toNat)
  case atStart => exact ⟨0, Nat.zero_le _, rfl, rfl⟩
  case round =>
    obtain ⟨k, hk, rfl, rfl⟩ := hrel
    have b0 := bat_lo l k
    have b1 := bat_hi l k
    have c1 := crc_lt (l.take k)
    by_cases hlt : k < n
    · obtain ⟨b, off, rfl, hb, hc⟩ := hne (by intro e; simp [e] at hn; omega)
      subst hn
      have hx := xor32_bat (crc (l.take k)) l k c1
      have HS : Hid (crc (l.take (k + 1)) = itS 8 (crc (l.take k) ^^^ bn l k)) := crc_take_succ l k hlt
      have hxl : crc (l.take k) ^^^ bn l k < 4294967296 := xor_lt32 _ _ c1 (by have := bn_lt l k; omega)
      go_wp2
      generalize crc (l.take k) ^^^ bn l k = x at *
      go_loop [3, 17] (fun s i => ∃ j : Nat, j ≤ 8 ∧ i = .int .i64 j ∧ s = .int .u32 ((itS j x : Nat) : Int)) (fun _ i => 8 - (intOf i).toNat)
      case atStart => exact ⟨0, Nat.zero_le _, rfl, rfl⟩
      case round =>
        obtain ⟨j, hj, rfl, rfl⟩ := hrel
        have il := itS_lt j x hxl
        have ha := and32_one (itS j x) il
        by_cases hjl : j < 8
        · go_wp2
          · exact ⟨⟨j + 1, by omega, by go_num, step_one j x il ‹_›⟩, by simp [intOf]; omega⟩
          · exact ⟨⟨j + 1, by omega, by go_num, step_none j x ‹_›⟩, by simp [intOf]; omega⟩
        · have hj8 : j = 8 := by omega
          subst hj8
          go_wp2
          exact ⟨⟨k + 1, by omega, by go_num, by rw [HS.out]⟩, by simp [intOf]; omega⟩
    · have hkn : k = l.length := by omega
      subst hkn
      have hnot := not32 (crc l) (crc_lt l)
      go_wp2
      go_ret
      exact ⟨rfl, rfl⟩

set_option maxHeartbeats 400000 in
theorem readHigh_any (a : Option Addr) (n cap : Nat) (l : List UInt8) (w : World) (hn : n = l.length) (h6 : n ≤ 6) (h : Bs w a l) :
    Calls Tryz.prog 136 #[.slice a n cap] w fun e w' => e = .returned (.int .i64 ((hi l : Nat) : Int)) ∧ w' = w := by
  obtain ⟨hlen, hne⟩ := h
  go_enter Tryz.func136, Tryz.ntmps136
  go_wp2
  go_loop [3, 8] (fun s i => ∃ k : Nat, k ≤ n ∧ i = .int .i64 k ∧ s = .int .i64 ((hi (l.take k) : Nat) : Int)) (fun _ i => n - (intOf i).toNat)
  case atStart => exact ⟨0, Nat.zero_le _, rfl, rfl⟩
  case round =>
    obtain ⟨k, hk, rfl, rfl⟩ := hrel
    have b0 := bat_lo l k
    have b1 := bat_hi l k
    by_cases hlt : k < n
    · obtain ⟨b, off, rfl, hb, hc⟩ := hne (by intro e; simp [e] at hn; omega)
      subst hn
      have c1 := hi_lt5 (l.take k) (by rw [List.length_take]; omega)
      have hor := or_byte (hi (l.take k)) c1 l k
      have HS : Hid (hi (l.take (k + 1)) = 256 * hi (l.take k) + bn l k) := hi_take_succ l k hlt
      go_wp2
      exact ⟨⟨k + 1, by omega, by go_num, by rw [HS.out]; go_num⟩, by simp [intOf]; omega⟩
    · have hkn : k = l.length := by omega
      subst hkn
      go_wp2
      go_ret
      exact ⟨rfl, rfl⟩

theorem same_ext (l1 l2 : List UInt8) (hl : l1.length = l2.length) (h : ∀ j, j < l1.length → bat l1 j = bat l2 j) : l1 = l2 := by
  apply List.ext_getElem hl
  intro i h1 h2
  have := h i h1
  simp [bat, bn, List.getD, h1, h2] at this
  exact UInt8.toNat.inj (by omega)

set_option maxHeartbeats 400000 in
theorem same_any (a1 a2 : Option Addr) (n1 n2 c1 c2 : Nat) (l1 l2 : List UInt8) (w : World) (hn1 : n1 = l1.length) (hn2 : n2 = l2.length) (h1 : Bs w a1 l1) (h2 : Bs w a2 l2) :
    Calls Tryz.prog 7 #[.slice a1 n1 c1, .slice a2 n2 c2] w fun e w' => e = .returned (.bool (decide (l1 = l2))) ∧ ∃ nq, w' = w.drewN nq := by
  obtain ⟨hlen1, hne1⟩ := h1
  obtain ⟨hlen2, hne2⟩ := h2
  have H1 : Hid (l1.length = n1) := hn1.symm
  have H2 : Hid (l2.length = n2) := hn2.symm
  rw [← hn1] at hlen1
  rw [← hn2] at hlen2
  clear hn1 hn2
  by_cases hnn : n1 = n2
  · subst hnn
    go_enter Tryz.func7, Tryz.ntmps7
    go_wp2
    go_loopw [5] (fun i wr => ∃ k : Nat, k ≤ n1 ∧ i = .int .i64 k ∧ Hid (∀ j, j < k → bat l1 j = bat l2 j) ∧ ∃ nq, wr = w.drewN nq) (fun i _ => n1 - (intOf i).toNat)
    case atStart => exact ⟨0, Nat.zero_le _, rfl, fun j hj => absurd hj (by omega), 0, rfl⟩
    case round =>
      obtain ⟨k, hk, rfl, hsame, nq, rfl⟩ := hrel
      by_cases hlt : k < n1
      · obtain ⟨b, off, rfl, hb, hc⟩ := hne1 (by intro e; have := H1.out; simp [e] at this; omega)
        obtain ⟨b', off', rfl, hb', hc'⟩ := hne2 (by intro e; have := H2.out; simp [e] at this; omega)
        have hcp := hc k (by have := H1.out; omega)
        have hcp' := hc' k (by have := H2.out; omega)
        go_wp2
        go_quiet (fail)
        go_wp2
        · rename_i hdiff
          go_ret
          refine ⟨?_, _, by simp only [World.drewN_drewN]; rfl⟩
          have : l1 ≠ l2 := fun e => by subst e; simp at hdiff
          simp [this]
        · rename_i heq
          have heq' : bat l1 k = bat l2 k := by simpa using heq
          refine ⟨⟨k + 1, by omega, by go_num, fun j hj => ?_, _, rfl⟩, by simp [intOf]; omega⟩
          by_cases hjk : j = k
          · rw [hjk]; exact heq'
          · exact hsame.out j (by omega)
      · go_wp2
        go_ret
        refine ⟨?_, _, rfl⟩
        have : l1 = l2 := same_ext l1 l2 (by rw [H1.out, H2.out]) (fun j hj => hsame.out j (by have := H1.out; omega))
        simp [this]
  · have hnb : ((n1 : Int) != (n2 : Int)) = true := by rw [bne_iff_ne]; omega
    go_enter Tryz.func7, Tryz.ntmps7
    go_wp2
    go_ret
    refine ⟨?_, 0, rfl⟩
    have : l1 ≠ l2 := fun e => hnn (by rw [← H1.out, ← H2.out, e])
    simp [this]

theorem lob_toNat (n i : Nat) : ((lob n i).toNat : Int) = (n : Int) / 2 ^ (8 * i) % 256 := by
  have h : (lob n i).toNat = n / 2 ^ (8 * i) % 256 := by
    unfold lob
    rw [show (256 : Nat) = 2 ^ 8 from rfl, ← Nat.pow_mul]
    simp
  rw [h]
  simp
theorem bat_lo4 (n j : Nat) (h : j < 4) : bat (lo4 n) j = (n : Int) / 2 ^ (8 * j) % 256 := by
  have hj : j = 0 ∨ j = 1 ∨ j = 2 ∨ j = 3 := by omega
  rw [← lob_toNat]
  rcases hj with rfl | rfl | rfl | rfl <;> rfl
theorem lo4_at (l : List UInt8) (n : Nat) (e : l = lo4 n) (k : Nat) (hk : k < 4) : bat l k = (n : Int) / 2 ^ (8 * k) % 256 := by rw [e]; exact bat_lo4 n k hk
theorem lo4_of (l : List UInt8) (n : Nat) (hl : l.length = 4) (h : ∀ j, j < 4 → bat l j = (n : Int) / 2 ^ (8 * j) % 256) : l = lo4 n :=
  same_ext l (lo4 n) (by rw [hl]; rfl) (fun j hj => by rw [h j (by omega), bat_lo4 n j (by omega)])

set_option maxHeartbeats 400000 in
set_option maxRecDepth 100000 in
/- the sum that is told is right: four bytes -/
theorem sumIsRight_any (a1 a2 : Option Addr) (n1 c1 c2 : Nat) (l1 l2 : List UInt8) (w : World) (hn1 : n1 = l1.length) (hn2 : l2.length = 4) (h1 : Bs w a1 l1) (h2 : Bs w a2 l2) :
    Calls Tryz.prog 75 #[.slice a1 n1 c1, .slice a2 4 c2] w fun e w' => e = .returned (.bool (decide (l2 = lo4 (nsum l1)))) ∧ w' = w := by
  subst hn1
  have hs := nsum_lt l1
  obtain ⟨b, off, rfl, hb, hc⟩ := h2.2 (by intro e; simp [e] at hn2)
  have hc0 := hc 0 (by omega)
  have hc1 := hc 1 (by omega)
  have hc2 := hc 2 (by omega)
  have hc3 := hc 3 (by omega)
  have B : ∀ j, 0 ≤ bat l2 j ∧ bat l2 j ≤ 255 := fun j => ⟨bat_lo l2 j, bat_hi l2 j⟩
  have HC : Hid (∀ j, j < 4 → w.cell? ⟨b, off + j, none⟩ = some (.int .u8 (bat l2 j))) := fun j hj => hc j (by omega)
  have HN : Hid (l2.length = 4) := hn2
  clear hc hn2 h2 hc0 hc1 hc2 hc3
  go_enter Tryz.func75, Tryz.ntmps75
  go_wp2_with fail
  refine (sum_any a1 _ c1 l1 w rfl h1).mono ?_
  rintro e w' ⟨rfl, hw⟩
  subst hw
  clear h1
  go_wp2
  go_loop [12] (fun i => ∃ k : Nat, k ≤ 4 ∧ i = .int .i64 k ∧ Hid (∀ j, j < k → bat l2 j = (nsum l1 : Int) / 2 ^ (8 * j) % 256)) (fun i => 4 - (intOf i).toNat)
  case atStart => exact ⟨0, Nat.zero_le _, rfl, fun j hj => absurd hj (by omega)⟩
  case round =>
    obtain ⟨k, hk, rfl, hsame⟩ := hrel
    by_cases hlt : k < 4
    · have hcp := HC.out k hlt
      go_wp2
      · rename_i _ hdiff _
        go_ret
        refine ⟨?_, rfl⟩
        have : l2 ≠ lo4 (nsum l1) := fun e => by
          have h2 := lo4_at l2 _ e k hlt
          rw [h2] at hdiff; simp at hdiff
        simp [this]
      · rename_i _ _ heq
        have heq' : bat l2 k = (nsum l1 : Int) / 2 ^ (8 * k) % 256 := by simpa using heq
        refine ⟨⟨k + 1, by omega, by go_num, fun j hj => ?_⟩, by simp [intOf]; omega⟩
        by_cases hjk : j = k
        · rw [hjk]; exact heq'
        · exact hsame.out j (by omega)
    · go_wp2
      go_ret
      refine ⟨?_, rfl⟩
      have : l2 = lo4 (nsum l1) := lo4_of l2 _ HN.out (fun j hj => hsame.out j (by omega))
      simp [this]
end Go.Proofs.YtpbokgeaolpiaabGreat

/- What the functions that append bytes return: a row of their own with the bytes behind those that were there; and the head of a frame read apart. -/
namespace Go.Proofs.YtpbokgeaolpiaabGreat
open Go.RowKit

theorem src_one (w : World) (b : UInt8) (x : Int) (hx : x = (b.toNat : Int)) (cs : Array Value) (hcs : cs = #[.int .u8 x]) : Src Tryz.prog 1 22 (.slice (some ⟨w.heap.size, 0, none⟩) 1 1) 1 (vals [b]) (w.alloc (.cells cs 5)) := by
  subst hx; subst hcs
  refine Src.ofSlice _ Tryz.underlying22 _ 1 1 (vals [b]) rfl (fun j u hu => ?_) (vals_one _)
  match j, hu with
  | 0, hu => simp [vals] at hu; subst hu; simp [Addr.add]

theorem hb_byte (n s : Nat) : ((UInt8.ofNat (n / 256 ^ s)).toNat : Int) = (n : Int) / 2 ^ (8 * s) % 256 := lob_toNat n s

set_option maxHeartbeats 400000 in
theorem appendHigh_any (v : Value) (l : List UInt8) (n size : Int) (w : World) (hn : 0 ≤ n) (hs0 : 0 ≤ size) (hs6 : size ≤ 6) (hl : l.length ≤ 281474976710) (hown : Own w v l) :
    Calls Tryz.prog 72 #[v, .int .i64 n, .int .i64 size] w fun e w' => ∃ v', e = .returned v' ∧ Own w' v' (l ++ hb n.toNat size.toNat) ∧ Stp w w' v.ownBlock v'.ownBlock := by
  obtain ⟨p, rfl⟩ := Int.eq_ofNat_of_zero_le hn
  obtain ⟨q, rfl⟩ := Int.eq_ofNat_of_zero_le hs0
  go_enter Tryz.func72, Tryz.ntmps72
  go_wp2
  go_loopw [0, 7] (fun v' i wr => ∃ k : Nat, ∃ pre : List UInt8, k ≤ q ∧ i = .int .i64 ((k : Int) - 1) ∧ Hid (pre.length = q - k) ∧ Hid (pre ++ hb p k = hb p q) ∧ Own wr v' (l ++ pre) ∧ Stp w wr v.ownBlock v'.ownBlock) (fun _ i _ => (intOf i + 1).toNat)
  case atStart => exact ⟨q, [], Nat.le_refl _, rfl, by show 0 = q - q; omega, rfl, by rw [List.append_nil]; exact hown, Stp.refl _ _⟩
  case round =>
    obtain ⟨k, pre, hk, rfl, hpl, hpre, hown', hstp⟩ := hrel
    by_cases hlt : 0 < k
    · obtain ⟨m, rfl⟩ : ∃ m, k = m + 1 := ⟨k - 1, by omega⟩
      go_wp2_with (at_builtin; refine wpList_append_b _ rfl (.tmp 14) (.tmp 20) rfl _ (l ++ pre) rfl (hown'.alloc _) _ [UInt8.ofNat (p / 256 ^ m)] rfl ?src ?len ?k)
      case src => exact src_one _ _ _ (hb_byte p m).symm _ rfl
      case len => have := hpl.out; simp only [List.length_append, List.length_cons, List.length_nil]; omega
      case k =>
        intro v' w1 hown1 hst1
        go_wp2
        refine ⟨⟨m, pre ++ [UInt8.ofNat (p / 256 ^ m)], by omega, by go_num, ?_, ?_, by exact hown1, ?_⟩, by simp [intOf]⟩
        · have := hpl.out; show (pre ++ [_]).length = q - m; simp only [List.length_append, List.length_cons, List.length_nil]; omega
        · have := hpre.out; show pre ++ [_] ++ hb p m = hb p q; rw [← this, List.append_assoc]; rfl
        · exact (hstp.alloc _).trans hst1
    · have hk0 : k = 0 := by omega
      subst hk0
      have hfin := hpre.out
      go_wp2
      go_ret
      refine ⟨_, rfl, ?_, hstp⟩
      have : hb p q = pre := by rw [← hfin]; simp [hb]
      simpa [this] using hown'

set_option maxHeartbeats 400000 in
theorem copyBytes_any (a : Option Addr) (n cap : Nat) (l : List UInt8) (w : World) (hn : n = l.length) (h : Bs w a l) :
    Calls Tryz.prog 76 #[.slice a n cap] w fun e w' => ∃ v', e = .returned v' ∧ Own w' v' l ∧ Stp w w' none v'.ownBlock := by
  subst hn
  go_enter Tryz.func76, Tryz.ntmps76
  go_wp2_with (at_builtin; refine wpList_append_b _ rfl (.const (.slice none 0 0)) (.tmp 3) rfl _ [] rfl (.inl ⟨rfl, rfl⟩) _ l rfl (h.src Tryz.underlying22 cap) ?len ?k)
  case len => have := h.1; simp only [List.length_nil]; omega
  case k =>
    intro v' w1 hown1 hst1
    go_wp2
    go_ret
    exact ⟨_, rfl, by simpa using hown1, hst1⟩

theorem src_four (w : World) (b0 b1 b2 b3 : UInt8) (x0 x1 x2 x3 : Int) (h0 : x0 = (b0.toNat : Int)) (h1 : x1 = (b1.toNat : Int)) (h2 : x2 = (b2.toNat : Int)) (h3 : x3 = (b3.toNat : Int)) (cs : Array Value) (hcs : cs = #[.int .u8 x0, .int .u8 x1, .int .u8 x2, .int .u8 x3]) :
    Src Tryz.prog 1 22 (.slice (some ⟨w.heap.size, 0, none⟩) 4 4) 4 (vals [b0, b1, b2, b3]) (w.alloc (.cells cs 5)) := by
  subst h0; subst h1; subst h2; subst h3; subst hcs
  refine Src.ofSlice _ Tryz.underlying22 _ 4 4 (vals [b0, b1, b2, b3]) rfl (fun j u hu => ?_) (vals_one _)
  match j, hu with
  | 0, hu => simp [vals] at hu; subst hu; simp [Addr.add]
  | 1, hu => simp [vals] at hu; subst hu; simp [Addr.add]
  | 2, hu => simp [vals] at hu; subst hu; simp [Addr.add]
  | 3, hu => simp [vals] at hu; subst hu; simp [Addr.add]

theorem lob_n0 (n : Nat) : (n : Int) % 256 = ((lob n 0).toNat : Int) := by have := lob_toNat n 0; simpa using this.symm
theorem lob_n1 (n : Nat) : (n : Int) / 256 % 256 = ((lob n 1).toNat : Int) := by have := lob_toNat n 1; simpa using this.symm
theorem lob_n2 (n : Nat) : (n : Int) / 65536 % 256 = ((lob n 2).toNat : Int) := by have := lob_toNat n 2; simpa using this.symm
theorem lob_n3 (n : Nat) (h : n < 4294967296) : (n : Int) / 16777216 = ((lob n 3).toNat : Int) := by
  have := lob_toNat n 3
  have e : (n : Int) / 16777216 = (n : Int) / 16777216 % 256 := by omega
  rw [e]; simpa using this.symm

set_option maxHeartbeats 400000 in
theorem appendSum_any (v : Value) (l : List UInt8) (w : World) (hl : l.length ≤ 281474976710) (hown : Own w v l) :
    Calls Tryz.prog 73 #[v] w fun e w' => ∃ v', e = .returned v' ∧ Own w' v' (l ++ lo4 (nsum l)) ∧ Stp w w' v.ownBlock v'.ownBlock := by
  obtain ⟨a, cap, rfl, hbs⟩ := hown.form
  have hs := nsum_lt l
  go_enter Tryz.func73, Tryz.ntmps73
  go_wp2_with fail
  refine (sum_any a _ cap l w rfl (hbs (by omega))).mono ?_
  rintro e w' ⟨rfl, hw⟩
  subst hw
  go_wp2_with (at_builtin; refine wpList_append_b _ rfl (.tmp 6) (.tmp 18) rfl _ l rfl (hown.alloc _) _ (lo4 (nsum l)) rfl ?src ?len ?k)
  case src => exact src_four _ _ _ _ _ _ _ _ _ (lob_n0 _) (lob_n1 _) (lob_n2 _) (lob_n3 _ hs) _ rfl
  case len => simp [lo4]; omega
  case k =>
    intro v' w1 hown1 hst1
    go_wp2
    go_ret
    exact ⟨_, rfl, hown1, ((Stp.refl _ _).alloc _).trans hst1⟩

theorem Bs.drewN {w : World} {a : Option Addr} {l : List UInt8} (h : Bs w a l) (n : Nat) : Bs (w.drewN n) a l := h
theorem Bs.part {w : World} {b off : Nat} {l : List UInt8} (h : Bs w (some ⟨b, off, none⟩) l) (p q : Nat) : Bs w (some ⟨b, off + p, none⟩) ((l.drop p).take q) := by
  refine ⟨?_, fun hne => ?_⟩
  · have := h.1; simp only [List.length_take, List.length_drop]; omega
  · obtain ⟨b', off', e, hb, hc⟩ := h.2 (by rintro rfl; simp at hne)
    cases e
    refine ⟨b, off + p, rfl, hb, fun j hj => ?_⟩
    simp only [List.length_take, List.length_drop] at hj
    have := hc (p + j) (by omega)
    rw [Nat.add_assoc, this]
    congr 2
    have hj2 : p + j < l.length := by omega
    have hj3 : j < l.length - p := by omega
    simp [bat, bn, List.getD, hj2, hj3, show j < q by omega]
theorem Bs.first {w : World} {b off : Nat} {l : List UInt8} (h : Bs w (some ⟨b, off, none⟩) l) (q : Nat) : Bs w (some ⟨b, off, none⟩) (l.take q) := by
  have := h.part 0 q
  simpa using this

set_option maxHeartbeats 400000 in
theorem readHead_any (a : Option Addr) (n cap : Nat) (l : List UInt8) (w : World) (hn : n = l.length) (h11 : 11 ≤ n) (hcap : n ≤ cap) (h : Bs w a l) :
    Calls Tryz.prog 74 #[.slice a n cap] w fun e w' => e = .returned (.tuple #[.int .i64 ((hi (l.take 4) : Nat) : Int), .int .i64 ((hi ((l.drop 4).take 1) : Nat) : Int), .int .i64 ((hi ((l.drop 5).take 6) : Nat) : Int)]) ∧ ∃ nq, w' = w.drewN nq := by
  obtain ⟨b, off, rfl, hb, hc⟩ := h.2 (by intro e; simp [e] at hn; omega)
  have hl11 : 11 ≤ l.length := by omega
  have h4 : (l.take 4).length = 4 := by simp; omega
  have h1 : ((l.drop 4).take 1).length = 1 := by simp; omega
  have h6 : ((l.drop 5).take 6).length = 6 := by simp; omega
  have k4 : (4 : Int) ≤ (cap : Int) := by omega
  have k5 : (5 : Int) ≤ (cap : Int) := by omega
  have k11 : (11 : Int) ≤ (cap : Int) := by omega
  have n4 : ¬ cap = 4 := by omega
  have n5 : ¬ cap = 5 := by omega
  have H4 : Hid _ := h4
  have H1 : Hid _ := h1
  have H6 : Hid _ := h6
  clear h4 h1 h6 hn hc
  go_enter Tryz.func74, Tryz.ntmps74
  go_wp2
  go_quiet (first
    | (go_at_call 136; refine Calls.quiet_of_same (readHigh_any _ _ _ (l.take 4) _ ?_ ?_ ?_); exact H4.out.symm; omega; exact (h.first 4).drewN _)
    | (go_at_call 136; refine Calls.quiet_of_same (readHigh_any _ _ _ ((l.drop 4).take 1) _ ?_ ?_ ?_); exact H1.out.symm; omega; exact (h.part 4 1).drewN _)
    | (go_at_call 136; refine Calls.quiet_of_same (readHigh_any _ _ _ ((l.drop 5).take 6) _ ?_ ?_ ?_); exact H6.out.symm; omega; exact (h.part 5 6).drewN _))
  go_wp2
  go_ret3
  exact ⟨rfl, _, rfl⟩
end Go.Proofs.YtpbokgeaolpiaabGreat

/- What the writer's number does: the number's bytes stand behind those that were there; nothing else of what is kept has turned. -/
namespace Go.Proofs.YtpbokgeaolpiaabGreat
open Go.RowKit

/- the groups of seven bits of a number, the lowest first -/
def lastB (u : Nat) : UInt8 := UInt8.ofNat u
def contB (u : Nat) : UInt8 := UInt8.ofNat (u % 128 + 128)
theorem lastB_n (u : Nat) (h : u < 128) : (u : Int) = ((lastB u).toNat : Int) := by unfold lastB; simp; omega
theorem contB_n (u : Nat) : (u : Int) % 128 + 128 = ((contB u).toNat : Int) := by unfold contB; rw [UInt8.toNat_ofNat']; omega
def encF : Nat → Nat → List UInt8
  | 0, u => [lastB u]
  | k + 1, u => if u < 128 then [lastB u] else contB u :: encF k (u / 128)
def encU (u : Nat) : List UInt8 := encF u u
theorem encF_succ (k u : Nat) (h : u ≤ k) : encF (k + 1) u = encF k u := by
  induction k generalizing u with
  | zero =>
    have : u = 0 := by omega
    subst this; rfl
  | succ k ih =>
    rw [encF]
    conv => rhs; rw [encF]
    by_cases hu : u < 128
    · rw [if_pos hu, if_pos hu]
    · rw [if_neg hu, if_neg hu, ih (u / 128) (by omega)]
theorem encF_le (d u : Nat) : encF (u + d) u = encF u u := by
  induction d with
  | zero => rfl
  | succ d ih => rw [← ih]; exact encF_succ (u + d) u (by omega)
def foldN (n : Int) : Int := if n < 0 then -2 * n - 1 else 2 * n
def enc (n : Int) : List UInt8 := encU (foldN n).toNat
theorem encU_small (u : Nat) (h : u < 128) : encU u = [lastB u] := by
  unfold encU
  cases u with
  | zero => rfl
  | succ u => rw [encF, if_pos h]
theorem encU_big (u : Nat) (h : ¬ u < 128) : encU u = contB u :: encU (u / 128) := by
  unfold encU
  cases u with
  | zero => exact absurd (by omega) h
  | succ u =>
    rw [encF, if_neg h]
    have := encF_le (u - (u + 1) / 128) ((u + 1) / 128)
    rw [show (u + 1) / 128 + (u - (u + 1) / 128) = u by omega] at this
    rw [this]
theorem encU_length (u k : Nat) (h : u < 128 ^ (k + 1)) : (encU u).length ≤ k + 1 := by
  induction k generalizing u with
  | zero => rw [encU_small u (by simpa using h)]; simp
  | succ k ih =>
    by_cases hu : u < 128
    · rw [encU_small u hu]; simp
    · rw [encU_big u hu, List.length_cons]
      have := ih (u / 128) (by rw [Nat.pow_succ] at h; omega)
      omega
theorem enc_length (n : Int) (h0 : -1099511627776 ≤ n) (h1 : n ≤ 1099511627776) : (enc n).length ≤ 6 := by
  unfold enc
  exact encU_length _ 5 (by unfold foldN; split <;> omega)

/- a writer at block p, behind its bytes l; the blocks of prot are neither its own nor its row -/
def WR (w : World) (p : Nat) (l : List UInt8) (bad : Bool) (prot : Nat → Prop) : Prop :=
  (¬ prot p) ∧ (∀ b, prot b → b < w.heap.size) ∧ p < w.heap.size ∧ ∃ v, w.cell? ⟨p, 0, none⟩ = some v ∧ w.cell? ⟨p, 1, none⟩ = some (.bool bad) ∧ w.frozen? ⟨p, 0, none⟩ = false ∧ w.frozen? ⟨p, 1, none⟩ = false ∧
    Own w v l ∧ (∀ r, v.ownBlock = some r → r ≠ p ∧ ¬ prot r)
structure Kp (w w' : World) (prot : Nat → Prop) : Prop where
  os : w'.os = w.os
  tape : w'.tape = w.tape
  output : w'.output = w.output
  size : w.heap.size ≤ w'.heap.size
  block : ∀ k, prot k → w'.heap[k]? = w.heap[k]?
theorem Kp.refl (w : World) (prot : Nat → Prop) : Kp w w prot := ⟨rfl, rfl, rfl, Nat.le_refl _, fun _ _ => rfl⟩
theorem Kp.trans {a b c : World} {prot : Nat → Prop} (h : Kp a b prot) (k : Kp b c prot) : Kp a c prot :=
  ⟨k.os.trans h.os, k.tape.trans h.tape, k.output.trans h.output, Nat.le_trans h.size k.size, fun i hi => (k.block i hi).trans (h.block i hi)⟩
theorem Kp.mono {a b : World} {prot prot' : Nat → Prop} (h : Kp a b prot) (hp : ∀ k, prot' k → prot k) : Kp a b prot' := ⟨h.os, h.tape, h.output, h.size, fun k hk => h.block k (hp k hk)⟩
theorem Kp.alloc (w : World) (o : Obj) (prot : Nat → Prop) (h : ∀ b, prot b → b < w.heap.size) : Kp w (w.alloc o) prot := ⟨rfl, rfl, rfl, by simp, fun k hk => Below.heap_alloc w o k (h k hk)⟩
theorem Kp.cell {w w' : World} {prot : Nat → Prop} (h : Kp w w' prot) {a : Addr} (ha : prot a.block) : w'.cell? a = w.cell? a := World.cell?_of_block (h.block _ ha)
theorem WR.mono {w : World} {p : Nat} {l : List UInt8} {bad : Bool} {prot prot' : Nat → Prop} (h : WR w p l bad prot) (hp : ∀ k, prot' k → prot k) : WR w p l bad prot' := by
  obtain ⟨h1, h2, h3, v, h4, h5, h6, h7, h8, h9⟩ := h
  exact ⟨fun x => h1 (hp _ x), fun b hb => h2 b (hp b hb), h3, v, h4, h5, h6, h7, h8, fun r hr => ⟨(h9 r hr).1, fun x => (h9 r hr).2 (hp _ x)⟩⟩
theorem WR.box {w : World} {p : Nat} {l : List UInt8} {bad : Bool} {prot : Nat → Prop} (h : WR w p l bad prot) (o : Obj) : WR (w.alloc o) p l bad (fun b => prot b ∨ b = w.heap.size) := by
  obtain ⟨h1, h2, h3, v, h4, h5, h6, h7, h8, h9⟩ := h
  refine ⟨fun x => ?_, fun b hb => ?_, by simp; omega, v, ?_, ?_, ?_, ?_, h8.alloc o, fun r hr => ⟨(h9 r hr).1, fun x => ?_⟩⟩
  · rcases x with x | x
    · exact h1 x
    · omega
  · rcases hb with hb | hb
    · have := h2 b hb; simp; omega
    · simp; omega
  · rw [World.cell?_alloc_past _ _ _ h3]; exact h4
  · rw [World.cell?_alloc_past _ _ _ h3]; exact h5
  · rw [World.frozen?_alloc_past _ _ _ h3]; exact h6
  · rw [World.frozen?_alloc_past _ _ _ h3]; exact h7
  · rcases x with x | x
    · exact (h9 r hr).2 x
    · have := h8.lt r hr; omega

/- a store of the grown row into the writer, behind an append of one byte out of a new block -/
theorem WR.store {w w1 : World} {p : Nat} {l' : List UInt8} {bad : Bool} {prot : Nat → Prop} {v v' : Value} (o : Obj) (h1 : ¬ prot p) (h2 : ∀ b, prot b → b < w.heap.size) (h3 : p < w.heap.size)
    (h5 : w.cell? ⟨p, 1, none⟩ = some (.bool bad)) (h6 : w.frozen? ⟨p, 0, none⟩ = false) (h7 : w.frozen? ⟨p, 1, none⟩ = false) (h9 : ∀ r, v.ownBlock = some r → r ≠ p ∧ ¬ prot r) (h4 : w.cell? ⟨p, 0, none⟩ = some v)
    (o1 : Own w1 v' l') (s1 : Stp (w.alloc o) w1 v.ownBlock v'.ownBlock) : WR (w1.setCell ⟨p, 0, none⟩ v') p l' bad prot ∧ Kp w (w1.setCell ⟨p, 0, none⟩ v') prot ∧ w1.cell? ⟨p, 0, none⟩ = some v ∧ w1.frozen? ⟨p, 0, none⟩ = false := by
  have hv : ∀ r, v'.ownBlock = some r → r ≠ p ∧ ¬ prot r := by
    intro r hr
    rcases s1.row with e | ⟨k, e, hk⟩
    · exact h9 r (by rw [← e]; exact hr)
    · rw [hr] at e; cases e
      simp at hk
      exact ⟨by omega, fun x => by have := h2 r x; omega⟩
  have hold : ∀ k, k < w.heap.size → some k ≠ v.ownBlock → w1.heap[k]? = w.heap[k]? := fun k hk hne => (s1.block k (by simp; omega) hne).trans (Below.heap_alloc w o k hk)
  have hp := hold p h3 (fun e => (h9 p e.symm).1 rfl)
  have c0 : w1.cell? ⟨p, 0, none⟩ = some v := (World.cell?_of_block hp).trans h4
  have hsz : w.heap.size ≤ w1.heap.size := by have := s1.size; rw [World.size_alloc] at this; omega
  have hk : ∀ k, k ≠ p → (w1.setCell ⟨p, 0, none⟩ v').heap[k]? = w1.heap[k]? := fun k hk => Below.heap_setCell w1 ⟨p, 0, none⟩ v' k hk
  refine ⟨⟨h1, fun b hb => by have := h2 b hb; simp; omega, by simp; omega, v', ?_, ?_, ?_, ?_, o1.kept (fun k e => hk k (hv k e).1), hv⟩, ⟨s1.os, s1.tape, s1.output, by simp; omega, fun k x => ?_⟩, c0, (World.frozen?_of_block hp).trans h6⟩
  · exact World.cell?_setCell_same w1 _ _ c0
  · rw [World.cell?_setCell_other w1 _ _ _ (by simp)]; exact (World.cell?_of_block hp).trans h5
  · rw [World.frozen?_setCell]; exact (World.frozen?_of_block hp).trans h6
  · rw [World.frozen?_setCell]; exact (World.frozen?_of_block hp).trans h7
  · rw [hk k (fun e => h1 (e ▸ x))]
    exact hold k (h2 k x) (fun e => (h9 k e.symm).2 x)

set_option maxHeartbeats 400000 in
theorem fold_any (n : Int) (w : World) (h0 : -1099511627776 ≤ n) (h1 : n ≤ 1099511627776) : Calls Tryz.prog 114 #[.int .i64 n] w fun e w' => e = .returned (.int .i64 (foldN n)) ∧ w' = w := by
  by_cases h : n < 0
  · have H : Hid (foldN n = -2 * n - 1) := by show foldN n = _; unfold foldN; rw [if_pos h]
    go_enter Tryz.func114, Tryz.ntmps114
    go_wp2
    go_ret
    exact ⟨by rw [H.out]; rfl, rfl⟩
  · have H : Hid (foldN n = 2 * n) := by show foldN n = _; unfold foldN; rw [if_neg h]
    go_enter Tryz.func114, Tryz.ntmps114
    go_wp2
    go_ret
    exact ⟨by rw [H.out]; rfl, rfl⟩

set_option maxHeartbeats 400000 in
set_option maxRecDepth 100000 in
theorem number_ok (p : Nat) (l : List UInt8) (bad : Bool) (prot : Nat → Prop) (n : Int) (w : World) (h0 : -1099511627776 ≤ n) (h1 : n ≤ 1099511627776) (hl : l.length ≤ 137438953472) (h : WR w p l bad prot) :
    Calls Tryz.prog 65 #[.pointer (some ⟨p, 0, none⟩), .int .i64 n] w fun e w' => e = .returned (.tuple #[]) ∧ WR w' p (l ++ enc n) bad prot ∧ Kp w w' prot := by
  have HE : Hid (enc n = encU (foldN n).toNat) := rfl
  have f0 : 0 ≤ foldN n := by unfold foldN; split <;> omega
  have f1 : foldN n ≤ 2199023255552 := by unfold foldN; split <;> omega
  go_enter Tryz.func65, Tryz.ntmps65
  go_wp2_with fail
  refine (fold_any n w h0 h1).mono ?_
  rintro e w' ⟨rfl, hw⟩
  subst hw
  obtain ⟨u0, hu0⟩ := Int.eq_ofNat_of_zero_le f0
  rw [hu0] at f1
  rw [hu0]
  have HE2 : Hid (enc n = encU u0) := by show enc n = _; rw [HE.out, hu0]; rfl
  clear HE hu0 f0
  go_wp2
  go_loopw [4] (fun t wr => ∃ u : Nat, ∃ m : List UInt8, u ≤ u0 ∧ t = .int .i64 u ∧ Hid (m ++ encU u = l ++ encU u0) ∧ WR wr p m bad prot ∧ Kp w' wr prot) (fun t _ => (intOf t).toNat)
  case atStart => exact ⟨u0, l, Nat.le_refl _, rfl, rfl, h, Kp.refl _ _⟩
  case round =>
    obtain ⟨u, m, hu, rfl, hpre, hW, hK⟩ := hrel
    obtain ⟨q1, q2, q3, v, q4, q5, q6, q7, q8, q9⟩ := hW
    obtain ⟨a, c, hv, hbs⟩ := q8.form
    subst hv
    have H2 : Hid _ := q2
    have H9 : Hid _ := q9
    have H1 : Hid _ := q1
    clear q1 q2 q9 hbs
    have hml : Hid (m.length ≤ 137438953482) := by
      have e := congrArg List.length hpre.out
      rw [List.length_append, List.length_append] at e
      have := encU_length u0 5 (by omega)
      show m.length ≤ _
      omega
    by_cases hub : u < 128
    · have hpu : Hid (encU u = [lastB u]) := encU_small u hub
      go_wp2_with (at_builtin; refine wpList_append_b _ rfl (.tmp 37) (.tmp 40) rfl _ m rfl (q8.alloc _) _ [lastB u] rfl ?src ?len ?next)
      case src => exact src_one _ _ _ (lastB_n u hub) _ rfl
      case len => have := hml.out; simp only [List.length_cons, List.length_nil]; omega
      case next =>
        intro v' w1 o1 s1
        obtain ⟨hW1, hK1, c1, d1⟩ := WR.store _ H1.out H2.out q3 q5 q6 q7 H9.out q4 o1 s1
        obtain ⟨a', c', hv', _⟩ := o1.form
        subst hv'
        rw [show (m ++ [lastB u]).length = m.length + 1 from by simp] at hW1 hK1
        go_wp2
        go_end0
        refine ⟨rfl, ?_, hK.trans hK1⟩
        have e : l ++ enc n = m ++ [lastB u] := by rw [HE2.out, ← hpre.out, hpu.out]
        rw [e]
        exact hW1
    · have hpu : Hid (encU u = contB u :: encU (u / 128)) := encU_big u hub
      go_wp2_with (at_builtin; refine wpList_append_b _ rfl (.tmp 22) (.tmp 27) rfl _ m rfl (q8.alloc _) _ [contB u] rfl ?src ?len ?next)
      case src => exact src_one _ _ _ (contB_n u) _ rfl
      case len => have := hml.out; simp only [List.length_cons, List.length_nil]; omega
      case next =>
        intro v' w1 o1 s1
        obtain ⟨hW1, hK1, c1, d1⟩ := WR.store _ H1.out H2.out q3 q5 q6 q7 H9.out q4 o1 s1
        obtain ⟨a', c', hv', _⟩ := o1.form
        subst hv'
        rw [show (m ++ [contB u]).length = m.length + 1 from by simp] at hW1 hK1
        go_wp2
        refine ⟨⟨u / 128, m ++ [contB u], by omega, by go_num, ?_, hW1, hK.trans hK1⟩, by simp [intOf]; omega⟩
        show m ++ [contB u] ++ encU (u / 128) = _
        rw [← hpre.out, hpu.out, List.append_assoc]; rfl

theorem enc_zero : enc 0 = [0] := by
  unfold enc foldN
  rw [if_neg (by omega), encU_small _ (by simp)]; rfl
theorem enc_one : enc 1 = [2] := by
  unfold enc foldN
  rw [if_neg (by omega), encU_small _ (by simp)]; rfl
end Go.Proofs.YtpbokgeaolpiaabGreat

/- What the writer does with records of zero values: each puts its zero bytes behind those that were there, as many as it has fields and lists. -/
namespace Go.Proofs.YtpbokgeaolpiaabGreat
open Go.RowKit

def zs (k : Nat) : List UInt8 := List.replicate k 0
theorem zs_length (k : Nat) : (zs k).length = k := by simp [zs]
theorem zs_zero : zs 0 = [] := rfl
theorem zs_one : zs 1 = [0] := rfl
theorem zs_add (a b : Nat) : zs a ++ zs b = zs (a + b) := by simp [zs]

theorem number_z (p : Nat) (l : List UInt8) (bad : Bool) (prot : Nat → Prop) (w : World) (hl : l.length + 1 ≤ 137438953472) (h : WR w p l bad prot) :
    Calls Tryz.prog 65 #[.pointer (some ⟨p, 0, none⟩), .int .i64 0] w fun e w' => e = .returned (.tuple #[]) ∧ WR w' p (l ++ zs 1) bad prot ∧ Kp w w' prot := by
  have := number_ok p l bad prot 0 w (by omega) (by omega) (by omega) h
  rw [enc_zero] at this
  exact this

set_option maxHeartbeats 400000 in
theorem truth_z (p : Nat) (l : List UInt8) (bad : Bool) (prot : Nat → Prop) (w : World) (hl : l.length + 1 ≤ 137438953472) (h : WR w p l bad prot) :
    Calls Tryz.prog 86 #[.pointer (some ⟨p, 0, none⟩), .bool false] w fun e w' => e = .returned (.tuple #[]) ∧ WR w' p (l ++ zs 1) bad prot ∧ Kp w w' prot := by
  go_enter Tryz.func86, Tryz.ntmps86
  go_wp2_with fail
  refine (number_z p l bad prot w hl h).mono ?_
  rintro e w' ⟨rfl, hW, hK⟩
  go_wp2
  go_end0
  exact ⟨rfl, hW, hK⟩


set_option maxHeartbeats 400000 in
theorem listReport_z (p : Nat) (l : List UInt8) (bad : Bool) (prot : Nat → Prop) (f : Value) (w : World) (hl : l.length + 1 ≤ 137438953472) (h : WR w p l bad prot) :
    Calls Tryz.prog 68 #[.pointer (some ⟨p, 0, none⟩), .slice none 0 0, f] w fun e w' => e = .returned (.tuple #[]) ∧ WR w' p (l ++ zs 1) bad prot ∧ Kp w w' prot := by
  go_enter Tryz.func68, Tryz.ntmps68
  go_wp2_with fail
  refine (number_z p l bad prot w hl h).mono ?_
  rintro e w' ⟨rfl, hW, hK⟩
  go_wp2
  refine wp_loop_rounds 1 ?_
  rw [rounds_succ]
  go_wp2
  go_end0
  exact ⟨rfl, hW, hK⟩


set_option maxHeartbeats 400000 in
theorem listGroup_z (p : Nat) (l : List UInt8) (bad : Bool) (prot : Nat → Prop) (f : Value) (w : World) (hl : l.length + 1 ≤ 137438953472) (h : WR w p l bad prot) :
    Calls Tryz.prog 131 #[.pointer (some ⟨p, 0, none⟩), .slice none 0 0, f] w fun e w' => e = .returned (.tuple #[]) ∧ WR w' p (l ++ zs 1) bad prot ∧ Kp w w' prot := by
  go_enter Tryz.func131, Tryz.ntmps131
  go_wp2_with fail
  refine (number_z p l bad prot w hl h).mono ?_
  rintro e w' ⟨rfl, hW, hK⟩
  go_wp2
  refine wp_loop_rounds 1 ?_
  rw [rounds_succ]
  go_wp2
  go_end0
  exact ⟨rfl, hW, hK⟩


set_option maxHeartbeats 400000 in
theorem listInt_z (p : Nat) (l : List UInt8) (bad : Bool) (prot : Nat → Prop) (f : Value) (w : World) (hl : l.length + 1 ≤ 137438953472) (h : WR w p l bad prot) :
    Calls Tryz.prog 134 #[.pointer (some ⟨p, 0, none⟩), .slice none 0 0, f] w fun e w' => e = .returned (.tuple #[]) ∧ WR w' p (l ++ zs 1) bad prot ∧ Kp w w' prot := by
  go_enter Tryz.func134, Tryz.ntmps134
  go_wp2_with fail
  refine (number_z p l bad prot w hl h).mono ?_
  rintro e w' ⟨rfl, hW, hK⟩
  go_wp2
  refine wp_loop_rounds 1 ?_
  rw [rounds_succ]
  go_wp2
  go_end0
  exact ⟨rfl, hW, hK⟩


set_option maxHeartbeats 400000 in
theorem listAlloc_z (p : Nat) (l : List UInt8) (bad : Bool) (prot : Nat → Prop) (f : Value) (w : World) (hl : l.length + 1 ≤ 137438953472) (h : WR w p l bad prot) :
    Calls Tryz.prog 106 #[.pointer (some ⟨p, 0, none⟩), .slice none 0 0, f] w fun e w' => e = .returned (.tuple #[]) ∧ WR w' p (l ++ zs 1) bad prot ∧ Kp w w' prot := by
  go_enter Tryz.func106, Tryz.ntmps106
  go_wp2_with fail
  refine (number_z p l bad prot w hl h).mono ?_
  rintro e w' ⟨rfl, hW, hK⟩
  go_wp2
  refine wp_loop_rounds 1 ?_
  rw [rounds_succ]
  go_wp2
  go_end0
  exact ⟨rfl, hW, hK⟩


set_option maxHeartbeats 800000 in
theorem res_z (p : Nat) (l : List UInt8) (bad : Bool) (prot : Nat → Prop) (w : World) (hl : l.length + 2 ≤ 137438953472) (h : WR w p l bad prot) :
    Calls Tryz.prog 133 #[.pointer (some ⟨p, 0, none⟩), .agg #[.int .i64 0, .int .i64 0]] w fun e w' => e = .returned (.tuple #[]) ∧ WR w' p (l ++ zs 2) bad prot ∧ Kp w w' prot := by
  have hmf : ∀ (fn : Fn) (first cap : Array Value) (w : World), (Instr.makeFunc fn first cap).run Tryz.prog w = .ok (.func fn first cap) w := fun _ _ _ _ => rfl
  have hW0 : WR (w.alloc (.cells #[.int .i64 0, .int .i64 0] 27)) p (l ++ zs 0) bad (fun b => prot b ∨ b = w.heap.size) := by rw [zs_zero, List.append_nil]; exact h.box _
  have hA0 := Kp.alloc w (.cells #[.int .i64 0, .int .i64 0] 27) prot h.2.1
  have hl0 := hl
  clear h
  go_enter Tryz.func133, Tryz.ntmps133
  go_wp2_with fail
  refine (number_z p (l ++ zs 0) bad (fun b => prot b ∨ b = w.heap.size) _ (by rw [List.length_append, zs_length]; omega) hW0).mono ?_
  rintro e w1 ⟨rfl, hW1, hK1⟩
  rw [List.append_assoc, zs_add] at hW1
  have hA1 := hA0.trans (hK1.mono (fun _ x => .inl x))
  have hq1 : ∀ o, w1.cell? ⟨w.heap.size, o, none⟩ = (w.alloc (.cells #[.int .i64 0, .int .i64 0] 27)).cell? ⟨w.heap.size, o, none⟩ := fun o => hK1.cell (a := ⟨w.heap.size, o, none⟩) (.inr rfl)
  clear hW0 hK1 hA0
  go_wp2_with fail
  refine (number_z p (l ++ zs 1) bad (fun b => prot b ∨ b = w.heap.size) _ (by rw [List.length_append, zs_length]; omega) hW1).mono ?_
  rintro e w2 ⟨rfl, hW2, hK2⟩
  rw [List.append_assoc, zs_add] at hW2
  have hA2 := hA1.trans (hK2.mono (fun _ x => .inl x))
  have hq2 : ∀ o, w2.cell? ⟨w.heap.size, o, none⟩ = (w.alloc (.cells #[.int .i64 0, .int .i64 0] 27)).cell? ⟨w.heap.size, o, none⟩ := fun o => (hK2.cell (a := ⟨w.heap.size, o, none⟩) (.inr rfl)).trans (hq1 o)
  clear hW1 hK2 hA1 hq1
  go_wp2
  go_end0
  exact ⟨rfl, hW2.mono (fun _ x => .inl x), hA2⟩


set_option maxHeartbeats 800000 in
theorem job_z (p : Nat) (l : List UInt8) (bad : Bool) (prot : Nat → Prop) (w : World) (hl : l.length + 7 ≤ 137438953472) (h : WR w p l bad prot) :
    Calls Tryz.prog 66 #[.pointer (some ⟨p, 0, none⟩), .agg #[.int .i64 0, .int .i64 0, .int .i64 0, .int .i64 0, .slice none 0 0, .int .i64 0, .bool false]] w fun e w' => e = .returned (.tuple #[]) ∧ WR w' p (l ++ zs 7) bad prot ∧ Kp w w' prot := by
  have hmf : ∀ (fn : Fn) (first cap : Array Value) (w : World), (Instr.makeFunc fn first cap).run Tryz.prog w = .ok (.func fn first cap) w := fun _ _ _ _ => rfl
  have hW0 : WR (w.alloc (.cells #[.int .i64 0, .int .i64 0, .int .i64 0, .int .i64 0, .slice none 0 0, .int .i64 0, .bool false] 25)) p (l ++ zs 0) bad (fun b => prot b ∨ b = w.heap.size) := by rw [zs_zero, List.append_nil]; exact h.box _
  have hA0 := Kp.alloc w (.cells #[.int .i64 0, .int .i64 0, .int .i64 0, .int .i64 0, .slice none 0 0, .int .i64 0, .bool false] 25) prot h.2.1
  have hl0 := hl
  clear h
  go_enter Tryz.func66, Tryz.ntmps66
  go_wp2_with fail
  refine (number_z p (l ++ zs 0) bad (fun b => prot b ∨ b = w.heap.size) _ (by rw [List.length_append, zs_length]; omega) hW0).mono ?_
  rintro e w1 ⟨rfl, hW1, hK1⟩
  rw [List.append_assoc, zs_add] at hW1
  have hA1 := hA0.trans (hK1.mono (fun _ x => .inl x))
  have hq1 : ∀ o, w1.cell? ⟨w.heap.size, o, none⟩ = (w.alloc (.cells #[.int .i64 0, .int .i64 0, .int .i64 0, .int .i64 0, .slice none 0 0, .int .i64 0, .bool false] 25)).cell? ⟨w.heap.size, o, none⟩ := fun o => hK1.cell (a := ⟨w.heap.size, o, none⟩) (.inr rfl)
  clear hW0 hK1 hA0
  go_wp2_with fail
  refine (number_z p (l ++ zs 1) bad (fun b => prot b ∨ b = w.heap.size) _ (by rw [List.length_append, zs_length]; omega) hW1).mono ?_
  rintro e w2 ⟨rfl, hW2, hK2⟩
  rw [List.append_assoc, zs_add] at hW2
  have hA2 := hA1.trans (hK2.mono (fun _ x => .inl x))
  have hq2 : ∀ o, w2.cell? ⟨w.heap.size, o, none⟩ = (w.alloc (.cells #[.int .i64 0, .int .i64 0, .int .i64 0, .int .i64 0, .slice none 0 0, .int .i64 0, .bool false] 25)).cell? ⟨w.heap.size, o, none⟩ := fun o => (hK2.cell (a := ⟨w.heap.size, o, none⟩) (.inr rfl)).trans (hq1 o)
  clear hW1 hK2 hA1 hq1
  go_wp2_with fail
  refine (number_z p (l ++ zs 2) bad (fun b => prot b ∨ b = w.heap.size) _ (by rw [List.length_append, zs_length]; omega) hW2).mono ?_
  rintro e w3 ⟨rfl, hW3, hK3⟩
  rw [List.append_assoc, zs_add] at hW3
  have hA3 := hA2.trans (hK3.mono (fun _ x => .inl x))
  have hq3 : ∀ o, w3.cell? ⟨w.heap.size, o, none⟩ = (w.alloc (.cells #[.int .i64 0, .int .i64 0, .int .i64 0, .int .i64 0, .slice none 0 0, .int .i64 0, .bool false] 25)).cell? ⟨w.heap.size, o, none⟩ := fun o => (hK3.cell (a := ⟨w.heap.size, o, none⟩) (.inr rfl)).trans (hq2 o)
  clear hW2 hK3 hA2 hq2
  go_wp2_with fail
  refine (number_z p (l ++ zs 3) bad (fun b => prot b ∨ b = w.heap.size) _ (by rw [List.length_append, zs_length]; omega) hW3).mono ?_
  rintro e w4 ⟨rfl, hW4, hK4⟩
  rw [List.append_assoc, zs_add] at hW4
  have hA4 := hA3.trans (hK4.mono (fun _ x => .inl x))
  have hq4 : ∀ o, w4.cell? ⟨w.heap.size, o, none⟩ = (w.alloc (.cells #[.int .i64 0, .int .i64 0, .int .i64 0, .int .i64 0, .slice none 0 0, .int .i64 0, .bool false] 25)).cell? ⟨w.heap.size, o, none⟩ := fun o => (hK4.cell (a := ⟨w.heap.size, o, none⟩) (.inr rfl)).trans (hq3 o)
  clear hW3 hK4 hA3 hq3
  go_wp2_with fail
  refine (listGroup_z p (l ++ zs 4) bad (fun b => prot b ∨ b = w.heap.size) _ _ (by rw [List.length_append, zs_length]; omega) hW4).mono ?_
  rintro e w5 ⟨rfl, hW5, hK5⟩
  rw [List.append_assoc, zs_add] at hW5
  have hA5 := hA4.trans (hK5.mono (fun _ x => .inl x))
  have hq5 : ∀ o, w5.cell? ⟨w.heap.size, o, none⟩ = (w.alloc (.cells #[.int .i64 0, .int .i64 0, .int .i64 0, .int .i64 0, .slice none 0 0, .int .i64 0, .bool false] 25)).cell? ⟨w.heap.size, o, none⟩ := fun o => (hK5.cell (a := ⟨w.heap.size, o, none⟩) (.inr rfl)).trans (hq4 o)
  clear hW4 hK5 hA4 hq4
  go_wp2_with fail
  refine (number_z p (l ++ zs 5) bad (fun b => prot b ∨ b = w.heap.size) _ (by rw [List.length_append, zs_length]; omega) hW5).mono ?_
  rintro e w6 ⟨rfl, hW6, hK6⟩
  rw [List.append_assoc, zs_add] at hW6
  have hA6 := hA5.trans (hK6.mono (fun _ x => .inl x))
  have hq6 : ∀ o, w6.cell? ⟨w.heap.size, o, none⟩ = (w.alloc (.cells #[.int .i64 0, .int .i64 0, .int .i64 0, .int .i64 0, .slice none 0 0, .int .i64 0, .bool false] 25)).cell? ⟨w.heap.size, o, none⟩ := fun o => (hK6.cell (a := ⟨w.heap.size, o, none⟩) (.inr rfl)).trans (hq5 o)
  clear hW5 hK6 hA5 hq5
  go_wp2_with fail
  refine (truth_z p (l ++ zs 6) bad (fun b => prot b ∨ b = w.heap.size) _ (by rw [List.length_append, zs_length]; omega) hW6).mono ?_
  rintro e w7 ⟨rfl, hW7, hK7⟩
  rw [List.append_assoc, zs_add] at hW7
  have hA7 := hA6.trans (hK7.mono (fun _ x => .inl x))
  have hq7 : ∀ o, w7.cell? ⟨w.heap.size, o, none⟩ = (w.alloc (.cells #[.int .i64 0, .int .i64 0, .int .i64 0, .int .i64 0, .slice none 0 0, .int .i64 0, .bool false] 25)).cell? ⟨w.heap.size, o, none⟩ := fun o => (hK7.cell (a := ⟨w.heap.size, o, none⟩) (.inr rfl)).trans (hq6 o)
  clear hW6 hK7 hA6 hq6
  go_wp2
  go_end0
  exact ⟨rfl, hW7.mono (fun _ x => .inl x), hA7⟩


set_option maxHeartbeats 800000 in
theorem node_z (p : Nat) (l : List UInt8) (bad : Bool) (prot : Nat → Prop) (w : World) (hl : l.length + 8 ≤ 137438953472) (h : WR w p l bad prot) :
    Calls Tryz.prog 67 #[.pointer (some ⟨p, 0, none⟩), .agg #[.int .i64 0, .int .i64 0, .int .i64 0, .bool false, .bool false, .int .i64 0, .int .i64 0, .int .i64 0]] w fun e w' => e = .returned (.tuple #[]) ∧ WR w' p (l ++ zs 8) bad prot ∧ Kp w w' prot := by
  have hmf : ∀ (fn : Fn) (first cap : Array Value) (w : World), (Instr.makeFunc fn first cap).run Tryz.prog w = .ok (.func fn first cap) w := fun _ _ _ _ => rfl
  have hW0 : WR (w.alloc (.cells #[.int .i64 0, .int .i64 0, .int .i64 0, .bool false, .bool false, .int .i64 0, .int .i64 0, .int .i64 0] 29)) p (l ++ zs 0) bad (fun b => prot b ∨ b = w.heap.size) := by rw [zs_zero, List.append_nil]; exact h.box _
  have hA0 := Kp.alloc w (.cells #[.int .i64 0, .int .i64 0, .int .i64 0, .bool false, .bool false, .int .i64 0, .int .i64 0, .int .i64 0] 29) prot h.2.1
  have hl0 := hl
  clear h
  go_enter Tryz.func67, Tryz.ntmps67
  go_wp2_with fail
  refine (number_z p (l ++ zs 0) bad (fun b => prot b ∨ b = w.heap.size) _ (by rw [List.length_append, zs_length]; omega) hW0).mono ?_
  rintro e w1 ⟨rfl, hW1, hK1⟩
  rw [List.append_assoc, zs_add] at hW1
  have hA1 := hA0.trans (hK1.mono (fun _ x => .inl x))
  have hq1 : ∀ o, w1.cell? ⟨w.heap.size, o, none⟩ = (w.alloc (.cells #[.int .i64 0, .int .i64 0, .int .i64 0, .bool false, .bool false, .int .i64 0, .int .i64 0, .int .i64 0] 29)).cell? ⟨w.heap.size, o, none⟩ := fun o => hK1.cell (a := ⟨w.heap.size, o, none⟩) (.inr rfl)
  clear hW0 hK1 hA0
  go_wp2_with fail
  refine (res_z p (l ++ zs 1) bad (fun b => prot b ∨ b = w.heap.size) _ (by rw [List.length_append, zs_length]; omega) hW1).mono ?_
  rintro e w2 ⟨rfl, hW2, hK2⟩
  rw [List.append_assoc, zs_add] at hW2
  have hA2 := hA1.trans (hK2.mono (fun _ x => .inl x))
  have hq2 : ∀ o, w2.cell? ⟨w.heap.size, o, none⟩ = (w.alloc (.cells #[.int .i64 0, .int .i64 0, .int .i64 0, .bool false, .bool false, .int .i64 0, .int .i64 0, .int .i64 0] 29)).cell? ⟨w.heap.size, o, none⟩ := fun o => (hK2.cell (a := ⟨w.heap.size, o, none⟩) (.inr rfl)).trans (hq1 o)
  clear hW1 hK2 hA1 hq1
  go_wp2_with fail
  refine (truth_z p (l ++ zs 3) bad (fun b => prot b ∨ b = w.heap.size) _ (by rw [List.length_append, zs_length]; omega) hW2).mono ?_
  rintro e w3 ⟨rfl, hW3, hK3⟩
  rw [List.append_assoc, zs_add] at hW3
  have hA3 := hA2.trans (hK3.mono (fun _ x => .inl x))
  have hq3 : ∀ o, w3.cell? ⟨w.heap.size, o, none⟩ = (w.alloc (.cells #[.int .i64 0, .int .i64 0, .int .i64 0, .bool false, .bool false, .int .i64 0, .int .i64 0, .int .i64 0] 29)).cell? ⟨w.heap.size, o, none⟩ := fun o => (hK3.cell (a := ⟨w.heap.size, o, none⟩) (.inr rfl)).trans (hq2 o)
  clear hW2 hK3 hA2 hq2
  go_wp2_with fail
  refine (truth_z p (l ++ zs 4) bad (fun b => prot b ∨ b = w.heap.size) _ (by rw [List.length_append, zs_length]; omega) hW3).mono ?_
  rintro e w4 ⟨rfl, hW4, hK4⟩
  rw [List.append_assoc, zs_add] at hW4
  have hA4 := hA3.trans (hK4.mono (fun _ x => .inl x))
  have hq4 : ∀ o, w4.cell? ⟨w.heap.size, o, none⟩ = (w.alloc (.cells #[.int .i64 0, .int .i64 0, .int .i64 0, .bool false, .bool false, .int .i64 0, .int .i64 0, .int .i64 0] 29)).cell? ⟨w.heap.size, o, none⟩ := fun o => (hK4.cell (a := ⟨w.heap.size, o, none⟩) (.inr rfl)).trans (hq3 o)
  clear hW3 hK4 hA3 hq3
  go_wp2_with fail
  refine (number_z p (l ++ zs 5) bad (fun b => prot b ∨ b = w.heap.size) _ (by rw [List.length_append, zs_length]; omega) hW4).mono ?_
  rintro e w5 ⟨rfl, hW5, hK5⟩
  rw [List.append_assoc, zs_add] at hW5
  have hA5 := hA4.trans (hK5.mono (fun _ x => .inl x))
  have hq5 : ∀ o, w5.cell? ⟨w.heap.size, o, none⟩ = (w.alloc (.cells #[.int .i64 0, .int .i64 0, .int .i64 0, .bool false, .bool false, .int .i64 0, .int .i64 0, .int .i64 0] 29)).cell? ⟨w.heap.size, o, none⟩ := fun o => (hK5.cell (a := ⟨w.heap.size, o, none⟩) (.inr rfl)).trans (hq4 o)
  clear hW4 hK5 hA4 hq4
  go_wp2_with fail
  refine (number_z p (l ++ zs 6) bad (fun b => prot b ∨ b = w.heap.size) _ (by rw [List.length_append, zs_length]; omega) hW5).mono ?_
  rintro e w6 ⟨rfl, hW6, hK6⟩
  rw [List.append_assoc, zs_add] at hW6
  have hA6 := hA5.trans (hK6.mono (fun _ x => .inl x))
  have hq6 : ∀ o, w6.cell? ⟨w.heap.size, o, none⟩ = (w.alloc (.cells #[.int .i64 0, .int .i64 0, .int .i64 0, .bool false, .bool false, .int .i64 0, .int .i64 0, .int .i64 0] 29)).cell? ⟨w.heap.size, o, none⟩ := fun o => (hK6.cell (a := ⟨w.heap.size, o, none⟩) (.inr rfl)).trans (hq5 o)
  clear hW5 hK6 hA5 hq5
  go_wp2_with fail
  refine (number_z p (l ++ zs 7) bad (fun b => prot b ∨ b = w.heap.size) _ (by rw [List.length_append, zs_length]; omega) hW6).mono ?_
  rintro e w7 ⟨rfl, hW7, hK7⟩
  rw [List.append_assoc, zs_add] at hW7
  have hA7 := hA6.trans (hK7.mono (fun _ x => .inl x))
  have hq7 : ∀ o, w7.cell? ⟨w.heap.size, o, none⟩ = (w.alloc (.cells #[.int .i64 0, .int .i64 0, .int .i64 0, .bool false, .bool false, .int .i64 0, .int .i64 0, .int .i64 0] 29)).cell? ⟨w.heap.size, o, none⟩ := fun o => (hK7.cell (a := ⟨w.heap.size, o, none⟩) (.inr rfl)).trans (hq6 o)
  clear hW6 hK7 hA6 hq6
  go_wp2
  go_end0
  exact ⟨rfl, hW7.mono (fun _ x => .inl x), hA7⟩


set_option maxHeartbeats 800000 in
theorem plan_z (p : Nat) (l : List UInt8) (bad : Bool) (prot : Nat → Prop) (w : World) (hl : l.length + 6 ≤ 137438953472) (h : WR w p l bad prot) :
    Calls Tryz.prog 70 #[.pointer (some ⟨p, 0, none⟩), .agg #[.int .i64 0, .int .i64 0, .int .i64 0, .slice none 0 0, .slice none 0 0, .bool false]] w fun e w' => e = .returned (.tuple #[]) ∧ WR w' p (l ++ zs 6) bad prot ∧ Kp w w' prot := by
  have hmf : ∀ (fn : Fn) (first cap : Array Value) (w : World), (Instr.makeFunc fn first cap).run Tryz.prog w = .ok (.func fn first cap) w := fun _ _ _ _ => rfl
  have hW0 : WR (w.alloc (.cells #[.int .i64 0, .int .i64 0, .int .i64 0, .slice none 0 0, .slice none 0 0, .bool false] 34)) p (l ++ zs 0) bad (fun b => prot b ∨ b = w.heap.size) := by rw [zs_zero, List.append_nil]; exact h.box _
  have hA0 := Kp.alloc w (.cells #[.int .i64 0, .int .i64 0, .int .i64 0, .slice none 0 0, .slice none 0 0, .bool false] 34) prot h.2.1
  have hl0 := hl
  clear h
  go_enter Tryz.func70, Tryz.ntmps70
  go_wp2_with fail
  refine (number_z p (l ++ zs 0) bad (fun b => prot b ∨ b = w.heap.size) _ (by rw [List.length_append, zs_length]; omega) hW0).mono ?_
  rintro e w1 ⟨rfl, hW1, hK1⟩
  rw [List.append_assoc, zs_add] at hW1
  have hA1 := hA0.trans (hK1.mono (fun _ x => .inl x))
  have hq1 : ∀ o, w1.cell? ⟨w.heap.size, o, none⟩ = (w.alloc (.cells #[.int .i64 0, .int .i64 0, .int .i64 0, .slice none 0 0, .slice none 0 0, .bool false] 34)).cell? ⟨w.heap.size, o, none⟩ := fun o => hK1.cell (a := ⟨w.heap.size, o, none⟩) (.inr rfl)
  clear hW0 hK1 hA0
  go_wp2_with fail
  refine (number_z p (l ++ zs 1) bad (fun b => prot b ∨ b = w.heap.size) _ (by rw [List.length_append, zs_length]; omega) hW1).mono ?_
  rintro e w2 ⟨rfl, hW2, hK2⟩
  rw [List.append_assoc, zs_add] at hW2
  have hA2 := hA1.trans (hK2.mono (fun _ x => .inl x))
  have hq2 : ∀ o, w2.cell? ⟨w.heap.size, o, none⟩ = (w.alloc (.cells #[.int .i64 0, .int .i64 0, .int .i64 0, .slice none 0 0, .slice none 0 0, .bool false] 34)).cell? ⟨w.heap.size, o, none⟩ := fun o => (hK2.cell (a := ⟨w.heap.size, o, none⟩) (.inr rfl)).trans (hq1 o)
  clear hW1 hK2 hA1 hq1
  go_wp2_with fail
  refine (number_z p (l ++ zs 2) bad (fun b => prot b ∨ b = w.heap.size) _ (by rw [List.length_append, zs_length]; omega) hW2).mono ?_
  rintro e w3 ⟨rfl, hW3, hK3⟩
  rw [List.append_assoc, zs_add] at hW3
  have hA3 := hA2.trans (hK3.mono (fun _ x => .inl x))
  have hq3 : ∀ o, w3.cell? ⟨w.heap.size, o, none⟩ = (w.alloc (.cells #[.int .i64 0, .int .i64 0, .int .i64 0, .slice none 0 0, .slice none 0 0, .bool false] 34)).cell? ⟨w.heap.size, o, none⟩ := fun o => (hK3.cell (a := ⟨w.heap.size, o, none⟩) (.inr rfl)).trans (hq2 o)
  clear hW2 hK3 hA2 hq2
  go_wp2_with fail
  refine (listInt_z p (l ++ zs 3) bad (fun b => prot b ∨ b = w.heap.size) _ _ (by rw [List.length_append, zs_length]; omega) hW3).mono ?_
  rintro e w4 ⟨rfl, hW4, hK4⟩
  rw [List.append_assoc, zs_add] at hW4
  have hA4 := hA3.trans (hK4.mono (fun _ x => .inl x))
  have hq4 : ∀ o, w4.cell? ⟨w.heap.size, o, none⟩ = (w.alloc (.cells #[.int .i64 0, .int .i64 0, .int .i64 0, .slice none 0 0, .slice none 0 0, .bool false] 34)).cell? ⟨w.heap.size, o, none⟩ := fun o => (hK4.cell (a := ⟨w.heap.size, o, none⟩) (.inr rfl)).trans (hq3 o)
  clear hW3 hK4 hA3 hq3
  go_wp2_with fail
  refine (listAlloc_z p (l ++ zs 4) bad (fun b => prot b ∨ b = w.heap.size) _ _ (by rw [List.length_append, zs_length]; omega) hW4).mono ?_
  rintro e w5 ⟨rfl, hW5, hK5⟩
  rw [List.append_assoc, zs_add] at hW5
  have hA5 := hA4.trans (hK5.mono (fun _ x => .inl x))
  have hq5 : ∀ o, w5.cell? ⟨w.heap.size, o, none⟩ = (w.alloc (.cells #[.int .i64 0, .int .i64 0, .int .i64 0, .slice none 0 0, .slice none 0 0, .bool false] 34)).cell? ⟨w.heap.size, o, none⟩ := fun o => (hK5.cell (a := ⟨w.heap.size, o, none⟩) (.inr rfl)).trans (hq4 o)
  clear hW4 hK5 hA4 hq4
  go_wp2_with fail
  refine (truth_z p (l ++ zs 5) bad (fun b => prot b ∨ b = w.heap.size) _ (by rw [List.length_append, zs_length]; omega) hW5).mono ?_
  rintro e w6 ⟨rfl, hW6, hK6⟩
  rw [List.append_assoc, zs_add] at hW6
  have hA6 := hA5.trans (hK6.mono (fun _ x => .inl x))
  have hq6 : ∀ o, w6.cell? ⟨w.heap.size, o, none⟩ = (w.alloc (.cells #[.int .i64 0, .int .i64 0, .int .i64 0, .slice none 0 0, .slice none 0 0, .bool false] 34)).cell? ⟨w.heap.size, o, none⟩ := fun o => (hK6.cell (a := ⟨w.heap.size, o, none⟩) (.inr rfl)).trans (hq5 o)
  clear hW5 hK6 hA5 hq5
  go_wp2
  go_end0
  exact ⟨rfl, hW6.mono (fun _ x => .inl x), hA6⟩


set_option maxHeartbeats 800000 in
theorem conf_z (p : Nat) (l : List UInt8) (bad : Bool) (prot : Nat → Prop) (w : World) (hl : l.length + 2 ≤ 137438953472) (h : WR w p l bad prot) :
    Calls Tryz.prog 71 #[.pointer (some ⟨p, 0, none⟩), .agg #[.slice none 0 0, .slice none 0 0]] w fun e w' => e = .returned (.tuple #[]) ∧ WR w' p (l ++ zs 2) bad prot ∧ Kp w w' prot := by
  have hmf : ∀ (fn : Fn) (first cap : Array Value) (w : World), (Instr.makeFunc fn first cap).run Tryz.prog w = .ok (.func fn first cap) w := fun _ _ _ _ => rfl
  have hW0 : WR (w.alloc (.cells #[.slice none 0 0, .slice none 0 0] 36)) p (l ++ zs 0) bad (fun b => prot b ∨ b = w.heap.size) := by rw [zs_zero, List.append_nil]; exact h.box _
  have hA0 := Kp.alloc w (.cells #[.slice none 0 0, .slice none 0 0] 36) prot h.2.1
  have hl0 := hl
  clear h
  go_enter Tryz.func71, Tryz.ntmps71
  go_wp2_with fail
  refine (listInt_z p (l ++ zs 0) bad (fun b => prot b ∨ b = w.heap.size) _ _ (by rw [List.length_append, zs_length]; omega) hW0).mono ?_
  rintro e w1 ⟨rfl, hW1, hK1⟩
  rw [List.append_assoc, zs_add] at hW1
  have hA1 := hA0.trans (hK1.mono (fun _ x => .inl x))
  have hq1 : ∀ o, w1.cell? ⟨w.heap.size, o, none⟩ = (w.alloc (.cells #[.slice none 0 0, .slice none 0 0] 36)).cell? ⟨w.heap.size, o, none⟩ := fun o => hK1.cell (a := ⟨w.heap.size, o, none⟩) (.inr rfl)
  clear hW0 hK1 hA0
  go_wp2_with fail
  refine (listInt_z p (l ++ zs 1) bad (fun b => prot b ∨ b = w.heap.size) _ _ (by rw [List.length_append, zs_length]; omega) hW1).mono ?_
  rintro e w2 ⟨rfl, hW2, hK2⟩
  rw [List.append_assoc, zs_add] at hW2
  have hA2 := hA1.trans (hK2.mono (fun _ x => .inl x))
  have hq2 : ∀ o, w2.cell? ⟨w.heap.size, o, none⟩ = (w.alloc (.cells #[.slice none 0 0, .slice none 0 0] 36)).cell? ⟨w.heap.size, o, none⟩ := fun o => (hK2.cell (a := ⟨w.heap.size, o, none⟩) (.inr rfl)).trans (hq1 o)
  clear hW1 hK2 hA1 hq1
  go_wp2
  go_end0
  exact ⟨rfl, hW2.mono (fun _ x => .inl x), hA2⟩


set_option maxHeartbeats 800000 in
theorem cmd_z (p : Nat) (l : List UInt8) (bad : Bool) (prot : Nat → Prop) (w : World) (hl : l.length + 27 ≤ 137438953472) (h : WR w p l bad prot) :
    Calls Tryz.prog 26 #[.pointer (some ⟨p, 0, none⟩), .agg #[.int .i64 0, .int .i64 0, .int .i64 0, .int .i64 0, .int .i64 0, .int .i64 0, .int .i64 0, .slice none 0 0, .int .i64 0, .bool false, .int .i64 0, .int .i64 0, .int .i64 0, .bool false, .bool false, .int .i64 0, .int .i64 0, .int .i64 0, .slice none 0 0, .int .i64 0, .int .i64 0, .int .i64 0, .slice none 0 0, .slice none 0 0, .bool false, .slice none 0 0, .slice none 0 0]] w fun e w' => e = .returned (.tuple #[]) ∧ WR w' p (l ++ zs 27) bad prot ∧ Kp w w' prot := by
  have hmf : ∀ (fn : Fn) (first cap : Array Value) (w : World), (Instr.makeFunc fn first cap).run Tryz.prog w = .ok (.func fn first cap) w := fun _ _ _ _ => rfl
  have hW0 : WR (w.alloc (.cells #[.int .i64 0, .int .i64 0, .int .i64 0, .int .i64 0, .int .i64 0, .int .i64 0, .int .i64 0, .slice none 0 0, .int .i64 0, .bool false, .int .i64 0, .int .i64 0, .int .i64 0, .bool false, .bool false, .int .i64 0, .int .i64 0, .int .i64 0, .slice none 0 0, .int .i64 0, .int .i64 0, .int .i64 0, .slice none 0 0, .slice none 0 0, .bool false, .slice none 0 0, .slice none 0 0] 38)) p (l ++ zs 0) bad (fun b => prot b ∨ b = w.heap.size) := by rw [zs_zero, List.append_nil]; exact h.box _
  have hA0 := Kp.alloc w (.cells #[.int .i64 0, .int .i64 0, .int .i64 0, .int .i64 0, .int .i64 0, .int .i64 0, .int .i64 0, .slice none 0 0, .int .i64 0, .bool false, .int .i64 0, .int .i64 0, .int .i64 0, .bool false, .bool false, .int .i64 0, .int .i64 0, .int .i64 0, .slice none 0 0, .int .i64 0, .int .i64 0, .int .i64 0, .slice none 0 0, .slice none 0 0, .bool false, .slice none 0 0, .slice none 0 0] 38) prot h.2.1
  have hl0 := hl
  clear h
  go_enter Tryz.func26, Tryz.ntmps26
  go_wp2_with fail
  refine (number_z p (l ++ zs 0) bad (fun b => prot b ∨ b = w.heap.size) _ (by rw [List.length_append, zs_length]; omega) hW0).mono ?_
  rintro e w1 ⟨rfl, hW1, hK1⟩
  rw [List.append_assoc, zs_add] at hW1
  have hA1 := hA0.trans (hK1.mono (fun _ x => .inl x))
  have hq1 : ∀ o, w1.cell? ⟨w.heap.size, o, none⟩ = (w.alloc (.cells #[.int .i64 0, .int .i64 0, .int .i64 0, .int .i64 0, .int .i64 0, .int .i64 0, .int .i64 0, .slice none 0 0, .int .i64 0, .bool false, .int .i64 0, .int .i64 0, .int .i64 0, .bool false, .bool false, .int .i64 0, .int .i64 0, .int .i64 0, .slice none 0 0, .int .i64 0, .int .i64 0, .int .i64 0, .slice none 0 0, .slice none 0 0, .bool false, .slice none 0 0, .slice none 0 0] 38)).cell? ⟨w.heap.size, o, none⟩ := fun o => hK1.cell (a := ⟨w.heap.size, o, none⟩) (.inr rfl)
  clear hW0 hK1 hA0
  go_wp2_with fail
  refine (number_z p (l ++ zs 1) bad (fun b => prot b ∨ b = w.heap.size) _ (by rw [List.length_append, zs_length]; omega) hW1).mono ?_
  rintro e w2 ⟨rfl, hW2, hK2⟩
  rw [List.append_assoc, zs_add] at hW2
  have hA2 := hA1.trans (hK2.mono (fun _ x => .inl x))
  have hq2 : ∀ o, w2.cell? ⟨w.heap.size, o, none⟩ = (w.alloc (.cells #[.int .i64 0, .int .i64 0, .int .i64 0, .int .i64 0, .int .i64 0, .int .i64 0, .int .i64 0, .slice none 0 0, .int .i64 0, .bool false, .int .i64 0, .int .i64 0, .int .i64 0, .bool false, .bool false, .int .i64 0, .int .i64 0, .int .i64 0, .slice none 0 0, .int .i64 0, .int .i64 0, .int .i64 0, .slice none 0 0, .slice none 0 0, .bool false, .slice none 0 0, .slice none 0 0] 38)).cell? ⟨w.heap.size, o, none⟩ := fun o => (hK2.cell (a := ⟨w.heap.size, o, none⟩) (.inr rfl)).trans (hq1 o)
  clear hW1 hK2 hA1 hq1
  go_wp2_with fail
  refine (number_z p (l ++ zs 2) bad (fun b => prot b ∨ b = w.heap.size) _ (by rw [List.length_append, zs_length]; omega) hW2).mono ?_
  rintro e w3 ⟨rfl, hW3, hK3⟩
  rw [List.append_assoc, zs_add] at hW3
  have hA3 := hA2.trans (hK3.mono (fun _ x => .inl x))
  have hq3 : ∀ o, w3.cell? ⟨w.heap.size, o, none⟩ = (w.alloc (.cells #[.int .i64 0, .int .i64 0, .int .i64 0, .int .i64 0, .int .i64 0, .int .i64 0, .int .i64 0, .slice none 0 0, .int .i64 0, .bool false, .int .i64 0, .int .i64 0, .int .i64 0, .bool false, .bool false, .int .i64 0, .int .i64 0, .int .i64 0, .slice none 0 0, .int .i64 0, .int .i64 0, .int .i64 0, .slice none 0 0, .slice none 0 0, .bool false, .slice none 0 0, .slice none 0 0] 38)).cell? ⟨w.heap.size, o, none⟩ := fun o => (hK3.cell (a := ⟨w.heap.size, o, none⟩) (.inr rfl)).trans (hq2 o)
  clear hW2 hK3 hA2 hq2
  go_wp2_with fail
  refine (job_z p (l ++ zs 3) bad (fun b => prot b ∨ b = w.heap.size) _ (by rw [List.length_append, zs_length]; omega) hW3).mono ?_
  rintro e w4 ⟨rfl, hW4, hK4⟩
  rw [List.append_assoc, zs_add] at hW4
  have hA4 := hA3.trans (hK4.mono (fun _ x => .inl x))
  have hq4 : ∀ o, w4.cell? ⟨w.heap.size, o, none⟩ = (w.alloc (.cells #[.int .i64 0, .int .i64 0, .int .i64 0, .int .i64 0, .int .i64 0, .int .i64 0, .int .i64 0, .slice none 0 0, .int .i64 0, .bool false, .int .i64 0, .int .i64 0, .int .i64 0, .bool false, .bool false, .int .i64 0, .int .i64 0, .int .i64 0, .slice none 0 0, .int .i64 0, .int .i64 0, .int .i64 0, .slice none 0 0, .slice none 0 0, .bool false, .slice none 0 0, .slice none 0 0] 38)).cell? ⟨w.heap.size, o, none⟩ := fun o => (hK4.cell (a := ⟨w.heap.size, o, none⟩) (.inr rfl)).trans (hq3 o)
  clear hW3 hK4 hA3 hq3
  go_wp2_with fail
  refine (node_z p (l ++ zs 10) bad (fun b => prot b ∨ b = w.heap.size) _ (by rw [List.length_append, zs_length]; omega) hW4).mono ?_
  rintro e w5 ⟨rfl, hW5, hK5⟩
  rw [List.append_assoc, zs_add] at hW5
  have hA5 := hA4.trans (hK5.mono (fun _ x => .inl x))
  have hq5 : ∀ o, w5.cell? ⟨w.heap.size, o, none⟩ = (w.alloc (.cells #[.int .i64 0, .int .i64 0, .int .i64 0, .int .i64 0, .int .i64 0, .int .i64 0, .int .i64 0, .slice none 0 0, .int .i64 0, .bool false, .int .i64 0, .int .i64 0, .int .i64 0, .bool false, .bool false, .int .i64 0, .int .i64 0, .int .i64 0, .slice none 0 0, .int .i64 0, .int .i64 0, .int .i64 0, .slice none 0 0, .slice none 0 0, .bool false, .slice none 0 0, .slice none 0 0] 38)).cell? ⟨w.heap.size, o, none⟩ := fun o => (hK5.cell (a := ⟨w.heap.size, o, none⟩) (.inr rfl)).trans (hq4 o)
  clear hW4 hK5 hA4 hq4
  go_wp2_with fail
  refine (listReport_z p (l ++ zs 18) bad (fun b => prot b ∨ b = w.heap.size) _ _ (by rw [List.length_append, zs_length]; omega) hW5).mono ?_
  rintro e w6 ⟨rfl, hW6, hK6⟩
  rw [List.append_assoc, zs_add] at hW6
  have hA6 := hA5.trans (hK6.mono (fun _ x => .inl x))
  have hq6 : ∀ o, w6.cell? ⟨w.heap.size, o, none⟩ = (w.alloc (.cells #[.int .i64 0, .int .i64 0, .int .i64 0, .int .i64 0, .int .i64 0, .int .i64 0, .int .i64 0, .slice none 0 0, .int .i64 0, .bool false, .int .i64 0, .int .i64 0, .int .i64 0, .bool false, .bool false, .int .i64 0, .int .i64 0, .int .i64 0, .slice none 0 0, .int .i64 0, .int .i64 0, .int .i64 0, .slice none 0 0, .slice none 0 0, .bool false, .slice none 0 0, .slice none 0 0] 38)).cell? ⟨w.heap.size, o, none⟩ := fun o => (hK6.cell (a := ⟨w.heap.size, o, none⟩) (.inr rfl)).trans (hq5 o)
  clear hW5 hK6 hA5 hq5
  go_wp2_with fail
  refine (plan_z p (l ++ zs 19) bad (fun b => prot b ∨ b = w.heap.size) _ (by rw [List.length_append, zs_length]; omega) hW6).mono ?_
  rintro e w7 ⟨rfl, hW7, hK7⟩
  rw [List.append_assoc, zs_add] at hW7
  have hA7 := hA6.trans (hK7.mono (fun _ x => .inl x))
  have hq7 : ∀ o, w7.cell? ⟨w.heap.size, o, none⟩ = (w.alloc (.cells #[.int .i64 0, .int .i64 0, .int .i64 0, .int .i64 0, .int .i64 0, .int .i64 0, .int .i64 0, .slice none 0 0, .int .i64 0, .bool false, .int .i64 0, .int .i64 0, .int .i64 0, .bool false, .bool false, .int .i64 0, .int .i64 0, .int .i64 0, .slice none 0 0, .int .i64 0, .int .i64 0, .int .i64 0, .slice none 0 0, .slice none 0 0, .bool false, .slice none 0 0, .slice none 0 0] 38)).cell? ⟨w.heap.size, o, none⟩ := fun o => (hK7.cell (a := ⟨w.heap.size, o, none⟩) (.inr rfl)).trans (hq6 o)
  clear hW6 hK7 hA6 hq6
  go_wp2_with fail
  refine (conf_z p (l ++ zs 25) bad (fun b => prot b ∨ b = w.heap.size) _ (by rw [List.length_append, zs_length]; omega) hW7).mono ?_
  rintro e w8 ⟨rfl, hW8, hK8⟩
  rw [List.append_assoc, zs_add] at hW8
  have hA8 := hA7.trans (hK8.mono (fun _ x => .inl x))
  have hq8 : ∀ o, w8.cell? ⟨w.heap.size, o, none⟩ = (w.alloc (.cells #[.int .i64 0, .int .i64 0, .int .i64 0, .int .i64 0, .int .i64 0, .int .i64 0, .int .i64 0, .slice none 0 0, .int .i64 0, .bool false, .int .i64 0, .int .i64 0, .int .i64 0, .bool false, .bool false, .int .i64 0, .int .i64 0, .int .i64 0, .slice none 0 0, .int .i64 0, .int .i64 0, .int .i64 0, .slice none 0 0, .slice none 0 0, .bool false, .slice none 0 0, .slice none 0 0] 38)).cell? ⟨w.heap.size, o, none⟩ := fun o => (hK8.cell (a := ⟨w.heap.size, o, none⟩) (.inr rfl)).trans (hq7 o)
  clear hW7 hK8 hA7 hq7
  go_wp2
  go_end0
  exact ⟨rfl, hW8.mono (fun _ x => .inl x), hA8⟩

end Go.Proofs.YtpbokgeaolpiaabGreat

/- What PutCmd returns for the zero command: its 27 zero bytes in a row of its own. -/
namespace Go.Proofs.YtpbokgeaolpiaabGreat
open Go.RowKit

theorem wr_new (w : World) (n : Nat) (hn : n = w.heap.size) : WR (w.alloc (.cells #[.slice none 0 0, .bool false] 85)) n [] false (fun b => b < n) := by
  subst hn
  refine ⟨by omega, fun b hb => by simp; omega, by simp, .slice none 0 0, ?_, ?_, ?_, ?_, .inl ⟨rfl, rfl⟩, fun r hr => by simp [Value.ownBlock] at hr⟩
  · rw [World.cell?_alloc_at _ _ _ _ rfl]; rfl
  · rw [World.cell?_alloc_at _ _ _ _ rfl]; rfl
  · exact World.frozen?_alloc_at _ _ _ _ rfl
  · exact World.frozen?_alloc_at _ _ _ _ rfl
theorem Kp.below {w w' : World} {B : Nat} (h : Kp w w' (fun b => b < B)) : Below B w w' := ⟨h.os, h.tape, h.output, h.size, h.block⟩

set_option maxHeartbeats 400000 in
theorem done_ok (p : Nat) (l : List UInt8) (prot : Nat → Prop) (w : World) (h : WR w p l false prot) :
    Calls Tryz.prog 27 #[.pointer (some ⟨p, 0, none⟩)] w fun e w' => ∃ v, e = .returned (.tuple #[v, .int .i64 0]) ∧ Own w' v l ∧ w' = w := by
  obtain ⟨q1, q2, q3, v, q4, q5, q6, q7, q8, q9⟩ := h
  obtain ⟨a, c, hv, hbs⟩ := q8.form
  subst hv
  clear q1 q2 q9 hbs
  go_enter Tryz.func27, Tryz.ntmps27
  go_wp2
  go_ret2
  exact ⟨_, rfl, q8, rfl⟩

def CmdPuts (cs : Array Value) (l : List UInt8) : Prop := ∀ (w : World) (p : Nat), WR w p [] false (fun b => b < p) →
  Calls Tryz.prog 26 #[.pointer (some ⟨p, 0, none⟩), .agg cs] w fun e w' => e = .returned (.tuple #[]) ∧ WR w' p l false (fun b => b < p) ∧ Kp w w' (fun b => b < p)

theorem Tryz.under50 : ∃ d, Tryz.prog.underlying 38 = some d ∧ (match d with | .struct _ | .array _ _ => true | _ => false) = true := by
  exact ⟨_, Tryz.underlying38, rfl⟩

set_option maxHeartbeats 400000 in
theorem putCmd_of (cs : Array Value) (l : List UInt8) (hsz : (Tryz.prog.info? 38).map (·.size) = some cs.size) (hcmd : CmdPuts cs l) (w : World) :
    Calls Tryz.prog 6 #[.agg cs] w fun e w' => ∃ v, e = .returned (.tuple #[v, .int .i64 0]) ∧ Own w' v l ∧ Below w.heap.size w w' := by
  have hg : ((w.alloc (.cells cs 38)).alloc (.cells #[.slice none 0 0, .bool false] 85)).heap[w.heap.size]? = some (.cells cs 38 (0, 0)) := by
    rw [Below.heap_alloc _ _ _ (by rw [World.size_alloc]; omega)]; exact heap_alloc_new w _
  have HG := hg
  have HG2 : Hid _ := HG
  clear hg HG
  go_enter Tryz.func6, Tryz.ntmps6
  go_wp2_with (refine wpList_load_row rfl 38 (.tmp 1) rfl w.heap.size rfl 38 cs (0, 0) _ HG2.out Tryz.underlying38 rfl hsz ?_)
  refine (hcmd _ _ (wr_new _ _ (by rw [World.size_alloc]))).mono ?_
  rintro e w1 ⟨rfl, hW, hK⟩
  have hB : Below w.heap.size w w1 :=
    Below.trans (((Below.refl _ _).alloc (Nat.le_refl _) _).alloc (by rw [World.size_alloc]; omega) _) (hK.below.mono (by omega))
  clear hK HG2
  go_wp2_with fail
  refine (done_ok _ _ _ _ hW).mono ?_
  rintro e w2 ⟨v, rfl, hO, hw⟩
  subst hw
  go_wp2
  go_ret2
  exact ⟨_, rfl, hO, hB⟩

def Zcmd : Array Value := #[.int .i64 0, .int .i64 0, .int .i64 0, .int .i64 0, .int .i64 0, .int .i64 0, .int .i64 0, .slice none 0 0, .int .i64 0, .bool false, .int .i64 0, .int .i64 0, .int .i64 0, .bool false, .bool false, .int .i64 0, .int .i64 0, .int .i64 0, .slice none 0 0, .int .i64 0, .int .i64 0, .int .i64 0, .slice none 0 0, .slice none 0 0, .bool false, .slice none 0 0, .slice none 0 0]

theorem putCmd_z (w : World) : Calls Tryz.prog 6 #[.agg Zcmd] w fun e w' => ∃ v, e = .returned (.tuple #[v, .int .i64 0]) ∧ Own w' v (zs 27) ∧ Below w.heap.size w w' := by
  refine putCmd_of Zcmd (zs 27) (by kernel_rfl) (fun w p h => ?_) w
  have := cmd_z p [] false (fun b => b < p) w (by rw [List.length_nil]; omega) h
  rw [List.nil_append] at this
  exact this
end Go.Proofs.YtpbokgeaolpiaabGreat

/- What Frame returns: the bytes of the frame in a row of its own, or ErrArg. -/
namespace Go.Proofs.YtpbokgeaolpiaabGreat
open Go.RowKit

def fr0 (k p : Nat) (b : List UInt8) : List UInt8 := hb b.length 4 ++ (hb k 1 ++ (hb p 6 ++ b))
def fr (k p : Nat) (b : List UInt8) : List UInt8 := fr0 k p b ++ lo4 (nsum (fr0 k p b))
theorem fr0_length (k p : Nat) (b : List UInt8) : (fr0 k p b).length = b.length + 11 := by simp only [fr0, List.length_append, hb_length]; omega
theorem fr_length (k p : Nat) (b : List UInt8) : (fr k p b).length = b.length + 15 := by simp only [fr, List.length_append, fr0_length]; rfl

theorem made (n : Nat) (h : n ≤ 1048576) : ∃ cs : Array Value, cs.size = n + 15 ∧ ∀ w : World, (Instr.makeSlice 22 (.int .i64 0) (.int .i64 (11 + (n : Int) + 4))).run Tryz.prog w = .ok (.slice (some ⟨w.heap.size, 0, none⟩) 0 (n + 15)) (w.alloc (.cells cs 5)) := by
  obtain ⟨i, hi, hz0, hz1, hz2⟩ := info_parts Tryz.info5
  refine ⟨madeCells (Value.int .u8 0).cells ((11 + (n : Int) + 4).toNat * i.size), ?_, fun w => ?_⟩
  · rw [size_madeCells, hz1]; omega
  · have := run_make (P := Tryz.prog) w 22 5 i (.int .u8 0) Tryz.underlying22 hi hz0 .i64 .i64 0 (11 + (n : Int) + 4) (by omega) (by omega) (by rw [hz2]; omega) (by omega)
    rw [this]
    have e : (11 + (n : Int) + 4).toNat = n + 15 := by omega
    rw [e]; rfl
theorem own_made (w : World) (cs : Array Value) (n : Nat) (h : n ≤ 1048576) (hs : cs.size = n + 15) : Own (w.alloc (.cells cs 5)) (.slice (some ⟨w.heap.size, 0, none⟩) 0 (n + 15)) [] :=
  .inr ⟨w.heap.size, n + 15, cs, rfl, heap_alloc_new w _, by simp, by unfold maxLen; omega, hs, by simp [vals]⟩

def okF (kind place : Int) (n : Nat) : Prop := 0 ≤ kind ∧ kind ≤ 255 ∧ 0 ≤ place ∧ place ≤ 1099511627776 ∧ n ≤ 1048576

set_option maxHeartbeats 400000 in
theorem frame_ok (kind place : Int) (a : Option Addr) (n cap : Nat) (l : List UInt8) (w : World) (hn : n = l.length) (h : Bs w a l) (hok : okF kind place n) :
    Calls Tryz.prog 28 #[.int .i64 kind, .int .i64 place, .slice a n cap] w fun e w' => ∃ v', e = .returned (.tuple #[v', .int .i64 0]) ∧ Own w' v' (fr kind.toNat place.toNat l) ∧ Stp w w' none v'.ownBlock := by
  obtain ⟨k0, k1, p0, p1, n1⟩ := hok
  obtain ⟨cs, hcs, hmk⟩ := made n n1
  have HN : Hid (n = l.length) := hn
  clear hn
  go_enter Tryz.func28, Tryz.ntmps28
  have st0 : Stp w (w.alloc (.cells cs 5)) none (some w.heap.size) := ⟨rfl, rfl, rfl, by simp, fun k hk _ => Below.heap_alloc w _ k hk, .inr ⟨_, rfl, Nat.le_refl _⟩⟩
  go_wp2_with fail
  refine (appendHigh_any _ [] _ _ _ (by omega) (by omega) (by omega) (by simp) (own_made w cs n n1 hcs)).mono ?_
  rintro e w1 ⟨v1, rfl, o1, s1⟩
  have st1 := st0.trans s1
  rw [Int.toNat_natCast] at o1
  go_wp2_with fail
  refine (appendHigh_any v1 _ _ _ _ k0 (by omega) (by omega) (by simp [hb_length]) o1).mono ?_
  rintro e w2 ⟨v2, rfl, o2, s2⟩
  have st2 := st1.trans s2
  go_wp2_with fail
  refine (appendHigh_any v2 _ _ _ _ p0 (by omega) (by omega) (by simp [hb_length]) o2).mono ?_
  rintro e w3 ⟨v3, rfl, o3, s3⟩
  have st3 := st2.trans s3
  have hbs : Bs w3 a l := h.grow (st3.below _ (Nat.le_refl _) (fun k hk => by cases hk))
  have hsrc := hbs.src (P := Tryz.prog) Tryz.underlying22 cap
  rw [← HN.out] at hsrc
  go_wp2_with (at_builtin; refine wpList_append_b _ rfl (.tmp 43) (.tmp 44) rfl _ _ rfl o3 _ l rfl ?src ?len ?k)
  case src => rw [← HN.out]; exact hsrc
  case len => have := HN.out; simp only [List.length_append, hb_length, List.length_nil]; omega
  case k =>
    intro v4 w4 o4 s4
    have st4 := st3.trans s4
    have hfr : hb n 4 ++ (hb kind.toNat 1 ++ (hb place.toNat 6 ++ l)) = fr0 kind.toNat place.toNat l := by rw [HN.out]; rfl
    rw [hfr] at o4
    clear hfr
    go_wp2_with fail
    refine (appendSum_any v4 _ _ (by rw [fr0_length, ← HN.out]; omega) o4).mono ?_
    rintro e w5 ⟨v5, rfl, o5, s5⟩
    have st5 := st4.trans s5
    go_wp2
    go_ret2
    exact ⟨v5, rfl, o5, st5⟩

set_option maxHeartbeats 400000 in
theorem frame_no (kind place : Int) (a : Option Addr) (n cap : Nat) (w : World) (hn : n ≤ 211106232532992) (hok : ¬ okF kind place n) :
    Calls Tryz.prog 28 #[.int .i64 kind, .int .i64 place, .slice a n cap] w fun e w' => e = .returned (.tuple #[.slice none 0 0, .int .i64 1]) ∧ w' = w := by
  unfold okF at hok
  go_enter Tryz.func28, Tryz.ntmps28
  by_cases h1 : kind < 0
  · go_wp2
    go_ret2
    exact ⟨rfl, rfl⟩
  by_cases h2 : 255 < kind
  · go_wp2
    go_ret2
    exact ⟨rfl, rfl⟩
  by_cases h3 : place < 0
  · go_wp2
    go_ret2
    exact ⟨rfl, rfl⟩
  by_cases h4 : 1099511627776 < place
  · go_wp2
    go_ret2
    exact ⟨rfl, rfl⟩
  have h5 : 1048576 < n := by omega
  go_wp2
  go_ret2
  exact ⟨rfl, rfl⟩

end Go.Proofs.YtpbokgeaolpiaabGreat

/- What Unframe returns: the five answers that the document asks, the body in a row of its own. -/
namespace Go.Proofs.YtpbokgeaolpiaabGreat
open Go.RowKit

structure Five where
  kind : Int
  place : Int
  body : List UInt8
  used : Int
  err : Int
def uK (l : List UInt8) : Nat := hi ((l.drop 4).take 1)
def uP (l : List UInt8) : Nat := hi ((l.drop 5).take 6)
def uN (l : List UInt8) : Nat := hi (l.take 4)
def unf (l : List UInt8) : Five :=
  if l.length < 11 then ⟨0, 0, [], 0, 0⟩
  else if 1048576 < uN l ∨ 1099511627776 < uP l then ⟨0, 0, [], 0, 10⟩
  else if l.length < 11 + uN l + 4 then ⟨0, 0, [], 0, 0⟩
  else if (l.drop (11 + uN l)).take 4 ≠ lo4 (nsum (l.take (11 + uN l))) then ⟨0, 0, [], 0, 10⟩
  else ⟨uK l, uP l, (l.drop 11).take (uN l), ((11 + uN l + 4 : Nat) : Int), 0⟩

def Told5 (w w' : World) (e : Ending) (r : Five) : Prop :=
  ∃ v, e = .returned (.tuple #[.int .i64 r.kind, .int .i64 r.place, v, .int .i64 r.used, .int .i64 r.err]) ∧ Own w' v r.body ∧ Stp w w' none v.ownBlock
theorem told_zero (w : World) (x : Int) (n : Nat) : Told5 w (w.drewN n) (.returned (.tuple #[.int .i64 0, .int .i64 0, .slice none 0 0, .int .i64 0, .int .i64 x])) ⟨0, 0, [], 0, x⟩ :=
  ⟨_, rfl, .inl ⟨rfl, rfl⟩, (Stp.refl _ _).drewN n⟩

theorem readHead_u (a : Option Addr) (n cap : Nat) (l : List UInt8) (w : World) (hn : n = l.length) (h11 : 11 ≤ n) (hcap : n ≤ cap) (h : Bs w a l) :
    Calls Tryz.prog 74 #[.slice a n cap] w fun e w' => e = .returned (.tuple #[.int .i64 ((uN l : Nat) : Int), .int .i64 ((uK l : Nat) : Int), .int .i64 ((uP l : Nat) : Int)]) ∧ ∃ nq, w' = w.drewN nq :=
  readHead_any a n cap l w hn h11 hcap h
theorem uN_lt (l : List UInt8) : uN l < 281474976710656 := hi_lt6 _ (by simp; omega)
theorem uP_lt (l : List UInt8) : uP l < 281474976710656 := hi_lt6 _ (by simp; omega)
theorem uK_lt (l : List UInt8) : uK l < 256 := hi_lt_of _ 1 (by simp; omega)

theorem Tryz.elem22 : Tryz.prog.underlying 22 = some (.slice (Tryz.prog.elem 22)) := by kernel_rfl
theorem Tryz.size5 (w : World) : (sizeOf (Tryz.prog.elem 22)).run Tryz.prog w = .ok 1 w := by
  obtain ⟨i, hi, hz0, hz1, hz2⟩ := info_parts Tryz.info5
  have e : Tryz.prog.elem 22 = 5 := by kernel_rfl
  rw [e]
  simp [sizeOf, typeInfo, hi, hz1]
theorem slice_lh (b off n cap lo hi' m : Nat) (x y : Int) (hx : x = lo) (hy : y = hi') (h1 : lo ≤ hi') (h2 : hi' ≤ cap) (h3 : lo < cap) (hm : m = hi' - lo) (w : World) :
    (Instr.slice 22 (.slice (some ⟨b, off, none⟩) n cap) (some (.int .i64 x)) (some (.int .i64 y)) none).run Tryz.prog w = .ok (.slice (some ⟨b, off + lo, none⟩) m (cap - lo)) w := by
  subst hx; subst hy; subst hm
  rw [run_slice_lh (P := Tryz.prog) w 22 _ n cap Tryz.elem22 .i64 .i64 lo hi' (by omega) (by omega) (by omega), Tryz.size5]
  simp only [Result.andThen_ok, sliced, Int.toNat_natCast]
  rw [if_neg (by omega)]
  simp [Addr.add_lit]
theorem slice_h (a : Option Addr) (n cap hi' : Nat) (y : Int) (hy : y = hi') (h2 : hi' ≤ cap) (w : World) :
    (Instr.slice 22 (.slice a n cap) none (some (.int .i64 y)) none).run Tryz.prog w = .ok (.slice a hi' cap) w := by
  subst hy
  rw [run_slice_h (P := Tryz.prog) w 22 _ n cap Tryz.elem22 .i64 hi' (by omega) (by omega), Tryz.size5]
  simp only [Result.andThen_ok, sliced, Int.toNat_natCast]
  cases a with
  | none => simp
  | some a => simp; cases a; simp [Addr.add]

set_option maxHeartbeats 400000 in
theorem unframe_any (a : Option Addr) (n cap : Nat) (l : List UInt8) (w : World) (hn : n = l.length) (hcap : n ≤ cap) (h : Bs w a l) :
    Calls Tryz.prog 29 #[.slice a n cap] w fun e w' => Told5 w w' e (unf l) := by
  have hlen := h.1
  rw [← hn] at hlen
  by_cases h11 : n < 11
  · have HU : Hid (unf l = ⟨0, 0, [], 0, 0⟩) := by show unf l = _; unfold unf; rw [if_pos (by omega)]
    clear hn h
    go_enter Tryz.func29, Tryz.ntmps29
    go_wp2
    refine bodyPost_ret (v := .tuple #[.int .i64 0, .int .i64 0, .slice none 0 0, .int .i64 0, .int .i64 0]) (by simp [results, Tryz.results29, go_sem]) rfl ?_
    rw [HU.out]
    exact told_zero w 0 0
  · have HN : Hid (n = l.length) := hn
    obtain ⟨b, off, rfl, hb, hc⟩ := h.2 (by intro e; simp [e] at hn; omega)
    have hNlt := uN_lt l
    have hPlt := uP_lt l
    have hKlt := uK_lt l
    by_cases hbig : 1048576 < uN l ∨ 1099511627776 < uP l
    · have HU : Hid (unf l = ⟨0, 0, [], 0, 10⟩) := by show unf l = _; unfold unf; rw [if_neg (by omega), if_pos hbig]
      clear hn hc
      go_enter Tryz.func29, Tryz.ntmps29
      go_wp2_with fail
      refine (readHead_u _ n cap l _ HN.out (by omega) hcap h).mono ?_
      rintro e w1 ⟨rfl, nq, rfl⟩
      by_cases hb1 : 1048576 < uN l
      · go_wp2
        refine bodyPost_ret (v := .tuple #[.int .i64 0, .int .i64 0, .slice none 0 0, .int .i64 0, .int .i64 10]) (by simp [results, Tryz.results29, go_sem]) rfl ?_
        rw [HU.out]
        exact told_zero w 10 nq
      · have hb2 : 1099511627776 < uP l := by omega
        go_wp2
        refine bodyPost_ret (v := .tuple #[.int .i64 0, .int .i64 0, .slice none 0 0, .int .i64 0, .int .i64 10]) (by simp [results, Tryz.results29, go_sem]) rfl ?_
        rw [HU.out]
        exact told_zero w 10 nq
    · have hN1 : uN l ≤ 1048576 := by omega
      have hP1 : uP l ≤ 1099511627776 := by omega
      by_cases hsh : n < 11 + uN l + 4
      · have HU : Hid (unf l = ⟨0, 0, [], 0, 0⟩) := by show unf l = _; unfold unf; rw [if_neg (by omega), if_neg hbig, if_pos (by omega)]
        clear hn hc hbig
        go_enter Tryz.func29, Tryz.ntmps29
        go_wp2_with fail
        refine (readHead_u _ n cap l _ HN.out (by omega) hcap h).mono ?_
        rintro e w1 ⟨rfl, nq, rfl⟩
        go_wp2
        refine bodyPost_ret (v := .tuple #[.int .i64 0, .int .i64 0, .slice none 0 0, .int .i64 0, .int .i64 0]) (by simp [results, Tryz.results29, go_sem]) rfl ?_
        rw [HU.out]
        exact told_zero w 0 nq
      · have HL4 : Hid (((l.drop (11 + uN l)).take 4).length = 4) := by show _ = _; simp only [List.length_take, List.length_drop]; omega
        have HL1 : Hid (11 + uN l = (l.take (11 + uN l)).length) := by show _ = _; simp only [List.length_take]; omega
        have HUd : Hid (unf l = if (l.drop (11 + uN l)).take 4 ≠ lo4 (nsum (l.take (11 + uN l))) then ⟨0, 0, [], 0, 10⟩ else ⟨uK l, uP l, (l.drop 11).take (uN l), ((11 + uN l + 4 : Nat) : Int), 0⟩) := by
          show unf l = _; conv => lhs; unfold unf
          rw [if_neg (by omega), if_neg hbig, if_neg (by omega)]
        have HB3 : Hid (uN l = ((l.drop 11).take (uN l)).length) := by show _ = _; simp only [List.length_take, List.length_drop]; omega
        clear hn hc hbig
        go_enter Tryz.func29, Tryz.ntmps29
        go_wp2_with fail
        refine (readHead_u _ n cap l _ HN.out (by omega) hcap h).mono ?_
        rintro e w1 ⟨rfl, n0, hw⟩
        have HW : Hid (w1 = w.drewN n0) := hw
        have h1 : Bs w1 (some ⟨b, off, none⟩) l := by rw [hw]; exact h.drewN _
        clear hw h
        have e1 := slice_h (some ⟨b, off, none⟩) n cap (11 + uN l) (11 + (uN l : Int)) (by omega) (by omega)
        have e2 := slice_lh b off n cap (11 + uN l) (11 + uN l + 4) 4 (11 + (uN l : Int)) (11 + (uN l : Int) + 4) (by omega) (by omega) (by omega) (by omega) (by omega) (by omega)
        have e3 := slice_lh b off n cap 11 (11 + uN l) (uN l) 11 (11 + (uN l : Int)) (by omega) (by omega) (by omega) (by omega) (by omega) (by omega)
        go_wp2
        go_quiet ((go_at_call 75; refine Calls.quiet_of_same (sumIsRight_any _ _ _ _ _ (l.take (11 + uN l)) ((l.drop (11 + uN l)).take 4) _ ?_ ?_ ?_ ?_); exact HL1.out; exact HL4.out; exact ((h1.first (11 + uN l)).drewN _); exact ((h1.part (11 + uN l) 4).drewN _)))
        have hst : Stp w (w1.drewN nq) none none := by rw [HW.out]; exact ((Stp.refl _ _).drewN _).drewN _
        have h2 : Bs (w1.drewN nq) (some ⟨b, off, none⟩) l := h1.drewN _
        generalize w1.drewN nq = w2 at *
        clear h1 HW
        generalize hdd : decide ((l.drop (11 + uN l)).take 4 = lo4 (nsum (l.take (11 + uN l)))) = d at *
        have HD : Hid (decide ((l.drop (11 + uN l)).take 4 = lo4 (nsum (l.take (11 + uN l)))) = d) := hdd
        clear hdd
        cases d with
        | false =>
          go_wp2
          refine bodyPost_ret (v := .tuple #[.int .i64 0, .int .i64 0, .slice none 0 0, .int .i64 0, .int .i64 10]) (by simp [results, Tryz.results29, go_sem]) rfl ?_
          rw [HUd.out, if_pos (of_decide_eq_false HD.out)]
          exact ⟨_, rfl, .inl ⟨rfl, rfl⟩, hst⟩
        | true =>
          go_wp2_with fail
          refine (copyBytes_any _ _ _ ((l.drop 11).take (uN l)) _ HB3.out (h2.part 11 (uN l))).mono ?_
          rintro e w3 ⟨v3, rfl, o3, s3⟩
          go_wp2
          refine bodyPost_ret (v := .tuple #[.int .i64 (uK l), .int .i64 (uP l), v3, .int .i64 (11 + (uN l : Int) + 4), .int .i64 0]) (by simp [results, Tryz.results29, go_sem]) rfl ?_
          rw [HUd.out, if_neg (not_not_intro (of_decide_eq_true HD.out))]
          exact ⟨v3, by go_num, o3, hst.trans s3⟩
end Go.Proofs.YtpbokgeaolpiaabGreat

/- What the reader's number does on a zero byte: it returns nought and goes on by one byte; nothing but the reader has turned. -/
namespace Go.Proofs.YtpbokgeaolpiaabGreat
open Go.RowKit

/- a reader at block p with k zero bytes left, which lie in block b -/
def RD (w : World) (p b k : Nat) : Prop :=
  p < w.heap.size ∧ b ≠ p ∧ b < w.heap.size ∧ ∃ a cap, w.cell? ⟨p, 0, none⟩ = some (.slice a k cap) ∧ w.cell? ⟨p, 1, none⟩ = some (.bool false) ∧ w.frozen? ⟨p, 0, none⟩ = false ∧ w.frozen? ⟨p, 1, none⟩ = false ∧
    k ≤ cap ∧ k ≤ 1000 ∧ (0 < k → ∃ off, a = some ⟨b, off, none⟩ ∧ ∀ j, j < k → w.cell? ⟨b, off + j, none⟩ = some (.int .u8 0))
structure RS (w w' : World) (p : Nat) : Prop where
  os : w'.os = w.os
  tape : w'.tape = w.tape
  output : w'.output = w.output
  size : w.heap.size ≤ w'.heap.size
  block : ∀ k, k < w.heap.size → k ≠ p → w'.heap[k]? = w.heap[k]?
theorem RS.refl (w : World) (p : Nat) : RS w w p := ⟨rfl, rfl, rfl, Nat.le_refl _, fun _ _ _ => rfl⟩
theorem RS.trans {a b c : World} {p : Nat} (h : RS a b p) (k : RS b c p) : RS a c p :=
  ⟨k.os.trans h.os, k.tape.trans h.tape, k.output.trans h.output, Nat.le_trans h.size k.size, fun i hi hp => (k.block i (Nat.lt_of_lt_of_le hi h.size) hp).trans (h.block i hi hp)⟩
theorem RS.alloc {a w : World} {p : Nat} (h : RS a w p) (o : Obj) : RS a (w.alloc o) p := h.trans ⟨rfl, rfl, rfl, by simp, fun k hk _ => Below.heap_alloc w o k hk⟩
/- the row of a new block is stored -/
theorem RS.setRow {a w : World} {p g : Nat} (h : RS a w p) (hg : a.heap.size ≤ g) (cs : Array Value) : RS a (w.setRow g cs) p :=
  ⟨h.os, h.tape, h.output, by simp [World.setRow]; exact h.size, fun k hk hp => (setRow_other w g k cs (by omega)).trans (h.block k hk hp)⟩
theorem RD.kept {w w' : World} {p b k : Nat} (h : RD w p b k) (hs : w.heap.size ≤ w'.heap.size) (hp : w'.heap[p]? = w.heap[p]?) (hb : w'.heap[b]? = w.heap[b]?) : RD w' p b k := by
  obtain ⟨h1, h2, h3, a, cap, h4, h5, h6, h7, h8, h9, h10⟩ := h
  refine ⟨by omega, h2, by omega, a, cap, (World.cell?_of_block hp).trans h4, (World.cell?_of_block hp).trans h5, (World.frozen?_of_block hp).trans h6, (World.frozen?_of_block hp).trans h7, h8, h9, fun hk => ?_⟩
  obtain ⟨off, e, hc⟩ := h10 hk
  exact ⟨off, e, fun j hj => (World.cell?_of_block (a := ⟨b, off + j, none⟩) hb).trans (hc j hj)⟩
theorem RD.alloc {w : World} {p b k : Nat} (h : RD w p b k) (o : Obj) : RD (w.alloc o) p b k := h.kept (by simp) (Below.heap_alloc w o p h.1) (Below.heap_alloc w o b h.2.2.1)
theorem RD.setRow {w : World} {p b k g : Nat} (h : RD w p b k) (hp : p ≠ g) (hb : b ≠ g) (cs : Array Value) : RD (w.setRow g cs) p b k :=
  h.kept (by simp [World.setRow]) (setRow_other w g p cs hp) (setRow_other w g b cs hb)

set_option maxHeartbeats 400000 in
theorem unfold_zero (w : World) : Calls Tryz.prog 115 #[.int .i64 0] w fun e w' => e = .returned (.int .i64 0) ∧ w' = w := by
  go_enter Tryz.func115, Tryz.ntmps115
  go_wp2
  go_ret
  exact ⟨rfl, rfl⟩

theorem slice_l (a : Option Addr) (k cap : Nat) (hk : 1 ≤ k) (w : World) :
    (Instr.slice 22 (.slice a k cap) (some (.int .i64 1)) none none).run Tryz.prog w = .ok (.slice (if cap = 1 then a else a.map (·.add 1)) (k - 1) (cap - 1)) w := by
  rw [run_slice_l (P := Tryz.prog) w 22 a k cap Tryz.elem22 .i64 1 (by omega) (by omega), Tryz.size5]
  rfl

theorem RD.next {w : World} {p b off k cap : Nat} (h : RD w p b (k + 1)) (h4 : w.cell? ⟨p, 0, none⟩ = some (.slice (some ⟨b, off, none⟩) (k + 1) cap)) (hc : ∀ j, j < k + 1 → w.cell? ⟨b, off + j, none⟩ = some (.int .u8 0)) (v : Value)
    (hv : v = .slice (if cap = 1 then some ⟨b, off, none⟩ else (some (⟨b, off, none⟩ : Addr)).map (·.add 1)) k (cap - 1)) : RD (w.setCell ⟨p, 0, none⟩ v) p b k ∧ RS w (w.setCell ⟨p, 0, none⟩ v) p := by
  obtain ⟨h1, h2, h3, a, cap', h4', h5, h6, h7, h8, h9, h10⟩ := h
  rw [h4] at h4'
  simp only [Option.some.injEq, Value.slice.injEq] at h4'
  obtain ⟨_, _, rfl⟩ := h4'
  refine ⟨⟨by simpa using h1, h2, by simpa using h3, if cap = 1 then some ⟨b, off, none⟩ else (some (⟨b, off, none⟩ : Addr)).map (·.add 1), cap - 1, ?_, ?_, by rw [World.frozen?_setCell]; exact h6, by rw [World.frozen?_setCell]; exact h7, by omega, by omega, fun hk => ?_⟩, ⟨rfl, rfl, rfl, by simp, fun j hj hp => Below.heap_setCell w ⟨p, 0, none⟩ v j hp⟩⟩
  · rw [← hv]; exact World.cell?_setCell_same w _ _ h4
  · rw [World.cell?_setCell_other w _ _ _ (by simp)]; exact h5
  · rw [if_neg (by omega)]
    refine ⟨off + 1, by simp [Addr.add_lit], fun j hj => ?_⟩
    rw [World.cell?_of_block (w := w) (Below.heap_setCell w ⟨p, 0, none⟩ v b h2), Nat.add_assoc]
    exact hc (1 + j) (by omega)

set_option maxHeartbeats 400000 in
set_option maxRecDepth 100000 in
theorem number_r (p b k : Nat) (w : World) (h : RD w p b (k + 1)) : Calls Tryz.prog 50 #[.pointer (some ⟨p, 0, none⟩)] w fun e w' => e = .returned (.int .i64 0) ∧ RD w' p b k ∧ RS w w' p := by
  have H := h
  obtain ⟨h1, h2, h3, a, cap, h4, h5, h6, h7, h8, h9, h10⟩ := h
  obtain ⟨off, rfl, hc⟩ := h10 (by omega)
  obtain ⟨a', HA, hs⟩ : ∃ a', Hid (a' = if cap = 1 then some ⟨b, off, none⟩ else (some (⟨b, off, none⟩ : Addr)).map (·.add 1)) ∧ ∀ w, (Instr.slice 22 (.slice (some ⟨b, off, none⟩) (k + 1) cap) (some (.int .i64 1)) none none).run Tryz.prog w = .ok (.slice a' k (cap - 1)) w :=
    ⟨_, rfl, slice_l (some ⟨b, off, none⟩) (k + 1) cap (by omega)⟩
  have hc0 : w.cell? ⟨b, off, none⟩ = some (.int .u8 0) := hc 0 (by omega)
  have HC : Hid _ := hc
  have HF : Hid (foldN 1099511627776 = 2199023255552) := rfl
  clear h10 hc
  go_enter Tryz.func50, Tryz.ntmps50
  go_wp2
  all_goals
    refine wp_loop_rounds 1 ?_
    rw [rounds_succ]
    go_wp2_with fail
    refine (fold_any 1099511627776 w (by omega) (by omega)).mono ?_
    rintro e w1 ⟨rfl, hw⟩
    subst hw
    rw [HF.out]
    go_wp2_with fail
    refine (unfold_zero _).mono ?_
    rintro e w2 ⟨rfl, hw⟩
    subst hw
    go_wp2
    go_ret
    obtain ⟨r1, r2⟩ := RD.next H h4 HC.out (.slice a' k (cap - 1)) (by rw [HA.out])
    exact ⟨rfl, r1, r2⟩
end Go.Proofs.YtpbokgeaolpiaabGreat

/- What the reader does on zero bytes: each record is read as its zero value, as many bytes go as it has fields and lists. -/
namespace Go.Proofs.YtpbokgeaolpiaabGreat
open Go.RowKit

theorem num_r (p b m k : Nat) (w : World) (hm : m = k + 1) (h : RD w p b m) : Calls Tryz.prog 50 #[.pointer (some ⟨p, 0, none⟩)] w fun e w' => e = .returned (.int .i64 0) ∧ RD w' p b k ∧ RS w w' p := by
  subst hm
  exact number_r p b k w h

set_option maxHeartbeats 400000 in
theorem truth_r (p b m k : Nat) (w : World) (hm : m = k + 1) (h : RD w p b m) : Calls Tryz.prog 78 #[.pointer (some ⟨p, 0, none⟩)] w fun e w' => e = .returned (.bool false) ∧ RD w' p b k ∧ RS w w' p := by
  go_enter Tryz.func78, Tryz.ntmps78
  go_wp2_with fail
  refine (num_r p b m k w hm h).mono ?_
  rintro e w' ⟨rfl, hR, hS⟩
  go_wp2
  go_ret
  exact ⟨rfl, hR, hS⟩

set_option maxHeartbeats 400000 in
theorem count_r (p b m k : Nat) (most : Int) (w : World) (hm0 : 0 ≤ most) (hm1 : most ≤ 65536) (hm : m = k + 1) (h : RD w p b m) : Calls Tryz.prog 120 #[.pointer (some ⟨p, 0, none⟩), .int .i64 most] w fun e w' => e = .returned (.int .i64 0) ∧ RD w' p b k ∧ RS w w' p := by
  go_enter Tryz.func120, Tryz.ntmps120
  go_wp2_with fail
  refine (num_r p b m k w hm h).mono ?_
  rintro e w' ⟨rfl, hR, hS⟩
  go_wp2
  go_ret
  exact ⟨rfl, hR, hS⟩


set_option maxHeartbeats 400000 in
theorem listReport_r (p b m k : Nat) (f : Value) (w : World) (hm : m = k + 1) (h : RD w p b m) : Calls Tryz.prog 53 #[.pointer (some ⟨p, 0, none⟩), f] w fun e w' => e = .returned (.slice none 0 0) ∧ RD w' p b k ∧ RS w w' p := by
  go_enter Tryz.func53, Tryz.ntmps53
  go_wp2_with fail
  refine (count_r p b m k _ w (by omega) (by omega) hm h).mono ?_
  rintro e w' ⟨rfl, hR, hS⟩
  go_wp2
  refine wp_loop_rounds 1 ?_
  rw [rounds_succ]
  go_wp2
  go_ret
  exact ⟨rfl, hR, hS⟩


set_option maxHeartbeats 400000 in
theorem listGroup_r (p b m k : Nat) (f : Value) (w : World) (hm : m = k + 1) (h : RD w p b m) : Calls Tryz.prog 117 #[.pointer (some ⟨p, 0, none⟩), f] w fun e w' => e = .returned (.slice none 0 0) ∧ RD w' p b k ∧ RS w w' p := by
  go_enter Tryz.func117, Tryz.ntmps117
  go_wp2_with fail
  refine (count_r p b m k _ w (by omega) (by omega) hm h).mono ?_
  rintro e w' ⟨rfl, hR, hS⟩
  go_wp2
  refine wp_loop_rounds 1 ?_
  rw [rounds_succ]
  go_wp2
  go_ret
  exact ⟨rfl, hR, hS⟩


set_option maxHeartbeats 400000 in
theorem listInt_r (p b m k : Nat) (f : Value) (w : World) (hm : m = k + 1) (h : RD w p b m) : Calls Tryz.prog 121 #[.pointer (some ⟨p, 0, none⟩), f] w fun e w' => e = .returned (.slice none 0 0) ∧ RD w' p b k ∧ RS w w' p := by
  go_enter Tryz.func121, Tryz.ntmps121
  go_wp2_with fail
  refine (count_r p b m k _ w (by omega) (by omega) hm h).mono ?_
  rintro e w' ⟨rfl, hR, hS⟩
  go_wp2
  refine wp_loop_rounds 1 ?_
  rw [rounds_succ]
  go_wp2
  go_ret
  exact ⟨rfl, hR, hS⟩


set_option maxHeartbeats 400000 in
theorem listAlloc_r (p b m k : Nat) (f : Value) (w : World) (hm : m = k + 1) (h : RD w p b m) : Calls Tryz.prog 93 #[.pointer (some ⟨p, 0, none⟩), f] w fun e w' => e = .returned (.slice none 0 0) ∧ RD w' p b k ∧ RS w w' p := by
  go_enter Tryz.func93, Tryz.ntmps93
  go_wp2_with fail
  refine (count_r p b m k _ w (by omega) (by omega) hm h).mono ?_
  rintro e w' ⟨rfl, hR, hS⟩
  go_wp2
  refine wp_loop_rounds 1 ?_
  rw [rounds_succ]
  go_wp2
  go_ret
  exact ⟨rfl, hR, hS⟩


set_option maxHeartbeats 800000 in
theorem res_r (p b m k : Nat) (w : World) (hm : m = k + 2) (h : RD w p b m) :
    Calls Tryz.prog 119 #[.pointer (some ⟨p, 0, none⟩)] w fun e w' => e = .returned (.agg #[.int .i64 0, .int .i64 0]) ∧ RD w' p b k ∧ RS w w' p := by
  have hmf : ∀ (fn : Fn) (first cap : Array Value) (w : World), (Instr.makeFunc fn first cap).run Tryz.prog w = .ok (.func fn first cap) w := fun _ _ _ _ => rfl
  have h0 : RD (w.alloc (.cells #[.int .i64 0, .int .i64 0] 27)) p b m := h.alloc _
  have s0 : RS w (w.alloc (.cells #[.int .i64 0, .int .i64 0] 27)) p := (RS.refl _ _).alloc _
  have g0 : Hid ((w.alloc (.cells #[.int .i64 0, .int .i64 0] 27)).heap[w.heap.size]? = some (.cells #[.int .i64 0, .int .i64 0] 27 (0, 0))) := heap_alloc_new w _
  have z0 : w.heap.size < (w.alloc (.cells #[.int .i64 0, .int .i64 0] 27)).heap.size := by rw [World.size_alloc]; omega
  have hpq : Hid (p ≠ w.heap.size) := by have := h.1; show p ≠ _; omega
  have hbq : Hid (b ≠ w.heap.size) := by have := h.2.2.1; show b ≠ _; omega
  have HM : Hid (m = k + 2) := hm
  have i0 : (Tryz.prog.info? 27).map (·.size) = some (#[.int .i64 0, .int .i64 0] : Array Value).size := by kernel_rfl
  have o0 : (#[.int .i64 0, .int .i64 0] : Array Value).all (·.oneCell') = true := by kernel_rfl
  have I0 : Hid _ := i0
  have O0 : Hid _ := o0
  clear h hm i0 o0
  go_enter Tryz.func119, Tryz.ntmps119
  go_wp2_with fail
  refine (num_r p b _ (k + 1) _ HM.out h0).mono ?_
  rintro e w1 ⟨rfl, h1, t1⟩
  have s1 := s0.trans t1
  have g1 : Hid (w1.heap[w.heap.size]? = some (.cells #[.int .i64 0, .int .i64 0] 27 (0, 0))) := (t1.block _ z0 hpq.out.symm).trans g0.out
  have z1 : w.heap.size < w1.heap.size := Nat.lt_of_lt_of_le z0 t1.size
  clear h0 t1 s0 g0 z0
  go_wp2_with fail
  refine (num_r p b _ (k + 0) _ (by omega) h1).mono ?_
  rintro e w2 ⟨rfl, h2, t2⟩
  have s2 := s1.trans t2
  have g2 : Hid (w2.heap[w.heap.size]? = some (.cells #[.int .i64 0, .int .i64 0] 27 (0, 0))) := (t2.block _ z1 hpq.out.symm).trans g1.out
  have z2 : w.heap.size < w2.heap.size := Nat.lt_of_lt_of_le z1 t2.size
  clear h1 t2 s1 g1 z1
  go_wp2_with (refine wpList_store_row rfl 27 (.tmp 2) (.tmp 7) rfl w.heap.size #[.int .i64 0, .int .i64 0] rfl rfl 27 #[.int .i64 0, .int .i64 0] g2.out I0.out rfl O0.out ?_)
  refine bodyPost_ret (v := .agg #[.int .i64 0, .int .i64 0]) ?_ rfl ⟨rfl, ?_, ?_⟩
  · exact results_cell_row Tryz.results119 _ _ w.heap.size 27 #[.int .i64 0, .int .i64 0] (0, 0) _ rfl (setRow_heap w2 w.heap.size _ _ 27 _ g2.out) Tryz.underlying27 rfl (by kernel_rfl)
  · exact h2.setRow hpq.out hbq.out _
  · exact s2.setRow (Nat.le_refl _) _


set_option maxHeartbeats 800000 in
theorem job_r (p b m k : Nat) (w : World) (hm : m = k + 7) (h : RD w p b m) :
    Calls Tryz.prog 51 #[.pointer (some ⟨p, 0, none⟩)] w fun e w' => e = .returned (.agg #[.int .i64 0, .int .i64 0, .int .i64 0, .int .i64 0, .slice none 0 0, .int .i64 0, .bool false]) ∧ RD w' p b k ∧ RS w w' p := by
  have hmf : ∀ (fn : Fn) (first cap : Array Value) (w : World), (Instr.makeFunc fn first cap).run Tryz.prog w = .ok (.func fn first cap) w := fun _ _ _ _ => rfl
  have h0 : RD (w.alloc (.cells #[.int .i64 0, .int .i64 0, .int .i64 0, .int .i64 0, .slice none 0 0, .int .i64 0, .bool false] 25)) p b m := h.alloc _
  have s0 : RS w (w.alloc (.cells #[.int .i64 0, .int .i64 0, .int .i64 0, .int .i64 0, .slice none 0 0, .int .i64 0, .bool false] 25)) p := (RS.refl _ _).alloc _
  have g0 : Hid ((w.alloc (.cells #[.int .i64 0, .int .i64 0, .int .i64 0, .int .i64 0, .slice none 0 0, .int .i64 0, .bool false] 25)).heap[w.heap.size]? = some (.cells #[.int .i64 0, .int .i64 0, .int .i64 0, .int .i64 0, .slice none 0 0, .int .i64 0, .bool false] 25 (0, 0))) := heap_alloc_new w _
  have z0 : w.heap.size < (w.alloc (.cells #[.int .i64 0, .int .i64 0, .int .i64 0, .int .i64 0, .slice none 0 0, .int .i64 0, .bool false] 25)).heap.size := by rw [World.size_alloc]; omega
  have hpq : Hid (p ≠ w.heap.size) := by have := h.1; show p ≠ _; omega
  have hbq : Hid (b ≠ w.heap.size) := by have := h.2.2.1; show b ≠ _; omega
  have HM : Hid (m = k + 7) := hm
  have i0 : (Tryz.prog.info? 25).map (·.size) = some (#[.int .i64 0, .int .i64 0, .int .i64 0, .int .i64 0, .slice none 0 0, .int .i64 0, .bool false] : Array Value).size := by kernel_rfl
  have o0 : (#[.int .i64 0, .int .i64 0, .int .i64 0, .int .i64 0, .slice none 0 0, .int .i64 0, .bool false] : Array Value).all (·.oneCell') = true := by kernel_rfl
  have I0 : Hid _ := i0
  have O0 : Hid _ := o0
  clear h hm i0 o0
  go_enter Tryz.func51, Tryz.ntmps51
  go_wp2_with fail
  refine (num_r p b _ (k + 6) _ HM.out h0).mono ?_
  rintro e w1 ⟨rfl, h1, t1⟩
  have s1 := s0.trans t1
  have g1 : Hid (w1.heap[w.heap.size]? = some (.cells #[.int .i64 0, .int .i64 0, .int .i64 0, .int .i64 0, .slice none 0 0, .int .i64 0, .bool false] 25 (0, 0))) := (t1.block _ z0 hpq.out.symm).trans g0.out
  have z1 : w.heap.size < w1.heap.size := Nat.lt_of_lt_of_le z0 t1.size
  clear h0 t1 s0 g0 z0
  go_wp2_with fail
  refine (num_r p b _ (k + 5) _ (by omega) h1).mono ?_
  rintro e w2 ⟨rfl, h2, t2⟩
  have s2 := s1.trans t2
  have g2 : Hid (w2.heap[w.heap.size]? = some (.cells #[.int .i64 0, .int .i64 0, .int .i64 0, .int .i64 0, .slice none 0 0, .int .i64 0, .bool false] 25 (0, 0))) := (t2.block _ z1 hpq.out.symm).trans g1.out
  have z2 : w.heap.size < w2.heap.size := Nat.lt_of_lt_of_le z1 t2.size
  clear h1 t2 s1 g1 z1
  go_wp2_with fail
  refine (num_r p b _ (k + 4) _ (by omega) h2).mono ?_
  rintro e w3 ⟨rfl, h3, t3⟩
  have s3 := s2.trans t3
  have g3 : Hid (w3.heap[w.heap.size]? = some (.cells #[.int .i64 0, .int .i64 0, .int .i64 0, .int .i64 0, .slice none 0 0, .int .i64 0, .bool false] 25 (0, 0))) := (t3.block _ z2 hpq.out.symm).trans g2.out
  have z3 : w.heap.size < w3.heap.size := Nat.lt_of_lt_of_le z2 t3.size
  clear h2 t3 s2 g2 z2
  go_wp2_with fail
  refine (num_r p b _ (k + 3) _ (by omega) h3).mono ?_
  rintro e w4 ⟨rfl, h4, t4⟩
  have s4 := s3.trans t4
  have g4 : Hid (w4.heap[w.heap.size]? = some (.cells #[.int .i64 0, .int .i64 0, .int .i64 0, .int .i64 0, .slice none 0 0, .int .i64 0, .bool false] 25 (0, 0))) := (t4.block _ z3 hpq.out.symm).trans g3.out
  have z4 : w.heap.size < w4.heap.size := Nat.lt_of_lt_of_le z3 t4.size
  clear h3 t4 s3 g3 z3
  go_wp2_with fail
  refine (listGroup_r p b _ (k + 2) _ _ (by omega) h4).mono ?_
  rintro e w5 ⟨rfl, h5, t5⟩
  have s5 := s4.trans t5
  have g5 : Hid (w5.heap[w.heap.size]? = some (.cells #[.int .i64 0, .int .i64 0, .int .i64 0, .int .i64 0, .slice none 0 0, .int .i64 0, .bool false] 25 (0, 0))) := (t5.block _ z4 hpq.out.symm).trans g4.out
  have z5 : w.heap.size < w5.heap.size := Nat.lt_of_lt_of_le z4 t5.size
  clear h4 t5 s4 g4 z4
  go_wp2_with fail
  refine (num_r p b _ (k + 1) _ (by omega) h5).mono ?_
  rintro e w6 ⟨rfl, h6, t6⟩
  have s6 := s5.trans t6
  have g6 : Hid (w6.heap[w.heap.size]? = some (.cells #[.int .i64 0, .int .i64 0, .int .i64 0, .int .i64 0, .slice none 0 0, .int .i64 0, .bool false] 25 (0, 0))) := (t6.block _ z5 hpq.out.symm).trans g5.out
  have z6 : w.heap.size < w6.heap.size := Nat.lt_of_lt_of_le z5 t6.size
  clear h5 t6 s5 g5 z5
  go_wp2_with fail
  refine (truth_r p b _ (k + 0) _ (by omega) h6).mono ?_
  rintro e w7 ⟨rfl, h7, t7⟩
  have s7 := s6.trans t7
  have g7 : Hid (w7.heap[w.heap.size]? = some (.cells #[.int .i64 0, .int .i64 0, .int .i64 0, .int .i64 0, .slice none 0 0, .int .i64 0, .bool false] 25 (0, 0))) := (t7.block _ z6 hpq.out.symm).trans g6.out
  have z7 : w.heap.size < w7.heap.size := Nat.lt_of_lt_of_le z6 t7.size
  clear h6 t7 s6 g6 z6
  go_wp2_with (refine wpList_store_row rfl 25 (.tmp 2) (.tmp 19) rfl w.heap.size #[.int .i64 0, .int .i64 0, .int .i64 0, .int .i64 0, .slice none 0 0, .int .i64 0, .bool false] rfl rfl 25 #[.int .i64 0, .int .i64 0, .int .i64 0, .int .i64 0, .slice none 0 0, .int .i64 0, .bool false] g7.out I0.out rfl O0.out ?_)
  refine bodyPost_ret (v := .agg #[.int .i64 0, .int .i64 0, .int .i64 0, .int .i64 0, .slice none 0 0, .int .i64 0, .bool false]) ?_ rfl ⟨rfl, ?_, ?_⟩
  · exact results_cell_row Tryz.results51 _ _ w.heap.size 25 #[.int .i64 0, .int .i64 0, .int .i64 0, .int .i64 0, .slice none 0 0, .int .i64 0, .bool false] (0, 0) _ rfl (setRow_heap w7 w.heap.size _ _ 25 _ g7.out) Tryz.underlying25 rfl (by kernel_rfl)
  · exact h7.setRow hpq.out hbq.out _
  · exact s7.setRow (Nat.le_refl _) _


set_option maxHeartbeats 800000 in
theorem node_r (p b m k : Nat) (w : World) (hm : m = k + 8) (h : RD w p b m) :
    Calls Tryz.prog 52 #[.pointer (some ⟨p, 0, none⟩)] w fun e w' => e = .returned (.agg #[.int .i64 0, .int .i64 0, .int .i64 0, .bool false, .bool false, .int .i64 0, .int .i64 0, .int .i64 0]) ∧ RD w' p b k ∧ RS w w' p := by
  have hmf : ∀ (fn : Fn) (first cap : Array Value) (w : World), (Instr.makeFunc fn first cap).run Tryz.prog w = .ok (.func fn first cap) w := fun _ _ _ _ => rfl
  have h0 : RD (w.alloc (.cells #[.int .i64 0, .int .i64 0, .int .i64 0, .bool false, .bool false, .int .i64 0, .int .i64 0, .int .i64 0] 29)) p b m := h.alloc _
  have s0 : RS w (w.alloc (.cells #[.int .i64 0, .int .i64 0, .int .i64 0, .bool false, .bool false, .int .i64 0, .int .i64 0, .int .i64 0] 29)) p := (RS.refl _ _).alloc _
  have g0 : Hid ((w.alloc (.cells #[.int .i64 0, .int .i64 0, .int .i64 0, .bool false, .bool false, .int .i64 0, .int .i64 0, .int .i64 0] 29)).heap[w.heap.size]? = some (.cells #[.int .i64 0, .int .i64 0, .int .i64 0, .bool false, .bool false, .int .i64 0, .int .i64 0, .int .i64 0] 29 (0, 0))) := heap_alloc_new w _
  have z0 : w.heap.size < (w.alloc (.cells #[.int .i64 0, .int .i64 0, .int .i64 0, .bool false, .bool false, .int .i64 0, .int .i64 0, .int .i64 0] 29)).heap.size := by rw [World.size_alloc]; omega
  have hpq : Hid (p ≠ w.heap.size) := by have := h.1; show p ≠ _; omega
  have hbq : Hid (b ≠ w.heap.size) := by have := h.2.2.1; show b ≠ _; omega
  have HM : Hid (m = k + 8) := hm
  have i0 : (Tryz.prog.info? 29).map (·.size) = some (#[.int .i64 0, .int .i64 0, .int .i64 0, .bool false, .bool false, .int .i64 0, .int .i64 0, .int .i64 0] : Array Value).size := by kernel_rfl
  have o0 : (#[.int .i64 0, .int .i64 0, .int .i64 0, .bool false, .bool false, .int .i64 0, .int .i64 0, .int .i64 0] : Array Value).all (·.oneCell') = true := by kernel_rfl
  have I0 : Hid _ := i0
  have O0 : Hid _ := o0
  clear h hm i0 o0
  go_enter Tryz.func52, Tryz.ntmps52
  go_wp2_with fail
  refine (num_r p b _ (k + 7) _ HM.out h0).mono ?_
  rintro e w1 ⟨rfl, h1, t1⟩
  have s1 := s0.trans t1
  have g1 : Hid (w1.heap[w.heap.size]? = some (.cells #[.int .i64 0, .int .i64 0, .int .i64 0, .bool false, .bool false, .int .i64 0, .int .i64 0, .int .i64 0] 29 (0, 0))) := (t1.block _ z0 hpq.out.symm).trans g0.out
  have z1 : w.heap.size < w1.heap.size := Nat.lt_of_lt_of_le z0 t1.size
  clear h0 t1 s0 g0 z0
  go_wp2_with fail
  refine (res_r p b _ (k + 5) _ (by omega) h1).mono ?_
  rintro e w2 ⟨rfl, h2, t2⟩
  have s2 := s1.trans t2
  have g2 : Hid (w2.heap[w.heap.size]? = some (.cells #[.int .i64 0, .int .i64 0, .int .i64 0, .bool false, .bool false, .int .i64 0, .int .i64 0, .int .i64 0] 29 (0, 0))) := (t2.block _ z1 hpq.out.symm).trans g1.out
  have z2 : w.heap.size < w2.heap.size := Nat.lt_of_lt_of_le z1 t2.size
  clear h1 t2 s1 g1 z1
  go_wp2_with fail
  refine (truth_r p b _ (k + 4) _ (by omega) h2).mono ?_
  rintro e w3 ⟨rfl, h3, t3⟩
  have s3 := s2.trans t3
  have g3 : Hid (w3.heap[w.heap.size]? = some (.cells #[.int .i64 0, .int .i64 0, .int .i64 0, .bool false, .bool false, .int .i64 0, .int .i64 0, .int .i64 0] 29 (0, 0))) := (t3.block _ z2 hpq.out.symm).trans g2.out
  have z3 : w.heap.size < w3.heap.size := Nat.lt_of_lt_of_le z2 t3.size
  clear h2 t3 s2 g2 z2
  go_wp2_with fail
  refine (truth_r p b _ (k + 3) _ (by omega) h3).mono ?_
  rintro e w4 ⟨rfl, h4, t4⟩
  have s4 := s3.trans t4
  have g4 : Hid (w4.heap[w.heap.size]? = some (.cells #[.int .i64 0, .int .i64 0, .int .i64 0, .bool false, .bool false, .int .i64 0, .int .i64 0, .int .i64 0] 29 (0, 0))) := (t4.block _ z3 hpq.out.symm).trans g3.out
  have z4 : w.heap.size < w4.heap.size := Nat.lt_of_lt_of_le z3 t4.size
  clear h3 t4 s3 g3 z3
  go_wp2_with fail
  refine (num_r p b _ (k + 2) _ (by omega) h4).mono ?_
  rintro e w5 ⟨rfl, h5, t5⟩
  have s5 := s4.trans t5
  have g5 : Hid (w5.heap[w.heap.size]? = some (.cells #[.int .i64 0, .int .i64 0, .int .i64 0, .bool false, .bool false, .int .i64 0, .int .i64 0, .int .i64 0] 29 (0, 0))) := (t5.block _ z4 hpq.out.symm).trans g4.out
  have z5 : w.heap.size < w5.heap.size := Nat.lt_of_lt_of_le z4 t5.size
  clear h4 t5 s4 g4 z4
  go_wp2_with fail
  refine (num_r p b _ (k + 1) _ (by omega) h5).mono ?_
  rintro e w6 ⟨rfl, h6, t6⟩
  have s6 := s5.trans t6
  have g6 : Hid (w6.heap[w.heap.size]? = some (.cells #[.int .i64 0, .int .i64 0, .int .i64 0, .bool false, .bool false, .int .i64 0, .int .i64 0, .int .i64 0] 29 (0, 0))) := (t6.block _ z5 hpq.out.symm).trans g5.out
  have z6 : w.heap.size < w6.heap.size := Nat.lt_of_lt_of_le z5 t6.size
  clear h5 t6 s5 g5 z5
  go_wp2_with fail
  refine (num_r p b _ (k + 0) _ (by omega) h6).mono ?_
  rintro e w7 ⟨rfl, h7, t7⟩
  have s7 := s6.trans t7
  have g7 : Hid (w7.heap[w.heap.size]? = some (.cells #[.int .i64 0, .int .i64 0, .int .i64 0, .bool false, .bool false, .int .i64 0, .int .i64 0, .int .i64 0] 29 (0, 0))) := (t7.block _ z6 hpq.out.symm).trans g6.out
  have z7 : w.heap.size < w7.heap.size := Nat.lt_of_lt_of_le z6 t7.size
  clear h6 t7 s6 g6 z6
  go_wp2_with (refine wpList_store_row rfl 29 (.tmp 2) (.tmp 17) rfl w.heap.size #[.int .i64 0, .int .i64 0, .int .i64 0, .bool false, .bool false, .int .i64 0, .int .i64 0, .int .i64 0] rfl rfl 29 #[.int .i64 0, .int .i64 0, .int .i64 0, .bool false, .bool false, .int .i64 0, .int .i64 0, .int .i64 0] g7.out I0.out rfl O0.out ?_)
  refine bodyPost_ret (v := .agg #[.int .i64 0, .int .i64 0, .int .i64 0, .bool false, .bool false, .int .i64 0, .int .i64 0, .int .i64 0]) ?_ rfl ⟨rfl, ?_, ?_⟩
  · exact results_cell_row Tryz.results52 _ _ w.heap.size 29 #[.int .i64 0, .int .i64 0, .int .i64 0, .bool false, .bool false, .int .i64 0, .int .i64 0, .int .i64 0] (0, 0) _ rfl (setRow_heap w7 w.heap.size _ _ 29 _ g7.out) Tryz.underlying29 rfl (by kernel_rfl)
  · exact h7.setRow hpq.out hbq.out _
  · exact s7.setRow (Nat.le_refl _) _


set_option maxHeartbeats 800000 in
theorem plan_r (p b m k : Nat) (w : World) (hm : m = k + 6) (h : RD w p b m) :
    Calls Tryz.prog 55 #[.pointer (some ⟨p, 0, none⟩)] w fun e w' => e = .returned (.agg #[.int .i64 0, .int .i64 0, .int .i64 0, .slice none 0 0, .slice none 0 0, .bool false]) ∧ RD w' p b k ∧ RS w w' p := by
  have hmf : ∀ (fn : Fn) (first cap : Array Value) (w : World), (Instr.makeFunc fn first cap).run Tryz.prog w = .ok (.func fn first cap) w := fun _ _ _ _ => rfl
  have h0 : RD (w.alloc (.cells #[.int .i64 0, .int .i64 0, .int .i64 0, .slice none 0 0, .slice none 0 0, .bool false] 34)) p b m := h.alloc _
  have s0 : RS w (w.alloc (.cells #[.int .i64 0, .int .i64 0, .int .i64 0, .slice none 0 0, .slice none 0 0, .bool false] 34)) p := (RS.refl _ _).alloc _
  have g0 : Hid ((w.alloc (.cells #[.int .i64 0, .int .i64 0, .int .i64 0, .slice none 0 0, .slice none 0 0, .bool false] 34)).heap[w.heap.size]? = some (.cells #[.int .i64 0, .int .i64 0, .int .i64 0, .slice none 0 0, .slice none 0 0, .bool false] 34 (0, 0))) := heap_alloc_new w _
  have z0 : w.heap.size < (w.alloc (.cells #[.int .i64 0, .int .i64 0, .int .i64 0, .slice none 0 0, .slice none 0 0, .bool false] 34)).heap.size := by rw [World.size_alloc]; omega
  have hpq : Hid (p ≠ w.heap.size) := by have := h.1; show p ≠ _; omega
  have hbq : Hid (b ≠ w.heap.size) := by have := h.2.2.1; show b ≠ _; omega
  have HM : Hid (m = k + 6) := hm
  have i0 : (Tryz.prog.info? 34).map (·.size) = some (#[.int .i64 0, .int .i64 0, .int .i64 0, .slice none 0 0, .slice none 0 0, .bool false] : Array Value).size := by kernel_rfl
  have o0 : (#[.int .i64 0, .int .i64 0, .int .i64 0, .slice none 0 0, .slice none 0 0, .bool false] : Array Value).all (·.oneCell') = true := by kernel_rfl
  have I0 : Hid _ := i0
  have O0 : Hid _ := o0
  clear h hm i0 o0
  go_enter Tryz.func55, Tryz.ntmps55
  go_wp2_with fail
  refine (num_r p b _ (k + 5) _ HM.out h0).mono ?_
  rintro e w1 ⟨rfl, h1, t1⟩
  have s1 := s0.trans t1
  have g1 : Hid (w1.heap[w.heap.size]? = some (.cells #[.int .i64 0, .int .i64 0, .int .i64 0, .slice none 0 0, .slice none 0 0, .bool false] 34 (0, 0))) := (t1.block _ z0 hpq.out.symm).trans g0.out
  have z1 : w.heap.size < w1.heap.size := Nat.lt_of_lt_of_le z0 t1.size
  clear h0 t1 s0 g0 z0
  go_wp2_with fail
  refine (num_r p b _ (k + 4) _ (by omega) h1).mono ?_
  rintro e w2 ⟨rfl, h2, t2⟩
  have s2 := s1.trans t2
  have g2 : Hid (w2.heap[w.heap.size]? = some (.cells #[.int .i64 0, .int .i64 0, .int .i64 0, .slice none 0 0, .slice none 0 0, .bool false] 34 (0, 0))) := (t2.block _ z1 hpq.out.symm).trans g1.out
  have z2 : w.heap.size < w2.heap.size := Nat.lt_of_lt_of_le z1 t2.size
  clear h1 t2 s1 g1 z1
  go_wp2_with fail
  refine (num_r p b _ (k + 3) _ (by omega) h2).mono ?_
  rintro e w3 ⟨rfl, h3, t3⟩
  have s3 := s2.trans t3
  have g3 : Hid (w3.heap[w.heap.size]? = some (.cells #[.int .i64 0, .int .i64 0, .int .i64 0, .slice none 0 0, .slice none 0 0, .bool false] 34 (0, 0))) := (t3.block _ z2 hpq.out.symm).trans g2.out
  have z3 : w.heap.size < w3.heap.size := Nat.lt_of_lt_of_le z2 t3.size
  clear h2 t3 s2 g2 z2
  go_wp2_with fail
  refine (listInt_r p b _ (k + 2) _ _ (by omega) h3).mono ?_
  rintro e w4 ⟨rfl, h4, t4⟩
  have s4 := s3.trans t4
  have g4 : Hid (w4.heap[w.heap.size]? = some (.cells #[.int .i64 0, .int .i64 0, .int .i64 0, .slice none 0 0, .slice none 0 0, .bool false] 34 (0, 0))) := (t4.block _ z3 hpq.out.symm).trans g3.out
  have z4 : w.heap.size < w4.heap.size := Nat.lt_of_lt_of_le z3 t4.size
  clear h3 t4 s3 g3 z3
  go_wp2_with fail
  refine (listAlloc_r p b _ (k + 1) _ _ (by omega) h4).mono ?_
  rintro e w5 ⟨rfl, h5, t5⟩
  have s5 := s4.trans t5
  have g5 : Hid (w5.heap[w.heap.size]? = some (.cells #[.int .i64 0, .int .i64 0, .int .i64 0, .slice none 0 0, .slice none 0 0, .bool false] 34 (0, 0))) := (t5.block _ z4 hpq.out.symm).trans g4.out
  have z5 : w.heap.size < w5.heap.size := Nat.lt_of_lt_of_le z4 t5.size
  clear h4 t5 s4 g4 z4
  go_wp2_with fail
  refine (truth_r p b _ (k + 0) _ (by omega) h5).mono ?_
  rintro e w6 ⟨rfl, h6, t6⟩
  have s6 := s5.trans t6
  have g6 : Hid (w6.heap[w.heap.size]? = some (.cells #[.int .i64 0, .int .i64 0, .int .i64 0, .slice none 0 0, .slice none 0 0, .bool false] 34 (0, 0))) := (t6.block _ z5 hpq.out.symm).trans g5.out
  have z6 : w.heap.size < w6.heap.size := Nat.lt_of_lt_of_le z5 t6.size
  clear h5 t6 s5 g5 z5
  go_wp2_with (refine wpList_store_row rfl 34 (.tmp 2) (.tmp 19) rfl w.heap.size #[.int .i64 0, .int .i64 0, .int .i64 0, .slice none 0 0, .slice none 0 0, .bool false] rfl rfl 34 #[.int .i64 0, .int .i64 0, .int .i64 0, .slice none 0 0, .slice none 0 0, .bool false] g6.out I0.out rfl O0.out ?_)
  refine bodyPost_ret (v := .agg #[.int .i64 0, .int .i64 0, .int .i64 0, .slice none 0 0, .slice none 0 0, .bool false]) ?_ rfl ⟨rfl, ?_, ?_⟩
  · exact results_cell_row Tryz.results55 _ _ w.heap.size 34 #[.int .i64 0, .int .i64 0, .int .i64 0, .slice none 0 0, .slice none 0 0, .bool false] (0, 0) _ rfl (setRow_heap w6 w.heap.size _ _ 34 _ g6.out) Tryz.underlying34 rfl (by kernel_rfl)
  · exact h6.setRow hpq.out hbq.out _
  · exact s6.setRow (Nat.le_refl _) _


set_option maxHeartbeats 800000 in
theorem conf_r (p b m k : Nat) (w : World) (hm : m = k + 2) (h : RD w p b m) :
    Calls Tryz.prog 56 #[.pointer (some ⟨p, 0, none⟩)] w fun e w' => e = .returned (.agg #[.slice none 0 0, .slice none 0 0]) ∧ RD w' p b k ∧ RS w w' p := by
  have hmf : ∀ (fn : Fn) (first cap : Array Value) (w : World), (Instr.makeFunc fn first cap).run Tryz.prog w = .ok (.func fn first cap) w := fun _ _ _ _ => rfl
  have h0 : RD (w.alloc (.cells #[.slice none 0 0, .slice none 0 0] 36)) p b m := h.alloc _
  have s0 : RS w (w.alloc (.cells #[.slice none 0 0, .slice none 0 0] 36)) p := (RS.refl _ _).alloc _
  have g0 : Hid ((w.alloc (.cells #[.slice none 0 0, .slice none 0 0] 36)).heap[w.heap.size]? = some (.cells #[.slice none 0 0, .slice none 0 0] 36 (0, 0))) := heap_alloc_new w _
  have z0 : w.heap.size < (w.alloc (.cells #[.slice none 0 0, .slice none 0 0] 36)).heap.size := by rw [World.size_alloc]; omega
  have hpq : Hid (p ≠ w.heap.size) := by have := h.1; show p ≠ _; omega
  have hbq : Hid (b ≠ w.heap.size) := by have := h.2.2.1; show b ≠ _; omega
  have HM : Hid (m = k + 2) := hm
  have i0 : (Tryz.prog.info? 36).map (·.size) = some (#[.slice none 0 0, .slice none 0 0] : Array Value).size := by kernel_rfl
  have o0 : (#[.slice none 0 0, .slice none 0 0] : Array Value).all (·.oneCell') = true := by kernel_rfl
  have I0 : Hid _ := i0
  have O0 : Hid _ := o0
  clear h hm i0 o0
  go_enter Tryz.func56, Tryz.ntmps56
  go_wp2_with fail
  refine (listInt_r p b _ (k + 1) _ _ HM.out h0).mono ?_
  rintro e w1 ⟨rfl, h1, t1⟩
  have s1 := s0.trans t1
  have g1 : Hid (w1.heap[w.heap.size]? = some (.cells #[.slice none 0 0, .slice none 0 0] 36 (0, 0))) := (t1.block _ z0 hpq.out.symm).trans g0.out
  have z1 : w.heap.size < w1.heap.size := Nat.lt_of_lt_of_le z0 t1.size
  clear h0 t1 s0 g0 z0
  go_wp2_with fail
  refine (listInt_r p b _ (k + 0) _ _ (by omega) h1).mono ?_
  rintro e w2 ⟨rfl, h2, t2⟩
  have s2 := s1.trans t2
  have g2 : Hid (w2.heap[w.heap.size]? = some (.cells #[.slice none 0 0, .slice none 0 0] 36 (0, 0))) := (t2.block _ z1 hpq.out.symm).trans g1.out
  have z2 : w.heap.size < w2.heap.size := Nat.lt_of_lt_of_le z1 t2.size
  clear h1 t2 s1 g1 z1
  go_wp2_with (refine wpList_store_row rfl 36 (.tmp 2) (.tmp 11) rfl w.heap.size #[.slice none 0 0, .slice none 0 0] rfl rfl 36 #[.slice none 0 0, .slice none 0 0] g2.out I0.out rfl O0.out ?_)
  refine bodyPost_ret (v := .agg #[.slice none 0 0, .slice none 0 0]) ?_ rfl ⟨rfl, ?_, ?_⟩
  · exact results_cell_row Tryz.results56 _ _ w.heap.size 36 #[.slice none 0 0, .slice none 0 0] (0, 0) _ rfl (setRow_heap w2 w.heap.size _ _ 36 _ g2.out) Tryz.underlying36 rfl (by kernel_rfl)
  · exact h2.setRow hpq.out hbq.out _
  · exact s2.setRow (Nat.le_refl _) _


set_option maxHeartbeats 800000 in
theorem cmd_r (p b m k : Nat) (w : World) (hm : m = k + 27) (h : RD w p b m) :
    Calls Tryz.prog 22 #[.pointer (some ⟨p, 0, none⟩)] w fun e w' => e = .returned (.agg #[.int .i64 0, .int .i64 0, .int .i64 0, .int .i64 0, .int .i64 0, .int .i64 0, .int .i64 0, .slice none 0 0, .int .i64 0, .bool false, .int .i64 0, .int .i64 0, .int .i64 0, .bool false, .bool false, .int .i64 0, .int .i64 0, .int .i64 0, .slice none 0 0, .int .i64 0, .int .i64 0, .int .i64 0, .slice none 0 0, .slice none 0 0, .bool false, .slice none 0 0, .slice none 0 0]) ∧ RD w' p b k ∧ RS w w' p := by
  have hmf : ∀ (fn : Fn) (first cap : Array Value) (w : World), (Instr.makeFunc fn first cap).run Tryz.prog w = .ok (.func fn first cap) w := fun _ _ _ _ => rfl
  have h0 : RD (w.alloc (.cells #[.int .i64 0, .int .i64 0, .int .i64 0, .int .i64 0, .int .i64 0, .int .i64 0, .int .i64 0, .slice none 0 0, .int .i64 0, .bool false, .int .i64 0, .int .i64 0, .int .i64 0, .bool false, .bool false, .int .i64 0, .int .i64 0, .int .i64 0, .slice none 0 0, .int .i64 0, .int .i64 0, .int .i64 0, .slice none 0 0, .slice none 0 0, .bool false, .slice none 0 0, .slice none 0 0] 38)) p b m := h.alloc _
  have s0 : RS w (w.alloc (.cells #[.int .i64 0, .int .i64 0, .int .i64 0, .int .i64 0, .int .i64 0, .int .i64 0, .int .i64 0, .slice none 0 0, .int .i64 0, .bool false, .int .i64 0, .int .i64 0, .int .i64 0, .bool false, .bool false, .int .i64 0, .int .i64 0, .int .i64 0, .slice none 0 0, .int .i64 0, .int .i64 0, .int .i64 0, .slice none 0 0, .slice none 0 0, .bool false, .slice none 0 0, .slice none 0 0] 38)) p := (RS.refl _ _).alloc _
  have g0 : Hid ((w.alloc (.cells #[.int .i64 0, .int .i64 0, .int .i64 0, .int .i64 0, .int .i64 0, .int .i64 0, .int .i64 0, .slice none 0 0, .int .i64 0, .bool false, .int .i64 0, .int .i64 0, .int .i64 0, .bool false, .bool false, .int .i64 0, .int .i64 0, .int .i64 0, .slice none 0 0, .int .i64 0, .int .i64 0, .int .i64 0, .slice none 0 0, .slice none 0 0, .bool false, .slice none 0 0, .slice none 0 0] 38)).heap[w.heap.size]? = some (.cells #[.int .i64 0, .int .i64 0, .int .i64 0, .int .i64 0, .int .i64 0, .int .i64 0, .int .i64 0, .slice none 0 0, .int .i64 0, .bool false, .int .i64 0, .int .i64 0, .int .i64 0, .bool false, .bool false, .int .i64 0, .int .i64 0, .int .i64 0, .slice none 0 0, .int .i64 0, .int .i64 0, .int .i64 0, .slice none 0 0, .slice none 0 0, .bool false, .slice none 0 0, .slice none 0 0] 38 (0, 0))) := heap_alloc_new w _
  have z0 : w.heap.size < (w.alloc (.cells #[.int .i64 0, .int .i64 0, .int .i64 0, .int .i64 0, .int .i64 0, .int .i64 0, .int .i64 0, .slice none 0 0, .int .i64 0, .bool false, .int .i64 0, .int .i64 0, .int .i64 0, .bool false, .bool false, .int .i64 0, .int .i64 0, .int .i64 0, .slice none 0 0, .int .i64 0, .int .i64 0, .int .i64 0, .slice none 0 0, .slice none 0 0, .bool false, .slice none 0 0, .slice none 0 0] 38)).heap.size := by rw [World.size_alloc]; omega
  have hpq : Hid (p ≠ w.heap.size) := by have := h.1; show p ≠ _; omega
  have hbq : Hid (b ≠ w.heap.size) := by have := h.2.2.1; show b ≠ _; omega
  have HM : Hid (m = k + 27) := hm
  have i0 : (Tryz.prog.info? 38).map (·.size) = some (#[.int .i64 0, .int .i64 0, .int .i64 0, .int .i64 0, .int .i64 0, .int .i64 0, .int .i64 0, .slice none 0 0, .int .i64 0, .bool false, .int .i64 0, .int .i64 0, .int .i64 0, .bool false, .bool false, .int .i64 0, .int .i64 0, .int .i64 0, .slice none 0 0, .int .i64 0, .int .i64 0, .int .i64 0, .slice none 0 0, .slice none 0 0, .bool false, .slice none 0 0, .slice none 0 0] : Array Value).size := by kernel_rfl
  have o0 : (#[.int .i64 0, .int .i64 0, .int .i64 0, .int .i64 0, .int .i64 0, .int .i64 0, .int .i64 0, .slice none 0 0, .int .i64 0, .bool false, .int .i64 0, .int .i64 0, .int .i64 0, .bool false, .bool false, .int .i64 0, .int .i64 0, .int .i64 0, .slice none 0 0, .int .i64 0, .int .i64 0, .int .i64 0, .slice none 0 0, .slice none 0 0, .bool false, .slice none 0 0, .slice none 0 0] : Array Value).all (·.oneCell') = true := by kernel_rfl
  have I0 : Hid _ := i0
  have O0 : Hid _ := o0
  clear h hm i0 o0
  go_enter Tryz.func22, Tryz.ntmps22
  go_wp2_with fail
  refine (num_r p b _ (k + 26) _ HM.out h0).mono ?_
  rintro e w1 ⟨rfl, h1, t1⟩
  have s1 := s0.trans t1
  have g1 : Hid (w1.heap[w.heap.size]? = some (.cells #[.int .i64 0, .int .i64 0, .int .i64 0, .int .i64 0, .int .i64 0, .int .i64 0, .int .i64 0, .slice none 0 0, .int .i64 0, .bool false, .int .i64 0, .int .i64 0, .int .i64 0, .bool false, .bool false, .int .i64 0, .int .i64 0, .int .i64 0, .slice none 0 0, .int .i64 0, .int .i64 0, .int .i64 0, .slice none 0 0, .slice none 0 0, .bool false, .slice none 0 0, .slice none 0 0] 38 (0, 0))) := (t1.block _ z0 hpq.out.symm).trans g0.out
  have z1 : w.heap.size < w1.heap.size := Nat.lt_of_lt_of_le z0 t1.size
  clear h0 t1 s0 g0 z0
  go_wp2_with fail
  refine (num_r p b _ (k + 25) _ (by omega) h1).mono ?_
  rintro e w2 ⟨rfl, h2, t2⟩
  have s2 := s1.trans t2
  have g2 : Hid (w2.heap[w.heap.size]? = some (.cells #[.int .i64 0, .int .i64 0, .int .i64 0, .int .i64 0, .int .i64 0, .int .i64 0, .int .i64 0, .slice none 0 0, .int .i64 0, .bool false, .int .i64 0, .int .i64 0, .int .i64 0, .bool false, .bool false, .int .i64 0, .int .i64 0, .int .i64 0, .slice none 0 0, .int .i64 0, .int .i64 0, .int .i64 0, .slice none 0 0, .slice none 0 0, .bool false, .slice none 0 0, .slice none 0 0] 38 (0, 0))) := (t2.block _ z1 hpq.out.symm).trans g1.out
  have z2 : w.heap.size < w2.heap.size := Nat.lt_of_lt_of_le z1 t2.size
  clear h1 t2 s1 g1 z1
  go_wp2_with fail
  refine (num_r p b _ (k + 24) _ (by omega) h2).mono ?_
  rintro e w3 ⟨rfl, h3, t3⟩
  have s3 := s2.trans t3
  have g3 : Hid (w3.heap[w.heap.size]? = some (.cells #[.int .i64 0, .int .i64 0, .int .i64 0, .int .i64 0, .int .i64 0, .int .i64 0, .int .i64 0, .slice none 0 0, .int .i64 0, .bool false, .int .i64 0, .int .i64 0, .int .i64 0, .bool false, .bool false, .int .i64 0, .int .i64 0, .int .i64 0, .slice none 0 0, .int .i64 0, .int .i64 0, .int .i64 0, .slice none 0 0, .slice none 0 0, .bool false, .slice none 0 0, .slice none 0 0] 38 (0, 0))) := (t3.block _ z2 hpq.out.symm).trans g2.out
  have z3 : w.heap.size < w3.heap.size := Nat.lt_of_lt_of_le z2 t3.size
  clear h2 t3 s2 g2 z2
  go_wp2_with fail
  refine (job_r p b _ (k + 17) _ (by omega) h3).mono ?_
  rintro e w4 ⟨rfl, h4, t4⟩
  have s4 := s3.trans t4
  have g4 : Hid (w4.heap[w.heap.size]? = some (.cells #[.int .i64 0, .int .i64 0, .int .i64 0, .int .i64 0, .int .i64 0, .int .i64 0, .int .i64 0, .slice none 0 0, .int .i64 0, .bool false, .int .i64 0, .int .i64 0, .int .i64 0, .bool false, .bool false, .int .i64 0, .int .i64 0, .int .i64 0, .slice none 0 0, .int .i64 0, .int .i64 0, .int .i64 0, .slice none 0 0, .slice none 0 0, .bool false, .slice none 0 0, .slice none 0 0] 38 (0, 0))) := (t4.block _ z3 hpq.out.symm).trans g3.out
  have z4 : w.heap.size < w4.heap.size := Nat.lt_of_lt_of_le z3 t4.size
  clear h3 t4 s3 g3 z3
  go_wp2_with fail
  refine (node_r p b _ (k + 9) _ (by omega) h4).mono ?_
  rintro e w5 ⟨rfl, h5, t5⟩
  have s5 := s4.trans t5
  have g5 : Hid (w5.heap[w.heap.size]? = some (.cells #[.int .i64 0, .int .i64 0, .int .i64 0, .int .i64 0, .int .i64 0, .int .i64 0, .int .i64 0, .slice none 0 0, .int .i64 0, .bool false, .int .i64 0, .int .i64 0, .int .i64 0, .bool false, .bool false, .int .i64 0, .int .i64 0, .int .i64 0, .slice none 0 0, .int .i64 0, .int .i64 0, .int .i64 0, .slice none 0 0, .slice none 0 0, .bool false, .slice none 0 0, .slice none 0 0] 38 (0, 0))) := (t5.block _ z4 hpq.out.symm).trans g4.out
  have z5 : w.heap.size < w5.heap.size := Nat.lt_of_lt_of_le z4 t5.size
  clear h4 t5 s4 g4 z4
  go_wp2_with fail
  refine (listReport_r p b _ (k + 8) _ _ (by omega) h5).mono ?_
  rintro e w6 ⟨rfl, h6, t6⟩
  have s6 := s5.trans t6
  have g6 : Hid (w6.heap[w.heap.size]? = some (.cells #[.int .i64 0, .int .i64 0, .int .i64 0, .int .i64 0, .int .i64 0, .int .i64 0, .int .i64 0, .slice none 0 0, .int .i64 0, .bool false, .int .i64 0, .int .i64 0, .int .i64 0, .bool false, .bool false, .int .i64 0, .int .i64 0, .int .i64 0, .slice none 0 0, .int .i64 0, .int .i64 0, .int .i64 0, .slice none 0 0, .slice none 0 0, .bool false, .slice none 0 0, .slice none 0 0] 38 (0, 0))) := (t6.block _ z5 hpq.out.symm).trans g5.out
  have z6 : w.heap.size < w6.heap.size := Nat.lt_of_lt_of_le z5 t6.size
  clear h5 t6 s5 g5 z5
  go_wp2_with fail
  refine (plan_r p b _ (k + 2) _ (by omega) h6).mono ?_
  rintro e w7 ⟨rfl, h7, t7⟩
  have s7 := s6.trans t7
  have g7 : Hid (w7.heap[w.heap.size]? = some (.cells #[.int .i64 0, .int .i64 0, .int .i64 0, .int .i64 0, .int .i64 0, .int .i64 0, .int .i64 0, .slice none 0 0, .int .i64 0, .bool false, .int .i64 0, .int .i64 0, .int .i64 0, .bool false, .bool false, .int .i64 0, .int .i64 0, .int .i64 0, .slice none 0 0, .int .i64 0, .int .i64 0, .int .i64 0, .slice none 0 0, .slice none 0 0, .bool false, .slice none 0 0, .slice none 0 0] 38 (0, 0))) := (t7.block _ z6 hpq.out.symm).trans g6.out
  have z7 : w.heap.size < w7.heap.size := Nat.lt_of_lt_of_le z6 t7.size
  clear h6 t7 s6 g6 z6
  go_wp2_with fail
  refine (conf_r p b _ (k + 0) _ (by omega) h7).mono ?_
  rintro e w8 ⟨rfl, h8, t8⟩
  have s8 := s7.trans t8
  have g8 : Hid (w8.heap[w.heap.size]? = some (.cells #[.int .i64 0, .int .i64 0, .int .i64 0, .int .i64 0, .int .i64 0, .int .i64 0, .int .i64 0, .slice none 0 0, .int .i64 0, .bool false, .int .i64 0, .int .i64 0, .int .i64 0, .bool false, .bool false, .int .i64 0, .int .i64 0, .int .i64 0, .slice none 0 0, .int .i64 0, .int .i64 0, .int .i64 0, .slice none 0 0, .slice none 0 0, .bool false, .slice none 0 0, .slice none 0 0] 38 (0, 0))) := (t8.block _ z7 hpq.out.symm).trans g7.out
  have z8 : w.heap.size < w8.heap.size := Nat.lt_of_lt_of_le z7 t8.size
  clear h7 t8 s7 g7 z7
  go_wp2_with (refine wpList_store_row rfl 38 (.tmp 2) (.tmp 21) rfl w.heap.size #[.int .i64 0, .int .i64 0, .int .i64 0, .int .i64 0, .int .i64 0, .int .i64 0, .int .i64 0, .slice none 0 0, .int .i64 0, .bool false, .int .i64 0, .int .i64 0, .int .i64 0, .bool false, .bool false, .int .i64 0, .int .i64 0, .int .i64 0, .slice none 0 0, .int .i64 0, .int .i64 0, .int .i64 0, .slice none 0 0, .slice none 0 0, .bool false, .slice none 0 0, .slice none 0 0] rfl rfl 38 #[.int .i64 0, .int .i64 0, .int .i64 0, .int .i64 0, .int .i64 0, .int .i64 0, .int .i64 0, .slice none 0 0, .int .i64 0, .bool false, .int .i64 0, .int .i64 0, .int .i64 0, .bool false, .bool false, .int .i64 0, .int .i64 0, .int .i64 0, .slice none 0 0, .int .i64 0, .int .i64 0, .int .i64 0, .slice none 0 0, .slice none 0 0, .bool false, .slice none 0 0, .slice none 0 0] g8.out I0.out rfl O0.out ?_)
  refine bodyPost_ret (v := .agg #[.int .i64 0, .int .i64 0, .int .i64 0, .int .i64 0, .int .i64 0, .int .i64 0, .int .i64 0, .slice none 0 0, .int .i64 0, .bool false, .int .i64 0, .int .i64 0, .int .i64 0, .bool false, .bool false, .int .i64 0, .int .i64 0, .int .i64 0, .slice none 0 0, .int .i64 0, .int .i64 0, .int .i64 0, .slice none 0 0, .slice none 0 0, .bool false, .slice none 0 0, .slice none 0 0]) ?_ rfl ⟨rfl, ?_, ?_⟩
  · exact results_cell_row Tryz.results22 _ _ w.heap.size 38 #[.int .i64 0, .int .i64 0, .int .i64 0, .int .i64 0, .int .i64 0, .int .i64 0, .int .i64 0, .slice none 0 0, .int .i64 0, .bool false, .int .i64 0, .int .i64 0, .int .i64 0, .bool false, .bool false, .int .i64 0, .int .i64 0, .int .i64 0, .slice none 0 0, .int .i64 0, .int .i64 0, .int .i64 0, .slice none 0 0, .slice none 0 0, .bool false, .slice none 0 0, .slice none 0 0] (0, 0) _ rfl (setRow_heap w8 w.heap.size _ _ 38 _ g8.out) Tryz.underlying38 rfl (by kernel_rfl)
  · exact h8.setRow hpq.out hbq.out _
  · exact s8.setRow (Nat.le_refl _) _

end Go.Proofs.YtpbokgeaolpiaabGreat

/- What GetCmd returns for 27 zero bytes: the zero command, and true. -/
namespace Go.Proofs.YtpbokgeaolpiaabGreat
open Go.RowKit

theorem alloc50 (w : World) : (Instr.alloc 38 true (.tuple #[])).run Tryz.prog w = .ok (.pointer (some ⟨w.heap.size, 0, none⟩)) (w.alloc (.cells Zcmd 38)) := by kernel_rfl

theorem cmd_rz (p b m k : Nat) (w : World) (hm : m = k + 27) (h : RD w p b m) : Calls Tryz.prog 22 #[.pointer (some ⟨p, 0, none⟩)] w fun e w' => e = .returned (.agg Zcmd) ∧ RD w' p b k ∧ RS w w' p := cmd_r p b m k w hm h

theorem Zi : (Tryz.prog.info? 38).map (·.size) = some Zcmd.size := by kernel_rfl
theorem Zo : Zcmd.all (·.oneCell') = true := by kernel_rfl

theorem wpList_store_rowF {ops : Array Oper} {rest : List Oper} {o : Oper} {a : Act} {w : World} {Q : Exit → Act → World → Prop} (hgd : o.guard = none) (ty : TypeId) (x y : Operand) (ho : o.op = .store ty x y)
    (g : Nat) (cells : Array Value) (hx : a.eval x = .pointer (some ⟨g, 0, none⟩)) (hy : a.eval y = .agg cells)
    (t : TypeId) (old : Array Value) (hg : w.heap[g]? = some (.cells old t (0, 0))) (hi : (Tryz.prog.info? ty).map (·.size) = some cells.size)
    (hold : old.size = cells.size) (h1 : cells.all (·.oneCell') = true)
    (h : ∀ w2, Hid (w2 = w.setRow g cells) → wpList Tryz.prog ops Q rest (a.put o.dst undef) w2) : wpList Tryz.prog ops Q (o :: rest) a w :=
  wpList_store_row hgd ty x y ho g cells hx hy t old hg hi hold h1 (h _ rfl)

set_option maxHeartbeats 400000 in
theorem whole_z (p b : Nat) (w : World) (h : RD w p b 27) :
    Calls Tryz.prog 21 #[.pointer (some ⟨p, 0, none⟩), .func (.func 22) #[.pointer (some ⟨p, 0, none⟩)] #[]] w fun e w' => e = .returned (.tuple #[.agg Zcmd, .bool true]) ∧ RS w w' p := by
  have h0 : RD (w.alloc (.cells Zcmd 38)) p b 27 := h.alloc _
  have g0 : Hid ((w.alloc (.cells Zcmd 38)).heap[w.heap.size]? = some (.cells Zcmd 38 (0, 0))) := heap_alloc_new w _
  have z0 : Hid (w.heap.size < (w.alloc (.cells Zcmd 38)).heap.size) := by show _ < _; rw [World.size_alloc]; omega
  have s0 : RS w (w.alloc (.cells Zcmd 38)) p := (RS.refl _ _).alloc _
  have hpq : Hid (p ≠ w.heap.size) := by have := h.1; show p ≠ _; omega
  have hbq : Hid (b ≠ w.heap.size) := by have := h.2.2.1; show b ≠ _; omega
  clear h
  go_enter Tryz.func21, Tryz.ntmps21
  go_wp2_with fail
  refine (cmd_rz p b _ 0 _ rfl h0).mono ?_
  rintro e w1 ⟨rfl, h1, t1⟩
  have s1 := s0.trans t1
  have g1 : Hid (w1.heap[w.heap.size]? = some (.cells Zcmd 38 (0, 0))) := (t1.block _ z0.out hpq.out.symm).trans g0.out
  have z1 : w.heap.size < w1.heap.size := Nat.lt_of_lt_of_le z0.out t1.size
  clear g0 z0 s0 t1 h0
  go_wp2_with (refine wpList_store_rowF rfl 38 (.tmp 6) (.tmp 9) rfl w1.heap.size Zcmd rfl rfl 38 _ (heap_alloc_new w1 _) Zi rfl Zo ?next)
  case next =>
    intro w2 hw2h
    have hw2 := hw2h.out
    have h2 : RD w2 p b 0 := by rw [hw2]; exact (h1.alloc _).setRow (by have := h1.1; omega) (by have := h1.2.2.1; omega) _
    have s2 : RS w w2 p := by rw [hw2]; exact (s1.alloc _).setRow (by omega) _
    have g2 : Hid (w2.heap[w.heap.size]? = some (.cells Zcmd 38 (0, 0))) := by
      show _ = _
      rw [hw2, setRow_other _ _ _ _ (by omega), Below.heap_alloc _ _ _ z1]; exact g1.out
    have k2 : Hid (w2.heap[w1.heap.size]? = some (.cells Zcmd 38 (0, 0))) := by
      show _ = _
      rw [hw2]; exact setRow_heap _ _ _ _ 38 _ (heap_alloc_new w1 _)
    clear hw2 hw2h g1 h1 s1
    have H2 := h2
    obtain ⟨_, _, _, a, cap, c0, c1, _, _, _, _, _⟩ := h2
    go_wp2_with (first
      | (refine wpList_load_row rfl 38 (.tmp 6) rfl w1.heap.size rfl 38 Zcmd (0, 0) _ k2.out Tryz.underlying38 rfl Zi ?_)
      | (refine wpList_store_rowF rfl 38 (.tmp 4) (.tmp 23) rfl w.heap.size Zcmd rfl rfl 38 Zcmd g2.out Zi rfl Zo ?next2))
    case next2 =>
      intro w3 hw3h
      have hw3 := hw3h.out
      have s3 : RS w w3 p := by rw [hw3]; exact s2.setRow (Nat.le_refl _) _
      have g3 : Hid (w3.heap[w.heap.size]? = some (.cells Zcmd 38 (0, 0))) := by
        show _ = _
        rw [hw3]; exact setRow_heap _ _ Zcmd _ 38 _ g2.out
      clear hw3 hw3h
      go_wp2
      refine bodyPost_ret (v := .tuple #[.agg Zcmd, .bool true]) ?_ rfl ⟨rfl, s3⟩
      simp [results, Tryz.results21, asAddr, run_loadVar_row w3 w.heap.size 38 38 Zcmd (0, 0) _ g3.out Tryz.underlying38 rfl Zi]

theorem bat_zs (k j : Nat) : bat (zs k) j = 0 := by
  unfold bat bn zs
  rw [List.getD_eq_getElem?_getD, List.getElem?_replicate]
  split <;> rfl

theorem rd_new (w : World) (g cap n : Nat) (hn : n = w.heap.size) (h : Own w (.slice (some ⟨g, 0, none⟩) 27 cap) (zs 27)) :
    RD (w.alloc (.cells #[.slice (some ⟨g, 0, none⟩) 27 cap, .bool false] 77)) n g 27 := by
  subst hn
  have hg := h.lt g rfl
  obtain ⟨a, c, e, hb⟩ := h.form
  rw [zs_length] at e hb
  cases e
  obtain ⟨b, off, e, hlt, hc⟩ := (hb (by omega)).2 (by simp [zs])
  cases e
  have hcap : 27 ≤ cap := by
    rcases h with ⟨h, _⟩ | ⟨g', cap', cur, h, _, hl, _⟩
    · cases h
    · rw [zs_length] at h hl; cases h; exact hl
  refine ⟨by simp, by omega, by simp; omega, some ⟨g, 0, none⟩, cap, ?_, ?_, ?_, ?_, hcap, by omega, fun _ => ⟨0, rfl, fun j hj => ?_⟩⟩
  · rw [World.cell?_alloc_at _ _ _ _ rfl]; rfl
  · rw [World.cell?_alloc_at _ _ _ _ rfl]; rfl
  · exact World.frozen?_alloc_at _ _ _ _ rfl
  · exact World.frozen?_alloc_at _ _ _ _ rfl
  · rw [World.cell?_alloc_past _ _ _ hlt, hc j (by rw [zs_length]; exact hj), bat_zs]

set_option maxHeartbeats 400000 in
theorem getCmd_z (v : Value) (w : World) (h : Own w v (zs 27)) :
    Calls Tryz.prog 4 #[v] w fun e w' => e = .returned (.tuple #[.agg Zcmd, .bool true]) ∧ Below w.heap.size w w' := by
  have hmf : ∀ (fn : Fn) (first cap : Array Value) (w : World), (Instr.makeFunc fn first cap).run Tryz.prog w = .ok (.func fn first cap) w := fun _ _ _ _ => rfl
  obtain ⟨g, cap, hv⟩ : ∃ g cap, v = .slice (some ⟨g, 0, none⟩) 27 cap := by
    rcases h with ⟨_, h⟩ | ⟨g, cap, cur, h, _⟩
    · simp [zs] at h
    · exact ⟨g, cap, h⟩
  subst hv
  have g0 : Hid ((w.alloc (.cells Zcmd 38)).heap[w.heap.size]? = some (.cells Zcmd 38 (0, 0))) := heap_alloc_new w _
  have h0 := rd_new (w.alloc (.cells Zcmd 38)) g cap (w.heap.size + 1) (by rw [World.size_alloc]) (h.alloc _)
  go_enter Tryz.func4, Tryz.ntmps4
  go_wp2_with fail
  refine (whole_z (w.heap.size + 1) g _ h0).mono ?_
  rintro e w1 ⟨rfl, s1⟩
  have hB : Below w.heap.size w w1 :=
    Below.trans (((Below.refl _ _).alloc (Nat.le_refl _) (.cells Zcmd 38)).alloc (by rw [World.size_alloc]; omega) _) ⟨s1.os, s1.tape, s1.output, s1.size, fun k hk => s1.block k (by simp; omega) (by omega)⟩
  have g1 : Hid (w1.heap[w.heap.size]? = some (.cells Zcmd 38 (0, 0))) := by
    show _ = _
    rw [s1.block _ (by simp; omega) (by omega), Below.heap_alloc _ _ _ (by rw [World.size_alloc]; omega)]; exact g0.out
  clear s1 g0 h0
  go_wp2_with (refine wpList_store_rowF rfl 38 (.tmp 2) (.tmp 12) rfl w.heap.size Zcmd rfl rfl 38 _ g1.out Zi rfl Zo ?next)
  case next =>
    intro w2 hw2h
    have hw2 := hw2h.out
    have g2 : Hid (w2.heap[w.heap.size]? = some (.cells Zcmd 38 (0, 0))) := by
      show _ = _
      rw [hw2]; exact setRow_heap _ _ _ _ 38 _ g1.out
    have hB2 : Below w.heap.size w w2 := by
      rw [hw2]; exact hB.trans ⟨rfl, rfl, rfl, by simp [World.setRow], fun k hk => setRow_other _ _ _ _ (by omega)⟩
    clear hw2 hw2h
    go_wp2
    refine bodyPost_ret (v := .tuple #[.agg Zcmd, .bool true]) ?_ rfl ⟨rfl, hB2⟩
    simp [results, Tryz.results4, asAddr, run_loadVar_row w2 w.heap.size 38 38 Zcmd (0, 0) _ g2.out Tryz.underlying38 rfl Zi]
end Go.Proofs.YtpbokgeaolpiaabGreat
