/- What Unframe returns: the five answers that the document asks, the body in a row of its own. -/
import Derived.Test.YtcdoejdbmllnnabGreatFram
namespace Go.Proofs.YtcdoejdbmllnnabGreat
open Go.RowKit

structure Five where
  kind : Int
  place : Int
  body : List UInt8
  used : Int
  err : Int
def uK (l : List UInt8) : Nat := hi ((l.drop 4).take 1)
def uP (l : List UInt8) : Nat := hi ((l.drop 5).take 6)
def uN (l : List UInt8) : Nat := hi (l.take 4)
def unf (l : List UInt8) : Five :=
  if l.length < 11 then ⟨0, 0, [], 0, 0⟩
  else if 1048576 < uN l ∨ 1099511627776 < uP l then ⟨0, 0, [], 0, 10⟩
  else if l.length < 11 + uN l + 4 then ⟨0, 0, [], 0, 0⟩
  else if (l.drop (11 + uN l)).take 4 ≠ lo4 (nsum (l.take (11 + uN l))) then ⟨0, 0, [], 0, 10⟩
  else ⟨uK l, uP l, (l.drop 11).take (uN l), ((11 + uN l + 4 : Nat) : Int), 0⟩

def Told5 (w w' : World) (e : Ending) (r : Five) : Prop :=
  ∃ v, e = .returned (.tuple #[.int .i64 r.kind, .int .i64 r.place, v, .int .i64 r.used, .int .i64 r.err]) ∧ Own w' v r.body ∧ Stp w w' none v.ownBlock
theorem told_zero (w : World) (x : Int) (n : Nat) : Told5 w (w.drewN n) (.returned (.tuple #[.int .i64 0, .int .i64 0, .slice none 0 0, .int .i64 0, .int .i64 x])) ⟨0, 0, [], 0, x⟩ :=
  ⟨_, rfl, .inl ⟨rfl, rfl⟩, (Stp.refl _ _).drewN n⟩

theorem Tryz.elem22 : Tryz.prog.underlying 32 = some (.slice (Tryz.prog.elem 32)) := by kernel_rfl
theorem Tryz.size5 (w : World) : (sizeOf (Tryz.prog.elem 32)).run Tryz.prog w = .ok 1 w := by
  obtain ⟨i, hi, hz0, hz1, hz2⟩ := info_parts Tryz.info5
  have e : Tryz.prog.elem 32 = 5 := by kernel_rfl
  rw [e]
  simp [sizeOf, typeInfo, hi, hz1]
theorem slice_lh (b off n cap lo hi' m : Nat) (x y : Int) (hx : x = lo) (hy : y = hi') (h1 : lo ≤ hi') (h2 : hi' ≤ cap) (h3 : lo < cap) (hm : m = hi' - lo) (w : World) :
    (Instr.slice 32 (.slice (some ⟨b, off, none⟩) n cap) (some (.int .i64 x)) (some (.int .i64 y)) none).run Tryz.prog w = .ok (.slice (some ⟨b, off + lo, none⟩) m (cap - lo)) w := by
  subst hx; subst hy; subst hm
  rw [run_slice_lh (P := Tryz.prog) w 32 _ n cap Tryz.elem22 .i64 .i64 lo hi' (by omega) (by omega) (by omega), Tryz.size5]
  simp only [Result.andThen_ok, sliced, Int.toNat_natCast]
  rw [if_neg (by omega)]
  simp [Addr.add_lit]
theorem slice_h (a : Option Addr) (n cap hi' : Nat) (y : Int) (hy : y = hi') (h2 : hi' ≤ cap) (w : World) :
    (Instr.slice 32 (.slice a n cap) none (some (.int .i64 y)) none).run Tryz.prog w = .ok (.slice a hi' cap) w := by
  subst hy
  rw [run_slice_h (P := Tryz.prog) w 32 _ n cap Tryz.elem22 .i64 hi' (by omega) (by omega), Tryz.size5]
  simp only [Result.andThen_ok, sliced, Int.toNat_natCast]
  cases a with
  | none => simp
  | some a => simp; cases a; simp [Addr.add]

end Go.Proofs.YtcdoejdbmllnnabGreat
