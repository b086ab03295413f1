/- What Frame returns: the bytes of the frame in a row of its own, or ErrArg. -/
import Derived.Test.YtcdoejdbmllnnabGreatApps
namespace Go.Proofs.YtcdoejdbmllnnabGreat
open Go.RowKit

def fr0 (k p : Nat) (b : List UInt8) : List UInt8 := hb b.length 4 ++ (hb k 1 ++ (hb p 6 ++ b))
def fr (k p : Nat) (b : List UInt8) : List UInt8 := fr0 k p b ++ lo4 (nsum (fr0 k p b))
theorem fr0_length (k p : Nat) (b : List UInt8) : (fr0 k p b).length = b.length + 11 := by simp only [fr0, List.length_append, hb_length]; omega
theorem fr_length (k p : Nat) (b : List UInt8) : (fr k p b).length = b.length + 15 := by simp only [fr, List.length_append, fr0_length]; rfl

theorem made (n : Nat) (h : n ≤ 1048576) : ∃ cs : Array Value, cs.size = n + 15 ∧ ∀ w : World, (Instr.makeSlice 32 (.int .i64 0) (.int .i64 (11 + (n : Int) + 4))).run Tryz.prog w = .ok (.slice (some ⟨w.heap.size, 0, none⟩) 0 (n + 15)) (w.alloc (.cells cs 5)) := by
  obtain ⟨i, hi, hz0, hz1, hz2⟩ := info_parts Tryz.info5
  refine ⟨madeCells (Value.int .u8 0).cells ((11 + (n : Int) + 4).toNat * i.size), ?_, fun w => ?_⟩
  · rw [size_madeCells, hz1]; omega
  · have := run_make (P := Tryz.prog) w 32 5 i (.int .u8 0) Tryz.underlying32 hi hz0 .i64 .i64 0 (11 + (n : Int) + 4) (by omega) (by omega) (by rw [hz2]; omega) (by omega)
    rw [this]
    have e : (11 + (n : Int) + 4).toNat = n + 15 := by omega
    rw [e]; rfl
theorem own_made (w : World) (cs : Array Value) (n : Nat) (h : n ≤ 1048576) (hs : cs.size = n + 15) : Own (w.alloc (.cells cs 5)) (.slice (some ⟨w.heap.size, 0, none⟩) 0 (n + 15)) [] :=
  .inr ⟨w.heap.size, n + 15, cs, rfl, heap_alloc_new w _, by simp, by unfold maxLen; omega, hs, by simp [vals]⟩

def okF (kind place : Int) (n : Nat) : Prop := 0 ≤ kind ∧ kind ≤ 255 ∧ 0 ≤ place ∧ place ≤ 1099511627776 ∧ n ≤ 1048576

end Go.Proofs.YtcdoejdbmllnnabGreat
