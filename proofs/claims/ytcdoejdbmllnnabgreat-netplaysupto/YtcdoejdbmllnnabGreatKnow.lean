/- The example that each statement asks first: known returns true, in whatever memory, and changes nothing that was there. -/
import Derived.Test.YtcdoejdbmllnnabGreatUfr
import Derived.Test.YtcdoejdbmllnnabGreatGetz
import Derived.Lib.SlBytesConst
namespace Go.Proofs.YtcdoejdbmllnnabGreat
open Go.RowKit

theorem Own.cap {w : World} {a : Option Addr} {n cap : Nat} {l : List UInt8} (h : Own w (.slice a n cap) l) : n ≤ cap := by
  rcases h with ⟨h, _⟩ | ⟨g, c, cur, h, _, hl, _⟩
  · cases h; omega
  · cases h; exact hl
theorem Own.some {w : World} {v : Value} {l : List UInt8} (h : Own w v l) (hl : l ≠ []) : ∃ g cap, v = .slice (some ⟨g, 0, none⟩) l.length cap ∧ l.length ≤ cap := by
  rcases h with ⟨_, h⟩ | ⟨g, c, cur, h, _, hc, _⟩
  · exact absurd h hl
  · exact ⟨g, c, h, hc⟩
theorem Tryz.under5 : Tryz.prog.underlying 5 = some (.int .u8) := by kernel_rfl
theorem bs_one (w : World) (b : UInt8) (x : Int) (f : Nat × Nat) (hx : x = (b.toNat : Int)) : Bs (w.alloc (.cells #[.int .u8 x] 5 f)) (some ⟨w.heap.size, 0, none⟩) [b] := by
  subst hx
  refine ⟨by simp, fun _ => ⟨w.heap.size, 0, rfl, by simp, fun j hj => ?_⟩⟩
  have : j = 0 := by simpa using hj
  subst this
  unfold World.cell?
  rw [heap_alloc_new]; rfl
theorem fr_a : fr (1 : Int).toNat (2 : Int).toNat [97] = [0, 0, 0, 1, 1, 0, 0, 0, 0, 0, 2, 97] ++ lo4 (nsum (fr0 1 2 [97])) := rfl
theorem fr_a3 : bat (fr (1 : Int).toNat (2 : Int).toNat [97]) 3 = 1 := by rw [fr_a]; rfl
theorem fr_a10 : bat (fr (1 : Int).toNat (2 : Int).toNat [97]) 10 = 2 := by rw [fr_a]; rfl

end Go.Proofs.YtcdoejdbmllnnabGreat
