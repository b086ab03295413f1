/- A reader that was just made. -/
import Derived.Test.YtcdoejdbmllnnabGreatRla
namespace Go.Proofs.YtcdoejdbmllnnabGreat
open Go.RowKit

theorem rg_new (w : World) (a : Option Addr) (cap : Nat) (l : List UInt8) (n D : Nat) (hn : n = w.heap.size) (hD : D ≤ w.heap.size) (hc : l.length ≤ cap) (h : Bs w a l) (hb : ∀ y, a = some y → y.block < D) :
    RG D (w.alloc (.cells #[.slice a l.length cap, .bool false] 90)) n (some l) := by
  subst hn
  refine ⟨by simp, by simp; omega, World.frozen?_alloc_at _ _ _ _ rfl, World.frozen?_alloc_at _ _ _ _ rfl, a, cap, ?_, ?_, hc, h.alloc _, fun x hx => ?_⟩
  · rw [World.cell?_alloc_at _ _ _ _ rfl]; rfl
  · rw [World.cell?_alloc_at _ _ _ _ rfl]; rfl
  · have := hb x hx; omega
end Go.Proofs.YtcdoejdbmllnnabGreat
