/- Iterators over lists: what is kept, and the makers of iterators. -/
import Derived.Test.YtblofbdncolikaaSm
import Derived.RangeFuncNested
import Derived.RangeFuncBox
import Derived.RangeFuncBound
import Derived.RangeFuncCalls
import Derived.RangeFuncLeaves
import Derived.Shelf.Abstract
import Derived.Shelf.RegionOpen
import Derived.OwnWalkIn
import Derived.TacticsInMore
import Derived.LoopNIn
import Derived.LoopIn
namespace Go.Proofs.Ytblofbdncolikaa
open Go.RowKit Go.Shelf
attribute [local go_sem] Oper.semAt_some
theorem kq_b {Q : Nat → Prop} {w : World} (hQ : ∀ k, Q k → k < w.heap.size) (W : World) (l : Nat) (o o' : Obj) (hl : w.heap.size ≤ l) (_h : W.heap[l]? = some o) (_ : o.isCells = false) (_ : o.isWalk = false) : Kq Q W (W.putObj l o') := by
 have hg := grownBy_putObj' W l o'
 refine ⟨hg.size, fun k hk => ?_⟩
 by_cases hk2 : k < W.heap.size
 ·exact hg.block k hk2 (fun e => by have e2 := Option.some.inj e; have := hQ k hk; omega)
 ·have := heap_lt _h
  have := hQ k hk
  omega
set_option maxHeartbeats 400000 in
theorem where71 (a : Option Addr) (len cap : Nat) (fn : Fn) (xs ys : Array Value) (w : World) : Calls Try.prog 44 #[.slice a len cap, .func fn xs ys] w fun e w' => e = .returned (.func (.func 60) #[] #[.pointer (some ⟨w.heap.size, 0, none⟩), .pointer (some ⟨w.heap.size + 1, 0, none⟩)]) ∧ w' = (w.alloc (.cells #[.slice a len cap] 22)).alloc (.cells #[.func fn xs ys] 82) := by
 have hmf : ∀ (fn : Fn) (first cap : Array Value) (w : World), (Instr.makeFunc fn first cap).run Try.prog w = .ok (.func fn first cap) w := fun _ _ _ _ => rfl
 go_enter Try.func44, Try.ntmps44
 go_wp2
 go_ret
 exact ⟨rfl, rfl⟩
end Go.Proofs.Ytblofbdncolikaa
