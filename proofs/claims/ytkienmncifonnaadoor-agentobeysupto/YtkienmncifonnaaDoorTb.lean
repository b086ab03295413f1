/- A struct built of parts. -/
import Derived.Test.YtkienmncifonnaaDoorRt
namespace Go.Proofs.YtkienmncifonnaaDoor
open Go.RowKit Go.Maps
theorem wpList_buildE {P : Program} {ops : Array Oper} {rest : List Oper} {o : Oper} {a : Act} {w : World} {Q : Exit → Act → World → Prop} (hg : o.guard = none) (t : TypeId) (parts : Array (Nat × Operand)) (ho : o.op = .build t parts)
    (vs : List (Nat × Value)) (hv : (parts.map fun (i, x) => (i, a.eval x)).toList = vs) (cells : Array Value) (hc : P.built t vs = some cells)
    (h : wpList P ops Q rest (a.put o.dst (.agg cells)) w) : wpList P ops Q (o :: rest) a w := by
  refine wpList_build hg t parts ho (by rw [hv, hc]; rfl) ?_
  rw [hv, hc]
  exact h
set_option maxRecDepth 100000 in
theorem built86 (x : Al) (k : Int) : Tryd.prog.built 86 [(0, .agg (alC x)), (1, .int .i64 k)] = some (akC ⟨x, k⟩) := by kernel_rfl
end Go.Proofs.YtkienmncifonnaaDoor
