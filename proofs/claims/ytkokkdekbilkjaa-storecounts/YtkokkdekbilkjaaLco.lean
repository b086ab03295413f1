/- What is used, who holds a slot, how many slots run: the law at a store. -/
import Derived.Test.YtkokkdekbilkjaaDp
import Derived.Test.YtkokkdekbilkjaaLc
namespace Go.Proofs.Ytkokkdekbilkjaa
open Go.RowKit Go.Shelf
attribute [local go_sem] Oper.semAt_some
theorem walkCounts (s : Sc) (J B : List Js) (X : List Ss) (d : St) (id gr ix : Int) (x : Al) (w : World) (hS : StR w (fun b => b < w.heap.size) s J B X d) (_hz : d.allocs.length * 88 ≤ reachBytes) :
    Calls Try.prog 4 #[.agg #[.int .i64 s.ix, .int .i64 s.nx, .slice s.a2 s.n2 s.c2, .slice s.a3 s.n3 s.c3, .slice s.a4 s.n4 s.c4, .slice s.a5 s.n5 s.c5, .slice s.a6 s.n6 s.c6, .slice s.a7 s.n7 s.c7, .slice s.a8 s.n8 s.c8], .agg #[.int .i64 id, .int .i64 gr, .int .i64 ix, .int .i64 x.id, .int .i64 x.jb, .int .i64 x.ve, .int .i64 x.gr, .int .i64 x.ix, .int .i64 x.nd, .int .i64 x.ep, .int .i64 x.c, .int .i64 x.m, .bool x.sp, .int .i64 x.st]] w fun e w' => e = .returned (.bool true) ∧ Below w.heap.size w w' :=
  lawCounts s id gr ix x J B d.jobs d.nodes d.allocs d.evals d.deps X w hS.f hS.j
end Go.Proofs.Ytkokkdekbilkjaa
