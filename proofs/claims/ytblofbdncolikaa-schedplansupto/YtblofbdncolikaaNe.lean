/- Two records are compared. -/
import Derived.Test.YtblofbdncolikaaWa
namespace Go.Proofs.Ytblofbdncolikaa
open Go.RowKit Go.Shelf
attribute [local go_sem] Oper.semAt_some
set_option maxRecDepth 100000 in
set_option maxHeartbeats 4000000 in
theorem ne57 (x y : Gp) (w : World) : (binOp .neq 48 (.agg #[.int .i64 x.n, .int .i64 x.c, .int .i64 x.m]) (.agg #[.int .i64 y.n, .int .i64 y.c, .int .i64 y.m])).run Try.prog w = .ok (.bool (!decide (x = y))) w := by
 cases x
 cases y
 simp only [Gp.mk.injEq]
 go_simp
 repeat' split
 all_goals simp [*]

set_option maxRecDepth 100000 in
set_option maxHeartbeats 4000000 in
theorem ne64 (x y : Nd) (w : World) : (binOp .neq 46 (.agg #[.int .i64 x.id, .int .i64 x.c, .int .i64 x.m, .bool x.up, .bool x.dr, .int .i64 x.bo, .int .i64 x.ep, .int .i64 x.se]) (.agg #[.int .i64 y.id, .int .i64 y.c, .int .i64 y.m, .bool y.up, .bool y.dr, .int .i64 y.bo, .int .i64 y.ep, .int .i64 y.se])).run Try.prog w = .ok (.bool (!decide (x = y))) w := by
 cases x
 cases y
 simp only [Nd.mk.injEq]
 go_simp
 repeat' split
 all_goals simp [*]

set_option maxRecDepth 100000 in
set_option maxHeartbeats 4000000 in
theorem ne33 (x y : Al) (w : World) : (binOp .neq 42 (.agg #[.int .i64 x.id, .int .i64 x.jb, .int .i64 x.ve, .int .i64 x.gr, .int .i64 x.ix, .int .i64 x.nd, .int .i64 x.ep, .int .i64 x.c, .int .i64 x.m, .bool x.sp, .int .i64 x.st]) (.agg #[.int .i64 y.id, .int .i64 y.jb, .int .i64 y.ve, .int .i64 y.gr, .int .i64 y.ix, .int .i64 y.nd, .int .i64 y.ep, .int .i64 y.c, .int .i64 y.m, .bool y.sp, .int .i64 y.st])).run Try.prog w = .ok (.bool (!decide (x = y))) w := by
 cases x
 cases y
 simp only [Al.mk.injEq]
 go_simp
 repeat' split
 all_goals simp [*]

set_option maxRecDepth 100000 in
set_option maxHeartbeats 4000000 in
theorem ne69 (x y : Qd) (w : World) : (binOp .neq 53 (.agg #[.int .i64 x.a, .int .i64 x.b, .int .i64 x.c, .int .i64 x.d]) (.agg #[.int .i64 y.a, .int .i64 y.b, .int .i64 y.c, .int .i64 y.d])).run Try.prog w = .ok (.bool (!decide (x = y))) w := by
 cases x
 cases y
 simp only [Qd.mk.injEq]
 go_simp
 repeat' split
 all_goals simp [*]

set_option maxRecDepth 100000 in
set_option maxHeartbeats 4000000 in
theorem ne73 (x y : Qd) (w : World) : (binOp .neq 79 (.agg #[.int .i64 x.a, .int .i64 x.b, .int .i64 x.c, .int .i64 x.d]) (.agg #[.int .i64 y.a, .int .i64 y.b, .int .i64 y.c, .int .i64 y.d])).run Try.prog w = .ok (.bool (!decide (x = y))) w := by
 cases x
 cases y
 simp only [Qd.mk.injEq]
 go_simp
 repeat' split
 all_goals simp [*]
end Go.Proofs.Ytblofbdncolikaa
