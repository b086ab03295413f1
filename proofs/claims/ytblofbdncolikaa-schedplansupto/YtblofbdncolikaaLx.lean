/- What is looked for in a store, of the code. -/
import Derived.Test.YtblofbdncolikaaLk
import Derived.Test.YtblofbdncolikaaWn
import Derived.Test.YtblofbdncolikaaWe
namespace Go.Proofs.Ytblofbdncolikaa
open Go.RowKit Go.Shelf
attribute [local go_sem] Oper.semAt_some
set_option maxHeartbeats 1000000 in
theorem node_any (s : Sc) (id : Int) (L : List Nd) (w : World) (hn : s.n4 = L.length) (hL : Fl w (fun b => b < w.heap.size) 8 56 Nd.cs s.a4 L) :
  Calls Try.prog 39 #[.agg #[.int .i64 s.ix, .int .i64 s.nx, .slice s.a2 s.n2 s.c2, .slice s.a3 s.n3 s.c3, .slice s.a4 s.n4 s.c4, .slice s.a5 s.n5 s.c5, .slice s.a6 s.n6 s.c6, .slice s.a7 s.n7 s.c7, .slice s.a8 s.n8 s.c8], .int .i64 id] w fun e w' => e = .returned (.int .i64 (fi (fun x => isI x.id id) L)) ∧ Below w.heap.size w w' := by
 have hmf : ∀ (fn : Fn) (first cap : Array Value) (w : World), (Instr.makeFunc fn first cap).run Try.prog w = .ok (.func fn first cap) w := fun _ _ _ _ => rfl
 obtain ⟨ix, nx, a2, n2, c2, a3, n3, c3, a4, n4, c4, a5, n5, c5, a6, n6, c6, a7, n7, c7, a8, n8, c8⟩ := s
 simp only at hn hL
 subst hn
 have hB := below2 w (.cells #[.int .i64 ix, .int .i64 nx, .slice a2 n2 c2, .slice a3 n3 c3, .slice a4 L.length c4, .slice a5 n5 c5, .slice a6 n6 c6, .slice a7 n7 c7, .slice a8 n8 c8] 29) (.cells #[.int .i64 id] 3)
 have HB := hidOf hB
 have hp := box_at w (.cells #[.int .i64 ix, .int .i64 nx, .slice a2 n2 c2, .slice a3 n3 c3, .slice a4 L.length c4, .slice a5 n5 c5, .slice a6 n6 c6, .slice a7 n7 c7, .slice a8 n8 c8] 29) (.int .i64 id) 3
 have HL := hidOf (hL.kept (w' := (w.alloc (.cells #[.int .i64 ix, .int .i64 nx, .slice a2 n2 c2, .slice a3 n3 c3, .slice a4 L.length c4, .slice a5 n5 c5, .slice a6 n6 c6, .slice a7 n7 c7, .slice a8 n8 c8] 29)).alloc (.cells #[.int .i64 id] 3)) (fun b hb => hB.block b hb) (fun b hb => Nat.lt_of_lt_of_le hb hB.size))
 have HP := hidOf hp
 clear hB hp hL
 go_enter Try.func39, Try.ntmps39
 go_wp2_with (go_at_call 56; refine (first37 (w.heap.size + 1) a4 c4 L (fun x => isI x.id id) _ HL.out (fun W x hW => p37_any x id (w.heap.size + 1) W ((hW.cell (by simp) 0).trans HP.out) (Nat.lt_of_lt_of_le (by simp) hW.size))).mono ?_; rintro e w1 ⟨rfl, hb⟩; have HC := hidOf (HB.out.trans (hb.mono HB.out.size)); clear hb)
 go_ret
 exact ⟨rfl, HC.out⟩
set_option maxHeartbeats 1000000 in
theorem eval_any (s : Sc) (id : Int) (L : List Qd) (w : World) (hn : s.n6 = L.length) (hL : Fl w (fun b => b < w.heap.size) 4 32 Qd.cs s.a6 L) :
  Calls Try.prog 16 #[.agg #[.int .i64 s.ix, .int .i64 s.nx, .slice s.a2 s.n2 s.c2, .slice s.a3 s.n3 s.c3, .slice s.a4 s.n4 s.c4, .slice s.a5 s.n5 s.c5, .slice s.a6 s.n6 s.c6, .slice s.a7 s.n7 s.c7, .slice s.a8 s.n8 s.c8], .int .i64 id] w fun e w' => e = .returned (.int .i64 (fi (fun x => isI x.a id) L)) ∧ Below w.heap.size w w' := by
 have hmf : ∀ (fn : Fn) (first cap : Array Value) (w : World), (Instr.makeFunc fn first cap).run Try.prog w = .ok (.func fn first cap) w := fun _ _ _ _ => rfl
 obtain ⟨ix, nx, a2, n2, c2, a3, n3, c3, a4, n4, c4, a5, n5, c5, a6, n6, c6, a7, n7, c7, a8, n8, c8⟩ := s
 simp only at hn hL
 subst hn
 have hB := below2 w (.cells #[.int .i64 ix, .int .i64 nx, .slice a2 n2 c2, .slice a3 n3 c3, .slice a4 n4 c4, .slice a5 n5 c5, .slice a6 L.length c6, .slice a7 n7 c7, .slice a8 n8 c8] 29) (.cells #[.int .i64 id] 3)
 have HB := hidOf hB
 have hp := box_at w (.cells #[.int .i64 ix, .int .i64 nx, .slice a2 n2 c2, .slice a3 n3 c3, .slice a4 n4 c4, .slice a5 n5 c5, .slice a6 L.length c6, .slice a7 n7 c7, .slice a8 n8 c8] 29) (.int .i64 id) 3
 have HL := hidOf (hL.kept (w' := (w.alloc (.cells #[.int .i64 ix, .int .i64 nx, .slice a2 n2 c2, .slice a3 n3 c3, .slice a4 n4 c4, .slice a5 n5 c5, .slice a6 L.length c6, .slice a7 n7 c7, .slice a8 n8 c8] 29)).alloc (.cells #[.int .i64 id] 3)) (fun b hb => hB.block b hb) (fun b hb => Nat.lt_of_lt_of_le hb hB.size))
 have HP := hidOf hp
 clear hB hp hL
 go_enter Try.func16, Try.ntmps16
 go_wp2_with (go_at_call 31; refine (first41 (w.heap.size + 1) a6 c6 L (fun x => isI x.a id) _ HL.out (fun W x hW => p41_any x id (w.heap.size + 1) W ((hW.cell (by simp) 0).trans HP.out) (Nat.lt_of_lt_of_le (by simp) hW.size))).mono ?_; rintro e w1 ⟨rfl, hb⟩; have HC := hidOf (HB.out.trans (hb.mono HB.out.size)); clear hb)
 go_ret
 exact ⟨rfl, HC.out⟩
end Go.Proofs.Ytblofbdncolikaa
