/- How many slots a group has; who holds a slot, of the code. -/
import Derived.Test.YtkokkdekbilkjaaWl
import Derived.Test.YtkokkdekbilkjaaSa
namespace Go.Proofs.Ytkokkdekbilkjaa
open Go.RowKit Go.Shelf
attribute [local go_sem] Oper.semAt_some
def cn (n : Int) : Int := if n ≤ 0 then 0 else if 4 ≤ n then 4 else n
set_option maxHeartbeats 400000 in
theorem count_any (g : Gp) (w : World) : Calls Try.prog 46 #[.agg #[.int .i64 g.n, .int .i64 g.c, .int .i64 g.m]] w fun e w' => e = .returned (.int .i64 (cn g.n)) ∧ Below w.heap.size w w' := by
  by_cases h1 : g.n < 0
  · have hcn : cn g.n = 0 := by unfold cn; rw [if_pos (by omega)]
    rw [hcn]
    clear hcn
    go_enter Try.func46, Try.ntmps46
    go_wp2
    go_ret
    exact ⟨rfl, below1 _ _⟩
  · by_cases h2 : g.n ≤ 4
    · have hcn : cn g.n = g.n := by unfold cn; split <;> (try split) <;> omega
      rw [hcn]
      clear hcn
      go_enter Try.func46, Try.ntmps46
      go_wp2
      go_ret
      exact ⟨rfl, below1 _ _⟩
    · have hcn : cn g.n = 4 := by unfold cn; rw [if_neg (by omega), if_pos (by omega)]
      rw [hcn]
      clear hcn
      go_enter Try.func46, Try.ntmps46
      go_wp2
      go_ret
      exact ⟨rfl, below1 _ _⟩
set_option maxHeartbeats 2000000 in
theorem slot_any (s : Sc) (jb gr ixx : Int) (L : List Al) (w : World) (hn : s.n5 = L.length) (hL : Fl w (fun b => b < w.heap.size) 11 88 Al.cs s.a5 L) :
    Calls Try.prog 27 #[.agg #[.int .i64 s.ix, .int .i64 s.nx, .slice s.a2 s.n2 s.c2, .slice s.a3 s.n3 s.c3, .slice s.a4 s.n4 s.c4, .slice s.a5 s.n5 s.c5, .slice s.a6 s.n6 s.c6, .slice s.a7 s.n7 s.c7, .slice s.a8 s.n8 s.c8], .int .i64 jb, .int .i64 gr, .int .i64 ixx] w fun e w' => e = .returned (.int .i64 (fi (slB jb gr ixx) L)) ∧ Below w.heap.size w w' := by
  have hmf : ∀ (fn : Fn) (first cap : Array Value) (w : World), (Instr.makeFunc fn first cap).run Try.prog w = .ok (.func fn first cap) w := fun _ _ _ _ => rfl
  obtain ⟨ix, nx, a2, n2, c2, a3, n3, c3, a4, n4, c4, a5, n5, c5, a6, n6, c6, a7, n7, c7, a8, n8, c8⟩ := s
  simp only at hn hL
  subst hn
  have hB : Below w.heap.size w ((((w.alloc (.cells #[.int .i64 ix, .int .i64 nx, .slice a2 n2 c2, .slice a3 n3 c3, .slice a4 n4 c4, .slice a5 L.length c5, .slice a6 n6 c6, .slice a7 n7 c7, .slice a8 n8 c8] 29)).alloc (.cells #[.int .i64 jb] 3)).alloc (.cells #[.int .i64 gr] 3)).alloc (.cells #[.int .i64 ixx] 3)) := ((((Below.refl _ w).alloc (Nat.le_refl _) _).alloc (by simp) _).alloc (by simp <;> omega) _).alloc (by simp <;> omega) _
  have b1 := ((Boxed.new (w.alloc (.cells #[.int .i64 ix, .int .i64 nx, .slice a2 n2 c2, .slice a3 n3 c3, .slice a4 n4 c4, .slice a5 L.length c5, .slice a6 n6 c6, .slice a7 n7 c7, .slice a8 n8 c8] 29)) 3 (.int .i64 jb)).alloc (.cells #[.int .i64 gr] 3)).alloc (.cells #[.int .i64 ixx] 3)
  have b2 := (Boxed.new ((w.alloc (.cells #[.int .i64 ix, .int .i64 nx, .slice a2 n2 c2, .slice a3 n3 c3, .slice a4 n4 c4, .slice a5 L.length c5, .slice a6 n6 c6, .slice a7 n7 c7, .slice a8 n8 c8] 29)).alloc (.cells #[.int .i64 jb] 3)) 3 (.int .i64 gr)).alloc (.cells #[.int .i64 ixx] 3)
  have b3 := Boxed.new (((w.alloc (.cells #[.int .i64 ix, .int .i64 nx, .slice a2 n2 c2, .slice a3 n3 c3, .slice a4 n4 c4, .slice a5 L.length c5, .slice a6 n6 c6, .slice a7 n7 c7, .slice a8 n8 c8] 29)).alloc (.cells #[.int .i64 jb] 3)).alloc (.cells #[.int .i64 gr] 3)) 3 (.int .i64 ixx)
  simp only [World.size_alloc] at b1 b2 b3
  have H1 := hidOf b1
  have H2 := hidOf b2
  have H3 := hidOf b3
  have HB := hidOf hB
  have HL := hidOf (hL.kept (fun b hb => hB.block b hb) (fun b hb => Nat.lt_of_lt_of_le hb hB.size))
  clear hB b1 b2 b3 hL
  go_enter Try.func27, Try.ntmps27
  go_wp2_with (go_at_call 38; refine (first52 (w.heap.size + 1) (w.heap.size + 1 + 1) (w.heap.size + 1 + 1 + 1) a5 c5 L (slB jb gr ixx) _ HL.out (fun W x hW => p52_any x jb gr ixx (w.heap.size + 1) (w.heap.size + 1 + 1) (w.heap.size + 1 + 1 + 1) W ((hW.cell (by simp <;> omega) 0).trans H1.out.cell) ((hW.cell (by simp <;> omega) 0).trans H2.out.cell) ((hW.cell (by simp) 0).trans H3.out.cell) (Nat.lt_of_lt_of_le (by simp <;> omega) hW.size) (Nat.lt_of_lt_of_le (by simp <;> omega) hW.size) (Nat.lt_of_lt_of_le (by simp) hW.size))).mono ?_; rintro e w1 ⟨rfl, hb⟩; have HC := hidOf (HB.out.trans (hb.mono HB.out.size)); clear hb)
  go_ret
  exact ⟨rfl, HC.out⟩
end Go.Proofs.Ytkokkdekbilkjaa
