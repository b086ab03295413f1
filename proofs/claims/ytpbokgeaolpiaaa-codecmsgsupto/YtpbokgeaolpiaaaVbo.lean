/- What 'both' answers of records that were written, read and written again. Made by program (wip/gen/cmds.py). -/
import Derived.Test.YtpbokgeaolpiaaaSums
import Derived.Test.YtpbokgeaolpiaaaVmat
namespace Go.Proofs.Ytpbokgeaolpiaaa
open Go.RowKit

set_option maxHeartbeats 400000 in
theorem both_bad (a1 a2 a3 : Option Addr) (n3 c1 c2 c3 : Nat) (g : Int) (w : World) :
    Calls Try.prog 18 #[.slice a1 0 c1, .int .i64 1, .slice a2 0 c2, .int .i64 1, .slice a3 n3 c3, .int .i64 g, .bool false] w fun e w' => e = .returned (.bool true) ∧ Below w.heap.size w w' := by
  go_enter Try.func18, Try.ntmps18
  go_wp2_with fail
  refine (same_any a1 a2 0 0 c1 c2 [] [] w rfl rfl ⟨by simp, fun h => absurd rfl h⟩ ⟨by simp, fun h => absurd rfl h⟩).mono ?_
  rintro e w1 ⟨rfl, nq, hw⟩
  have B1 : Below w.heap.size w w1 := by rw [hw]; exact ⟨rfl, rfl, rfl, Nat.le_refl _, fun _ _ => rfl⟩
  simp only [decide_true]
  clear hw
  go_wp2
  go_ret
  exact ⟨rfl, B1⟩
set_option maxHeartbeats 400000 in
theorem both_ok (a1 a2 a3 : Option Addr) (n c1 c2 c3 : Nat) (l : List UInt8) (w : World) (hn : n = l.length) (h1 : Bs w a1 l) (h2 : Bs w a2 l) (h3 : Bs w a3 l) :
    Calls Try.prog 18 #[.slice a1 n c1, .int .i64 0, .slice a2 n c2, .int .i64 0, .slice a3 n c3, .int .i64 0, .bool true] w fun e w' => e = .returned (.bool true) ∧ Below w.heap.size w w' := by
  have H1 : Hid (Bs w a1 l) := h1
  have H2 : Hid (Bs w a2 l) := h2
  have H3 : Hid (Bs w a3 l) := h3
  have HN : Hid (n = l.length) := hn
  clear h1 h2 h3 hn
  go_enter Try.func18, Try.ntmps18
  go_wp2_with fail
  refine (same_any a1 a2 n n c1 c2 l l w HN.out HN.out H1.out H2.out).mono ?_
  rintro e w1 ⟨rfl, nq, hw⟩
  have B1 : Below w.heap.size w w1 := by rw [hw]; exact ⟨rfl, rfl, rfl, Nat.le_refl _, fun _ _ => rfl⟩
  simp only [decide_true]
  have K1 : Hid (Bs w1 a1 l) := H1.out.grow B1
  have K3 : Hid (Bs w1 a3 l) := H3.out.grow B1
  clear hw
  go_wp2_with fail
  refine (same_any a3 a1 n n c3 c1 l l w1 HN.out HN.out K3.out K1.out).mono ?_
  rintro e w2 ⟨rfl, nq2, hw2⟩
  have B2 : Below w1.heap.size w1 w2 := by rw [hw2]; exact ⟨rfl, rfl, rfl, Nat.le_refl _, fun _ _ => rfl⟩
  simp only [decide_true]
  clear hw2
  go_wp2
  go_ret
  exact ⟨rfl, B1.trans (B2.mono B1.size)⟩
theorem de_nil (g : Fm) : (de (.cat .num g) (some [])).2 = none := de_none g
end Go.Proofs.Ytpbokgeaolpiaaa
