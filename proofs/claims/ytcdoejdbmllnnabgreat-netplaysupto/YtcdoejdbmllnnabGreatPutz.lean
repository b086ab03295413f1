/- What PutCmd returns for the zero command: its 27 zero bytes in a row of its own. -/
import Derived.Test.YtcdoejdbmllnnabGreatWzer
namespace Go.Proofs.YtcdoejdbmllnnabGreat
open Go.RowKit

theorem wr_new (w : World) (n : Nat) (hn : n = w.heap.size) : WR (w.alloc (.cells #[.slice none 0 0, .bool false] 86)) n [] false (fun b => b < n) := by
  subst hn
  refine ⟨by omega, fun b hb => by simp; omega, by simp, .slice none 0 0, ?_, ?_, ?_, ?_, .inl ⟨rfl, rfl⟩, fun r hr => by simp [Value.ownBlock] at hr⟩
  · rw [World.cell?_alloc_at _ _ _ _ rfl]; rfl
  · rw [World.cell?_alloc_at _ _ _ _ rfl]; rfl
  · exact World.frozen?_alloc_at _ _ _ _ rfl
  · exact World.frozen?_alloc_at _ _ _ _ rfl
theorem Kp.below {w w' : World} {B : Nat} (h : Kp w w' (fun b => b < B)) : Below B w w' := ⟨h.os, h.tape, h.output, h.size, h.block⟩

set_option maxHeartbeats 400000 in
theorem done_ok (p : Nat) (l : List UInt8) (prot : Nat → Prop) (w : World) (h : WR w p l false prot) :
    Calls Tryz.prog 34 #[.pointer (some ⟨p, 0, none⟩)] w fun e w' => ∃ v, e = .returned (.tuple #[v, .int .i64 0]) ∧ Own w' v l ∧ w' = w := by
  obtain ⟨q1, q2, q3, v, q4, q5, q6, q7, q8, q9⟩ := h
  obtain ⟨a, c, hv, hbs⟩ := q8.form
  subst hv
  clear q1 q2 q9 hbs
  go_enter Tryz.func34, Tryz.ntmps34
  go_wp2
  go_ret2
  exact ⟨_, rfl, q8, rfl⟩

def CmdPuts (cs : Array Value) (l : List UInt8) : Prop := ∀ (w : World) (p : Nat), WR w p [] false (fun b => b < p) →
  Calls Tryz.prog 60 #[.pointer (some ⟨p, 0, none⟩), .agg cs] w fun e w' => e = .returned (.tuple #[]) ∧ WR w' p l false (fun b => b < p) ∧ Kp w w' (fun b => b < p)

theorem Tryz.under50 : ∃ d, Tryz.prog.underlying 45 = some d ∧ (match d with | .struct _ | .array _ _ => true | _ => false) = true := by
  exact ⟨_, Tryz.underlying45, rfl⟩

def Zcmd : Array Value := #[.int .i64 0, .int .i64 0, .int .i64 0, .int .i64 0, .int .i64 0, .int .i64 0, .int .i64 0, .slice none 0 0, .int .i64 0, .bool false, .int .i64 0, .int .i64 0, .int .i64 0, .bool false, .bool false, .int .i64 0, .int .i64 0, .int .i64 0, .slice none 0 0, .int .i64 0, .int .i64 0, .int .i64 0, .slice none 0 0, .slice none 0 0, .bool false, .slice none 0 0, .slice none 0 0]

end Go.Proofs.YtcdoejdbmllnnabGreat
