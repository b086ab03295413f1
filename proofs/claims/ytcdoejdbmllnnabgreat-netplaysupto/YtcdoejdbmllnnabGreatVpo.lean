/- What the document's PutCmd returns, whatever the command. Made by program (wip/gen/put.py). -/
import Derived.Test.YtcdoejdbmllnnabGreatVob
import Derived.Test.YtcdoejdbmllnnabGreatPutz
import Derived.Test.YtcdoejdbmllnnabGreatVpd
namespace Go.Proofs.YtcdoejdbmllnnabGreat
open Go.RowKit

set_option maxHeartbeats 400000 in
theorem told_o (p : Nat) (l : List UInt8) (bad : Bool) (prot : Nat → Prop) (w : World) (h : WR w p l bad prot) :
    Calls Tryz.prog 30 #[.pointer (some ⟨p, 0, none⟩)] w fun e w' => ∃ v, e = .returned (.tuple #[v, .int .i64 (codeB bad)]) ∧ Own w' v (bytesB (l, bad)) ∧ (∀ b, v.ownBlock = some b → ¬ prot b) ∧ w' = w := by
  obtain ⟨q1, q2, q3, v, q4, q5, q6, q7, q8, q9⟩ := h
  obtain ⟨a, c, hv, hbs⟩ := q8.form
  subst hv
  have H9 : Hid _ := q9
  clear q1 q2 q9 hbs
  cases bad with
  | true =>
    go_enter Tryz.func30, Tryz.ntmps30
    go_wp2
    go_ret2
    exact ⟨_, rfl, .inl ⟨rfl, rfl⟩, fun b hb => by simp [Value.ownBlock] at hb, rfl⟩
  | false =>
    go_enter Tryz.func30, Tryz.ntmps30
    go_wp2
    go_ret2
    exact ⟨_, rfl, q8, fun b hb => (H9.out b hb).2, rfl⟩


theorem wr_newo (w : World) (n : Nat) (hn : n = w.heap.size) : WR (w.alloc (.cells #[.slice none 0 0, .bool false] 75)) n [] false (fun b => b < n) := by
  subst hn
  refine ⟨by omega, fun b hb => by simp; omega, by simp, .slice none 0 0, ?_, ?_, ?_, ?_, .inl ⟨rfl, rfl⟩, fun r hr => by simp [Value.ownBlock] at hr⟩
  · rw [World.cell?_alloc_at _ _ _ _ rfl]; rfl
  · rw [World.cell?_alloc_at _ _ _ _ rfl]; rfl
  · exact World.frozen?_alloc_at _ _ _ _ rfl
  · exact World.frozen?_alloc_at _ _ _ _ rfl

end Go.Proofs.YtcdoejdbmllnnabGreat
