/- What PutCmd returns for the zero command: its 27 zero bytes in a row of its own. -/
import Derived.Test.YtpbokgeaolpiaabWzer
namespace Go.Proofs.Ytpbokgeaolpiaab
open Go.RowKit

theorem wr_new (w : World) (n : Nat) (hn : n = w.heap.size) : WR (w.alloc (.cells #[.slice none 0 0, .bool false] 85)) n [] false (fun b => b < n) := by
  subst hn
  refine ⟨by omega, fun b hb => by simp; omega, by simp, .slice none 0 0, ?_, ?_, ?_, ?_, .inl ⟨rfl, rfl⟩, fun r hr => by simp [Value.ownBlock] at hr⟩
  · rw [World.cell?_alloc_at _ _ _ _ rfl]; rfl
  · rw [World.cell?_alloc_at _ _ _ _ rfl]; rfl
  · exact World.frozen?_alloc_at _ _ _ _ rfl
  · exact World.frozen?_alloc_at _ _ _ _ rfl
theorem Kp.below {w w' : World} {B : Nat} (h : Kp w w' (fun b => b < B)) : Below B w w' := ⟨h.os, h.tape, h.output, h.size, h.block⟩

set_option maxHeartbeats 400000 in
theorem done_ok (p : Nat) (l : List UInt8) (prot : Nat → Prop) (w : World) (h : WR w p l false prot) :
    Calls Try.prog 26 #[.pointer (some ⟨p, 0, none⟩)] w fun e w' => ∃ v, e = .returned (.tuple #[v, .int .i64 0]) ∧ Own w' v l ∧ w' = w := by
  obtain ⟨q1, q2, q3, v, q4, q5, q6, q7, q8, q9⟩ := h
  obtain ⟨a, c, hv, hbs⟩ := q8.form
  subst hv
  clear q1 q2 q9 hbs
  go_enter Try.func26, Try.ntmps26
  go_wp2
  go_ret2
  exact ⟨_, rfl, q8, rfl⟩

def CmdPuts (cs : Array Value) (l : List UInt8) : Prop := ∀ (w : World) (p : Nat), WR w p [] false (fun b => b < p) →
  Calls Try.prog 44 #[.pointer (some ⟨p, 0, none⟩), .agg cs] w fun e w' => e = .returned (.tuple #[]) ∧ WR w' p l false (fun b => b < p) ∧ Kp w w' (fun b => b < p)

theorem Try.under50 : ∃ d, Try.prog.underlying 65 = some d ∧ (match d with | .struct _ | .array _ _ => true | _ => false) = true := by
  exact ⟨_, Try.underlying65, rfl⟩

set_option maxHeartbeats 400000 in
theorem putCmd_of (cs : Array Value) (l : List UInt8) (hsz : (Try.prog.info? 65).map (·.size) = some cs.size) (hcmd : CmdPuts cs l) (w : World) :
    Calls Try.prog 21 #[.agg cs] w fun e w' => ∃ v, e = .returned (.tuple #[v, .int .i64 0]) ∧ Own w' v l ∧ Below w.heap.size w w' := by
  have hg : ((w.alloc (.cells cs 65)).alloc (.cells #[.slice none 0 0, .bool false] 85)).heap[w.heap.size]? = some (.cells cs 65 (0, 0)) := by
    rw [Below.heap_alloc _ _ _ (by rw [World.size_alloc]; omega)]; exact heap_alloc_new w _
  have HG := hg
  have HG2 : Hid _ := HG
  clear hg HG
  go_enter Try.func21, Try.ntmps21
  go_wp2_with (refine wpList_load_row rfl 65 (.tmp 1) rfl w.heap.size rfl 65 cs (0, 0) _ HG2.out Try.underlying65 rfl hsz ?_)
  refine (hcmd _ _ (wr_new _ _ (by rw [World.size_alloc]))).mono ?_
  rintro e w1 ⟨rfl, hW, hK⟩
  have hB : Below w.heap.size w w1 :=
    Below.trans (((Below.refl _ _).alloc (Nat.le_refl _) _).alloc (by rw [World.size_alloc]; omega) _) (hK.below.mono (by omega))
  clear hK HG2
  go_wp2_with fail
  refine (done_ok _ _ _ _ hW).mono ?_
  rintro e w2 ⟨v, rfl, hO, hw⟩
  subst hw
  go_wp2
  go_ret2
  exact ⟨_, rfl, hO, hB⟩

def Zcmd : Array Value := #[.int .i64 0, .int .i64 0, .int .i64 0, .int .i64 0, .int .i64 0, .int .i64 0, .int .i64 0, .slice none 0 0, .int .i64 0, .bool false, .int .i64 0, .int .i64 0, .int .i64 0, .bool false, .bool false, .int .i64 0, .int .i64 0, .int .i64 0, .slice none 0 0, .int .i64 0, .int .i64 0, .int .i64 0, .slice none 0 0, .slice none 0 0, .bool false, .slice none 0 0, .slice none 0 0]

theorem putCmd_z (w : World) : Calls Try.prog 21 #[.agg Zcmd] w fun e w' => ∃ v, e = .returned (.tuple #[v, .int .i64 0]) ∧ Own w' v (zs 27) ∧ Below w.heap.size w w' := by
  refine putCmd_of Zcmd (zs 27) (by kernel_rfl) (fun w p h => ?_) w
  have := cmd_z p [] false (fun b => b < p) w (by rw [List.length_nil]; omega) h
  rw [List.nil_append] at this
  exact this
end Go.Proofs.Ytpbokgeaolpiaab
