/- What PutMsg returns, whatever it is handed. Made by program (wip/gen/put.py). -/
import Derived.Test.YtpbokgeaolpiaabGreatVwm
import Derived.Test.YtpbokgeaolpiaabGreatVpw
namespace Go.Proofs.YtpbokgeaolpiaabGreat
open Go.RowKit

theorem info_putMsgw : (Tryz.prog.info? 55).map (·.size) = some (wd F_msg) := by kernel_rfl
set_option maxHeartbeats 400000 in
set_option maxRecDepth 100000 in
theorem putMsg_w (cs : List Value) (v : Vl F_msg) (w : World) (hr : Rep w (fun b => b < w.heap.size) F_msg cs v) :
    Calls Tryz.prog 14 #[.agg cs.toArray] w fun e w' => ∃ val, e = .returned (.tuple #[val, .int .i64 (codeB (en F_msg v).2)]) ∧ Own w' val (bytesB (en F_msg v)) ∧ (∀ b, val.ownBlock = some b → w.heap.size ≤ b) ∧ Below w.heap.size w w' := by
  have hsz : Hid ((Tryz.prog.info? 55).map (·.size) = some cs.toArray.size) := by show _ = _; rw [List.size_toArray, hr.len]; exact info_putMsgw
  have HG2 : Hid (((w.alloc (.cells cs.toArray 55)).alloc (.cells #[.slice none 0 0, .bool false] 85)).heap[w.heap.size]? = some (.cells cs.toArray 55 (0, 0))) := by
    show _ = _
    rw [Below.heap_alloc _ _ _ (by rw [World.size_alloc]; omega)]; exact heap_alloc_new w _
  have hB0 : Below w.heap.size w ((w.alloc (.cells cs.toArray 55)).alloc (.cells #[.slice none 0 0, .bool false] 85)) := ((Below.refl _ _).alloc (Nat.le_refl _) _).alloc (by rw [World.size_alloc]; omega) _
  have HR : Hid (Rep ((w.alloc (.cells cs.toArray 55)).alloc (.cells #[.slice none 0 0, .bool false] 85)) (fun b => b < w.heap.size) F_msg cs v) := hr.kept hB0.size (fun b hb => hB0.block b hb) (fun _ x => x)
  have HB0 : Hid _ := hB0
  clear hr hB0
  go_enter Tryz.func14, Tryz.ntmps14
  go_wp2_with (refine wpList_load_row rfl 55 (.tmp 1) rfl w.heap.size rfl 55 cs.toArray (0, 0) _ HG2.out Tryz.underlying55 rfl hsz.out ?_)
  refine (msg_w _ [] false (fun b => b < w.heap.size + 1) (fun b => b < w.heap.size) cs v _ (by rw [List.length_nil]; omega) (fun b hb => by omega) HR.out (wr_neww _ _ (by rw [World.size_alloc]))).mono ?_
  rintro e w1 ⟨rfl, hW, hK⟩
  have hB : Below w.heap.size w w1 := HB0.out.trans (hK.below.mono (by omega))
  rw [List.nil_append, Bool.false_or] at hW
  clear hK HG2
  go_wp2_with fail
  refine (done_w _ _ _ _ _ hW).mono ?_
  rintro e w2 ⟨val, rfl, hO, hN0, hw⟩
  subst hw
  have hN : ∀ b, val.ownBlock = some b → w.heap.size ≤ b := fun b hb => by have := hN0 b hb; simp at this; omega
  have HO : Hid (Own w2 val (bytesB (en F_msg v))) := hO
  clear hO hN0 hW
  go_wp2
  go_ret2
  have hO := HO.out
  exact ⟨_, rfl, hO, hN, hB⟩

end Go.Proofs.YtpbokgeaolpiaabGreat
