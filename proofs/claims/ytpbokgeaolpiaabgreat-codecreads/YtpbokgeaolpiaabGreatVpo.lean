/- What the document's PutCmd returns, whatever the command. Made by program (wip/gen/put.py). -/
import Derived.Test.YtpbokgeaolpiaabGreatVob
import Derived.Test.YtpbokgeaolpiaabGreatKA
import Derived.Test.YtpbokgeaolpiaabGreatVpd
namespace Go.Proofs.YtpbokgeaolpiaabGreat
open Go.RowKit

set_option maxHeartbeats 400000 in
theorem told_o (p : Nat) (l : List UInt8) (bad : Bool) (prot : Nat → Prop) (w : World) (h : WR w p l bad prot) :
    Calls Tryz.prog 64 #[.pointer (some ⟨p, 0, none⟩)] w fun e w' => ∃ v, e = .returned (.tuple #[v, .int .i64 (codeB bad)]) ∧ Own w' v (bytesB (l, bad)) ∧ (∀ b, v.ownBlock = some b → ¬ prot b) ∧ w' = w := by
  obtain ⟨q1, q2, q3, v, q4, q5, q6, q7, q8, q9⟩ := h
  obtain ⟨a, c, hv, hbs⟩ := q8.form
  subst hv
  have H9 : Hid _ := q9
  clear q1 q2 q9 hbs
  cases bad with
  | true =>
    go_enter Tryz.func64, Tryz.ntmps64
    go_wp2
    go_ret2
    exact ⟨_, rfl, .inl ⟨rfl, rfl⟩, fun b hb => by simp [Value.ownBlock] at hb, rfl⟩
  | false =>
    go_enter Tryz.func64, Tryz.ntmps64
    go_wp2
    go_ret2
    exact ⟨_, rfl, q8, fun b hb => (H9.out b hb).2, rfl⟩


theorem wr_newo (w : World) (n : Nat) (hn : n = w.heap.size) : WR (w.alloc (.cells #[.slice none 0 0, .bool false] 113)) n [] false (fun b => b < n) := by
  subst hn
  refine ⟨by omega, fun b hb => by simp; omega, by simp, .slice none 0 0, ?_, ?_, ?_, ?_, .inl ⟨rfl, rfl⟩, fun r hr => by simp [Value.ownBlock] at hr⟩
  · rw [World.cell?_alloc_at _ _ _ _ rfl]; rfl
  · rw [World.cell?_alloc_at _ _ _ _ rfl]; rfl
  · exact World.frozen?_alloc_at _ _ _ _ rfl
  · exact World.frozen?_alloc_at _ _ _ _ rfl


theorem info_putCmdo : (Tryz.prog.info? 38).map (·.size) = some (wd F_cmd) := by kernel_rfl
set_option maxHeartbeats 400000 in
set_option maxRecDepth 100000 in
theorem putCmd_o (cs : List Value) (v : Vl F_cmd) (w : World) (hz : szb F_cmd v ≤ 137438953472) (hr : Rep w (fun b => b < w.heap.size) F_cmd cs v) :
    Calls Tryz.prog 24 #[.agg cs.toArray] w fun e w' => ∃ val, e = .returned (.tuple #[val, .int .i64 (codeB (en F_cmd v).2)]) ∧ Own w' val (bytesB (en F_cmd v)) ∧ (∀ b, val.ownBlock = some b → w.heap.size ≤ b) ∧ Below w.heap.size w w' := by
  have hsz : Hid ((Tryz.prog.info? 38).map (·.size) = some cs.toArray.size) := by show _ = _; rw [List.size_toArray, hr.len]; exact info_putCmdo
  have HG2 : Hid (((w.alloc (.cells cs.toArray 38)).alloc (.cells #[.slice none 0 0, .bool false] 113)).heap[w.heap.size]? = some (.cells cs.toArray 38 (0, 0))) := by
    show _ = _
    rw [Below.heap_alloc _ _ _ (by rw [World.size_alloc]; omega)]; exact heap_alloc_new w _
  have hB0 : Below w.heap.size w ((w.alloc (.cells cs.toArray 38)).alloc (.cells #[.slice none 0 0, .bool false] 113)) := ((Below.refl _ _).alloc (Nat.le_refl _) _).alloc (by rw [World.size_alloc]; omega) _
  have HR : Hid (Rep ((w.alloc (.cells cs.toArray 38)).alloc (.cells #[.slice none 0 0, .bool false] 113)) (fun b => b < w.heap.size) F_cmd cs v) := hr.kept hB0.size (fun b hb => hB0.block b hb) (fun _ x => x)
  have HB0 : Hid _ := hB0
  clear hr hB0
  go_enter Tryz.func24, Tryz.ntmps24
  go_wp2_with (refine wpList_load_row rfl 38 (.tmp 1) rfl w.heap.size rfl 38 cs.toArray (0, 0) _ HG2.out Tryz.underlying38 rfl hsz.out ?_)
  refine (cmd_o _ [] false (fun b => b < w.heap.size + 1) (fun b => b < w.heap.size) cs v _ (by rw [List.length_nil]; omega) (fun b hb => by omega) HR.out (wr_newo _ _ (by rw [World.size_alloc]))).mono ?_
  rintro e w1 ⟨rfl, hW, hK⟩
  have hB : Below w.heap.size w w1 := HB0.out.trans (hK.below.mono (by omega))
  rw [List.nil_append, Bool.false_or] at hW
  clear hK HG2
  go_wp2_with fail
  refine (told_o _ _ _ _ _ hW).mono ?_
  rintro e w2 ⟨val, rfl, hO, hN0, hw⟩
  subst hw
  have hN : ∀ b, val.ownBlock = some b → w.heap.size ≤ b := fun b hb => by have := hN0 b hb; simp at this; omega
  have HO : Hid (Own w2 val (bytesB (enR F_cmd v))) := hO
  clear hO hN0 hW
  go_wp2
  go_ret2
  have hO := HO.out
  have hq := enR_eq F_cmd v
  have hby : bytesB (enR F_cmd v) = bytesB (en F_cmd v) := by
    unfold bytesB
    rw [hq.1]
    cases hb : (en F_cmd v).2 with
    | true => rfl
    | false => simp only [Bool.false_eq_true, if_false]; exact hq.2 hb
  rw [hby] at hO
  exact ⟨_, by rw [← hq.1]; rfl, hO, hN, hB⟩

end Go.Proofs.YtpbokgeaolpiaabGreat
