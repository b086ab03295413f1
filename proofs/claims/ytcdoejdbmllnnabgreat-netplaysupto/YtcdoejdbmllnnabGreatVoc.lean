/- What the document's writer does with records and numbers, whatever they hold. Made by program (wip/gen/out.py). -/
import Derived.Test.YtcdoejdbmllnnabGreatVob
namespace Go.Proofs.YtcdoejdbmllnnabGreat
open Go.RowKit

set_option maxHeartbeats 2000000 in
set_option maxRecDepth 100000 in
theorem result_o (p : Nat) (l : List UInt8) (bad : Bool) (prot S : Nat → Prop) (cs : List Value) (v : Vl F_result) (w : World) (hl : l.length + szb F_result v ≤ 137438953472) (hS : ∀ b, S b → prot b) (hr : Rep w S F_result cs v) (h : WR w p l bad prot) :
    Calls Tryz.prog 45 #[.pointer (some ⟨p, 0, none⟩), .agg cs.toArray] w fun e w' => e = .returned (.tuple #[]) ∧ WR w' p (l ++ (enR F_result v).1) (bad || (enR F_result v).2) prot ∧ Kp w w' prot := by
  obtain ⟨x0, x1, a2, c2, v2, rfl, rfl, h2⟩ := open_result hr
  rw [szb_result] at hl
  have hl2 : Hid (l.length + (6 + (6 + (szb (.lst F_alloc) v2))) ≤ 137438953472) := hl
  have hW0 : WR (w.alloc (.cells [.int .i64 x0, .int .i64 x1, .slice a2 v2.length c2].toArray 48)) p l bad (fun b => prot b ∨ b = w.heap.size) := h.box _
  have hA0 := Kp.alloc w (.cells [.int .i64 x0, .int .i64 x1, .slice a2 v2.length c2].toArray 48) prot h.2.1
  have hq0 : ∀ o, (w.alloc (.cells [.int .i64 x0, .int .i64 x1, .slice a2 v2.length c2].toArray 48)).cell? ⟨w.heap.size, o, none⟩ = (w.alloc (.cells [.int .i64 x0, .int .i64 x1, .slice a2 v2.length c2].toArray 48)).cell? ⟨w.heap.size, o, none⟩ := fun _ => rfl
  have HP : Hid (∀ b, S b → prot b) := hS
  have HS : Hid (∀ b, S b → (fun b => prot b ∨ b = w.heap.size) b) := fun b hb => .inl (hS b hb)
  clear h hr hS hl hq0
  go_enter Tryz.func45, Tryz.ntmps45
  go_wp2_with fail
  refine (num_o p l bad (fun b => prot b ∨ b = w.heap.size) x0 _ (by have := hl2.out; omega) hW0).mono ?_
  rintro e w1 ⟨rfl, hW1, hK1⟩
  have hA1 := hA0.trans (hK1.mono (fun _ x => .inl x))
  have hq1 : ∀ o, w1.cell? ⟨w.heap.size, o, none⟩ = (w.alloc (.cells [.int .i64 x0, .int .i64 x1, .slice a2 v2.length c2].toArray 48)).cell? ⟨w.heap.size, o, none⟩ := fun o => hK1.cell (a := ⟨w.heap.size, o, none⟩) (.inr rfl)
  clear hW0 hK1 hA0
  go_wp2_with fail
  refine (num_o p (l ++ (enN x0).1) (bad || (enN x0).2) (fun b => prot b ∨ b = w.heap.size) x1 _ (by have := hl2.out; have := enN_len x0; simp only [List.length_append]; omega) hW1).mono ?_
  rintro e w2 ⟨rfl, hW2, hK2⟩
  have hA2 := hA1.trans (hK2.mono (fun _ x => .inl x))
  have hq2 : ∀ o, w2.cell? ⟨w.heap.size, o, none⟩ = (w.alloc (.cells [.int .i64 x0, .int .i64 x1, .slice a2 v2.length c2].toArray 48)).cell? ⟨w.heap.size, o, none⟩ := fun o => (hK2.cell (a := ⟨w.heap.size, o, none⟩) (.inr rfl)).trans (hq1 o)
  clear hW1 hK2 hA1 hq1
  go_wp2_with fail
  refine (allocs_o p (l ++ (enN x0).1 ++ (enN x1).1) (bad || (enN x0).2 || (enN x1).2) (fun b => prot b ∨ b = w.heap.size) S a2 c2 v2 _ (by have := hl2.out; have := enN_len x0; have := enN_len x1; simp only [List.length_append]; omega) HS.out (h2.kept hA2.size (fun b hb => hA2.block b (HP.out b hb)) (fun _ x => x)) hW2).mono ?_
  rintro e w3 ⟨rfl, hW3, hK3⟩
  have hA3 := hA2.trans (hK3.mono (fun _ x => .inl x))
  have hq3 : ∀ o, w3.cell? ⟨w.heap.size, o, none⟩ = (w.alloc (.cells [.int .i64 x0, .int .i64 x1, .slice a2 v2.length c2].toArray 48)).cell? ⟨w.heap.size, o, none⟩ := fun o => (hK3.cell (a := ⟨w.heap.size, o, none⟩) (.inr rfl)).trans (hq2 o)
  clear hW2 hK3 hA2 hq2
  have HW : Hid (WR _ _ _ _ _) := hW3
  clear hW3
  go_wp2
  go_end0
  have hWf := HW.out
  have e1 : (l ++ (enN x0).1 ++ (enN x1).1 ++ (enR (.lst F_alloc) v2).1) = l ++ (enR F_result (x0, x1, v2)).1 := by rw [enR_result]; simp only [List.append_assoc]
  have e2 : (bad || (enN x0).2 || (enN x1).2 || (enR (.lst F_alloc) v2).2) = (bad || (enR F_result (x0, x1, v2)).2) := by rw [enR_result]; simp only [Bool.or_assoc]
  rw [e1, e2] at hWf
  exact ⟨rfl, hWf.mono (fun _ x => .inl x), hA3⟩


set_option maxHeartbeats 2000000 in
set_option maxRecDepth 100000 in
theorem entry_o (p : Nat) (l : List UInt8) (bad : Bool) (prot S : Nat → Prop) (cs : List Value) (v : Vl F_entry) (w : World) (hl : l.length + szb F_entry v ≤ 137438953472) (hS : ∀ b, S b → prot b) (hr : Rep w S F_entry cs v) (h : WR w p l bad prot) :
    Calls Tryz.prog 41 #[.pointer (some ⟨p, 0, none⟩), .agg cs.toArray] w fun e w' => e = .returned (.tuple #[]) ∧ WR w' p (l ++ (enR F_entry v).1) (bad || (enR F_entry v).2) prot ∧ Kp w w' prot := by
  obtain ⟨x0, x1, y2_0, y2_1, y2_2, y2_3, y2_4, y2_5, y2_6, y2_7, y2_8, y2_9, y2_10, y2_11, y2_12, y2_13, y2_14, y2_15, y2_16, y2_17, y2_18, y2_19, y2_20, y2_21, y2_22, y2_23, y2_24, y2_25, y2_26, v2, rfl, rfl, h2⟩ := open_entry hr
  rw [szb_entry] at hl
  have hl2 : Hid (l.length + (6 + (6 + (szb F_cmd v2))) ≤ 137438953472) := hl
  have hW0 : WR (w.alloc (.cells [.int .i64 x0, .int .i64 x1, y2_0, y2_1, y2_2, y2_3, y2_4, y2_5, y2_6, y2_7, y2_8, y2_9, y2_10, y2_11, y2_12, y2_13, y2_14, y2_15, y2_16, y2_17, y2_18, y2_19, y2_20, y2_21, y2_22, y2_23, y2_24, y2_25, y2_26].toArray 81)) p l bad (fun b => prot b ∨ b = w.heap.size) := h.box _
  have hA0 := Kp.alloc w (.cells [.int .i64 x0, .int .i64 x1, y2_0, y2_1, y2_2, y2_3, y2_4, y2_5, y2_6, y2_7, y2_8, y2_9, y2_10, y2_11, y2_12, y2_13, y2_14, y2_15, y2_16, y2_17, y2_18, y2_19, y2_20, y2_21, y2_22, y2_23, y2_24, y2_25, y2_26].toArray 81) prot h.2.1
  have hq0 : ∀ o, (w.alloc (.cells [.int .i64 x0, .int .i64 x1, y2_0, y2_1, y2_2, y2_3, y2_4, y2_5, y2_6, y2_7, y2_8, y2_9, y2_10, y2_11, y2_12, y2_13, y2_14, y2_15, y2_16, y2_17, y2_18, y2_19, y2_20, y2_21, y2_22, y2_23, y2_24, y2_25, y2_26].toArray 81)).cell? ⟨w.heap.size, o, none⟩ = (w.alloc (.cells [.int .i64 x0, .int .i64 x1, y2_0, y2_1, y2_2, y2_3, y2_4, y2_5, y2_6, y2_7, y2_8, y2_9, y2_10, y2_11, y2_12, y2_13, y2_14, y2_15, y2_16, y2_17, y2_18, y2_19, y2_20, y2_21, y2_22, y2_23, y2_24, y2_25, y2_26].toArray 81)).cell? ⟨w.heap.size, o, none⟩ := fun _ => rfl
  have HP : Hid (∀ b, S b → prot b) := hS
  have HS : Hid (∀ b, S b → (fun b => prot b ∨ b = w.heap.size) b) := fun b hb => .inl (hS b hb)
  clear h hr hS hl hq0
  go_enter Tryz.func41, Tryz.ntmps41
  go_wp2_with fail
  refine (num_o p l bad (fun b => prot b ∨ b = w.heap.size) x0 _ (by have := hl2.out; omega) hW0).mono ?_
  rintro e w1 ⟨rfl, hW1, hK1⟩
  have hA1 := hA0.trans (hK1.mono (fun _ x => .inl x))
  have hq1 : ∀ o, w1.cell? ⟨w.heap.size, o, none⟩ = (w.alloc (.cells [.int .i64 x0, .int .i64 x1, y2_0, y2_1, y2_2, y2_3, y2_4, y2_5, y2_6, y2_7, y2_8, y2_9, y2_10, y2_11, y2_12, y2_13, y2_14, y2_15, y2_16, y2_17, y2_18, y2_19, y2_20, y2_21, y2_22, y2_23, y2_24, y2_25, y2_26].toArray 81)).cell? ⟨w.heap.size, o, none⟩ := fun o => hK1.cell (a := ⟨w.heap.size, o, none⟩) (.inr rfl)
  clear hW0 hK1 hA0
  go_wp2_with fail
  refine (num_o p (l ++ (enN x0).1) (bad || (enN x0).2) (fun b => prot b ∨ b = w.heap.size) x1 _ (by have := hl2.out; have := enN_len x0; simp only [List.length_append]; omega) hW1).mono ?_
  rintro e w2 ⟨rfl, hW2, hK2⟩
  have hA2 := hA1.trans (hK2.mono (fun _ x => .inl x))
  have hq2 : ∀ o, w2.cell? ⟨w.heap.size, o, none⟩ = (w.alloc (.cells [.int .i64 x0, .int .i64 x1, y2_0, y2_1, y2_2, y2_3, y2_4, y2_5, y2_6, y2_7, y2_8, y2_9, y2_10, y2_11, y2_12, y2_13, y2_14, y2_15, y2_16, y2_17, y2_18, y2_19, y2_20, y2_21, y2_22, y2_23, y2_24, y2_25, y2_26].toArray 81)).cell? ⟨w.heap.size, o, none⟩ := fun o => (hK2.cell (a := ⟨w.heap.size, o, none⟩) (.inr rfl)).trans (hq1 o)
  clear hW1 hK2 hA1 hq1
  have hrg : Hid (World.rangeAt w2 w.heap.size 2 [y2_0, y2_1, y2_2, y2_3, y2_4, y2_5, y2_6, y2_7, y2_8, y2_9, y2_10, y2_11, y2_12, y2_13, y2_14, y2_15, y2_16, y2_17, y2_18, y2_19, y2_20, y2_21, y2_22, y2_23, y2_24, y2_25, y2_26]) := by
    intro jj u hu
    rw [hq2 (2 + jj), cell_of_row _ _ _ _ 81 (0, 0) (heap_alloc_new w _)]
    have : ([.int .i64 x0, .int .i64 x1, y2_0, y2_1, y2_2, y2_3, y2_4, y2_5, y2_6, y2_7, y2_8, y2_9, y2_10, y2_11, y2_12, y2_13, y2_14, y2_15, y2_16, y2_17, y2_18, y2_19, y2_20, y2_21, y2_22, y2_23, y2_24, y2_25, y2_26].drop 2)[jj]? = some u := by
      rw [show [.int .i64 x0, .int .i64 x1, y2_0, y2_1, y2_2, y2_3, y2_4, y2_5, y2_6, y2_7, y2_8, y2_9, y2_10, y2_11, y2_12, y2_13, y2_14, y2_15, y2_16, y2_17, y2_18, y2_19, y2_20, y2_21, y2_22, y2_23, y2_24, y2_25, y2_26].drop 2 = [y2_0, y2_1, y2_2, y2_3, y2_4, y2_5, y2_6, y2_7, y2_8, y2_9, y2_10, y2_11, y2_12, y2_13, y2_14, y2_15, y2_16, y2_17, y2_18, y2_19, y2_20, y2_21, y2_22, y2_23, y2_24, y2_25, y2_26] ++ [] from rfl, List.getElem?_append_left (List.getElem?_eq_some_iff.1 hu).1]
      exact hu
    rw [List.getElem?_drop] at this
    simpa using this
  have hI : Hid ((Tryz.prog.info? 45).map (·.size) = some [y2_0, y2_1, y2_2, y2_3, y2_4, y2_5, y2_6, y2_7, y2_8, y2_9, y2_10, y2_11, y2_12, y2_13, y2_14, y2_15, y2_16, y2_17, y2_18, y2_19, y2_20, y2_21, y2_22, y2_23, y2_24, y2_25, y2_26].length) := by show _ = _; kernel_rfl
  go_wp2_with (refine wpList_load_mid rfl 45 (.tmp 13) rfl w.heap.size 2 rfl [y2_0, y2_1, y2_2, y2_3, y2_4, y2_5, y2_6, y2_7, y2_8, y2_9, y2_10, y2_11, y2_12, y2_13, y2_14, y2_15, y2_16, y2_17, y2_18, y2_19, y2_20, y2_21, y2_22, y2_23, y2_24, y2_25, y2_26] _ hrg.out Tryz.underlying45 rfl hI.out ?_)
  refine (cmd_o p (l ++ (enN x0).1 ++ (enN x1).1) (bad || (enN x0).2 || (enN x1).2) (fun b => prot b ∨ b = w.heap.size) S [y2_0, y2_1, y2_2, y2_3, y2_4, y2_5, y2_6, y2_7, y2_8, y2_9, y2_10, y2_11, y2_12, y2_13, y2_14, y2_15, y2_16, y2_17, y2_18, y2_19, y2_20, y2_21, y2_22, y2_23, y2_24, y2_25, y2_26] v2 _ (by have := hl2.out; have := enN_len x0; have := enN_len x1; simp only [List.length_append]; omega) HS.out (h2.kept hA2.size (fun b hb => hA2.block b (HP.out b hb)) (fun _ x => x)) hW2).mono ?_
  rintro e w3 ⟨rfl, hW3, hK3⟩
  have hA3 := hA2.trans (hK3.mono (fun _ x => .inl x))
  have hq3 : ∀ o, w3.cell? ⟨w.heap.size, o, none⟩ = (w.alloc (.cells [.int .i64 x0, .int .i64 x1, y2_0, y2_1, y2_2, y2_3, y2_4, y2_5, y2_6, y2_7, y2_8, y2_9, y2_10, y2_11, y2_12, y2_13, y2_14, y2_15, y2_16, y2_17, y2_18, y2_19, y2_20, y2_21, y2_22, y2_23, y2_24, y2_25, y2_26].toArray 81)).cell? ⟨w.heap.size, o, none⟩ := fun o => (hK3.cell (a := ⟨w.heap.size, o, none⟩) (.inr rfl)).trans (hq2 o)
  clear hW2 hK3 hA2 hq2
  have HW : Hid (WR _ _ _ _ _) := hW3
  clear hW3
  go_wp2
  go_end0
  have hWf := HW.out
  have e1 : (l ++ (enN x0).1 ++ (enN x1).1 ++ (enR F_cmd v2).1) = l ++ (enR F_entry (x0, x1, v2)).1 := by rw [enR_entry]; simp only [List.append_assoc]
  have e2 : (bad || (enN x0).2 || (enN x1).2 || (enR F_cmd v2).2) = (bad || (enR F_entry (x0, x1, v2)).2) := by rw [enR_entry]; simp only [Bool.or_assoc]
  rw [e1, e2] at hWf
  exact ⟨rfl, hWf.mono (fun _ x => .inl x), hA3⟩


theorem range_new (w : World) (cs : List Value) (e : TypeId) : (w.alloc (.cells cs.toArray e)).rangeAt w.heap.size 0 cs := by
  intro j v hv
  rw [cell_of_row _ _ _ cs.toArray e (0, 0) (heap_alloc_new w _), Nat.zero_add]
  simpa using hv

set_option maxHeartbeats 1000000 in
set_option maxRecDepth 100000 in
theorem Nums16_o (p : Nat) (l : List UInt8) (bad : Bool) (prot : Nat → Prop) (vs : List Int) (b off c : Nat) (w : World) (hl : l.length + 6 * vs.length ≤ 137438953472) (hb : prot b) (hr : w.rangeAt b off (vs.map fun n => Value.int .i64 n)) (h : WR w p l bad prot) :
    Calls Tryz.prog 38 #[.pointer (some ⟨p, 0, none⟩), .slice (some ⟨b, off, none⟩) vs.length c] w fun e w' => e = .returned (.tuple #[]) ∧ WR w' p (l ++ vs.flatMap fun n => (enN n).1) (bad || vs.any fun n => (enN n).2) prot ∧ Kp w w' prot := by
  have hl2 : Hid (l.length + 6 * vs.length ≤ 137438953472) := hl
  have hN : vs.length ≤ 137438953472 := by omega
  have HPB : Hid (prot b) := hb
  have HR : Hid (w.rangeAt b off (vs.map fun n => Value.int .i64 n)) := hr
  clear hl hb hr
  go_enter Tryz.func38, Tryz.ntmps38
  go_wp2
  go_loopw [4] (fun i wr => ∃ k : Nat, k ≤ vs.length ∧ i = .int .i64 k ∧ WR wr p (l ++ (vs.take k).flatMap fun n => (enN n).1) (bad || (vs.take k).any fun n => (enN n).2) prot ∧ Kp w wr prot) (fun i _ => vs.length - (intOf i).toNat)
  case atStart => exact ⟨0, Nat.zero_le _, rfl, by simpa using h, Kp.refl _ _⟩
  case round =>
      obtain ⟨k, hk, rfl, hWk, hKk⟩ := hrel
      by_cases hlt : k < vs.length
      · have hcell : wr.cell? ⟨b, off + k, none⟩ = some (.int .i64 vs[k]) := rangeAt_kept HR.out (hKk.block b HPB.out) k _ (by simp [hlt])
        have HLK : Hid ((l ++ (vs.take k).flatMap fun n => (enN n).1).length + 6 ≤ 137438953472) := by
          have h3 := hl2.out
          show _ ≤ _
          have h4 := flat_len (fun n : Int => (enN n).1) 6 (fun n => enN_len n) (vs.take k)
          rw [List.length_take] at h4
          simp only [List.length_append]
          omega
        have hcell2 := hcell
        generalize HVK : vs[k] = vk at hcell2
        clear hcell
        go_wp2_with fail
        have hHVK : Hid (vs[k] = vk) := HVK
        clear HVK
        refine (num_o p _ _ prot vk wr HLK.out hWk).mono ?_
        rw [← hHVK.out]
        rintro e w3 ⟨rfl, hW3, hK3⟩
        have E1 : Hid ((vs.take (k + 1)).flatMap (fun n => (enN n).1) = (vs.take k).flatMap (fun n => (enN n).1) ++ (enN vs[k]).1) := by
          show _ = _
          rw [← List.take_append_getElem hlt, List.flatMap_append]; simp
        have E2 : Hid ((vs.take (k + 1)).any (fun n => (enN n).2) = ((vs.take k).any (fun n => (enN n).2) || (enN vs[k]).2)) := by
          show _ = _
          rw [← List.take_append_getElem hlt, List.any_append]; simp
        go_wp2
        refine ⟨⟨k + 1, by omega, by go_num, ?_, hKk.trans hK3⟩, by simp [intOf]; omega⟩
        rw [E1.out, E2.out, ← List.append_assoc, ← Bool.or_assoc]
        exact hW3
      · have hkN : k = vs.length := by omega
        subst hkN
        go_wp2
        go_end0
        rw [List.take_of_length_le (Nat.le_refl _)] at hWk
        exact ⟨rfl, hWk, hKk⟩

end Go.Proofs.YtcdoejdbmllnnabGreat
