/- What the writer does with lists and records, whatever they hold. Made by program (wip/gen/wr.py). -/
import Derived.Test.YtpbokgeaolpiaabGreatVwa
namespace Go.Proofs.YtpbokgeaolpiaabGreat
open Go.RowKit

set_option maxHeartbeats 1000000 in
set_option maxRecDepth 100000 in
theorem job_w (p : Nat) (l : List UInt8) (bad : Bool) (prot S : Nat → Prop) (cs : List Value) (v : Vl F_job) (w : World) (hl : l.length + 1194 ≤ 137438953472) (hS : ∀ b, S b → prot b) (hr : Rep w S F_job cs v) (h : WR w p l bad prot) :
    Calls Tryz.prog 66 #[.pointer (some ⟨p, 0, none⟩), .agg cs.toArray] w fun e w' => e = .returned (.tuple #[]) ∧ WR w' p (l ++ (en F_job v).1) (bad || (en F_job v).2) prot ∧ Kp w w' prot := by
  have hmf : ∀ (fn : Fn) (first cap : Array Value) (w : World), (Instr.makeFunc fn first cap).run Tryz.prog w = .ok (.func fn first cap) w := fun _ _ _ _ => rfl
  obtain ⟨x0, x1, x2, x3, a4, c4, v4, x5, x6, rfl, rfl, h4⟩ := open_job hr
  have hl2 : Hid (l.length + 1194 ≤ 137438953472) := hl
  have hW0 : WR (w.alloc (.cells [.int .i64 x0, .int .i64 x1, .int .i64 x2, .int .i64 x3, .slice a4 v4.length c4, .int .i64 x5, .bool x6].toArray 25)) p l bad (fun b => prot b ∨ b = w.heap.size) := h.box _
  have hA0 := Kp.alloc w (.cells [.int .i64 x0, .int .i64 x1, .int .i64 x2, .int .i64 x3, .slice a4 v4.length c4, .int .i64 x5, .bool x6].toArray 25) prot h.2.1
  have HP : Hid (∀ b, S b → prot b) := hS
  have HS : Hid (∀ b, S b → (fun b => prot b ∨ b = w.heap.size) b) := fun b hb => .inl (hS b hb)
  clear h hr hS hl
  go_enter Tryz.func66, Tryz.ntmps66
  go_wp2_with fail
  refine (number_w p l bad (fun b => prot b ∨ b = w.heap.size) x0 _ (by have := hl2.out; omega) hW0).mono ?_
  rintro e w1 ⟨rfl, hW1, hK1⟩
  have hA1 := hA0.trans (hK1.mono (fun _ x => .inl x))
  have hq1 : ∀ o, w1.cell? ⟨w.heap.size, o, none⟩ = (w.alloc (.cells [.int .i64 x0, .int .i64 x1, .int .i64 x2, .int .i64 x3, .slice a4 v4.length c4, .int .i64 x5, .bool x6].toArray 25)).cell? ⟨w.heap.size, o, none⟩ := fun o => hK1.cell (a := ⟨w.heap.size, o, none⟩) (.inr rfl)
  clear hW0 hK1 hA0
  go_wp2_with fail
  refine (number_w p (l ++ (enN x0).1) (bad || (enN x0).2) (fun b => prot b ∨ b = w.heap.size) x1 _ (by have := hl2.out; have := enN_len x0; simp only [List.length_append]; omega) hW1).mono ?_
  rintro e w2 ⟨rfl, hW2, hK2⟩
  have hA2 := hA1.trans (hK2.mono (fun _ x => .inl x))
  have hq2 : ∀ o, w2.cell? ⟨w.heap.size, o, none⟩ = (w.alloc (.cells [.int .i64 x0, .int .i64 x1, .int .i64 x2, .int .i64 x3, .slice a4 v4.length c4, .int .i64 x5, .bool x6].toArray 25)).cell? ⟨w.heap.size, o, none⟩ := fun o => (hK2.cell (a := ⟨w.heap.size, o, none⟩) (.inr rfl)).trans (hq1 o)
  clear hW1 hK2 hA1 hq1
  go_wp2_with fail
  refine (number_w p (l ++ (enN x0).1 ++ (enN x1).1) (bad || (enN x0).2 || (enN x1).2) (fun b => prot b ∨ b = w.heap.size) x2 _ (by have := hl2.out; have := enN_len x0; have := enN_len x1; simp only [List.length_append]; omega) hW2).mono ?_
  rintro e w3 ⟨rfl, hW3, hK3⟩
  have hA3 := hA2.trans (hK3.mono (fun _ x => .inl x))
  have hq3 : ∀ o, w3.cell? ⟨w.heap.size, o, none⟩ = (w.alloc (.cells [.int .i64 x0, .int .i64 x1, .int .i64 x2, .int .i64 x3, .slice a4 v4.length c4, .int .i64 x5, .bool x6].toArray 25)).cell? ⟨w.heap.size, o, none⟩ := fun o => (hK3.cell (a := ⟨w.heap.size, o, none⟩) (.inr rfl)).trans (hq2 o)
  clear hW2 hK3 hA2 hq2
  go_wp2_with fail
  refine (number_w p (l ++ (enN x0).1 ++ (enN x1).1 ++ (enN x2).1) (bad || (enN x0).2 || (enN x1).2 || (enN x2).2) (fun b => prot b ∨ b = w.heap.size) x3 _ (by have := hl2.out; have := enN_len x0; have := enN_len x1; have := enN_len x2; simp only [List.length_append]; omega) hW3).mono ?_
  rintro e w4 ⟨rfl, hW4, hK4⟩
  have hA4 := hA3.trans (hK4.mono (fun _ x => .inl x))
  have hq4 : ∀ o, w4.cell? ⟨w.heap.size, o, none⟩ = (w.alloc (.cells [.int .i64 x0, .int .i64 x1, .int .i64 x2, .int .i64 x3, .slice a4 v4.length c4, .int .i64 x5, .bool x6].toArray 25)).cell? ⟨w.heap.size, o, none⟩ := fun o => (hK4.cell (a := ⟨w.heap.size, o, none⟩) (.inr rfl)).trans (hq3 o)
  clear hW3 hK4 hA3 hq3
  go_wp2_with fail
  refine (listGroup_w p (l ++ (enN x0).1 ++ (enN x1).1 ++ (enN x2).1 ++ (enN x3).1) (bad || (enN x0).2 || (enN x1).2 || (enN x2).2 || (enN x3).2) (fun b => prot b ∨ b = w.heap.size) S a4 c4 v4 _ (by have := hl2.out; have := enN_len x0; have := enN_len x1; have := enN_len x2; have := enN_len x3; simp only [List.length_append]; omega) HS.out (h4.kept hA4.size (fun b hb => hA4.block b (HP.out b hb)) (fun _ x => x)) hW4).mono ?_
  rintro e w5 ⟨rfl, hW5, hK5⟩
  have hA5 := hA4.trans (hK5.mono (fun _ x => .inl x))
  have hq5 : ∀ o, w5.cell? ⟨w.heap.size, o, none⟩ = (w.alloc (.cells [.int .i64 x0, .int .i64 x1, .int .i64 x2, .int .i64 x3, .slice a4 v4.length c4, .int .i64 x5, .bool x6].toArray 25)).cell? ⟨w.heap.size, o, none⟩ := fun o => (hK5.cell (a := ⟨w.heap.size, o, none⟩) (.inr rfl)).trans (hq4 o)
  clear hW4 hK5 hA4 hq4
  go_wp2_with fail
  refine (number_w p (l ++ (enN x0).1 ++ (enN x1).1 ++ (enN x2).1 ++ (enN x3).1 ++ (en (.lst F_group) v4).1) (bad || (enN x0).2 || (enN x1).2 || (enN x2).2 || (enN x3).2 || (en (.lst F_group) v4).2) (fun b => prot b ∨ b = w.heap.size) x5 _ (by have := hl2.out; have := enN_len x0; have := enN_len x1; have := enN_len x2; have := enN_len x3; have := len_l_group v4; simp only [List.length_append]; omega) hW5).mono ?_
  rintro e w6 ⟨rfl, hW6, hK6⟩
  have hA6 := hA5.trans (hK6.mono (fun _ x => .inl x))
  have hq6 : ∀ o, w6.cell? ⟨w.heap.size, o, none⟩ = (w.alloc (.cells [.int .i64 x0, .int .i64 x1, .int .i64 x2, .int .i64 x3, .slice a4 v4.length c4, .int .i64 x5, .bool x6].toArray 25)).cell? ⟨w.heap.size, o, none⟩ := fun o => (hK6.cell (a := ⟨w.heap.size, o, none⟩) (.inr rfl)).trans (hq5 o)
  clear hW5 hK6 hA5 hq5
  go_wp2_with fail
  refine (truth_w p (l ++ (enN x0).1 ++ (enN x1).1 ++ (enN x2).1 ++ (enN x3).1 ++ (en (.lst F_group) v4).1 ++ (enN x5).1) (bad || (enN x0).2 || (enN x1).2 || (enN x2).2 || (enN x3).2 || (en (.lst F_group) v4).2 || (enN x5).2) (fun b => prot b ∨ b = w.heap.size) x6 _ (by have := hl2.out; have := enN_len x0; have := enN_len x1; have := enN_len x2; have := enN_len x3; have := len_l_group v4; have := enN_len x5; simp only [List.length_append]; omega) hW6).mono ?_
  rintro e w7 ⟨rfl, hW7, hK7⟩
  have hA7 := hA6.trans (hK7.mono (fun _ x => .inl x))
  have hq7 : ∀ o, w7.cell? ⟨w.heap.size, o, none⟩ = (w.alloc (.cells [.int .i64 x0, .int .i64 x1, .int .i64 x2, .int .i64 x3, .slice a4 v4.length c4, .int .i64 x5, .bool x6].toArray 25)).cell? ⟨w.heap.size, o, none⟩ := fun o => (hK7.cell (a := ⟨w.heap.size, o, none⟩) (.inr rfl)).trans (hq6 o)
  clear hW6 hK7 hA6 hq6
  go_wp2
  go_end0
  have e1 : l ++ (enN x0).1 ++ (enN x1).1 ++ (enN x2).1 ++ (enN x3).1 ++ (en (.lst F_group) v4).1 ++ (enN x5).1 ++ (en .tru x6).1 = l ++ (en F_job (x0, x1, x2, x3, v4, x5, x6)).1 := by rw [en_job]; simp only [List.append_assoc]
  have e2 : (bad || (enN x0).2 || (enN x1).2 || (enN x2).2 || (enN x3).2 || (en (.lst F_group) v4).2 || (enN x5).2 || (en .tru x6).2) = (bad || (en F_job (x0, x1, x2, x3, v4, x5, x6)).2) := by rw [en_job]; simp only [Bool.or_assoc]
  rw [e1, e2] at hW7
  exact ⟨rfl, hW7.mono (fun _ x => .inl x), hA7⟩


set_option maxHeartbeats 1000000 in
set_option maxRecDepth 100000 in
theorem node_w (p : Nat) (l : List UInt8) (bad : Bool) (prot S : Nat → Prop) (cs : List Value) (v : Vl F_node) (w : World) (hl : l.length + 48 ≤ 137438953472) (hS : ∀ b, S b → prot b) (hr : Rep w S F_node cs v) (h : WR w p l bad prot) :
    Calls Tryz.prog 67 #[.pointer (some ⟨p, 0, none⟩), .agg cs.toArray] w fun e w' => e = .returned (.tuple #[]) ∧ WR w' p (l ++ (en F_node v).1) (bad || (en F_node v).2) prot ∧ Kp w w' prot := by
  have hmf : ∀ (fn : Fn) (first cap : Array Value) (w : World), (Instr.makeFunc fn first cap).run Tryz.prog w = .ok (.func fn first cap) w := fun _ _ _ _ => rfl
  obtain ⟨x0, y1_0, y1_1, v1, x2, x3, x4, x5, x6, rfl, rfl, h1⟩ := open_node hr
  have hl2 : Hid (l.length + 48 ≤ 137438953472) := hl
  have hW0 : WR (w.alloc (.cells [.int .i64 x0, y1_0, y1_1, .bool x2, .bool x3, .int .i64 x4, .int .i64 x5, .int .i64 x6].toArray 29)) p l bad (fun b => prot b ∨ b = w.heap.size) := h.box _
  have hA0 := Kp.alloc w (.cells [.int .i64 x0, y1_0, y1_1, .bool x2, .bool x3, .int .i64 x4, .int .i64 x5, .int .i64 x6].toArray 29) prot h.2.1
  have HP : Hid (∀ b, S b → prot b) := hS
  have HS : Hid (∀ b, S b → (fun b => prot b ∨ b = w.heap.size) b) := fun b hb => .inl (hS b hb)
  clear h hr hS hl
  go_enter Tryz.func67, Tryz.ntmps67
  go_wp2_with fail
  refine (number_w p l bad (fun b => prot b ∨ b = w.heap.size) x0 _ (by have := hl2.out; omega) hW0).mono ?_
  rintro e w1 ⟨rfl, hW1, hK1⟩
  have hA1 := hA0.trans (hK1.mono (fun _ x => .inl x))
  have hq1 : ∀ o, w1.cell? ⟨w.heap.size, o, none⟩ = (w.alloc (.cells [.int .i64 x0, y1_0, y1_1, .bool x2, .bool x3, .int .i64 x4, .int .i64 x5, .int .i64 x6].toArray 29)).cell? ⟨w.heap.size, o, none⟩ := fun o => hK1.cell (a := ⟨w.heap.size, o, none⟩) (.inr rfl)
  clear hW0 hK1 hA0
  go_wp2_with fail
  refine (res_w p (l ++ (enN x0).1) (bad || (enN x0).2) (fun b => prot b ∨ b = w.heap.size) S [y1_0, y1_1] v1 _ (by have := hl2.out; have := enN_len x0; simp only [List.length_append]; omega) HS.out (h1.kept hA1.size (fun b hb => hA1.block b (HP.out b hb)) (fun _ x => x)) hW1).mono ?_
  rintro e w2 ⟨rfl, hW2, hK2⟩
  have hA2 := hA1.trans (hK2.mono (fun _ x => .inl x))
  have hq2 : ∀ o, w2.cell? ⟨w.heap.size, o, none⟩ = (w.alloc (.cells [.int .i64 x0, y1_0, y1_1, .bool x2, .bool x3, .int .i64 x4, .int .i64 x5, .int .i64 x6].toArray 29)).cell? ⟨w.heap.size, o, none⟩ := fun o => (hK2.cell (a := ⟨w.heap.size, o, none⟩) (.inr rfl)).trans (hq1 o)
  clear hW1 hK2 hA1 hq1
  go_wp2_with fail
  refine (truth_w p (l ++ (enN x0).1 ++ (en F_res v1).1) (bad || (enN x0).2 || (en F_res v1).2) (fun b => prot b ∨ b = w.heap.size) x2 _ (by have := hl2.out; have := enN_len x0; have := len_res v1; simp only [List.length_append]; omega) hW2).mono ?_
  rintro e w3 ⟨rfl, hW3, hK3⟩
  have hA3 := hA2.trans (hK3.mono (fun _ x => .inl x))
  have hq3 : ∀ o, w3.cell? ⟨w.heap.size, o, none⟩ = (w.alloc (.cells [.int .i64 x0, y1_0, y1_1, .bool x2, .bool x3, .int .i64 x4, .int .i64 x5, .int .i64 x6].toArray 29)).cell? ⟨w.heap.size, o, none⟩ := fun o => (hK3.cell (a := ⟨w.heap.size, o, none⟩) (.inr rfl)).trans (hq2 o)
  clear hW2 hK3 hA2 hq2
  go_wp2_with fail
  refine (truth_w p (l ++ (enN x0).1 ++ (en F_res v1).1 ++ (en .tru x2).1) (bad || (enN x0).2 || (en F_res v1).2 || (en .tru x2).2) (fun b => prot b ∨ b = w.heap.size) x3 _ (by have := hl2.out; have := enN_len x0; have := len_res v1; have := len_tru x2; simp only [List.length_append]; omega) hW3).mono ?_
  rintro e w4 ⟨rfl, hW4, hK4⟩
  have hA4 := hA3.trans (hK4.mono (fun _ x => .inl x))
  have hq4 : ∀ o, w4.cell? ⟨w.heap.size, o, none⟩ = (w.alloc (.cells [.int .i64 x0, y1_0, y1_1, .bool x2, .bool x3, .int .i64 x4, .int .i64 x5, .int .i64 x6].toArray 29)).cell? ⟨w.heap.size, o, none⟩ := fun o => (hK4.cell (a := ⟨w.heap.size, o, none⟩) (.inr rfl)).trans (hq3 o)
  clear hW3 hK4 hA3 hq3
  go_wp2_with fail
  refine (number_w p (l ++ (enN x0).1 ++ (en F_res v1).1 ++ (en .tru x2).1 ++ (en .tru x3).1) (bad || (enN x0).2 || (en F_res v1).2 || (en .tru x2).2 || (en .tru x3).2) (fun b => prot b ∨ b = w.heap.size) x4 _ (by have := hl2.out; have := enN_len x0; have := len_res v1; have := len_tru x2; have := len_tru x3; simp only [List.length_append]; omega) hW4).mono ?_
  rintro e w5 ⟨rfl, hW5, hK5⟩
  have hA5 := hA4.trans (hK5.mono (fun _ x => .inl x))
  have hq5 : ∀ o, w5.cell? ⟨w.heap.size, o, none⟩ = (w.alloc (.cells [.int .i64 x0, y1_0, y1_1, .bool x2, .bool x3, .int .i64 x4, .int .i64 x5, .int .i64 x6].toArray 29)).cell? ⟨w.heap.size, o, none⟩ := fun o => (hK5.cell (a := ⟨w.heap.size, o, none⟩) (.inr rfl)).trans (hq4 o)
  clear hW4 hK5 hA4 hq4
  go_wp2_with fail
  refine (number_w p (l ++ (enN x0).1 ++ (en F_res v1).1 ++ (en .tru x2).1 ++ (en .tru x3).1 ++ (enN x4).1) (bad || (enN x0).2 || (en F_res v1).2 || (en .tru x2).2 || (en .tru x3).2 || (enN x4).2) (fun b => prot b ∨ b = w.heap.size) x5 _ (by have := hl2.out; have := enN_len x0; have := len_res v1; have := len_tru x2; have := len_tru x3; have := enN_len x4; simp only [List.length_append]; omega) hW5).mono ?_
  rintro e w6 ⟨rfl, hW6, hK6⟩
  have hA6 := hA5.trans (hK6.mono (fun _ x => .inl x))
  have hq6 : ∀ o, w6.cell? ⟨w.heap.size, o, none⟩ = (w.alloc (.cells [.int .i64 x0, y1_0, y1_1, .bool x2, .bool x3, .int .i64 x4, .int .i64 x5, .int .i64 x6].toArray 29)).cell? ⟨w.heap.size, o, none⟩ := fun o => (hK6.cell (a := ⟨w.heap.size, o, none⟩) (.inr rfl)).trans (hq5 o)
  clear hW5 hK6 hA5 hq5
  go_wp2_with fail
  refine (number_w p (l ++ (enN x0).1 ++ (en F_res v1).1 ++ (en .tru x2).1 ++ (en .tru x3).1 ++ (enN x4).1 ++ (enN x5).1) (bad || (enN x0).2 || (en F_res v1).2 || (en .tru x2).2 || (en .tru x3).2 || (enN x4).2 || (enN x5).2) (fun b => prot b ∨ b = w.heap.size) x6 _ (by have := hl2.out; have := enN_len x0; have := len_res v1; have := len_tru x2; have := len_tru x3; have := enN_len x4; have := enN_len x5; simp only [List.length_append]; omega) hW6).mono ?_
  rintro e w7 ⟨rfl, hW7, hK7⟩
  have hA7 := hA6.trans (hK7.mono (fun _ x => .inl x))
  have hq7 : ∀ o, w7.cell? ⟨w.heap.size, o, none⟩ = (w.alloc (.cells [.int .i64 x0, y1_0, y1_1, .bool x2, .bool x3, .int .i64 x4, .int .i64 x5, .int .i64 x6].toArray 29)).cell? ⟨w.heap.size, o, none⟩ := fun o => (hK7.cell (a := ⟨w.heap.size, o, none⟩) (.inr rfl)).trans (hq6 o)
  clear hW6 hK7 hA6 hq6
  go_wp2
  go_end0
  have e1 : l ++ (enN x0).1 ++ (en F_res v1).1 ++ (en .tru x2).1 ++ (en .tru x3).1 ++ (enN x4).1 ++ (enN x5).1 ++ (enN x6).1 = l ++ (en F_node (x0, v1, x2, x3, x4, x5, x6)).1 := by rw [en_node]; simp only [List.append_assoc]
  have e2 : (bad || (enN x0).2 || (en F_res v1).2 || (en .tru x2).2 || (en .tru x3).2 || (enN x4).2 || (enN x5).2 || (enN x6).2) = (bad || (en F_node (x0, v1, x2, x3, x4, x5, x6)).2) := by rw [en_node]; simp only [Bool.or_assoc]
  rw [e1, e2] at hW7
  exact ⟨rfl, hW7.mono (fun _ x => .inl x), hA7⟩


set_option maxHeartbeats 1000000 in
set_option maxRecDepth 100000 in
theorem plan_w (p : Nat) (l : List UInt8) (bad : Bool) (prot S : Nat → Prop) (cs : List Value) (v : Vl F_plan) (w : World) (hl : l.length + 4644 ≤ 137438953472) (hS : ∀ b, S b → prot b) (hr : Rep w S F_plan cs v) (h : WR w p l bad prot) :
    Calls Tryz.prog 70 #[.pointer (some ⟨p, 0, none⟩), .agg cs.toArray] w fun e w' => e = .returned (.tuple #[]) ∧ WR w' p (l ++ (en F_plan v).1) (bad || (en F_plan v).2) prot ∧ Kp w w' prot := by
  have hmf : ∀ (fn : Fn) (first cap : Array Value) (w : World), (Instr.makeFunc fn first cap).run Tryz.prog w = .ok (.func fn first cap) w := fun _ _ _ _ => rfl
  obtain ⟨x0, x1, x2, a3, c3, v3, a4, c4, v4, x5, rfl, rfl, h3, h4⟩ := open_plan hr
  have hl2 : Hid (l.length + 4644 ≤ 137438953472) := hl
  have hW0 : WR (w.alloc (.cells [.int .i64 x0, .int .i64 x1, .int .i64 x2, .slice a3 v3.length c3, .slice a4 v4.length c4, .bool x5].toArray 34)) p l bad (fun b => prot b ∨ b = w.heap.size) := h.box _
  have hA0 := Kp.alloc w (.cells [.int .i64 x0, .int .i64 x1, .int .i64 x2, .slice a3 v3.length c3, .slice a4 v4.length c4, .bool x5].toArray 34) prot h.2.1
  have HP : Hid (∀ b, S b → prot b) := hS
  have HS : Hid (∀ b, S b → (fun b => prot b ∨ b = w.heap.size) b) := fun b hb => .inl (hS b hb)
  clear h hr hS hl
  go_enter Tryz.func70, Tryz.ntmps70
  go_wp2_with fail
  refine (number_w p l bad (fun b => prot b ∨ b = w.heap.size) x0 _ (by have := hl2.out; omega) hW0).mono ?_
  rintro e w1 ⟨rfl, hW1, hK1⟩
  have hA1 := hA0.trans (hK1.mono (fun _ x => .inl x))
  have hq1 : ∀ o, w1.cell? ⟨w.heap.size, o, none⟩ = (w.alloc (.cells [.int .i64 x0, .int .i64 x1, .int .i64 x2, .slice a3 v3.length c3, .slice a4 v4.length c4, .bool x5].toArray 34)).cell? ⟨w.heap.size, o, none⟩ := fun o => hK1.cell (a := ⟨w.heap.size, o, none⟩) (.inr rfl)
  clear hW0 hK1 hA0
  go_wp2_with fail
  refine (number_w p (l ++ (enN x0).1) (bad || (enN x0).2) (fun b => prot b ∨ b = w.heap.size) x1 _ (by have := hl2.out; have := enN_len x0; simp only [List.length_append]; omega) hW1).mono ?_
  rintro e w2 ⟨rfl, hW2, hK2⟩
  have hA2 := hA1.trans (hK2.mono (fun _ x => .inl x))
  have hq2 : ∀ o, w2.cell? ⟨w.heap.size, o, none⟩ = (w.alloc (.cells [.int .i64 x0, .int .i64 x1, .int .i64 x2, .slice a3 v3.length c3, .slice a4 v4.length c4, .bool x5].toArray 34)).cell? ⟨w.heap.size, o, none⟩ := fun o => (hK2.cell (a := ⟨w.heap.size, o, none⟩) (.inr rfl)).trans (hq1 o)
  clear hW1 hK2 hA1 hq1
  go_wp2_with fail
  refine (number_w p (l ++ (enN x0).1 ++ (enN x1).1) (bad || (enN x0).2 || (enN x1).2) (fun b => prot b ∨ b = w.heap.size) x2 _ (by have := hl2.out; have := enN_len x0; have := enN_len x1; simp only [List.length_append]; omega) hW2).mono ?_
  rintro e w3 ⟨rfl, hW3, hK3⟩
  have hA3 := hA2.trans (hK3.mono (fun _ x => .inl x))
  have hq3 : ∀ o, w3.cell? ⟨w.heap.size, o, none⟩ = (w.alloc (.cells [.int .i64 x0, .int .i64 x1, .int .i64 x2, .slice a3 v3.length c3, .slice a4 v4.length c4, .bool x5].toArray 34)).cell? ⟨w.heap.size, o, none⟩ := fun o => (hK3.cell (a := ⟨w.heap.size, o, none⟩) (.inr rfl)).trans (hq2 o)
  clear hW2 hK3 hA2 hq2
  go_wp2_with fail
  refine (listInt_w p (l ++ (enN x0).1 ++ (enN x1).1 ++ (enN x2).1) (bad || (enN x0).2 || (enN x1).2 || (enN x2).2) (fun b => prot b ∨ b = w.heap.size) S a3 c3 v3 _ (by have := hl2.out; have := enN_len x0; have := enN_len x1; have := enN_len x2; simp only [List.length_append]; omega) HS.out (h3.kept hA3.size (fun b hb => hA3.block b (HP.out b hb)) (fun _ x => x)) hW3).mono ?_
  rintro e w4 ⟨rfl, hW4, hK4⟩
  have hA4 := hA3.trans (hK4.mono (fun _ x => .inl x))
  have hq4 : ∀ o, w4.cell? ⟨w.heap.size, o, none⟩ = (w.alloc (.cells [.int .i64 x0, .int .i64 x1, .int .i64 x2, .slice a3 v3.length c3, .slice a4 v4.length c4, .bool x5].toArray 34)).cell? ⟨w.heap.size, o, none⟩ := fun o => (hK4.cell (a := ⟨w.heap.size, o, none⟩) (.inr rfl)).trans (hq3 o)
  clear hW3 hK4 hA3 hq3
  go_wp2_with fail
  refine (listAlloc_w p (l ++ (enN x0).1 ++ (enN x1).1 ++ (enN x2).1 ++ (en (.lst .num) v3).1) (bad || (enN x0).2 || (enN x1).2 || (enN x2).2 || (en (.lst .num) v3).2) (fun b => prot b ∨ b = w.heap.size) S a4 c4 v4 _ (by have := hl2.out; have := enN_len x0; have := enN_len x1; have := enN_len x2; have := len_l_num v3; simp only [List.length_append]; omega) HS.out (h4.kept hA4.size (fun b hb => hA4.block b (HP.out b hb)) (fun _ x => x)) hW4).mono ?_
  rintro e w5 ⟨rfl, hW5, hK5⟩
  have hA5 := hA4.trans (hK5.mono (fun _ x => .inl x))
  have hq5 : ∀ o, w5.cell? ⟨w.heap.size, o, none⟩ = (w.alloc (.cells [.int .i64 x0, .int .i64 x1, .int .i64 x2, .slice a3 v3.length c3, .slice a4 v4.length c4, .bool x5].toArray 34)).cell? ⟨w.heap.size, o, none⟩ := fun o => (hK5.cell (a := ⟨w.heap.size, o, none⟩) (.inr rfl)).trans (hq4 o)
  clear hW4 hK5 hA4 hq4
  go_wp2_with fail
  refine (truth_w p (l ++ (enN x0).1 ++ (enN x1).1 ++ (enN x2).1 ++ (en (.lst .num) v3).1 ++ (en (.lst F_alloc) v4).1) (bad || (enN x0).2 || (enN x1).2 || (enN x2).2 || (en (.lst .num) v3).2 || (en (.lst F_alloc) v4).2) (fun b => prot b ∨ b = w.heap.size) x5 _ (by have := hl2.out; have := enN_len x0; have := enN_len x1; have := enN_len x2; have := len_l_num v3; have := len_l_alloc v4; simp only [List.length_append]; omega) hW5).mono ?_
  rintro e w6 ⟨rfl, hW6, hK6⟩
  have hA6 := hA5.trans (hK6.mono (fun _ x => .inl x))
  have hq6 : ∀ o, w6.cell? ⟨w.heap.size, o, none⟩ = (w.alloc (.cells [.int .i64 x0, .int .i64 x1, .int .i64 x2, .slice a3 v3.length c3, .slice a4 v4.length c4, .bool x5].toArray 34)).cell? ⟨w.heap.size, o, none⟩ := fun o => (hK6.cell (a := ⟨w.heap.size, o, none⟩) (.inr rfl)).trans (hq5 o)
  clear hW5 hK6 hA5 hq5
  go_wp2
  go_end0
  have e1 : l ++ (enN x0).1 ++ (enN x1).1 ++ (enN x2).1 ++ (en (.lst .num) v3).1 ++ (en (.lst F_alloc) v4).1 ++ (en .tru x5).1 = l ++ (en F_plan (x0, x1, x2, v3, v4, x5)).1 := by rw [en_plan]; simp only [List.append_assoc]
  have e2 : (bad || (enN x0).2 || (enN x1).2 || (enN x2).2 || (en (.lst .num) v3).2 || (en (.lst F_alloc) v4).2 || (en .tru x5).2) = (bad || (en F_plan (x0, x1, x2, v3, v4, x5)).2) := by rw [en_plan]; simp only [Bool.or_assoc]
  rw [e1, e2] at hW6
  exact ⟨rfl, hW6.mono (fun _ x => .inl x), hA6⟩


set_option maxHeartbeats 1000000 in
set_option maxRecDepth 100000 in
theorem result_w (p : Nat) (l : List UInt8) (bad : Bool) (prot S : Nat → Prop) (cs : List Value) (v : Vl F_result) (w : World) (hl : l.length + 4242 ≤ 137438953472) (hS : ∀ b, S b → prot b) (hr : Rep w S F_result cs v) (h : WR w p l bad prot) :
    Calls Tryz.prog 89 #[.pointer (some ⟨p, 0, none⟩), .agg cs.toArray] w fun e w' => e = .returned (.tuple #[]) ∧ WR w' p (l ++ (en F_result v).1) (bad || (en F_result v).2) prot ∧ Kp w w' prot := by
  have hmf : ∀ (fn : Fn) (first cap : Array Value) (w : World), (Instr.makeFunc fn first cap).run Tryz.prog w = .ok (.func fn first cap) w := fun _ _ _ _ => rfl
  obtain ⟨x0, x1, a2, c2, v2, rfl, rfl, h2⟩ := open_result hr
  have hl2 : Hid (l.length + 4242 ≤ 137438953472) := hl
  have hW0 : WR (w.alloc (.cells [.int .i64 x0, .int .i64 x1, .slice a2 v2.length c2].toArray 53)) p l bad (fun b => prot b ∨ b = w.heap.size) := h.box _
  have hA0 := Kp.alloc w (.cells [.int .i64 x0, .int .i64 x1, .slice a2 v2.length c2].toArray 53) prot h.2.1
  have HP : Hid (∀ b, S b → prot b) := hS
  have HS : Hid (∀ b, S b → (fun b => prot b ∨ b = w.heap.size) b) := fun b hb => .inl (hS b hb)
  clear h hr hS hl
  go_enter Tryz.func89, Tryz.ntmps89
  go_wp2_with fail
  refine (number_w p l bad (fun b => prot b ∨ b = w.heap.size) x0 _ (by have := hl2.out; omega) hW0).mono ?_
  rintro e w1 ⟨rfl, hW1, hK1⟩
  have hA1 := hA0.trans (hK1.mono (fun _ x => .inl x))
  have hq1 : ∀ o, w1.cell? ⟨w.heap.size, o, none⟩ = (w.alloc (.cells [.int .i64 x0, .int .i64 x1, .slice a2 v2.length c2].toArray 53)).cell? ⟨w.heap.size, o, none⟩ := fun o => hK1.cell (a := ⟨w.heap.size, o, none⟩) (.inr rfl)
  clear hW0 hK1 hA0
  go_wp2_with fail
  refine (number_w p (l ++ (enN x0).1) (bad || (enN x0).2) (fun b => prot b ∨ b = w.heap.size) x1 _ (by have := hl2.out; have := enN_len x0; simp only [List.length_append]; omega) hW1).mono ?_
  rintro e w2 ⟨rfl, hW2, hK2⟩
  have hA2 := hA1.trans (hK2.mono (fun _ x => .inl x))
  have hq2 : ∀ o, w2.cell? ⟨w.heap.size, o, none⟩ = (w.alloc (.cells [.int .i64 x0, .int .i64 x1, .slice a2 v2.length c2].toArray 53)).cell? ⟨w.heap.size, o, none⟩ := fun o => (hK2.cell (a := ⟨w.heap.size, o, none⟩) (.inr rfl)).trans (hq1 o)
  clear hW1 hK2 hA1 hq1
  go_wp2_with fail
  refine (listAlloc_w p (l ++ (enN x0).1 ++ (enN x1).1) (bad || (enN x0).2 || (enN x1).2) (fun b => prot b ∨ b = w.heap.size) S a2 c2 v2 _ (by have := hl2.out; have := enN_len x0; have := enN_len x1; simp only [List.length_append]; omega) HS.out (h2.kept hA2.size (fun b hb => hA2.block b (HP.out b hb)) (fun _ x => x)) hW2).mono ?_
  rintro e w3 ⟨rfl, hW3, hK3⟩
  have hA3 := hA2.trans (hK3.mono (fun _ x => .inl x))
  have hq3 : ∀ o, w3.cell? ⟨w.heap.size, o, none⟩ = (w.alloc (.cells [.int .i64 x0, .int .i64 x1, .slice a2 v2.length c2].toArray 53)).cell? ⟨w.heap.size, o, none⟩ := fun o => (hK3.cell (a := ⟨w.heap.size, o, none⟩) (.inr rfl)).trans (hq2 o)
  clear hW2 hK3 hA2 hq2
  go_wp2
  go_end0
  have e1 : l ++ (enN x0).1 ++ (enN x1).1 ++ (en (.lst F_alloc) v2).1 = l ++ (en F_result (x0, x1, v2)).1 := by rw [en_result]; simp only [List.append_assoc]
  have e2 : (bad || (enN x0).2 || (enN x1).2 || (en (.lst F_alloc) v2).2) = (bad || (en F_result (x0, x1, v2)).2) := by rw [en_result]; simp only [Bool.or_assoc]
  rw [e1, e2] at hW3
  exact ⟨rfl, hW3.mono (fun _ x => .inl x), hA3⟩


set_option maxHeartbeats 1000000 in
set_option maxRecDepth 100000 in
theorem cmd_w (p : Nat) (l : List UInt8) (bad : Bool) (prot S : Nat → Prop) (cs : List Value) (v : Vl F_cmd) (w : World) (hl : l.length + 7458 ≤ 137438953472) (hS : ∀ b, S b → prot b) (hr : Rep w S F_cmd cs v) (h : WR w p l bad prot) :
    Calls Tryz.prog 26 #[.pointer (some ⟨p, 0, none⟩), .agg cs.toArray] w fun e w' => e = .returned (.tuple #[]) ∧ WR w' p (l ++ (en F_cmd v).1) (bad || (en F_cmd v).2) prot ∧ Kp w w' prot := by
  have hmf : ∀ (fn : Fn) (first cap : Array Value) (w : World), (Instr.makeFunc fn first cap).run Tryz.prog w = .ok (.func fn first cap) w := fun _ _ _ _ => rfl
  obtain ⟨x0, x1, x2, y3_0, y3_1, y3_2, y3_3, y3_4, y3_5, y3_6, v3, y4_0, y4_1, y4_2, y4_3, y4_4, y4_5, y4_6, y4_7, v4, a5, c5, v5, y6_0, y6_1, y6_2, y6_3, y6_4, y6_5, v6, y7_0, y7_1, v7, rfl, rfl, h3, h4, h5, h6, h7⟩ := open_cmd hr
  have hl2 : Hid (l.length + 7458 ≤ 137438953472) := hl
  have hW0 : WR (w.alloc (.cells [.int .i64 x0, .int .i64 x1, .int .i64 x2, y3_0, y3_1, y3_2, y3_3, y3_4, y3_5, y3_6, y4_0, y4_1, y4_2, y4_3, y4_4, y4_5, y4_6, y4_7, .slice a5 v5.length c5, y6_0, y6_1, y6_2, y6_3, y6_4, y6_5, y7_0, y7_1].toArray 38)) p l bad (fun b => prot b ∨ b = w.heap.size) := h.box _
  have hA0 := Kp.alloc w (.cells [.int .i64 x0, .int .i64 x1, .int .i64 x2, y3_0, y3_1, y3_2, y3_3, y3_4, y3_5, y3_6, y4_0, y4_1, y4_2, y4_3, y4_4, y4_5, y4_6, y4_7, .slice a5 v5.length c5, y6_0, y6_1, y6_2, y6_3, y6_4, y6_5, y7_0, y7_1].toArray 38) prot h.2.1
  have HP : Hid (∀ b, S b → prot b) := hS
  have HS : Hid (∀ b, S b → (fun b => prot b ∨ b = w.heap.size) b) := fun b hb => .inl (hS b hb)
  clear h hr hS hl
  go_enter Tryz.func26, Tryz.ntmps26
  go_wp2_with fail
  refine (number_w p l bad (fun b => prot b ∨ b = w.heap.size) x0 _ (by have := hl2.out; omega) hW0).mono ?_
  rintro e w1 ⟨rfl, hW1, hK1⟩
  have hA1 := hA0.trans (hK1.mono (fun _ x => .inl x))
  have hq1 : ∀ o, w1.cell? ⟨w.heap.size, o, none⟩ = (w.alloc (.cells [.int .i64 x0, .int .i64 x1, .int .i64 x2, y3_0, y3_1, y3_2, y3_3, y3_4, y3_5, y3_6, y4_0, y4_1, y4_2, y4_3, y4_4, y4_5, y4_6, y4_7, .slice a5 v5.length c5, y6_0, y6_1, y6_2, y6_3, y6_4, y6_5, y7_0, y7_1].toArray 38)).cell? ⟨w.heap.size, o, none⟩ := fun o => hK1.cell (a := ⟨w.heap.size, o, none⟩) (.inr rfl)
  clear hW0 hK1 hA0
  go_wp2_with fail
  refine (number_w p (l ++ (enN x0).1) (bad || (enN x0).2) (fun b => prot b ∨ b = w.heap.size) x1 _ (by have := hl2.out; have := enN_len x0; simp only [List.length_append]; omega) hW1).mono ?_
  rintro e w2 ⟨rfl, hW2, hK2⟩
  have hA2 := hA1.trans (hK2.mono (fun _ x => .inl x))
  have hq2 : ∀ o, w2.cell? ⟨w.heap.size, o, none⟩ = (w.alloc (.cells [.int .i64 x0, .int .i64 x1, .int .i64 x2, y3_0, y3_1, y3_2, y3_3, y3_4, y3_5, y3_6, y4_0, y4_1, y4_2, y4_3, y4_4, y4_5, y4_6, y4_7, .slice a5 v5.length c5, y6_0, y6_1, y6_2, y6_3, y6_4, y6_5, y7_0, y7_1].toArray 38)).cell? ⟨w.heap.size, o, none⟩ := fun o => (hK2.cell (a := ⟨w.heap.size, o, none⟩) (.inr rfl)).trans (hq1 o)
  clear hW1 hK2 hA1 hq1
  go_wp2_with fail
  refine (number_w p (l ++ (enN x0).1 ++ (enN x1).1) (bad || (enN x0).2 || (enN x1).2) (fun b => prot b ∨ b = w.heap.size) x2 _ (by have := hl2.out; have := enN_len x0; have := enN_len x1; simp only [List.length_append]; omega) hW2).mono ?_
  rintro e w3 ⟨rfl, hW3, hK3⟩
  have hA3 := hA2.trans (hK3.mono (fun _ x => .inl x))
  have hq3 : ∀ o, w3.cell? ⟨w.heap.size, o, none⟩ = (w.alloc (.cells [.int .i64 x0, .int .i64 x1, .int .i64 x2, y3_0, y3_1, y3_2, y3_3, y3_4, y3_5, y3_6, y4_0, y4_1, y4_2, y4_3, y4_4, y4_5, y4_6, y4_7, .slice a5 v5.length c5, y6_0, y6_1, y6_2, y6_3, y6_4, y6_5, y7_0, y7_1].toArray 38)).cell? ⟨w.heap.size, o, none⟩ := fun o => (hK3.cell (a := ⟨w.heap.size, o, none⟩) (.inr rfl)).trans (hq2 o)
  clear hW2 hK3 hA2 hq2
  go_wp2_with fail
  refine (job_w p (l ++ (enN x0).1 ++ (enN x1).1 ++ (enN x2).1) (bad || (enN x0).2 || (enN x1).2 || (enN x2).2) (fun b => prot b ∨ b = w.heap.size) S [y3_0, y3_1, y3_2, y3_3, y3_4, y3_5, y3_6] v3 _ (by have := hl2.out; have := enN_len x0; have := enN_len x1; have := enN_len x2; simp only [List.length_append]; omega) HS.out (h3.kept hA3.size (fun b hb => hA3.block b (HP.out b hb)) (fun _ x => x)) hW3).mono ?_
  rintro e w4 ⟨rfl, hW4, hK4⟩
  have hA4 := hA3.trans (hK4.mono (fun _ x => .inl x))
  have hq4 : ∀ o, w4.cell? ⟨w.heap.size, o, none⟩ = (w.alloc (.cells [.int .i64 x0, .int .i64 x1, .int .i64 x2, y3_0, y3_1, y3_2, y3_3, y3_4, y3_5, y3_6, y4_0, y4_1, y4_2, y4_3, y4_4, y4_5, y4_6, y4_7, .slice a5 v5.length c5, y6_0, y6_1, y6_2, y6_3, y6_4, y6_5, y7_0, y7_1].toArray 38)).cell? ⟨w.heap.size, o, none⟩ := fun o => (hK4.cell (a := ⟨w.heap.size, o, none⟩) (.inr rfl)).trans (hq3 o)
  clear hW3 hK4 hA3 hq3
  go_wp2_with fail
  refine (node_w p (l ++ (enN x0).1 ++ (enN x1).1 ++ (enN x2).1 ++ (en F_job v3).1) (bad || (enN x0).2 || (enN x1).2 || (enN x2).2 || (en F_job v3).2) (fun b => prot b ∨ b = w.heap.size) S [y4_0, y4_1, y4_2, y4_3, y4_4, y4_5, y4_6, y4_7] v4 _ (by have := hl2.out; have := enN_len x0; have := enN_len x1; have := enN_len x2; have := len_job v3; simp only [List.length_append]; omega) HS.out (h4.kept hA4.size (fun b hb => hA4.block b (HP.out b hb)) (fun _ x => x)) hW4).mono ?_
  rintro e w5 ⟨rfl, hW5, hK5⟩
  have hA5 := hA4.trans (hK5.mono (fun _ x => .inl x))
  have hq5 : ∀ o, w5.cell? ⟨w.heap.size, o, none⟩ = (w.alloc (.cells [.int .i64 x0, .int .i64 x1, .int .i64 x2, y3_0, y3_1, y3_2, y3_3, y3_4, y3_5, y3_6, y4_0, y4_1, y4_2, y4_3, y4_4, y4_5, y4_6, y4_7, .slice a5 v5.length c5, y6_0, y6_1, y6_2, y6_3, y6_4, y6_5, y7_0, y7_1].toArray 38)).cell? ⟨w.heap.size, o, none⟩ := fun o => (hK5.cell (a := ⟨w.heap.size, o, none⟩) (.inr rfl)).trans (hq4 o)
  clear hW4 hK5 hA4 hq4
  go_wp2_with fail
  refine (listReport_w p (l ++ (enN x0).1 ++ (enN x1).1 ++ (enN x2).1 ++ (en F_job v3).1 ++ (en F_node v4).1) (bad || (enN x0).2 || (enN x1).2 || (enN x2).2 || (en F_job v3).2 || (en F_node v4).2) (fun b => prot b ∨ b = w.heap.size) S a5 c5 v5 _ (by have := hl2.out; have := enN_len x0; have := enN_len x1; have := enN_len x2; have := len_job v3; have := len_node v4; simp only [List.length_append]; omega) HS.out (h5.kept hA5.size (fun b hb => hA5.block b (HP.out b hb)) (fun _ x => x)) hW5).mono ?_
  rintro e w6 ⟨rfl, hW6, hK6⟩
  have hA6 := hA5.trans (hK6.mono (fun _ x => .inl x))
  have hq6 : ∀ o, w6.cell? ⟨w.heap.size, o, none⟩ = (w.alloc (.cells [.int .i64 x0, .int .i64 x1, .int .i64 x2, y3_0, y3_1, y3_2, y3_3, y3_4, y3_5, y3_6, y4_0, y4_1, y4_2, y4_3, y4_4, y4_5, y4_6, y4_7, .slice a5 v5.length c5, y6_0, y6_1, y6_2, y6_3, y6_4, y6_5, y7_0, y7_1].toArray 38)).cell? ⟨w.heap.size, o, none⟩ := fun o => (hK6.cell (a := ⟨w.heap.size, o, none⟩) (.inr rfl)).trans (hq5 o)
  clear hW5 hK6 hA5 hq5
  go_wp2_with fail
  refine (plan_w p (l ++ (enN x0).1 ++ (enN x1).1 ++ (enN x2).1 ++ (en F_job v3).1 ++ (en F_node v4).1 ++ (en (.lst F_report) v5).1) (bad || (enN x0).2 || (enN x1).2 || (enN x2).2 || (en F_job v3).2 || (en F_node v4).2 || (en (.lst F_report) v5).2) (fun b => prot b ∨ b = w.heap.size) S [y6_0, y6_1, y6_2, y6_3, y6_4, y6_5] v6 _ (by have := hl2.out; have := enN_len x0; have := enN_len x1; have := enN_len x2; have := len_job v3; have := len_node v4; have := len_l_report v5; simp only [List.length_append]; omega) HS.out (h6.kept hA6.size (fun b hb => hA6.block b (HP.out b hb)) (fun _ x => x)) hW6).mono ?_
  rintro e w7 ⟨rfl, hW7, hK7⟩
  have hA7 := hA6.trans (hK7.mono (fun _ x => .inl x))
  have hq7 : ∀ o, w7.cell? ⟨w.heap.size, o, none⟩ = (w.alloc (.cells [.int .i64 x0, .int .i64 x1, .int .i64 x2, y3_0, y3_1, y3_2, y3_3, y3_4, y3_5, y3_6, y4_0, y4_1, y4_2, y4_3, y4_4, y4_5, y4_6, y4_7, .slice a5 v5.length c5, y6_0, y6_1, y6_2, y6_3, y6_4, y6_5, y7_0, y7_1].toArray 38)).cell? ⟨w.heap.size, o, none⟩ := fun o => (hK7.cell (a := ⟨w.heap.size, o, none⟩) (.inr rfl)).trans (hq6 o)
  clear hW6 hK7 hA6 hq6
  go_wp2_with fail
  refine (conf_w p (l ++ (enN x0).1 ++ (enN x1).1 ++ (enN x2).1 ++ (en F_job v3).1 ++ (en F_node v4).1 ++ (en (.lst F_report) v5).1 ++ (en F_plan v6).1) (bad || (enN x0).2 || (enN x1).2 || (enN x2).2 || (en F_job v3).2 || (en F_node v4).2 || (en (.lst F_report) v5).2 || (en F_plan v6).2) (fun b => prot b ∨ b = w.heap.size) S [y7_0, y7_1] v7 _ (by have := hl2.out; have := enN_len x0; have := enN_len x1; have := enN_len x2; have := len_job v3; have := len_node v4; have := len_l_report v5; have := len_plan v6; simp only [List.length_append]; omega) HS.out (h7.kept hA7.size (fun b hb => hA7.block b (HP.out b hb)) (fun _ x => x)) hW7).mono ?_
  rintro e w8 ⟨rfl, hW8, hK8⟩
  have hA8 := hA7.trans (hK8.mono (fun _ x => .inl x))
  have hq8 : ∀ o, w8.cell? ⟨w.heap.size, o, none⟩ = (w.alloc (.cells [.int .i64 x0, .int .i64 x1, .int .i64 x2, y3_0, y3_1, y3_2, y3_3, y3_4, y3_5, y3_6, y4_0, y4_1, y4_2, y4_3, y4_4, y4_5, y4_6, y4_7, .slice a5 v5.length c5, y6_0, y6_1, y6_2, y6_3, y6_4, y6_5, y7_0, y7_1].toArray 38)).cell? ⟨w.heap.size, o, none⟩ := fun o => (hK8.cell (a := ⟨w.heap.size, o, none⟩) (.inr rfl)).trans (hq7 o)
  clear hW7 hK8 hA7 hq7
  go_wp2
  go_end0
  have e1 : l ++ (enN x0).1 ++ (enN x1).1 ++ (enN x2).1 ++ (en F_job v3).1 ++ (en F_node v4).1 ++ (en (.lst F_report) v5).1 ++ (en F_plan v6).1 ++ (en F_conf v7).1 = l ++ (en F_cmd (x0, x1, x2, v3, v4, v5, v6, v7)).1 := by rw [en_cmd]; simp only [List.append_assoc]
  have e2 : (bad || (enN x0).2 || (enN x1).2 || (enN x2).2 || (en F_job v3).2 || (en F_node v4).2 || (en (.lst F_report) v5).2 || (en F_plan v6).2 || (en F_conf v7).2) = (bad || (en F_cmd (x0, x1, x2, v3, v4, v5, v6, v7)).2) := by rw [en_cmd]; simp only [Bool.or_assoc]
  rw [e1, e2] at hW8
  exact ⟨rfl, hW8.mono (fun _ x => .inl x), hA8⟩


set_option maxHeartbeats 1000000 in
set_option maxRecDepth 100000 in
theorem entry_w (p : Nat) (l : List UInt8) (bad : Bool) (prot S : Nat → Prop) (cs : List Value) (v : Vl F_entry) (w : World) (hl : l.length + 7470 ≤ 137438953472) (hS : ∀ b, S b → prot b) (hr : Rep w S F_entry cs v) (h : WR w p l bad prot) :
    Calls Tryz.prog 34 #[.pointer (some ⟨p, 0, none⟩), .agg cs.toArray] w fun e w' => e = .returned (.tuple #[]) ∧ WR w' p (l ++ (en F_entry v).1) (bad || (en F_entry v).2) prot ∧ Kp w w' prot := by
  have hmf : ∀ (fn : Fn) (first cap : Array Value) (w : World), (Instr.makeFunc fn first cap).run Tryz.prog w = .ok (.func fn first cap) w := fun _ _ _ _ => rfl
  obtain ⟨x0, x1, y2_0, y2_1, y2_2, y2_3, y2_4, y2_5, y2_6, y2_7, y2_8, y2_9, y2_10, y2_11, y2_12, y2_13, y2_14, y2_15, y2_16, y2_17, y2_18, y2_19, y2_20, y2_21, y2_22, y2_23, y2_24, y2_25, y2_26, v2, rfl, rfl, h2⟩ := open_entry hr
  have hl2 : Hid (l.length + 7470 ≤ 137438953472) := hl
  have hW0 : WR (w.alloc (.cells [.int .i64 x0, .int .i64 x1, y2_0, y2_1, y2_2, y2_3, y2_4, y2_5, y2_6, y2_7, y2_8, y2_9, y2_10, y2_11, y2_12, y2_13, y2_14, y2_15, y2_16, y2_17, y2_18, y2_19, y2_20, y2_21, y2_22, y2_23, y2_24, y2_25, y2_26].toArray 47)) p l bad (fun b => prot b ∨ b = w.heap.size) := h.box _
  have hA0 := Kp.alloc w (.cells [.int .i64 x0, .int .i64 x1, y2_0, y2_1, y2_2, y2_3, y2_4, y2_5, y2_6, y2_7, y2_8, y2_9, y2_10, y2_11, y2_12, y2_13, y2_14, y2_15, y2_16, y2_17, y2_18, y2_19, y2_20, y2_21, y2_22, y2_23, y2_24, y2_25, y2_26].toArray 47) prot h.2.1
  have HP : Hid (∀ b, S b → prot b) := hS
  have HS : Hid (∀ b, S b → (fun b => prot b ∨ b = w.heap.size) b) := fun b hb => .inl (hS b hb)
  clear h hr hS hl
  go_enter Tryz.func34, Tryz.ntmps34
  go_wp2_with fail
  refine (number_w p l bad (fun b => prot b ∨ b = w.heap.size) x0 _ (by have := hl2.out; omega) hW0).mono ?_
  rintro e w1 ⟨rfl, hW1, hK1⟩
  have hA1 := hA0.trans (hK1.mono (fun _ x => .inl x))
  have hq1 : ∀ o, w1.cell? ⟨w.heap.size, o, none⟩ = (w.alloc (.cells [.int .i64 x0, .int .i64 x1, y2_0, y2_1, y2_2, y2_3, y2_4, y2_5, y2_6, y2_7, y2_8, y2_9, y2_10, y2_11, y2_12, y2_13, y2_14, y2_15, y2_16, y2_17, y2_18, y2_19, y2_20, y2_21, y2_22, y2_23, y2_24, y2_25, y2_26].toArray 47)).cell? ⟨w.heap.size, o, none⟩ := fun o => hK1.cell (a := ⟨w.heap.size, o, none⟩) (.inr rfl)
  clear hW0 hK1 hA0
  go_wp2_with fail
  refine (number_w p (l ++ (enN x0).1) (bad || (enN x0).2) (fun b => prot b ∨ b = w.heap.size) x1 _ (by have := hl2.out; have := enN_len x0; simp only [List.length_append]; omega) hW1).mono ?_
  rintro e w2 ⟨rfl, hW2, hK2⟩
  have hA2 := hA1.trans (hK2.mono (fun _ x => .inl x))
  have hq2 : ∀ o, w2.cell? ⟨w.heap.size, o, none⟩ = (w.alloc (.cells [.int .i64 x0, .int .i64 x1, y2_0, y2_1, y2_2, y2_3, y2_4, y2_5, y2_6, y2_7, y2_8, y2_9, y2_10, y2_11, y2_12, y2_13, y2_14, y2_15, y2_16, y2_17, y2_18, y2_19, y2_20, y2_21, y2_22, y2_23, y2_24, y2_25, y2_26].toArray 47)).cell? ⟨w.heap.size, o, none⟩ := fun o => (hK2.cell (a := ⟨w.heap.size, o, none⟩) (.inr rfl)).trans (hq1 o)
  clear hW1 hK2 hA1 hq1
  have hrg : Hid (w2.rangeAt w.heap.size 2 [y2_0, y2_1, y2_2, y2_3, y2_4, y2_5, y2_6, y2_7, y2_8, y2_9, y2_10, y2_11, y2_12, y2_13, y2_14, y2_15, y2_16, y2_17, y2_18, y2_19, y2_20, y2_21, y2_22, y2_23, y2_24, y2_25, y2_26]) := by
    intro jj u hu
    rw [hq2 (2 + jj), cell_of_row _ _ _ _ 47 (0, 0) (heap_alloc_new w _)]
    have : ([.int .i64 x0, .int .i64 x1, y2_0, y2_1, y2_2, y2_3, y2_4, y2_5, y2_6, y2_7, y2_8, y2_9, y2_10, y2_11, y2_12, y2_13, y2_14, y2_15, y2_16, y2_17, y2_18, y2_19, y2_20, y2_21, y2_22, y2_23, y2_24, y2_25, y2_26].drop 2)[jj]? = some u := by
      rw [show [.int .i64 x0, .int .i64 x1, y2_0, y2_1, y2_2, y2_3, y2_4, y2_5, y2_6, y2_7, y2_8, y2_9, y2_10, y2_11, y2_12, y2_13, y2_14, y2_15, y2_16, y2_17, y2_18, y2_19, y2_20, y2_21, y2_22, y2_23, y2_24, y2_25, y2_26].drop 2 = [y2_0, y2_1, y2_2, y2_3, y2_4, y2_5, y2_6, y2_7, y2_8, y2_9, y2_10, y2_11, y2_12, y2_13, y2_14, y2_15, y2_16, y2_17, y2_18, y2_19, y2_20, y2_21, y2_22, y2_23, y2_24, y2_25, y2_26] ++ [] from rfl, List.getElem?_append_left (List.getElem?_eq_some_iff.1 hu).1]
      exact hu
    rw [List.getElem?_drop] at this
    simpa using this
  have hI : Hid ((Tryz.prog.info? 38).map (·.size) = some [y2_0, y2_1, y2_2, y2_3, y2_4, y2_5, y2_6, y2_7, y2_8, y2_9, y2_10, y2_11, y2_12, y2_13, y2_14, y2_15, y2_16, y2_17, y2_18, y2_19, y2_20, y2_21, y2_22, y2_23, y2_24, y2_25, y2_26].length) := by show _ = _; kernel_rfl
  go_wp2_with (refine wpList_load_mid rfl 38 (.tmp 13) rfl w.heap.size 2 rfl [y2_0, y2_1, y2_2, y2_3, y2_4, y2_5, y2_6, y2_7, y2_8, y2_9, y2_10, y2_11, y2_12, y2_13, y2_14, y2_15, y2_16, y2_17, y2_18, y2_19, y2_20, y2_21, y2_22, y2_23, y2_24, y2_25, y2_26] _ hrg.out Tryz.underlying38 rfl hI.out ?_)
  refine (cmd_w p (l ++ (enN x0).1 ++ (enN x1).1) (bad || (enN x0).2 || (enN x1).2) (fun b => prot b ∨ b = w.heap.size) S [y2_0, y2_1, y2_2, y2_3, y2_4, y2_5, y2_6, y2_7, y2_8, y2_9, y2_10, y2_11, y2_12, y2_13, y2_14, y2_15, y2_16, y2_17, y2_18, y2_19, y2_20, y2_21, y2_22, y2_23, y2_24, y2_25, y2_26] v2 _ (by have := hl2.out; have := enN_len x0; have := enN_len x1; simp only [List.length_append]; omega) HS.out (h2.kept hA2.size (fun b hb => hA2.block b (HP.out b hb)) (fun _ x => x)) hW2).mono ?_
  rintro e w3 ⟨rfl, hW3, hK3⟩
  have hA3 := hA2.trans (hK3.mono (fun _ x => .inl x))
  have hq3 : ∀ o, w3.cell? ⟨w.heap.size, o, none⟩ = (w.alloc (.cells [.int .i64 x0, .int .i64 x1, y2_0, y2_1, y2_2, y2_3, y2_4, y2_5, y2_6, y2_7, y2_8, y2_9, y2_10, y2_11, y2_12, y2_13, y2_14, y2_15, y2_16, y2_17, y2_18, y2_19, y2_20, y2_21, y2_22, y2_23, y2_24, y2_25, y2_26].toArray 47)).cell? ⟨w.heap.size, o, none⟩ := fun o => (hK3.cell (a := ⟨w.heap.size, o, none⟩) (.inr rfl)).trans (hq2 o)
  clear hW2 hK3 hA2 hq2
  go_wp2
  go_end0
  have e1 : l ++ (enN x0).1 ++ (enN x1).1 ++ (en F_cmd v2).1 = l ++ (en F_entry (x0, x1, v2)).1 := by rw [en_entry]; simp only [List.append_assoc]
  have e2 : (bad || (enN x0).2 || (enN x1).2 || (en F_cmd v2).2) = (bad || (en F_entry (x0, x1, v2)).2) := by rw [en_entry]; simp only [Bool.or_assoc]
  rw [e1, e2] at hW3
  exact ⟨rfl, hW3.mono (fun _ x => .inl x), hA3⟩


theorem info_entry : (Tryz.prog.info? 47).map (·.size) = some (wd F_entry) := by kernel_rfl

set_option maxHeartbeats 1000000 in
set_option maxRecDepth 100000 in
theorem listEntry_w (p : Nat) (l : List UInt8) (bad : Bool) (prot S : Nat → Prop) (a : Option Addr) (c : Nat) (vs : List (Vl F_entry)) (w : World) (hl : l.length + 478086 ≤ 137438953472) (hS : ∀ b, S b → prot b) (hr : RepL w S F_entry a vs) (h : WR w p l bad prot) :
    Calls Tryz.prog 87 #[.pointer (some ⟨p, 0, none⟩), .slice a vs.length c, .func (.func 34) #[.pointer (some ⟨p, 0, none⟩)] #[]] w fun e w' => e = .returned (.tuple #[]) ∧ WR w' p (l ++ (en (.lst F_entry) vs).1) (bad || (en (.lst F_entry) vs).2) prot ∧ Kp w w' prot := by
  have hl2 : Hid (l.length + 478086 ≤ 137438953472) := hl
  by_cases hbig : vs.length ≤ 64
  · have e0 : en (.lst F_entry) vs = (enc (vs.length : Int) ++ vs.flatMap fun v => (en F_entry v).1, vs.any fun v => (en F_entry v).2) := by show (if _ then _ else _) = _; rw [if_pos hbig]
    rw [e0]
    have e1 : Hid (enN (vs.length : Int) = (enc (vs.length : Int), false)) := by show _ = _; unfold enN; rw [if_pos (by omega)]
    have hl0 := hl2.out
    have HF : Hid (∀ k, ((vs.take k).flatMap fun v => (en F_entry v).1).length ≤ 478080) := by
      intro k
      have h1 := flat_len (fun v => (en F_entry v).1) 7470 (fun v => len_entry v) (vs.take k)
      have h2 : (vs.take k).length ≤ 64 := by rw [List.length_take]; omega
      omega
    have HEL : Hid ((enc (vs.length : Int)).length ≤ 6) := enc_length _ (by omega) (by omega)
    have HSP : Hid (∀ b, S b → prot b) := hS
    clear hl e0 hS
    go_enter Tryz.func87, Tryz.ntmps87
    go_wp2_with fail
    refine (number_w p l bad prot (vs.length : Int) w (by omega) h).mono ?_
    rintro e w1 ⟨rfl, hW1, hK1⟩
    rw [e1.out] at hW1
    simp only [Bool.or_false] at hW1
    go_wp2
    go_loopw [20] (fun i wr => ∃ k : Nat, k ≤ vs.length ∧ i = .int .i64 k ∧ WR wr p (l ++ enc (vs.length : Int) ++ (vs.take k).flatMap fun v => (en F_entry v).1) (bad || (vs.take k).any fun v => (en F_entry v).2) prot ∧ Kp w wr prot) (fun i _ => vs.length - (intOf i).toNat)
    case atStart => exact ⟨0, Nat.zero_le _, rfl, by simpa using hW1, hK1⟩
    case round =>
      obtain ⟨k, hk, rfl, hWk, hKk⟩ := hrel
      by_cases hlt : k < vs.length
      · obtain ⟨b, off, rfl, hSb, hes⟩ := hr.2 (by intro e; rw [e] at hlt; simp at hlt)
        obtain ⟨es, hrep0, hrg0⟩ := hes k hlt
        have hrep := hrep0.kept (S' := S) hKk.size (fun b hb => hKk.block b (HSP.out b hb)) (fun _ x => x)
        have hrg : wr.rangeAt b (off + k * wd F_entry) es := rangeAt_kept hrg0 (hKk.block b (HSP.out b hSb))
        clear hrep0 hrg0
        have HLK : Hid ((l ++ enc (vs.length : Int) ++ (vs.take k).flatMap fun v => (en F_entry v).1).length + 7470 ≤ 137438953472) := by
          have h1 := HF.out k; have h2 := HEL.out; have h3 := hl2.out
          show _ ≤ _
          have h4 := flat_len (fun v => (en F_entry v).1) 7470 (fun v => len_entry v) (vs.take k)
          have h5 : (vs.take k).length + 1 ≤ 64 := by rw [List.length_take]; omega
          simp only [List.length_append]
          omega
        have I0 : Hid ((Tryz.prog.info? 47).map (·.size) = some es.length) := by show _ = _; rw [hrep.len]; exact info_entry
        have O0 : Hid (es.toArray.all (·.oneCell') = true) := hrep.all
        have HRG : Hid (wr.rangeAt b (off + k * wd F_entry) es) := hrg
        have hsz : es.toArray.size = 29 := by rw [List.size_toArray]; exact hrep.len
        have HL0 : Hid ((#[.int .i64 0, .int .i64 0, .int .i64 0, .int .i64 0, .int .i64 0, .int .i64 0, .int .i64 0, .int .i64 0, .int .i64 0, .slice none 0 0, .int .i64 0, .bool false, .int .i64 0, .int .i64 0, .int .i64 0, .bool false, .bool false, .int .i64 0, .int .i64 0, .int .i64 0, .slice none 0 0, .int .i64 0, .int .i64 0, .int .i64 0, .slice none 0 0, .slice none 0 0, .bool false, .slice none 0 0, .slice none 0 0] : Array Value).size = es.toArray.size) := hsz.symm
        clear hsz
        have HRE : Hid (Rep wr S F_entry es vs[k]) := hrep
        clear hrep hrg hes hr
        have I1 : Hid ((Tryz.prog.info? 47).map (·.size) = some es.toArray.size) := by show _ = _; rw [List.size_toArray]; exact I0.out
        go_wp2_with (first
          | refine wpList_load_mid rfl 47 (.tmp 22) rfl b (off + k * wd F_entry) rfl es _ HRG.out Tryz.underlying47 rfl I0.out ?_
          | refine wpList_store_rowF rfl 47 (.tmp 7) (.tmp 23) rfl wr.heap.size es.toArray rfl rfl 47 #[.int .i64 0, .int .i64 0, .int .i64 0, .int .i64 0, .int .i64 0, .int .i64 0, .int .i64 0, .int .i64 0, .int .i64 0, .slice none 0 0, .int .i64 0, .bool false, .int .i64 0, .int .i64 0, .int .i64 0, .bool false, .bool false, .int .i64 0, .int .i64 0, .int .i64 0, .slice none 0 0, .int .i64 0, .int .i64 0, .int .i64 0, .slice none 0 0, .slice none 0 0, .bool false, .slice none 0 0, .slice none 0 0] (heap_alloc_new wr (.cells #[.int .i64 0, .int .i64 0, .int .i64 0, .int .i64 0, .int .i64 0, .int .i64 0, .int .i64 0, .int .i64 0, .int .i64 0, .slice none 0 0, .int .i64 0, .bool false, .int .i64 0, .int .i64 0, .int .i64 0, .bool false, .bool false, .int .i64 0, .int .i64 0, .int .i64 0, .slice none 0 0, .int .i64 0, .int .i64 0, .int .i64 0, .slice none 0 0, .slice none 0 0, .bool false, .slice none 0 0, .slice none 0 0] 47)) I1.out HL0.out O0.out ?next)
        case next =>
        intro w2 hw2
        have B2 : Below wr.heap.size wr w2 := by
          rw [hw2.out]
          exact ((Below.refl _ _).alloc (Nat.le_refl _) _).trans ⟨rfl, rfl, rfl, by simp [World.setRow], fun kk hkk => setRow_other _ _ _ _ (by omega)⟩
        have g2 : Hid (w2.heap[wr.heap.size]? = some (.cells es.toArray 47 (0, 0))) := by
          show _ = _
          rw [hw2.out]
          exact setRow_heap _ _ _ _ 47 _ (heap_alloc_new wr (.cells #[.int .i64 0, .int .i64 0, .int .i64 0, .int .i64 0, .int .i64 0, .int .i64 0, .int .i64 0, .int .i64 0, .int .i64 0, .slice none 0 0, .int .i64 0, .bool false, .int .i64 0, .int .i64 0, .int .i64 0, .bool false, .bool false, .int .i64 0, .int .i64 0, .int .i64 0, .slice none 0 0, .int .i64 0, .int .i64 0, .int .i64 0, .slice none 0 0, .slice none 0 0, .bool false, .slice none 0 0, .slice none 0 0] 47))
        have hWm := hWk.grow B2
        have hKm := hKk.trans (kp_below B2 prot hWk.2.1)
        have HRE2 : Hid (Rep w2 S F_entry es vs[k]) := HRE.out.kept B2.size (fun b hb => B2.block b (hWk.2.1 b (HSP.out b hb))) (fun _ x => x)
        clear hw2 B2 HRE HRG hWk hKk
        go_wp2_with (refine wpList_load_row rfl 47 (.tmp 7) rfl wr.heap.size rfl 47 es.toArray (0, 0) _ g2.out Tryz.underlying47 rfl I1.out ?_)
        refine (entry_w p _ _ prot S es vs[k] w2 HLK.out HSP.out HRE2.out hWm).mono ?_
        rintro e w3 ⟨rfl, hW3, hK3⟩
        have E1 : Hid ((vs.take (k + 1)).flatMap (fun v => (en F_entry v).1) = (vs.take k).flatMap (fun v => (en F_entry v).1) ++ (en F_entry vs[k]).1) := by
          show _ = _
          rw [← List.take_append_getElem hlt, List.flatMap_append]; simp
        have E2 : Hid ((vs.take (k + 1)).any (fun v => (en F_entry v).2) = ((vs.take k).any (fun v => (en F_entry v).2) || (en F_entry vs[k]).2)) := by
          show _ = _
          rw [← List.take_append_getElem hlt, List.any_append]; simp
        go_wp2
        refine ⟨⟨k + 1, by omega, by go_num, ?_, hKm.trans hK3⟩, by simp [intOf]; omega⟩
        rw [E1.out, E2.out, ← List.append_assoc, ← Bool.or_assoc]
        exact hW3
      · have hkN : k = vs.length := by omega
        subst hkN
        go_wp2
        go_end0
        rw [List.take_of_length_le (Nat.le_refl _), List.append_assoc] at hWk
        exact ⟨rfl, hWk, hKk⟩
  · have e0 : en (.lst F_entry) vs = ([], true) := by show (if _ then _ else _) = _; rw [if_neg hbig]
    rw [e0]
    simp only [Bool.or_true, List.append_nil]
    have HB : Hid _ := h.bad
    obtain ⟨h1, h2, h3, v, h4, h5, h6, h7, h8, h9⟩ := h
    clear h1 h2 h9 h8 hr hl hl2 e0
    go_enter Tryz.func87, Tryz.ntmps87
    go_wp2
    (try simp only [Exit.inBlock, Exit.then]); refine bodyPost_ret (results_none rfl _ _ _) rfl ?_
    exact ⟨rfl, HB.out⟩

end Go.Proofs.YtpbokgeaolpiaabGreat
