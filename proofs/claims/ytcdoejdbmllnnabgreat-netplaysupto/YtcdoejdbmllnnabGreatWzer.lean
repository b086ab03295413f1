/- What the writer does with records of zero values: each puts its zero bytes behind those that were there, as many as it has fields and lists. -/
import Derived.Test.YtcdoejdbmllnnabGreatWnum
namespace Go.Proofs.YtcdoejdbmllnnabGreat
open Go.RowKit

def zs (k : Nat) : List UInt8 := List.replicate k 0
theorem zs_length (k : Nat) : (zs k).length = k := by simp [zs]
theorem zs_zero : zs 0 = [] := rfl
theorem zs_one : zs 1 = [0] := rfl
theorem zs_add (a b : Nat) : zs a ++ zs b = zs (a + b) := by simp [zs]

theorem number_z (p : Nat) (l : List UInt8) (bad : Bool) (prot : Nat → Prop) (w : World) (hl : l.length + 1 ≤ 137438953472) (h : WR w p l bad prot) :
    Calls Tryz.prog 54 #[.pointer (some ⟨p, 0, none⟩), .int .i64 0] w fun e w' => e = .returned (.tuple #[]) ∧ WR w' p (l ++ zs 1) bad prot ∧ Kp w w' prot := by
  have := number_ok p l bad prot 0 w (by omega) (by omega) (by omega) h
  rw [enc_zero] at this
  exact this

set_option maxHeartbeats 400000 in
theorem truth_z (p : Nat) (l : List UInt8) (bad : Bool) (prot : Nat → Prop) (w : World) (hl : l.length + 1 ≤ 137438953472) (h : WR w p l bad prot) :
    Calls Tryz.prog 55 #[.pointer (some ⟨p, 0, none⟩), .bool false] w fun e w' => e = .returned (.tuple #[]) ∧ WR w' p (l ++ zs 1) bad prot ∧ Kp w w' prot := by
  go_enter Tryz.func55, Tryz.ntmps55
  go_wp2_with fail
  refine (number_z p l bad prot w hl h).mono ?_
  rintro e w' ⟨rfl, hW, hK⟩
  go_wp2
  go_end0
  exact ⟨rfl, hW, hK⟩


set_option maxHeartbeats 400000 in
theorem listReport_z (p : Nat) (l : List UInt8) (bad : Bool) (prot : Nat → Prop) (f : Value) (w : World) (hl : l.length + 1 ≤ 137438953472) (h : WR w p l bad prot) :
    Calls Tryz.prog 86 #[.pointer (some ⟨p, 0, none⟩), .slice none 0 0, f] w fun e w' => e = .returned (.tuple #[]) ∧ WR w' p (l ++ zs 1) bad prot ∧ Kp w w' prot := by
  go_enter Tryz.func86, Tryz.ntmps86
  go_wp2_with fail
  refine (number_z p l bad prot w hl h).mono ?_
  rintro e w' ⟨rfl, hW, hK⟩
  go_wp2
  refine wp_loop_rounds 1 ?_
  rw [rounds_succ]
  go_wp2
  go_end0
  exact ⟨rfl, hW, hK⟩


set_option maxHeartbeats 400000 in
theorem listGroup_z (p : Nat) (l : List UInt8) (bad : Bool) (prot : Nat → Prop) (f : Value) (w : World) (hl : l.length + 1 ≤ 137438953472) (h : WR w p l bad prot) :
    Calls Tryz.prog 107 #[.pointer (some ⟨p, 0, none⟩), .slice none 0 0, f] w fun e w' => e = .returned (.tuple #[]) ∧ WR w' p (l ++ zs 1) bad prot ∧ Kp w w' prot := by
  go_enter Tryz.func107, Tryz.ntmps107
  go_wp2_with fail
  refine (number_z p l bad prot w hl h).mono ?_
  rintro e w' ⟨rfl, hW, hK⟩
  go_wp2
  refine wp_loop_rounds 1 ?_
  rw [rounds_succ]
  go_wp2
  go_end0
  exact ⟨rfl, hW, hK⟩


set_option maxHeartbeats 400000 in
theorem listInt_z (p : Nat) (l : List UInt8) (bad : Bool) (prot : Nat → Prop) (f : Value) (w : World) (hl : l.length + 1 ≤ 137438953472) (h : WR w p l bad prot) :
    Calls Tryz.prog 83 #[.pointer (some ⟨p, 0, none⟩), .slice none 0 0, f] w fun e w' => e = .returned (.tuple #[]) ∧ WR w' p (l ++ zs 1) bad prot ∧ Kp w w' prot := by
  go_enter Tryz.func83, Tryz.ntmps83
  go_wp2_with fail
  refine (number_z p l bad prot w hl h).mono ?_
  rintro e w' ⟨rfl, hW, hK⟩
  go_wp2
  refine wp_loop_rounds 1 ?_
  rw [rounds_succ]
  go_wp2
  go_end0
  exact ⟨rfl, hW, hK⟩


set_option maxHeartbeats 400000 in
theorem listAlloc_z (p : Nat) (l : List UInt8) (bad : Bool) (prot : Nat → Prop) (f : Value) (w : World) (hl : l.length + 1 ≤ 137438953472) (h : WR w p l bad prot) :
    Calls Tryz.prog 89 #[.pointer (some ⟨p, 0, none⟩), .slice none 0 0, f] w fun e w' => e = .returned (.tuple #[]) ∧ WR w' p (l ++ zs 1) bad prot ∧ Kp w w' prot := by
  go_enter Tryz.func89, Tryz.ntmps89
  go_wp2_with fail
  refine (number_z p l bad prot w hl h).mono ?_
  rintro e w' ⟨rfl, hW, hK⟩
  go_wp2
  refine wp_loop_rounds 1 ?_
  rw [rounds_succ]
  go_wp2
  go_end0
  exact ⟨rfl, hW, hK⟩


set_option maxHeartbeats 800000 in
theorem res_z (p : Nat) (l : List UInt8) (bad : Bool) (prot : Nat → Prop) (w : World) (hl : l.length + 2 ≤ 137438953472) (h : WR w p l bad prot) :
    Calls Tryz.prog 109 #[.pointer (some ⟨p, 0, none⟩), .agg #[.int .i64 0, .int .i64 0]] w fun e w' => e = .returned (.tuple #[]) ∧ WR w' p (l ++ zs 2) bad prot ∧ Kp w w' prot := by
  have hmf : ∀ (fn : Fn) (first cap : Array Value) (w : World), (Instr.makeFunc fn first cap).run Tryz.prog w = .ok (.func fn first cap) w := fun _ _ _ _ => rfl
  have hW0 : WR (w.alloc (.cells #[.int .i64 0, .int .i64 0] 37)) p (l ++ zs 0) bad (fun b => prot b ∨ b = w.heap.size) := by rw [zs_zero, List.append_nil]; exact h.box _
  have hA0 := Kp.alloc w (.cells #[.int .i64 0, .int .i64 0] 37) prot h.2.1
  have hl0 := hl
  clear h
  go_enter Tryz.func109, Tryz.ntmps109
  go_wp2_with fail
  refine (number_z p (l ++ zs 0) bad (fun b => prot b ∨ b = w.heap.size) _ (by rw [List.length_append, zs_length]; omega) hW0).mono ?_
  rintro e w1 ⟨rfl, hW1, hK1⟩
  rw [List.append_assoc, zs_add] at hW1
  have hA1 := hA0.trans (hK1.mono (fun _ x => .inl x))
  have hq1 : ∀ o, w1.cell? ⟨w.heap.size, o, none⟩ = (w.alloc (.cells #[.int .i64 0, .int .i64 0] 37)).cell? ⟨w.heap.size, o, none⟩ := fun o => hK1.cell (a := ⟨w.heap.size, o, none⟩) (.inr rfl)
  clear hW0 hK1 hA0
  go_wp2_with fail
  refine (number_z p (l ++ zs 1) bad (fun b => prot b ∨ b = w.heap.size) _ (by rw [List.length_append, zs_length]; omega) hW1).mono ?_
  rintro e w2 ⟨rfl, hW2, hK2⟩
  rw [List.append_assoc, zs_add] at hW2
  have hA2 := hA1.trans (hK2.mono (fun _ x => .inl x))
  have hq2 : ∀ o, w2.cell? ⟨w.heap.size, o, none⟩ = (w.alloc (.cells #[.int .i64 0, .int .i64 0] 37)).cell? ⟨w.heap.size, o, none⟩ := fun o => (hK2.cell (a := ⟨w.heap.size, o, none⟩) (.inr rfl)).trans (hq1 o)
  clear hW1 hK2 hA1 hq1
  go_wp2
  go_end0
  exact ⟨rfl, hW2.mono (fun _ x => .inl x), hA2⟩


set_option maxHeartbeats 800000 in
theorem job_z (p : Nat) (l : List UInt8) (bad : Bool) (prot : Nat → Prop) (w : World) (hl : l.length + 7 ≤ 137438953472) (h : WR w p l bad prot) :
    Calls Tryz.prog 84 #[.pointer (some ⟨p, 0, none⟩), .agg #[.int .i64 0, .int .i64 0, .int .i64 0, .int .i64 0, .slice none 0 0, .int .i64 0, .bool false]] w fun e w' => e = .returned (.tuple #[]) ∧ WR w' p (l ++ zs 7) bad prot ∧ Kp w w' prot := by
  have hmf : ∀ (fn : Fn) (first cap : Array Value) (w : World), (Instr.makeFunc fn first cap).run Tryz.prog w = .ok (.func fn first cap) w := fun _ _ _ _ => rfl
  have hW0 : WR (w.alloc (.cells #[.int .i64 0, .int .i64 0, .int .i64 0, .int .i64 0, .slice none 0 0, .int .i64 0, .bool false] 35)) p (l ++ zs 0) bad (fun b => prot b ∨ b = w.heap.size) := by rw [zs_zero, List.append_nil]; exact h.box _
  have hA0 := Kp.alloc w (.cells #[.int .i64 0, .int .i64 0, .int .i64 0, .int .i64 0, .slice none 0 0, .int .i64 0, .bool false] 35) prot h.2.1
  have hl0 := hl
  clear h
  go_enter Tryz.func84, Tryz.ntmps84
  go_wp2_with fail
  refine (number_z p (l ++ zs 0) bad (fun b => prot b ∨ b = w.heap.size) _ (by rw [List.length_append, zs_length]; omega) hW0).mono ?_
  rintro e w1 ⟨rfl, hW1, hK1⟩
  rw [List.append_assoc, zs_add] at hW1
  have hA1 := hA0.trans (hK1.mono (fun _ x => .inl x))
  have hq1 : ∀ o, w1.cell? ⟨w.heap.size, o, none⟩ = (w.alloc (.cells #[.int .i64 0, .int .i64 0, .int .i64 0, .int .i64 0, .slice none 0 0, .int .i64 0, .bool false] 35)).cell? ⟨w.heap.size, o, none⟩ := fun o => hK1.cell (a := ⟨w.heap.size, o, none⟩) (.inr rfl)
  clear hW0 hK1 hA0
  go_wp2_with fail
  refine (number_z p (l ++ zs 1) bad (fun b => prot b ∨ b = w.heap.size) _ (by rw [List.length_append, zs_length]; omega) hW1).mono ?_
  rintro e w2 ⟨rfl, hW2, hK2⟩
  rw [List.append_assoc, zs_add] at hW2
  have hA2 := hA1.trans (hK2.mono (fun _ x => .inl x))
  have hq2 : ∀ o, w2.cell? ⟨w.heap.size, o, none⟩ = (w.alloc (.cells #[.int .i64 0, .int .i64 0, .int .i64 0, .int .i64 0, .slice none 0 0, .int .i64 0, .bool false] 35)).cell? ⟨w.heap.size, o, none⟩ := fun o => (hK2.cell (a := ⟨w.heap.size, o, none⟩) (.inr rfl)).trans (hq1 o)
  clear hW1 hK2 hA1 hq1
  go_wp2_with fail
  refine (number_z p (l ++ zs 2) bad (fun b => prot b ∨ b = w.heap.size) _ (by rw [List.length_append, zs_length]; omega) hW2).mono ?_
  rintro e w3 ⟨rfl, hW3, hK3⟩
  rw [List.append_assoc, zs_add] at hW3
  have hA3 := hA2.trans (hK3.mono (fun _ x => .inl x))
  have hq3 : ∀ o, w3.cell? ⟨w.heap.size, o, none⟩ = (w.alloc (.cells #[.int .i64 0, .int .i64 0, .int .i64 0, .int .i64 0, .slice none 0 0, .int .i64 0, .bool false] 35)).cell? ⟨w.heap.size, o, none⟩ := fun o => (hK3.cell (a := ⟨w.heap.size, o, none⟩) (.inr rfl)).trans (hq2 o)
  clear hW2 hK3 hA2 hq2
  go_wp2_with fail
  refine (number_z p (l ++ zs 3) bad (fun b => prot b ∨ b = w.heap.size) _ (by rw [List.length_append, zs_length]; omega) hW3).mono ?_
  rintro e w4 ⟨rfl, hW4, hK4⟩
  rw [List.append_assoc, zs_add] at hW4
  have hA4 := hA3.trans (hK4.mono (fun _ x => .inl x))
  have hq4 : ∀ o, w4.cell? ⟨w.heap.size, o, none⟩ = (w.alloc (.cells #[.int .i64 0, .int .i64 0, .int .i64 0, .int .i64 0, .slice none 0 0, .int .i64 0, .bool false] 35)).cell? ⟨w.heap.size, o, none⟩ := fun o => (hK4.cell (a := ⟨w.heap.size, o, none⟩) (.inr rfl)).trans (hq3 o)
  clear hW3 hK4 hA3 hq3
  go_wp2_with fail
  refine (listGroup_z p (l ++ zs 4) bad (fun b => prot b ∨ b = w.heap.size) _ _ (by rw [List.length_append, zs_length]; omega) hW4).mono ?_
  rintro e w5 ⟨rfl, hW5, hK5⟩
  rw [List.append_assoc, zs_add] at hW5
  have hA5 := hA4.trans (hK5.mono (fun _ x => .inl x))
  have hq5 : ∀ o, w5.cell? ⟨w.heap.size, o, none⟩ = (w.alloc (.cells #[.int .i64 0, .int .i64 0, .int .i64 0, .int .i64 0, .slice none 0 0, .int .i64 0, .bool false] 35)).cell? ⟨w.heap.size, o, none⟩ := fun o => (hK5.cell (a := ⟨w.heap.size, o, none⟩) (.inr rfl)).trans (hq4 o)
  clear hW4 hK5 hA4 hq4
  go_wp2_with fail
  refine (number_z p (l ++ zs 5) bad (fun b => prot b ∨ b = w.heap.size) _ (by rw [List.length_append, zs_length]; omega) hW5).mono ?_
  rintro e w6 ⟨rfl, hW6, hK6⟩
  rw [List.append_assoc, zs_add] at hW6
  have hA6 := hA5.trans (hK6.mono (fun _ x => .inl x))
  have hq6 : ∀ o, w6.cell? ⟨w.heap.size, o, none⟩ = (w.alloc (.cells #[.int .i64 0, .int .i64 0, .int .i64 0, .int .i64 0, .slice none 0 0, .int .i64 0, .bool false] 35)).cell? ⟨w.heap.size, o, none⟩ := fun o => (hK6.cell (a := ⟨w.heap.size, o, none⟩) (.inr rfl)).trans (hq5 o)
  clear hW5 hK6 hA5 hq5
  go_wp2_with fail
  refine (truth_z p (l ++ zs 6) bad (fun b => prot b ∨ b = w.heap.size) _ (by rw [List.length_append, zs_length]; omega) hW6).mono ?_
  rintro e w7 ⟨rfl, hW7, hK7⟩
  rw [List.append_assoc, zs_add] at hW7
  have hA7 := hA6.trans (hK7.mono (fun _ x => .inl x))
  have hq7 : ∀ o, w7.cell? ⟨w.heap.size, o, none⟩ = (w.alloc (.cells #[.int .i64 0, .int .i64 0, .int .i64 0, .int .i64 0, .slice none 0 0, .int .i64 0, .bool false] 35)).cell? ⟨w.heap.size, o, none⟩ := fun o => (hK7.cell (a := ⟨w.heap.size, o, none⟩) (.inr rfl)).trans (hq6 o)
  clear hW6 hK7 hA6 hq6
  go_wp2
  go_end0
  exact ⟨rfl, hW7.mono (fun _ x => .inl x), hA7⟩


set_option maxHeartbeats 800000 in
theorem node_z (p : Nat) (l : List UInt8) (bad : Bool) (prot : Nat → Prop) (w : World) (hl : l.length + 8 ≤ 137438953472) (h : WR w p l bad prot) :
    Calls Tryz.prog 85 #[.pointer (some ⟨p, 0, none⟩), .agg #[.int .i64 0, .int .i64 0, .int .i64 0, .bool false, .bool false, .int .i64 0, .int .i64 0, .int .i64 0]] w fun e w' => e = .returned (.tuple #[]) ∧ WR w' p (l ++ zs 8) bad prot ∧ Kp w w' prot := by
  have hmf : ∀ (fn : Fn) (first cap : Array Value) (w : World), (Instr.makeFunc fn first cap).run Tryz.prog w = .ok (.func fn first cap) w := fun _ _ _ _ => rfl
  have hW0 : WR (w.alloc (.cells #[.int .i64 0, .int .i64 0, .int .i64 0, .bool false, .bool false, .int .i64 0, .int .i64 0, .int .i64 0] 39)) p (l ++ zs 0) bad (fun b => prot b ∨ b = w.heap.size) := by rw [zs_zero, List.append_nil]; exact h.box _
  have hA0 := Kp.alloc w (.cells #[.int .i64 0, .int .i64 0, .int .i64 0, .bool false, .bool false, .int .i64 0, .int .i64 0, .int .i64 0] 39) prot h.2.1
  have hl0 := hl
  clear h
  go_enter Tryz.func85, Tryz.ntmps85
  go_wp2_with fail
  refine (number_z p (l ++ zs 0) bad (fun b => prot b ∨ b = w.heap.size) _ (by rw [List.length_append, zs_length]; omega) hW0).mono ?_
  rintro e w1 ⟨rfl, hW1, hK1⟩
  rw [List.append_assoc, zs_add] at hW1
  have hA1 := hA0.trans (hK1.mono (fun _ x => .inl x))
  have hq1 : ∀ o, w1.cell? ⟨w.heap.size, o, none⟩ = (w.alloc (.cells #[.int .i64 0, .int .i64 0, .int .i64 0, .bool false, .bool false, .int .i64 0, .int .i64 0, .int .i64 0] 39)).cell? ⟨w.heap.size, o, none⟩ := fun o => hK1.cell (a := ⟨w.heap.size, o, none⟩) (.inr rfl)
  clear hW0 hK1 hA0
  go_wp2_with fail
  refine (res_z p (l ++ zs 1) bad (fun b => prot b ∨ b = w.heap.size) _ (by rw [List.length_append, zs_length]; omega) hW1).mono ?_
  rintro e w2 ⟨rfl, hW2, hK2⟩
  rw [List.append_assoc, zs_add] at hW2
  have hA2 := hA1.trans (hK2.mono (fun _ x => .inl x))
  have hq2 : ∀ o, w2.cell? ⟨w.heap.size, o, none⟩ = (w.alloc (.cells #[.int .i64 0, .int .i64 0, .int .i64 0, .bool false, .bool false, .int .i64 0, .int .i64 0, .int .i64 0] 39)).cell? ⟨w.heap.size, o, none⟩ := fun o => (hK2.cell (a := ⟨w.heap.size, o, none⟩) (.inr rfl)).trans (hq1 o)
  clear hW1 hK2 hA1 hq1
  go_wp2_with fail
  refine (truth_z p (l ++ zs 3) bad (fun b => prot b ∨ b = w.heap.size) _ (by rw [List.length_append, zs_length]; omega) hW2).mono ?_
  rintro e w3 ⟨rfl, hW3, hK3⟩
  rw [List.append_assoc, zs_add] at hW3
  have hA3 := hA2.trans (hK3.mono (fun _ x => .inl x))
  have hq3 : ∀ o, w3.cell? ⟨w.heap.size, o, none⟩ = (w.alloc (.cells #[.int .i64 0, .int .i64 0, .int .i64 0, .bool false, .bool false, .int .i64 0, .int .i64 0, .int .i64 0] 39)).cell? ⟨w.heap.size, o, none⟩ := fun o => (hK3.cell (a := ⟨w.heap.size, o, none⟩) (.inr rfl)).trans (hq2 o)
  clear hW2 hK3 hA2 hq2
  go_wp2_with fail
  refine (truth_z p (l ++ zs 4) bad (fun b => prot b ∨ b = w.heap.size) _ (by rw [List.length_append, zs_length]; omega) hW3).mono ?_
  rintro e w4 ⟨rfl, hW4, hK4⟩
  rw [List.append_assoc, zs_add] at hW4
  have hA4 := hA3.trans (hK4.mono (fun _ x => .inl x))
  have hq4 : ∀ o, w4.cell? ⟨w.heap.size, o, none⟩ = (w.alloc (.cells #[.int .i64 0, .int .i64 0, .int .i64 0, .bool false, .bool false, .int .i64 0, .int .i64 0, .int .i64 0] 39)).cell? ⟨w.heap.size, o, none⟩ := fun o => (hK4.cell (a := ⟨w.heap.size, o, none⟩) (.inr rfl)).trans (hq3 o)
  clear hW3 hK4 hA3 hq3
  go_wp2_with fail
  refine (number_z p (l ++ zs 5) bad (fun b => prot b ∨ b = w.heap.size) _ (by rw [List.length_append, zs_length]; omega) hW4).mono ?_
  rintro e w5 ⟨rfl, hW5, hK5⟩
  rw [List.append_assoc, zs_add] at hW5
  have hA5 := hA4.trans (hK5.mono (fun _ x => .inl x))
  have hq5 : ∀ o, w5.cell? ⟨w.heap.size, o, none⟩ = (w.alloc (.cells #[.int .i64 0, .int .i64 0, .int .i64 0, .bool false, .bool false, .int .i64 0, .int .i64 0, .int .i64 0] 39)).cell? ⟨w.heap.size, o, none⟩ := fun o => (hK5.cell (a := ⟨w.heap.size, o, none⟩) (.inr rfl)).trans (hq4 o)
  clear hW4 hK5 hA4 hq4
  go_wp2_with fail
  refine (number_z p (l ++ zs 6) bad (fun b => prot b ∨ b = w.heap.size) _ (by rw [List.length_append, zs_length]; omega) hW5).mono ?_
  rintro e w6 ⟨rfl, hW6, hK6⟩
  rw [List.append_assoc, zs_add] at hW6
  have hA6 := hA5.trans (hK6.mono (fun _ x => .inl x))
  have hq6 : ∀ o, w6.cell? ⟨w.heap.size, o, none⟩ = (w.alloc (.cells #[.int .i64 0, .int .i64 0, .int .i64 0, .bool false, .bool false, .int .i64 0, .int .i64 0, .int .i64 0] 39)).cell? ⟨w.heap.size, o, none⟩ := fun o => (hK6.cell (a := ⟨w.heap.size, o, none⟩) (.inr rfl)).trans (hq5 o)
  clear hW5 hK6 hA5 hq5
  go_wp2_with fail
  refine (number_z p (l ++ zs 7) bad (fun b => prot b ∨ b = w.heap.size) _ (by rw [List.length_append, zs_length]; omega) hW6).mono ?_
  rintro e w7 ⟨rfl, hW7, hK7⟩
  rw [List.append_assoc, zs_add] at hW7
  have hA7 := hA6.trans (hK7.mono (fun _ x => .inl x))
  have hq7 : ∀ o, w7.cell? ⟨w.heap.size, o, none⟩ = (w.alloc (.cells #[.int .i64 0, .int .i64 0, .int .i64 0, .bool false, .bool false, .int .i64 0, .int .i64 0, .int .i64 0] 39)).cell? ⟨w.heap.size, o, none⟩ := fun o => (hK7.cell (a := ⟨w.heap.size, o, none⟩) (.inr rfl)).trans (hq6 o)
  clear hW6 hK7 hA6 hq6
  go_wp2
  go_end0
  exact ⟨rfl, hW7.mono (fun _ x => .inl x), hA7⟩


set_option maxHeartbeats 800000 in
theorem plan_z (p : Nat) (l : List UInt8) (bad : Bool) (prot : Nat → Prop) (w : World) (hl : l.length + 6 ≤ 137438953472) (h : WR w p l bad prot) :
    Calls Tryz.prog 88 #[.pointer (some ⟨p, 0, none⟩), .agg #[.int .i64 0, .int .i64 0, .int .i64 0, .slice none 0 0, .slice none 0 0, .bool false]] w fun e w' => e = .returned (.tuple #[]) ∧ WR w' p (l ++ zs 6) bad prot ∧ Kp w w' prot := by
  have hmf : ∀ (fn : Fn) (first cap : Array Value) (w : World), (Instr.makeFunc fn first cap).run Tryz.prog w = .ok (.func fn first cap) w := fun _ _ _ _ => rfl
  have hW0 : WR (w.alloc (.cells #[.int .i64 0, .int .i64 0, .int .i64 0, .slice none 0 0, .slice none 0 0, .bool false] 43)) p (l ++ zs 0) bad (fun b => prot b ∨ b = w.heap.size) := by rw [zs_zero, List.append_nil]; exact h.box _
  have hA0 := Kp.alloc w (.cells #[.int .i64 0, .int .i64 0, .int .i64 0, .slice none 0 0, .slice none 0 0, .bool false] 43) prot h.2.1
  have hl0 := hl
  clear h
  go_enter Tryz.func88, Tryz.ntmps88
  go_wp2_with fail
  refine (number_z p (l ++ zs 0) bad (fun b => prot b ∨ b = w.heap.size) _ (by rw [List.length_append, zs_length]; omega) hW0).mono ?_
  rintro e w1 ⟨rfl, hW1, hK1⟩
  rw [List.append_assoc, zs_add] at hW1
  have hA1 := hA0.trans (hK1.mono (fun _ x => .inl x))
  have hq1 : ∀ o, w1.cell? ⟨w.heap.size, o, none⟩ = (w.alloc (.cells #[.int .i64 0, .int .i64 0, .int .i64 0, .slice none 0 0, .slice none 0 0, .bool false] 43)).cell? ⟨w.heap.size, o, none⟩ := fun o => hK1.cell (a := ⟨w.heap.size, o, none⟩) (.inr rfl)
  clear hW0 hK1 hA0
  go_wp2_with fail
  refine (number_z p (l ++ zs 1) bad (fun b => prot b ∨ b = w.heap.size) _ (by rw [List.length_append, zs_length]; omega) hW1).mono ?_
  rintro e w2 ⟨rfl, hW2, hK2⟩
  rw [List.append_assoc, zs_add] at hW2
  have hA2 := hA1.trans (hK2.mono (fun _ x => .inl x))
  have hq2 : ∀ o, w2.cell? ⟨w.heap.size, o, none⟩ = (w.alloc (.cells #[.int .i64 0, .int .i64 0, .int .i64 0, .slice none 0 0, .slice none 0 0, .bool false] 43)).cell? ⟨w.heap.size, o, none⟩ := fun o => (hK2.cell (a := ⟨w.heap.size, o, none⟩) (.inr rfl)).trans (hq1 o)
  clear hW1 hK2 hA1 hq1
  go_wp2_with fail
  refine (number_z p (l ++ zs 2) bad (fun b => prot b ∨ b = w.heap.size) _ (by rw [List.length_append, zs_length]; omega) hW2).mono ?_
  rintro e w3 ⟨rfl, hW3, hK3⟩
  rw [List.append_assoc, zs_add] at hW3
  have hA3 := hA2.trans (hK3.mono (fun _ x => .inl x))
  have hq3 : ∀ o, w3.cell? ⟨w.heap.size, o, none⟩ = (w.alloc (.cells #[.int .i64 0, .int .i64 0, .int .i64 0, .slice none 0 0, .slice none 0 0, .bool false] 43)).cell? ⟨w.heap.size, o, none⟩ := fun o => (hK3.cell (a := ⟨w.heap.size, o, none⟩) (.inr rfl)).trans (hq2 o)
  clear hW2 hK3 hA2 hq2
  go_wp2_with fail
  refine (listInt_z p (l ++ zs 3) bad (fun b => prot b ∨ b = w.heap.size) _ _ (by rw [List.length_append, zs_length]; omega) hW3).mono ?_
  rintro e w4 ⟨rfl, hW4, hK4⟩
  rw [List.append_assoc, zs_add] at hW4
  have hA4 := hA3.trans (hK4.mono (fun _ x => .inl x))
  have hq4 : ∀ o, w4.cell? ⟨w.heap.size, o, none⟩ = (w.alloc (.cells #[.int .i64 0, .int .i64 0, .int .i64 0, .slice none 0 0, .slice none 0 0, .bool false] 43)).cell? ⟨w.heap.size, o, none⟩ := fun o => (hK4.cell (a := ⟨w.heap.size, o, none⟩) (.inr rfl)).trans (hq3 o)
  clear hW3 hK4 hA3 hq3
  go_wp2_with fail
  refine (listAlloc_z p (l ++ zs 4) bad (fun b => prot b ∨ b = w.heap.size) _ _ (by rw [List.length_append, zs_length]; omega) hW4).mono ?_
  rintro e w5 ⟨rfl, hW5, hK5⟩
  rw [List.append_assoc, zs_add] at hW5
  have hA5 := hA4.trans (hK5.mono (fun _ x => .inl x))
  have hq5 : ∀ o, w5.cell? ⟨w.heap.size, o, none⟩ = (w.alloc (.cells #[.int .i64 0, .int .i64 0, .int .i64 0, .slice none 0 0, .slice none 0 0, .bool false] 43)).cell? ⟨w.heap.size, o, none⟩ := fun o => (hK5.cell (a := ⟨w.heap.size, o, none⟩) (.inr rfl)).trans (hq4 o)
  clear hW4 hK5 hA4 hq4
  go_wp2_with fail
  refine (truth_z p (l ++ zs 5) bad (fun b => prot b ∨ b = w.heap.size) _ (by rw [List.length_append, zs_length]; omega) hW5).mono ?_
  rintro e w6 ⟨rfl, hW6, hK6⟩
  rw [List.append_assoc, zs_add] at hW6
  have hA6 := hA5.trans (hK6.mono (fun _ x => .inl x))
  have hq6 : ∀ o, w6.cell? ⟨w.heap.size, o, none⟩ = (w.alloc (.cells #[.int .i64 0, .int .i64 0, .int .i64 0, .slice none 0 0, .slice none 0 0, .bool false] 43)).cell? ⟨w.heap.size, o, none⟩ := fun o => (hK6.cell (a := ⟨w.heap.size, o, none⟩) (.inr rfl)).trans (hq5 o)
  clear hW5 hK6 hA5 hq5
  go_wp2
  go_end0
  exact ⟨rfl, hW6.mono (fun _ x => .inl x), hA6⟩


set_option maxHeartbeats 800000 in
theorem conf_z (p : Nat) (l : List UInt8) (bad : Bool) (prot : Nat → Prop) (w : World) (hl : l.length + 2 ≤ 137438953472) (h : WR w p l bad prot) :
    Calls Tryz.prog 58 #[.pointer (some ⟨p, 0, none⟩), .agg #[.slice none 0 0, .slice none 0 0]] w fun e w' => e = .returned (.tuple #[]) ∧ WR w' p (l ++ zs 2) bad prot ∧ Kp w w' prot := by
  have hmf : ∀ (fn : Fn) (first cap : Array Value) (w : World), (Instr.makeFunc fn first cap).run Tryz.prog w = .ok (.func fn first cap) w := fun _ _ _ _ => rfl
  have hW0 : WR (w.alloc (.cells #[.slice none 0 0, .slice none 0 0] 31)) p (l ++ zs 0) bad (fun b => prot b ∨ b = w.heap.size) := by rw [zs_zero, List.append_nil]; exact h.box _
  have hA0 := Kp.alloc w (.cells #[.slice none 0 0, .slice none 0 0] 31) prot h.2.1
  have hl0 := hl
  clear h
  go_enter Tryz.func58, Tryz.ntmps58
  go_wp2_with fail
  refine (listInt_z p (l ++ zs 0) bad (fun b => prot b ∨ b = w.heap.size) _ _ (by rw [List.length_append, zs_length]; omega) hW0).mono ?_
  rintro e w1 ⟨rfl, hW1, hK1⟩
  rw [List.append_assoc, zs_add] at hW1
  have hA1 := hA0.trans (hK1.mono (fun _ x => .inl x))
  have hq1 : ∀ o, w1.cell? ⟨w.heap.size, o, none⟩ = (w.alloc (.cells #[.slice none 0 0, .slice none 0 0] 31)).cell? ⟨w.heap.size, o, none⟩ := fun o => hK1.cell (a := ⟨w.heap.size, o, none⟩) (.inr rfl)
  clear hW0 hK1 hA0
  go_wp2_with fail
  refine (listInt_z p (l ++ zs 1) bad (fun b => prot b ∨ b = w.heap.size) _ _ (by rw [List.length_append, zs_length]; omega) hW1).mono ?_
  rintro e w2 ⟨rfl, hW2, hK2⟩
  rw [List.append_assoc, zs_add] at hW2
  have hA2 := hA1.trans (hK2.mono (fun _ x => .inl x))
  have hq2 : ∀ o, w2.cell? ⟨w.heap.size, o, none⟩ = (w.alloc (.cells #[.slice none 0 0, .slice none 0 0] 31)).cell? ⟨w.heap.size, o, none⟩ := fun o => (hK2.cell (a := ⟨w.heap.size, o, none⟩) (.inr rfl)).trans (hq1 o)
  clear hW1 hK2 hA1 hq1
  go_wp2
  go_end0
  exact ⟨rfl, hW2.mono (fun _ x => .inl x), hA2⟩


set_option maxHeartbeats 800000 in
theorem cmd_z (p : Nat) (l : List UInt8) (bad : Bool) (prot : Nat → Prop) (w : World) (hl : l.length + 27 ≤ 137438953472) (h : WR w p l bad prot) :
    Calls Tryz.prog 60 #[.pointer (some ⟨p, 0, none⟩), .agg #[.int .i64 0, .int .i64 0, .int .i64 0, .int .i64 0, .int .i64 0, .int .i64 0, .int .i64 0, .slice none 0 0, .int .i64 0, .bool false, .int .i64 0, .int .i64 0, .int .i64 0, .bool false, .bool false, .int .i64 0, .int .i64 0, .int .i64 0, .slice none 0 0, .int .i64 0, .int .i64 0, .int .i64 0, .slice none 0 0, .slice none 0 0, .bool false, .slice none 0 0, .slice none 0 0]] w fun e w' => e = .returned (.tuple #[]) ∧ WR w' p (l ++ zs 27) bad prot ∧ Kp w w' prot := by
  have hmf : ∀ (fn : Fn) (first cap : Array Value) (w : World), (Instr.makeFunc fn first cap).run Tryz.prog w = .ok (.func fn first cap) w := fun _ _ _ _ => rfl
  have hW0 : WR (w.alloc (.cells #[.int .i64 0, .int .i64 0, .int .i64 0, .int .i64 0, .int .i64 0, .int .i64 0, .int .i64 0, .slice none 0 0, .int .i64 0, .bool false, .int .i64 0, .int .i64 0, .int .i64 0, .bool false, .bool false, .int .i64 0, .int .i64 0, .int .i64 0, .slice none 0 0, .int .i64 0, .int .i64 0, .int .i64 0, .slice none 0 0, .slice none 0 0, .bool false, .slice none 0 0, .slice none 0 0] 45)) p (l ++ zs 0) bad (fun b => prot b ∨ b = w.heap.size) := by rw [zs_zero, List.append_nil]; exact h.box _
  have hA0 := Kp.alloc w (.cells #[.int .i64 0, .int .i64 0, .int .i64 0, .int .i64 0, .int .i64 0, .int .i64 0, .int .i64 0, .slice none 0 0, .int .i64 0, .bool false, .int .i64 0, .int .i64 0, .int .i64 0, .bool false, .bool false, .int .i64 0, .int .i64 0, .int .i64 0, .slice none 0 0, .int .i64 0, .int .i64 0, .int .i64 0, .slice none 0 0, .slice none 0 0, .bool false, .slice none 0 0, .slice none 0 0] 45) prot h.2.1
  have hl0 := hl
  clear h
  go_enter Tryz.func60, Tryz.ntmps60
  go_wp2_with fail
  refine (number_z p (l ++ zs 0) bad (fun b => prot b ∨ b = w.heap.size) _ (by rw [List.length_append, zs_length]; omega) hW0).mono ?_
  rintro e w1 ⟨rfl, hW1, hK1⟩
  rw [List.append_assoc, zs_add] at hW1
  have hA1 := hA0.trans (hK1.mono (fun _ x => .inl x))
  have hq1 : ∀ o, w1.cell? ⟨w.heap.size, o, none⟩ = (w.alloc (.cells #[.int .i64 0, .int .i64 0, .int .i64 0, .int .i64 0, .int .i64 0, .int .i64 0, .int .i64 0, .slice none 0 0, .int .i64 0, .bool false, .int .i64 0, .int .i64 0, .int .i64 0, .bool false, .bool false, .int .i64 0, .int .i64 0, .int .i64 0, .slice none 0 0, .int .i64 0, .int .i64 0, .int .i64 0, .slice none 0 0, .slice none 0 0, .bool false, .slice none 0 0, .slice none 0 0] 45)).cell? ⟨w.heap.size, o, none⟩ := fun o => hK1.cell (a := ⟨w.heap.size, o, none⟩) (.inr rfl)
  clear hW0 hK1 hA0
  go_wp2_with fail
  refine (number_z p (l ++ zs 1) bad (fun b => prot b ∨ b = w.heap.size) _ (by rw [List.length_append, zs_length]; omega) hW1).mono ?_
  rintro e w2 ⟨rfl, hW2, hK2⟩
  rw [List.append_assoc, zs_add] at hW2
  have hA2 := hA1.trans (hK2.mono (fun _ x => .inl x))
  have hq2 : ∀ o, w2.cell? ⟨w.heap.size, o, none⟩ = (w.alloc (.cells #[.int .i64 0, .int .i64 0, .int .i64 0, .int .i64 0, .int .i64 0, .int .i64 0, .int .i64 0, .slice none 0 0, .int .i64 0, .bool false, .int .i64 0, .int .i64 0, .int .i64 0, .bool false, .bool false, .int .i64 0, .int .i64 0, .int .i64 0, .slice none 0 0, .int .i64 0, .int .i64 0, .int .i64 0, .slice none 0 0, .slice none 0 0, .bool false, .slice none 0 0, .slice none 0 0] 45)).cell? ⟨w.heap.size, o, none⟩ := fun o => (hK2.cell (a := ⟨w.heap.size, o, none⟩) (.inr rfl)).trans (hq1 o)
  clear hW1 hK2 hA1 hq1
  go_wp2_with fail
  refine (number_z p (l ++ zs 2) bad (fun b => prot b ∨ b = w.heap.size) _ (by rw [List.length_append, zs_length]; omega) hW2).mono ?_
  rintro e w3 ⟨rfl, hW3, hK3⟩
  rw [List.append_assoc, zs_add] at hW3
  have hA3 := hA2.trans (hK3.mono (fun _ x => .inl x))
  have hq3 : ∀ o, w3.cell? ⟨w.heap.size, o, none⟩ = (w.alloc (.cells #[.int .i64 0, .int .i64 0, .int .i64 0, .int .i64 0, .int .i64 0, .int .i64 0, .int .i64 0, .slice none 0 0, .int .i64 0, .bool false, .int .i64 0, .int .i64 0, .int .i64 0, .bool false, .bool false, .int .i64 0, .int .i64 0, .int .i64 0, .slice none 0 0, .int .i64 0, .int .i64 0, .int .i64 0, .slice none 0 0, .slice none 0 0, .bool false, .slice none 0 0, .slice none 0 0] 45)).cell? ⟨w.heap.size, o, none⟩ := fun o => (hK3.cell (a := ⟨w.heap.size, o, none⟩) (.inr rfl)).trans (hq2 o)
  clear hW2 hK3 hA2 hq2
  go_wp2_with fail
  refine (job_z p (l ++ zs 3) bad (fun b => prot b ∨ b = w.heap.size) _ (by rw [List.length_append, zs_length]; omega) hW3).mono ?_
  rintro e w4 ⟨rfl, hW4, hK4⟩
  rw [List.append_assoc, zs_add] at hW4
  have hA4 := hA3.trans (hK4.mono (fun _ x => .inl x))
  have hq4 : ∀ o, w4.cell? ⟨w.heap.size, o, none⟩ = (w.alloc (.cells #[.int .i64 0, .int .i64 0, .int .i64 0, .int .i64 0, .int .i64 0, .int .i64 0, .int .i64 0, .slice none 0 0, .int .i64 0, .bool false, .int .i64 0, .int .i64 0, .int .i64 0, .bool false, .bool false, .int .i64 0, .int .i64 0, .int .i64 0, .slice none 0 0, .int .i64 0, .int .i64 0, .int .i64 0, .slice none 0 0, .slice none 0 0, .bool false, .slice none 0 0, .slice none 0 0] 45)).cell? ⟨w.heap.size, o, none⟩ := fun o => (hK4.cell (a := ⟨w.heap.size, o, none⟩) (.inr rfl)).trans (hq3 o)
  clear hW3 hK4 hA3 hq3
  go_wp2_with fail
  refine (node_z p (l ++ zs 10) bad (fun b => prot b ∨ b = w.heap.size) _ (by rw [List.length_append, zs_length]; omega) hW4).mono ?_
  rintro e w5 ⟨rfl, hW5, hK5⟩
  rw [List.append_assoc, zs_add] at hW5
  have hA5 := hA4.trans (hK5.mono (fun _ x => .inl x))
  have hq5 : ∀ o, w5.cell? ⟨w.heap.size, o, none⟩ = (w.alloc (.cells #[.int .i64 0, .int .i64 0, .int .i64 0, .int .i64 0, .int .i64 0, .int .i64 0, .int .i64 0, .slice none 0 0, .int .i64 0, .bool false, .int .i64 0, .int .i64 0, .int .i64 0, .bool false, .bool false, .int .i64 0, .int .i64 0, .int .i64 0, .slice none 0 0, .int .i64 0, .int .i64 0, .int .i64 0, .slice none 0 0, .slice none 0 0, .bool false, .slice none 0 0, .slice none 0 0] 45)).cell? ⟨w.heap.size, o, none⟩ := fun o => (hK5.cell (a := ⟨w.heap.size, o, none⟩) (.inr rfl)).trans (hq4 o)
  clear hW4 hK5 hA4 hq4
  go_wp2_with fail
  refine (listReport_z p (l ++ zs 18) bad (fun b => prot b ∨ b = w.heap.size) _ _ (by rw [List.length_append, zs_length]; omega) hW5).mono ?_
  rintro e w6 ⟨rfl, hW6, hK6⟩
  rw [List.append_assoc, zs_add] at hW6
  have hA6 := hA5.trans (hK6.mono (fun _ x => .inl x))
  have hq6 : ∀ o, w6.cell? ⟨w.heap.size, o, none⟩ = (w.alloc (.cells #[.int .i64 0, .int .i64 0, .int .i64 0, .int .i64 0, .int .i64 0, .int .i64 0, .int .i64 0, .slice none 0 0, .int .i64 0, .bool false, .int .i64 0, .int .i64 0, .int .i64 0, .bool false, .bool false, .int .i64 0, .int .i64 0, .int .i64 0, .slice none 0 0, .int .i64 0, .int .i64 0, .int .i64 0, .slice none 0 0, .slice none 0 0, .bool false, .slice none 0 0, .slice none 0 0] 45)).cell? ⟨w.heap.size, o, none⟩ := fun o => (hK6.cell (a := ⟨w.heap.size, o, none⟩) (.inr rfl)).trans (hq5 o)
  clear hW5 hK6 hA5 hq5
  go_wp2_with fail
  refine (plan_z p (l ++ zs 19) bad (fun b => prot b ∨ b = w.heap.size) _ (by rw [List.length_append, zs_length]; omega) hW6).mono ?_
  rintro e w7 ⟨rfl, hW7, hK7⟩
  rw [List.append_assoc, zs_add] at hW7
  have hA7 := hA6.trans (hK7.mono (fun _ x => .inl x))
  have hq7 : ∀ o, w7.cell? ⟨w.heap.size, o, none⟩ = (w.alloc (.cells #[.int .i64 0, .int .i64 0, .int .i64 0, .int .i64 0, .int .i64 0, .int .i64 0, .int .i64 0, .slice none 0 0, .int .i64 0, .bool false, .int .i64 0, .int .i64 0, .int .i64 0, .bool false, .bool false, .int .i64 0, .int .i64 0, .int .i64 0, .slice none 0 0, .int .i64 0, .int .i64 0, .int .i64 0, .slice none 0 0, .slice none 0 0, .bool false, .slice none 0 0, .slice none 0 0] 45)).cell? ⟨w.heap.size, o, none⟩ := fun o => (hK7.cell (a := ⟨w.heap.size, o, none⟩) (.inr rfl)).trans (hq6 o)
  clear hW6 hK7 hA6 hq6
  go_wp2_with fail
  refine (conf_z p (l ++ zs 25) bad (fun b => prot b ∨ b = w.heap.size) _ (by rw [List.length_append, zs_length]; omega) hW7).mono ?_
  rintro e w8 ⟨rfl, hW8, hK8⟩
  rw [List.append_assoc, zs_add] at hW8
  have hA8 := hA7.trans (hK8.mono (fun _ x => .inl x))
  have hq8 : ∀ o, w8.cell? ⟨w.heap.size, o, none⟩ = (w.alloc (.cells #[.int .i64 0, .int .i64 0, .int .i64 0, .int .i64 0, .int .i64 0, .int .i64 0, .int .i64 0, .slice none 0 0, .int .i64 0, .bool false, .int .i64 0, .int .i64 0, .int .i64 0, .bool false, .bool false, .int .i64 0, .int .i64 0, .int .i64 0, .slice none 0 0, .int .i64 0, .int .i64 0, .int .i64 0, .slice none 0 0, .slice none 0 0, .bool false, .slice none 0 0, .slice none 0 0] 45)).cell? ⟨w.heap.size, o, none⟩ := fun o => (hK8.cell (a := ⟨w.heap.size, o, none⟩) (.inr rfl)).trans (hq7 o)
  clear hW7 hK8 hA7 hq7
  go_wp2
  go_end0
  exact ⟨rfl, hW8.mono (fun _ x => .inl x), hA8⟩

end Go.Proofs.YtcdoejdbmllnnabGreat
