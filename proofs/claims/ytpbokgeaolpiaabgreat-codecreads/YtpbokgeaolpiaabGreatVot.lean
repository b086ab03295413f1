/- What the document's writer does with a store, whatever it holds. Made by program (wip/gen/out.py). -/
import Derived.Deep.RegionHeld3
import Derived.Test.YtpbokgeaolpiaabGreatKD
namespace Go.Proofs.YtpbokgeaolpiaabGreat
open Go.RowKit

theorem WR.boxN' {w : World} {p : Nat} {l : List UInt8} {bad : Bool} {prot : Nat → Prop} (h : WR w p l bad prot) (o : Obj) (n : Nat) (hn : n = w.heap.size) : WR (w.alloc o) p l bad (fun b => prot b ∨ b = n) := by subst hn; exact h.box o
theorem range_newN' (w : World) (cs : List Value) (e : TypeId) (n : Nat) (hn : n = w.heap.size) : (w.alloc (.cells cs.toArray e)).rangeAt n 0 cs := by subst hn; exact range_new w cs e
theorem WR.drew {w : World} {p : Nat} {l : List UInt8} {bad : Bool} {prot : Nat → Prop} (h : WR w p l bad prot) : WR w.drew p l bad prot := h
theorem Kp.drewK (w : World) (prot : Nat → Prop) : Kp w w.drew prot := ⟨rfl, rfl, rfl, Nat.le_refl _, fun _ _ => rfl⟩
theorem range_drew {w : World} {b o : Nat} {cs : List Value} (h : w.rangeAt b o cs) : w.drew.rangeAt b o cs := h


theorem info_job_o : (Tryz.prog.info? 25).map (·.size) = some (wd F_job) := by kernel_rfl

set_option maxHeartbeats 1000000 in
set_option maxRecDepth 100000 in
theorem jobs_o (p : Nat) (l : List UInt8) (bad : Bool) (prot S : Nat → Prop) (a : Option Addr) (c : Nat) (vs : List (Vl F_job)) (w : World) (hl : l.length + szb (.lst F_job) vs ≤ 137438953472) (hS : ∀ b, S b → prot b) (hr : RepL w S F_job a vs) (h : WR w p l bad prot) :
    Calls Tryz.prog 142 #[.pointer (some ⟨p, 0, none⟩), .slice a vs.length c] w fun e w' => e = .returned (.tuple #[]) ∧ WR w' p (l ++ (enR (.lst F_job) vs).1) (bad || (enR (.lst F_job) vs).2) prot ∧ Kp w w' prot := by
  have hl2 : Hid (l.length + (6 + (vs.map fun v => szb F_job v).sum) ≤ 137438953472) := hl
  have hN := hr.1
  have HSP : Hid (∀ b, S b → prot b) := hS
  have HNL : Hid ((enN (vs.length : Int)).1.length ≤ 6) := enN_len _
  have EB : Hid (∀ q, (bad || (decide (64 < (vs.length : Int)) || (enN (vs.length : Int)).2) || q) = (bad || (decide (64 < (vs.length : Int)) || (enN (vs.length : Int)).2 || q))) := fun q => Bool.or_assoc _ _ _
  clear hl hS
  go_enter Tryz.func142, Tryz.ntmps142
  go_wp2_with fail
  refine (count_o p l bad prot (vs.length : Int) w (by have := hl2.out; omega) h).mono ?_
  rintro e w1 ⟨rfl, hW1, hK1⟩
  go_wp2
  go_loopw [4] (fun i wr => ∃ k : Nat, k ≤ vs.length ∧ i = .int .i64 k ∧ WR wr p (l ++ (enN (vs.length : Int)).1 ++ (vs.take k).flatMap fun v => (enR F_job v).1) (bad || (decide (64 < (vs.length : Int)) || (enN (vs.length : Int)).2) || (vs.take k).any fun v => (enR F_job v).2) prot ∧ Kp w wr prot) (fun i _ => vs.length - (intOf i).toNat)
  case atStart => exact ⟨0, Nat.zero_le _, rfl, by simpa using hW1, hK1⟩
  case round =>
      obtain ⟨k, hk, rfl, hWk, hKk⟩ := hrel
      by_cases hlt : k < vs.length
      · obtain ⟨b, off, rfl, hSb, hes⟩ := hr.2 (by intro e; rw [e] at hlt; simp at hlt)
        obtain ⟨es, hrep0, hrg0⟩ := hes k hlt
        have hrep := hrep0.kept (S' := S) hKk.size (fun b hb => hKk.block b (HSP.out b hb)) (fun _ x => x)
        have hrg : wr.rangeAt b (off + k * wd F_job) es := rangeAt_kept hrg0 (hKk.block b (HSP.out b hSb))
        clear hrep0 hrg0
        have HLK : Hid ((l ++ (enN (vs.length : Int)).1 ++ (vs.take k).flatMap fun v => (enR F_job v).1).length + szb F_job vs[k] ≤ 137438953472) := by
          have h3 := hl2.out
          show _ ≤ _
          have h4 := flat_sum (fun v => (enR F_job v).1) (fun v => szb F_job v) (fun v => enR_len F_job v) (vs.take k)
          have h5 := sum_take (fun v => szb F_job v) vs k hlt
          have h6 := HNL.out
          simp only [List.length_append]
          omega
        have I0 : Hid ((Tryz.prog.info? 25).map (·.size) = some es.length) := by show _ = _; rw [hrep.len]; exact info_job_o
        have HRG : Hid (wr.rangeAt b (off + k * wd F_job) es) := hrg
        have HRE : Hid (Rep wr S F_job es vs[k]) := hrep
        clear hrep hrg hes hr
        go_wp2_with (refine wpList_load_mid rfl 25 (.tmp 18) rfl b (off + k * wd F_job) rfl es _ HRG.out Tryz.underlying25 rfl I0.out ?_)
        refine (job_o p _ _ prot S es vs[k] wr HLK.out HSP.out HRE.out hWk).mono ?_
        rintro e w3 ⟨rfl, hW3, hK3⟩
        have E1 : Hid ((vs.take (k + 1)).flatMap (fun v => (enR F_job v).1) = (vs.take k).flatMap (fun v => (enR F_job v).1) ++ (enR F_job vs[k]).1) := by
          show _ = _
          rw [← List.take_append_getElem hlt, List.flatMap_append]; simp
        have E2 : Hid ((vs.take (k + 1)).any (fun v => (enR F_job v).2) = ((vs.take k).any (fun v => (enR F_job v).2) || (enR F_job vs[k]).2)) := by
          show _ = _
          rw [← List.take_append_getElem hlt, List.any_append]; simp
        go_wp2
        refine ⟨⟨k + 1, by omega, by go_num, ?_, hKk.trans hK3⟩, by simp [intOf]; omega⟩
        rw [E1.out, E2.out, ← List.append_assoc, ← Bool.or_assoc]
        exact hW3
      · have hkN : k = vs.length := by omega
        subst hkN
        go_wp2
        go_end0
        rw [List.take_of_length_le (Nat.le_refl _), List.append_assoc, EB.out] at hWk
        exact ⟨rfl, hWk, hKk⟩


set_option maxHeartbeats 2000000 in
set_option maxRecDepth 100000 in
theorem store_o (p : Nat) (l : List UInt8) (bad : Bool) (prot S : Nat → Prop) (cs : List Value) (v : Vl F_store) (w : World) (hl : l.length + szb F_store v ≤ 137438953472) (hS : ∀ b, S b → prot b) (hr : Rep w S F_store cs v) (h : WR w p l bad prot) :
    Calls Tryz.prog 103 #[.pointer (some ⟨p, 0, none⟩), .agg cs.toArray] w fun e w' => e = .returned (.tuple #[]) ∧ WR w' p (l ++ (enR F_store v).1) (bad || (enR F_store v).2) prot ∧ Kp w w' prot := by
  obtain ⟨x0, x1, a2, c2, v2, a3, c3, v3, a4, c4, v4, a5, c5, v5, a6, c6, v6, a7, c7, v7, a8, c8, v8, rfl, rfl, h2, h3, h4, h5, h6, h7, h8⟩ := open_store hr
  rw [szb_store] at hl
  have hl2 : Hid (l.length + (6 + (6 + (szb (.lst F_job) v2 + (szb (.lst F_job) v3 + (szb (.lst F_node) v4 + (szb (.lst F_alloc) v5 + (szb (.lst F_eval) v6 + (szb (.lst F_deploy) v7 + (szb (.lst F_seen) v8))))))))) ≤ 137438953472) := hl
  have hW0 : WR (w.alloc (.cells [.int .i64 x0, .int .i64 x1, .slice a2 v2.length c2, .slice a3 v3.length c3, .slice a4 v4.length c4, .slice a5 v5.length c5, .slice a6 v6.length c6, .slice a7 v7.length c7, .slice a8 v8.length c8].toArray 70)) p l bad (fun b => prot b ∨ b = w.heap.size) := h.box _
  have hA0 := Kp.alloc w (.cells [.int .i64 x0, .int .i64 x1, .slice a2 v2.length c2, .slice a3 v3.length c3, .slice a4 v4.length c4, .slice a5 v5.length c5, .slice a6 v6.length c6, .slice a7 v7.length c7, .slice a8 v8.length c8].toArray 70) prot h.2.1
  have hq0 : ∀ o, (w.alloc (.cells [.int .i64 x0, .int .i64 x1, .slice a2 v2.length c2, .slice a3 v3.length c3, .slice a4 v4.length c4, .slice a5 v5.length c5, .slice a6 v6.length c6, .slice a7 v7.length c7, .slice a8 v8.length c8].toArray 70)).cell? ⟨w.heap.size, o, none⟩ = (w.alloc (.cells [.int .i64 x0, .int .i64 x1, .slice a2 v2.length c2, .slice a3 v3.length c3, .slice a4 v4.length c4, .slice a5 v5.length c5, .slice a6 v6.length c6, .slice a7 v7.length c7, .slice a8 v8.length c8].toArray 70)).cell? ⟨w.heap.size, o, none⟩ := fun _ => rfl
  have HP : Hid (∀ b, S b → prot b) := hS
  have HS : Hid (∀ b, S b → (fun b => prot b ∨ b = w.heap.size) b) := fun b hb => .inl (hS b hb)
  clear h hr hS hl hq0
  go_enter Tryz.func103, Tryz.ntmps103
  go_wp2_with fail
  refine (num_o p l bad (fun b => prot b ∨ b = w.heap.size) x0 _ (by have := hl2.out; omega) hW0).mono ?_
  rintro e w1 ⟨rfl, hW1, hK1⟩
  have hA1 := hA0.trans (hK1.mono (fun _ x => .inl x))
  have hq1 : ∀ o, w1.cell? ⟨w.heap.size, o, none⟩ = (w.alloc (.cells [.int .i64 x0, .int .i64 x1, .slice a2 v2.length c2, .slice a3 v3.length c3, .slice a4 v4.length c4, .slice a5 v5.length c5, .slice a6 v6.length c6, .slice a7 v7.length c7, .slice a8 v8.length c8].toArray 70)).cell? ⟨w.heap.size, o, none⟩ := fun o => hK1.cell (a := ⟨w.heap.size, o, none⟩) (.inr rfl)
  clear hW0 hK1 hA0
  go_wp2_with fail
  refine (num_o p (l ++ (enN x0).1) (bad || (enN x0).2) (fun b => prot b ∨ b = w.heap.size) x1 _ (by have := hl2.out; have := enN_len x0; simp only [List.length_append]; omega) hW1).mono ?_
  rintro e w2 ⟨rfl, hW2, hK2⟩
  have hA2 := hA1.trans (hK2.mono (fun _ x => .inl x))
  have hq2 : ∀ o, w2.cell? ⟨w.heap.size, o, none⟩ = (w.alloc (.cells [.int .i64 x0, .int .i64 x1, .slice a2 v2.length c2, .slice a3 v3.length c3, .slice a4 v4.length c4, .slice a5 v5.length c5, .slice a6 v6.length c6, .slice a7 v7.length c7, .slice a8 v8.length c8].toArray 70)).cell? ⟨w.heap.size, o, none⟩ := fun o => (hK2.cell (a := ⟨w.heap.size, o, none⟩) (.inr rfl)).trans (hq1 o)
  clear hW1 hK2 hA1 hq1
  go_wp2_with fail
  refine (jobs_o p (l ++ (enN x0).1 ++ (enN x1).1) (bad || (enN x0).2 || (enN x1).2) (fun b => prot b ∨ b = w.heap.size) S a2 c2 v2 _ (by have := hl2.out; have := enN_len x0; have := enN_len x1; simp only [List.length_append]; omega) HS.out (h2.kept hA2.size (fun b hb => hA2.block b (HP.out b hb)) (fun _ x => x)) hW2).mono ?_
  rintro e w3 ⟨rfl, hW3, hK3⟩
  have hA3 := hA2.trans (hK3.mono (fun _ x => .inl x))
  have hq3 : ∀ o, w3.cell? ⟨w.heap.size, o, none⟩ = (w.alloc (.cells [.int .i64 x0, .int .i64 x1, .slice a2 v2.length c2, .slice a3 v3.length c3, .slice a4 v4.length c4, .slice a5 v5.length c5, .slice a6 v6.length c6, .slice a7 v7.length c7, .slice a8 v8.length c8].toArray 70)).cell? ⟨w.heap.size, o, none⟩ := fun o => (hK3.cell (a := ⟨w.heap.size, o, none⟩) (.inr rfl)).trans (hq2 o)
  clear hW2 hK3 hA2 hq2
  go_wp2_with fail
  refine (jobs_o p (l ++ (enN x0).1 ++ (enN x1).1 ++ (enR (.lst F_job) v2).1) (bad || (enN x0).2 || (enN x1).2 || (enR (.lst F_job) v2).2) (fun b => prot b ∨ b = w.heap.size) S a3 c3 v3 _ (by have := hl2.out; have := enN_len x0; have := enN_len x1; have := enR_len (.lst F_job) v2; simp only [List.length_append]; omega) HS.out (h3.kept hA3.size (fun b hb => hA3.block b (HP.out b hb)) (fun _ x => x)) hW3).mono ?_
  rintro e w4 ⟨rfl, hW4, hK4⟩
  have hA4 := hA3.trans (hK4.mono (fun _ x => .inl x))
  have hq4 : ∀ o, w4.cell? ⟨w.heap.size, o, none⟩ = (w.alloc (.cells [.int .i64 x0, .int .i64 x1, .slice a2 v2.length c2, .slice a3 v3.length c3, .slice a4 v4.length c4, .slice a5 v5.length c5, .slice a6 v6.length c6, .slice a7 v7.length c7, .slice a8 v8.length c8].toArray 70)).cell? ⟨w.heap.size, o, none⟩ := fun o => (hK4.cell (a := ⟨w.heap.size, o, none⟩) (.inr rfl)).trans (hq3 o)
  clear hW3 hK4 hA3 hq3
  go_wp2_with fail
  refine (count_o p (l ++ (enN x0).1 ++ (enN x1).1 ++ (enR (.lst F_job) v2).1 ++ (enR (.lst F_job) v3).1) (bad || (enN x0).2 || (enN x1).2 || (enR (.lst F_job) v2).2 || (enR (.lst F_job) v3).2) (fun b => prot b ∨ b = w.heap.size) (v4.length : Int) _ (by have hh := hl2.out; have := enN_len x0; have := enN_len x1; have := enR_len (.lst F_job) v2; have := enR_len (.lst F_job) v3; rw [szb_l F_node v4] at hh; simp only [List.length_append]; omega) hW4).mono ?_
  rintro e w5 ⟨rfl, hW5, hK5⟩
  have hA5 := hA4.trans (hK5.mono (fun _ x => .inl x))
  have hq5 : ∀ o, w5.cell? ⟨w.heap.size, o, none⟩ = (w.alloc (.cells [.int .i64 x0, .int .i64 x1, .slice a2 v2.length c2, .slice a3 v3.length c3, .slice a4 v4.length c4, .slice a5 v5.length c5, .slice a6 v6.length c6, .slice a7 v7.length c7, .slice a8 v8.length c8].toArray 70)).cell? ⟨w.heap.size, o, none⟩ := fun o => (hK5.cell (a := ⟨w.heap.size, o, none⟩) (.inr rfl)).trans (hq4 o)
  clear hW4 hK5 hA4 hq4
  have hN4 := h4.1
  go_wp2
  go_loopw [4] (fun i wr => ∃ k : Nat, k ≤ v4.length ∧ i = .int .i64 k ∧ WR wr p ((l ++ (enN x0).1 ++ (enN x1).1 ++ (enR (.lst F_job) v2).1 ++ (enR (.lst F_job) v3).1) ++ (enN (v4.length : Int)).1 ++ (v4.take k).flatMap fun v => (enR F_node v).1) ((bad || (enN x0).2 || (enN x1).2 || (enR (.lst F_job) v2).2 || (enR (.lst F_job) v3).2) || (decide (64 < (v4.length : Int)) || (enN (v4.length : Int)).2) || (v4.take k).any fun v => (enR F_node v).2) (fun b => prot b ∨ b = w.heap.size) ∧ Kp w wr prot ∧ ∀ o, wr.cell? ⟨w.heap.size, o, none⟩ = (w.alloc (.cells [.int .i64 x0, .int .i64 x1, .slice a2 v2.length c2, .slice a3 v3.length c3, .slice a4 v4.length c4, .slice a5 v5.length c5, .slice a6 v6.length c6, .slice a7 v7.length c7, .slice a8 v8.length c8].toArray 70)).cell? ⟨w.heap.size, o, none⟩) (fun i _ => v4.length - (intOf i).toNat)
  case atStart => exact ⟨0, Nat.zero_le _, rfl, by simpa using hW5, hA5, hq5⟩
  case round =>
    clear hW5 hA5 hq5
    obtain ⟨k, hk, rfl, hWk, hKk, hqk⟩ := hrel
    by_cases hlt : k < v4.length
    · obtain ⟨b, off, rfl, hSb, hes⟩ := h4.2 (by intro e; rw [e] at hlt; simp at hlt)
      obtain ⟨es, hrep0, hrg0⟩ := hes k hlt
      have hrep := hrep0.kept (S' := S) hKk.size (fun b hb => hKk.block b (HP.out b hb)) (fun _ x => x)
      have hrg : World.rangeAt _ b (off + k * wd F_node) es := rangeAt_kept hrg0 (hKk.block b (HP.out b hSb))
      have HLK : Hid (((l ++ (enN x0).1 ++ (enN x1).1 ++ (enR (.lst F_job) v2).1 ++ (enR (.lst F_job) v3).1) ++ (enN (v4.length : Int)).1 ++ (v4.take k).flatMap fun v => (enR F_node v).1).length + szb F_node v4[k] ≤ 137438953472) := by
        have h3 := hl2.out
        have := enN_len x0; have := enN_len x1; have := enR_len (.lst F_job) v2; have := enR_len (.lst F_job) v3; have h4 := flat_sum (fun v => (enR F_node v).1) (fun v => szb F_node v) (fun v => enR_len F_node v) (v4.take k)
        have h5 := sum_take (fun v => szb F_node v) v4 k hlt
        have h6 := enN_len (v4.length : Int)
        show _ ≤ _
        rw [szb_l F_node v4] at h3
        simp only [List.length_append]
        omega
      have HPB : Hid ((fun b => prot b ∨ b = w.heap.size) b) := .inl (HP.out b hSb)
      clear hrep0 hrg0 hes
      have I0 : Hid ((Tryz.prog.info? 29).map (·.size) = some es.length) := by show _ = _; rw [hrep.len]; kernel_rfl
      have HRG : Hid (World.rangeAt _ b (off + k * wd F_node) es) := hrg
      have HRE : Hid (Rep _ S F_node es v4[k]) := hrep
      clear hrep hrg
      go_wp2_with (refine wpList_load_mid rfl 29 (.tmp 40) rfl b (off + k * wd F_node) rfl es _ HRG.out Tryz.underlying29 rfl I0.out ?_)
      refine (node_o p _ _ (fun b => prot b ∨ b = w.heap.size) S es v4[k] _ HLK.out HS.out HRE.out hWk).mono ?_
      rintro e wx ⟨rfl, hWx, hKx⟩
      have hqx : ∀ o, wx.cell? ⟨w.heap.size, o, none⟩ = (w.alloc (.cells [.int .i64 x0, .int .i64 x1, .slice a2 v2.length c2, .slice a3 v3.length c3, .slice (some ⟨b, off, none⟩) v4.length c4, .slice a5 v5.length c5, .slice a6 v6.length c6, .slice a7 v7.length c7, .slice a8 v8.length c8].toArray 70)).cell? ⟨w.heap.size, o, none⟩ := fun o => (hKx.cell (a := ⟨w.heap.size, o, none⟩) (.inr rfl)).trans (hqk o)
      have hAx := hKk.trans (hKx.mono (fun _ x => .inl x))
      clear hKx hqk hKk hWk
      have E1 : Hid ((v4.take (k + 1)).flatMap (fun v => (enR F_node v).1) = (v4.take k).flatMap (fun v => (enR F_node v).1) ++ (enR F_node v4[k]).1) := by
        show _ = _
        rw [← List.take_append_getElem hlt, List.flatMap_append]; simp
      have E2 : Hid ((v4.take (k + 1)).any (fun v => (enR F_node v).2) = ((v4.take k).any (fun v => (enR F_node v).2) || (enR F_node v4[k]).2)) := by
        show _ = _
        rw [← List.take_append_getElem hlt, List.any_append]; simp
      have HWX : Hid (WR _ _ _ _ _) := hWx
      clear hWx
      go_wp2
      refine ⟨⟨k + 1, by omega, by go_num, ?_, hAx, hqx⟩, by simp [intOf]; omega⟩
      have hWx := HWX.out
      rw [E1.out, E2.out, ← List.append_assoc, ← Bool.or_assoc]
      exact hWx
    · have hkN : k = v4.length := by omega
      subst hkN
      rw [List.take_of_length_le (Nat.le_refl _), List.append_assoc, Bool.or_assoc] at hWk
      have hW5 : WR wr p (l ++ (enN x0).1 ++ (enN x1).1 ++ (enR (.lst F_job) v2).1 ++ (enR (.lst F_job) v3).1 ++ (enR (.lst F_node) v4).1) (bad || (enN x0).2 || (enN x1).2 || (enR (.lst F_job) v2).2 || (enR (.lst F_job) v3).2 || (enR (.lst F_node) v4).2) (fun b => prot b ∨ b = w.heap.size) := by rw [enR_l1, enR_l2]; exact hWk
      have hA5 := hKk
      have hq5 := hqk
      clear hWk hKk hqk hlt hk hN4
      go_wp2_with fail
      refine (allocs_o p (l ++ (enN x0).1 ++ (enN x1).1 ++ (enR (.lst F_job) v2).1 ++ (enR (.lst F_job) v3).1 ++ (enR (.lst F_node) v4).1) (bad || (enN x0).2 || (enN x1).2 || (enR (.lst F_job) v2).2 || (enR (.lst F_job) v3).2 || (enR (.lst F_node) v4).2) (fun b => prot b ∨ b = w.heap.size) S a5 c5 v5 _ (by have := hl2.out; have := enN_len x0; have := enN_len x1; have := enR_len (.lst F_job) v2; have := enR_len (.lst F_job) v3; have := enR_len (.lst F_node) v4; simp only [List.length_append]; omega) HS.out (h5.kept hA5.size (fun b hb => hA5.block b (HP.out b hb)) (fun _ x => x)) hW5).mono ?_
      rintro e w6 ⟨rfl, hW6, hK6⟩
      have hA6 := hA5.trans (hK6.mono (fun _ x => .inl x))
      have hq6 : ∀ o, w6.cell? ⟨w.heap.size, o, none⟩ = (w.alloc (.cells [.int .i64 x0, .int .i64 x1, .slice a2 v2.length c2, .slice a3 v3.length c3, .slice a4 v4.length c4, .slice a5 v5.length c5, .slice a6 v6.length c6, .slice a7 v7.length c7, .slice a8 v8.length c8].toArray 70)).cell? ⟨w.heap.size, o, none⟩ := fun o => (hK6.cell (a := ⟨w.heap.size, o, none⟩) (.inr rfl)).trans (hq5 o)
      clear hW5 hK6 hA5 hq5
      go_wp2_with fail
      refine (count_o p (l ++ (enN x0).1 ++ (enN x1).1 ++ (enR (.lst F_job) v2).1 ++ (enR (.lst F_job) v3).1 ++ (enR (.lst F_node) v4).1 ++ (enR (.lst F_alloc) v5).1) (bad || (enN x0).2 || (enN x1).2 || (enR (.lst F_job) v2).2 || (enR (.lst F_job) v3).2 || (enR (.lst F_node) v4).2 || (enR (.lst F_alloc) v5).2) (fun b => prot b ∨ b = w.heap.size) (v6.length : Int) _ (by have hh := hl2.out; have := enN_len x0; have := enN_len x1; have := enR_len (.lst F_job) v2; have := enR_len (.lst F_job) v3; have := enR_len (.lst F_node) v4; have := enR_len (.lst F_alloc) v5; rw [szb_l F_eval v6] at hh; simp only [List.length_append]; omega) hW6).mono ?_
      rintro e w7 ⟨rfl, hW7, hK7⟩
      have hA7 := hA6.trans (hK7.mono (fun _ x => .inl x))
      have hq7 : ∀ o, w7.cell? ⟨w.heap.size, o, none⟩ = (w.alloc (.cells [.int .i64 x0, .int .i64 x1, .slice a2 v2.length c2, .slice a3 v3.length c3, .slice a4 v4.length c4, .slice a5 v5.length c5, .slice a6 v6.length c6, .slice a7 v7.length c7, .slice a8 v8.length c8].toArray 70)).cell? ⟨w.heap.size, o, none⟩ := fun o => (hK7.cell (a := ⟨w.heap.size, o, none⟩) (.inr rfl)).trans (hq6 o)
      clear hW6 hK7 hA6 hq6
      have hN6 := h6.1
      go_wp2
      go_loopw [5] (fun i wr => ∃ k : Nat, k ≤ v6.length ∧ i = .int .i64 k ∧ WR wr p ((l ++ (enN x0).1 ++ (enN x1).1 ++ (enR (.lst F_job) v2).1 ++ (enR (.lst F_job) v3).1 ++ (enR (.lst F_node) v4).1 ++ (enR (.lst F_alloc) v5).1) ++ (enN (v6.length : Int)).1 ++ (v6.take k).flatMap fun v => (enR F_eval v).1) ((bad || (enN x0).2 || (enN x1).2 || (enR (.lst F_job) v2).2 || (enR (.lst F_job) v3).2 || (enR (.lst F_node) v4).2 || (enR (.lst F_alloc) v5).2) || (decide (64 < (v6.length : Int)) || (enN (v6.length : Int)).2) || (v6.take k).any fun v => (enR F_eval v).2) (fun b => prot b ∨ b = w.heap.size) ∧ Kp w wr prot ∧ ∀ o, wr.cell? ⟨w.heap.size, o, none⟩ = (w.alloc (.cells [.int .i64 x0, .int .i64 x1, .slice a2 v2.length c2, .slice a3 v3.length c3, .slice a4 v4.length c4, .slice a5 v5.length c5, .slice a6 v6.length c6, .slice a7 v7.length c7, .slice a8 v8.length c8].toArray 70)).cell? ⟨w.heap.size, o, none⟩) (fun i _ => v6.length - (intOf i).toNat)
      case atStart => exact ⟨0, Nat.zero_le _, rfl, by simpa using hW7, hA7, hq7⟩
      case round =>
        clear hW7 hA7 hq7
        obtain ⟨k, hk, rfl, hWk, hKk, hqk⟩ := hrel
        by_cases hlt : k < v6.length
        · obtain ⟨b, off, rfl, hSb, hes⟩ := h6.2 (by intro e; rw [e] at hlt; simp at hlt)
          obtain ⟨es, hrep0, hrg0⟩ := hes k hlt
          have hrep := hrep0.kept (S' := S) hKk.size (fun b hb => hKk.block b (HP.out b hb)) (fun _ x => x)
          have hrg : World.rangeAt _ b (off + k * wd F_eval) es := rangeAt_kept hrg0 (hKk.block b (HP.out b hSb))
          have HLK : Hid (((l ++ (enN x0).1 ++ (enN x1).1 ++ (enR (.lst F_job) v2).1 ++ (enR (.lst F_job) v3).1 ++ (enR (.lst F_node) v4).1 ++ (enR (.lst F_alloc) v5).1) ++ (enN (v6.length : Int)).1 ++ (v6.take k).flatMap fun v => (enR F_eval v).1).length + szb F_eval v6[k] ≤ 137438953472) := by
            have h3 := hl2.out
            have := enN_len x0; have := enN_len x1; have := enR_len (.lst F_job) v2; have := enR_len (.lst F_job) v3; have := enR_len (.lst F_node) v4; have := enR_len (.lst F_alloc) v5; have h4 := flat_sum (fun v => (enR F_eval v).1) (fun v => szb F_eval v) (fun v => enR_len F_eval v) (v6.take k)
            have h5 := sum_take (fun v => szb F_eval v) v6 k hlt
            have h6 := enN_len (v6.length : Int)
            show _ ≤ _
            rw [szb_l F_eval v6] at h3
            simp only [List.length_append]
            omega
          have HPB : Hid ((fun b => prot b ∨ b = w.heap.size) b) := .inl (HP.out b hSb)
          clear hrep0 hrg0 hes
          obtain ⟨z0, z1, z2, z3, he, hv⟩ := open_eval hrep
          subst he
          have HV : Hid (v6[k] = (z0, z1, z2, z3)) := hv
          clear hv hrep
          rw [HV.out, szb_eval] at HLK
          have hgk := hrg
          clear hrg
          have hc0 : World.cell? _ ⟨b, off + k * 4, none⟩ = some (.int .i64 z0) := hgk 0 _ rfl
          have hc1 : World.cell? _ ⟨b, off + k * 4 + 1, none⟩ = some (.int .i64 z1) := hgk 1 _ rfl
          have hc2 : World.cell? _ ⟨b, off + k * 4 + 2, none⟩ = some (.int .i64 z2) := hgk 2 _ rfl
          have hc3 : World.cell? _ ⟨b, off + k * 4 + 3, none⟩ = some (.int .i64 z3) := hgk 3 _ rfl
          have hbx : wr.cell? ⟨w.heap.size, 6, none⟩ = some (.slice (some ⟨b, off, none⟩) v6.length c6) := (hqk 6).trans (by rw [World.cell?_alloc_at _ _ _ _ rfl]; rfl)
          have hk0 : (0 : Int) ≤ (k : Int) := by omega
          have hk1 : (k : Int) < (v6.length : Int) := by omega
          have hLb : Hid (((l ++ (enN x0).1 ++ (enN x1).1 ++ (enR (.lst F_job) v2).1 ++ (enR (.lst F_job) v3).1 ++ (enR (.lst F_node) v4).1 ++ (enR (.lst F_alloc) v5).1) ++ (enN (v6.length : Int)).1 ++ (v6.take k).flatMap fun v => (enR F_eval v).1).length + 6 * [z0, z1, z2, z3].length ≤ 137438953472) := by
            have := HLK.out
            show _ ≤ _
            simp only [List.length_cons, List.length_nil]; omega
          have HWK : Hid (WR _ _ _ _ _) := hWk
          have e1 : wr.heap.size ≠ w.heap.size := World.new_ne wr ⟨w.heap.size, 6, none⟩ hbx
          have e2 : wr.heap.size ≠ b := World.new_ne wr ⟨b, off + k * 4, none⟩ hc0
          have HCB : Hid (∀ wx, Kp wr wx (fun b => prot b ∨ b = w.heap.size) → (wx.cell? ⟨w.heap.size, 6, none⟩ = some (.slice (some ⟨b, off, none⟩) v6.length c6) ∧ wx.cell? ⟨b, off + k * 4, none⟩ = some (.int .i64 z0) ∧ wx.cell? ⟨b, off + k * 4 + 1, none⟩ = some (.int .i64 z1) ∧ wx.cell? ⟨b, off + k * 4 + 2, none⟩ = some (.int .i64 z2) ∧ wx.cell? ⟨b, off + k * 4 + 3, none⟩ = some (.int .i64 z3))) := fun wx hK => ⟨(hK.cell (a := ⟨w.heap.size, 6, none⟩) (.inr rfl)).trans hbx, (hK.cell (a := ⟨b, off + k * 4, none⟩) HPB.out).trans hc0, (hK.cell (a := ⟨b, off + k * 4 + 1, none⟩) HPB.out).trans hc1, (hK.cell (a := ⟨b, off + k * 4 + 2, none⟩) HPB.out).trans hc2, (hK.cell (a := ⟨b, off + k * 4 + 3, none⟩) HPB.out).trans hc3⟩
          have HKK : Hid (Kp w wr prot) := hKk
          have HQK : Hid (∀ o, wr.cell? ⟨w.heap.size, o, none⟩ = (w.alloc (.cells [.int .i64 x0, .int .i64 x1, .slice a2 v2.length c2, .slice a3 v3.length c3, .slice a4 v4.length c4, .slice a5 v5.length c5, .slice (some ⟨b, off, none⟩) v6.length c6, .slice a7 v7.length c7, .slice a8 v8.length c8].toArray 70)).cell? ⟨w.heap.size, o, none⟩) := hqk
          have HGK : Hid _ := hgk
          clear hWk hKk hqk hgk
          go_wp2
          go_region_held3 (fun w' => w'.cell? ⟨w.heap.size, 6, none⟩ = some (.slice (some ⟨b, off, none⟩) v6.length c6) ∧ w'.cell? ⟨b, off + k * 4, none⟩ = some (.int .i64 z0) ∧ w'.cell? ⟨b, off + k * 4 + 1, none⟩ = some (.int .i64 z1) ∧ w'.cell? ⟨b, off + k * 4 + 2, none⟩ = some (.int .i64 z2) ∧ w'.cell? ⟨b, off + k * 4 + 3, none⟩ = some (.int .i64 z3)) (go_keep)
            (first | (go_at_call 137; refine (Nums16_o p ((l ++ (enN x0).1 ++ (enN x1).1 ++ (enR (.lst F_job) v2).1 ++ (enR (.lst F_job) v3).1 ++ (enR (.lst F_node) v4).1 ++ (enR (.lst F_alloc) v5).1) ++ (enN (v6.length : Int)).1 ++ (v6.take k).flatMap fun v => (enR F_eval v).1) ((bad || (enN x0).2 || (enN x1).2 || (enR (.lst F_job) v2).2 || (enR (.lst F_job) v3).2 || (enR (.lst F_node) v4).2 || (enR (.lst F_alloc) v5).2) || (decide (64 < (v6.length : Int)) || (enN (v6.length : Int)).2) || (v6.take k).any fun v => (enR F_eval v).2) (fun b => (fun b => prot b ∨ b = w.heap.size) b ∨ b = wr.heap.size) [z0, z1, z2, z3] wr.heap.size 0 4 ((wr.alloc (.cells ([.int .i64 z0, .int .i64 z1, .int .i64 z2, .int .i64 z3] : List Value).toArray 3)).drew) hLb.out (.inr rfl) (range_drew (range_newN' wr [.int .i64 z0, .int .i64 z1, .int .i64 z2, .int .i64 z3] 3 wr.heap.size rfl)) (WR.drew (WR.boxN' HWK.out (.cells ([.int .i64 z0, .int .i64 z1, .int .i64 z2, .int .i64 z3] : List Value).toArray 3) wr.heap.size rfl))).mono ?_; rintro e wx ⟨rfl, hWx, hKx⟩; have hKy : Kp wr wx (fun b => prot b ∨ b = w.heap.size) := (Kp.alloc wr (.cells ([.int .i64 z0, .int .i64 z1, .int .i64 z2, .int .i64 z3] : List Value).toArray 3) (fun b => prot b ∨ b = w.heap.size) HWK.out.2.1).trans ((Kp.drewK _ (fun b => prot b ∨ b = w.heap.size)).trans (hKx.mono (fun _ x => Or.inl x))); obtain ⟨d0, d1, d2, d3, d4⟩ := HCB.out wx hKy))
          simp only [List.flatMap_cons, List.flatMap_nil, List.append_nil, List.any_cons, List.any_nil, Bool.or_false] at hWx
          replace hWx := hWx.mono (fun _ x => Or.inl x)
          have hqx : ∀ o, wx.cell? ⟨w.heap.size, o, none⟩ = (w.alloc (.cells [.int .i64 x0, .int .i64 x1, .slice a2 v2.length c2, .slice a3 v3.length c3, .slice a4 v4.length c4, .slice a5 v5.length c5, .slice (some ⟨b, off, none⟩) v6.length c6, .slice a7 v7.length c7, .slice a8 v8.length c8].toArray 70)).cell? ⟨w.heap.size, o, none⟩ := fun o => (hKy.cell (a := ⟨w.heap.size, o, none⟩) (.inr rfl)).trans (HQK.out o)
          have hAx := HKK.out.trans (hKy.mono (fun _ x => .inl x))
          clear hKx hKy d0 d1 d2 d3 d4 HKK HQK HGK HCB HWK hLb hbx e1 e2 hc0 hc1 hc2 hc3
          have E1 : Hid ((v6.take (k + 1)).flatMap (fun v => (enR F_eval v).1) = (v6.take k).flatMap (fun v => (enR F_eval v).1) ++ (enR F_eval v6[k]).1) := by
            show _ = _
            rw [← List.take_append_getElem hlt, List.flatMap_append]; simp
          have E2 : Hid ((v6.take (k + 1)).any (fun v => (enR F_eval v).2) = ((v6.take k).any (fun v => (enR F_eval v).2) || (enR F_eval v6[k]).2)) := by
            show _ = _
            rw [← List.take_append_getElem hlt, List.any_append]; simp
          have HWX : Hid (WR _ _ _ _ _) := hWx
          clear hWx
          go_wp2
          refine ⟨⟨k + 1, by omega, by go_num, ?_, hAx, hqx⟩, by simp [intOf]; omega⟩
          have hWx := HWX.out
          rw [E1.out, E2.out, HV.out, enR_eval]
          simp only [List.append_assoc, Bool.or_assoc] at hWx ⊢
          exact hWx
        · have hkN : k = v6.length := by omega
          subst hkN
          rw [List.take_of_length_le (Nat.le_refl _), List.append_assoc, Bool.or_assoc] at hWk
          have hW7 : WR wr p (l ++ (enN x0).1 ++ (enN x1).1 ++ (enR (.lst F_job) v2).1 ++ (enR (.lst F_job) v3).1 ++ (enR (.lst F_node) v4).1 ++ (enR (.lst F_alloc) v5).1 ++ (enR (.lst F_eval) v6).1) (bad || (enN x0).2 || (enN x1).2 || (enR (.lst F_job) v2).2 || (enR (.lst F_job) v3).2 || (enR (.lst F_node) v4).2 || (enR (.lst F_alloc) v5).2 || (enR (.lst F_eval) v6).2) (fun b => prot b ∨ b = w.heap.size) := by rw [enR_l1, enR_l2]; exact hWk
          have hA7 := hKk
          have hq7 := hqk
          clear hWk hKk hqk hlt hk hN6
          go_wp2_with fail
          refine (count_o p (l ++ (enN x0).1 ++ (enN x1).1 ++ (enR (.lst F_job) v2).1 ++ (enR (.lst F_job) v3).1 ++ (enR (.lst F_node) v4).1 ++ (enR (.lst F_alloc) v5).1 ++ (enR (.lst F_eval) v6).1) (bad || (enN x0).2 || (enN x1).2 || (enR (.lst F_job) v2).2 || (enR (.lst F_job) v3).2 || (enR (.lst F_node) v4).2 || (enR (.lst F_alloc) v5).2 || (enR (.lst F_eval) v6).2) (fun b => prot b ∨ b = w.heap.size) (v7.length : Int) _ (by have hh := hl2.out; have := enN_len x0; have := enN_len x1; have := enR_len (.lst F_job) v2; have := enR_len (.lst F_job) v3; have := enR_len (.lst F_node) v4; have := enR_len (.lst F_alloc) v5; have := enR_len (.lst F_eval) v6; rw [szb_l F_deploy v7] at hh; simp only [List.length_append]; omega) hW7).mono ?_
          rintro e w8 ⟨rfl, hW8, hK8⟩
          have hA8 := hA7.trans (hK8.mono (fun _ x => .inl x))
          have hq8 : ∀ o, w8.cell? ⟨w.heap.size, o, none⟩ = (w.alloc (.cells [.int .i64 x0, .int .i64 x1, .slice a2 v2.length c2, .slice a3 v3.length c3, .slice a4 v4.length c4, .slice a5 v5.length c5, .slice a6 v6.length c6, .slice a7 v7.length c7, .slice a8 v8.length c8].toArray 70)).cell? ⟨w.heap.size, o, none⟩ := fun o => (hK8.cell (a := ⟨w.heap.size, o, none⟩) (.inr rfl)).trans (hq7 o)
          clear hW7 hK8 hA7 hq7
          have hN7 := h7.1
          go_wp2
          go_loopw [6] (fun i wr => ∃ k : Nat, k ≤ v7.length ∧ i = .int .i64 k ∧ WR wr p ((l ++ (enN x0).1 ++ (enN x1).1 ++ (enR (.lst F_job) v2).1 ++ (enR (.lst F_job) v3).1 ++ (enR (.lst F_node) v4).1 ++ (enR (.lst F_alloc) v5).1 ++ (enR (.lst F_eval) v6).1) ++ (enN (v7.length : Int)).1 ++ (v7.take k).flatMap fun v => (enR F_deploy v).1) ((bad || (enN x0).2 || (enN x1).2 || (enR (.lst F_job) v2).2 || (enR (.lst F_job) v3).2 || (enR (.lst F_node) v4).2 || (enR (.lst F_alloc) v5).2 || (enR (.lst F_eval) v6).2) || (decide (64 < (v7.length : Int)) || (enN (v7.length : Int)).2) || (v7.take k).any fun v => (enR F_deploy v).2) (fun b => prot b ∨ b = w.heap.size) ∧ Kp w wr prot ∧ ∀ o, wr.cell? ⟨w.heap.size, o, none⟩ = (w.alloc (.cells [.int .i64 x0, .int .i64 x1, .slice a2 v2.length c2, .slice a3 v3.length c3, .slice a4 v4.length c4, .slice a5 v5.length c5, .slice a6 v6.length c6, .slice a7 v7.length c7, .slice a8 v8.length c8].toArray 70)).cell? ⟨w.heap.size, o, none⟩) (fun i _ => v7.length - (intOf i).toNat)
          case atStart => exact ⟨0, Nat.zero_le _, rfl, by simpa using hW8, hA8, hq8⟩
          case round =>
            clear hW8 hA8 hq8
            obtain ⟨k, hk, rfl, hWk, hKk, hqk⟩ := hrel
            by_cases hlt : k < v7.length
            · obtain ⟨b, off, rfl, hSb, hes⟩ := h7.2 (by intro e; rw [e] at hlt; simp at hlt)
              obtain ⟨es, hrep0, hrg0⟩ := hes k hlt
              have hrep := hrep0.kept (S' := S) hKk.size (fun b hb => hKk.block b (HP.out b hb)) (fun _ x => x)
              have hrg : World.rangeAt _ b (off + k * wd F_deploy) es := rangeAt_kept hrg0 (hKk.block b (HP.out b hSb))
              have HLK : Hid (((l ++ (enN x0).1 ++ (enN x1).1 ++ (enR (.lst F_job) v2).1 ++ (enR (.lst F_job) v3).1 ++ (enR (.lst F_node) v4).1 ++ (enR (.lst F_alloc) v5).1 ++ (enR (.lst F_eval) v6).1) ++ (enN (v7.length : Int)).1 ++ (v7.take k).flatMap fun v => (enR F_deploy v).1).length + szb F_deploy v7[k] ≤ 137438953472) := by
                have h3 := hl2.out
                have := enN_len x0; have := enN_len x1; have := enR_len (.lst F_job) v2; have := enR_len (.lst F_job) v3; have := enR_len (.lst F_node) v4; have := enR_len (.lst F_alloc) v5; have := enR_len (.lst F_eval) v6; have h4 := flat_sum (fun v => (enR F_deploy v).1) (fun v => szb F_deploy v) (fun v => enR_len F_deploy v) (v7.take k)
                have h5 := sum_take (fun v => szb F_deploy v) v7 k hlt
                have h6 := enN_len (v7.length : Int)
                show _ ≤ _
                rw [szb_l F_deploy v7] at h3
                simp only [List.length_append]
                omega
              have HPB : Hid ((fun b => prot b ∨ b = w.heap.size) b) := .inl (HP.out b hSb)
              clear hrep0 hrg0 hes
              obtain ⟨z0, z1, z2, z3, he, hv⟩ := open_deploy hrep
              subst he
              have HV : Hid (v7[k] = (z0, z1, z2, z3)) := hv
              clear hv hrep
              rw [HV.out, szb_deploy] at HLK
              have hgk := hrg
              clear hrg
              have hc0 : World.cell? _ ⟨b, off + k * 4, none⟩ = some (.int .i64 z0) := hgk 0 _ rfl
              have hc1 : World.cell? _ ⟨b, off + k * 4 + 1, none⟩ = some (.int .i64 z1) := hgk 1 _ rfl
              have hc2 : World.cell? _ ⟨b, off + k * 4 + 2, none⟩ = some (.int .i64 z2) := hgk 2 _ rfl
              have hc3 : World.cell? _ ⟨b, off + k * 4 + 3, none⟩ = some (.int .i64 z3) := hgk 3 _ rfl
              have hbx : wr.cell? ⟨w.heap.size, 7, none⟩ = some (.slice (some ⟨b, off, none⟩) v7.length c7) := (hqk 7).trans (by rw [World.cell?_alloc_at _ _ _ _ rfl]; rfl)
              have hk0 : (0 : Int) ≤ (k : Int) := by omega
              have hk1 : (k : Int) < (v7.length : Int) := by omega
              have hLb : Hid (((l ++ (enN x0).1 ++ (enN x1).1 ++ (enR (.lst F_job) v2).1 ++ (enR (.lst F_job) v3).1 ++ (enR (.lst F_node) v4).1 ++ (enR (.lst F_alloc) v5).1 ++ (enR (.lst F_eval) v6).1) ++ (enN (v7.length : Int)).1 ++ (v7.take k).flatMap fun v => (enR F_deploy v).1).length + 6 * [z0, z1, z2, z3].length ≤ 137438953472) := by
                have := HLK.out
                show _ ≤ _
                simp only [List.length_cons, List.length_nil]; omega
              have HWK : Hid (WR _ _ _ _ _) := hWk
              have e1 : wr.heap.size ≠ w.heap.size := World.new_ne wr ⟨w.heap.size, 7, none⟩ hbx
              have e2 : wr.heap.size ≠ b := World.new_ne wr ⟨b, off + k * 4, none⟩ hc0
              have HCB : Hid (∀ wx, Kp wr wx (fun b => prot b ∨ b = w.heap.size) → (wx.cell? ⟨w.heap.size, 7, none⟩ = some (.slice (some ⟨b, off, none⟩) v7.length c7) ∧ wx.cell? ⟨b, off + k * 4, none⟩ = some (.int .i64 z0) ∧ wx.cell? ⟨b, off + k * 4 + 1, none⟩ = some (.int .i64 z1) ∧ wx.cell? ⟨b, off + k * 4 + 2, none⟩ = some (.int .i64 z2) ∧ wx.cell? ⟨b, off + k * 4 + 3, none⟩ = some (.int .i64 z3))) := fun wx hK => ⟨(hK.cell (a := ⟨w.heap.size, 7, none⟩) (.inr rfl)).trans hbx, (hK.cell (a := ⟨b, off + k * 4, none⟩) HPB.out).trans hc0, (hK.cell (a := ⟨b, off + k * 4 + 1, none⟩) HPB.out).trans hc1, (hK.cell (a := ⟨b, off + k * 4 + 2, none⟩) HPB.out).trans hc2, (hK.cell (a := ⟨b, off + k * 4 + 3, none⟩) HPB.out).trans hc3⟩
              have HKK : Hid (Kp w wr prot) := hKk
              have HQK : Hid (∀ o, wr.cell? ⟨w.heap.size, o, none⟩ = (w.alloc (.cells [.int .i64 x0, .int .i64 x1, .slice a2 v2.length c2, .slice a3 v3.length c3, .slice a4 v4.length c4, .slice a5 v5.length c5, .slice a6 v6.length c6, .slice (some ⟨b, off, none⟩) v7.length c7, .slice a8 v8.length c8].toArray 70)).cell? ⟨w.heap.size, o, none⟩) := hqk
              have HGK : Hid _ := hgk
              clear hWk hKk hqk hgk
              go_wp2
              go_region_held3 (fun w' => w'.cell? ⟨w.heap.size, 7, none⟩ = some (.slice (some ⟨b, off, none⟩) v7.length c7) ∧ w'.cell? ⟨b, off + k * 4, none⟩ = some (.int .i64 z0) ∧ w'.cell? ⟨b, off + k * 4 + 1, none⟩ = some (.int .i64 z1) ∧ w'.cell? ⟨b, off + k * 4 + 2, none⟩ = some (.int .i64 z2) ∧ w'.cell? ⟨b, off + k * 4 + 3, none⟩ = some (.int .i64 z3)) (go_keep)
                (first | (go_at_call 137; refine (Nums16_o p ((l ++ (enN x0).1 ++ (enN x1).1 ++ (enR (.lst F_job) v2).1 ++ (enR (.lst F_job) v3).1 ++ (enR (.lst F_node) v4).1 ++ (enR (.lst F_alloc) v5).1 ++ (enR (.lst F_eval) v6).1) ++ (enN (v7.length : Int)).1 ++ (v7.take k).flatMap fun v => (enR F_deploy v).1) ((bad || (enN x0).2 || (enN x1).2 || (enR (.lst F_job) v2).2 || (enR (.lst F_job) v3).2 || (enR (.lst F_node) v4).2 || (enR (.lst F_alloc) v5).2 || (enR (.lst F_eval) v6).2) || (decide (64 < (v7.length : Int)) || (enN (v7.length : Int)).2) || (v7.take k).any fun v => (enR F_deploy v).2) (fun b => (fun b => prot b ∨ b = w.heap.size) b ∨ b = wr.heap.size) [z0, z1, z2, z3] wr.heap.size 0 4 ((wr.alloc (.cells ([.int .i64 z0, .int .i64 z1, .int .i64 z2, .int .i64 z3] : List Value).toArray 3)).drew) hLb.out (.inr rfl) (range_drew (range_newN' wr [.int .i64 z0, .int .i64 z1, .int .i64 z2, .int .i64 z3] 3 wr.heap.size rfl)) (WR.drew (WR.boxN' HWK.out (.cells ([.int .i64 z0, .int .i64 z1, .int .i64 z2, .int .i64 z3] : List Value).toArray 3) wr.heap.size rfl))).mono ?_; rintro e wx ⟨rfl, hWx, hKx⟩; have hKy : Kp wr wx (fun b => prot b ∨ b = w.heap.size) := (Kp.alloc wr (.cells ([.int .i64 z0, .int .i64 z1, .int .i64 z2, .int .i64 z3] : List Value).toArray 3) (fun b => prot b ∨ b = w.heap.size) HWK.out.2.1).trans ((Kp.drewK _ (fun b => prot b ∨ b = w.heap.size)).trans (hKx.mono (fun _ x => Or.inl x))); obtain ⟨d0, d1, d2, d3, d4⟩ := HCB.out wx hKy))
              simp only [List.flatMap_cons, List.flatMap_nil, List.append_nil, List.any_cons, List.any_nil, Bool.or_false] at hWx
              replace hWx := hWx.mono (fun _ x => Or.inl x)
              have hqx : ∀ o, wx.cell? ⟨w.heap.size, o, none⟩ = (w.alloc (.cells [.int .i64 x0, .int .i64 x1, .slice a2 v2.length c2, .slice a3 v3.length c3, .slice a4 v4.length c4, .slice a5 v5.length c5, .slice a6 v6.length c6, .slice (some ⟨b, off, none⟩) v7.length c7, .slice a8 v8.length c8].toArray 70)).cell? ⟨w.heap.size, o, none⟩ := fun o => (hKy.cell (a := ⟨w.heap.size, o, none⟩) (.inr rfl)).trans (HQK.out o)
              have hAx := HKK.out.trans (hKy.mono (fun _ x => .inl x))
              clear hKx hKy d0 d1 d2 d3 d4 HKK HQK HGK HCB HWK hLb hbx e1 e2 hc0 hc1 hc2 hc3
              have E1 : Hid ((v7.take (k + 1)).flatMap (fun v => (enR F_deploy v).1) = (v7.take k).flatMap (fun v => (enR F_deploy v).1) ++ (enR F_deploy v7[k]).1) := by
                show _ = _
                rw [← List.take_append_getElem hlt, List.flatMap_append]; simp
              have E2 : Hid ((v7.take (k + 1)).any (fun v => (enR F_deploy v).2) = ((v7.take k).any (fun v => (enR F_deploy v).2) || (enR F_deploy v7[k]).2)) := by
                show _ = _
                rw [← List.take_append_getElem hlt, List.any_append]; simp
              have HWX : Hid (WR _ _ _ _ _) := hWx
              clear hWx
              go_wp2
              refine ⟨⟨k + 1, by omega, by go_num, ?_, hAx, hqx⟩, by simp [intOf]; omega⟩
              have hWx := HWX.out
              rw [E1.out, E2.out, HV.out, enR_deploy]
              simp only [List.append_assoc, Bool.or_assoc] at hWx ⊢
              exact hWx
            · have hkN : k = v7.length := by omega
              subst hkN
              rw [List.take_of_length_le (Nat.le_refl _), List.append_assoc, Bool.or_assoc] at hWk
              have hW8 : WR wr p (l ++ (enN x0).1 ++ (enN x1).1 ++ (enR (.lst F_job) v2).1 ++ (enR (.lst F_job) v3).1 ++ (enR (.lst F_node) v4).1 ++ (enR (.lst F_alloc) v5).1 ++ (enR (.lst F_eval) v6).1 ++ (enR (.lst F_deploy) v7).1) (bad || (enN x0).2 || (enN x1).2 || (enR (.lst F_job) v2).2 || (enR (.lst F_job) v3).2 || (enR (.lst F_node) v4).2 || (enR (.lst F_alloc) v5).2 || (enR (.lst F_eval) v6).2 || (enR (.lst F_deploy) v7).2) (fun b => prot b ∨ b = w.heap.size) := by rw [enR_l1, enR_l2]; exact hWk
              have hA8 := hKk
              have hq8 := hqk
              clear hWk hKk hqk hlt hk hN7
              go_wp2_with fail
              refine (count_o p (l ++ (enN x0).1 ++ (enN x1).1 ++ (enR (.lst F_job) v2).1 ++ (enR (.lst F_job) v3).1 ++ (enR (.lst F_node) v4).1 ++ (enR (.lst F_alloc) v5).1 ++ (enR (.lst F_eval) v6).1 ++ (enR (.lst F_deploy) v7).1) (bad || (enN x0).2 || (enN x1).2 || (enR (.lst F_job) v2).2 || (enR (.lst F_job) v3).2 || (enR (.lst F_node) v4).2 || (enR (.lst F_alloc) v5).2 || (enR (.lst F_eval) v6).2 || (enR (.lst F_deploy) v7).2) (fun b => prot b ∨ b = w.heap.size) (v8.length : Int) _ (by have hh := hl2.out; have := enN_len x0; have := enN_len x1; have := enR_len (.lst F_job) v2; have := enR_len (.lst F_job) v3; have := enR_len (.lst F_node) v4; have := enR_len (.lst F_alloc) v5; have := enR_len (.lst F_eval) v6; have := enR_len (.lst F_deploy) v7; rw [szb_l F_seen v8] at hh; simp only [List.length_append]; omega) hW8).mono ?_
              rintro e w9 ⟨rfl, hW9, hK9⟩
              have hA9 := hA8.trans (hK9.mono (fun _ x => .inl x))
              have hq9 : ∀ o, w9.cell? ⟨w.heap.size, o, none⟩ = (w.alloc (.cells [.int .i64 x0, .int .i64 x1, .slice a2 v2.length c2, .slice a3 v3.length c3, .slice a4 v4.length c4, .slice a5 v5.length c5, .slice a6 v6.length c6, .slice a7 v7.length c7, .slice a8 v8.length c8].toArray 70)).cell? ⟨w.heap.size, o, none⟩ := fun o => (hK9.cell (a := ⟨w.heap.size, o, none⟩) (.inr rfl)).trans (hq8 o)
              clear hW8 hK9 hA8 hq8
              have hN8 := h8.1
              go_wp2
              go_loopw [7] (fun i wr => ∃ k : Nat, k ≤ v8.length ∧ i = .int .i64 k ∧ WR wr p ((l ++ (enN x0).1 ++ (enN x1).1 ++ (enR (.lst F_job) v2).1 ++ (enR (.lst F_job) v3).1 ++ (enR (.lst F_node) v4).1 ++ (enR (.lst F_alloc) v5).1 ++ (enR (.lst F_eval) v6).1 ++ (enR (.lst F_deploy) v7).1) ++ (enN (v8.length : Int)).1 ++ (v8.take k).flatMap fun v => (enR F_seen v).1) ((bad || (enN x0).2 || (enN x1).2 || (enR (.lst F_job) v2).2 || (enR (.lst F_job) v3).2 || (enR (.lst F_node) v4).2 || (enR (.lst F_alloc) v5).2 || (enR (.lst F_eval) v6).2 || (enR (.lst F_deploy) v7).2) || (decide (64 < (v8.length : Int)) || (enN (v8.length : Int)).2) || (v8.take k).any fun v => (enR F_seen v).2) (fun b => prot b ∨ b = w.heap.size) ∧ Kp w wr prot ∧ ∀ o, wr.cell? ⟨w.heap.size, o, none⟩ = (w.alloc (.cells [.int .i64 x0, .int .i64 x1, .slice a2 v2.length c2, .slice a3 v3.length c3, .slice a4 v4.length c4, .slice a5 v5.length c5, .slice a6 v6.length c6, .slice a7 v7.length c7, .slice a8 v8.length c8].toArray 70)).cell? ⟨w.heap.size, o, none⟩) (fun i _ => v8.length - (intOf i).toNat)
              case atStart => exact ⟨0, Nat.zero_le _, rfl, by simpa using hW9, hA9, hq9⟩
              case round =>
                clear hW9 hA9 hq9
                obtain ⟨k, hk, rfl, hWk, hKk, hqk⟩ := hrel
                by_cases hlt : k < v8.length
                · obtain ⟨b, off, rfl, hSb, hes⟩ := h8.2 (by intro e; rw [e] at hlt; simp at hlt)
                  obtain ⟨es, hrep0, hrg0⟩ := hes k hlt
                  have hrep := hrep0.kept (S' := S) hKk.size (fun b hb => hKk.block b (HP.out b hb)) (fun _ x => x)
                  have hrg : World.rangeAt _ b (off + k * wd F_seen) es := rangeAt_kept hrg0 (hKk.block b (HP.out b hSb))
                  have HLK : Hid (((l ++ (enN x0).1 ++ (enN x1).1 ++ (enR (.lst F_job) v2).1 ++ (enR (.lst F_job) v3).1 ++ (enR (.lst F_node) v4).1 ++ (enR (.lst F_alloc) v5).1 ++ (enR (.lst F_eval) v6).1 ++ (enR (.lst F_deploy) v7).1) ++ (enN (v8.length : Int)).1 ++ (v8.take k).flatMap fun v => (enR F_seen v).1).length + szb F_seen v8[k] ≤ 137438953472) := by
                    have h3 := hl2.out
                    have := enN_len x0; have := enN_len x1; have := enR_len (.lst F_job) v2; have := enR_len (.lst F_job) v3; have := enR_len (.lst F_node) v4; have := enR_len (.lst F_alloc) v5; have := enR_len (.lst F_eval) v6; have := enR_len (.lst F_deploy) v7; have h4 := flat_sum (fun v => (enR F_seen v).1) (fun v => szb F_seen v) (fun v => enR_len F_seen v) (v8.take k)
                    have h5 := sum_take (fun v => szb F_seen v) v8 k hlt
                    have h6 := enN_len (v8.length : Int)
                    show _ ≤ _
                    rw [szb_l F_seen v8] at h3
                    simp only [List.length_append]
                    omega
                  have HPB : Hid ((fun b => prot b ∨ b = w.heap.size) b) := .inl (HP.out b hSb)
                  clear hrep0 hrg0 hes
                  obtain ⟨z0, z1, zy2_0, zy2_1, zy2_2, zv2, he, hv, zh2⟩ := open_seen hrep
                  subst he
                  have HV : Hid (v8[k] = (z0, z1, zv2)) := hv
                  clear hv hrep
                  rw [HV.out, szb_seen] at HLK
                  have hgk := hrg
                  clear hrg
                  have hc0 : World.cell? _ ⟨b, off + k * 5, none⟩ = some (.int .i64 z0) := hgk 0 _ rfl

                  go_wp2_with fail
                  refine (num_o p ((l ++ (enN x0).1 ++ (enN x1).1 ++ (enR (.lst F_job) v2).1 ++ (enR (.lst F_job) v3).1 ++ (enR (.lst F_node) v4).1 ++ (enR (.lst F_alloc) v5).1 ++ (enR (.lst F_eval) v6).1 ++ (enR (.lst F_deploy) v7).1) ++ (enN (v8.length : Int)).1 ++ (v8.take k).flatMap fun v => (enR F_seen v).1) ((bad || (enN x0).2 || (enN x1).2 || (enR (.lst F_job) v2).2 || (enR (.lst F_job) v3).2 || (enR (.lst F_node) v4).2 || (enR (.lst F_alloc) v5).2 || (enR (.lst F_eval) v6).2 || (enR (.lst F_deploy) v7).2) || (decide (64 < (v8.length : Int)) || (enN (v8.length : Int)).2) || (v8.take k).any fun v => (enR F_seen v).2) (fun b => prot b ∨ b = w.heap.size) z0 _ (by have := HLK.out; omega) hWk).mono ?_
                  rintro e w1z ⟨rfl, hW1z, hZ1z⟩
                  have hq1z : ∀ o, w1z.cell? ⟨w.heap.size, o, none⟩ = (w.alloc (.cells [.int .i64 x0, .int .i64 x1, .slice a2 v2.length c2, .slice a3 v3.length c3, .slice a4 v4.length c4, .slice a5 v5.length c5, .slice a6 v6.length c6, .slice a7 v7.length c7, .slice (some ⟨b, off, none⟩) v8.length c8].toArray 70)).cell? ⟨w.heap.size, o, none⟩ := fun o => (hZ1z.cell (a := ⟨w.heap.size, o, none⟩) (.inr rfl)).trans (hqk o)
                  have hK1z := hKk.trans (hZ1z.mono (fun _ x => .inl x))
                  have hg1z := rangeAt_kept hgk (hZ1z.block b HPB.out)
                  have ZK1z : Kp _ w1z (fun b => prot b ∨ b = w.heap.size) := hZ1z
                  clear hZ1z hqk hKk hWk hgk hc0
                  have hc1 : World.cell? _ ⟨b, off + k * 5 + 1, none⟩ = some (.int .i64 z1) := hg1z 1 _ rfl
                  go_wp2_with fail
                  refine (num_o p (((l ++ (enN x0).1 ++ (enN x1).1 ++ (enR (.lst F_job) v2).1 ++ (enR (.lst F_job) v3).1 ++ (enR (.lst F_node) v4).1 ++ (enR (.lst F_alloc) v5).1 ++ (enR (.lst F_eval) v6).1 ++ (enR (.lst F_deploy) v7).1) ++ (enN (v8.length : Int)).1 ++ (v8.take k).flatMap fun v => (enR F_seen v).1) ++ (enN z0).1) (((bad || (enN x0).2 || (enN x1).2 || (enR (.lst F_job) v2).2 || (enR (.lst F_job) v3).2 || (enR (.lst F_node) v4).2 || (enR (.lst F_alloc) v5).2 || (enR (.lst F_eval) v6).2 || (enR (.lst F_deploy) v7).2) || (decide (64 < (v8.length : Int)) || (enN (v8.length : Int)).2) || (v8.take k).any fun v => (enR F_seen v).2) || (enN z0).2) (fun b => prot b ∨ b = w.heap.size) z1 _ (by have := HLK.out; have := enN_len z0; simp only [List.length_append] at *; omega) hW1z).mono ?_
                  rintro e w2z ⟨rfl, hW2z, hZ2z⟩
                  have hq2z : ∀ o, w2z.cell? ⟨w.heap.size, o, none⟩ = (w.alloc (.cells [.int .i64 x0, .int .i64 x1, .slice a2 v2.length c2, .slice a3 v3.length c3, .slice a4 v4.length c4, .slice a5 v5.length c5, .slice a6 v6.length c6, .slice a7 v7.length c7, .slice (some ⟨b, off, none⟩) v8.length c8].toArray 70)).cell? ⟨w.heap.size, o, none⟩ := fun o => (hZ2z.cell (a := ⟨w.heap.size, o, none⟩) (.inr rfl)).trans (hq1z o)
                  have hK2z := hK1z.trans (hZ2z.mono (fun _ x => .inl x))
                  have hg2z := rangeAt_kept hg1z (hZ2z.block b HPB.out)
                  have ZK2z : Kp _ w2z (fun b => prot b ∨ b = w.heap.size) := ZK1z.trans hZ2z
                  clear hZ2z hq1z hK1z hW1z hg1z ZK1z hc1
                  have hc2 : World.cell? _ ⟨b, off + k * 5 + 2, none⟩ = some (zy2_0) := hg2z 2 _ rfl
                  have hc3 : World.cell? _ ⟨b, off + k * 5 + 3, none⟩ = some (zy2_1) := hg2z 3 _ rfl
                  have hc4 : World.cell? _ ⟨b, off + k * 5 + 4, none⟩ = some (zy2_2) := hg2z 4 _ rfl
                  go_wp2_with fail
                  refine (result_o p (((l ++ (enN x0).1 ++ (enN x1).1 ++ (enR (.lst F_job) v2).1 ++ (enR (.lst F_job) v3).1 ++ (enR (.lst F_node) v4).1 ++ (enR (.lst F_alloc) v5).1 ++ (enR (.lst F_eval) v6).1 ++ (enR (.lst F_deploy) v7).1) ++ (enN (v8.length : Int)).1 ++ (v8.take k).flatMap fun v => (enR F_seen v).1) ++ (enN z0).1 ++ (enN z1).1) (((bad || (enN x0).2 || (enN x1).2 || (enR (.lst F_job) v2).2 || (enR (.lst F_job) v3).2 || (enR (.lst F_node) v4).2 || (enR (.lst F_alloc) v5).2 || (enR (.lst F_eval) v6).2 || (enR (.lst F_deploy) v7).2) || (decide (64 < (v8.length : Int)) || (enN (v8.length : Int)).2) || (v8.take k).any fun v => (enR F_seen v).2) || (enN z0).2 || (enN z1).2) (fun b => prot b ∨ b = w.heap.size) S [zy2_0, zy2_1, zy2_2] zv2 _ (by have := HLK.out; have := enN_len z0; have := enN_len z1; simp only [List.length_append] at *; omega) HS.out (zh2.kept (S' := S) ZK2z.size (fun b hb => ZK2z.block b (HS.out b hb)) (fun _ x => x)) hW2z).mono ?_
                  rintro e w3z ⟨rfl, hW3z, hZ3z⟩
                  have hq3z : ∀ o, w3z.cell? ⟨w.heap.size, o, none⟩ = (w.alloc (.cells [.int .i64 x0, .int .i64 x1, .slice a2 v2.length c2, .slice a3 v3.length c3, .slice a4 v4.length c4, .slice a5 v5.length c5, .slice a6 v6.length c6, .slice a7 v7.length c7, .slice (some ⟨b, off, none⟩) v8.length c8].toArray 70)).cell? ⟨w.heap.size, o, none⟩ := fun o => (hZ3z.cell (a := ⟨w.heap.size, o, none⟩) (.inr rfl)).trans (hq2z o)
                  have hK3z := hK2z.trans (hZ3z.mono (fun _ x => .inl x))
                  have hg3z := rangeAt_kept hg2z (hZ3z.block b HPB.out)
                  have ZK3z : Kp _ w3z (fun b => prot b ∨ b = w.heap.size) := ZK2z.trans hZ3z
                  clear hZ3z hq2z hK2z hW2z hg2z ZK2z hc2 hc3 hc4
                  have hWx := hW3z
                  have hAx := hK3z
                  have hqx := hq3z
                  clear hW3z hK3z hq3z hg3z ZK3z
                  have E1 : Hid ((v8.take (k + 1)).flatMap (fun v => (enR F_seen v).1) = (v8.take k).flatMap (fun v => (enR F_seen v).1) ++ (enR F_seen v8[k]).1) := by
                    show _ = _
                    rw [← List.take_append_getElem hlt, List.flatMap_append]; simp
                  have E2 : Hid ((v8.take (k + 1)).any (fun v => (enR F_seen v).2) = ((v8.take k).any (fun v => (enR F_seen v).2) || (enR F_seen v8[k]).2)) := by
                    show _ = _
                    rw [← List.take_append_getElem hlt, List.any_append]; simp
                  have HWX : Hid (WR _ _ _ _ _) := hWx
                  clear hWx
                  go_wp2
                  refine ⟨⟨k + 1, by omega, by go_num, ?_, hAx, hqx⟩, by simp [intOf]; omega⟩
                  have hWx := HWX.out
                  rw [E1.out, E2.out, HV.out, enR_seen]
                  simp only [List.append_assoc, Bool.or_assoc] at hWx ⊢
                  exact hWx
                · have hkN : k = v8.length := by omega
                  subst hkN
                  rw [List.take_of_length_le (Nat.le_refl _), List.append_assoc, Bool.or_assoc] at hWk
                  have hW9 : WR wr p (l ++ (enN x0).1 ++ (enN x1).1 ++ (enR (.lst F_job) v2).1 ++ (enR (.lst F_job) v3).1 ++ (enR (.lst F_node) v4).1 ++ (enR (.lst F_alloc) v5).1 ++ (enR (.lst F_eval) v6).1 ++ (enR (.lst F_deploy) v7).1 ++ (enR (.lst F_seen) v8).1) (bad || (enN x0).2 || (enN x1).2 || (enR (.lst F_job) v2).2 || (enR (.lst F_job) v3).2 || (enR (.lst F_node) v4).2 || (enR (.lst F_alloc) v5).2 || (enR (.lst F_eval) v6).2 || (enR (.lst F_deploy) v7).2 || (enR (.lst F_seen) v8).2) (fun b => prot b ∨ b = w.heap.size) := by rw [enR_l1, enR_l2]; exact hWk
                  have hA9 := hKk
                  have hq9 := hqk
                  clear hWk hKk hqk hlt hk hN8
                  have HW : Hid (WR _ _ _ _ _) := hW9
                  clear hW9
                  go_wp2
                  go_end0
                  have hWf := HW.out
                  have e1 : (l ++ (enN x0).1 ++ (enN x1).1 ++ (enR (.lst F_job) v2).1 ++ (enR (.lst F_job) v3).1 ++ (enR (.lst F_node) v4).1 ++ (enR (.lst F_alloc) v5).1 ++ (enR (.lst F_eval) v6).1 ++ (enR (.lst F_deploy) v7).1 ++ (enR (.lst F_seen) v8).1) = l ++ (enR F_store (x0, x1, v2, v3, v4, v5, v6, v7, v8)).1 := by rw [enR_store]; simp only [List.append_assoc]
                  have e2 : (bad || (enN x0).2 || (enN x1).2 || (enR (.lst F_job) v2).2 || (enR (.lst F_job) v3).2 || (enR (.lst F_node) v4).2 || (enR (.lst F_alloc) v5).2 || (enR (.lst F_eval) v6).2 || (enR (.lst F_deploy) v7).2 || (enR (.lst F_seen) v8).2) = (bad || (enR F_store (x0, x1, v2, v3, v4, v5, v6, v7, v8)).2) := by rw [enR_store]; simp only [Bool.or_assoc]
                  rw [e1, e2] at hWf
                  exact ⟨rfl, hWf.mono (fun _ x => .inl x), hA9⟩

end Go.Proofs.YtpbokgeaolpiaabGreat
