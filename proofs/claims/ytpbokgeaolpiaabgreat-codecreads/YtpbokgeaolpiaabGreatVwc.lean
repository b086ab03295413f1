/- What the writer does with lists and records, whatever they hold. Made by program (wip/gen/wr.py). -/
import Derived.Test.YtpbokgeaolpiaabGreatVwb
namespace Go.Proofs.YtpbokgeaolpiaabGreat
open Go.RowKit

set_option maxHeartbeats 1000000 in
set_option maxRecDepth 100000 in
theorem eval_w (p : Nat) (l : List UInt8) (bad : Bool) (prot S : Nat → Prop) (cs : List Value) (v : Vl F_eval) (w : World) (hl : l.length + 24 ≤ 137438953472) (hS : ∀ b, S b → prot b) (hr : Rep w S F_eval cs v) (h : WR w p l bad prot) :
    Calls Tryz.prog 109 #[.pointer (some ⟨p, 0, none⟩), .agg cs.toArray] w fun e w' => e = .returned (.tuple #[]) ∧ WR w' p (l ++ (en F_eval v).1) (bad || (en F_eval v).2) prot ∧ Kp w w' prot := by
  have hmf : ∀ (fn : Fn) (first cap : Array Value) (w : World), (Instr.makeFunc fn first cap).run Tryz.prog w = .ok (.func fn first cap) w := fun _ _ _ _ => rfl
  obtain ⟨x0, x1, x2, x3, rfl, rfl⟩ := open_eval hr
  have hl2 : Hid (l.length + 24 ≤ 137438953472) := hl
  have hW0 : WR (w.alloc (.cells [.int .i64 x0, .int .i64 x1, .int .i64 x2, .int .i64 x3].toArray 140)) p l bad (fun b => prot b ∨ b = w.heap.size) := h.box _
  have hA0 := Kp.alloc w (.cells [.int .i64 x0, .int .i64 x1, .int .i64 x2, .int .i64 x3].toArray 140) prot h.2.1
  have HP : Hid (∀ b, S b → prot b) := hS
  have HS : Hid (∀ b, S b → (fun b => prot b ∨ b = w.heap.size) b) := fun b hb => .inl (hS b hb)
  clear h hr hS hl
  go_enter Tryz.func109, Tryz.ntmps109
  go_wp2_with fail
  refine (number_w p l bad (fun b => prot b ∨ b = w.heap.size) x0 _ (by have := hl2.out; omega) hW0).mono ?_
  rintro e w1 ⟨rfl, hW1, hK1⟩
  have hA1 := hA0.trans (hK1.mono (fun _ x => .inl x))
  have hq1 : ∀ o, w1.cell? ⟨w.heap.size, o, none⟩ = (w.alloc (.cells [.int .i64 x0, .int .i64 x1, .int .i64 x2, .int .i64 x3].toArray 140)).cell? ⟨w.heap.size, o, none⟩ := fun o => hK1.cell (a := ⟨w.heap.size, o, none⟩) (.inr rfl)
  clear hW0 hK1 hA0
  go_wp2_with fail
  refine (number_w p (l ++ (enN x0).1) (bad || (enN x0).2) (fun b => prot b ∨ b = w.heap.size) x1 _ (by have := hl2.out; have := enN_len x0; simp only [List.length_append]; omega) hW1).mono ?_
  rintro e w2 ⟨rfl, hW2, hK2⟩
  have hA2 := hA1.trans (hK2.mono (fun _ x => .inl x))
  have hq2 : ∀ o, w2.cell? ⟨w.heap.size, o, none⟩ = (w.alloc (.cells [.int .i64 x0, .int .i64 x1, .int .i64 x2, .int .i64 x3].toArray 140)).cell? ⟨w.heap.size, o, none⟩ := fun o => (hK2.cell (a := ⟨w.heap.size, o, none⟩) (.inr rfl)).trans (hq1 o)
  clear hW1 hK2 hA1 hq1
  go_wp2_with fail
  refine (number_w p (l ++ (enN x0).1 ++ (enN x1).1) (bad || (enN x0).2 || (enN x1).2) (fun b => prot b ∨ b = w.heap.size) x2 _ (by have := hl2.out; have := enN_len x0; have := enN_len x1; simp only [List.length_append]; omega) hW2).mono ?_
  rintro e w3 ⟨rfl, hW3, hK3⟩
  have hA3 := hA2.trans (hK3.mono (fun _ x => .inl x))
  have hq3 : ∀ o, w3.cell? ⟨w.heap.size, o, none⟩ = (w.alloc (.cells [.int .i64 x0, .int .i64 x1, .int .i64 x2, .int .i64 x3].toArray 140)).cell? ⟨w.heap.size, o, none⟩ := fun o => (hK3.cell (a := ⟨w.heap.size, o, none⟩) (.inr rfl)).trans (hq2 o)
  clear hW2 hK3 hA2 hq2
  go_wp2_with fail
  refine (number_w p (l ++ (enN x0).1 ++ (enN x1).1 ++ (enN x2).1) (bad || (enN x0).2 || (enN x1).2 || (enN x2).2) (fun b => prot b ∨ b = w.heap.size) x3 _ (by have := hl2.out; have := enN_len x0; have := enN_len x1; have := enN_len x2; simp only [List.length_append]; omega) hW3).mono ?_
  rintro e w4 ⟨rfl, hW4, hK4⟩
  have hA4 := hA3.trans (hK4.mono (fun _ x => .inl x))
  have hq4 : ∀ o, w4.cell? ⟨w.heap.size, o, none⟩ = (w.alloc (.cells [.int .i64 x0, .int .i64 x1, .int .i64 x2, .int .i64 x3].toArray 140)).cell? ⟨w.heap.size, o, none⟩ := fun o => (hK4.cell (a := ⟨w.heap.size, o, none⟩) (.inr rfl)).trans (hq3 o)
  clear hW3 hK4 hA3 hq3
  go_wp2
  go_end0
  have e1 : l ++ (enN x0).1 ++ (enN x1).1 ++ (enN x2).1 ++ (enN x3).1 = l ++ (en F_eval (x0, x1, x2, x3)).1 := by rw [en_eval]; simp only [List.append_assoc]
  have e2 : (bad || (enN x0).2 || (enN x1).2 || (enN x2).2 || (enN x3).2) = (bad || (en F_eval (x0, x1, x2, x3)).2) := by rw [en_eval]; simp only [Bool.or_assoc]
  rw [e1, e2] at hW4
  exact ⟨rfl, hW4.mono (fun _ x => .inl x), hA4⟩


set_option maxHeartbeats 1000000 in
set_option maxRecDepth 100000 in
theorem deploy_w (p : Nat) (l : List UInt8) (bad : Bool) (prot S : Nat → Prop) (cs : List Value) (v : Vl F_deploy) (w : World) (hl : l.length + 24 ≤ 137438953472) (hS : ∀ b, S b → prot b) (hr : Rep w S F_deploy cs v) (h : WR w p l bad prot) :
    Calls Tryz.prog 111 #[.pointer (some ⟨p, 0, none⟩), .agg cs.toArray] w fun e w' => e = .returned (.tuple #[]) ∧ WR w' p (l ++ (en F_deploy v).1) (bad || (en F_deploy v).2) prot ∧ Kp w w' prot := by
  have hmf : ∀ (fn : Fn) (first cap : Array Value) (w : World), (Instr.makeFunc fn first cap).run Tryz.prog w = .ok (.func fn first cap) w := fun _ _ _ _ => rfl
  obtain ⟨x0, x1, x2, x3, rfl, rfl⟩ := open_deploy hr
  have hl2 : Hid (l.length + 24 ≤ 137438953472) := hl
  have hW0 : WR (w.alloc (.cells [.int .i64 x0, .int .i64 x1, .int .i64 x2, .int .i64 x3].toArray 144)) p l bad (fun b => prot b ∨ b = w.heap.size) := h.box _
  have hA0 := Kp.alloc w (.cells [.int .i64 x0, .int .i64 x1, .int .i64 x2, .int .i64 x3].toArray 144) prot h.2.1
  have HP : Hid (∀ b, S b → prot b) := hS
  have HS : Hid (∀ b, S b → (fun b => prot b ∨ b = w.heap.size) b) := fun b hb => .inl (hS b hb)
  clear h hr hS hl
  go_enter Tryz.func111, Tryz.ntmps111
  go_wp2_with fail
  refine (number_w p l bad (fun b => prot b ∨ b = w.heap.size) x0 _ (by have := hl2.out; omega) hW0).mono ?_
  rintro e w1 ⟨rfl, hW1, hK1⟩
  have hA1 := hA0.trans (hK1.mono (fun _ x => .inl x))
  have hq1 : ∀ o, w1.cell? ⟨w.heap.size, o, none⟩ = (w.alloc (.cells [.int .i64 x0, .int .i64 x1, .int .i64 x2, .int .i64 x3].toArray 144)).cell? ⟨w.heap.size, o, none⟩ := fun o => hK1.cell (a := ⟨w.heap.size, o, none⟩) (.inr rfl)
  clear hW0 hK1 hA0
  go_wp2_with fail
  refine (number_w p (l ++ (enN x0).1) (bad || (enN x0).2) (fun b => prot b ∨ b = w.heap.size) x1 _ (by have := hl2.out; have := enN_len x0; simp only [List.length_append]; omega) hW1).mono ?_
  rintro e w2 ⟨rfl, hW2, hK2⟩
  have hA2 := hA1.trans (hK2.mono (fun _ x => .inl x))
  have hq2 : ∀ o, w2.cell? ⟨w.heap.size, o, none⟩ = (w.alloc (.cells [.int .i64 x0, .int .i64 x1, .int .i64 x2, .int .i64 x3].toArray 144)).cell? ⟨w.heap.size, o, none⟩ := fun o => (hK2.cell (a := ⟨w.heap.size, o, none⟩) (.inr rfl)).trans (hq1 o)
  clear hW1 hK2 hA1 hq1
  go_wp2_with fail
  refine (number_w p (l ++ (enN x0).1 ++ (enN x1).1) (bad || (enN x0).2 || (enN x1).2) (fun b => prot b ∨ b = w.heap.size) x2 _ (by have := hl2.out; have := enN_len x0; have := enN_len x1; simp only [List.length_append]; omega) hW2).mono ?_
  rintro e w3 ⟨rfl, hW3, hK3⟩
  have hA3 := hA2.trans (hK3.mono (fun _ x => .inl x))
  have hq3 : ∀ o, w3.cell? ⟨w.heap.size, o, none⟩ = (w.alloc (.cells [.int .i64 x0, .int .i64 x1, .int .i64 x2, .int .i64 x3].toArray 144)).cell? ⟨w.heap.size, o, none⟩ := fun o => (hK3.cell (a := ⟨w.heap.size, o, none⟩) (.inr rfl)).trans (hq2 o)
  clear hW2 hK3 hA2 hq2
  go_wp2_with fail
  refine (number_w p (l ++ (enN x0).1 ++ (enN x1).1 ++ (enN x2).1) (bad || (enN x0).2 || (enN x1).2 || (enN x2).2) (fun b => prot b ∨ b = w.heap.size) x3 _ (by have := hl2.out; have := enN_len x0; have := enN_len x1; have := enN_len x2; simp only [List.length_append]; omega) hW3).mono ?_
  rintro e w4 ⟨rfl, hW4, hK4⟩
  have hA4 := hA3.trans (hK4.mono (fun _ x => .inl x))
  have hq4 : ∀ o, w4.cell? ⟨w.heap.size, o, none⟩ = (w.alloc (.cells [.int .i64 x0, .int .i64 x1, .int .i64 x2, .int .i64 x3].toArray 144)).cell? ⟨w.heap.size, o, none⟩ := fun o => (hK4.cell (a := ⟨w.heap.size, o, none⟩) (.inr rfl)).trans (hq3 o)
  clear hW3 hK4 hA3 hq3
  go_wp2
  go_end0
  have e1 : l ++ (enN x0).1 ++ (enN x1).1 ++ (enN x2).1 ++ (enN x3).1 = l ++ (en F_deploy (x0, x1, x2, x3)).1 := by rw [en_deploy]; simp only [List.append_assoc]
  have e2 : (bad || (enN x0).2 || (enN x1).2 || (enN x2).2 || (enN x3).2) = (bad || (en F_deploy (x0, x1, x2, x3)).2) := by rw [en_deploy]; simp only [Bool.or_assoc]
  rw [e1, e2] at hW4
  exact ⟨rfl, hW4.mono (fun _ x => .inl x), hA4⟩


set_option maxHeartbeats 1000000 in
set_option maxRecDepth 100000 in
theorem seen_w (p : Nat) (l : List UInt8) (bad : Bool) (prot S : Nat → Prop) (cs : List Value) (v : Vl F_seen) (w : World) (hl : l.length + 4254 ≤ 137438953472) (hS : ∀ b, S b → prot b) (hr : Rep w S F_seen cs v) (h : WR w p l bad prot) :
    Calls Tryz.prog 113 #[.pointer (some ⟨p, 0, none⟩), .agg cs.toArray] w fun e w' => e = .returned (.tuple #[]) ∧ WR w' p (l ++ (en F_seen v).1) (bad || (en F_seen v).2) prot ∧ Kp w w' prot := by
  have hmf : ∀ (fn : Fn) (first cap : Array Value) (w : World), (Instr.makeFunc fn first cap).run Tryz.prog w = .ok (.func fn first cap) w := fun _ _ _ _ => rfl
  obtain ⟨x0, x1, y2_0, y2_1, y2_2, v2, rfl, rfl, h2⟩ := open_seen hr
  have hl2 : Hid (l.length + 4254 ≤ 137438953472) := hl
  have hW0 : WR (w.alloc (.cells [.int .i64 x0, .int .i64 x1, y2_0, y2_1, y2_2].toArray 148)) p l bad (fun b => prot b ∨ b = w.heap.size) := h.box _
  have hA0 := Kp.alloc w (.cells [.int .i64 x0, .int .i64 x1, y2_0, y2_1, y2_2].toArray 148) prot h.2.1
  have HP : Hid (∀ b, S b → prot b) := hS
  have HS : Hid (∀ b, S b → (fun b => prot b ∨ b = w.heap.size) b) := fun b hb => .inl (hS b hb)
  clear h hr hS hl
  go_enter Tryz.func113, Tryz.ntmps113
  go_wp2_with fail
  refine (number_w p l bad (fun b => prot b ∨ b = w.heap.size) x0 _ (by have := hl2.out; omega) hW0).mono ?_
  rintro e w1 ⟨rfl, hW1, hK1⟩
  have hA1 := hA0.trans (hK1.mono (fun _ x => .inl x))
  have hq1 : ∀ o, w1.cell? ⟨w.heap.size, o, none⟩ = (w.alloc (.cells [.int .i64 x0, .int .i64 x1, y2_0, y2_1, y2_2].toArray 148)).cell? ⟨w.heap.size, o, none⟩ := fun o => hK1.cell (a := ⟨w.heap.size, o, none⟩) (.inr rfl)
  clear hW0 hK1 hA0
  go_wp2_with fail
  refine (number_w p (l ++ (enN x0).1) (bad || (enN x0).2) (fun b => prot b ∨ b = w.heap.size) x1 _ (by have := hl2.out; have := enN_len x0; simp only [List.length_append]; omega) hW1).mono ?_
  rintro e w2 ⟨rfl, hW2, hK2⟩
  have hA2 := hA1.trans (hK2.mono (fun _ x => .inl x))
  have hq2 : ∀ o, w2.cell? ⟨w.heap.size, o, none⟩ = (w.alloc (.cells [.int .i64 x0, .int .i64 x1, y2_0, y2_1, y2_2].toArray 148)).cell? ⟨w.heap.size, o, none⟩ := fun o => (hK2.cell (a := ⟨w.heap.size, o, none⟩) (.inr rfl)).trans (hq1 o)
  clear hW1 hK2 hA1 hq1
  go_wp2_with fail
  refine (result_w p (l ++ (enN x0).1 ++ (enN x1).1) (bad || (enN x0).2 || (enN x1).2) (fun b => prot b ∨ b = w.heap.size) S [y2_0, y2_1, y2_2] v2 _ (by have := hl2.out; have := enN_len x0; have := enN_len x1; simp only [List.length_append]; omega) HS.out (h2.kept hA2.size (fun b hb => hA2.block b (HP.out b hb)) (fun _ x => x)) hW2).mono ?_
  rintro e w3 ⟨rfl, hW3, hK3⟩
  have hA3 := hA2.trans (hK3.mono (fun _ x => .inl x))
  have hq3 : ∀ o, w3.cell? ⟨w.heap.size, o, none⟩ = (w.alloc (.cells [.int .i64 x0, .int .i64 x1, y2_0, y2_1, y2_2].toArray 148)).cell? ⟨w.heap.size, o, none⟩ := fun o => (hK3.cell (a := ⟨w.heap.size, o, none⟩) (.inr rfl)).trans (hq2 o)
  clear hW2 hK3 hA2 hq2
  go_wp2
  go_end0
  have e1 : l ++ (enN x0).1 ++ (enN x1).1 ++ (en F_result v2).1 = l ++ (en F_seen (x0, x1, v2)).1 := by rw [en_seen]; simp only [List.append_assoc]
  have e2 : (bad || (enN x0).2 || (enN x1).2 || (en F_result v2).2) = (bad || (en F_seen (x0, x1, v2)).2) := by rw [en_seen]; simp only [Bool.or_assoc]
  rw [e1, e2] at hW3
  exact ⟨rfl, hW3.mono (fun _ x => .inl x), hA3⟩


theorem info_job : (Tryz.prog.info? 25).map (·.size) = some (wd F_job) := by kernel_rfl

set_option maxHeartbeats 1000000 in
set_option maxRecDepth 100000 in
theorem listJob_w (p : Nat) (l : List UInt8) (bad : Bool) (prot S : Nat → Prop) (a : Option Addr) (c : Nat) (vs : List (Vl F_job)) (w : World) (hl : l.length + 76422 ≤ 137438953472) (hS : ∀ b, S b → prot b) (hr : RepL w S F_job a vs) (h : WR w p l bad prot) :
    Calls Tryz.prog 104 #[.pointer (some ⟨p, 0, none⟩), .slice a vs.length c, .func (.func 66) #[.pointer (some ⟨p, 0, none⟩)] #[]] w fun e w' => e = .returned (.tuple #[]) ∧ WR w' p (l ++ (en (.lst F_job) vs).1) (bad || (en (.lst F_job) vs).2) prot ∧ Kp w w' prot := by
  have hl2 : Hid (l.length + 76422 ≤ 137438953472) := hl
  by_cases hbig : vs.length ≤ 64
  · have e0 : en (.lst F_job) vs = (enc (vs.length : Int) ++ vs.flatMap fun v => (en F_job v).1, vs.any fun v => (en F_job v).2) := by show (if _ then _ else _) = _; rw [if_pos hbig]
    rw [e0]
    have e1 : Hid (enN (vs.length : Int) = (enc (vs.length : Int), false)) := by show _ = _; unfold enN; rw [if_pos (by omega)]
    have hl0 := hl2.out
    have HF : Hid (∀ k, ((vs.take k).flatMap fun v => (en F_job v).1).length ≤ 76416) := by
      intro k
      have h1 := flat_len (fun v => (en F_job v).1) 1194 (fun v => len_job v) (vs.take k)
      have h2 : (vs.take k).length ≤ 64 := by rw [List.length_take]; omega
      omega
    have HEL : Hid ((enc (vs.length : Int)).length ≤ 6) := enc_length _ (by omega) (by omega)
    have HSP : Hid (∀ b, S b → prot b) := hS
    clear hl e0 hS
    go_enter Tryz.func104, Tryz.ntmps104
    go_wp2_with fail
    refine (number_w p l bad prot (vs.length : Int) w (by omega) h).mono ?_
    rintro e w1 ⟨rfl, hW1, hK1⟩
    rw [e1.out] at hW1
    simp only [Bool.or_false] at hW1
    go_wp2
    go_loopw [20] (fun i wr => ∃ k : Nat, k ≤ vs.length ∧ i = .int .i64 k ∧ WR wr p (l ++ enc (vs.length : Int) ++ (vs.take k).flatMap fun v => (en F_job v).1) (bad || (vs.take k).any fun v => (en F_job v).2) prot ∧ Kp w wr prot) (fun i _ => vs.length - (intOf i).toNat)
    case atStart => exact ⟨0, Nat.zero_le _, rfl, by simpa using hW1, hK1⟩
    case round =>
      obtain ⟨k, hk, rfl, hWk, hKk⟩ := hrel
      by_cases hlt : k < vs.length
      · obtain ⟨b, off, rfl, hSb, hes⟩ := hr.2 (by intro e; rw [e] at hlt; simp at hlt)
        obtain ⟨es, hrep0, hrg0⟩ := hes k hlt
        have hrep := hrep0.kept (S' := S) hKk.size (fun b hb => hKk.block b (HSP.out b hb)) (fun _ x => x)
        have hrg : wr.rangeAt b (off + k * wd F_job) es := rangeAt_kept hrg0 (hKk.block b (HSP.out b hSb))
        clear hrep0 hrg0
        have HLK : Hid ((l ++ enc (vs.length : Int) ++ (vs.take k).flatMap fun v => (en F_job v).1).length + 1194 ≤ 137438953472) := by
          have h1 := HF.out k; have h2 := HEL.out; have h3 := hl2.out
          show _ ≤ _
          have h4 := flat_len (fun v => (en F_job v).1) 1194 (fun v => len_job v) (vs.take k)
          have h5 : (vs.take k).length + 1 ≤ 64 := by rw [List.length_take]; omega
          simp only [List.length_append]
          omega
        have I0 : Hid ((Tryz.prog.info? 25).map (·.size) = some es.length) := by show _ = _; rw [hrep.len]; exact info_job
        have O0 : Hid (es.toArray.all (·.oneCell') = true) := hrep.all
        have HRG : Hid (wr.rangeAt b (off + k * wd F_job) es) := hrg
        have hsz : es.toArray.size = 7 := by rw [List.size_toArray]; exact hrep.len
        have HL0 : Hid ((#[.int .i64 0, .int .i64 0, .int .i64 0, .int .i64 0, .slice none 0 0, .int .i64 0, .bool false] : Array Value).size = es.toArray.size) := hsz.symm
        clear hsz
        have HRE : Hid (Rep wr S F_job es vs[k]) := hrep
        clear hrep hrg hes hr
        have I1 : Hid ((Tryz.prog.info? 25).map (·.size) = some es.toArray.size) := by show _ = _; rw [List.size_toArray]; exact I0.out
        go_wp2_with (first
          | refine wpList_load_mid rfl 25 (.tmp 22) rfl b (off + k * wd F_job) rfl es _ HRG.out Tryz.underlying25 rfl I0.out ?_
          | refine wpList_store_rowF rfl 25 (.tmp 7) (.tmp 23) rfl wr.heap.size es.toArray rfl rfl 25 #[.int .i64 0, .int .i64 0, .int .i64 0, .int .i64 0, .slice none 0 0, .int .i64 0, .bool false] (heap_alloc_new wr (.cells #[.int .i64 0, .int .i64 0, .int .i64 0, .int .i64 0, .slice none 0 0, .int .i64 0, .bool false] 25)) I1.out HL0.out O0.out ?next)
        case next =>
        intro w2 hw2
        have B2 : Below wr.heap.size wr w2 := by
          rw [hw2.out]
          exact ((Below.refl _ _).alloc (Nat.le_refl _) _).trans ⟨rfl, rfl, rfl, by simp [World.setRow], fun kk hkk => setRow_other _ _ _ _ (by omega)⟩
        have g2 : Hid (w2.heap[wr.heap.size]? = some (.cells es.toArray 25 (0, 0))) := by
          show _ = _
          rw [hw2.out]
          exact setRow_heap _ _ _ _ 25 _ (heap_alloc_new wr (.cells #[.int .i64 0, .int .i64 0, .int .i64 0, .int .i64 0, .slice none 0 0, .int .i64 0, .bool false] 25))
        have hWm := hWk.grow B2
        have hKm := hKk.trans (kp_below B2 prot hWk.2.1)
        have HRE2 : Hid (Rep w2 S F_job es vs[k]) := HRE.out.kept B2.size (fun b hb => B2.block b (hWk.2.1 b (HSP.out b hb))) (fun _ x => x)
        clear hw2 B2 HRE HRG hWk hKk
        go_wp2_with (refine wpList_load_row rfl 25 (.tmp 7) rfl wr.heap.size rfl 25 es.toArray (0, 0) _ g2.out Tryz.underlying25 rfl I1.out ?_)
        refine (job_w p _ _ prot S es vs[k] w2 HLK.out HSP.out HRE2.out hWm).mono ?_
        rintro e w3 ⟨rfl, hW3, hK3⟩
        have E1 : Hid ((vs.take (k + 1)).flatMap (fun v => (en F_job v).1) = (vs.take k).flatMap (fun v => (en F_job v).1) ++ (en F_job vs[k]).1) := by
          show _ = _
          rw [← List.take_append_getElem hlt, List.flatMap_append]; simp
        have E2 : Hid ((vs.take (k + 1)).any (fun v => (en F_job v).2) = ((vs.take k).any (fun v => (en F_job v).2) || (en F_job vs[k]).2)) := by
          show _ = _
          rw [← List.take_append_getElem hlt, List.any_append]; simp
        go_wp2
        refine ⟨⟨k + 1, by omega, by go_num, ?_, hKm.trans hK3⟩, by simp [intOf]; omega⟩
        rw [E1.out, E2.out, ← List.append_assoc, ← Bool.or_assoc]
        exact hW3
      · have hkN : k = vs.length := by omega
        subst hkN
        go_wp2
        go_end0
        rw [List.take_of_length_le (Nat.le_refl _), List.append_assoc] at hWk
        exact ⟨rfl, hWk, hKk⟩
  · have e0 : en (.lst F_job) vs = ([], true) := by show (if _ then _ else _) = _; rw [if_neg hbig]
    rw [e0]
    simp only [Bool.or_true, List.append_nil]
    have HB : Hid _ := h.bad
    obtain ⟨h1, h2, h3, v, h4, h5, h6, h7, h8, h9⟩ := h
    clear h1 h2 h9 h8 hr hl hl2 e0
    go_enter Tryz.func104, Tryz.ntmps104
    go_wp2
    (try simp only [Exit.inBlock, Exit.then]); refine bodyPost_ret (results_none rfl _ _ _) rfl ?_
    exact ⟨rfl, HB.out⟩


theorem info_node : (Tryz.prog.info? 29).map (·.size) = some (wd F_node) := by kernel_rfl

set_option maxHeartbeats 1000000 in
set_option maxRecDepth 100000 in
theorem listNode_w (p : Nat) (l : List UInt8) (bad : Bool) (prot S : Nat → Prop) (a : Option Addr) (c : Nat) (vs : List (Vl F_node)) (w : World) (hl : l.length + 3078 ≤ 137438953472) (hS : ∀ b, S b → prot b) (hr : RepL w S F_node a vs) (h : WR w p l bad prot) :
    Calls Tryz.prog 105 #[.pointer (some ⟨p, 0, none⟩), .slice a vs.length c, .func (.func 67) #[.pointer (some ⟨p, 0, none⟩)] #[]] w fun e w' => e = .returned (.tuple #[]) ∧ WR w' p (l ++ (en (.lst F_node) vs).1) (bad || (en (.lst F_node) vs).2) prot ∧ Kp w w' prot := by
  have hl2 : Hid (l.length + 3078 ≤ 137438953472) := hl
  by_cases hbig : vs.length ≤ 64
  · have e0 : en (.lst F_node) vs = (enc (vs.length : Int) ++ vs.flatMap fun v => (en F_node v).1, vs.any fun v => (en F_node v).2) := by show (if _ then _ else _) = _; rw [if_pos hbig]
    rw [e0]
    have e1 : Hid (enN (vs.length : Int) = (enc (vs.length : Int), false)) := by show _ = _; unfold enN; rw [if_pos (by omega)]
    have hl0 := hl2.out
    have HF : Hid (∀ k, ((vs.take k).flatMap fun v => (en F_node v).1).length ≤ 3072) := by
      intro k
      have h1 := flat_len (fun v => (en F_node v).1) 48 (fun v => len_node v) (vs.take k)
      have h2 : (vs.take k).length ≤ 64 := by rw [List.length_take]; omega
      omega
    have HEL : Hid ((enc (vs.length : Int)).length ≤ 6) := enc_length _ (by omega) (by omega)
    have HSP : Hid (∀ b, S b → prot b) := hS
    clear hl e0 hS
    go_enter Tryz.func105, Tryz.ntmps105
    go_wp2_with fail
    refine (number_w p l bad prot (vs.length : Int) w (by omega) h).mono ?_
    rintro e w1 ⟨rfl, hW1, hK1⟩
    rw [e1.out] at hW1
    simp only [Bool.or_false] at hW1
    go_wp2
    go_loopw [20] (fun i wr => ∃ k : Nat, k ≤ vs.length ∧ i = .int .i64 k ∧ WR wr p (l ++ enc (vs.length : Int) ++ (vs.take k).flatMap fun v => (en F_node v).1) (bad || (vs.take k).any fun v => (en F_node v).2) prot ∧ Kp w wr prot) (fun i _ => vs.length - (intOf i).toNat)
    case atStart => exact ⟨0, Nat.zero_le _, rfl, by simpa using hW1, hK1⟩
    case round =>
      obtain ⟨k, hk, rfl, hWk, hKk⟩ := hrel
      by_cases hlt : k < vs.length
      · obtain ⟨b, off, rfl, hSb, hes⟩ := hr.2 (by intro e; rw [e] at hlt; simp at hlt)
        obtain ⟨es, hrep0, hrg0⟩ := hes k hlt
        have hrep := hrep0.kept (S' := S) hKk.size (fun b hb => hKk.block b (HSP.out b hb)) (fun _ x => x)
        have hrg : wr.rangeAt b (off + k * wd F_node) es := rangeAt_kept hrg0 (hKk.block b (HSP.out b hSb))
        clear hrep0 hrg0
        have HLK : Hid ((l ++ enc (vs.length : Int) ++ (vs.take k).flatMap fun v => (en F_node v).1).length + 48 ≤ 137438953472) := by
          have h1 := HF.out k; have h2 := HEL.out; have h3 := hl2.out
          show _ ≤ _
          have h4 := flat_len (fun v => (en F_node v).1) 48 (fun v => len_node v) (vs.take k)
          have h5 : (vs.take k).length + 1 ≤ 64 := by rw [List.length_take]; omega
          simp only [List.length_append]
          omega
        have I0 : Hid ((Tryz.prog.info? 29).map (·.size) = some es.length) := by show _ = _; rw [hrep.len]; exact info_node
        have O0 : Hid (es.toArray.all (·.oneCell') = true) := hrep.all
        have HRG : Hid (wr.rangeAt b (off + k * wd F_node) es) := hrg
        have hsz : es.toArray.size = 8 := by rw [List.size_toArray]; exact hrep.len
        have HL0 : Hid ((#[.int .i64 0, .int .i64 0, .int .i64 0, .bool false, .bool false, .int .i64 0, .int .i64 0, .int .i64 0] : Array Value).size = es.toArray.size) := hsz.symm
        clear hsz
        have HRE : Hid (Rep wr S F_node es vs[k]) := hrep
        clear hrep hrg hes hr
        have I1 : Hid ((Tryz.prog.info? 29).map (·.size) = some es.toArray.size) := by show _ = _; rw [List.size_toArray]; exact I0.out
        go_wp2_with (first
          | refine wpList_load_mid rfl 29 (.tmp 22) rfl b (off + k * wd F_node) rfl es _ HRG.out Tryz.underlying29 rfl I0.out ?_
          | refine wpList_store_rowF rfl 29 (.tmp 7) (.tmp 23) rfl wr.heap.size es.toArray rfl rfl 29 #[.int .i64 0, .int .i64 0, .int .i64 0, .bool false, .bool false, .int .i64 0, .int .i64 0, .int .i64 0] (heap_alloc_new wr (.cells #[.int .i64 0, .int .i64 0, .int .i64 0, .bool false, .bool false, .int .i64 0, .int .i64 0, .int .i64 0] 29)) I1.out HL0.out O0.out ?next)
        case next =>
        intro w2 hw2
        have B2 : Below wr.heap.size wr w2 := by
          rw [hw2.out]
          exact ((Below.refl _ _).alloc (Nat.le_refl _) _).trans ⟨rfl, rfl, rfl, by simp [World.setRow], fun kk hkk => setRow_other _ _ _ _ (by omega)⟩
        have g2 : Hid (w2.heap[wr.heap.size]? = some (.cells es.toArray 29 (0, 0))) := by
          show _ = _
          rw [hw2.out]
          exact setRow_heap _ _ _ _ 29 _ (heap_alloc_new wr (.cells #[.int .i64 0, .int .i64 0, .int .i64 0, .bool false, .bool false, .int .i64 0, .int .i64 0, .int .i64 0] 29))
        have hWm := hWk.grow B2
        have hKm := hKk.trans (kp_below B2 prot hWk.2.1)
        have HRE2 : Hid (Rep w2 S F_node es vs[k]) := HRE.out.kept B2.size (fun b hb => B2.block b (hWk.2.1 b (HSP.out b hb))) (fun _ x => x)
        clear hw2 B2 HRE HRG hWk hKk
        go_wp2_with (refine wpList_load_row rfl 29 (.tmp 7) rfl wr.heap.size rfl 29 es.toArray (0, 0) _ g2.out Tryz.underlying29 rfl I1.out ?_)
        refine (node_w p _ _ prot S es vs[k] w2 HLK.out HSP.out HRE2.out hWm).mono ?_
        rintro e w3 ⟨rfl, hW3, hK3⟩
        have E1 : Hid ((vs.take (k + 1)).flatMap (fun v => (en F_node v).1) = (vs.take k).flatMap (fun v => (en F_node v).1) ++ (en F_node vs[k]).1) := by
          show _ = _
          rw [← List.take_append_getElem hlt, List.flatMap_append]; simp
        have E2 : Hid ((vs.take (k + 1)).any (fun v => (en F_node v).2) = ((vs.take k).any (fun v => (en F_node v).2) || (en F_node vs[k]).2)) := by
          show _ = _
          rw [← List.take_append_getElem hlt, List.any_append]; simp
        go_wp2
        refine ⟨⟨k + 1, by omega, by go_num, ?_, hKm.trans hK3⟩, by simp [intOf]; omega⟩
        rw [E1.out, E2.out, ← List.append_assoc, ← Bool.or_assoc]
        exact hW3
      · have hkN : k = vs.length := by omega
        subst hkN
        go_wp2
        go_end0
        rw [List.take_of_length_le (Nat.le_refl _), List.append_assoc] at hWk
        exact ⟨rfl, hWk, hKk⟩
  · have e0 : en (.lst F_node) vs = ([], true) := by show (if _ then _ else _) = _; rw [if_neg hbig]
    rw [e0]
    simp only [Bool.or_true, List.append_nil]
    have HB : Hid _ := h.bad
    obtain ⟨h1, h2, h3, v, h4, h5, h6, h7, h8, h9⟩ := h
    clear h1 h2 h9 h8 hr hl hl2 e0
    go_enter Tryz.func105, Tryz.ntmps105
    go_wp2
    (try simp only [Exit.inBlock, Exit.then]); refine bodyPost_ret (results_none rfl _ _ _) rfl ?_
    exact ⟨rfl, HB.out⟩


theorem info_eval : (Tryz.prog.info? 140).map (·.size) = some (wd F_eval) := by kernel_rfl

set_option maxHeartbeats 1000000 in
set_option maxRecDepth 100000 in
theorem listEval_w (p : Nat) (l : List UInt8) (bad : Bool) (prot S : Nat → Prop) (a : Option Addr) (c : Nat) (vs : List (Vl F_eval)) (w : World) (hl : l.length + 1542 ≤ 137438953472) (hS : ∀ b, S b → prot b) (hr : RepL w S F_eval a vs) (h : WR w p l bad prot) :
    Calls Tryz.prog 108 #[.pointer (some ⟨p, 0, none⟩), .slice a vs.length c, .func (.func 109) #[.pointer (some ⟨p, 0, none⟩)] #[]] w fun e w' => e = .returned (.tuple #[]) ∧ WR w' p (l ++ (en (.lst F_eval) vs).1) (bad || (en (.lst F_eval) vs).2) prot ∧ Kp w w' prot := by
  have hl2 : Hid (l.length + 1542 ≤ 137438953472) := hl
  by_cases hbig : vs.length ≤ 64
  · have e0 : en (.lst F_eval) vs = (enc (vs.length : Int) ++ vs.flatMap fun v => (en F_eval v).1, vs.any fun v => (en F_eval v).2) := by show (if _ then _ else _) = _; rw [if_pos hbig]
    rw [e0]
    have e1 : Hid (enN (vs.length : Int) = (enc (vs.length : Int), false)) := by show _ = _; unfold enN; rw [if_pos (by omega)]
    have hl0 := hl2.out
    have HF : Hid (∀ k, ((vs.take k).flatMap fun v => (en F_eval v).1).length ≤ 1536) := by
      intro k
      have h1 := flat_len (fun v => (en F_eval v).1) 24 (fun v => len_eval v) (vs.take k)
      have h2 : (vs.take k).length ≤ 64 := by rw [List.length_take]; omega
      omega
    have HEL : Hid ((enc (vs.length : Int)).length ≤ 6) := enc_length _ (by omega) (by omega)
    have HSP : Hid (∀ b, S b → prot b) := hS
    clear hl e0 hS
    go_enter Tryz.func108, Tryz.ntmps108
    go_wp2_with fail
    refine (number_w p l bad prot (vs.length : Int) w (by omega) h).mono ?_
    rintro e w1 ⟨rfl, hW1, hK1⟩
    rw [e1.out] at hW1
    simp only [Bool.or_false] at hW1
    go_wp2
    go_loopw [20] (fun i wr => ∃ k : Nat, k ≤ vs.length ∧ i = .int .i64 k ∧ WR wr p (l ++ enc (vs.length : Int) ++ (vs.take k).flatMap fun v => (en F_eval v).1) (bad || (vs.take k).any fun v => (en F_eval v).2) prot ∧ Kp w wr prot) (fun i _ => vs.length - (intOf i).toNat)
    case atStart => exact ⟨0, Nat.zero_le _, rfl, by simpa using hW1, hK1⟩
    case round =>
      obtain ⟨k, hk, rfl, hWk, hKk⟩ := hrel
      by_cases hlt : k < vs.length
      · obtain ⟨b, off, rfl, hSb, hes⟩ := hr.2 (by intro e; rw [e] at hlt; simp at hlt)
        obtain ⟨es, hrep0, hrg0⟩ := hes k hlt
        have hrep := hrep0.kept (S' := S) hKk.size (fun b hb => hKk.block b (HSP.out b hb)) (fun _ x => x)
        have hrg : wr.rangeAt b (off + k * wd F_eval) es := rangeAt_kept hrg0 (hKk.block b (HSP.out b hSb))
        clear hrep0 hrg0
        have HLK : Hid ((l ++ enc (vs.length : Int) ++ (vs.take k).flatMap fun v => (en F_eval v).1).length + 24 ≤ 137438953472) := by
          have h1 := HF.out k; have h2 := HEL.out; have h3 := hl2.out
          show _ ≤ _
          have h4 := flat_len (fun v => (en F_eval v).1) 24 (fun v => len_eval v) (vs.take k)
          have h5 : (vs.take k).length + 1 ≤ 64 := by rw [List.length_take]; omega
          simp only [List.length_append]
          omega
        have I0 : Hid ((Tryz.prog.info? 140).map (·.size) = some es.length) := by show _ = _; rw [hrep.len]; exact info_eval
        have O0 : Hid (es.toArray.all (·.oneCell') = true) := hrep.all
        have HRG : Hid (wr.rangeAt b (off + k * wd F_eval) es) := hrg
        have hsz : es.toArray.size = 4 := by rw [List.size_toArray]; exact hrep.len
        have HL0 : Hid ((#[.int .i64 0, .int .i64 0, .int .i64 0, .int .i64 0] : Array Value).size = es.toArray.size) := hsz.symm
        clear hsz
        have HRE : Hid (Rep wr S F_eval es vs[k]) := hrep
        clear hrep hrg hes hr
        have I1 : Hid ((Tryz.prog.info? 140).map (·.size) = some es.toArray.size) := by show _ = _; rw [List.size_toArray]; exact I0.out
        go_wp2_with (first
          | refine wpList_load_mid rfl 140 (.tmp 22) rfl b (off + k * wd F_eval) rfl es _ HRG.out Tryz.underlying140 rfl I0.out ?_
          | refine wpList_store_rowF rfl 140 (.tmp 7) (.tmp 23) rfl wr.heap.size es.toArray rfl rfl 140 #[.int .i64 0, .int .i64 0, .int .i64 0, .int .i64 0] (heap_alloc_new wr (.cells #[.int .i64 0, .int .i64 0, .int .i64 0, .int .i64 0] 140)) I1.out HL0.out O0.out ?next)
        case next =>
        intro w2 hw2
        have B2 : Below wr.heap.size wr w2 := by
          rw [hw2.out]
          exact ((Below.refl _ _).alloc (Nat.le_refl _) _).trans ⟨rfl, rfl, rfl, by simp [World.setRow], fun kk hkk => setRow_other _ _ _ _ (by omega)⟩
        have g2 : Hid (w2.heap[wr.heap.size]? = some (.cells es.toArray 140 (0, 0))) := by
          show _ = _
          rw [hw2.out]
          exact setRow_heap _ _ _ _ 140 _ (heap_alloc_new wr (.cells #[.int .i64 0, .int .i64 0, .int .i64 0, .int .i64 0] 140))
        have hWm := hWk.grow B2
        have hKm := hKk.trans (kp_below B2 prot hWk.2.1)
        have HRE2 : Hid (Rep w2 S F_eval es vs[k]) := HRE.out.kept B2.size (fun b hb => B2.block b (hWk.2.1 b (HSP.out b hb))) (fun _ x => x)
        clear hw2 B2 HRE HRG hWk hKk
        go_wp2_with (refine wpList_load_row rfl 140 (.tmp 7) rfl wr.heap.size rfl 140 es.toArray (0, 0) _ g2.out Tryz.underlying140 rfl I1.out ?_)
        refine (eval_w p _ _ prot S es vs[k] w2 HLK.out HSP.out HRE2.out hWm).mono ?_
        rintro e w3 ⟨rfl, hW3, hK3⟩
        have E1 : Hid ((vs.take (k + 1)).flatMap (fun v => (en F_eval v).1) = (vs.take k).flatMap (fun v => (en F_eval v).1) ++ (en F_eval vs[k]).1) := by
          show _ = _
          rw [← List.take_append_getElem hlt, List.flatMap_append]; simp
        have E2 : Hid ((vs.take (k + 1)).any (fun v => (en F_eval v).2) = ((vs.take k).any (fun v => (en F_eval v).2) || (en F_eval vs[k]).2)) := by
          show _ = _
          rw [← List.take_append_getElem hlt, List.any_append]; simp
        go_wp2
        refine ⟨⟨k + 1, by omega, by go_num, ?_, hKm.trans hK3⟩, by simp [intOf]; omega⟩
        rw [E1.out, E2.out, ← List.append_assoc, ← Bool.or_assoc]
        exact hW3
      · have hkN : k = vs.length := by omega
        subst hkN
        go_wp2
        go_end0
        rw [List.take_of_length_le (Nat.le_refl _), List.append_assoc] at hWk
        exact ⟨rfl, hWk, hKk⟩
  · have e0 : en (.lst F_eval) vs = ([], true) := by show (if _ then _ else _) = _; rw [if_neg hbig]
    rw [e0]
    simp only [Bool.or_true, List.append_nil]
    have HB : Hid _ := h.bad
    obtain ⟨h1, h2, h3, v, h4, h5, h6, h7, h8, h9⟩ := h
    clear h1 h2 h9 h8 hr hl hl2 e0
    go_enter Tryz.func108, Tryz.ntmps108
    go_wp2
    (try simp only [Exit.inBlock, Exit.then]); refine bodyPost_ret (results_none rfl _ _ _) rfl ?_
    exact ⟨rfl, HB.out⟩


theorem info_deploy : (Tryz.prog.info? 144).map (·.size) = some (wd F_deploy) := by kernel_rfl

set_option maxHeartbeats 1000000 in
set_option maxRecDepth 100000 in
theorem listDeploy_w (p : Nat) (l : List UInt8) (bad : Bool) (prot S : Nat → Prop) (a : Option Addr) (c : Nat) (vs : List (Vl F_deploy)) (w : World) (hl : l.length + 1542 ≤ 137438953472) (hS : ∀ b, S b → prot b) (hr : RepL w S F_deploy a vs) (h : WR w p l bad prot) :
    Calls Tryz.prog 110 #[.pointer (some ⟨p, 0, none⟩), .slice a vs.length c, .func (.func 111) #[.pointer (some ⟨p, 0, none⟩)] #[]] w fun e w' => e = .returned (.tuple #[]) ∧ WR w' p (l ++ (en (.lst F_deploy) vs).1) (bad || (en (.lst F_deploy) vs).2) prot ∧ Kp w w' prot := by
  have hl2 : Hid (l.length + 1542 ≤ 137438953472) := hl
  by_cases hbig : vs.length ≤ 64
  · have e0 : en (.lst F_deploy) vs = (enc (vs.length : Int) ++ vs.flatMap fun v => (en F_deploy v).1, vs.any fun v => (en F_deploy v).2) := by show (if _ then _ else _) = _; rw [if_pos hbig]
    rw [e0]
    have e1 : Hid (enN (vs.length : Int) = (enc (vs.length : Int), false)) := by show _ = _; unfold enN; rw [if_pos (by omega)]
    have hl0 := hl2.out
    have HF : Hid (∀ k, ((vs.take k).flatMap fun v => (en F_deploy v).1).length ≤ 1536) := by
      intro k
      have h1 := flat_len (fun v => (en F_deploy v).1) 24 (fun v => len_deploy v) (vs.take k)
      have h2 : (vs.take k).length ≤ 64 := by rw [List.length_take]; omega
      omega
    have HEL : Hid ((enc (vs.length : Int)).length ≤ 6) := enc_length _ (by omega) (by omega)
    have HSP : Hid (∀ b, S b → prot b) := hS
    clear hl e0 hS
    go_enter Tryz.func110, Tryz.ntmps110
    go_wp2_with fail
    refine (number_w p l bad prot (vs.length : Int) w (by omega) h).mono ?_
    rintro e w1 ⟨rfl, hW1, hK1⟩
    rw [e1.out] at hW1
    simp only [Bool.or_false] at hW1
    go_wp2
    go_loopw [20] (fun i wr => ∃ k : Nat, k ≤ vs.length ∧ i = .int .i64 k ∧ WR wr p (l ++ enc (vs.length : Int) ++ (vs.take k).flatMap fun v => (en F_deploy v).1) (bad || (vs.take k).any fun v => (en F_deploy v).2) prot ∧ Kp w wr prot) (fun i _ => vs.length - (intOf i).toNat)
    case atStart => exact ⟨0, Nat.zero_le _, rfl, by simpa using hW1, hK1⟩
    case round =>
      obtain ⟨k, hk, rfl, hWk, hKk⟩ := hrel
      by_cases hlt : k < vs.length
      · obtain ⟨b, off, rfl, hSb, hes⟩ := hr.2 (by intro e; rw [e] at hlt; simp at hlt)
        obtain ⟨es, hrep0, hrg0⟩ := hes k hlt
        have hrep := hrep0.kept (S' := S) hKk.size (fun b hb => hKk.block b (HSP.out b hb)) (fun _ x => x)
        have hrg : wr.rangeAt b (off + k * wd F_deploy) es := rangeAt_kept hrg0 (hKk.block b (HSP.out b hSb))
        clear hrep0 hrg0
        have HLK : Hid ((l ++ enc (vs.length : Int) ++ (vs.take k).flatMap fun v => (en F_deploy v).1).length + 24 ≤ 137438953472) := by
          have h1 := HF.out k; have h2 := HEL.out; have h3 := hl2.out
          show _ ≤ _
          have h4 := flat_len (fun v => (en F_deploy v).1) 24 (fun v => len_deploy v) (vs.take k)
          have h5 : (vs.take k).length + 1 ≤ 64 := by rw [List.length_take]; omega
          simp only [List.length_append]
          omega
        have I0 : Hid ((Tryz.prog.info? 144).map (·.size) = some es.length) := by show _ = _; rw [hrep.len]; exact info_deploy
        have O0 : Hid (es.toArray.all (·.oneCell') = true) := hrep.all
        have HRG : Hid (wr.rangeAt b (off + k * wd F_deploy) es) := hrg
        have hsz : es.toArray.size = 4 := by rw [List.size_toArray]; exact hrep.len
        have HL0 : Hid ((#[.int .i64 0, .int .i64 0, .int .i64 0, .int .i64 0] : Array Value).size = es.toArray.size) := hsz.symm
        clear hsz
        have HRE : Hid (Rep wr S F_deploy es vs[k]) := hrep
        clear hrep hrg hes hr
        have I1 : Hid ((Tryz.prog.info? 144).map (·.size) = some es.toArray.size) := by show _ = _; rw [List.size_toArray]; exact I0.out
        go_wp2_with (first
          | refine wpList_load_mid rfl 144 (.tmp 22) rfl b (off + k * wd F_deploy) rfl es _ HRG.out Tryz.underlying144 rfl I0.out ?_
          | refine wpList_store_rowF rfl 144 (.tmp 7) (.tmp 23) rfl wr.heap.size es.toArray rfl rfl 144 #[.int .i64 0, .int .i64 0, .int .i64 0, .int .i64 0] (heap_alloc_new wr (.cells #[.int .i64 0, .int .i64 0, .int .i64 0, .int .i64 0] 144)) I1.out HL0.out O0.out ?next)
        case next =>
        intro w2 hw2
        have B2 : Below wr.heap.size wr w2 := by
          rw [hw2.out]
          exact ((Below.refl _ _).alloc (Nat.le_refl _) _).trans ⟨rfl, rfl, rfl, by simp [World.setRow], fun kk hkk => setRow_other _ _ _ _ (by omega)⟩
        have g2 : Hid (w2.heap[wr.heap.size]? = some (.cells es.toArray 144 (0, 0))) := by
          show _ = _
          rw [hw2.out]
          exact setRow_heap _ _ _ _ 144 _ (heap_alloc_new wr (.cells #[.int .i64 0, .int .i64 0, .int .i64 0, .int .i64 0] 144))
        have hWm := hWk.grow B2
        have hKm := hKk.trans (kp_below B2 prot hWk.2.1)
        have HRE2 : Hid (Rep w2 S F_deploy es vs[k]) := HRE.out.kept B2.size (fun b hb => B2.block b (hWk.2.1 b (HSP.out b hb))) (fun _ x => x)
        clear hw2 B2 HRE HRG hWk hKk
        go_wp2_with (refine wpList_load_row rfl 144 (.tmp 7) rfl wr.heap.size rfl 144 es.toArray (0, 0) _ g2.out Tryz.underlying144 rfl I1.out ?_)
        refine (deploy_w p _ _ prot S es vs[k] w2 HLK.out HSP.out HRE2.out hWm).mono ?_
        rintro e w3 ⟨rfl, hW3, hK3⟩
        have E1 : Hid ((vs.take (k + 1)).flatMap (fun v => (en F_deploy v).1) = (vs.take k).flatMap (fun v => (en F_deploy v).1) ++ (en F_deploy vs[k]).1) := by
          show _ = _
          rw [← List.take_append_getElem hlt, List.flatMap_append]; simp
        have E2 : Hid ((vs.take (k + 1)).any (fun v => (en F_deploy v).2) = ((vs.take k).any (fun v => (en F_deploy v).2) || (en F_deploy vs[k]).2)) := by
          show _ = _
          rw [← List.take_append_getElem hlt, List.any_append]; simp
        go_wp2
        refine ⟨⟨k + 1, by omega, by go_num, ?_, hKm.trans hK3⟩, by simp [intOf]; omega⟩
        rw [E1.out, E2.out, ← List.append_assoc, ← Bool.or_assoc]
        exact hW3
      · have hkN : k = vs.length := by omega
        subst hkN
        go_wp2
        go_end0
        rw [List.take_of_length_le (Nat.le_refl _), List.append_assoc] at hWk
        exact ⟨rfl, hWk, hKk⟩
  · have e0 : en (.lst F_deploy) vs = ([], true) := by show (if _ then _ else _) = _; rw [if_neg hbig]
    rw [e0]
    simp only [Bool.or_true, List.append_nil]
    have HB : Hid _ := h.bad
    obtain ⟨h1, h2, h3, v, h4, h5, h6, h7, h8, h9⟩ := h
    clear h1 h2 h9 h8 hr hl hl2 e0
    go_enter Tryz.func110, Tryz.ntmps110
    go_wp2
    (try simp only [Exit.inBlock, Exit.then]); refine bodyPost_ret (results_none rfl _ _ _) rfl ?_
    exact ⟨rfl, HB.out⟩


theorem info_seen : (Tryz.prog.info? 148).map (·.size) = some (wd F_seen) := by kernel_rfl

set_option maxHeartbeats 1000000 in
set_option maxRecDepth 100000 in
theorem listSeen_w (p : Nat) (l : List UInt8) (bad : Bool) (prot S : Nat → Prop) (a : Option Addr) (c : Nat) (vs : List (Vl F_seen)) (w : World) (hl : l.length + 272262 ≤ 137438953472) (hS : ∀ b, S b → prot b) (hr : RepL w S F_seen a vs) (h : WR w p l bad prot) :
    Calls Tryz.prog 112 #[.pointer (some ⟨p, 0, none⟩), .slice a vs.length c, .func (.func 113) #[.pointer (some ⟨p, 0, none⟩)] #[]] w fun e w' => e = .returned (.tuple #[]) ∧ WR w' p (l ++ (en (.lst F_seen) vs).1) (bad || (en (.lst F_seen) vs).2) prot ∧ Kp w w' prot := by
  have hl2 : Hid (l.length + 272262 ≤ 137438953472) := hl
  by_cases hbig : vs.length ≤ 64
  · have e0 : en (.lst F_seen) vs = (enc (vs.length : Int) ++ vs.flatMap fun v => (en F_seen v).1, vs.any fun v => (en F_seen v).2) := by show (if _ then _ else _) = _; rw [if_pos hbig]
    rw [e0]
    have e1 : Hid (enN (vs.length : Int) = (enc (vs.length : Int), false)) := by show _ = _; unfold enN; rw [if_pos (by omega)]
    have hl0 := hl2.out
    have HF : Hid (∀ k, ((vs.take k).flatMap fun v => (en F_seen v).1).length ≤ 272256) := by
      intro k
      have h1 := flat_len (fun v => (en F_seen v).1) 4254 (fun v => len_seen v) (vs.take k)
      have h2 : (vs.take k).length ≤ 64 := by rw [List.length_take]; omega
      omega
    have HEL : Hid ((enc (vs.length : Int)).length ≤ 6) := enc_length _ (by omega) (by omega)
    have HSP : Hid (∀ b, S b → prot b) := hS
    clear hl e0 hS
    go_enter Tryz.func112, Tryz.ntmps112
    go_wp2_with fail
    refine (number_w p l bad prot (vs.length : Int) w (by omega) h).mono ?_
    rintro e w1 ⟨rfl, hW1, hK1⟩
    rw [e1.out] at hW1
    simp only [Bool.or_false] at hW1
    go_wp2
    go_loopw [20] (fun i wr => ∃ k : Nat, k ≤ vs.length ∧ i = .int .i64 k ∧ WR wr p (l ++ enc (vs.length : Int) ++ (vs.take k).flatMap fun v => (en F_seen v).1) (bad || (vs.take k).any fun v => (en F_seen v).2) prot ∧ Kp w wr prot) (fun i _ => vs.length - (intOf i).toNat)
    case atStart => exact ⟨0, Nat.zero_le _, rfl, by simpa using hW1, hK1⟩
    case round =>
      obtain ⟨k, hk, rfl, hWk, hKk⟩ := hrel
      by_cases hlt : k < vs.length
      · obtain ⟨b, off, rfl, hSb, hes⟩ := hr.2 (by intro e; rw [e] at hlt; simp at hlt)
        obtain ⟨es, hrep0, hrg0⟩ := hes k hlt
        have hrep := hrep0.kept (S' := S) hKk.size (fun b hb => hKk.block b (HSP.out b hb)) (fun _ x => x)
        have hrg : wr.rangeAt b (off + k * wd F_seen) es := rangeAt_kept hrg0 (hKk.block b (HSP.out b hSb))
        clear hrep0 hrg0
        have HLK : Hid ((l ++ enc (vs.length : Int) ++ (vs.take k).flatMap fun v => (en F_seen v).1).length + 4254 ≤ 137438953472) := by
          have h1 := HF.out k; have h2 := HEL.out; have h3 := hl2.out
          show _ ≤ _
          have h4 := flat_len (fun v => (en F_seen v).1) 4254 (fun v => len_seen v) (vs.take k)
          have h5 : (vs.take k).length + 1 ≤ 64 := by rw [List.length_take]; omega
          simp only [List.length_append]
          omega
        have I0 : Hid ((Tryz.prog.info? 148).map (·.size) = some es.length) := by show _ = _; rw [hrep.len]; exact info_seen
        have O0 : Hid (es.toArray.all (·.oneCell') = true) := hrep.all
        have HRG : Hid (wr.rangeAt b (off + k * wd F_seen) es) := hrg
        have hsz : es.toArray.size = 5 := by rw [List.size_toArray]; exact hrep.len
        have HL0 : Hid ((#[.int .i64 0, .int .i64 0, .int .i64 0, .int .i64 0, .slice none 0 0] : Array Value).size = es.toArray.size) := hsz.symm
        clear hsz
        have HRE : Hid (Rep wr S F_seen es vs[k]) := hrep
        clear hrep hrg hes hr
        have I1 : Hid ((Tryz.prog.info? 148).map (·.size) = some es.toArray.size) := by show _ = _; rw [List.size_toArray]; exact I0.out
        go_wp2_with (first
          | refine wpList_load_mid rfl 148 (.tmp 22) rfl b (off + k * wd F_seen) rfl es _ HRG.out Tryz.underlying148 rfl I0.out ?_
          | refine wpList_store_rowF rfl 148 (.tmp 7) (.tmp 23) rfl wr.heap.size es.toArray rfl rfl 148 #[.int .i64 0, .int .i64 0, .int .i64 0, .int .i64 0, .slice none 0 0] (heap_alloc_new wr (.cells #[.int .i64 0, .int .i64 0, .int .i64 0, .int .i64 0, .slice none 0 0] 148)) I1.out HL0.out O0.out ?next)
        case next =>
        intro w2 hw2
        have B2 : Below wr.heap.size wr w2 := by
          rw [hw2.out]
          exact ((Below.refl _ _).alloc (Nat.le_refl _) _).trans ⟨rfl, rfl, rfl, by simp [World.setRow], fun kk hkk => setRow_other _ _ _ _ (by omega)⟩
        have g2 : Hid (w2.heap[wr.heap.size]? = some (.cells es.toArray 148 (0, 0))) := by
          show _ = _
          rw [hw2.out]
          exact setRow_heap _ _ _ _ 148 _ (heap_alloc_new wr (.cells #[.int .i64 0, .int .i64 0, .int .i64 0, .int .i64 0, .slice none 0 0] 148))
        have hWm := hWk.grow B2
        have hKm := hKk.trans (kp_below B2 prot hWk.2.1)
        have HRE2 : Hid (Rep w2 S F_seen es vs[k]) := HRE.out.kept B2.size (fun b hb => B2.block b (hWk.2.1 b (HSP.out b hb))) (fun _ x => x)
        clear hw2 B2 HRE HRG hWk hKk
        go_wp2_with (refine wpList_load_row rfl 148 (.tmp 7) rfl wr.heap.size rfl 148 es.toArray (0, 0) _ g2.out Tryz.underlying148 rfl I1.out ?_)
        refine (seen_w p _ _ prot S es vs[k] w2 HLK.out HSP.out HRE2.out hWm).mono ?_
        rintro e w3 ⟨rfl, hW3, hK3⟩
        have E1 : Hid ((vs.take (k + 1)).flatMap (fun v => (en F_seen v).1) = (vs.take k).flatMap (fun v => (en F_seen v).1) ++ (en F_seen vs[k]).1) := by
          show _ = _
          rw [← List.take_append_getElem hlt, List.flatMap_append]; simp
        have E2 : Hid ((vs.take (k + 1)).any (fun v => (en F_seen v).2) = ((vs.take k).any (fun v => (en F_seen v).2) || (en F_seen vs[k]).2)) := by
          show _ = _
          rw [← List.take_append_getElem hlt, List.any_append]; simp
        go_wp2
        refine ⟨⟨k + 1, by omega, by go_num, ?_, hKm.trans hK3⟩, by simp [intOf]; omega⟩
        rw [E1.out, E2.out, ← List.append_assoc, ← Bool.or_assoc]
        exact hW3
      · have hkN : k = vs.length := by omega
        subst hkN
        go_wp2
        go_end0
        rw [List.take_of_length_le (Nat.le_refl _), List.append_assoc] at hWk
        exact ⟨rfl, hWk, hKk⟩
  · have e0 : en (.lst F_seen) vs = ([], true) := by show (if _ then _ else _) = _; rw [if_neg hbig]
    rw [e0]
    simp only [Bool.or_true, List.append_nil]
    have HB : Hid _ := h.bad
    obtain ⟨h1, h2, h3, v, h4, h5, h6, h7, h8, h9⟩ := h
    clear h1 h2 h9 h8 hr hl hl2 e0
    go_enter Tryz.func112, Tryz.ntmps112
    go_wp2
    (try simp only [Exit.inBlock, Exit.then]); refine bodyPost_ret (results_none rfl _ _ _) rfl ?_
    exact ⟨rfl, HB.out⟩


set_option maxHeartbeats 1000000 in
set_option maxRecDepth 100000 in
theorem store_w (p : Nat) (l : List UInt8) (bad : Bool) (prot S : Nat → Prop) (cs : List Value) (v : Vl F_store) (w : World) (hl : l.length + 435510 ≤ 137438953472) (hS : ∀ b, S b → prot b) (hr : Rep w S F_store cs v) (h : WR w p l bad prot) :
    Calls Tryz.prog 49 #[.pointer (some ⟨p, 0, none⟩), .agg cs.toArray] w fun e w' => e = .returned (.tuple #[]) ∧ WR w' p (l ++ (en F_store v).1) (bad || (en F_store v).2) prot ∧ Kp w w' prot := by
  have hmf : ∀ (fn : Fn) (first cap : Array Value) (w : World), (Instr.makeFunc fn first cap).run Tryz.prog w = .ok (.func fn first cap) w := fun _ _ _ _ => rfl
  obtain ⟨x0, x1, a2, c2, v2, a3, c3, v3, a4, c4, v4, a5, c5, v5, a6, c6, v6, a7, c7, v7, a8, c8, v8, rfl, rfl, h2, h3, h4, h5, h6, h7, h8⟩ := open_store hr
  have hl2 : Hid (l.length + 435510 ≤ 137438953472) := hl
  have hW0 : WR (w.alloc (.cells [.int .i64 x0, .int .i64 x1, .slice a2 v2.length c2, .slice a3 v3.length c3, .slice a4 v4.length c4, .slice a5 v5.length c5, .slice a6 v6.length c6, .slice a7 v7.length c7, .slice a8 v8.length c8].toArray 70)) p l bad (fun b => prot b ∨ b = w.heap.size) := h.box _
  have hA0 := Kp.alloc w (.cells [.int .i64 x0, .int .i64 x1, .slice a2 v2.length c2, .slice a3 v3.length c3, .slice a4 v4.length c4, .slice a5 v5.length c5, .slice a6 v6.length c6, .slice a7 v7.length c7, .slice a8 v8.length c8].toArray 70) prot h.2.1
  have HP : Hid (∀ b, S b → prot b) := hS
  have HS : Hid (∀ b, S b → (fun b => prot b ∨ b = w.heap.size) b) := fun b hb => .inl (hS b hb)
  clear h hr hS hl
  go_enter Tryz.func49, Tryz.ntmps49
  go_wp2_with fail
  refine (number_w p l bad (fun b => prot b ∨ b = w.heap.size) x0 _ (by have := hl2.out; omega) hW0).mono ?_
  rintro e w1 ⟨rfl, hW1, hK1⟩
  have hA1 := hA0.trans (hK1.mono (fun _ x => .inl x))
  have hq1 : ∀ o, w1.cell? ⟨w.heap.size, o, none⟩ = (w.alloc (.cells [.int .i64 x0, .int .i64 x1, .slice a2 v2.length c2, .slice a3 v3.length c3, .slice a4 v4.length c4, .slice a5 v5.length c5, .slice a6 v6.length c6, .slice a7 v7.length c7, .slice a8 v8.length c8].toArray 70)).cell? ⟨w.heap.size, o, none⟩ := fun o => hK1.cell (a := ⟨w.heap.size, o, none⟩) (.inr rfl)
  clear hW0 hK1 hA0
  go_wp2_with fail
  refine (number_w p (l ++ (enN x0).1) (bad || (enN x0).2) (fun b => prot b ∨ b = w.heap.size) x1 _ (by have := hl2.out; have := enN_len x0; simp only [List.length_append]; omega) hW1).mono ?_
  rintro e w2 ⟨rfl, hW2, hK2⟩
  have hA2 := hA1.trans (hK2.mono (fun _ x => .inl x))
  have hq2 : ∀ o, w2.cell? ⟨w.heap.size, o, none⟩ = (w.alloc (.cells [.int .i64 x0, .int .i64 x1, .slice a2 v2.length c2, .slice a3 v3.length c3, .slice a4 v4.length c4, .slice a5 v5.length c5, .slice a6 v6.length c6, .slice a7 v7.length c7, .slice a8 v8.length c8].toArray 70)).cell? ⟨w.heap.size, o, none⟩ := fun o => (hK2.cell (a := ⟨w.heap.size, o, none⟩) (.inr rfl)).trans (hq1 o)
  clear hW1 hK2 hA1 hq1
  go_wp2_with fail
  refine (listJob_w p (l ++ (enN x0).1 ++ (enN x1).1) (bad || (enN x0).2 || (enN x1).2) (fun b => prot b ∨ b = w.heap.size) S a2 c2 v2 _ (by have := hl2.out; have := enN_len x0; have := enN_len x1; simp only [List.length_append]; omega) HS.out (h2.kept hA2.size (fun b hb => hA2.block b (HP.out b hb)) (fun _ x => x)) hW2).mono ?_
  rintro e w3 ⟨rfl, hW3, hK3⟩
  have hA3 := hA2.trans (hK3.mono (fun _ x => .inl x))
  have hq3 : ∀ o, w3.cell? ⟨w.heap.size, o, none⟩ = (w.alloc (.cells [.int .i64 x0, .int .i64 x1, .slice a2 v2.length c2, .slice a3 v3.length c3, .slice a4 v4.length c4, .slice a5 v5.length c5, .slice a6 v6.length c6, .slice a7 v7.length c7, .slice a8 v8.length c8].toArray 70)).cell? ⟨w.heap.size, o, none⟩ := fun o => (hK3.cell (a := ⟨w.heap.size, o, none⟩) (.inr rfl)).trans (hq2 o)
  clear hW2 hK3 hA2 hq2
  go_wp2_with fail
  refine (listJob_w p (l ++ (enN x0).1 ++ (enN x1).1 ++ (en (.lst F_job) v2).1) (bad || (enN x0).2 || (enN x1).2 || (en (.lst F_job) v2).2) (fun b => prot b ∨ b = w.heap.size) S a3 c3 v3 _ (by have := hl2.out; have := enN_len x0; have := enN_len x1; have := len_l_job v2; simp only [List.length_append]; omega) HS.out (h3.kept hA3.size (fun b hb => hA3.block b (HP.out b hb)) (fun _ x => x)) hW3).mono ?_
  rintro e w4 ⟨rfl, hW4, hK4⟩
  have hA4 := hA3.trans (hK4.mono (fun _ x => .inl x))
  have hq4 : ∀ o, w4.cell? ⟨w.heap.size, o, none⟩ = (w.alloc (.cells [.int .i64 x0, .int .i64 x1, .slice a2 v2.length c2, .slice a3 v3.length c3, .slice a4 v4.length c4, .slice a5 v5.length c5, .slice a6 v6.length c6, .slice a7 v7.length c7, .slice a8 v8.length c8].toArray 70)).cell? ⟨w.heap.size, o, none⟩ := fun o => (hK4.cell (a := ⟨w.heap.size, o, none⟩) (.inr rfl)).trans (hq3 o)
  clear hW3 hK4 hA3 hq3
  go_wp2_with fail
  refine (listNode_w p (l ++ (enN x0).1 ++ (enN x1).1 ++ (en (.lst F_job) v2).1 ++ (en (.lst F_job) v3).1) (bad || (enN x0).2 || (enN x1).2 || (en (.lst F_job) v2).2 || (en (.lst F_job) v3).2) (fun b => prot b ∨ b = w.heap.size) S a4 c4 v4 _ (by have := hl2.out; have := enN_len x0; have := enN_len x1; have := len_l_job v2; have := len_l_job v3; simp only [List.length_append]; omega) HS.out (h4.kept hA4.size (fun b hb => hA4.block b (HP.out b hb)) (fun _ x => x)) hW4).mono ?_
  rintro e w5 ⟨rfl, hW5, hK5⟩
  have hA5 := hA4.trans (hK5.mono (fun _ x => .inl x))
  have hq5 : ∀ o, w5.cell? ⟨w.heap.size, o, none⟩ = (w.alloc (.cells [.int .i64 x0, .int .i64 x1, .slice a2 v2.length c2, .slice a3 v3.length c3, .slice a4 v4.length c4, .slice a5 v5.length c5, .slice a6 v6.length c6, .slice a7 v7.length c7, .slice a8 v8.length c8].toArray 70)).cell? ⟨w.heap.size, o, none⟩ := fun o => (hK5.cell (a := ⟨w.heap.size, o, none⟩) (.inr rfl)).trans (hq4 o)
  clear hW4 hK5 hA4 hq4
  go_wp2_with fail
  refine (listAlloc_w p (l ++ (enN x0).1 ++ (enN x1).1 ++ (en (.lst F_job) v2).1 ++ (en (.lst F_job) v3).1 ++ (en (.lst F_node) v4).1) (bad || (enN x0).2 || (enN x1).2 || (en (.lst F_job) v2).2 || (en (.lst F_job) v3).2 || (en (.lst F_node) v4).2) (fun b => prot b ∨ b = w.heap.size) S a5 c5 v5 _ (by have := hl2.out; have := enN_len x0; have := enN_len x1; have := len_l_job v2; have := len_l_job v3; have := len_l_node v4; simp only [List.length_append]; omega) HS.out (h5.kept hA5.size (fun b hb => hA5.block b (HP.out b hb)) (fun _ x => x)) hW5).mono ?_
  rintro e w6 ⟨rfl, hW6, hK6⟩
  have hA6 := hA5.trans (hK6.mono (fun _ x => .inl x))
  have hq6 : ∀ o, w6.cell? ⟨w.heap.size, o, none⟩ = (w.alloc (.cells [.int .i64 x0, .int .i64 x1, .slice a2 v2.length c2, .slice a3 v3.length c3, .slice a4 v4.length c4, .slice a5 v5.length c5, .slice a6 v6.length c6, .slice a7 v7.length c7, .slice a8 v8.length c8].toArray 70)).cell? ⟨w.heap.size, o, none⟩ := fun o => (hK6.cell (a := ⟨w.heap.size, o, none⟩) (.inr rfl)).trans (hq5 o)
  clear hW5 hK6 hA5 hq5
  go_wp2_with fail
  refine (listEval_w p (l ++ (enN x0).1 ++ (enN x1).1 ++ (en (.lst F_job) v2).1 ++ (en (.lst F_job) v3).1 ++ (en (.lst F_node) v4).1 ++ (en (.lst F_alloc) v5).1) (bad || (enN x0).2 || (enN x1).2 || (en (.lst F_job) v2).2 || (en (.lst F_job) v3).2 || (en (.lst F_node) v4).2 || (en (.lst F_alloc) v5).2) (fun b => prot b ∨ b = w.heap.size) S a6 c6 v6 _ (by have := hl2.out; have := enN_len x0; have := enN_len x1; have := len_l_job v2; have := len_l_job v3; have := len_l_node v4; have := len_l_alloc v5; simp only [List.length_append]; omega) HS.out (h6.kept hA6.size (fun b hb => hA6.block b (HP.out b hb)) (fun _ x => x)) hW6).mono ?_
  rintro e w7 ⟨rfl, hW7, hK7⟩
  have hA7 := hA6.trans (hK7.mono (fun _ x => .inl x))
  have hq7 : ∀ o, w7.cell? ⟨w.heap.size, o, none⟩ = (w.alloc (.cells [.int .i64 x0, .int .i64 x1, .slice a2 v2.length c2, .slice a3 v3.length c3, .slice a4 v4.length c4, .slice a5 v5.length c5, .slice a6 v6.length c6, .slice a7 v7.length c7, .slice a8 v8.length c8].toArray 70)).cell? ⟨w.heap.size, o, none⟩ := fun o => (hK7.cell (a := ⟨w.heap.size, o, none⟩) (.inr rfl)).trans (hq6 o)
  clear hW6 hK7 hA6 hq6
  go_wp2_with fail
  refine (listDeploy_w p (l ++ (enN x0).1 ++ (enN x1).1 ++ (en (.lst F_job) v2).1 ++ (en (.lst F_job) v3).1 ++ (en (.lst F_node) v4).1 ++ (en (.lst F_alloc) v5).1 ++ (en (.lst F_eval) v6).1) (bad || (enN x0).2 || (enN x1).2 || (en (.lst F_job) v2).2 || (en (.lst F_job) v3).2 || (en (.lst F_node) v4).2 || (en (.lst F_alloc) v5).2 || (en (.lst F_eval) v6).2) (fun b => prot b ∨ b = w.heap.size) S a7 c7 v7 _ (by have := hl2.out; have := enN_len x0; have := enN_len x1; have := len_l_job v2; have := len_l_job v3; have := len_l_node v4; have := len_l_alloc v5; have := len_l_eval v6; simp only [List.length_append]; omega) HS.out (h7.kept hA7.size (fun b hb => hA7.block b (HP.out b hb)) (fun _ x => x)) hW7).mono ?_
  rintro e w8 ⟨rfl, hW8, hK8⟩
  have hA8 := hA7.trans (hK8.mono (fun _ x => .inl x))
  have hq8 : ∀ o, w8.cell? ⟨w.heap.size, o, none⟩ = (w.alloc (.cells [.int .i64 x0, .int .i64 x1, .slice a2 v2.length c2, .slice a3 v3.length c3, .slice a4 v4.length c4, .slice a5 v5.length c5, .slice a6 v6.length c6, .slice a7 v7.length c7, .slice a8 v8.length c8].toArray 70)).cell? ⟨w.heap.size, o, none⟩ := fun o => (hK8.cell (a := ⟨w.heap.size, o, none⟩) (.inr rfl)).trans (hq7 o)
  clear hW7 hK8 hA7 hq7
  go_wp2_with fail
  refine (listSeen_w p (l ++ (enN x0).1 ++ (enN x1).1 ++ (en (.lst F_job) v2).1 ++ (en (.lst F_job) v3).1 ++ (en (.lst F_node) v4).1 ++ (en (.lst F_alloc) v5).1 ++ (en (.lst F_eval) v6).1 ++ (en (.lst F_deploy) v7).1) (bad || (enN x0).2 || (enN x1).2 || (en (.lst F_job) v2).2 || (en (.lst F_job) v3).2 || (en (.lst F_node) v4).2 || (en (.lst F_alloc) v5).2 || (en (.lst F_eval) v6).2 || (en (.lst F_deploy) v7).2) (fun b => prot b ∨ b = w.heap.size) S a8 c8 v8 _ (by have := hl2.out; have := enN_len x0; have := enN_len x1; have := len_l_job v2; have := len_l_job v3; have := len_l_node v4; have := len_l_alloc v5; have := len_l_eval v6; have := len_l_deploy v7; simp only [List.length_append]; omega) HS.out (h8.kept hA8.size (fun b hb => hA8.block b (HP.out b hb)) (fun _ x => x)) hW8).mono ?_
  rintro e w9 ⟨rfl, hW9, hK9⟩
  have hA9 := hA8.trans (hK9.mono (fun _ x => .inl x))
  have hq9 : ∀ o, w9.cell? ⟨w.heap.size, o, none⟩ = (w.alloc (.cells [.int .i64 x0, .int .i64 x1, .slice a2 v2.length c2, .slice a3 v3.length c3, .slice a4 v4.length c4, .slice a5 v5.length c5, .slice a6 v6.length c6, .slice a7 v7.length c7, .slice a8 v8.length c8].toArray 70)).cell? ⟨w.heap.size, o, none⟩ := fun o => (hK9.cell (a := ⟨w.heap.size, o, none⟩) (.inr rfl)).trans (hq8 o)
  clear hW8 hK9 hA8 hq8
  go_wp2
  go_end0
  have e1 : l ++ (enN x0).1 ++ (enN x1).1 ++ (en (.lst F_job) v2).1 ++ (en (.lst F_job) v3).1 ++ (en (.lst F_node) v4).1 ++ (en (.lst F_alloc) v5).1 ++ (en (.lst F_eval) v6).1 ++ (en (.lst F_deploy) v7).1 ++ (en (.lst F_seen) v8).1 = l ++ (en F_store (x0, x1, v2, v3, v4, v5, v6, v7, v8)).1 := by rw [en_store]; simp only [List.append_assoc]
  have e2 : (bad || (enN x0).2 || (enN x1).2 || (en (.lst F_job) v2).2 || (en (.lst F_job) v3).2 || (en (.lst F_node) v4).2 || (en (.lst F_alloc) v5).2 || (en (.lst F_eval) v6).2 || (en (.lst F_deploy) v7).2 || (en (.lst F_seen) v8).2) = (bad || (en F_store (x0, x1, v2, v3, v4, v5, v6, v7, v8)).2) := by rw [en_store]; simp only [Bool.or_assoc]
  rw [e1, e2] at hW9
  exact ⟨rfl, hW9.mono (fun _ x => .inl x), hA9⟩

end Go.Proofs.YtpbokgeaolpiaabGreat
