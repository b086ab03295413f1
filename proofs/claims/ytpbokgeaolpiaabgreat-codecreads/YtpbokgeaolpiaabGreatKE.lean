/- Several texts in one (wip/gen/group.py). -/
import Derived.Test.YtpbokgeaolpiaabGreatVon
import Derived.Test.YtpbokgeaolpiaabGreatVrz
import Derived.Test.YtpbokgeaolpiaabGreatKD
import Derived.Test.YtpbokgeaolpiaabGreatVpo
/- What the document's writer does with bytes, whatever they are. Made by program (wip/gen/out.py). -/
namespace Go.Proofs.YtpbokgeaolpiaabGreat
open Go.RowKit

set_option maxHeartbeats 400000 in
theorem bytes_o (p : Nat) (l : List UInt8) (bad : Bool) (prot S : Nat → Prop) (a : Option Addr) (c : Nat) (v : List UInt8) (w : World) (hl : l.length + szb .byt v ≤ 137438953472) (hS : ∀ b, S b → prot b) (hr : RepB w S a v) (h : WR w p l bad prot) :
    Calls Tryz.prog 139 #[.pointer (some ⟨p, 0, none⟩), .slice a v.length c] w fun e w' => e = .returned (.tuple #[]) ∧ WR w' p (l ++ (enR .byt v).1) (bad || (enR .byt v).2) prot ∧ Kp w w' prot := by
  have hl2 : Hid (l.length + (6 + v.length) ≤ 137438953472) := hl
  have HSP : Hid (∀ b, S b → prot b) := hS
  have HNL : Hid ((enN (v.length : Int)).1.length ≤ 6) := enN_len _
  have hM := h.mark (bad || decide (65536 < (v.length : Int)))
  have HR1 : Hid (RepB (w.setCell ⟨p, 1, none⟩ (.bool (bad || decide (65536 < (v.length : Int))))) S a v) := hr.keep hM.2 hS
  have HM : Hid _ := hM
  obtain ⟨h1, h2, h3, v0, h4, h5, h6, h7, h8, h9⟩ := h
  clear h1 h2 h9 h8 hM hl hS hr
  cases bad with
  | true =>
    simp only [Bool.true_or] at HM HR1
    go_enter Tryz.func139, Tryz.ntmps139
    go_wp2_with fail
    refine (num_o p l true prot (v.length : Int) _ (by have := hl2.out; omega) HM.out.1).mono ?_
    rintro e w1 ⟨rfl, hW1, hK1⟩
    have HR : Hid (RepB w1 S a v) := HR1.out.keep hK1 HSP.out
    obtain ⟨q1, q2, q3, v1, q4, q5, q6, q7, q8, q9⟩ := hW1
    obtain ⟨a1, c1, hv, hbs⟩ := q8.form
    subst hv
    have H2 : Hid _ := q2
    have H9 : Hid _ := q9
    have H1 : Hid _ := q1
    clear q1 q2 q9 hbs
    have hlb : Hid ((l ++ (enN (v.length : Int)).1).length + v.length ≤ 211106232532992) := by
      show _ ≤ _
      have := HNL.out
      have := hl2.out
      rw [List.length_append]; omega
    obtain ⟨m, hm⟩ : ∃ m, Hid (m = l ++ (enN (v.length : Int)).1) := ⟨_, rfl⟩
    rw [← hm.out] at q4 q8 hlb
    go_wp2_with (at_builtin; refine wpList_append_b _ rfl (.tmp 24) (.tmp 25) rfl (.slice a1 m.length c1) m rfl q8 (.slice a v.length c) v rfl ?src ?len ?next)
    case src => exact HR.out.1.src Tryz.underlying22 c
    case len => exact hlb.out
    case next =>
      intro v' w2 o1 s1
      obtain ⟨hW2, hK2, k1, d1⟩ := WR.store0 H1.out H2.out q3 q5 q6 q7 (by rw [hm.out]; exact H9.out) q4 o1 s1
      obtain ⟨a', c', hv', _⟩ := o1.form
      subst hv'
      rw [List.length_append] at hW2 hK2
      have HW2 : Hid (WR _ _ _ _ _) := hW2
      clear hW2 o1 s1
      go_wp2
      go_end0
      refine ⟨rfl, ?_, HM.out.2.trans (hK1.trans hK2)⟩
      have e : l ++ ((enN (v.length : Int)).1 ++ v) = m ++ v := by rw [hm.out, List.append_assoc]
      show WR _ p (l ++ ((enN (v.length : Int)).1 ++ v)) (true || (decide (65536 < (v.length : Int)) || (enN (v.length : Int)).2)) prot
      rw [e]
      simpa using HW2.out

  | false =>
    simp only [Bool.false_or] at HM HR1
    go_enter Tryz.func139, Tryz.ntmps139
    go_wp2_with fail
    refine (num_o p l (decide (65536 < (v.length : Int))) prot (v.length : Int) _ (by have := hl2.out; omega) HM.out.1).mono ?_
    rintro e w1 ⟨rfl, hW1, hK1⟩
    have HR : Hid (RepB w1 S a v) := HR1.out.keep hK1 HSP.out
    obtain ⟨q1, q2, q3, v1, q4, q5, q6, q7, q8, q9⟩ := hW1
    obtain ⟨a1, c1, hv, hbs⟩ := q8.form
    subst hv
    have H2 : Hid _ := q2
    have H9 : Hid _ := q9
    have H1 : Hid _ := q1
    clear q1 q2 q9 hbs
    have hlb : Hid ((l ++ (enN (v.length : Int)).1).length + v.length ≤ 211106232532992) := by
      show _ ≤ _
      have := HNL.out
      have := hl2.out
      rw [List.length_append]; omega
    obtain ⟨m, hm⟩ : ∃ m, Hid (m = l ++ (enN (v.length : Int)).1) := ⟨_, rfl⟩
    rw [← hm.out] at q4 q8 hlb
    go_wp2_with (at_builtin; refine wpList_append_b _ rfl (.tmp 24) (.tmp 25) rfl (.slice a1 m.length c1) m rfl q8 (.slice a v.length c) v rfl ?src ?len ?next)
    case src => exact HR.out.1.src Tryz.underlying22 c
    case len => exact hlb.out
    case next =>
      intro v' w2 o1 s1
      obtain ⟨hW2, hK2, k1, d1⟩ := WR.store0 H1.out H2.out q3 q5 q6 q7 (by rw [hm.out]; exact H9.out) q4 o1 s1
      obtain ⟨a', c', hv', _⟩ := o1.form
      subst hv'
      rw [List.length_append] at hW2 hK2
      have HW2 : Hid (WR _ _ _ _ _) := hW2
      clear hW2 o1 s1
      go_wp2
      go_end0
      refine ⟨rfl, ?_, HM.out.2.trans (hK1.trans hK2)⟩
      have e : l ++ ((enN (v.length : Int)).1 ++ v) = m ++ v := by rw [hm.out, List.append_assoc]
      show WR _ p (l ++ ((enN (v.length : Int)).1 ++ v)) (false || (decide (65536 < (v.length : Int)) || (enN (v.length : Int)).2)) prot
      rw [e]
      simpa using HW2.out


end Go.Proofs.YtpbokgeaolpiaabGreat

/- What the document's writer does with a message, whatever it holds. Made by program (wip/gen/out.py). -/
namespace Go.Proofs.YtpbokgeaolpiaabGreat
open Go.RowKit

theorem WR.boxN {w : World} {p : Nat} {l : List UInt8} {bad : Bool} {prot : Nat → Prop} (h : WR w p l bad prot) (o : Obj) (n : Nat) (hn : n = w.heap.size) : WR (w.alloc o) p l bad (fun b => prot b ∨ b = n) := by subst hn; exact h.box o
theorem range_newN (w : World) (cs : List Value) (e : TypeId) (n : Nat) (hn : n = w.heap.size) : (w.alloc (.cells cs.toArray e)).rangeAt n 0 cs := by subst hn; exact range_new w cs e


set_option maxHeartbeats 2000000 in
set_option maxRecDepth 100000 in
theorem msg_o (p : Nat) (l : List UInt8) (bad : Bool) (prot S : Nat → Prop) (cs : List Value) (v : Vl F_msg) (w : World) (hl : l.length + szb F_msg v ≤ 137438953472) (hS : ∀ b, S b → prot b) (hr : Rep w S F_msg cs v) (h : WR w p l bad prot) :
    Calls Tryz.prog 85 #[.pointer (some ⟨p, 0, none⟩), .agg cs.toArray] w fun e w' => e = .returned (.tuple #[]) ∧ WR w' p (l ++ (enR F_msg v).1) (bad || (enR F_msg v).2) prot ∧ Kp w w' prot := by
  obtain ⟨x0, x1, x2, x3, x4, x5, x6, x7, x8, x9, x10, x11, a12, c12, v12, y13_0, y13_1, v13, a14, c14, v14, y15_0, y15_1, y15_2, y15_3, y15_4, y15_5, y15_6, y15_7, y15_8, y15_9, y15_10, y15_11, y15_12, y15_13, y15_14, y15_15, y15_16, y15_17, y15_18, y15_19, y15_20, y15_21, y15_22, y15_23, y15_24, y15_25, y15_26, v15, y16_0, y16_1, y16_2, v16, rfl, rfl, h12, h13, h14, h15, h16⟩ := open_msg hr
  rw [szb_msg] at hl
  have hl2 : Hid (l.length + (6 + (6 + (6 + (6 + (6 + (6 + (6 + (6 + (6 + (6 + (6 + (6 + (szb (.lst F_entry) v12 + (szb F_conf v13 + (szb .byt v14 + (szb F_cmd v15 + (szb F_result v16))))))))))))))))) ≤ 137438953472) := hl
  have hW0 : WR (w.alloc (.cells [.int .i64 x0, .int .i64 x1, .int .i64 x2, .int .i64 x3, .int .i64 x4, .int .i64 x5, .int .i64 x6, .bool x7, .int .i64 x8, .int .i64 x9, .int .i64 x10, .int .i64 x11, .slice a12 v12.length c12, y13_0, y13_1, .slice a14 v14.length c14, y15_0, y15_1, y15_2, y15_3, y15_4, y15_5, y15_6, y15_7, y15_8, y15_9, y15_10, y15_11, y15_12, y15_13, y15_14, y15_15, y15_16, y15_17, y15_18, y15_19, y15_20, y15_21, y15_22, y15_23, y15_24, y15_25, y15_26, y16_0, y16_1, y16_2].toArray 55)) p l bad (fun b => prot b ∨ b = w.heap.size) := h.box _
  have hA0 := Kp.alloc w (.cells [.int .i64 x0, .int .i64 x1, .int .i64 x2, .int .i64 x3, .int .i64 x4, .int .i64 x5, .int .i64 x6, .bool x7, .int .i64 x8, .int .i64 x9, .int .i64 x10, .int .i64 x11, .slice a12 v12.length c12, y13_0, y13_1, .slice a14 v14.length c14, y15_0, y15_1, y15_2, y15_3, y15_4, y15_5, y15_6, y15_7, y15_8, y15_9, y15_10, y15_11, y15_12, y15_13, y15_14, y15_15, y15_16, y15_17, y15_18, y15_19, y15_20, y15_21, y15_22, y15_23, y15_24, y15_25, y15_26, y16_0, y16_1, y16_2].toArray 55) prot h.2.1
  have hq0 : ∀ o, (w.alloc (.cells [.int .i64 x0, .int .i64 x1, .int .i64 x2, .int .i64 x3, .int .i64 x4, .int .i64 x5, .int .i64 x6, .bool x7, .int .i64 x8, .int .i64 x9, .int .i64 x10, .int .i64 x11, .slice a12 v12.length c12, y13_0, y13_1, .slice a14 v14.length c14, y15_0, y15_1, y15_2, y15_3, y15_4, y15_5, y15_6, y15_7, y15_8, y15_9, y15_10, y15_11, y15_12, y15_13, y15_14, y15_15, y15_16, y15_17, y15_18, y15_19, y15_20, y15_21, y15_22, y15_23, y15_24, y15_25, y15_26, y16_0, y16_1, y16_2].toArray 55)).cell? ⟨w.heap.size, o, none⟩ = (w.alloc (.cells [.int .i64 x0, .int .i64 x1, .int .i64 x2, .int .i64 x3, .int .i64 x4, .int .i64 x5, .int .i64 x6, .bool x7, .int .i64 x8, .int .i64 x9, .int .i64 x10, .int .i64 x11, .slice a12 v12.length c12, y13_0, y13_1, .slice a14 v14.length c14, y15_0, y15_1, y15_2, y15_3, y15_4, y15_5, y15_6, y15_7, y15_8, y15_9, y15_10, y15_11, y15_12, y15_13, y15_14, y15_15, y15_16, y15_17, y15_18, y15_19, y15_20, y15_21, y15_22, y15_23, y15_24, y15_25, y15_26, y16_0, y16_1, y16_2].toArray 55)).cell? ⟨w.heap.size, o, none⟩ := fun _ => rfl
  have HP : Hid (∀ b, S b → prot b) := hS
  have HS : Hid (∀ b, S b → (fun b => prot b ∨ b = w.heap.size) b) := fun b hb => .inl (hS b hb)
  clear h hr hS hl hq0
  go_enter Tryz.func85, Tryz.ntmps85
  have hR : Hid (((w.alloc (.cells [.int .i64 x0, .int .i64 x1, .int .i64 x2, .int .i64 x3, .int .i64 x4, .int .i64 x5, .int .i64 x6, .bool x7, .int .i64 x8, .int .i64 x9, .int .i64 x10, .int .i64 x11, .slice a12 v12.length c12, y13_0, y13_1, .slice a14 v14.length c14, y15_0, y15_1, y15_2, y15_3, y15_4, y15_5, y15_6, y15_7, y15_8, y15_9, y15_10, y15_11, y15_12, y15_13, y15_14, y15_15, y15_16, y15_17, y15_18, y15_19, y15_20, y15_21, y15_22, y15_23, y15_24, y15_25, y15_26, y16_0, y16_1, y16_2].toArray 55)).alloc (.cells [.int .i64 x0, .int .i64 x1, .int .i64 x2, .int .i64 x3, .int .i64 x4, .int .i64 x5, .int .i64 x6].toArray 3)).rangeAt (w.heap.size + 1) 0 [.int .i64 x0, .int .i64 x1, .int .i64 x2, .int .i64 x3, .int .i64 x4, .int .i64 x5, .int .i64 x6]) := range_newN (w.alloc (.cells [.int .i64 x0, .int .i64 x1, .int .i64 x2, .int .i64 x3, .int .i64 x4, .int .i64 x5, .int .i64 x6, .bool x7, .int .i64 x8, .int .i64 x9, .int .i64 x10, .int .i64 x11, .slice a12 v12.length c12, y13_0, y13_1, .slice a14 v14.length c14, y15_0, y15_1, y15_2, y15_3, y15_4, y15_5, y15_6, y15_7, y15_8, y15_9, y15_10, y15_11, y15_12, y15_13, y15_14, y15_15, y15_16, y15_17, y15_18, y15_19, y15_20, y15_21, y15_22, y15_23, y15_24, y15_25, y15_26, y16_0, y16_1, y16_2].toArray 55)) [.int .i64 x0, .int .i64 x1, .int .i64 x2, .int .i64 x3, .int .i64 x4, .int .i64 x5, .int .i64 x6] 3 (w.heap.size + 1) (by rw [World.size_alloc])
  have hWb : Hid (WR ((w.alloc (.cells [.int .i64 x0, .int .i64 x1, .int .i64 x2, .int .i64 x3, .int .i64 x4, .int .i64 x5, .int .i64 x6, .bool x7, .int .i64 x8, .int .i64 x9, .int .i64 x10, .int .i64 x11, .slice a12 v12.length c12, y13_0, y13_1, .slice a14 v14.length c14, y15_0, y15_1, y15_2, y15_3, y15_4, y15_5, y15_6, y15_7, y15_8, y15_9, y15_10, y15_11, y15_12, y15_13, y15_14, y15_15, y15_16, y15_17, y15_18, y15_19, y15_20, y15_21, y15_22, y15_23, y15_24, y15_25, y15_26, y16_0, y16_1, y16_2].toArray 55)).alloc (.cells [.int .i64 x0, .int .i64 x1, .int .i64 x2, .int .i64 x3, .int .i64 x4, .int .i64 x5, .int .i64 x6].toArray 3)) p l bad (fun b => (fun b => prot b ∨ b = w.heap.size) b ∨ b = (w.heap.size + 1))) := by
    have h := hW0.boxN (.cells ([.int .i64 x0, .int .i64 x1, .int .i64 x2, .int .i64 x3, .int .i64 x4, .int .i64 x5, .int .i64 x6] : List Value).toArray 3) (w.heap.size + 1) (by rw [World.size_alloc])
    exact h
  have hKb : Hid (Kp (w.alloc (.cells [.int .i64 x0, .int .i64 x1, .int .i64 x2, .int .i64 x3, .int .i64 x4, .int .i64 x5, .int .i64 x6, .bool x7, .int .i64 x8, .int .i64 x9, .int .i64 x10, .int .i64 x11, .slice a12 v12.length c12, y13_0, y13_1, .slice a14 v14.length c14, y15_0, y15_1, y15_2, y15_3, y15_4, y15_5, y15_6, y15_7, y15_8, y15_9, y15_10, y15_11, y15_12, y15_13, y15_14, y15_15, y15_16, y15_17, y15_18, y15_19, y15_20, y15_21, y15_22, y15_23, y15_24, y15_25, y15_26, y16_0, y16_1, y16_2].toArray 55)) ((w.alloc (.cells [.int .i64 x0, .int .i64 x1, .int .i64 x2, .int .i64 x3, .int .i64 x4, .int .i64 x5, .int .i64 x6, .bool x7, .int .i64 x8, .int .i64 x9, .int .i64 x10, .int .i64 x11, .slice a12 v12.length c12, y13_0, y13_1, .slice a14 v14.length c14, y15_0, y15_1, y15_2, y15_3, y15_4, y15_5, y15_6, y15_7, y15_8, y15_9, y15_10, y15_11, y15_12, y15_13, y15_14, y15_15, y15_16, y15_17, y15_18, y15_19, y15_20, y15_21, y15_22, y15_23, y15_24, y15_25, y15_26, y16_0, y16_1, y16_2].toArray 55)).alloc (.cells [.int .i64 x0, .int .i64 x1, .int .i64 x2, .int .i64 x3, .int .i64 x4, .int .i64 x5, .int .i64 x6].toArray 3)) (fun b => prot b ∨ b = w.heap.size)) := Kp.alloc _ _ (fun b => prot b ∨ b = w.heap.size) hW0.2.1
  have hLb : Hid (l.length + 6 * [x0, x1, x2, x3, x4, x5, x6].length ≤ 137438953472) := by
    have h2 := hl2.out
    show _ ≤ _
    simp only [List.length_cons, List.length_nil]; omega
  go_wp2_with fail
  refine (Nums16_o p l bad (fun b => (fun b => prot b ∨ b = w.heap.size) b ∨ b = (w.heap.size + 1)) [x0, x1, x2, x3, x4, x5, x6] (w.heap.size + 1) 0 7 ((w.alloc (.cells [.int .i64 x0, .int .i64 x1, .int .i64 x2, .int .i64 x3, .int .i64 x4, .int .i64 x5, .int .i64 x6, .bool x7, .int .i64 x8, .int .i64 x9, .int .i64 x10, .int .i64 x11, .slice a12 v12.length c12, y13_0, y13_1, .slice a14 v14.length c14, y15_0, y15_1, y15_2, y15_3, y15_4, y15_5, y15_6, y15_7, y15_8, y15_9, y15_10, y15_11, y15_12, y15_13, y15_14, y15_15, y15_16, y15_17, y15_18, y15_19, y15_20, y15_21, y15_22, y15_23, y15_24, y15_25, y15_26, y16_0, y16_1, y16_2].toArray 55)).alloc (.cells [.int .i64 x0, .int .i64 x1, .int .i64 x2, .int .i64 x3, .int .i64 x4, .int .i64 x5, .int .i64 x6].toArray 3)) hLb.out (.inr rfl) hR.out hWb.out).mono ?_
  rintro e w1 ⟨rfl, hW1, hK1⟩
  simp only [List.flatMap_cons, List.flatMap_nil, List.append_nil, List.any_cons, List.any_nil, Bool.or_false, ← List.append_assoc, ← Bool.or_assoc] at hW1
  replace hW1 := hW1.mono (fun _ x => Or.inl x)
  have hK1' : Kp (w.alloc (.cells [.int .i64 x0, .int .i64 x1, .int .i64 x2, .int .i64 x3, .int .i64 x4, .int .i64 x5, .int .i64 x6, .bool x7, .int .i64 x8, .int .i64 x9, .int .i64 x10, .int .i64 x11, .slice a12 v12.length c12, y13_0, y13_1, .slice a14 v14.length c14, y15_0, y15_1, y15_2, y15_3, y15_4, y15_5, y15_6, y15_7, y15_8, y15_9, y15_10, y15_11, y15_12, y15_13, y15_14, y15_15, y15_16, y15_17, y15_18, y15_19, y15_20, y15_21, y15_22, y15_23, y15_24, y15_25, y15_26, y16_0, y16_1, y16_2].toArray 55)) w1 (fun b => prot b ∨ b = w.heap.size) := hKb.out.trans (hK1.mono (fun _ x => Or.inl x))
  clear hK1 hR hWb hKb hLb
  have hK1 := hK1'
  clear hK1'
  have hA1 := hA0.trans (hK1.mono (fun _ x => .inl x))
  have hq1 : ∀ o, w1.cell? ⟨w.heap.size, o, none⟩ = (w.alloc (.cells [.int .i64 x0, .int .i64 x1, .int .i64 x2, .int .i64 x3, .int .i64 x4, .int .i64 x5, .int .i64 x6, .bool x7, .int .i64 x8, .int .i64 x9, .int .i64 x10, .int .i64 x11, .slice a12 v12.length c12, y13_0, y13_1, .slice a14 v14.length c14, y15_0, y15_1, y15_2, y15_3, y15_4, y15_5, y15_6, y15_7, y15_8, y15_9, y15_10, y15_11, y15_12, y15_13, y15_14, y15_15, y15_16, y15_17, y15_18, y15_19, y15_20, y15_21, y15_22, y15_23, y15_24, y15_25, y15_26, y16_0, y16_1, y16_2].toArray 55)).cell? ⟨w.heap.size, o, none⟩ := fun o => hK1.cell (a := ⟨w.heap.size, o, none⟩) (.inr rfl)
  clear hW0 hK1 hA0
  go_wp2_with fail
  refine (flag_o p (l ++ (enN x0).1 ++ (enN x1).1 ++ (enN x2).1 ++ (enN x3).1 ++ (enN x4).1 ++ (enN x5).1 ++ (enN x6).1) (bad || (enN x0).2 || (enN x1).2 || (enN x2).2 || (enN x3).2 || (enN x4).2 || (enN x5).2 || (enN x6).2) (fun b => prot b ∨ b = w.heap.size) x7 _ (by have := hl2.out; have := enN_len x0; have := enN_len x1; have := enN_len x2; have := enN_len x3; have := enN_len x4; have := enN_len x5; have := enN_len x6; simp only [List.length_append]; omega) hW1).mono ?_
  rintro e w2 ⟨rfl, hW2, hK2⟩
  have hA2 := hA1.trans (hK2.mono (fun _ x => .inl x))
  have hq2 : ∀ o, w2.cell? ⟨w.heap.size, o, none⟩ = (w.alloc (.cells [.int .i64 x0, .int .i64 x1, .int .i64 x2, .int .i64 x3, .int .i64 x4, .int .i64 x5, .int .i64 x6, .bool x7, .int .i64 x8, .int .i64 x9, .int .i64 x10, .int .i64 x11, .slice a12 v12.length c12, y13_0, y13_1, .slice a14 v14.length c14, y15_0, y15_1, y15_2, y15_3, y15_4, y15_5, y15_6, y15_7, y15_8, y15_9, y15_10, y15_11, y15_12, y15_13, y15_14, y15_15, y15_16, y15_17, y15_18, y15_19, y15_20, y15_21, y15_22, y15_23, y15_24, y15_25, y15_26, y16_0, y16_1, y16_2].toArray 55)).cell? ⟨w.heap.size, o, none⟩ := fun o => (hK2.cell (a := ⟨w.heap.size, o, none⟩) (.inr rfl)).trans (hq1 o)
  clear hW1 hK2 hA1 hq1
  have hR : Hid ((w2.alloc (.cells [.int .i64 x8, .int .i64 x9, .int .i64 x10, .int .i64 x11].toArray 3)).rangeAt w2.heap.size 0 [.int .i64 x8, .int .i64 x9, .int .i64 x10, .int .i64 x11]) := range_newN w2 [.int .i64 x8, .int .i64 x9, .int .i64 x10, .int .i64 x11] 3 w2.heap.size rfl
  have hWb : Hid (WR (w2.alloc (.cells [.int .i64 x8, .int .i64 x9, .int .i64 x10, .int .i64 x11].toArray 3)) p (l ++ (enN x0).1 ++ (enN x1).1 ++ (enN x2).1 ++ (enN x3).1 ++ (enN x4).1 ++ (enN x5).1 ++ (enN x6).1 ++ (enR .tru x7).1) (bad || (enN x0).2 || (enN x1).2 || (enN x2).2 || (enN x3).2 || (enN x4).2 || (enN x5).2 || (enN x6).2 || (enR .tru x7).2) (fun b => (fun b => prot b ∨ b = w.heap.size) b ∨ b = w2.heap.size)) := by
    have h := hW2.boxN (.cells ([.int .i64 x8, .int .i64 x9, .int .i64 x10, .int .i64 x11] : List Value).toArray 3) w2.heap.size rfl
    exact h
  have hKb : Hid (Kp w2 (w2.alloc (.cells [.int .i64 x8, .int .i64 x9, .int .i64 x10, .int .i64 x11].toArray 3)) (fun b => prot b ∨ b = w.heap.size)) := Kp.alloc _ _ (fun b => prot b ∨ b = w.heap.size) hW2.2.1
  have hLb : Hid ((l ++ (enN x0).1 ++ (enN x1).1 ++ (enN x2).1 ++ (enN x3).1 ++ (enN x4).1 ++ (enN x5).1 ++ (enN x6).1 ++ (enR .tru x7).1).length + 6 * [x8, x9, x10, x11].length ≤ 137438953472) := by
    have h2 := hl2.out
    have := enN_len x0; have := enN_len x1; have := enN_len x2; have := enN_len x3; have := enN_len x4; have := enN_len x5; have := enN_len x6; have := enR_len .tru x7; have : szb .tru x7 = 6 := rfl; show _ ≤ _
    simp only [List.length_append, List.length_cons, List.length_nil]; omega
  go_wp2_with fail
  refine (Nums16_o p (l ++ (enN x0).1 ++ (enN x1).1 ++ (enN x2).1 ++ (enN x3).1 ++ (enN x4).1 ++ (enN x5).1 ++ (enN x6).1 ++ (enR .tru x7).1) (bad || (enN x0).2 || (enN x1).2 || (enN x2).2 || (enN x3).2 || (enN x4).2 || (enN x5).2 || (enN x6).2 || (enR .tru x7).2) (fun b => (fun b => prot b ∨ b = w.heap.size) b ∨ b = w2.heap.size) [x8, x9, x10, x11] w2.heap.size 0 4 (w2.alloc (.cells [.int .i64 x8, .int .i64 x9, .int .i64 x10, .int .i64 x11].toArray 3)) hLb.out (.inr rfl) hR.out hWb.out).mono ?_
  rintro e w3 ⟨rfl, hW3, hK3⟩
  simp only [List.flatMap_cons, List.flatMap_nil, List.append_nil, List.any_cons, List.any_nil, Bool.or_false, ← List.append_assoc, ← Bool.or_assoc] at hW3
  replace hW3 := hW3.mono (fun _ x => Or.inl x)
  have hK3' : Kp w2 w3 (fun b => prot b ∨ b = w.heap.size) := hKb.out.trans (hK3.mono (fun _ x => Or.inl x))
  clear hK3 hR hWb hKb hLb
  have hK3 := hK3'
  clear hK3'
  have hA3 := hA2.trans (hK3.mono (fun _ x => .inl x))
  have hq3 : ∀ o, w3.cell? ⟨w.heap.size, o, none⟩ = (w.alloc (.cells [.int .i64 x0, .int .i64 x1, .int .i64 x2, .int .i64 x3, .int .i64 x4, .int .i64 x5, .int .i64 x6, .bool x7, .int .i64 x8, .int .i64 x9, .int .i64 x10, .int .i64 x11, .slice a12 v12.length c12, y13_0, y13_1, .slice a14 v14.length c14, y15_0, y15_1, y15_2, y15_3, y15_4, y15_5, y15_6, y15_7, y15_8, y15_9, y15_10, y15_11, y15_12, y15_13, y15_14, y15_15, y15_16, y15_17, y15_18, y15_19, y15_20, y15_21, y15_22, y15_23, y15_24, y15_25, y15_26, y16_0, y16_1, y16_2].toArray 55)).cell? ⟨w.heap.size, o, none⟩ := fun o => (hK3.cell (a := ⟨w.heap.size, o, none⟩) (.inr rfl)).trans (hq2 o)
  clear hW2 hK3 hA2 hq2
  go_wp2_with fail
  refine (count_o p (l ++ (enN x0).1 ++ (enN x1).1 ++ (enN x2).1 ++ (enN x3).1 ++ (enN x4).1 ++ (enN x5).1 ++ (enN x6).1 ++ (enR .tru x7).1 ++ (enN x8).1 ++ (enN x9).1 ++ (enN x10).1 ++ (enN x11).1) (bad || (enN x0).2 || (enN x1).2 || (enN x2).2 || (enN x3).2 || (enN x4).2 || (enN x5).2 || (enN x6).2 || (enR .tru x7).2 || (enN x8).2 || (enN x9).2 || (enN x10).2 || (enN x11).2) (fun b => prot b ∨ b = w.heap.size) (v12.length : Int) _ (by have hh := hl2.out; have := enN_len x0; have := enN_len x1; have := enN_len x2; have := enN_len x3; have := enN_len x4; have := enN_len x5; have := enN_len x6; have := enR_len .tru x7; have : szb .tru x7 = 6 := rfl; have := enN_len x8; have := enN_len x9; have := enN_len x10; have := enN_len x11; rw [szb_l F_entry v12] at hh; simp only [List.length_append]; omega) hW3).mono ?_
  rintro e w4 ⟨rfl, hW4, hK4⟩
  have hA4 := hA3.trans (hK4.mono (fun _ x => .inl x))
  have hq4 : ∀ o, w4.cell? ⟨w.heap.size, o, none⟩ = (w.alloc (.cells [.int .i64 x0, .int .i64 x1, .int .i64 x2, .int .i64 x3, .int .i64 x4, .int .i64 x5, .int .i64 x6, .bool x7, .int .i64 x8, .int .i64 x9, .int .i64 x10, .int .i64 x11, .slice a12 v12.length c12, y13_0, y13_1, .slice a14 v14.length c14, y15_0, y15_1, y15_2, y15_3, y15_4, y15_5, y15_6, y15_7, y15_8, y15_9, y15_10, y15_11, y15_12, y15_13, y15_14, y15_15, y15_16, y15_17, y15_18, y15_19, y15_20, y15_21, y15_22, y15_23, y15_24, y15_25, y15_26, y16_0, y16_1, y16_2].toArray 55)).cell? ⟨w.heap.size, o, none⟩ := fun o => (hK4.cell (a := ⟨w.heap.size, o, none⟩) (.inr rfl)).trans (hq3 o)
  clear hW3 hK4 hA3 hq3
  have hN12 := h12.1
  go_wp2
  go_loopw [4] (fun i wr => ∃ k : Nat, k ≤ v12.length ∧ i = .int .i64 k ∧ WR wr p ((l ++ (enN x0).1 ++ (enN x1).1 ++ (enN x2).1 ++ (enN x3).1 ++ (enN x4).1 ++ (enN x5).1 ++ (enN x6).1 ++ (enR .tru x7).1 ++ (enN x8).1 ++ (enN x9).1 ++ (enN x10).1 ++ (enN x11).1) ++ (enN (v12.length : Int)).1 ++ (v12.take k).flatMap fun v => (enR F_entry v).1) ((bad || (enN x0).2 || (enN x1).2 || (enN x2).2 || (enN x3).2 || (enN x4).2 || (enN x5).2 || (enN x6).2 || (enR .tru x7).2 || (enN x8).2 || (enN x9).2 || (enN x10).2 || (enN x11).2) || (decide (64 < (v12.length : Int)) || (enN (v12.length : Int)).2) || (v12.take k).any fun v => (enR F_entry v).2) (fun b => prot b ∨ b = w.heap.size) ∧ Kp w wr prot ∧ ∀ o, wr.cell? ⟨w.heap.size, o, none⟩ = (w.alloc (.cells [.int .i64 x0, .int .i64 x1, .int .i64 x2, .int .i64 x3, .int .i64 x4, .int .i64 x5, .int .i64 x6, .bool x7, .int .i64 x8, .int .i64 x9, .int .i64 x10, .int .i64 x11, .slice a12 v12.length c12, y13_0, y13_1, .slice a14 v14.length c14, y15_0, y15_1, y15_2, y15_3, y15_4, y15_5, y15_6, y15_7, y15_8, y15_9, y15_10, y15_11, y15_12, y15_13, y15_14, y15_15, y15_16, y15_17, y15_18, y15_19, y15_20, y15_21, y15_22, y15_23, y15_24, y15_25, y15_26, y16_0, y16_1, y16_2].toArray 55)).cell? ⟨w.heap.size, o, none⟩) (fun i _ => v12.length - (intOf i).toNat)
  case atStart => exact ⟨0, Nat.zero_le _, rfl, by simpa using hW4, hA4, hq4⟩
  case round =>
    clear hW4 hA4 hq4
    obtain ⟨k, hk, rfl, hWk, hKk, hqk⟩ := hrel
    by_cases hlt : k < v12.length
    · obtain ⟨b, off, rfl, hSb, hes⟩ := h12.2 (by intro e; rw [e] at hlt; simp at hlt)
      obtain ⟨es, hrep0, hrg0⟩ := hes k hlt
      have hrep := hrep0.kept (S' := S) hKk.size (fun b hb => hKk.block b (HP.out b hb)) (fun _ x => x)
      have hrg : World.rangeAt _ b (off + k * wd F_entry) es := rangeAt_kept hrg0 (hKk.block b (HP.out b hSb))
      have HLK : Hid (((l ++ (enN x0).1 ++ (enN x1).1 ++ (enN x2).1 ++ (enN x3).1 ++ (enN x4).1 ++ (enN x5).1 ++ (enN x6).1 ++ (enR .tru x7).1 ++ (enN x8).1 ++ (enN x9).1 ++ (enN x10).1 ++ (enN x11).1) ++ (enN (v12.length : Int)).1 ++ (v12.take k).flatMap fun v => (enR F_entry v).1).length + szb F_entry v12[k] ≤ 137438953472) := by
        have h3 := hl2.out
        have := enN_len x0; have := enN_len x1; have := enN_len x2; have := enN_len x3; have := enN_len x4; have := enN_len x5; have := enN_len x6; have := enR_len .tru x7; have : szb .tru x7 = 6 := rfl; have := enN_len x8; have := enN_len x9; have := enN_len x10; have := enN_len x11; have h4 := flat_sum (fun v => (enR F_entry v).1) (fun v => szb F_entry v) (fun v => enR_len F_entry v) (v12.take k)
        have h5 := sum_take (fun v => szb F_entry v) v12 k hlt
        have h6 := enN_len (v12.length : Int)
        show _ ≤ _
        rw [szb_l F_entry v12] at h3
        simp only [List.length_append]
        omega
      have HPB : Hid ((fun b => prot b ∨ b = w.heap.size) b) := .inl (HP.out b hSb)
      clear hrep0 hrg0 hes
      have I0 : Hid ((Tryz.prog.info? 47).map (·.size) = some es.length) := by show _ = _; rw [hrep.len]; kernel_rfl
      have HRG : Hid (World.rangeAt _ b (off + k * wd F_entry) es) := hrg
      have HRE : Hid (Rep _ S F_entry es v12[k]) := hrep
      clear hrep hrg
      go_wp2_with (refine wpList_load_mid rfl 47 (.tmp 53) rfl b (off + k * wd F_entry) rfl es _ HRG.out Tryz.underlying47 rfl I0.out ?_)
      refine (entry_o p _ _ (fun b => prot b ∨ b = w.heap.size) S es v12[k] _ HLK.out HS.out HRE.out hWk).mono ?_
      rintro e wx ⟨rfl, hWx, hKx⟩
      have hqx : ∀ o, wx.cell? ⟨w.heap.size, o, none⟩ = (w.alloc (.cells [.int .i64 x0, .int .i64 x1, .int .i64 x2, .int .i64 x3, .int .i64 x4, .int .i64 x5, .int .i64 x6, .bool x7, .int .i64 x8, .int .i64 x9, .int .i64 x10, .int .i64 x11, .slice (some ⟨b, off, none⟩) v12.length c12, y13_0, y13_1, .slice a14 v14.length c14, y15_0, y15_1, y15_2, y15_3, y15_4, y15_5, y15_6, y15_7, y15_8, y15_9, y15_10, y15_11, y15_12, y15_13, y15_14, y15_15, y15_16, y15_17, y15_18, y15_19, y15_20, y15_21, y15_22, y15_23, y15_24, y15_25, y15_26, y16_0, y16_1, y16_2].toArray 55)).cell? ⟨w.heap.size, o, none⟩ := fun o => (hKx.cell (a := ⟨w.heap.size, o, none⟩) (.inr rfl)).trans (hqk o)
      have hAx := hKk.trans (hKx.mono (fun _ x => .inl x))
      clear hKx hqk hKk hWk
      have E1 : Hid ((v12.take (k + 1)).flatMap (fun v => (enR F_entry v).1) = (v12.take k).flatMap (fun v => (enR F_entry v).1) ++ (enR F_entry v12[k]).1) := by
        show _ = _
        rw [← List.take_append_getElem hlt, List.flatMap_append]; simp
      have E2 : Hid ((v12.take (k + 1)).any (fun v => (enR F_entry v).2) = ((v12.take k).any (fun v => (enR F_entry v).2) || (enR F_entry v12[k]).2)) := by
        show _ = _
        rw [← List.take_append_getElem hlt, List.any_append]; simp
      have HWX : Hid (WR _ _ _ _ _) := hWx
      clear hWx
      go_wp2
      refine ⟨⟨k + 1, by omega, by go_num, ?_, hAx, hqx⟩, by simp [intOf]; omega⟩
      have hWx := HWX.out
      rw [E1.out, E2.out, ← List.append_assoc, ← Bool.or_assoc]
      exact hWx
    · have hkN : k = v12.length := by omega
      subst hkN
      rw [List.take_of_length_le (Nat.le_refl _), List.append_assoc, Bool.or_assoc] at hWk
      have hW4 : WR wr p (l ++ (enN x0).1 ++ (enN x1).1 ++ (enN x2).1 ++ (enN x3).1 ++ (enN x4).1 ++ (enN x5).1 ++ (enN x6).1 ++ (enR .tru x7).1 ++ (enN x8).1 ++ (enN x9).1 ++ (enN x10).1 ++ (enN x11).1 ++ (enR (.lst F_entry) v12).1) (bad || (enN x0).2 || (enN x1).2 || (enN x2).2 || (enN x3).2 || (enN x4).2 || (enN x5).2 || (enN x6).2 || (enR .tru x7).2 || (enN x8).2 || (enN x9).2 || (enN x10).2 || (enN x11).2 || (enR (.lst F_entry) v12).2) (fun b => prot b ∨ b = w.heap.size) := by rw [enR_l1, enR_l2]; exact hWk
      have hA4 := hKk
      have hq4 := hqk
      clear hWk hKk hqk hlt hk hN12
      go_wp2_with fail
      refine (conf_o p (l ++ (enN x0).1 ++ (enN x1).1 ++ (enN x2).1 ++ (enN x3).1 ++ (enN x4).1 ++ (enN x5).1 ++ (enN x6).1 ++ (enR .tru x7).1 ++ (enN x8).1 ++ (enN x9).1 ++ (enN x10).1 ++ (enN x11).1 ++ (enR (.lst F_entry) v12).1) (bad || (enN x0).2 || (enN x1).2 || (enN x2).2 || (enN x3).2 || (enN x4).2 || (enN x5).2 || (enN x6).2 || (enR .tru x7).2 || (enN x8).2 || (enN x9).2 || (enN x10).2 || (enN x11).2 || (enR (.lst F_entry) v12).2) (fun b => prot b ∨ b = w.heap.size) S [y13_0, y13_1] v13 _ (by have := hl2.out; have := enN_len x0; have := enN_len x1; have := enN_len x2; have := enN_len x3; have := enN_len x4; have := enN_len x5; have := enN_len x6; have := enR_len .tru x7; have : szb .tru x7 = 6 := rfl; have := enN_len x8; have := enN_len x9; have := enN_len x10; have := enN_len x11; have := enR_len (.lst F_entry) v12; simp only [List.length_append]; omega) HS.out (h13.kept hA4.size (fun b hb => hA4.block b (HP.out b hb)) (fun _ x => x)) hW4).mono ?_
      rintro e w5 ⟨rfl, hW5, hK5⟩
      have hA5 := hA4.trans (hK5.mono (fun _ x => .inl x))
      have hq5 : ∀ o, w5.cell? ⟨w.heap.size, o, none⟩ = (w.alloc (.cells [.int .i64 x0, .int .i64 x1, .int .i64 x2, .int .i64 x3, .int .i64 x4, .int .i64 x5, .int .i64 x6, .bool x7, .int .i64 x8, .int .i64 x9, .int .i64 x10, .int .i64 x11, .slice a12 v12.length c12, y13_0, y13_1, .slice a14 v14.length c14, y15_0, y15_1, y15_2, y15_3, y15_4, y15_5, y15_6, y15_7, y15_8, y15_9, y15_10, y15_11, y15_12, y15_13, y15_14, y15_15, y15_16, y15_17, y15_18, y15_19, y15_20, y15_21, y15_22, y15_23, y15_24, y15_25, y15_26, y16_0, y16_1, y16_2].toArray 55)).cell? ⟨w.heap.size, o, none⟩ := fun o => (hK5.cell (a := ⟨w.heap.size, o, none⟩) (.inr rfl)).trans (hq4 o)
      clear hW4 hK5 hA4 hq4
      go_wp2_with fail
      refine (bytes_o p (l ++ (enN x0).1 ++ (enN x1).1 ++ (enN x2).1 ++ (enN x3).1 ++ (enN x4).1 ++ (enN x5).1 ++ (enN x6).1 ++ (enR .tru x7).1 ++ (enN x8).1 ++ (enN x9).1 ++ (enN x10).1 ++ (enN x11).1 ++ (enR (.lst F_entry) v12).1 ++ (enR F_conf v13).1) (bad || (enN x0).2 || (enN x1).2 || (enN x2).2 || (enN x3).2 || (enN x4).2 || (enN x5).2 || (enN x6).2 || (enR .tru x7).2 || (enN x8).2 || (enN x9).2 || (enN x10).2 || (enN x11).2 || (enR (.lst F_entry) v12).2 || (enR F_conf v13).2) (fun b => prot b ∨ b = w.heap.size) S a14 c14 v14 _ (by have := hl2.out; have := enN_len x0; have := enN_len x1; have := enN_len x2; have := enN_len x3; have := enN_len x4; have := enN_len x5; have := enN_len x6; have := enR_len .tru x7; have : szb .tru x7 = 6 := rfl; have := enN_len x8; have := enN_len x9; have := enN_len x10; have := enN_len x11; have := enR_len (.lst F_entry) v12; have := enR_len F_conf v13; simp only [List.length_append]; omega) HS.out (h14.2.kept hA5.size (fun b hb => hA5.block b (HP.out b hb)) (fun _ x => x)) hW5).mono ?_
      rintro e w6 ⟨rfl, hW6, hK6⟩
      have hA6 := hA5.trans (hK6.mono (fun _ x => .inl x))
      have hq6 : ∀ o, w6.cell? ⟨w.heap.size, o, none⟩ = (w.alloc (.cells [.int .i64 x0, .int .i64 x1, .int .i64 x2, .int .i64 x3, .int .i64 x4, .int .i64 x5, .int .i64 x6, .bool x7, .int .i64 x8, .int .i64 x9, .int .i64 x10, .int .i64 x11, .slice a12 v12.length c12, y13_0, y13_1, .slice a14 v14.length c14, y15_0, y15_1, y15_2, y15_3, y15_4, y15_5, y15_6, y15_7, y15_8, y15_9, y15_10, y15_11, y15_12, y15_13, y15_14, y15_15, y15_16, y15_17, y15_18, y15_19, y15_20, y15_21, y15_22, y15_23, y15_24, y15_25, y15_26, y16_0, y16_1, y16_2].toArray 55)).cell? ⟨w.heap.size, o, none⟩ := fun o => (hK6.cell (a := ⟨w.heap.size, o, none⟩) (.inr rfl)).trans (hq5 o)
      clear hW5 hK6 hA5 hq5
      have hrg : Hid (World.rangeAt w6 w.heap.size 16 [y15_0, y15_1, y15_2, y15_3, y15_4, y15_5, y15_6, y15_7, y15_8, y15_9, y15_10, y15_11, y15_12, y15_13, y15_14, y15_15, y15_16, y15_17, y15_18, y15_19, y15_20, y15_21, y15_22, y15_23, y15_24, y15_25, y15_26]) := by
        intro jj u hu
        rw [hq6 (16 + jj), cell_of_row _ _ _ _ 55 (0, 0) (heap_alloc_new w _)]
        have : ([.int .i64 x0, .int .i64 x1, .int .i64 x2, .int .i64 x3, .int .i64 x4, .int .i64 x5, .int .i64 x6, .bool x7, .int .i64 x8, .int .i64 x9, .int .i64 x10, .int .i64 x11, .slice a12 v12.length c12, y13_0, y13_1, .slice a14 v14.length c14, y15_0, y15_1, y15_2, y15_3, y15_4, y15_5, y15_6, y15_7, y15_8, y15_9, y15_10, y15_11, y15_12, y15_13, y15_14, y15_15, y15_16, y15_17, y15_18, y15_19, y15_20, y15_21, y15_22, y15_23, y15_24, y15_25, y15_26, y16_0, y16_1, y16_2].drop 16)[jj]? = some u := by
          rw [show [.int .i64 x0, .int .i64 x1, .int .i64 x2, .int .i64 x3, .int .i64 x4, .int .i64 x5, .int .i64 x6, .bool x7, .int .i64 x8, .int .i64 x9, .int .i64 x10, .int .i64 x11, .slice a12 v12.length c12, y13_0, y13_1, .slice a14 v14.length c14, y15_0, y15_1, y15_2, y15_3, y15_4, y15_5, y15_6, y15_7, y15_8, y15_9, y15_10, y15_11, y15_12, y15_13, y15_14, y15_15, y15_16, y15_17, y15_18, y15_19, y15_20, y15_21, y15_22, y15_23, y15_24, y15_25, y15_26, y16_0, y16_1, y16_2].drop 16 = [y15_0, y15_1, y15_2, y15_3, y15_4, y15_5, y15_6, y15_7, y15_8, y15_9, y15_10, y15_11, y15_12, y15_13, y15_14, y15_15, y15_16, y15_17, y15_18, y15_19, y15_20, y15_21, y15_22, y15_23, y15_24, y15_25, y15_26] ++ [y16_0, y16_1, y16_2] from rfl, List.getElem?_append_left (List.getElem?_eq_some_iff.1 hu).1]
          exact hu
        rw [List.getElem?_drop] at this
        simpa using this
      have hI : Hid ((Tryz.prog.info? 38).map (·.size) = some [y15_0, y15_1, y15_2, y15_3, y15_4, y15_5, y15_6, y15_7, y15_8, y15_9, y15_10, y15_11, y15_12, y15_13, y15_14, y15_15, y15_16, y15_17, y15_18, y15_19, y15_20, y15_21, y15_22, y15_23, y15_24, y15_25, y15_26].length) := by show _ = _; kernel_rfl
      go_wp2_with (refine wpList_load_mid rfl 38 (.tmp 65) rfl w.heap.size 16 rfl [y15_0, y15_1, y15_2, y15_3, y15_4, y15_5, y15_6, y15_7, y15_8, y15_9, y15_10, y15_11, y15_12, y15_13, y15_14, y15_15, y15_16, y15_17, y15_18, y15_19, y15_20, y15_21, y15_22, y15_23, y15_24, y15_25, y15_26] _ hrg.out Tryz.underlying38 rfl hI.out ?_)
      refine (cmd_o p (l ++ (enN x0).1 ++ (enN x1).1 ++ (enN x2).1 ++ (enN x3).1 ++ (enN x4).1 ++ (enN x5).1 ++ (enN x6).1 ++ (enR .tru x7).1 ++ (enN x8).1 ++ (enN x9).1 ++ (enN x10).1 ++ (enN x11).1 ++ (enR (.lst F_entry) v12).1 ++ (enR F_conf v13).1 ++ (enR .byt v14).1) (bad || (enN x0).2 || (enN x1).2 || (enN x2).2 || (enN x3).2 || (enN x4).2 || (enN x5).2 || (enN x6).2 || (enR .tru x7).2 || (enN x8).2 || (enN x9).2 || (enN x10).2 || (enN x11).2 || (enR (.lst F_entry) v12).2 || (enR F_conf v13).2 || (enR .byt v14).2) (fun b => prot b ∨ b = w.heap.size) S [y15_0, y15_1, y15_2, y15_3, y15_4, y15_5, y15_6, y15_7, y15_8, y15_9, y15_10, y15_11, y15_12, y15_13, y15_14, y15_15, y15_16, y15_17, y15_18, y15_19, y15_20, y15_21, y15_22, y15_23, y15_24, y15_25, y15_26] v15 _ (by have := hl2.out; have := enN_len x0; have := enN_len x1; have := enN_len x2; have := enN_len x3; have := enN_len x4; have := enN_len x5; have := enN_len x6; have := enR_len .tru x7; have : szb .tru x7 = 6 := rfl; have := enN_len x8; have := enN_len x9; have := enN_len x10; have := enN_len x11; have := enR_len (.lst F_entry) v12; have := enR_len F_conf v13; have := enR_len .byt v14; simp only [List.length_append]; omega) HS.out (h15.kept hA6.size (fun b hb => hA6.block b (HP.out b hb)) (fun _ x => x)) hW6).mono ?_
      rintro e w7 ⟨rfl, hW7, hK7⟩
      have hA7 := hA6.trans (hK7.mono (fun _ x => .inl x))
      have hq7 : ∀ o, w7.cell? ⟨w.heap.size, o, none⟩ = (w.alloc (.cells [.int .i64 x0, .int .i64 x1, .int .i64 x2, .int .i64 x3, .int .i64 x4, .int .i64 x5, .int .i64 x6, .bool x7, .int .i64 x8, .int .i64 x9, .int .i64 x10, .int .i64 x11, .slice a12 v12.length c12, y13_0, y13_1, .slice a14 v14.length c14, y15_0, y15_1, y15_2, y15_3, y15_4, y15_5, y15_6, y15_7, y15_8, y15_9, y15_10, y15_11, y15_12, y15_13, y15_14, y15_15, y15_16, y15_17, y15_18, y15_19, y15_20, y15_21, y15_22, y15_23, y15_24, y15_25, y15_26, y16_0, y16_1, y16_2].toArray 55)).cell? ⟨w.heap.size, o, none⟩ := fun o => (hK7.cell (a := ⟨w.heap.size, o, none⟩) (.inr rfl)).trans (hq6 o)
      clear hW6 hK7 hA6 hq6
      go_wp2_with fail
      refine (result_o p (l ++ (enN x0).1 ++ (enN x1).1 ++ (enN x2).1 ++ (enN x3).1 ++ (enN x4).1 ++ (enN x5).1 ++ (enN x6).1 ++ (enR .tru x7).1 ++ (enN x8).1 ++ (enN x9).1 ++ (enN x10).1 ++ (enN x11).1 ++ (enR (.lst F_entry) v12).1 ++ (enR F_conf v13).1 ++ (enR .byt v14).1 ++ (enR F_cmd v15).1) (bad || (enN x0).2 || (enN x1).2 || (enN x2).2 || (enN x3).2 || (enN x4).2 || (enN x5).2 || (enN x6).2 || (enR .tru x7).2 || (enN x8).2 || (enN x9).2 || (enN x10).2 || (enN x11).2 || (enR (.lst F_entry) v12).2 || (enR F_conf v13).2 || (enR .byt v14).2 || (enR F_cmd v15).2) (fun b => prot b ∨ b = w.heap.size) S [y16_0, y16_1, y16_2] v16 _ (by have := hl2.out; have := enN_len x0; have := enN_len x1; have := enN_len x2; have := enN_len x3; have := enN_len x4; have := enN_len x5; have := enN_len x6; have := enR_len .tru x7; have : szb .tru x7 = 6 := rfl; have := enN_len x8; have := enN_len x9; have := enN_len x10; have := enN_len x11; have := enR_len (.lst F_entry) v12; have := enR_len F_conf v13; have := enR_len .byt v14; have := enR_len F_cmd v15; simp only [List.length_append]; omega) HS.out (h16.kept hA7.size (fun b hb => hA7.block b (HP.out b hb)) (fun _ x => x)) hW7).mono ?_
      rintro e w8 ⟨rfl, hW8, hK8⟩
      have hA8 := hA7.trans (hK8.mono (fun _ x => .inl x))
      have hq8 : ∀ o, w8.cell? ⟨w.heap.size, o, none⟩ = (w.alloc (.cells [.int .i64 x0, .int .i64 x1, .int .i64 x2, .int .i64 x3, .int .i64 x4, .int .i64 x5, .int .i64 x6, .bool x7, .int .i64 x8, .int .i64 x9, .int .i64 x10, .int .i64 x11, .slice a12 v12.length c12, y13_0, y13_1, .slice a14 v14.length c14, y15_0, y15_1, y15_2, y15_3, y15_4, y15_5, y15_6, y15_7, y15_8, y15_9, y15_10, y15_11, y15_12, y15_13, y15_14, y15_15, y15_16, y15_17, y15_18, y15_19, y15_20, y15_21, y15_22, y15_23, y15_24, y15_25, y15_26, y16_0, y16_1, y16_2].toArray 55)).cell? ⟨w.heap.size, o, none⟩ := fun o => (hK8.cell (a := ⟨w.heap.size, o, none⟩) (.inr rfl)).trans (hq7 o)
      clear hW7 hK8 hA7 hq7
      have HW : Hid (WR _ _ _ _ _) := hW8
      clear hW8
      go_wp2
      go_end0
      have hWf := HW.out
      have e1 : (l ++ (enN x0).1 ++ (enN x1).1 ++ (enN x2).1 ++ (enN x3).1 ++ (enN x4).1 ++ (enN x5).1 ++ (enN x6).1 ++ (enR .tru x7).1 ++ (enN x8).1 ++ (enN x9).1 ++ (enN x10).1 ++ (enN x11).1 ++ (enR (.lst F_entry) v12).1 ++ (enR F_conf v13).1 ++ (enR .byt v14).1 ++ (enR F_cmd v15).1 ++ (enR F_result v16).1) = l ++ (enR F_msg (x0, x1, x2, x3, x4, x5, x6, x7, x8, x9, x10, x11, v12, v13, v14, v15, v16)).1 := by rw [enR_msg]; simp only [List.append_assoc]
      have e2 : (bad || (enN x0).2 || (enN x1).2 || (enN x2).2 || (enN x3).2 || (enN x4).2 || (enN x5).2 || (enN x6).2 || (enR .tru x7).2 || (enN x8).2 || (enN x9).2 || (enN x10).2 || (enN x11).2 || (enR (.lst F_entry) v12).2 || (enR F_conf v13).2 || (enR .byt v14).2 || (enR F_cmd v15).2 || (enR F_result v16).2) = (bad || (enR F_msg (x0, x1, x2, x3, x4, x5, x6, x7, x8, x9, x10, x11, v12, v13, v14, v15, v16)).2) := by rw [enR_msg]; simp only [Bool.or_assoc]
      rw [e1, e2] at hWf
      exact ⟨rfl, hWf.mono (fun _ x => .inl x), hA8⟩

end Go.Proofs.YtpbokgeaolpiaabGreat

/- What the document's PutMsg returns, whatever it is handed. Made by program (wip/gen/put.py). -/
namespace Go.Proofs.YtpbokgeaolpiaabGreat
open Go.RowKit

theorem info_putMsgo : (Tryz.prog.info? 55).map (·.size) = some (wd F_msg) := by kernel_rfl
set_option maxHeartbeats 400000 in
set_option maxRecDepth 100000 in
theorem putMsg_o (cs : List Value) (v : Vl F_msg) (w : World) (hz : szb F_msg v ≤ 137438953472) (hr : Rep w (fun b => b < w.heap.size) F_msg cs v) :
    Calls Tryz.prog 38 #[.agg cs.toArray] w fun e w' => ∃ val, e = .returned (.tuple #[val, .int .i64 (codeB (en F_msg v).2)]) ∧ Own w' val (bytesB (en F_msg v)) ∧ (∀ b, val.ownBlock = some b → w.heap.size ≤ b) ∧ Below w.heap.size w w' := by
  have hsz : Hid ((Tryz.prog.info? 55).map (·.size) = some cs.toArray.size) := by show _ = _; rw [List.size_toArray, hr.len]; exact info_putMsgo
  have HG2 : Hid (((w.alloc (.cells cs.toArray 55)).alloc (.cells #[.slice none 0 0, .bool false] 113)).heap[w.heap.size]? = some (.cells cs.toArray 55 (0, 0))) := by
    show _ = _
    rw [Below.heap_alloc _ _ _ (by rw [World.size_alloc]; omega)]; exact heap_alloc_new w _
  have hB0 : Below w.heap.size w ((w.alloc (.cells cs.toArray 55)).alloc (.cells #[.slice none 0 0, .bool false] 113)) := ((Below.refl _ _).alloc (Nat.le_refl _) _).alloc (by rw [World.size_alloc]; omega) _
  have HR : Hid (Rep ((w.alloc (.cells cs.toArray 55)).alloc (.cells #[.slice none 0 0, .bool false] 113)) (fun b => b < w.heap.size) F_msg cs v) := hr.kept hB0.size (fun b hb => hB0.block b hb) (fun _ x => x)
  have HB0 : Hid _ := hB0
  clear hr hB0
  go_enter Tryz.func38, Tryz.ntmps38
  go_wp2_with (refine wpList_load_row rfl 55 (.tmp 1) rfl w.heap.size rfl 55 cs.toArray (0, 0) _ HG2.out Tryz.underlying55 rfl hsz.out ?_)
  refine (msg_o _ [] false (fun b => b < w.heap.size + 1) (fun b => b < w.heap.size) cs v _ (by rw [List.length_nil]; omega) (fun b hb => by omega) HR.out (wr_newo _ _ (by rw [World.size_alloc]))).mono ?_
  rintro e w1 ⟨rfl, hW, hK⟩
  have hB : Below w.heap.size w w1 := HB0.out.trans (hK.below.mono (by omega))
  rw [List.nil_append, Bool.false_or] at hW
  clear hK HG2
  go_wp2_with fail
  refine (told_o _ _ _ _ _ hW).mono ?_
  rintro e w2 ⟨val, rfl, hO, hN0, hw⟩
  subst hw
  have hN : ∀ b, val.ownBlock = some b → w.heap.size ≤ b := fun b hb => by have := hN0 b hb; simp at this; omega
  have HO : Hid (Own w2 val (bytesB (enR F_msg v))) := hO
  clear hO hN0 hW
  go_wp2
  go_ret2
  have hO := HO.out
  have hq := enR_eq F_msg v
  have hby : bytesB (enR F_msg v) = bytesB (en F_msg v) := by
    unfold bytesB
    rw [hq.1]
    cases hb : (en F_msg v).2 with
    | true => rfl
    | false => simp only [Bool.false_eq_true, if_false]; exact hq.2 hb
  rw [hby] at hO
  exact ⟨_, by rw [← hq.1]; rfl, hO, hN, hB⟩

end Go.Proofs.YtpbokgeaolpiaabGreat
