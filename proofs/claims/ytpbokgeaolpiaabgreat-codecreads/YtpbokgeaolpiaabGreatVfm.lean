/- The forms of the records: how their values are opened and made. Made by program (wip/gen/wr.py). -/
import Derived.Test.YtpbokgeaolpiaabGreatVwn
namespace Go.Proofs.YtpbokgeaolpiaabGreat
open Go.RowKit
def F_res : Fm := .cat .num .num
def F_conf : Fm := .cat (.lst .num) (.lst .num)
def F_alloc : Fm := .cat .num (.cat .num (.cat .num (.cat .num (.cat .num (.cat .num (.cat .num (.cat F_res (.cat .tru .num))))))))
def F_report : Fm := .cat .num .num
def F_group : Fm := .cat .num F_res
def F_job : Fm := .cat .num (.cat .num (.cat .num (.cat .num (.cat (.lst F_group) (.cat .num .tru)))))
def F_node : Fm := .cat .num (.cat F_res (.cat .tru (.cat .tru (.cat .num (.cat .num .num)))))
def F_plan : Fm := .cat .num (.cat .num (.cat .num (.cat (.lst .num) (.cat (.lst F_alloc) .tru))))
def F_result : Fm := .cat .num (.cat .num (.lst F_alloc))
def F_cmd : Fm := .cat .num (.cat .num (.cat .num (.cat F_job (.cat F_node (.cat (.lst F_report) (.cat F_plan F_conf))))))
def F_entry : Fm := .cat .num (.cat .num F_cmd)
def F_eval : Fm := .cat .num (.cat .num (.cat .num .num))
def F_deploy : Fm := .cat .num (.cat .num (.cat .num .num))
def F_seen : Fm := .cat .num (.cat .num F_result)
def F_store : Fm := .cat .num (.cat .num (.cat (.lst F_job) (.cat (.lst F_job) (.cat (.lst F_node) (.cat (.lst F_alloc) (.cat (.lst F_eval) (.cat (.lst F_deploy) (.lst F_seen))))))))
def F_snapshot : Fm := .cat .num (.cat .num (.cat F_conf .byt))
def F_msg : Fm := .cat .num (.cat .num (.cat .num (.cat .num (.cat .num (.cat .num (.cat .num (.cat .tru (.cat .num (.cat .num (.cat .num (.cat .num (.cat (.lst F_entry) (.cat F_conf (.cat .byt (.cat F_cmd F_result)))))))))))))))
theorem list_len2 {α : Type} (l : List α) (h : l.length = 2) : ∃ y0 y1, l = [y0, y1] := by
  match l, h with
  | [y0, y1], _ => exact ⟨_, _, rfl⟩
theorem list_len3 {α : Type} (l : List α) (h : l.length = 3) : ∃ y0 y1 y2, l = [y0, y1, y2] := by
  match l, h with
  | [y0, y1, y2], _ => exact ⟨_, _, _, rfl⟩
theorem list_len6 {α : Type} (l : List α) (h : l.length = 6) : ∃ y0 y1 y2 y3 y4 y5, l = [y0, y1, y2, y3, y4, y5] := by
  match l, h with
  | [y0, y1, y2, y3, y4, y5], _ => exact ⟨_, _, _, _, _, _, rfl⟩
theorem list_len7 {α : Type} (l : List α) (h : l.length = 7) : ∃ y0 y1 y2 y3 y4 y5 y6, l = [y0, y1, y2, y3, y4, y5, y6] := by
  match l, h with
  | [y0, y1, y2, y3, y4, y5, y6], _ => exact ⟨_, _, _, _, _, _, _, rfl⟩
theorem list_len8 {α : Type} (l : List α) (h : l.length = 8) : ∃ y0 y1 y2 y3 y4 y5 y6 y7, l = [y0, y1, y2, y3, y4, y5, y6, y7] := by
  match l, h with
  | [y0, y1, y2, y3, y4, y5, y6, y7], _ => exact ⟨_, _, _, _, _, _, _, _, rfl⟩
theorem list_len27 {α : Type} (l : List α) (h : l.length = 27) : ∃ y0 y1 y2 y3 y4 y5 y6 y7 y8 y9 y10 y11 y12 y13 y14 y15 y16 y17 y18 y19 y20 y21 y22 y23 y24 y25 y26, l = [y0, y1, y2, y3, y4, y5, y6, y7, y8, y9, y10, y11, y12, y13, y14, y15, y16, y17, y18, y19, y20, y21, y22, y23, y24, y25, y26] := by
  match l, h with
  | [y0, y1, y2, y3, y4, y5, y6, y7, y8, y9, y10, y11, y12, y13, y14, y15, y16, y17, y18, y19, y20, y21, y22, y23, y24, y25, y26], _ => exact ⟨_, _, _, _, _, _, _, _, _, _, _, _, _, _, _, _, _, _, _, _, _, _, _, _, _, _, _, rfl⟩
theorem open_res {w : World} {S : Nat → Prop} {cs : List Value} {v : Vl F_res} (h : Rep w S F_res cs v) :
    ∃ (x0 : Int) (x1 : Int), cs = [.int .i64 x0, .int .i64 x1] ∧ v = (x0, x1) := by
  obtain ⟨u0, u1⟩ := v
  obtain ⟨r0, q0, rfl, f0, h0⟩ := h
  have f1 := h0
  obtain rfl : r0 = _ := f0
  obtain rfl : q0 = _ := f1
  exact ⟨u0, u1, rfl, rfl⟩
theorem mk_res {w : World} {S : Nat → Prop} (x0 : Int) (x1 : Int)  : Rep w S F_res [.int .i64 x0, .int .i64 x1] (x0, x1) := ⟨[.int .i64 x0], [.int .i64 x1], rfl, rfl, rfl⟩
theorem open_conf {w : World} {S : Nat → Prop} {cs : List Value} {v : Vl F_conf} (h : Rep w S F_conf cs v) :
    ∃ (a0 : Option Addr) (c0 : Nat) (v0 : List (Vl .num)) (a1 : Option Addr) (c1 : Nat) (v1 : List (Vl .num)), cs = [.slice a0 v0.length c0, .slice a1 v1.length c1] ∧ v = (v0, v1) ∧ RepL w S .num a0 v0 ∧ RepL w S .num a1 v1 := by
  obtain ⟨u0, u1⟩ := v
  obtain ⟨r0, q0, rfl, f0, h0⟩ := h
  have f1 := h0
  obtain ⟨a0, c0, rfl, k0, m0⟩ := f0
  obtain ⟨a1, c1, rfl, k1, m1⟩ := f1
  exact ⟨a0, c0, u0, a1, c1, u1, rfl, rfl, ⟨k0, m0⟩, ⟨k1, m1⟩⟩
theorem mk_conf {w : World} {S : Nat → Prop} (a0 : Option Addr) (c0 : Nat) (v0 : List (Vl .num)) (a1 : Option Addr) (c1 : Nat) (v1 : List (Vl .num)) (h0 : RepL w S .num a0 v0) (h1 : RepL w S .num a1 v1) : Rep w S F_conf [.slice a0 v0.length c0, .slice a1 v1.length c1] (v0, v1) := ⟨[.slice a0 v0.length c0], [.slice a1 v1.length c1], rfl, ⟨_, _, rfl, h0.1, h0.2⟩, ⟨_, _, rfl, h1.1, h1.2⟩⟩
theorem open_alloc {w : World} {S : Nat → Prop} {cs : List Value} {v : Vl F_alloc} (h : Rep w S F_alloc cs v) :
    ∃ (x0 : Int) (x1 : Int) (x2 : Int) (x3 : Int) (x4 : Int) (x5 : Int) (x6 : Int) (y7_0 y7_1 : Value) (v7 : Vl F_res) (x8 : Bool) (x9 : Int), cs = [.int .i64 x0, .int .i64 x1, .int .i64 x2, .int .i64 x3, .int .i64 x4, .int .i64 x5, .int .i64 x6, y7_0, y7_1, .bool x8, .int .i64 x9] ∧ v = (x0, x1, x2, x3, x4, x5, x6, v7, x8, x9) ∧ Rep w S F_res [y7_0, y7_1] v7 := by
  obtain ⟨u0, u1, u2, u3, u4, u5, u6, u7, u8, u9⟩ := v
  obtain ⟨r0, q0, rfl, f0, h0⟩ := h
  obtain ⟨r1, q1, rfl, f1, h1⟩ := h0
  obtain ⟨r2, q2, rfl, f2, h2⟩ := h1
  obtain ⟨r3, q3, rfl, f3, h3⟩ := h2
  obtain ⟨r4, q4, rfl, f4, h4⟩ := h3
  obtain ⟨r5, q5, rfl, f5, h5⟩ := h4
  obtain ⟨r6, q6, rfl, f6, h6⟩ := h5
  obtain ⟨r7, q7, rfl, f7, h7⟩ := h6
  obtain ⟨r8, q8, rfl, f8, h8⟩ := h7
  have f9 := h8
  obtain rfl : r0 = _ := f0
  obtain rfl : r1 = _ := f1
  obtain rfl : r2 = _ := f2
  obtain rfl : r3 = _ := f3
  obtain rfl : r4 = _ := f4
  obtain rfl : r5 = _ := f5
  obtain rfl : r6 = _ := f6
  obtain ⟨y7_0, y7_1, rfl⟩ := list_len2 r7 f7.len
  obtain rfl : r8 = _ := f8
  obtain rfl : q8 = _ := f9
  exact ⟨u0, u1, u2, u3, u4, u5, u6, y7_0, y7_1, u7, u8, u9, rfl, rfl, f7⟩
theorem mk_alloc {w : World} {S : Nat → Prop} (x0 : Int) (x1 : Int) (x2 : Int) (x3 : Int) (x4 : Int) (x5 : Int) (x6 : Int) (y7_0 y7_1 : Value) (v7 : Vl F_res) (x8 : Bool) (x9 : Int) (h7 : Rep w S F_res [y7_0, y7_1] v7) : Rep w S F_alloc [.int .i64 x0, .int .i64 x1, .int .i64 x2, .int .i64 x3, .int .i64 x4, .int .i64 x5, .int .i64 x6, y7_0, y7_1, .bool x8, .int .i64 x9] (x0, x1, x2, x3, x4, x5, x6, v7, x8, x9) := ⟨[.int .i64 x0], [.int .i64 x1, .int .i64 x2, .int .i64 x3, .int .i64 x4, .int .i64 x5, .int .i64 x6, y7_0, y7_1, .bool x8, .int .i64 x9], rfl, rfl, ⟨[.int .i64 x1], [.int .i64 x2, .int .i64 x3, .int .i64 x4, .int .i64 x5, .int .i64 x6, y7_0, y7_1, .bool x8, .int .i64 x9], rfl, rfl, ⟨[.int .i64 x2], [.int .i64 x3, .int .i64 x4, .int .i64 x5, .int .i64 x6, y7_0, y7_1, .bool x8, .int .i64 x9], rfl, rfl, ⟨[.int .i64 x3], [.int .i64 x4, .int .i64 x5, .int .i64 x6, y7_0, y7_1, .bool x8, .int .i64 x9], rfl, rfl, ⟨[.int .i64 x4], [.int .i64 x5, .int .i64 x6, y7_0, y7_1, .bool x8, .int .i64 x9], rfl, rfl, ⟨[.int .i64 x5], [.int .i64 x6, y7_0, y7_1, .bool x8, .int .i64 x9], rfl, rfl, ⟨[.int .i64 x6], [y7_0, y7_1, .bool x8, .int .i64 x9], rfl, rfl, ⟨[y7_0, y7_1], [.bool x8, .int .i64 x9], rfl, h7, ⟨[.bool x8], [.int .i64 x9], rfl, rfl, rfl⟩⟩⟩⟩⟩⟩⟩⟩⟩
theorem open_report {w : World} {S : Nat → Prop} {cs : List Value} {v : Vl F_report} (h : Rep w S F_report cs v) :
    ∃ (x0 : Int) (x1 : Int), cs = [.int .i64 x0, .int .i64 x1] ∧ v = (x0, x1) := by
  obtain ⟨u0, u1⟩ := v
  obtain ⟨r0, q0, rfl, f0, h0⟩ := h
  have f1 := h0
  obtain rfl : r0 = _ := f0
  obtain rfl : q0 = _ := f1
  exact ⟨u0, u1, rfl, rfl⟩
theorem mk_report {w : World} {S : Nat → Prop} (x0 : Int) (x1 : Int)  : Rep w S F_report [.int .i64 x0, .int .i64 x1] (x0, x1) := ⟨[.int .i64 x0], [.int .i64 x1], rfl, rfl, rfl⟩
theorem open_group {w : World} {S : Nat → Prop} {cs : List Value} {v : Vl F_group} (h : Rep w S F_group cs v) :
    ∃ (x0 : Int) (y1_0 y1_1 : Value) (v1 : Vl F_res), cs = [.int .i64 x0, y1_0, y1_1] ∧ v = (x0, v1) ∧ Rep w S F_res [y1_0, y1_1] v1 := by
  obtain ⟨u0, u1⟩ := v
  obtain ⟨r0, q0, rfl, f0, h0⟩ := h
  have f1 := h0
  obtain rfl : r0 = _ := f0
  obtain ⟨y1_0, y1_1, rfl⟩ := list_len2 q0 f1.len
  exact ⟨u0, y1_0, y1_1, u1, rfl, rfl, f1⟩
theorem mk_group {w : World} {S : Nat → Prop} (x0 : Int) (y1_0 y1_1 : Value) (v1 : Vl F_res) (h1 : Rep w S F_res [y1_0, y1_1] v1) : Rep w S F_group [.int .i64 x0, y1_0, y1_1] (x0, v1) := ⟨[.int .i64 x0], [y1_0, y1_1], rfl, rfl, h1⟩
theorem open_job {w : World} {S : Nat → Prop} {cs : List Value} {v : Vl F_job} (h : Rep w S F_job cs v) :
    ∃ (x0 : Int) (x1 : Int) (x2 : Int) (x3 : Int) (a4 : Option Addr) (c4 : Nat) (v4 : List (Vl F_group)) (x5 : Int) (x6 : Bool), cs = [.int .i64 x0, .int .i64 x1, .int .i64 x2, .int .i64 x3, .slice a4 v4.length c4, .int .i64 x5, .bool x6] ∧ v = (x0, x1, x2, x3, v4, x5, x6) ∧ RepL w S F_group a4 v4 := by
  obtain ⟨u0, u1, u2, u3, u4, u5, u6⟩ := v
  obtain ⟨r0, q0, rfl, f0, h0⟩ := h
  obtain ⟨r1, q1, rfl, f1, h1⟩ := h0
  obtain ⟨r2, q2, rfl, f2, h2⟩ := h1
  obtain ⟨r3, q3, rfl, f3, h3⟩ := h2
  obtain ⟨r4, q4, rfl, f4, h4⟩ := h3
  obtain ⟨r5, q5, rfl, f5, h5⟩ := h4
  have f6 := h5
  obtain rfl : r0 = _ := f0
  obtain rfl : r1 = _ := f1
  obtain rfl : r2 = _ := f2
  obtain rfl : r3 = _ := f3
  obtain ⟨a4, c4, rfl, k4, m4⟩ := f4
  obtain rfl : r5 = _ := f5
  obtain rfl : q5 = _ := f6
  exact ⟨u0, u1, u2, u3, a4, c4, u4, u5, u6, rfl, rfl, ⟨k4, m4⟩⟩
theorem mk_job {w : World} {S : Nat → Prop} (x0 : Int) (x1 : Int) (x2 : Int) (x3 : Int) (a4 : Option Addr) (c4 : Nat) (v4 : List (Vl F_group)) (x5 : Int) (x6 : Bool) (h4 : RepL w S F_group a4 v4) : Rep w S F_job [.int .i64 x0, .int .i64 x1, .int .i64 x2, .int .i64 x3, .slice a4 v4.length c4, .int .i64 x5, .bool x6] (x0, x1, x2, x3, v4, x5, x6) := ⟨[.int .i64 x0], [.int .i64 x1, .int .i64 x2, .int .i64 x3, .slice a4 v4.length c4, .int .i64 x5, .bool x6], rfl, rfl, ⟨[.int .i64 x1], [.int .i64 x2, .int .i64 x3, .slice a4 v4.length c4, .int .i64 x5, .bool x6], rfl, rfl, ⟨[.int .i64 x2], [.int .i64 x3, .slice a4 v4.length c4, .int .i64 x5, .bool x6], rfl, rfl, ⟨[.int .i64 x3], [.slice a4 v4.length c4, .int .i64 x5, .bool x6], rfl, rfl, ⟨[.slice a4 v4.length c4], [.int .i64 x5, .bool x6], rfl, ⟨_, _, rfl, h4.1, h4.2⟩, ⟨[.int .i64 x5], [.bool x6], rfl, rfl, rfl⟩⟩⟩⟩⟩⟩
theorem open_node {w : World} {S : Nat → Prop} {cs : List Value} {v : Vl F_node} (h : Rep w S F_node cs v) :
    ∃ (x0 : Int) (y1_0 y1_1 : Value) (v1 : Vl F_res) (x2 : Bool) (x3 : Bool) (x4 : Int) (x5 : Int) (x6 : Int), cs = [.int .i64 x0, y1_0, y1_1, .bool x2, .bool x3, .int .i64 x4, .int .i64 x5, .int .i64 x6] ∧ v = (x0, v1, x2, x3, x4, x5, x6) ∧ Rep w S F_res [y1_0, y1_1] v1 := by
  obtain ⟨u0, u1, u2, u3, u4, u5, u6⟩ := v
  obtain ⟨r0, q0, rfl, f0, h0⟩ := h
  obtain ⟨r1, q1, rfl, f1, h1⟩ := h0
  obtain ⟨r2, q2, rfl, f2, h2⟩ := h1
  obtain ⟨r3, q3, rfl, f3, h3⟩ := h2
  obtain ⟨r4, q4, rfl, f4, h4⟩ := h3
  obtain ⟨r5, q5, rfl, f5, h5⟩ := h4
  have f6 := h5
  obtain rfl : r0 = _ := f0
  obtain ⟨y1_0, y1_1, rfl⟩ := list_len2 r1 f1.len
  obtain rfl : r2 = _ := f2
  obtain rfl : r3 = _ := f3
  obtain rfl : r4 = _ := f4
  obtain rfl : r5 = _ := f5
  obtain rfl : q5 = _ := f6
  exact ⟨u0, y1_0, y1_1, u1, u2, u3, u4, u5, u6, rfl, rfl, f1⟩
theorem mk_node {w : World} {S : Nat → Prop} (x0 : Int) (y1_0 y1_1 : Value) (v1 : Vl F_res) (x2 : Bool) (x3 : Bool) (x4 : Int) (x5 : Int) (x6 : Int) (h1 : Rep w S F_res [y1_0, y1_1] v1) : Rep w S F_node [.int .i64 x0, y1_0, y1_1, .bool x2, .bool x3, .int .i64 x4, .int .i64 x5, .int .i64 x6] (x0, v1, x2, x3, x4, x5, x6) := ⟨[.int .i64 x0], [y1_0, y1_1, .bool x2, .bool x3, .int .i64 x4, .int .i64 x5, .int .i64 x6], rfl, rfl, ⟨[y1_0, y1_1], [.bool x2, .bool x3, .int .i64 x4, .int .i64 x5, .int .i64 x6], rfl, h1, ⟨[.bool x2], [.bool x3, .int .i64 x4, .int .i64 x5, .int .i64 x6], rfl, rfl, ⟨[.bool x3], [.int .i64 x4, .int .i64 x5, .int .i64 x6], rfl, rfl, ⟨[.int .i64 x4], [.int .i64 x5, .int .i64 x6], rfl, rfl, ⟨[.int .i64 x5], [.int .i64 x6], rfl, rfl, rfl⟩⟩⟩⟩⟩⟩
theorem open_plan {w : World} {S : Nat → Prop} {cs : List Value} {v : Vl F_plan} (h : Rep w S F_plan cs v) :
    ∃ (x0 : Int) (x1 : Int) (x2 : Int) (a3 : Option Addr) (c3 : Nat) (v3 : List (Vl .num)) (a4 : Option Addr) (c4 : Nat) (v4 : List (Vl F_alloc)) (x5 : Bool), cs = [.int .i64 x0, .int .i64 x1, .int .i64 x2, .slice a3 v3.length c3, .slice a4 v4.length c4, .bool x5] ∧ v = (x0, x1, x2, v3, v4, x5) ∧ RepL w S .num a3 v3 ∧ RepL w S F_alloc a4 v4 := by
  obtain ⟨u0, u1, u2, u3, u4, u5⟩ := v
  obtain ⟨r0, q0, rfl, f0, h0⟩ := h
  obtain ⟨r1, q1, rfl, f1, h1⟩ := h0
  obtain ⟨r2, q2, rfl, f2, h2⟩ := h1
  obtain ⟨r3, q3, rfl, f3, h3⟩ := h2
  obtain ⟨r4, q4, rfl, f4, h4⟩ := h3
  have f5 := h4
  obtain rfl : r0 = _ := f0
  obtain rfl : r1 = _ := f1
  obtain rfl : r2 = _ := f2
  obtain ⟨a3, c3, rfl, k3, m3⟩ := f3
  obtain ⟨a4, c4, rfl, k4, m4⟩ := f4
  obtain rfl : q4 = _ := f5
  exact ⟨u0, u1, u2, a3, c3, u3, a4, c4, u4, u5, rfl, rfl, ⟨k3, m3⟩, ⟨k4, m4⟩⟩
theorem mk_plan {w : World} {S : Nat → Prop} (x0 : Int) (x1 : Int) (x2 : Int) (a3 : Option Addr) (c3 : Nat) (v3 : List (Vl .num)) (a4 : Option Addr) (c4 : Nat) (v4 : List (Vl F_alloc)) (x5 : Bool) (h3 : RepL w S .num a3 v3) (h4 : RepL w S F_alloc a4 v4) : Rep w S F_plan [.int .i64 x0, .int .i64 x1, .int .i64 x2, .slice a3 v3.length c3, .slice a4 v4.length c4, .bool x5] (x0, x1, x2, v3, v4, x5) := ⟨[.int .i64 x0], [.int .i64 x1, .int .i64 x2, .slice a3 v3.length c3, .slice a4 v4.length c4, .bool x5], rfl, rfl, ⟨[.int .i64 x1], [.int .i64 x2, .slice a3 v3.length c3, .slice a4 v4.length c4, .bool x5], rfl, rfl, ⟨[.int .i64 x2], [.slice a3 v3.length c3, .slice a4 v4.length c4, .bool x5], rfl, rfl, ⟨[.slice a3 v3.length c3], [.slice a4 v4.length c4, .bool x5], rfl, ⟨_, _, rfl, h3.1, h3.2⟩, ⟨[.slice a4 v4.length c4], [.bool x5], rfl, ⟨_, _, rfl, h4.1, h4.2⟩, rfl⟩⟩⟩⟩⟩
theorem open_result {w : World} {S : Nat → Prop} {cs : List Value} {v : Vl F_result} (h : Rep w S F_result cs v) :
    ∃ (x0 : Int) (x1 : Int) (a2 : Option Addr) (c2 : Nat) (v2 : List (Vl F_alloc)), cs = [.int .i64 x0, .int .i64 x1, .slice a2 v2.length c2] ∧ v = (x0, x1, v2) ∧ RepL w S F_alloc a2 v2 := by
  obtain ⟨u0, u1, u2⟩ := v
  obtain ⟨r0, q0, rfl, f0, h0⟩ := h
  obtain ⟨r1, q1, rfl, f1, h1⟩ := h0
  have f2 := h1
  obtain rfl : r0 = _ := f0
  obtain rfl : r1 = _ := f1
  obtain ⟨a2, c2, rfl, k2, m2⟩ := f2
  exact ⟨u0, u1, a2, c2, u2, rfl, rfl, ⟨k2, m2⟩⟩
theorem mk_result {w : World} {S : Nat → Prop} (x0 : Int) (x1 : Int) (a2 : Option Addr) (c2 : Nat) (v2 : List (Vl F_alloc)) (h2 : RepL w S F_alloc a2 v2) : Rep w S F_result [.int .i64 x0, .int .i64 x1, .slice a2 v2.length c2] (x0, x1, v2) := ⟨[.int .i64 x0], [.int .i64 x1, .slice a2 v2.length c2], rfl, rfl, ⟨[.int .i64 x1], [.slice a2 v2.length c2], rfl, rfl, ⟨_, _, rfl, h2.1, h2.2⟩⟩⟩
theorem open_cmd {w : World} {S : Nat → Prop} {cs : List Value} {v : Vl F_cmd} (h : Rep w S F_cmd cs v) :
    ∃ (x0 : Int) (x1 : Int) (x2 : Int) (y3_0 y3_1 y3_2 y3_3 y3_4 y3_5 y3_6 : Value) (v3 : Vl F_job) (y4_0 y4_1 y4_2 y4_3 y4_4 y4_5 y4_6 y4_7 : Value) (v4 : Vl F_node) (a5 : Option Addr) (c5 : Nat) (v5 : List (Vl F_report)) (y6_0 y6_1 y6_2 y6_3 y6_4 y6_5 : Value) (v6 : Vl F_plan) (y7_0 y7_1 : Value) (v7 : Vl F_conf), cs = [.int .i64 x0, .int .i64 x1, .int .i64 x2, y3_0, y3_1, y3_2, y3_3, y3_4, y3_5, y3_6, y4_0, y4_1, y4_2, y4_3, y4_4, y4_5, y4_6, y4_7, .slice a5 v5.length c5, y6_0, y6_1, y6_2, y6_3, y6_4, y6_5, y7_0, y7_1] ∧ v = (x0, x1, x2, v3, v4, v5, v6, v7) ∧ Rep w S F_job [y3_0, y3_1, y3_2, y3_3, y3_4, y3_5, y3_6] v3 ∧ Rep w S F_node [y4_0, y4_1, y4_2, y4_3, y4_4, y4_5, y4_6, y4_7] v4 ∧ RepL w S F_report a5 v5 ∧ Rep w S F_plan [y6_0, y6_1, y6_2, y6_3, y6_4, y6_5] v6 ∧ Rep w S F_conf [y7_0, y7_1] v7 := by
  obtain ⟨u0, u1, u2, u3, u4, u5, u6, u7⟩ := v
  obtain ⟨r0, q0, rfl, f0, h0⟩ := h
  obtain ⟨r1, q1, rfl, f1, h1⟩ := h0
  obtain ⟨r2, q2, rfl, f2, h2⟩ := h1
  obtain ⟨r3, q3, rfl, f3, h3⟩ := h2
  obtain ⟨r4, q4, rfl, f4, h4⟩ := h3
  obtain ⟨r5, q5, rfl, f5, h5⟩ := h4
  obtain ⟨r6, q6, rfl, f6, h6⟩ := h5
  have f7 := h6
  obtain rfl : r0 = _ := f0
  obtain rfl : r1 = _ := f1
  obtain rfl : r2 = _ := f2
  obtain ⟨y3_0, y3_1, y3_2, y3_3, y3_4, y3_5, y3_6, rfl⟩ := list_len7 r3 f3.len
  obtain ⟨y4_0, y4_1, y4_2, y4_3, y4_4, y4_5, y4_6, y4_7, rfl⟩ := list_len8 r4 f4.len
  obtain ⟨a5, c5, rfl, k5, m5⟩ := f5
  obtain ⟨y6_0, y6_1, y6_2, y6_3, y6_4, y6_5, rfl⟩ := list_len6 r6 f6.len
  obtain ⟨y7_0, y7_1, rfl⟩ := list_len2 q6 f7.len
  exact ⟨u0, u1, u2, y3_0, y3_1, y3_2, y3_3, y3_4, y3_5, y3_6, u3, y4_0, y4_1, y4_2, y4_3, y4_4, y4_5, y4_6, y4_7, u4, a5, c5, u5, y6_0, y6_1, y6_2, y6_3, y6_4, y6_5, u6, y7_0, y7_1, u7, rfl, rfl, f3, f4, ⟨k5, m5⟩, f6, f7⟩
theorem mk_cmd {w : World} {S : Nat → Prop} (x0 : Int) (x1 : Int) (x2 : Int) (y3_0 y3_1 y3_2 y3_3 y3_4 y3_5 y3_6 : Value) (v3 : Vl F_job) (y4_0 y4_1 y4_2 y4_3 y4_4 y4_5 y4_6 y4_7 : Value) (v4 : Vl F_node) (a5 : Option Addr) (c5 : Nat) (v5 : List (Vl F_report)) (y6_0 y6_1 y6_2 y6_3 y6_4 y6_5 : Value) (v6 : Vl F_plan) (y7_0 y7_1 : Value) (v7 : Vl F_conf) (h3 : Rep w S F_job [y3_0, y3_1, y3_2, y3_3, y3_4, y3_5, y3_6] v3) (h4 : Rep w S F_node [y4_0, y4_1, y4_2, y4_3, y4_4, y4_5, y4_6, y4_7] v4) (h5 : RepL w S F_report a5 v5) (h6 : Rep w S F_plan [y6_0, y6_1, y6_2, y6_3, y6_4, y6_5] v6) (h7 : Rep w S F_conf [y7_0, y7_1] v7) : Rep w S F_cmd [.int .i64 x0, .int .i64 x1, .int .i64 x2, y3_0, y3_1, y3_2, y3_3, y3_4, y3_5, y3_6, y4_0, y4_1, y4_2, y4_3, y4_4, y4_5, y4_6, y4_7, .slice a5 v5.length c5, y6_0, y6_1, y6_2, y6_3, y6_4, y6_5, y7_0, y7_1] (x0, x1, x2, v3, v4, v5, v6, v7) := ⟨[.int .i64 x0], [.int .i64 x1, .int .i64 x2, y3_0, y3_1, y3_2, y3_3, y3_4, y3_5, y3_6, y4_0, y4_1, y4_2, y4_3, y4_4, y4_5, y4_6, y4_7, .slice a5 v5.length c5, y6_0, y6_1, y6_2, y6_3, y6_4, y6_5, y7_0, y7_1], rfl, rfl, ⟨[.int .i64 x1], [.int .i64 x2, y3_0, y3_1, y3_2, y3_3, y3_4, y3_5, y3_6, y4_0, y4_1, y4_2, y4_3, y4_4, y4_5, y4_6, y4_7, .slice a5 v5.length c5, y6_0, y6_1, y6_2, y6_3, y6_4, y6_5, y7_0, y7_1], rfl, rfl, ⟨[.int .i64 x2], [y3_0, y3_1, y3_2, y3_3, y3_4, y3_5, y3_6, y4_0, y4_1, y4_2, y4_3, y4_4, y4_5, y4_6, y4_7, .slice a5 v5.length c5, y6_0, y6_1, y6_2, y6_3, y6_4, y6_5, y7_0, y7_1], rfl, rfl, ⟨[y3_0, y3_1, y3_2, y3_3, y3_4, y3_5, y3_6], [y4_0, y4_1, y4_2, y4_3, y4_4, y4_5, y4_6, y4_7, .slice a5 v5.length c5, y6_0, y6_1, y6_2, y6_3, y6_4, y6_5, y7_0, y7_1], rfl, h3, ⟨[y4_0, y4_1, y4_2, y4_3, y4_4, y4_5, y4_6, y4_7], [.slice a5 v5.length c5, y6_0, y6_1, y6_2, y6_3, y6_4, y6_5, y7_0, y7_1], rfl, h4, ⟨[.slice a5 v5.length c5], [y6_0, y6_1, y6_2, y6_3, y6_4, y6_5, y7_0, y7_1], rfl, ⟨_, _, rfl, h5.1, h5.2⟩, ⟨[y6_0, y6_1, y6_2, y6_3, y6_4, y6_5], [y7_0, y7_1], rfl, h6, h7⟩⟩⟩⟩⟩⟩⟩
theorem open_entry {w : World} {S : Nat → Prop} {cs : List Value} {v : Vl F_entry} (h : Rep w S F_entry cs v) :
    ∃ (x0 : Int) (x1 : Int) (y2_0 y2_1 y2_2 y2_3 y2_4 y2_5 y2_6 y2_7 y2_8 y2_9 y2_10 y2_11 y2_12 y2_13 y2_14 y2_15 y2_16 y2_17 y2_18 y2_19 y2_20 y2_21 y2_22 y2_23 y2_24 y2_25 y2_26 : Value) (v2 : Vl F_cmd), cs = [.int .i64 x0, .int .i64 x1, y2_0, y2_1, y2_2, y2_3, y2_4, y2_5, y2_6, y2_7, y2_8, y2_9, y2_10, y2_11, y2_12, y2_13, y2_14, y2_15, y2_16, y2_17, y2_18, y2_19, y2_20, y2_21, y2_22, y2_23, y2_24, y2_25, y2_26] ∧ v = (x0, x1, v2) ∧ Rep w S F_cmd [y2_0, y2_1, y2_2, y2_3, y2_4, y2_5, y2_6, y2_7, y2_8, y2_9, y2_10, y2_11, y2_12, y2_13, y2_14, y2_15, y2_16, y2_17, y2_18, y2_19, y2_20, y2_21, y2_22, y2_23, y2_24, y2_25, y2_26] v2 := by
  obtain ⟨u0, u1, u2⟩ := v
  obtain ⟨r0, q0, rfl, f0, h0⟩ := h
  obtain ⟨r1, q1, rfl, f1, h1⟩ := h0
  have f2 := h1
  obtain rfl : r0 = _ := f0
  obtain rfl : r1 = _ := f1
  obtain ⟨y2_0, y2_1, y2_2, y2_3, y2_4, y2_5, y2_6, y2_7, y2_8, y2_9, y2_10, y2_11, y2_12, y2_13, y2_14, y2_15, y2_16, y2_17, y2_18, y2_19, y2_20, y2_21, y2_22, y2_23, y2_24, y2_25, y2_26, rfl⟩ := list_len27 q1 f2.len
  exact ⟨u0, u1, y2_0, y2_1, y2_2, y2_3, y2_4, y2_5, y2_6, y2_7, y2_8, y2_9, y2_10, y2_11, y2_12, y2_13, y2_14, y2_15, y2_16, y2_17, y2_18, y2_19, y2_20, y2_21, y2_22, y2_23, y2_24, y2_25, y2_26, u2, rfl, rfl, f2⟩
theorem mk_entry {w : World} {S : Nat → Prop} (x0 : Int) (x1 : Int) (y2_0 y2_1 y2_2 y2_3 y2_4 y2_5 y2_6 y2_7 y2_8 y2_9 y2_10 y2_11 y2_12 y2_13 y2_14 y2_15 y2_16 y2_17 y2_18 y2_19 y2_20 y2_21 y2_22 y2_23 y2_24 y2_25 y2_26 : Value) (v2 : Vl F_cmd) (h2 : Rep w S F_cmd [y2_0, y2_1, y2_2, y2_3, y2_4, y2_5, y2_6, y2_7, y2_8, y2_9, y2_10, y2_11, y2_12, y2_13, y2_14, y2_15, y2_16, y2_17, y2_18, y2_19, y2_20, y2_21, y2_22, y2_23, y2_24, y2_25, y2_26] v2) : Rep w S F_entry [.int .i64 x0, .int .i64 x1, y2_0, y2_1, y2_2, y2_3, y2_4, y2_5, y2_6, y2_7, y2_8, y2_9, y2_10, y2_11, y2_12, y2_13, y2_14, y2_15, y2_16, y2_17, y2_18, y2_19, y2_20, y2_21, y2_22, y2_23, y2_24, y2_25, y2_26] (x0, x1, v2) := ⟨[.int .i64 x0], [.int .i64 x1, y2_0, y2_1, y2_2, y2_3, y2_4, y2_5, y2_6, y2_7, y2_8, y2_9, y2_10, y2_11, y2_12, y2_13, y2_14, y2_15, y2_16, y2_17, y2_18, y2_19, y2_20, y2_21, y2_22, y2_23, y2_24, y2_25, y2_26], rfl, rfl, ⟨[.int .i64 x1], [y2_0, y2_1, y2_2, y2_3, y2_4, y2_5, y2_6, y2_7, y2_8, y2_9, y2_10, y2_11, y2_12, y2_13, y2_14, y2_15, y2_16, y2_17, y2_18, y2_19, y2_20, y2_21, y2_22, y2_23, y2_24, y2_25, y2_26], rfl, rfl, h2⟩⟩
theorem open_eval {w : World} {S : Nat → Prop} {cs : List Value} {v : Vl F_eval} (h : Rep w S F_eval cs v) :
    ∃ (x0 : Int) (x1 : Int) (x2 : Int) (x3 : Int), cs = [.int .i64 x0, .int .i64 x1, .int .i64 x2, .int .i64 x3] ∧ v = (x0, x1, x2, x3) := by
  obtain ⟨u0, u1, u2, u3⟩ := v
  obtain ⟨r0, q0, rfl, f0, h0⟩ := h
  obtain ⟨r1, q1, rfl, f1, h1⟩ := h0
  obtain ⟨r2, q2, rfl, f2, h2⟩ := h1
  have f3 := h2
  obtain rfl : r0 = _ := f0
  obtain rfl : r1 = _ := f1
  obtain rfl : r2 = _ := f2
  obtain rfl : q2 = _ := f3
  exact ⟨u0, u1, u2, u3, rfl, rfl⟩
theorem mk_eval {w : World} {S : Nat → Prop} (x0 : Int) (x1 : Int) (x2 : Int) (x3 : Int)  : Rep w S F_eval [.int .i64 x0, .int .i64 x1, .int .i64 x2, .int .i64 x3] (x0, x1, x2, x3) := ⟨[.int .i64 x0], [.int .i64 x1, .int .i64 x2, .int .i64 x3], rfl, rfl, ⟨[.int .i64 x1], [.int .i64 x2, .int .i64 x3], rfl, rfl, ⟨[.int .i64 x2], [.int .i64 x3], rfl, rfl, rfl⟩⟩⟩
theorem open_deploy {w : World} {S : Nat → Prop} {cs : List Value} {v : Vl F_deploy} (h : Rep w S F_deploy cs v) :
    ∃ (x0 : Int) (x1 : Int) (x2 : Int) (x3 : Int), cs = [.int .i64 x0, .int .i64 x1, .int .i64 x2, .int .i64 x3] ∧ v = (x0, x1, x2, x3) := by
  obtain ⟨u0, u1, u2, u3⟩ := v
  obtain ⟨r0, q0, rfl, f0, h0⟩ := h
  obtain ⟨r1, q1, rfl, f1, h1⟩ := h0
  obtain ⟨r2, q2, rfl, f2, h2⟩ := h1
  have f3 := h2
  obtain rfl : r0 = _ := f0
  obtain rfl : r1 = _ := f1
  obtain rfl : r2 = _ := f2
  obtain rfl : q2 = _ := f3
  exact ⟨u0, u1, u2, u3, rfl, rfl⟩
theorem mk_deploy {w : World} {S : Nat → Prop} (x0 : Int) (x1 : Int) (x2 : Int) (x3 : Int)  : Rep w S F_deploy [.int .i64 x0, .int .i64 x1, .int .i64 x2, .int .i64 x3] (x0, x1, x2, x3) := ⟨[.int .i64 x0], [.int .i64 x1, .int .i64 x2, .int .i64 x3], rfl, rfl, ⟨[.int .i64 x1], [.int .i64 x2, .int .i64 x3], rfl, rfl, ⟨[.int .i64 x2], [.int .i64 x3], rfl, rfl, rfl⟩⟩⟩
theorem open_seen {w : World} {S : Nat → Prop} {cs : List Value} {v : Vl F_seen} (h : Rep w S F_seen cs v) :
    ∃ (x0 : Int) (x1 : Int) (y2_0 y2_1 y2_2 : Value) (v2 : Vl F_result), cs = [.int .i64 x0, .int .i64 x1, y2_0, y2_1, y2_2] ∧ v = (x0, x1, v2) ∧ Rep w S F_result [y2_0, y2_1, y2_2] v2 := by
  obtain ⟨u0, u1, u2⟩ := v
  obtain ⟨r0, q0, rfl, f0, h0⟩ := h
  obtain ⟨r1, q1, rfl, f1, h1⟩ := h0
  have f2 := h1
  obtain rfl : r0 = _ := f0
  obtain rfl : r1 = _ := f1
  obtain ⟨y2_0, y2_1, y2_2, rfl⟩ := list_len3 q1 f2.len
  exact ⟨u0, u1, y2_0, y2_1, y2_2, u2, rfl, rfl, f2⟩
theorem mk_seen {w : World} {S : Nat → Prop} (x0 : Int) (x1 : Int) (y2_0 y2_1 y2_2 : Value) (v2 : Vl F_result) (h2 : Rep w S F_result [y2_0, y2_1, y2_2] v2) : Rep w S F_seen [.int .i64 x0, .int .i64 x1, y2_0, y2_1, y2_2] (x0, x1, v2) := ⟨[.int .i64 x0], [.int .i64 x1, y2_0, y2_1, y2_2], rfl, rfl, ⟨[.int .i64 x1], [y2_0, y2_1, y2_2], rfl, rfl, h2⟩⟩
theorem open_store {w : World} {S : Nat → Prop} {cs : List Value} {v : Vl F_store} (h : Rep w S F_store cs v) :
    ∃ (x0 : Int) (x1 : Int) (a2 : Option Addr) (c2 : Nat) (v2 : List (Vl F_job)) (a3 : Option Addr) (c3 : Nat) (v3 : List (Vl F_job)) (a4 : Option Addr) (c4 : Nat) (v4 : List (Vl F_node)) (a5 : Option Addr) (c5 : Nat) (v5 : List (Vl F_alloc)) (a6 : Option Addr) (c6 : Nat) (v6 : List (Vl F_eval)) (a7 : Option Addr) (c7 : Nat) (v7 : List (Vl F_deploy)) (a8 : Option Addr) (c8 : Nat) (v8 : List (Vl F_seen)), cs = [.int .i64 x0, .int .i64 x1, .slice a2 v2.length c2, .slice a3 v3.length c3, .slice a4 v4.length c4, .slice a5 v5.length c5, .slice a6 v6.length c6, .slice a7 v7.length c7, .slice a8 v8.length c8] ∧ v = (x0, x1, v2, v3, v4, v5, v6, v7, v8) ∧ RepL w S F_job a2 v2 ∧ RepL w S F_job a3 v3 ∧ RepL w S F_node a4 v4 ∧ RepL w S F_alloc a5 v5 ∧ RepL w S F_eval a6 v6 ∧ RepL w S F_deploy a7 v7 ∧ RepL w S F_seen a8 v8 := by
  obtain ⟨u0, u1, u2, u3, u4, u5, u6, u7, u8⟩ := v
  obtain ⟨r0, q0, rfl, f0, h0⟩ := h
  obtain ⟨r1, q1, rfl, f1, h1⟩ := h0
  obtain ⟨r2, q2, rfl, f2, h2⟩ := h1
  obtain ⟨r3, q3, rfl, f3, h3⟩ := h2
  obtain ⟨r4, q4, rfl, f4, h4⟩ := h3
  obtain ⟨r5, q5, rfl, f5, h5⟩ := h4
  obtain ⟨r6, q6, rfl, f6, h6⟩ := h5
  obtain ⟨r7, q7, rfl, f7, h7⟩ := h6
  have f8 := h7
  obtain rfl : r0 = _ := f0
  obtain rfl : r1 = _ := f1
  obtain ⟨a2, c2, rfl, k2, m2⟩ := f2
  obtain ⟨a3, c3, rfl, k3, m3⟩ := f3
  obtain ⟨a4, c4, rfl, k4, m4⟩ := f4
  obtain ⟨a5, c5, rfl, k5, m5⟩ := f5
  obtain ⟨a6, c6, rfl, k6, m6⟩ := f6
  obtain ⟨a7, c7, rfl, k7, m7⟩ := f7
  obtain ⟨a8, c8, rfl, k8, m8⟩ := f8
  exact ⟨u0, u1, a2, c2, u2, a3, c3, u3, a4, c4, u4, a5, c5, u5, a6, c6, u6, a7, c7, u7, a8, c8, u8, rfl, rfl, ⟨k2, m2⟩, ⟨k3, m3⟩, ⟨k4, m4⟩, ⟨k5, m5⟩, ⟨k6, m6⟩, ⟨k7, m7⟩, ⟨k8, m8⟩⟩
theorem mk_store {w : World} {S : Nat → Prop} (x0 : Int) (x1 : Int) (a2 : Option Addr) (c2 : Nat) (v2 : List (Vl F_job)) (a3 : Option Addr) (c3 : Nat) (v3 : List (Vl F_job)) (a4 : Option Addr) (c4 : Nat) (v4 : List (Vl F_node)) (a5 : Option Addr) (c5 : Nat) (v5 : List (Vl F_alloc)) (a6 : Option Addr) (c6 : Nat) (v6 : List (Vl F_eval)) (a7 : Option Addr) (c7 : Nat) (v7 : List (Vl F_deploy)) (a8 : Option Addr) (c8 : Nat) (v8 : List (Vl F_seen)) (h2 : RepL w S F_job a2 v2) (h3 : RepL w S F_job a3 v3) (h4 : RepL w S F_node a4 v4) (h5 : RepL w S F_alloc a5 v5) (h6 : RepL w S F_eval a6 v6) (h7 : RepL w S F_deploy a7 v7) (h8 : RepL w S F_seen a8 v8) : Rep w S F_store [.int .i64 x0, .int .i64 x1, .slice a2 v2.length c2, .slice a3 v3.length c3, .slice a4 v4.length c4, .slice a5 v5.length c5, .slice a6 v6.length c6, .slice a7 v7.length c7, .slice a8 v8.length c8] (x0, x1, v2, v3, v4, v5, v6, v7, v8) := ⟨[.int .i64 x0], [.int .i64 x1, .slice a2 v2.length c2, .slice a3 v3.length c3, .slice a4 v4.length c4, .slice a5 v5.length c5, .slice a6 v6.length c6, .slice a7 v7.length c7, .slice a8 v8.length c8], rfl, rfl, ⟨[.int .i64 x1], [.slice a2 v2.length c2, .slice a3 v3.length c3, .slice a4 v4.length c4, .slice a5 v5.length c5, .slice a6 v6.length c6, .slice a7 v7.length c7, .slice a8 v8.length c8], rfl, rfl, ⟨[.slice a2 v2.length c2], [.slice a3 v3.length c3, .slice a4 v4.length c4, .slice a5 v5.length c5, .slice a6 v6.length c6, .slice a7 v7.length c7, .slice a8 v8.length c8], rfl, ⟨_, _, rfl, h2.1, h2.2⟩, ⟨[.slice a3 v3.length c3], [.slice a4 v4.length c4, .slice a5 v5.length c5, .slice a6 v6.length c6, .slice a7 v7.length c7, .slice a8 v8.length c8], rfl, ⟨_, _, rfl, h3.1, h3.2⟩, ⟨[.slice a4 v4.length c4], [.slice a5 v5.length c5, .slice a6 v6.length c6, .slice a7 v7.length c7, .slice a8 v8.length c8], rfl, ⟨_, _, rfl, h4.1, h4.2⟩, ⟨[.slice a5 v5.length c5], [.slice a6 v6.length c6, .slice a7 v7.length c7, .slice a8 v8.length c8], rfl, ⟨_, _, rfl, h5.1, h5.2⟩, ⟨[.slice a6 v6.length c6], [.slice a7 v7.length c7, .slice a8 v8.length c8], rfl, ⟨_, _, rfl, h6.1, h6.2⟩, ⟨[.slice a7 v7.length c7], [.slice a8 v8.length c8], rfl, ⟨_, _, rfl, h7.1, h7.2⟩, ⟨_, _, rfl, h8.1, h8.2⟩⟩⟩⟩⟩⟩⟩⟩⟩
theorem open_snapshot {w : World} {S : Nat → Prop} {cs : List Value} {v : Vl F_snapshot} (h : Rep w S F_snapshot cs v) :
    ∃ (x0 : Int) (x1 : Int) (y2_0 y2_1 : Value) (v2 : Vl F_conf) (a3 : Option Addr) (c3 : Nat) (v3 : List UInt8), cs = [.int .i64 x0, .int .i64 x1, y2_0, y2_1, .slice a3 v3.length c3] ∧ v = (x0, x1, v2, v3) ∧ Rep w S F_conf [y2_0, y2_1] v2 ∧ (v3.length ≤ c3 ∧ RepB w S a3 v3) := by
  obtain ⟨u0, u1, u2, u3⟩ := v
  obtain ⟨r0, q0, rfl, f0, h0⟩ := h
  obtain ⟨r1, q1, rfl, f1, h1⟩ := h0
  obtain ⟨r2, q2, rfl, f2, h2⟩ := h1
  have f3 := h2
  obtain rfl : r0 = _ := f0
  obtain rfl : r1 = _ := f1
  obtain ⟨y2_0, y2_1, rfl⟩ := list_len2 r2 f2.len
  obtain ⟨a3, c3, rfl, g3, k3, m3⟩ := f3
  exact ⟨u0, u1, y2_0, y2_1, u2, a3, c3, u3, rfl, rfl, f2, ⟨g3, k3, m3⟩⟩
theorem mk_snapshot {w : World} {S : Nat → Prop} (x0 : Int) (x1 : Int) (y2_0 y2_1 : Value) (v2 : Vl F_conf) (a3 : Option Addr) (c3 : Nat) (v3 : List UInt8) (h2 : Rep w S F_conf [y2_0, y2_1] v2) (h3 : (v3.length ≤ c3 ∧ RepB w S a3 v3)) : Rep w S F_snapshot [.int .i64 x0, .int .i64 x1, y2_0, y2_1, .slice a3 v3.length c3] (x0, x1, v2, v3) := ⟨[.int .i64 x0], [.int .i64 x1, y2_0, y2_1, .slice a3 v3.length c3], rfl, rfl, ⟨[.int .i64 x1], [y2_0, y2_1, .slice a3 v3.length c3], rfl, rfl, ⟨[y2_0, y2_1], [.slice a3 v3.length c3], rfl, h2, ⟨_, _, rfl, h3.1, h3.2.1, h3.2.2⟩⟩⟩⟩
theorem open_msg {w : World} {S : Nat → Prop} {cs : List Value} {v : Vl F_msg} (h : Rep w S F_msg cs v) :
    ∃ (x0 : Int) (x1 : Int) (x2 : Int) (x3 : Int) (x4 : Int) (x5 : Int) (x6 : Int) (x7 : Bool) (x8 : Int) (x9 : Int) (x10 : Int) (x11 : Int) (a12 : Option Addr) (c12 : Nat) (v12 : List (Vl F_entry)) (y13_0 y13_1 : Value) (v13 : Vl F_conf) (a14 : Option Addr) (c14 : Nat) (v14 : List UInt8) (y15_0 y15_1 y15_2 y15_3 y15_4 y15_5 y15_6 y15_7 y15_8 y15_9 y15_10 y15_11 y15_12 y15_13 y15_14 y15_15 y15_16 y15_17 y15_18 y15_19 y15_20 y15_21 y15_22 y15_23 y15_24 y15_25 y15_26 : Value) (v15 : Vl F_cmd) (y16_0 y16_1 y16_2 : Value) (v16 : Vl F_result), cs = [.int .i64 x0, .int .i64 x1, .int .i64 x2, .int .i64 x3, .int .i64 x4, .int .i64 x5, .int .i64 x6, .bool x7, .int .i64 x8, .int .i64 x9, .int .i64 x10, .int .i64 x11, .slice a12 v12.length c12, y13_0, y13_1, .slice a14 v14.length c14, y15_0, y15_1, y15_2, y15_3, y15_4, y15_5, y15_6, y15_7, y15_8, y15_9, y15_10, y15_11, y15_12, y15_13, y15_14, y15_15, y15_16, y15_17, y15_18, y15_19, y15_20, y15_21, y15_22, y15_23, y15_24, y15_25, y15_26, y16_0, y16_1, y16_2] ∧ v = (x0, x1, x2, x3, x4, x5, x6, x7, x8, x9, x10, x11, v12, v13, v14, v15, v16) ∧ RepL w S F_entry a12 v12 ∧ Rep w S F_conf [y13_0, y13_1] v13 ∧ (v14.length ≤ c14 ∧ RepB w S a14 v14) ∧ Rep w S F_cmd [y15_0, y15_1, y15_2, y15_3, y15_4, y15_5, y15_6, y15_7, y15_8, y15_9, y15_10, y15_11, y15_12, y15_13, y15_14, y15_15, y15_16, y15_17, y15_18, y15_19, y15_20, y15_21, y15_22, y15_23, y15_24, y15_25, y15_26] v15 ∧ Rep w S F_result [y16_0, y16_1, y16_2] v16 := by
  obtain ⟨u0, u1, u2, u3, u4, u5, u6, u7, u8, u9, u10, u11, u12, u13, u14, u15, u16⟩ := v
  obtain ⟨r0, q0, rfl, f0, h0⟩ := h
  obtain ⟨r1, q1, rfl, f1, h1⟩ := h0
  obtain ⟨r2, q2, rfl, f2, h2⟩ := h1
  obtain ⟨r3, q3, rfl, f3, h3⟩ := h2
  obtain ⟨r4, q4, rfl, f4, h4⟩ := h3
  obtain ⟨r5, q5, rfl, f5, h5⟩ := h4
  obtain ⟨r6, q6, rfl, f6, h6⟩ := h5
  obtain ⟨r7, q7, rfl, f7, h7⟩ := h6
  obtain ⟨r8, q8, rfl, f8, h8⟩ := h7
  obtain ⟨r9, q9, rfl, f9, h9⟩ := h8
  obtain ⟨r10, q10, rfl, f10, h10⟩ := h9
  obtain ⟨r11, q11, rfl, f11, h11⟩ := h10
  obtain ⟨r12, q12, rfl, f12, h12⟩ := h11
  obtain ⟨r13, q13, rfl, f13, h13⟩ := h12
  obtain ⟨r14, q14, rfl, f14, h14⟩ := h13
  obtain ⟨r15, q15, rfl, f15, h15⟩ := h14
  have f16 := h15
  obtain rfl : r0 = _ := f0
  obtain rfl : r1 = _ := f1
  obtain rfl : r2 = _ := f2
  obtain rfl : r3 = _ := f3
  obtain rfl : r4 = _ := f4
  obtain rfl : r5 = _ := f5
  obtain rfl : r6 = _ := f6
  obtain rfl : r7 = _ := f7
  obtain rfl : r8 = _ := f8
  obtain rfl : r9 = _ := f9
  obtain rfl : r10 = _ := f10
  obtain rfl : r11 = _ := f11
  obtain ⟨a12, c12, rfl, k12, m12⟩ := f12
  obtain ⟨y13_0, y13_1, rfl⟩ := list_len2 r13 f13.len
  obtain ⟨a14, c14, rfl, g14, k14, m14⟩ := f14
  obtain ⟨y15_0, y15_1, y15_2, y15_3, y15_4, y15_5, y15_6, y15_7, y15_8, y15_9, y15_10, y15_11, y15_12, y15_13, y15_14, y15_15, y15_16, y15_17, y15_18, y15_19, y15_20, y15_21, y15_22, y15_23, y15_24, y15_25, y15_26, rfl⟩ := list_len27 r15 f15.len
  obtain ⟨y16_0, y16_1, y16_2, rfl⟩ := list_len3 q15 f16.len
  exact ⟨u0, u1, u2, u3, u4, u5, u6, u7, u8, u9, u10, u11, a12, c12, u12, y13_0, y13_1, u13, a14, c14, u14, y15_0, y15_1, y15_2, y15_3, y15_4, y15_5, y15_6, y15_7, y15_8, y15_9, y15_10, y15_11, y15_12, y15_13, y15_14, y15_15, y15_16, y15_17, y15_18, y15_19, y15_20, y15_21, y15_22, y15_23, y15_24, y15_25, y15_26, u15, y16_0, y16_1, y16_2, u16, rfl, rfl, ⟨k12, m12⟩, f13, ⟨g14, k14, m14⟩, f15, f16⟩
theorem mk_msg {w : World} {S : Nat → Prop} (x0 : Int) (x1 : Int) (x2 : Int) (x3 : Int) (x4 : Int) (x5 : Int) (x6 : Int) (x7 : Bool) (x8 : Int) (x9 : Int) (x10 : Int) (x11 : Int) (a12 : Option Addr) (c12 : Nat) (v12 : List (Vl F_entry)) (y13_0 y13_1 : Value) (v13 : Vl F_conf) (a14 : Option Addr) (c14 : Nat) (v14 : List UInt8) (y15_0 y15_1 y15_2 y15_3 y15_4 y15_5 y15_6 y15_7 y15_8 y15_9 y15_10 y15_11 y15_12 y15_13 y15_14 y15_15 y15_16 y15_17 y15_18 y15_19 y15_20 y15_21 y15_22 y15_23 y15_24 y15_25 y15_26 : Value) (v15 : Vl F_cmd) (y16_0 y16_1 y16_2 : Value) (v16 : Vl F_result) (h12 : RepL w S F_entry a12 v12) (h13 : Rep w S F_conf [y13_0, y13_1] v13) (h14 : (v14.length ≤ c14 ∧ RepB w S a14 v14)) (h15 : Rep w S F_cmd [y15_0, y15_1, y15_2, y15_3, y15_4, y15_5, y15_6, y15_7, y15_8, y15_9, y15_10, y15_11, y15_12, y15_13, y15_14, y15_15, y15_16, y15_17, y15_18, y15_19, y15_20, y15_21, y15_22, y15_23, y15_24, y15_25, y15_26] v15) (h16 : Rep w S F_result [y16_0, y16_1, y16_2] v16) : Rep w S F_msg [.int .i64 x0, .int .i64 x1, .int .i64 x2, .int .i64 x3, .int .i64 x4, .int .i64 x5, .int .i64 x6, .bool x7, .int .i64 x8, .int .i64 x9, .int .i64 x10, .int .i64 x11, .slice a12 v12.length c12, y13_0, y13_1, .slice a14 v14.length c14, y15_0, y15_1, y15_2, y15_3, y15_4, y15_5, y15_6, y15_7, y15_8, y15_9, y15_10, y15_11, y15_12, y15_13, y15_14, y15_15, y15_16, y15_17, y15_18, y15_19, y15_20, y15_21, y15_22, y15_23, y15_24, y15_25, y15_26, y16_0, y16_1, y16_2] (x0, x1, x2, x3, x4, x5, x6, x7, x8, x9, x10, x11, v12, v13, v14, v15, v16) := ⟨[.int .i64 x0], [.int .i64 x1, .int .i64 x2, .int .i64 x3, .int .i64 x4, .int .i64 x5, .int .i64 x6, .bool x7, .int .i64 x8, .int .i64 x9, .int .i64 x10, .int .i64 x11, .slice a12 v12.length c12, y13_0, y13_1, .slice a14 v14.length c14, y15_0, y15_1, y15_2, y15_3, y15_4, y15_5, y15_6, y15_7, y15_8, y15_9, y15_10, y15_11, y15_12, y15_13, y15_14, y15_15, y15_16, y15_17, y15_18, y15_19, y15_20, y15_21, y15_22, y15_23, y15_24, y15_25, y15_26, y16_0, y16_1, y16_2], rfl, rfl, ⟨[.int .i64 x1], [.int .i64 x2, .int .i64 x3, .int .i64 x4, .int .i64 x5, .int .i64 x6, .bool x7, .int .i64 x8, .int .i64 x9, .int .i64 x10, .int .i64 x11, .slice a12 v12.length c12, y13_0, y13_1, .slice a14 v14.length c14, y15_0, y15_1, y15_2, y15_3, y15_4, y15_5, y15_6, y15_7, y15_8, y15_9, y15_10, y15_11, y15_12, y15_13, y15_14, y15_15, y15_16, y15_17, y15_18, y15_19, y15_20, y15_21, y15_22, y15_23, y15_24, y15_25, y15_26, y16_0, y16_1, y16_2], rfl, rfl, ⟨[.int .i64 x2], [.int .i64 x3, .int .i64 x4, .int .i64 x5, .int .i64 x6, .bool x7, .int .i64 x8, .int .i64 x9, .int .i64 x10, .int .i64 x11, .slice a12 v12.length c12, y13_0, y13_1, .slice a14 v14.length c14, y15_0, y15_1, y15_2, y15_3, y15_4, y15_5, y15_6, y15_7, y15_8, y15_9, y15_10, y15_11, y15_12, y15_13, y15_14, y15_15, y15_16, y15_17, y15_18, y15_19, y15_20, y15_21, y15_22, y15_23, y15_24, y15_25, y15_26, y16_0, y16_1, y16_2], rfl, rfl, ⟨[.int .i64 x3], [.int .i64 x4, .int .i64 x5, .int .i64 x6, .bool x7, .int .i64 x8, .int .i64 x9, .int .i64 x10, .int .i64 x11, .slice a12 v12.length c12, y13_0, y13_1, .slice a14 v14.length c14, y15_0, y15_1, y15_2, y15_3, y15_4, y15_5, y15_6, y15_7, y15_8, y15_9, y15_10, y15_11, y15_12, y15_13, y15_14, y15_15, y15_16, y15_17, y15_18, y15_19, y15_20, y15_21, y15_22, y15_23, y15_24, y15_25, y15_26, y16_0, y16_1, y16_2], rfl, rfl, ⟨[.int .i64 x4], [.int .i64 x5, .int .i64 x6, .bool x7, .int .i64 x8, .int .i64 x9, .int .i64 x10, .int .i64 x11, .slice a12 v12.length c12, y13_0, y13_1, .slice a14 v14.length c14, y15_0, y15_1, y15_2, y15_3, y15_4, y15_5, y15_6, y15_7, y15_8, y15_9, y15_10, y15_11, y15_12, y15_13, y15_14, y15_15, y15_16, y15_17, y15_18, y15_19, y15_20, y15_21, y15_22, y15_23, y15_24, y15_25, y15_26, y16_0, y16_1, y16_2], rfl, rfl, ⟨[.int .i64 x5], [.int .i64 x6, .bool x7, .int .i64 x8, .int .i64 x9, .int .i64 x10, .int .i64 x11, .slice a12 v12.length c12, y13_0, y13_1, .slice a14 v14.length c14, y15_0, y15_1, y15_2, y15_3, y15_4, y15_5, y15_6, y15_7, y15_8, y15_9, y15_10, y15_11, y15_12, y15_13, y15_14, y15_15, y15_16, y15_17, y15_18, y15_19, y15_20, y15_21, y15_22, y15_23, y15_24, y15_25, y15_26, y16_0, y16_1, y16_2], rfl, rfl, ⟨[.int .i64 x6], [.bool x7, .int .i64 x8, .int .i64 x9, .int .i64 x10, .int .i64 x11, .slice a12 v12.length c12, y13_0, y13_1, .slice a14 v14.length c14, y15_0, y15_1, y15_2, y15_3, y15_4, y15_5, y15_6, y15_7, y15_8, y15_9, y15_10, y15_11, y15_12, y15_13, y15_14, y15_15, y15_16, y15_17, y15_18, y15_19, y15_20, y15_21, y15_22, y15_23, y15_24, y15_25, y15_26, y16_0, y16_1, y16_2], rfl, rfl, ⟨[.bool x7], [.int .i64 x8, .int .i64 x9, .int .i64 x10, .int .i64 x11, .slice a12 v12.length c12, y13_0, y13_1, .slice a14 v14.length c14, y15_0, y15_1, y15_2, y15_3, y15_4, y15_5, y15_6, y15_7, y15_8, y15_9, y15_10, y15_11, y15_12, y15_13, y15_14, y15_15, y15_16, y15_17, y15_18, y15_19, y15_20, y15_21, y15_22, y15_23, y15_24, y15_25, y15_26, y16_0, y16_1, y16_2], rfl, rfl, ⟨[.int .i64 x8], [.int .i64 x9, .int .i64 x10, .int .i64 x11, .slice a12 v12.length c12, y13_0, y13_1, .slice a14 v14.length c14, y15_0, y15_1, y15_2, y15_3, y15_4, y15_5, y15_6, y15_7, y15_8, y15_9, y15_10, y15_11, y15_12, y15_13, y15_14, y15_15, y15_16, y15_17, y15_18, y15_19, y15_20, y15_21, y15_22, y15_23, y15_24, y15_25, y15_26, y16_0, y16_1, y16_2], rfl, rfl, ⟨[.int .i64 x9], [.int .i64 x10, .int .i64 x11, .slice a12 v12.length c12, y13_0, y13_1, .slice a14 v14.length c14, y15_0, y15_1, y15_2, y15_3, y15_4, y15_5, y15_6, y15_7, y15_8, y15_9, y15_10, y15_11, y15_12, y15_13, y15_14, y15_15, y15_16, y15_17, y15_18, y15_19, y15_20, y15_21, y15_22, y15_23, y15_24, y15_25, y15_26, y16_0, y16_1, y16_2], rfl, rfl, ⟨[.int .i64 x10], [.int .i64 x11, .slice a12 v12.length c12, y13_0, y13_1, .slice a14 v14.length c14, y15_0, y15_1, y15_2, y15_3, y15_4, y15_5, y15_6, y15_7, y15_8, y15_9, y15_10, y15_11, y15_12, y15_13, y15_14, y15_15, y15_16, y15_17, y15_18, y15_19, y15_20, y15_21, y15_22, y15_23, y15_24, y15_25, y15_26, y16_0, y16_1, y16_2], rfl, rfl, ⟨[.int .i64 x11], [.slice a12 v12.length c12, y13_0, y13_1, .slice a14 v14.length c14, y15_0, y15_1, y15_2, y15_3, y15_4, y15_5, y15_6, y15_7, y15_8, y15_9, y15_10, y15_11, y15_12, y15_13, y15_14, y15_15, y15_16, y15_17, y15_18, y15_19, y15_20, y15_21, y15_22, y15_23, y15_24, y15_25, y15_26, y16_0, y16_1, y16_2], rfl, rfl, ⟨[.slice a12 v12.length c12], [y13_0, y13_1, .slice a14 v14.length c14, y15_0, y15_1, y15_2, y15_3, y15_4, y15_5, y15_6, y15_7, y15_8, y15_9, y15_10, y15_11, y15_12, y15_13, y15_14, y15_15, y15_16, y15_17, y15_18, y15_19, y15_20, y15_21, y15_22, y15_23, y15_24, y15_25, y15_26, y16_0, y16_1, y16_2], rfl, ⟨_, _, rfl, h12.1, h12.2⟩, ⟨[y13_0, y13_1], [.slice a14 v14.length c14, y15_0, y15_1, y15_2, y15_3, y15_4, y15_5, y15_6, y15_7, y15_8, y15_9, y15_10, y15_11, y15_12, y15_13, y15_14, y15_15, y15_16, y15_17, y15_18, y15_19, y15_20, y15_21, y15_22, y15_23, y15_24, y15_25, y15_26, y16_0, y16_1, y16_2], rfl, h13, ⟨[.slice a14 v14.length c14], [y15_0, y15_1, y15_2, y15_3, y15_4, y15_5, y15_6, y15_7, y15_8, y15_9, y15_10, y15_11, y15_12, y15_13, y15_14, y15_15, y15_16, y15_17, y15_18, y15_19, y15_20, y15_21, y15_22, y15_23, y15_24, y15_25, y15_26, y16_0, y16_1, y16_2], rfl, ⟨_, _, rfl, h14.1, h14.2.1, h14.2.2⟩, ⟨[y15_0, y15_1, y15_2, y15_3, y15_4, y15_5, y15_6, y15_7, y15_8, y15_9, y15_10, y15_11, y15_12, y15_13, y15_14, y15_15, y15_16, y15_17, y15_18, y15_19, y15_20, y15_21, y15_22, y15_23, y15_24, y15_25, y15_26], [y16_0, y16_1, y16_2], rfl, h15, h16⟩⟩⟩⟩⟩⟩⟩⟩⟩⟩⟩⟩⟩⟩⟩⟩
theorem en_res (x0 : Int) (x1 : Int) : en F_res (x0, x1) = (((enN x0).1 ++ (enN x1).1), ((enN x0).2 || (enN x1).2)) := rfl
theorem en_conf (v0 : List (Vl .num)) (v1 : List (Vl .num)) : en F_conf (v0, v1) = (((en (.lst .num) v0).1 ++ (en (.lst .num) v1).1), ((en (.lst .num) v0).2 || (en (.lst .num) v1).2)) := rfl
theorem en_alloc (x0 : Int) (x1 : Int) (x2 : Int) (x3 : Int) (x4 : Int) (x5 : Int) (x6 : Int) (v7 : Vl F_res) (x8 : Bool) (x9 : Int) : en F_alloc (x0, x1, x2, x3, x4, x5, x6, v7, x8, x9) = (((enN x0).1 ++ ((enN x1).1 ++ ((enN x2).1 ++ ((enN x3).1 ++ ((enN x4).1 ++ ((enN x5).1 ++ ((enN x6).1 ++ ((en F_res v7).1 ++ ((en .tru x8).1 ++ (enN x9).1))))))))), ((enN x0).2 || ((enN x1).2 || ((enN x2).2 || ((enN x3).2 || ((enN x4).2 || ((enN x5).2 || ((enN x6).2 || ((en F_res v7).2 || ((en .tru x8).2 || (enN x9).2)))))))))) := rfl
theorem en_report (x0 : Int) (x1 : Int) : en F_report (x0, x1) = (((enN x0).1 ++ (enN x1).1), ((enN x0).2 || (enN x1).2)) := rfl
theorem en_group (x0 : Int) (v1 : Vl F_res) : en F_group (x0, v1) = (((enN x0).1 ++ (en F_res v1).1), ((enN x0).2 || (en F_res v1).2)) := rfl
theorem en_job (x0 : Int) (x1 : Int) (x2 : Int) (x3 : Int) (v4 : List (Vl F_group)) (x5 : Int) (x6 : Bool) : en F_job (x0, x1, x2, x3, v4, x5, x6) = (((enN x0).1 ++ ((enN x1).1 ++ ((enN x2).1 ++ ((enN x3).1 ++ ((en (.lst F_group) v4).1 ++ ((enN x5).1 ++ (en .tru x6).1)))))), ((enN x0).2 || ((enN x1).2 || ((enN x2).2 || ((enN x3).2 || ((en (.lst F_group) v4).2 || ((enN x5).2 || (en .tru x6).2))))))) := rfl
theorem en_node (x0 : Int) (v1 : Vl F_res) (x2 : Bool) (x3 : Bool) (x4 : Int) (x5 : Int) (x6 : Int) : en F_node (x0, v1, x2, x3, x4, x5, x6) = (((enN x0).1 ++ ((en F_res v1).1 ++ ((en .tru x2).1 ++ ((en .tru x3).1 ++ ((enN x4).1 ++ ((enN x5).1 ++ (enN x6).1)))))), ((enN x0).2 || ((en F_res v1).2 || ((en .tru x2).2 || ((en .tru x3).2 || ((enN x4).2 || ((enN x5).2 || (enN x6).2))))))) := rfl
theorem en_plan (x0 : Int) (x1 : Int) (x2 : Int) (v3 : List (Vl .num)) (v4 : List (Vl F_alloc)) (x5 : Bool) : en F_plan (x0, x1, x2, v3, v4, x5) = (((enN x0).1 ++ ((enN x1).1 ++ ((enN x2).1 ++ ((en (.lst .num) v3).1 ++ ((en (.lst F_alloc) v4).1 ++ (en .tru x5).1))))), ((enN x0).2 || ((enN x1).2 || ((enN x2).2 || ((en (.lst .num) v3).2 || ((en (.lst F_alloc) v4).2 || (en .tru x5).2)))))) := rfl
theorem en_result (x0 : Int) (x1 : Int) (v2 : List (Vl F_alloc)) : en F_result (x0, x1, v2) = (((enN x0).1 ++ ((enN x1).1 ++ (en (.lst F_alloc) v2).1)), ((enN x0).2 || ((enN x1).2 || (en (.lst F_alloc) v2).2))) := rfl
theorem en_cmd (x0 : Int) (x1 : Int) (x2 : Int) (v3 : Vl F_job) (v4 : Vl F_node) (v5 : List (Vl F_report)) (v6 : Vl F_plan) (v7 : Vl F_conf) : en F_cmd (x0, x1, x2, v3, v4, v5, v6, v7) = (((enN x0).1 ++ ((enN x1).1 ++ ((enN x2).1 ++ ((en F_job v3).1 ++ ((en F_node v4).1 ++ ((en (.lst F_report) v5).1 ++ ((en F_plan v6).1 ++ (en F_conf v7).1))))))), ((enN x0).2 || ((enN x1).2 || ((enN x2).2 || ((en F_job v3).2 || ((en F_node v4).2 || ((en (.lst F_report) v5).2 || ((en F_plan v6).2 || (en F_conf v7).2)))))))) := rfl
theorem en_entry (x0 : Int) (x1 : Int) (v2 : Vl F_cmd) : en F_entry (x0, x1, v2) = (((enN x0).1 ++ ((enN x1).1 ++ (en F_cmd v2).1)), ((enN x0).2 || ((enN x1).2 || (en F_cmd v2).2))) := rfl
theorem en_eval (x0 : Int) (x1 : Int) (x2 : Int) (x3 : Int) : en F_eval (x0, x1, x2, x3) = (((enN x0).1 ++ ((enN x1).1 ++ ((enN x2).1 ++ (enN x3).1))), ((enN x0).2 || ((enN x1).2 || ((enN x2).2 || (enN x3).2)))) := rfl
theorem en_deploy (x0 : Int) (x1 : Int) (x2 : Int) (x3 : Int) : en F_deploy (x0, x1, x2, x3) = (((enN x0).1 ++ ((enN x1).1 ++ ((enN x2).1 ++ (enN x3).1))), ((enN x0).2 || ((enN x1).2 || ((enN x2).2 || (enN x3).2)))) := rfl
theorem en_seen (x0 : Int) (x1 : Int) (v2 : Vl F_result) : en F_seen (x0, x1, v2) = (((enN x0).1 ++ ((enN x1).1 ++ (en F_result v2).1)), ((enN x0).2 || ((enN x1).2 || (en F_result v2).2))) := rfl
theorem en_store (x0 : Int) (x1 : Int) (v2 : List (Vl F_job)) (v3 : List (Vl F_job)) (v4 : List (Vl F_node)) (v5 : List (Vl F_alloc)) (v6 : List (Vl F_eval)) (v7 : List (Vl F_deploy)) (v8 : List (Vl F_seen)) : en F_store (x0, x1, v2, v3, v4, v5, v6, v7, v8) = (((enN x0).1 ++ ((enN x1).1 ++ ((en (.lst F_job) v2).1 ++ ((en (.lst F_job) v3).1 ++ ((en (.lst F_node) v4).1 ++ ((en (.lst F_alloc) v5).1 ++ ((en (.lst F_eval) v6).1 ++ ((en (.lst F_deploy) v7).1 ++ (en (.lst F_seen) v8).1)))))))), ((enN x0).2 || ((enN x1).2 || ((en (.lst F_job) v2).2 || ((en (.lst F_job) v3).2 || ((en (.lst F_node) v4).2 || ((en (.lst F_alloc) v5).2 || ((en (.lst F_eval) v6).2 || ((en (.lst F_deploy) v7).2 || (en (.lst F_seen) v8).2))))))))) := rfl
theorem en_snapshot (x0 : Int) (x1 : Int) (v2 : Vl F_conf) (v3 : List UInt8) : en F_snapshot (x0, x1, v2, v3) = (((enN x0).1 ++ ((enN x1).1 ++ ((en F_conf v2).1 ++ (en .byt v3).1))), ((enN x0).2 || ((enN x1).2 || ((en F_conf v2).2 || (en .byt v3).2)))) := rfl
theorem en_msg (x0 : Int) (x1 : Int) (x2 : Int) (x3 : Int) (x4 : Int) (x5 : Int) (x6 : Int) (x7 : Bool) (x8 : Int) (x9 : Int) (x10 : Int) (x11 : Int) (v12 : List (Vl F_entry)) (v13 : Vl F_conf) (v14 : List UInt8) (v15 : Vl F_cmd) (v16 : Vl F_result) : en F_msg (x0, x1, x2, x3, x4, x5, x6, x7, x8, x9, x10, x11, v12, v13, v14, v15, v16) = (((enN x0).1 ++ ((enN x1).1 ++ ((enN x2).1 ++ ((enN x3).1 ++ ((enN x4).1 ++ ((enN x5).1 ++ ((enN x6).1 ++ ((en .tru x7).1 ++ ((enN x8).1 ++ ((enN x9).1 ++ ((enN x10).1 ++ ((enN x11).1 ++ ((en (.lst F_entry) v12).1 ++ ((en F_conf v13).1 ++ ((en .byt v14).1 ++ ((en F_cmd v15).1 ++ (en F_result v16).1)))))))))))))))), ((enN x0).2 || ((enN x1).2 || ((enN x2).2 || ((enN x3).2 || ((enN x4).2 || ((enN x5).2 || ((enN x6).2 || ((en .tru x7).2 || ((enN x8).2 || ((enN x9).2 || ((enN x10).2 || ((enN x11).2 || ((en (.lst F_entry) v12).2 || ((en F_conf v13).2 || ((en .byt v14).2 || ((en F_cmd v15).2 || (en F_result v16).2))))))))))))))))) := rfl
theorem len_num (v : Vl .num) : (en .num v).1.length ≤ 6 := by have h := en_len .num v; rwa [show mx .num = 6 from by kernel_rfl] at h
theorem len_tru (v : Vl .tru) : (en .tru v).1.length ≤ 6 := by have h := en_len .tru v; rwa [show mx .tru = 6 from by kernel_rfl] at h
theorem len_byt (v : Vl .byt) : (en .byt v).1.length ≤ 65542 := by have h := en_len .byt v; rwa [show mx .byt = 65542 from by kernel_rfl] at h
theorem len_res (v : Vl F_res) : (en F_res v).1.length ≤ 12 := by have h := en_len F_res v; rwa [show mx F_res = 12 from by kernel_rfl] at h
theorem len_conf (v : Vl F_conf) : (en F_conf v).1.length ≤ 780 := by have h := en_len F_conf v; rwa [show mx F_conf = 780 from by kernel_rfl] at h
theorem len_alloc (v : Vl F_alloc) : (en F_alloc v).1.length ≤ 66 := by have h := en_len F_alloc v; rwa [show mx F_alloc = 66 from by kernel_rfl] at h
theorem len_report (v : Vl F_report) : (en F_report v).1.length ≤ 12 := by have h := en_len F_report v; rwa [show mx F_report = 12 from by kernel_rfl] at h
theorem len_group (v : Vl F_group) : (en F_group v).1.length ≤ 18 := by have h := en_len F_group v; rwa [show mx F_group = 18 from by kernel_rfl] at h
theorem len_job (v : Vl F_job) : (en F_job v).1.length ≤ 1194 := by have h := en_len F_job v; rwa [show mx F_job = 1194 from by kernel_rfl] at h
theorem len_node (v : Vl F_node) : (en F_node v).1.length ≤ 48 := by have h := en_len F_node v; rwa [show mx F_node = 48 from by kernel_rfl] at h
theorem len_plan (v : Vl F_plan) : (en F_plan v).1.length ≤ 4644 := by have h := en_len F_plan v; rwa [show mx F_plan = 4644 from by kernel_rfl] at h
theorem len_result (v : Vl F_result) : (en F_result v).1.length ≤ 4242 := by have h := en_len F_result v; rwa [show mx F_result = 4242 from by kernel_rfl] at h
theorem len_cmd (v : Vl F_cmd) : (en F_cmd v).1.length ≤ 7458 := by have h := en_len F_cmd v; rwa [show mx F_cmd = 7458 from by kernel_rfl] at h
theorem len_entry (v : Vl F_entry) : (en F_entry v).1.length ≤ 7470 := by have h := en_len F_entry v; rwa [show mx F_entry = 7470 from by kernel_rfl] at h
theorem len_eval (v : Vl F_eval) : (en F_eval v).1.length ≤ 24 := by have h := en_len F_eval v; rwa [show mx F_eval = 24 from by kernel_rfl] at h
theorem len_deploy (v : Vl F_deploy) : (en F_deploy v).1.length ≤ 24 := by have h := en_len F_deploy v; rwa [show mx F_deploy = 24 from by kernel_rfl] at h
theorem len_seen (v : Vl F_seen) : (en F_seen v).1.length ≤ 4254 := by have h := en_len F_seen v; rwa [show mx F_seen = 4254 from by kernel_rfl] at h
theorem len_store (v : Vl F_store) : (en F_store v).1.length ≤ 435510 := by have h := en_len F_store v; rwa [show mx F_store = 435510 from by kernel_rfl] at h
theorem len_snapshot (v : Vl F_snapshot) : (en F_snapshot v).1.length ≤ 66334 := by have h := en_len F_snapshot v; rwa [show mx F_snapshot = 66334 from by kernel_rfl] at h
theorem len_msg (v : Vl F_msg) : (en F_msg v).1.length ≤ 556180 := by have h := en_len F_msg v; rwa [show mx F_msg = 556180 from by kernel_rfl] at h
theorem len_l_num (v : Vl (.lst .num)) : (en (.lst .num) v).1.length ≤ 390 := by have h := en_len (.lst .num) v; rwa [show mx (.lst .num) = 390 from by kernel_rfl] at h
theorem len_l_res (v : Vl (.lst F_res)) : (en (.lst F_res) v).1.length ≤ 774 := by have h := en_len (.lst F_res) v; rwa [show mx (.lst F_res) = 774 from by kernel_rfl] at h
theorem len_l_conf (v : Vl (.lst F_conf)) : (en (.lst F_conf) v).1.length ≤ 49926 := by have h := en_len (.lst F_conf) v; rwa [show mx (.lst F_conf) = 49926 from by kernel_rfl] at h
theorem len_l_alloc (v : Vl (.lst F_alloc)) : (en (.lst F_alloc) v).1.length ≤ 4230 := by have h := en_len (.lst F_alloc) v; rwa [show mx (.lst F_alloc) = 4230 from by kernel_rfl] at h
theorem len_l_report (v : Vl (.lst F_report)) : (en (.lst F_report) v).1.length ≤ 774 := by have h := en_len (.lst F_report) v; rwa [show mx (.lst F_report) = 774 from by kernel_rfl] at h
theorem len_l_group (v : Vl (.lst F_group)) : (en (.lst F_group) v).1.length ≤ 1158 := by have h := en_len (.lst F_group) v; rwa [show mx (.lst F_group) = 1158 from by kernel_rfl] at h
theorem len_l_job (v : Vl (.lst F_job)) : (en (.lst F_job) v).1.length ≤ 76422 := by have h := en_len (.lst F_job) v; rwa [show mx (.lst F_job) = 76422 from by kernel_rfl] at h
theorem len_l_node (v : Vl (.lst F_node)) : (en (.lst F_node) v).1.length ≤ 3078 := by have h := en_len (.lst F_node) v; rwa [show mx (.lst F_node) = 3078 from by kernel_rfl] at h
theorem len_l_plan (v : Vl (.lst F_plan)) : (en (.lst F_plan) v).1.length ≤ 297222 := by have h := en_len (.lst F_plan) v; rwa [show mx (.lst F_plan) = 297222 from by kernel_rfl] at h
theorem len_l_result (v : Vl (.lst F_result)) : (en (.lst F_result) v).1.length ≤ 271494 := by have h := en_len (.lst F_result) v; rwa [show mx (.lst F_result) = 271494 from by kernel_rfl] at h
theorem len_l_cmd (v : Vl (.lst F_cmd)) : (en (.lst F_cmd) v).1.length ≤ 477318 := by have h := en_len (.lst F_cmd) v; rwa [show mx (.lst F_cmd) = 477318 from by kernel_rfl] at h
theorem len_l_entry (v : Vl (.lst F_entry)) : (en (.lst F_entry) v).1.length ≤ 478086 := by have h := en_len (.lst F_entry) v; rwa [show mx (.lst F_entry) = 478086 from by kernel_rfl] at h
theorem len_l_eval (v : Vl (.lst F_eval)) : (en (.lst F_eval) v).1.length ≤ 1542 := by have h := en_len (.lst F_eval) v; rwa [show mx (.lst F_eval) = 1542 from by kernel_rfl] at h
theorem len_l_deploy (v : Vl (.lst F_deploy)) : (en (.lst F_deploy) v).1.length ≤ 1542 := by have h := en_len (.lst F_deploy) v; rwa [show mx (.lst F_deploy) = 1542 from by kernel_rfl] at h
theorem len_l_seen (v : Vl (.lst F_seen)) : (en (.lst F_seen) v).1.length ≤ 272262 := by have h := en_len (.lst F_seen) v; rwa [show mx (.lst F_seen) = 272262 from by kernel_rfl] at h
theorem len_l_store (v : Vl (.lst F_store)) : (en (.lst F_store) v).1.length ≤ 27872646 := by have h := en_len (.lst F_store) v; rwa [show mx (.lst F_store) = 27872646 from by kernel_rfl] at h
theorem len_l_snapshot (v : Vl (.lst F_snapshot)) : (en (.lst F_snapshot) v).1.length ≤ 4245382 := by have h := en_len (.lst F_snapshot) v; rwa [show mx (.lst F_snapshot) = 4245382 from by kernel_rfl] at h
theorem len_l_msg (v : Vl (.lst F_msg)) : (en (.lst F_msg) v).1.length ≤ 35595526 := by have h := en_len (.lst F_msg) v; rwa [show mx (.lst F_msg) = 35595526 from by kernel_rfl] at h
end Go.Proofs.YtpbokgeaolpiaabGreat
