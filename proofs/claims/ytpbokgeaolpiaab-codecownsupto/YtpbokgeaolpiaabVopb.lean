/- An argument with bytes that came in: a message or a snapshot holds a value, in blocks that are there. Made by program (wip/gen/opnb.py). -/
import Derived.Test.YtpbokgeaolpiaabVopu
namespace Go.Proofs.Ytpbokgeaolpiaab
open Go.ChangeShapes Go.WideShapes Go.ChangeAt Go.RowKit
section
variable {H : Type} {enc : TypeId × Value → H} {w : World}
theorem ut_byt {fuel : Nat} {cs : List Value} {x : DataW H × List MemPlace} (hb : Rows.uptoBulk x.1 ≤ 1048576) (h : DataW.trod enc Try.prog w 0 SP true fuel 33 cs = some x) : ∃ v, Rep w (fun b => b < w.heap.size) .byt cs v ∧ szb .byt v ≤ 6 * Rows.uptoBulk x.1 := by
  rcases open_ints Try.underlying33 Try.underlying5 Try.cells5 h with ⟨hcs, _⟩ | ⟨y, len, cap, zs, hcs, _, hl, hm, hz, hx, hcell, hwz⟩
  · have := bulk_pos x.1
    subst hcs
    exact ⟨[], ⟨none, 0, rfl, Nat.le_refl _, ⟨by simp, fun h => absurd rfl h⟩, fun h => absurd rfl h⟩, by show 6 + 0 ≤ _; omega⟩
  · subst hcs
    simp only [SP, if_true] at hz
    have hbk : len + 1 ≤ Rows.uptoBulk x.1 := by
      have hx1 : x.1 = _ := congrArg Prod.fst hx
      rw [hx1]
      simp only [Rows.uptoBulk]
      have h2 := bulk_count (lits (H := H) .u8 (zs.take len))
      simp only [lits, List.length_map, List.length_take] at h2 ⊢
      omega
    have hlen : (bytesOfInts (zs.take len)).length = len := by simp [bytesOfInts]; omega
    refine ⟨bytesOfInts (zs.take len), ⟨some y, cap, by rw [hlen], by rw [hlen]; exact hl, ⟨by rw [hlen]; omega, fun hne => ?_⟩, fun hne z hz2 => ?_⟩, by show 6 + (bytesOfInts (zs.take len)).length ≤ _; rw [hlen]; omega⟩
    · have hpos : 0 < len := by rw [← hlen]; exact List.length_pos_iff.2 hne
      obtain ⟨b, off, spot⟩ := y
      have hc0 := hcell 0 (by omega)
      have hspot : spot = none := by simpa [Addr.add] using World.cell?_spot hc0
      subst hspot
      refine ⟨b, off, rfl, World.block_lt_of_cell? w _ (by simpa [Addr.add] using hc0), fun j hj => ?_⟩
      have hj2 : j < len := by rw [hlen] at hj; exact hj
      rw [bat_bytesOfInts zs hwz len j hj2 (by omega), ← hcell j (by omega), Addr.add_lit]
    · have hpos : 0 < len := by rw [← hlen]; exact List.length_pos_iff.2 hne
      cases hz2
      have hc0 := hcell 0 (by omega)
      have := World.block_lt_of_cell? w _ hc0
      have e : (y.add 0).block = y.block := by unfold Addr.add; split <;> rfl
      rw [e] at this
      exact this

theorem ll17 {α : Type} (l : List α) (h : l.length = 17) : ∃ y0 y1 y2 y3 y4 y5 y6 y7 y8 y9 y10 y11 y12 y13 y14 y15 y16, l = [y0, y1, y2, y3, y4, y5, y6, y7, y8, y9, y10, y11, y12, y13, y14, y15, y16] := by
  match l, h with
  | [y0, y1, y2, y3, y4, y5, y6, y7, y8, y9, y10, y11, y12, y13, y14, y15, y16], _ => exact ⟨_, _, _, _, _, _, _, _, _, _, _, _, _, _, _, _, _, rfl⟩

set_option maxHeartbeats 4000000 in
theorem ut_msg {fuel : Nat} {cs : List Value} {x : DataW H × List MemPlace} (hb : Rows.uptoBulk x.1 ≤ 1048576) (h : DataW.trod enc Try.prog w 0 SP true fuel 69 cs = some x) : ∃ v, Rep w (fun b => b < w.heap.size) F_msg cs v ∧ szb F_msg v ≤ 6 * Rows.uptoBulk x.1 := by
  obtain ⟨xs, n, rfl, rfl, hl, hlen, hf⟩ := DataW.trod_struct Try.underlying69 h
  rw [show Try.prog.cellsOf 69 = 46 from by kernel_rfl] at hl
  obtain ⟨z0, z1, z2, z3, z4, z5, z6, z7, z8, z9, z10, z11, z12, z13, z14, z15, z16, rfl⟩ := ll17 xs hlen
  obtain ⟨zl, hzl⟩ : ∃ zl, zl = ([z0, z1, z2, z3, z4, z5, z6, z7, z8, z9, z10, z11, z12, z13, z14, z15, z16].map (·.1)) := ⟨_, rfl⟩
  simp only [Rows.uptoBulk] at hb
  rw [← hzl] at hb
  have g0 : DataW.trod enc Try.prog w 0 SP true n 3 ((cs.drop 0).take (Try.prog.cellsOf 3)) = some z0 := hf 0 _ rfl
  rw [show Try.prog.cellsOf 3 = 1 from by kernel_rfl] at g0
  obtain ⟨v0, r0, b0⟩ := ut_num (S := fun b => b < w.heap.size) (by kernel_rfl) g0
  have g1 : DataW.trod enc Try.prog w 0 SP true n 3 ((cs.drop 1).take (Try.prog.cellsOf 3)) = some z1 := hf 1 _ rfl
  rw [show Try.prog.cellsOf 3 = 1 from by kernel_rfl] at g1
  obtain ⟨v1, r1, b1⟩ := ut_num (S := fun b => b < w.heap.size) (by kernel_rfl) g1
  have g2 : DataW.trod enc Try.prog w 0 SP true n 3 ((cs.drop 2).take (Try.prog.cellsOf 3)) = some z2 := hf 2 _ rfl
  rw [show Try.prog.cellsOf 3 = 1 from by kernel_rfl] at g2
  obtain ⟨v2, r2, b2⟩ := ut_num (S := fun b => b < w.heap.size) (by kernel_rfl) g2
  have g3 : DataW.trod enc Try.prog w 0 SP true n 3 ((cs.drop 3).take (Try.prog.cellsOf 3)) = some z3 := hf 3 _ rfl
  rw [show Try.prog.cellsOf 3 = 1 from by kernel_rfl] at g3
  obtain ⟨v3, r3, b3⟩ := ut_num (S := fun b => b < w.heap.size) (by kernel_rfl) g3
  have g4 : DataW.trod enc Try.prog w 0 SP true n 3 ((cs.drop 4).take (Try.prog.cellsOf 3)) = some z4 := hf 4 _ rfl
  rw [show Try.prog.cellsOf 3 = 1 from by kernel_rfl] at g4
  obtain ⟨v4, r4, b4⟩ := ut_num (S := fun b => b < w.heap.size) (by kernel_rfl) g4
  have g5 : DataW.trod enc Try.prog w 0 SP true n 3 ((cs.drop 5).take (Try.prog.cellsOf 3)) = some z5 := hf 5 _ rfl
  rw [show Try.prog.cellsOf 3 = 1 from by kernel_rfl] at g5
  obtain ⟨v5, r5, b5⟩ := ut_num (S := fun b => b < w.heap.size) (by kernel_rfl) g5
  have g6 : DataW.trod enc Try.prog w 0 SP true n 3 ((cs.drop 6).take (Try.prog.cellsOf 3)) = some z6 := hf 6 _ rfl
  rw [show Try.prog.cellsOf 3 = 1 from by kernel_rfl] at g6
  obtain ⟨v6, r6, b6⟩ := ut_num (S := fun b => b < w.heap.size) (by kernel_rfl) g6
  have g7 : DataW.trod enc Try.prog w 0 SP true n 4 ((cs.drop 7).take (Try.prog.cellsOf 4)) = some z7 := hf 7 _ rfl
  rw [show Try.prog.cellsOf 4 = 1 from by kernel_rfl] at g7
  obtain ⟨v7, r7, b7⟩ := ut_tru (S := fun b => b < w.heap.size) (by kernel_rfl) g7
  have g8 : DataW.trod enc Try.prog w 0 SP true n 3 ((cs.drop 8).take (Try.prog.cellsOf 3)) = some z8 := hf 8 _ rfl
  rw [show Try.prog.cellsOf 3 = 1 from by kernel_rfl] at g8
  obtain ⟨v8, r8, b8⟩ := ut_num (S := fun b => b < w.heap.size) (by kernel_rfl) g8
  have g9 : DataW.trod enc Try.prog w 0 SP true n 3 ((cs.drop 9).take (Try.prog.cellsOf 3)) = some z9 := hf 9 _ rfl
  rw [show Try.prog.cellsOf 3 = 1 from by kernel_rfl] at g9
  obtain ⟨v9, r9, b9⟩ := ut_num (S := fun b => b < w.heap.size) (by kernel_rfl) g9
  have g10 : DataW.trod enc Try.prog w 0 SP true n 3 ((cs.drop 10).take (Try.prog.cellsOf 3)) = some z10 := hf 10 _ rfl
  rw [show Try.prog.cellsOf 3 = 1 from by kernel_rfl] at g10
  obtain ⟨v10, r10, b10⟩ := ut_num (S := fun b => b < w.heap.size) (by kernel_rfl) g10
  have g11 : DataW.trod enc Try.prog w 0 SP true n 3 ((cs.drop 11).take (Try.prog.cellsOf 3)) = some z11 := hf 11 _ rfl
  rw [show Try.prog.cellsOf 3 = 1 from by kernel_rfl] at g11
  obtain ⟨v11, r11, b11⟩ := ut_num (S := fun b => b < w.heap.size) (by kernel_rfl) g11
  have g12 : DataW.trod enc Try.prog w 0 SP true n 53 ((cs.drop 12).take (Try.prog.cellsOf 53)) = some z12 := hf 12 _ rfl
  rw [show Try.prog.cellsOf 53 = 1 from by kernel_rfl] at g12
  obtain ⟨v12, r12, b12⟩ := ut_lst (e := 79) (f := F_entry) (by kernel_rfl) (by kernel_rfl) (by decide) (fun _ _ _ h => ut_entry h) g12
  have g13 : DataW.trod enc Try.prog w 0 SP true n 32 ((cs.drop 13).take (Try.prog.cellsOf 32)) = some z13 := hf 13 _ rfl
  rw [show Try.prog.cellsOf 32 = 2 from by kernel_rfl] at g13
  obtain ⟨v13, r13, b13⟩ := ut_conf g13
  have g14 : DataW.trod enc Try.prog w 0 SP true n 33 ((cs.drop 15).take (Try.prog.cellsOf 33)) = some z14 := hf 14 _ rfl
  rw [show Try.prog.cellsOf 33 = 1 from by kernel_rfl] at g14
  have hb14 : Rows.uptoBulk z14.1 ≤ 1048576 := by have := bulk_mem (d := z14.1) (l := zl) (by simp [hzl]); omega
  obtain ⟨v14, r14, b14⟩ := ut_byt hb14 g14
  have g15 : DataW.trod enc Try.prog w 0 SP true n 65 ((cs.drop 16).take (Try.prog.cellsOf 65)) = some z15 := hf 15 _ rfl
  rw [show Try.prog.cellsOf 65 = 27 from by kernel_rfl] at g15
  obtain ⟨v15, r15, b15⟩ := ut_cmd g15
  have g16 : DataW.trod enc Try.prog w 0 SP true n 67 ((cs.drop 43).take (Try.prog.cellsOf 67)) = some z16 := hf 16 _ rfl
  rw [show Try.prog.cellsOf 67 = 3 from by kernel_rfl] at g16
  obtain ⟨v16, r16, b16⟩ := ut_result g16
  refine ⟨(v0, v1, v2, v3, v4, v5, v6, v7, v8, v9, v10, v11, v12, v13, v14, v15, v16), ?_, ?_⟩
  rotate_left
  · rw [szb_msg]
    simp only [List.map, Rows.uptoBulk, Rows.uptoBulkAll]
    have q0 := b0; rw [show szb .num v0 = 6 from rfl] at q0
    have q1 := b1; rw [show szb .num v1 = 6 from rfl] at q1
    have q2 := b2; rw [show szb .num v2 = 6 from rfl] at q2
    have q3 := b3; rw [show szb .num v3 = 6 from rfl] at q3
    have q4 := b4; rw [show szb .num v4 = 6 from rfl] at q4
    have q5 := b5; rw [show szb .num v5 = 6 from rfl] at q5
    have q6 := b6; rw [show szb .num v6 = 6 from rfl] at q6
    have q7 := b7; rw [show szb .tru v7 = 6 from rfl] at q7
    have q8 := b8; rw [show szb .num v8 = 6 from rfl] at q8
    have q9 := b9; rw [show szb .num v9 = 6 from rfl] at q9
    have q10 := b10; rw [show szb .num v10 = 6 from rfl] at q10
    have q11 := b11; rw [show szb .num v11 = 6 from rfl] at q11
    omega
  rw [List.take_of_length_le (by rw [List.length_drop, hl]; omega)] at r16
  refine rep_catU 1 ?z0 (rep_catU 1 ?z1 (rep_catU 1 ?z2 (rep_catU 1 ?z3 (rep_catU 1 ?z4 (rep_catU 1 ?z5 (rep_catU 1 ?z6 (rep_catU 1 ?z7 (rep_catU 1 ?z8 (rep_catU 1 ?z9 (rep_catU 1 ?z10 (rep_catU 1 ?z11 (rep_catU 1 ?z12 (rep_catU 2 ?z13 (rep_catU 1 ?z14 (rep_catU 27 ?z15 ?z16)))))))))))))))
  case z0 => simpa only [List.drop_drop, List.drop_zero, Nat.reduceAdd] using r0
  case z1 => simpa only [List.drop_drop, List.drop_zero, Nat.reduceAdd] using r1
  case z2 => simpa only [List.drop_drop, List.drop_zero, Nat.reduceAdd] using r2
  case z3 => simpa only [List.drop_drop, List.drop_zero, Nat.reduceAdd] using r3
  case z4 => simpa only [List.drop_drop, List.drop_zero, Nat.reduceAdd] using r4
  case z5 => simpa only [List.drop_drop, List.drop_zero, Nat.reduceAdd] using r5
  case z6 => simpa only [List.drop_drop, List.drop_zero, Nat.reduceAdd] using r6
  case z7 => simpa only [List.drop_drop, List.drop_zero, Nat.reduceAdd] using r7
  case z8 => simpa only [List.drop_drop, List.drop_zero, Nat.reduceAdd] using r8
  case z9 => simpa only [List.drop_drop, List.drop_zero, Nat.reduceAdd] using r9
  case z10 => simpa only [List.drop_drop, List.drop_zero, Nat.reduceAdd] using r10
  case z11 => simpa only [List.drop_drop, List.drop_zero, Nat.reduceAdd] using r11
  case z12 => simpa only [List.drop_drop, List.drop_zero, Nat.reduceAdd] using r12
  case z13 => simpa only [List.drop_drop, List.drop_zero, Nat.reduceAdd] using r13
  case z14 => simpa only [List.drop_drop, List.drop_zero, Nat.reduceAdd] using r14
  case z15 => simpa only [List.drop_drop, List.drop_zero, Nat.reduceAdd] using r15
  case z16 => simpa only [List.drop_drop, List.drop_zero, Nat.reduceAdd] using r16

set_option maxHeartbeats 4000000 in
theorem ut_snapshot {fuel : Nat} {cs : List Value} {x : DataW H × List MemPlace} (hb : Rows.uptoBulk x.1 ≤ 1048576) (h : DataW.trod enc Try.prog w 0 SP true fuel 35 cs = some x) : ∃ v, Rep w (fun b => b < w.heap.size) F_snapshot cs v ∧ szb F_snapshot v ≤ 6 * Rows.uptoBulk x.1 := by
  obtain ⟨xs, n, rfl, rfl, hl, hlen, hf⟩ := DataW.trod_struct Try.underlying35 h
  rw [show Try.prog.cellsOf 35 = 5 from by kernel_rfl] at hl
  obtain ⟨z0, z1, z2, z3, rfl⟩ := ll4 xs hlen
  obtain ⟨zl, hzl⟩ : ∃ zl, zl = ([z0, z1, z2, z3].map (·.1)) := ⟨_, rfl⟩
  simp only [Rows.uptoBulk] at hb
  rw [← hzl] at hb
  have g0 : DataW.trod enc Try.prog w 0 SP true n 3 ((cs.drop 0).take (Try.prog.cellsOf 3)) = some z0 := hf 0 _ rfl
  rw [show Try.prog.cellsOf 3 = 1 from by kernel_rfl] at g0
  obtain ⟨v0, r0, b0⟩ := ut_num (S := fun b => b < w.heap.size) (by kernel_rfl) g0
  have g1 : DataW.trod enc Try.prog w 0 SP true n 3 ((cs.drop 1).take (Try.prog.cellsOf 3)) = some z1 := hf 1 _ rfl
  rw [show Try.prog.cellsOf 3 = 1 from by kernel_rfl] at g1
  obtain ⟨v1, r1, b1⟩ := ut_num (S := fun b => b < w.heap.size) (by kernel_rfl) g1
  have g2 : DataW.trod enc Try.prog w 0 SP true n 32 ((cs.drop 2).take (Try.prog.cellsOf 32)) = some z2 := hf 2 _ rfl
  rw [show Try.prog.cellsOf 32 = 2 from by kernel_rfl] at g2
  obtain ⟨v2, r2, b2⟩ := ut_conf g2
  have g3 : DataW.trod enc Try.prog w 0 SP true n 33 ((cs.drop 4).take (Try.prog.cellsOf 33)) = some z3 := hf 3 _ rfl
  rw [show Try.prog.cellsOf 33 = 1 from by kernel_rfl] at g3
  have hb3 : Rows.uptoBulk z3.1 ≤ 1048576 := by have := bulk_mem (d := z3.1) (l := zl) (by simp [hzl]); omega
  obtain ⟨v3, r3, b3⟩ := ut_byt hb3 g3
  refine ⟨(v0, v1, v2, v3), ?_, ?_⟩
  rotate_left
  · rw [szb_snapshot]
    simp only [List.map, Rows.uptoBulk, Rows.uptoBulkAll]
    have q0 := b0; rw [show szb .num v0 = 6 from rfl] at q0
    have q1 := b1; rw [show szb .num v1 = 6 from rfl] at q1
    omega
  rw [List.take_of_length_le (by rw [List.length_drop, hl]; omega)] at r3
  refine rep_catU 1 ?z0 (rep_catU 1 ?z1 (rep_catU 2 ?z2 ?z3))
  case z0 => simpa only [List.drop_drop, List.drop_zero, Nat.reduceAdd] using r0
  case z1 => simpa only [List.drop_drop, List.drop_zero, Nat.reduceAdd] using r1
  case z2 => simpa only [List.drop_drop, List.drop_zero, Nat.reduceAdd] using r2
  case z3 => simpa only [List.drop_drop, List.drop_zero, Nat.reduceAdd] using r3
end
end Go.Proofs.Ytpbokgeaolpiaab
