/- Several texts in one (wip/gen/merge.py). -/
import Derived.Test.YtcdoejdbmllnnabGreatVrz
import Derived.Test.YtcdoejdbmllnnabGreatOpen
import Derived.Test.YtcdoejdbmllnnabGreatRows
/- Several texts in one (wip/gen/merge.py). -/
/- An argument that came in: a record of whatever kind holds a value, in blocks that are there; what the document's writer makes of it is bounded by how much came in. Made by program (wip/gen/opnu.py). -/
namespace Go.Proofs.YtcdoejdbmllnnabGreat
open Go.ChangeShapes Go.WideShapes Go.ChangeAt Go.RowKit

theorem bulk_pos {H : Type} (d : DataW H) : 0 < Rows.uptoBulk d := by
  cases d with
  | lit l => cases l <;> simp [Rows.uptoBulk]
  | _ => simp [Rows.uptoBulk]
theorem bulk_count {H : Type} (l : List (DataW H)) : l.length ≤ Rows.uptoBulkAll l := by
  induction l with
  | nil => simp
  | cons x r ih => have := bulk_pos x; simp only [Rows.uptoBulkAll, List.length_cons]; omega
theorem bulk_mem {H : Type} {d : DataW H} {l : List (DataW H)} (h : d ∈ l) : Rows.uptoBulk d ≤ Rows.uptoBulkAll l := by
  induction l with
  | nil => cases h
  | cons x r ih =>
    simp only [Rows.uptoBulkAll]
    rcases List.mem_cons.1 h with e | e
    · subst e; omega
    · have := ih e; omega
set_option maxRecDepth 100000 in
theorem upto_le {H : Type} {l : List (DataW H)} (hk : Rows.uptoSmall H l = true) : Rows.uptoBulkAll l ≤ 1048576 := by
  unfold Rows.uptoSmall at hk
  exact of_decide_eq_true hk
theorem sum_bulk {H α : Type} (m : α → Nat) (vs : List α) (ds : List (DataW H)) (hl : vs.length = ds.length) (h : ∀ i (h1 : i < vs.length) (h2 : i < ds.length), m vs[i] ≤ 6 * Rows.uptoBulk ds[i]) : (vs.map m).sum ≤ 6 * Rows.uptoBulkAll ds := by
  induction vs generalizing ds with
  | nil => simp
  | cons v vs ih =>
    cases ds with
    | nil => simp at hl
    | cons d ds =>
      have h0 := h 0 (by simp) (by simp)
      have := ih ds (by simpa using hl) (fun i h1 h2 => by have := h (i + 1) (by simpa using h1) (by simpa using h2); simpa using this)
      simp only [List.map_cons, List.sum_cons, Rows.uptoBulkAll]
      simp only [List.getElem_cons_zero] at h0
      omega
theorem list_choiceU {α : Type} (n : Nat) (Q : Nat → α → Prop) (h : ∀ i, i < n → ∃ v, Q i v) : ∃ vs : List α, vs.length = n ∧ ∀ i (hi : i < vs.length), Q i vs[i] := by
  induction n with
  | zero => exact ⟨[], rfl, fun i hi => by simp at hi⟩
  | succ n ih =>
    obtain ⟨vs, hl, hv⟩ := ih (fun i hi => h i (by omega))
    obtain ⟨v, hq⟩ := h n (by omega)
    refine ⟨vs ++ [v], by simp [hl], fun i hi => ?_⟩
    rw [List.length_append] at hi
    simp only [List.length_cons, List.length_nil] at hi
    by_cases hin : i < vs.length
    · rw [List.getElem_append_left hin]; exact hv i hin
    · have : i = n := by omega
      subst this
      rw [List.getElem_append_right (by omega)]
      simpa [hl] using hq
theorem rep_catU {w : World} {S : Nat → Prop} {f g : Fm} {cs : List Value} {a : Vl f} {b : Vl g} (k : Nat) (h1 : Rep w S f (cs.take k) a) (h2 : Rep w S g (cs.drop k) b) : Rep w S (.cat f g) cs (a, b) :=
  ⟨_, _, (List.take_append_drop k cs).symm, h1, h2⟩
section
variable {H : Type} {enc : TypeId × Value → H} {w : World}
abbrev SP : Nat → Bool := fun _ => true
theorem ut_num {t : TypeId} {fuel : Nat} {cs : List Value} {x : DataW H × List MemPlace} {S : Nat → Prop} (ht : Tryz.prog.underlying t = some (.int .i64)) (h : DataW.trod enc Tryz.prog w 0 SP true fuel t cs = some x) : ∃ v, Rep w S .num cs v ∧ szb .num v ≤ 6 * Rows.uptoBulk x.1 := by
  obtain ⟨n, rfl, rfl, _⟩ := DataW.trod_int ht h
  exact ⟨n, rfl, by simp [szb, Rows.uptoBulk]⟩
theorem ut_tru {t : TypeId} {fuel : Nat} {cs : List Value} {x : DataW H × List MemPlace} {S : Nat → Prop} (ht : Tryz.prog.underlying t = some .bool) (h : DataW.trod enc Tryz.prog w 0 SP true fuel t cs = some x) : ∃ v, Rep w S .tru cs v ∧ szb .tru v ≤ 6 * Rows.uptoBulk x.1 := by
  obtain ⟨b, rfl, rfl⟩ := DataW.trod_bool ht h
  exact ⟨b, rfl, by simp [szb, Rows.uptoBulk]⟩
theorem ut_lst {t e : TypeId} {f : Fm} {fuel : Nat} {cs : List Value} {x : DataW H × List MemPlace} (ht : Tryz.prog.underlying t = some (.slice e)) (hc : Tryz.prog.cellsOf e = wd f) (hp : 0 < wd f)
    (ih : ∀ (fuel : Nat) (cs : List Value) (x : DataW H × List MemPlace), DataW.trod enc Tryz.prog w 0 SP true fuel e cs = some x → ∃ v, Rep w (fun b => b < w.heap.size) f cs v ∧ szb f v ≤ 6 * Rows.uptoBulk x.1)
    (h : DataW.trod enc Tryz.prog w 0 SP true fuel t cs = some x) : ∃ v, Rep w (fun b => b < w.heap.size) (.lst f) cs v ∧ szb (.lst f) v ≤ 6 * Rows.uptoBulk x.1 := by
  rcases DataW.trod_slice ht h with ⟨rfl, rfl⟩ | ⟨a, len, cap, elems, rest, n, rfl, rfl, rfl, _, hlc, hcm, hel, hE, _, _⟩
  · exact ⟨[], ⟨none, 0, rfl, by simp, fun h => absurd rfl h⟩, by simp [szb, Rows.uptoBulk]⟩
  · rw [hc] at hE
    have hQ : ∀ i, i < len → ∃ v : Vl f, ∃ es, Rep w (fun b => b < w.heap.size) f es v ∧ (∀ j, j < wd f → w.cell? ((a.add (i * wd f)).add j) = es[j]?) ∧ ∀ y, elems[i]? = some y → szb f v ≤ 6 * Rows.uptoBulk y.1 := by
      intro i hi
      have hEi := hE i hi
      rw [List.getElem?_eq_getElem (by omega)] at hEi
      obtain ⟨es, he, ht2⟩ := Option.bind_eq_some_iff.1 hEi
      obtain ⟨v, hv, hs⟩ := ih _ _ _ ht2
      obtain ⟨_, _, hcell⟩ := World.cells?_some he
      refine ⟨v, es, hv, hcell, fun y hy => ?_⟩
      rw [List.getElem?_eq_getElem (by omega)] at hy
      cases hy
      exact hs
    obtain ⟨vs, hvl, hvs⟩ := list_choiceU len _ hQ
    subst hvl
    refine ⟨vs, ⟨some a, cap, rfl, by unfold maxLen at hcm; omega, fun hne => ?_⟩, ?_⟩
    · have h0 : 0 < vs.length := List.length_pos_iff.2 hne
      obtain ⟨b, off, spot⟩ := a
      obtain ⟨es0, hr0, hc0, _⟩ := hvs 0 h0
      have hc00 := hc0 0 hp
      rw [List.getElem?_eq_getElem (by rw [hr0.len]; exact hp)] at hc00
      have hspot : spot = none := by simpa [Addr.add] using World.cell?_spot hc00
      subst hspot
      refine ⟨b, off, rfl, World.block_lt_of_cell? w _ (by simpa [Addr.add] using hc00), fun i hi => ?_⟩
      obtain ⟨es, hr, hcs, _⟩ := hvs i hi
      refine ⟨es, hr, fun j u hu => ?_⟩
      have hj : j < wd f := by rw [← hr.len]; exact (List.getElem?_eq_some_iff.1 hu).1
      have := hcs j hj
      rw [hu, Addr.add_mid, Addr.add_mid] at this
      exact this
    · have hsum := sum_bulk (H := H) (fun v => szb f v) vs (elems.map (·.1)) (by simp [hel]) (fun i h1 h2 => by
        obtain ⟨_, _, _, hs⟩ := hvs i h1
        have := hs elems[i] (List.getElem?_eq_getElem (by omega))
        simpa using this)
      show 6 + (vs.map fun v => szb f v).sum ≤ _
      simp only [Rows.uptoBulk]
      omega

theorem ll2 {α : Type} (l : List α) (h : l.length = 2) : ∃ y0 y1, l = [y0, y1] := by
  match l, h with
  | [y0, y1], _ => exact ⟨_, _, rfl⟩
theorem ll3 {α : Type} (l : List α) (h : l.length = 3) : ∃ y0 y1 y2, l = [y0, y1, y2] := by
  match l, h with
  | [y0, y1, y2], _ => exact ⟨_, _, _, rfl⟩
theorem ll6 {α : Type} (l : List α) (h : l.length = 6) : ∃ y0 y1 y2 y3 y4 y5, l = [y0, y1, y2, y3, y4, y5] := by
  match l, h with
  | [y0, y1, y2, y3, y4, y5], _ => exact ⟨_, _, _, _, _, _, rfl⟩
theorem ll7 {α : Type} (l : List α) (h : l.length = 7) : ∃ y0 y1 y2 y3 y4 y5 y6, l = [y0, y1, y2, y3, y4, y5, y6] := by
  match l, h with
  | [y0, y1, y2, y3, y4, y5, y6], _ => exact ⟨_, _, _, _, _, _, _, rfl⟩
theorem ll8 {α : Type} (l : List α) (h : l.length = 8) : ∃ y0 y1 y2 y3 y4 y5 y6 y7, l = [y0, y1, y2, y3, y4, y5, y6, y7] := by
  match l, h with
  | [y0, y1, y2, y3, y4, y5, y6, y7], _ => exact ⟨_, _, _, _, _, _, _, _, rfl⟩
theorem ll10 {α : Type} (l : List α) (h : l.length = 10) : ∃ y0 y1 y2 y3 y4 y5 y6 y7 y8 y9, l = [y0, y1, y2, y3, y4, y5, y6, y7, y8, y9] := by
  match l, h with
  | [y0, y1, y2, y3, y4, y5, y6, y7, y8, y9], _ => exact ⟨_, _, _, _, _, _, _, _, _, _, rfl⟩

theorem ut_res {fuel : Nat} {cs : List Value} {x : DataW H × List MemPlace} (h : DataW.trod enc Tryz.prog w 0 SP true fuel 37 cs = some x) : ∃ v, Rep w (fun b => b < w.heap.size) F_res cs v ∧ szb F_res v ≤ 6 * Rows.uptoBulk x.1 := by
  obtain ⟨xs, n, rfl, rfl, hl, hlen, hf⟩ := DataW.trod_struct Tryz.underlying37 h
  rw [show Tryz.prog.cellsOf 37 = 2 from by kernel_rfl] at hl
  obtain ⟨z0, z1, rfl⟩ := ll2 xs hlen
  have g0 : DataW.trod enc Tryz.prog w 0 SP true n 3 ((cs.drop 0).take (Tryz.prog.cellsOf 3)) = some z0 := hf 0 _ rfl
  rw [show Tryz.prog.cellsOf 3 = 1 from by kernel_rfl] at g0
  obtain ⟨v0, r0, b0⟩ := ut_num (S := fun b => b < w.heap.size) (by kernel_rfl) g0
  have g1 : DataW.trod enc Tryz.prog w 0 SP true n 3 ((cs.drop 1).take (Tryz.prog.cellsOf 3)) = some z1 := hf 1 _ rfl
  rw [show Tryz.prog.cellsOf 3 = 1 from by kernel_rfl] at g1
  obtain ⟨v1, r1, b1⟩ := ut_num (S := fun b => b < w.heap.size) (by kernel_rfl) g1
  refine ⟨(v0, v1), ?_, ?_⟩
  rotate_left
  · rw [szb_res]
    simp only [List.map, Rows.uptoBulk, Rows.uptoBulkAll]
    have q0 := b0; rw [show szb .num v0 = 6 from rfl] at q0
    have q1 := b1; rw [show szb .num v1 = 6 from rfl] at q1
    omega
  rw [List.take_of_length_le (by rw [List.length_drop, hl]; omega)] at r1
  refine rep_catU 1 ?z0 ?z1
  case z0 => simpa only [List.drop_drop, List.drop_zero, Nat.reduceAdd] using r0
  case z1 => simpa only [List.drop_drop, List.drop_zero, Nat.reduceAdd] using r1

theorem ut_conf {fuel : Nat} {cs : List Value} {x : DataW H × List MemPlace} (h : DataW.trod enc Tryz.prog w 0 SP true fuel 31 cs = some x) : ∃ v, Rep w (fun b => b < w.heap.size) F_conf cs v ∧ szb F_conf v ≤ 6 * Rows.uptoBulk x.1 := by
  obtain ⟨xs, n, rfl, rfl, hl, hlen, hf⟩ := DataW.trod_struct Tryz.underlying31 h
  rw [show Tryz.prog.cellsOf 31 = 2 from by kernel_rfl] at hl
  obtain ⟨z0, z1, rfl⟩ := ll2 xs hlen
  have g0 : DataW.trod enc Tryz.prog w 0 SP true n 29 ((cs.drop 0).take (Tryz.prog.cellsOf 29)) = some z0 := hf 0 _ rfl
  rw [show Tryz.prog.cellsOf 29 = 1 from by kernel_rfl] at g0
  obtain ⟨v0, r0, b0⟩ := ut_lst (e := 3) (f := .num) (by kernel_rfl) (by kernel_rfl) (by decide) (fun _ _ _ h => ut_num (S := fun b => b < w.heap.size) (by kernel_rfl) h) g0
  have g1 : DataW.trod enc Tryz.prog w 0 SP true n 29 ((cs.drop 1).take (Tryz.prog.cellsOf 29)) = some z1 := hf 1 _ rfl
  rw [show Tryz.prog.cellsOf 29 = 1 from by kernel_rfl] at g1
  obtain ⟨v1, r1, b1⟩ := ut_lst (e := 3) (f := .num) (by kernel_rfl) (by kernel_rfl) (by decide) (fun _ _ _ h => ut_num (S := fun b => b < w.heap.size) (by kernel_rfl) h) g1
  refine ⟨(v0, v1), ?_, ?_⟩
  rotate_left
  · rw [szb_conf]
    simp only [List.map, Rows.uptoBulk, Rows.uptoBulkAll]
    omega
  rw [List.take_of_length_le (by rw [List.length_drop, hl]; omega)] at r1
  refine rep_catU 1 ?z0 ?z1
  case z0 => simpa only [List.drop_drop, List.drop_zero, Nat.reduceAdd] using r0
  case z1 => simpa only [List.drop_drop, List.drop_zero, Nat.reduceAdd] using r1

theorem ut_alloc {fuel : Nat} {cs : List Value} {x : DataW H × List MemPlace} (h : DataW.trod enc Tryz.prog w 0 SP true fuel 83 cs = some x) : ∃ v, Rep w (fun b => b < w.heap.size) F_alloc cs v ∧ szb F_alloc v ≤ 6 * Rows.uptoBulk x.1 := by
  obtain ⟨xs, n, rfl, rfl, hl, hlen, hf⟩ := DataW.trod_struct Tryz.underlying83 h
  rw [show Tryz.prog.cellsOf 83 = 11 from by kernel_rfl] at hl
  obtain ⟨z0, z1, z2, z3, z4, z5, z6, z7, z8, z9, rfl⟩ := ll10 xs hlen
  have g0 : DataW.trod enc Tryz.prog w 0 SP true n 3 ((cs.drop 0).take (Tryz.prog.cellsOf 3)) = some z0 := hf 0 _ rfl
  rw [show Tryz.prog.cellsOf 3 = 1 from by kernel_rfl] at g0
  obtain ⟨v0, r0, b0⟩ := ut_num (S := fun b => b < w.heap.size) (by kernel_rfl) g0
  have g1 : DataW.trod enc Tryz.prog w 0 SP true n 3 ((cs.drop 1).take (Tryz.prog.cellsOf 3)) = some z1 := hf 1 _ rfl
  rw [show Tryz.prog.cellsOf 3 = 1 from by kernel_rfl] at g1
  obtain ⟨v1, r1, b1⟩ := ut_num (S := fun b => b < w.heap.size) (by kernel_rfl) g1
  have g2 : DataW.trod enc Tryz.prog w 0 SP true n 3 ((cs.drop 2).take (Tryz.prog.cellsOf 3)) = some z2 := hf 2 _ rfl
  rw [show Tryz.prog.cellsOf 3 = 1 from by kernel_rfl] at g2
  obtain ⟨v2, r2, b2⟩ := ut_num (S := fun b => b < w.heap.size) (by kernel_rfl) g2
  have g3 : DataW.trod enc Tryz.prog w 0 SP true n 3 ((cs.drop 3).take (Tryz.prog.cellsOf 3)) = some z3 := hf 3 _ rfl
  rw [show Tryz.prog.cellsOf 3 = 1 from by kernel_rfl] at g3
  obtain ⟨v3, r3, b3⟩ := ut_num (S := fun b => b < w.heap.size) (by kernel_rfl) g3
  have g4 : DataW.trod enc Tryz.prog w 0 SP true n 3 ((cs.drop 4).take (Tryz.prog.cellsOf 3)) = some z4 := hf 4 _ rfl
  rw [show Tryz.prog.cellsOf 3 = 1 from by kernel_rfl] at g4
  obtain ⟨v4, r4, b4⟩ := ut_num (S := fun b => b < w.heap.size) (by kernel_rfl) g4
  have g5 : DataW.trod enc Tryz.prog w 0 SP true n 3 ((cs.drop 5).take (Tryz.prog.cellsOf 3)) = some z5 := hf 5 _ rfl
  rw [show Tryz.prog.cellsOf 3 = 1 from by kernel_rfl] at g5
  obtain ⟨v5, r5, b5⟩ := ut_num (S := fun b => b < w.heap.size) (by kernel_rfl) g5
  have g6 : DataW.trod enc Tryz.prog w 0 SP true n 3 ((cs.drop 6).take (Tryz.prog.cellsOf 3)) = some z6 := hf 6 _ rfl
  rw [show Tryz.prog.cellsOf 3 = 1 from by kernel_rfl] at g6
  obtain ⟨v6, r6, b6⟩ := ut_num (S := fun b => b < w.heap.size) (by kernel_rfl) g6
  have g7 : DataW.trod enc Tryz.prog w 0 SP true n 37 ((cs.drop 7).take (Tryz.prog.cellsOf 37)) = some z7 := hf 7 _ rfl
  rw [show Tryz.prog.cellsOf 37 = 2 from by kernel_rfl] at g7
  obtain ⟨v7, r7, b7⟩ := ut_res g7
  have g8 : DataW.trod enc Tryz.prog w 0 SP true n 4 ((cs.drop 9).take (Tryz.prog.cellsOf 4)) = some z8 := hf 8 _ rfl
  rw [show Tryz.prog.cellsOf 4 = 1 from by kernel_rfl] at g8
  obtain ⟨v8, r8, b8⟩ := ut_tru (S := fun b => b < w.heap.size) (by kernel_rfl) g8
  have g9 : DataW.trod enc Tryz.prog w 0 SP true n 3 ((cs.drop 10).take (Tryz.prog.cellsOf 3)) = some z9 := hf 9 _ rfl
  rw [show Tryz.prog.cellsOf 3 = 1 from by kernel_rfl] at g9
  obtain ⟨v9, r9, b9⟩ := ut_num (S := fun b => b < w.heap.size) (by kernel_rfl) g9
  refine ⟨(v0, v1, v2, v3, v4, v5, v6, v7, v8, v9), ?_, ?_⟩
  rotate_left
  · rw [szb_alloc]
    simp only [List.map, Rows.uptoBulk, Rows.uptoBulkAll]
    have q0 := b0; rw [show szb .num v0 = 6 from rfl] at q0
    have q1 := b1; rw [show szb .num v1 = 6 from rfl] at q1
    have q2 := b2; rw [show szb .num v2 = 6 from rfl] at q2
    have q3 := b3; rw [show szb .num v3 = 6 from rfl] at q3
    have q4 := b4; rw [show szb .num v4 = 6 from rfl] at q4
    have q5 := b5; rw [show szb .num v5 = 6 from rfl] at q5
    have q6 := b6; rw [show szb .num v6 = 6 from rfl] at q6
    have q8 := b8; rw [show szb .tru v8 = 6 from rfl] at q8
    have q9 := b9; rw [show szb .num v9 = 6 from rfl] at q9
    omega
  rw [List.take_of_length_le (by rw [List.length_drop, hl]; omega)] at r9
  refine rep_catU 1 ?z0 (rep_catU 1 ?z1 (rep_catU 1 ?z2 (rep_catU 1 ?z3 (rep_catU 1 ?z4 (rep_catU 1 ?z5 (rep_catU 1 ?z6 (rep_catU 2 ?z7 (rep_catU 1 ?z8 ?z9))))))))
  case z0 => simpa only [List.drop_drop, List.drop_zero, Nat.reduceAdd] using r0
  case z1 => simpa only [List.drop_drop, List.drop_zero, Nat.reduceAdd] using r1
  case z2 => simpa only [List.drop_drop, List.drop_zero, Nat.reduceAdd] using r2
  case z3 => simpa only [List.drop_drop, List.drop_zero, Nat.reduceAdd] using r3
  case z4 => simpa only [List.drop_drop, List.drop_zero, Nat.reduceAdd] using r4
  case z5 => simpa only [List.drop_drop, List.drop_zero, Nat.reduceAdd] using r5
  case z6 => simpa only [List.drop_drop, List.drop_zero, Nat.reduceAdd] using r6
  case z7 => simpa only [List.drop_drop, List.drop_zero, Nat.reduceAdd] using r7
  case z8 => simpa only [List.drop_drop, List.drop_zero, Nat.reduceAdd] using r8
  case z9 => simpa only [List.drop_drop, List.drop_zero, Nat.reduceAdd] using r9

theorem ut_report {fuel : Nat} {cs : List Value} {x : DataW H × List MemPlace} (h : DataW.trod enc Tryz.prog w 0 SP true fuel 108 cs = some x) : ∃ v, Rep w (fun b => b < w.heap.size) F_report cs v ∧ szb F_report v ≤ 6 * Rows.uptoBulk x.1 := by
  obtain ⟨xs, n, rfl, rfl, hl, hlen, hf⟩ := DataW.trod_struct Tryz.underlying108 h
  rw [show Tryz.prog.cellsOf 108 = 2 from by kernel_rfl] at hl
  obtain ⟨z0, z1, rfl⟩ := ll2 xs hlen
  have g0 : DataW.trod enc Tryz.prog w 0 SP true n 3 ((cs.drop 0).take (Tryz.prog.cellsOf 3)) = some z0 := hf 0 _ rfl
  rw [show Tryz.prog.cellsOf 3 = 1 from by kernel_rfl] at g0
  obtain ⟨v0, r0, b0⟩ := ut_num (S := fun b => b < w.heap.size) (by kernel_rfl) g0
  have g1 : DataW.trod enc Tryz.prog w 0 SP true n 3 ((cs.drop 1).take (Tryz.prog.cellsOf 3)) = some z1 := hf 1 _ rfl
  rw [show Tryz.prog.cellsOf 3 = 1 from by kernel_rfl] at g1
  obtain ⟨v1, r1, b1⟩ := ut_num (S := fun b => b < w.heap.size) (by kernel_rfl) g1
  refine ⟨(v0, v1), ?_, ?_⟩
  rotate_left
  · rw [szb_report]
    simp only [List.map, Rows.uptoBulk, Rows.uptoBulkAll]
    have q0 := b0; rw [show szb .num v0 = 6 from rfl] at q0
    have q1 := b1; rw [show szb .num v1 = 6 from rfl] at q1
    omega
  rw [List.take_of_length_le (by rw [List.length_drop, hl]; omega)] at r1
  refine rep_catU 1 ?z0 ?z1
  case z0 => simpa only [List.drop_drop, List.drop_zero, Nat.reduceAdd] using r0
  case z1 => simpa only [List.drop_drop, List.drop_zero, Nat.reduceAdd] using r1

theorem ut_group {fuel : Nat} {cs : List Value} {x : DataW H × List MemPlace} (h : DataW.trod enc Tryz.prog w 0 SP true fuel 129 cs = some x) : ∃ v, Rep w (fun b => b < w.heap.size) F_group cs v ∧ szb F_group v ≤ 6 * Rows.uptoBulk x.1 := by
  obtain ⟨xs, n, rfl, rfl, hl, hlen, hf⟩ := DataW.trod_struct Tryz.underlying129 h
  rw [show Tryz.prog.cellsOf 129 = 3 from by kernel_rfl] at hl
  obtain ⟨z0, z1, rfl⟩ := ll2 xs hlen
  have g0 : DataW.trod enc Tryz.prog w 0 SP true n 3 ((cs.drop 0).take (Tryz.prog.cellsOf 3)) = some z0 := hf 0 _ rfl
  rw [show Tryz.prog.cellsOf 3 = 1 from by kernel_rfl] at g0
  obtain ⟨v0, r0, b0⟩ := ut_num (S := fun b => b < w.heap.size) (by kernel_rfl) g0
  have g1 : DataW.trod enc Tryz.prog w 0 SP true n 37 ((cs.drop 1).take (Tryz.prog.cellsOf 37)) = some z1 := hf 1 _ rfl
  rw [show Tryz.prog.cellsOf 37 = 2 from by kernel_rfl] at g1
  obtain ⟨v1, r1, b1⟩ := ut_res g1
  refine ⟨(v0, v1), ?_, ?_⟩
  rotate_left
  · rw [szb_group]
    simp only [List.map, Rows.uptoBulk, Rows.uptoBulkAll]
    have q0 := b0; rw [show szb .num v0 = 6 from rfl] at q0
    omega
  rw [List.take_of_length_le (by rw [List.length_drop, hl]; omega)] at r1
  refine rep_catU 1 ?z0 ?z1
  case z0 => simpa only [List.drop_drop, List.drop_zero, Nat.reduceAdd] using r0
  case z1 => simpa only [List.drop_drop, List.drop_zero, Nat.reduceAdd] using r1

theorem ut_job {fuel : Nat} {cs : List Value} {x : DataW H × List MemPlace} (h : DataW.trod enc Tryz.prog w 0 SP true fuel 35 cs = some x) : ∃ v, Rep w (fun b => b < w.heap.size) F_job cs v ∧ szb F_job v ≤ 6 * Rows.uptoBulk x.1 := by
  obtain ⟨xs, n, rfl, rfl, hl, hlen, hf⟩ := DataW.trod_struct Tryz.underlying35 h
  rw [show Tryz.prog.cellsOf 35 = 7 from by kernel_rfl] at hl
  obtain ⟨z0, z1, z2, z3, z4, z5, z6, rfl⟩ := ll7 xs hlen
  have g0 : DataW.trod enc Tryz.prog w 0 SP true n 3 ((cs.drop 0).take (Tryz.prog.cellsOf 3)) = some z0 := hf 0 _ rfl
  rw [show Tryz.prog.cellsOf 3 = 1 from by kernel_rfl] at g0
  obtain ⟨v0, r0, b0⟩ := ut_num (S := fun b => b < w.heap.size) (by kernel_rfl) g0
  have g1 : DataW.trod enc Tryz.prog w 0 SP true n 3 ((cs.drop 1).take (Tryz.prog.cellsOf 3)) = some z1 := hf 1 _ rfl
  rw [show Tryz.prog.cellsOf 3 = 1 from by kernel_rfl] at g1
  obtain ⟨v1, r1, b1⟩ := ut_num (S := fun b => b < w.heap.size) (by kernel_rfl) g1
  have g2 : DataW.trod enc Tryz.prog w 0 SP true n 3 ((cs.drop 2).take (Tryz.prog.cellsOf 3)) = some z2 := hf 2 _ rfl
  rw [show Tryz.prog.cellsOf 3 = 1 from by kernel_rfl] at g2
  obtain ⟨v2, r2, b2⟩ := ut_num (S := fun b => b < w.heap.size) (by kernel_rfl) g2
  have g3 : DataW.trod enc Tryz.prog w 0 SP true n 3 ((cs.drop 3).take (Tryz.prog.cellsOf 3)) = some z3 := hf 3 _ rfl
  rw [show Tryz.prog.cellsOf 3 = 1 from by kernel_rfl] at g3
  obtain ⟨v3, r3, b3⟩ := ut_num (S := fun b => b < w.heap.size) (by kernel_rfl) g3
  have g4 : DataW.trod enc Tryz.prog w 0 SP true n 33 ((cs.drop 4).take (Tryz.prog.cellsOf 33)) = some z4 := hf 4 _ rfl
  rw [show Tryz.prog.cellsOf 33 = 1 from by kernel_rfl] at g4
  obtain ⟨v4, r4, b4⟩ := ut_lst (e := 129) (f := F_group) (by kernel_rfl) (by kernel_rfl) (by decide) (fun _ _ _ h => ut_group h) g4
  have g5 : DataW.trod enc Tryz.prog w 0 SP true n 3 ((cs.drop 5).take (Tryz.prog.cellsOf 3)) = some z5 := hf 5 _ rfl
  rw [show Tryz.prog.cellsOf 3 = 1 from by kernel_rfl] at g5
  obtain ⟨v5, r5, b5⟩ := ut_num (S := fun b => b < w.heap.size) (by kernel_rfl) g5
  have g6 : DataW.trod enc Tryz.prog w 0 SP true n 4 ((cs.drop 6).take (Tryz.prog.cellsOf 4)) = some z6 := hf 6 _ rfl
  rw [show Tryz.prog.cellsOf 4 = 1 from by kernel_rfl] at g6
  obtain ⟨v6, r6, b6⟩ := ut_tru (S := fun b => b < w.heap.size) (by kernel_rfl) g6
  refine ⟨(v0, v1, v2, v3, v4, v5, v6), ?_, ?_⟩
  rotate_left
  · rw [szb_job]
    simp only [List.map, Rows.uptoBulk, Rows.uptoBulkAll]
    have q0 := b0; rw [show szb .num v0 = 6 from rfl] at q0
    have q1 := b1; rw [show szb .num v1 = 6 from rfl] at q1
    have q2 := b2; rw [show szb .num v2 = 6 from rfl] at q2
    have q3 := b3; rw [show szb .num v3 = 6 from rfl] at q3
    have q5 := b5; rw [show szb .num v5 = 6 from rfl] at q5
    have q6 := b6; rw [show szb .tru v6 = 6 from rfl] at q6
    omega
  rw [List.take_of_length_le (by rw [List.length_drop, hl]; omega)] at r6
  refine rep_catU 1 ?z0 (rep_catU 1 ?z1 (rep_catU 1 ?z2 (rep_catU 1 ?z3 (rep_catU 1 ?z4 (rep_catU 1 ?z5 ?z6)))))
  case z0 => simpa only [List.drop_drop, List.drop_zero, Nat.reduceAdd] using r0
  case z1 => simpa only [List.drop_drop, List.drop_zero, Nat.reduceAdd] using r1
  case z2 => simpa only [List.drop_drop, List.drop_zero, Nat.reduceAdd] using r2
  case z3 => simpa only [List.drop_drop, List.drop_zero, Nat.reduceAdd] using r3
  case z4 => simpa only [List.drop_drop, List.drop_zero, Nat.reduceAdd] using r4
  case z5 => simpa only [List.drop_drop, List.drop_zero, Nat.reduceAdd] using r5
  case z6 => simpa only [List.drop_drop, List.drop_zero, Nat.reduceAdd] using r6

theorem ut_node {fuel : Nat} {cs : List Value} {x : DataW H × List MemPlace} (h : DataW.trod enc Tryz.prog w 0 SP true fuel 39 cs = some x) : ∃ v, Rep w (fun b => b < w.heap.size) F_node cs v ∧ szb F_node v ≤ 6 * Rows.uptoBulk x.1 := by
  obtain ⟨xs, n, rfl, rfl, hl, hlen, hf⟩ := DataW.trod_struct Tryz.underlying39 h
  rw [show Tryz.prog.cellsOf 39 = 8 from by kernel_rfl] at hl
  obtain ⟨z0, z1, z2, z3, z4, z5, z6, rfl⟩ := ll7 xs hlen
  have g0 : DataW.trod enc Tryz.prog w 0 SP true n 3 ((cs.drop 0).take (Tryz.prog.cellsOf 3)) = some z0 := hf 0 _ rfl
  rw [show Tryz.prog.cellsOf 3 = 1 from by kernel_rfl] at g0
  obtain ⟨v0, r0, b0⟩ := ut_num (S := fun b => b < w.heap.size) (by kernel_rfl) g0
  have g1 : DataW.trod enc Tryz.prog w 0 SP true n 37 ((cs.drop 1).take (Tryz.prog.cellsOf 37)) = some z1 := hf 1 _ rfl
  rw [show Tryz.prog.cellsOf 37 = 2 from by kernel_rfl] at g1
  obtain ⟨v1, r1, b1⟩ := ut_res g1
  have g2 : DataW.trod enc Tryz.prog w 0 SP true n 4 ((cs.drop 3).take (Tryz.prog.cellsOf 4)) = some z2 := hf 2 _ rfl
  rw [show Tryz.prog.cellsOf 4 = 1 from by kernel_rfl] at g2
  obtain ⟨v2, r2, b2⟩ := ut_tru (S := fun b => b < w.heap.size) (by kernel_rfl) g2
  have g3 : DataW.trod enc Tryz.prog w 0 SP true n 4 ((cs.drop 4).take (Tryz.prog.cellsOf 4)) = some z3 := hf 3 _ rfl
  rw [show Tryz.prog.cellsOf 4 = 1 from by kernel_rfl] at g3
  obtain ⟨v3, r3, b3⟩ := ut_tru (S := fun b => b < w.heap.size) (by kernel_rfl) g3
  have g4 : DataW.trod enc Tryz.prog w 0 SP true n 3 ((cs.drop 5).take (Tryz.prog.cellsOf 3)) = some z4 := hf 4 _ rfl
  rw [show Tryz.prog.cellsOf 3 = 1 from by kernel_rfl] at g4
  obtain ⟨v4, r4, b4⟩ := ut_num (S := fun b => b < w.heap.size) (by kernel_rfl) g4
  have g5 : DataW.trod enc Tryz.prog w 0 SP true n 3 ((cs.drop 6).take (Tryz.prog.cellsOf 3)) = some z5 := hf 5 _ rfl
  rw [show Tryz.prog.cellsOf 3 = 1 from by kernel_rfl] at g5
  obtain ⟨v5, r5, b5⟩ := ut_num (S := fun b => b < w.heap.size) (by kernel_rfl) g5
  have g6 : DataW.trod enc Tryz.prog w 0 SP true n 3 ((cs.drop 7).take (Tryz.prog.cellsOf 3)) = some z6 := hf 6 _ rfl
  rw [show Tryz.prog.cellsOf 3 = 1 from by kernel_rfl] at g6
  obtain ⟨v6, r6, b6⟩ := ut_num (S := fun b => b < w.heap.size) (by kernel_rfl) g6
  refine ⟨(v0, v1, v2, v3, v4, v5, v6), ?_, ?_⟩
  rotate_left
  · rw [szb_node]
    simp only [List.map, Rows.uptoBulk, Rows.uptoBulkAll]
    have q0 := b0; rw [show szb .num v0 = 6 from rfl] at q0
    have q2 := b2; rw [show szb .tru v2 = 6 from rfl] at q2
    have q3 := b3; rw [show szb .tru v3 = 6 from rfl] at q3
    have q4 := b4; rw [show szb .num v4 = 6 from rfl] at q4
    have q5 := b5; rw [show szb .num v5 = 6 from rfl] at q5
    have q6 := b6; rw [show szb .num v6 = 6 from rfl] at q6
    omega
  rw [List.take_of_length_le (by rw [List.length_drop, hl]; omega)] at r6
  refine rep_catU 1 ?z0 (rep_catU 2 ?z1 (rep_catU 1 ?z2 (rep_catU 1 ?z3 (rep_catU 1 ?z4 (rep_catU 1 ?z5 ?z6)))))
  case z0 => simpa only [List.drop_drop, List.drop_zero, Nat.reduceAdd] using r0
  case z1 => simpa only [List.drop_drop, List.drop_zero, Nat.reduceAdd] using r1
  case z2 => simpa only [List.drop_drop, List.drop_zero, Nat.reduceAdd] using r2
  case z3 => simpa only [List.drop_drop, List.drop_zero, Nat.reduceAdd] using r3
  case z4 => simpa only [List.drop_drop, List.drop_zero, Nat.reduceAdd] using r4
  case z5 => simpa only [List.drop_drop, List.drop_zero, Nat.reduceAdd] using r5
  case z6 => simpa only [List.drop_drop, List.drop_zero, Nat.reduceAdd] using r6

theorem ut_plan {fuel : Nat} {cs : List Value} {x : DataW H × List MemPlace} (h : DataW.trod enc Tryz.prog w 0 SP true fuel 43 cs = some x) : ∃ v, Rep w (fun b => b < w.heap.size) F_plan cs v ∧ szb F_plan v ≤ 6 * Rows.uptoBulk x.1 := by
  obtain ⟨xs, n, rfl, rfl, hl, hlen, hf⟩ := DataW.trod_struct Tryz.underlying43 h
  rw [show Tryz.prog.cellsOf 43 = 6 from by kernel_rfl] at hl
  obtain ⟨z0, z1, z2, z3, z4, z5, rfl⟩ := ll6 xs hlen
  have g0 : DataW.trod enc Tryz.prog w 0 SP true n 3 ((cs.drop 0).take (Tryz.prog.cellsOf 3)) = some z0 := hf 0 _ rfl
  rw [show Tryz.prog.cellsOf 3 = 1 from by kernel_rfl] at g0
  obtain ⟨v0, r0, b0⟩ := ut_num (S := fun b => b < w.heap.size) (by kernel_rfl) g0
  have g1 : DataW.trod enc Tryz.prog w 0 SP true n 3 ((cs.drop 1).take (Tryz.prog.cellsOf 3)) = some z1 := hf 1 _ rfl
  rw [show Tryz.prog.cellsOf 3 = 1 from by kernel_rfl] at g1
  obtain ⟨v1, r1, b1⟩ := ut_num (S := fun b => b < w.heap.size) (by kernel_rfl) g1
  have g2 : DataW.trod enc Tryz.prog w 0 SP true n 3 ((cs.drop 2).take (Tryz.prog.cellsOf 3)) = some z2 := hf 2 _ rfl
  rw [show Tryz.prog.cellsOf 3 = 1 from by kernel_rfl] at g2
  obtain ⟨v2, r2, b2⟩ := ut_num (S := fun b => b < w.heap.size) (by kernel_rfl) g2
  have g3 : DataW.trod enc Tryz.prog w 0 SP true n 29 ((cs.drop 3).take (Tryz.prog.cellsOf 29)) = some z3 := hf 3 _ rfl
  rw [show Tryz.prog.cellsOf 29 = 1 from by kernel_rfl] at g3
  obtain ⟨v3, r3, b3⟩ := ut_lst (e := 3) (f := .num) (by kernel_rfl) (by kernel_rfl) (by decide) (fun _ _ _ h => ut_num (S := fun b => b < w.heap.size) (by kernel_rfl) h) g3
  have g4 : DataW.trod enc Tryz.prog w 0 SP true n 41 ((cs.drop 4).take (Tryz.prog.cellsOf 41)) = some z4 := hf 4 _ rfl
  rw [show Tryz.prog.cellsOf 41 = 1 from by kernel_rfl] at g4
  obtain ⟨v4, r4, b4⟩ := ut_lst (e := 83) (f := F_alloc) (by kernel_rfl) (by kernel_rfl) (by decide) (fun _ _ _ h => ut_alloc h) g4
  have g5 : DataW.trod enc Tryz.prog w 0 SP true n 4 ((cs.drop 5).take (Tryz.prog.cellsOf 4)) = some z5 := hf 5 _ rfl
  rw [show Tryz.prog.cellsOf 4 = 1 from by kernel_rfl] at g5
  obtain ⟨v5, r5, b5⟩ := ut_tru (S := fun b => b < w.heap.size) (by kernel_rfl) g5
  refine ⟨(v0, v1, v2, v3, v4, v5), ?_, ?_⟩
  rotate_left
  · rw [szb_plan]
    simp only [List.map, Rows.uptoBulk, Rows.uptoBulkAll]
    have q0 := b0; rw [show szb .num v0 = 6 from rfl] at q0
    have q1 := b1; rw [show szb .num v1 = 6 from rfl] at q1
    have q2 := b2; rw [show szb .num v2 = 6 from rfl] at q2
    have q5 := b5; rw [show szb .tru v5 = 6 from rfl] at q5
    omega
  rw [List.take_of_length_le (by rw [List.length_drop, hl]; omega)] at r5
  refine rep_catU 1 ?z0 (rep_catU 1 ?z1 (rep_catU 1 ?z2 (rep_catU 1 ?z3 (rep_catU 1 ?z4 ?z5))))
  case z0 => simpa only [List.drop_drop, List.drop_zero, Nat.reduceAdd] using r0
  case z1 => simpa only [List.drop_drop, List.drop_zero, Nat.reduceAdd] using r1
  case z2 => simpa only [List.drop_drop, List.drop_zero, Nat.reduceAdd] using r2
  case z3 => simpa only [List.drop_drop, List.drop_zero, Nat.reduceAdd] using r3
  case z4 => simpa only [List.drop_drop, List.drop_zero, Nat.reduceAdd] using r4
  case z5 => simpa only [List.drop_drop, List.drop_zero, Nat.reduceAdd] using r5

theorem ut_result {fuel : Nat} {cs : List Value} {x : DataW H × List MemPlace} (h : DataW.trod enc Tryz.prog w 0 SP true fuel 48 cs = some x) : ∃ v, Rep w (fun b => b < w.heap.size) F_result cs v ∧ szb F_result v ≤ 6 * Rows.uptoBulk x.1 := by
  obtain ⟨xs, n, rfl, rfl, hl, hlen, hf⟩ := DataW.trod_struct Tryz.underlying48 h
  rw [show Tryz.prog.cellsOf 48 = 3 from by kernel_rfl] at hl
  obtain ⟨z0, z1, z2, rfl⟩ := ll3 xs hlen
  have g0 : DataW.trod enc Tryz.prog w 0 SP true n 46 ((cs.drop 0).take (Tryz.prog.cellsOf 46)) = some z0 := hf 0 _ rfl
  rw [show Tryz.prog.cellsOf 46 = 1 from by kernel_rfl] at g0
  obtain ⟨v0, r0, b0⟩ := ut_num (S := fun b => b < w.heap.size) (by kernel_rfl) g0
  have g1 : DataW.trod enc Tryz.prog w 0 SP true n 3 ((cs.drop 1).take (Tryz.prog.cellsOf 3)) = some z1 := hf 1 _ rfl
  rw [show Tryz.prog.cellsOf 3 = 1 from by kernel_rfl] at g1
  obtain ⟨v1, r1, b1⟩ := ut_num (S := fun b => b < w.heap.size) (by kernel_rfl) g1
  have g2 : DataW.trod enc Tryz.prog w 0 SP true n 41 ((cs.drop 2).take (Tryz.prog.cellsOf 41)) = some z2 := hf 2 _ rfl
  rw [show Tryz.prog.cellsOf 41 = 1 from by kernel_rfl] at g2
  obtain ⟨v2, r2, b2⟩ := ut_lst (e := 83) (f := F_alloc) (by kernel_rfl) (by kernel_rfl) (by decide) (fun _ _ _ h => ut_alloc h) g2
  refine ⟨(v0, v1, v2), ?_, ?_⟩
  rotate_left
  · rw [szb_result]
    simp only [List.map, Rows.uptoBulk, Rows.uptoBulkAll]
    have q0 := b0; rw [show szb .num v0 = 6 from rfl] at q0
    have q1 := b1; rw [show szb .num v1 = 6 from rfl] at q1
    omega
  rw [List.take_of_length_le (by rw [List.length_drop, hl]; omega)] at r2
  refine rep_catU 1 ?z0 (rep_catU 1 ?z1 ?z2)
  case z0 => simpa only [List.drop_drop, List.drop_zero, Nat.reduceAdd] using r0
  case z1 => simpa only [List.drop_drop, List.drop_zero, Nat.reduceAdd] using r1
  case z2 => simpa only [List.drop_drop, List.drop_zero, Nat.reduceAdd] using r2

theorem ut_cmd {fuel : Nat} {cs : List Value} {x : DataW H × List MemPlace} (h : DataW.trod enc Tryz.prog w 0 SP true fuel 45 cs = some x) : ∃ v, Rep w (fun b => b < w.heap.size) F_cmd cs v ∧ szb F_cmd v ≤ 6 * Rows.uptoBulk x.1 := by
  obtain ⟨xs, n, rfl, rfl, hl, hlen, hf⟩ := DataW.trod_struct Tryz.underlying45 h
  rw [show Tryz.prog.cellsOf 45 = 27 from by kernel_rfl] at hl
  obtain ⟨z0, z1, z2, z3, z4, z5, z6, z7, rfl⟩ := ll8 xs hlen
  have g0 : DataW.trod enc Tryz.prog w 0 SP true n 3 ((cs.drop 0).take (Tryz.prog.cellsOf 3)) = some z0 := hf 0 _ rfl
  rw [show Tryz.prog.cellsOf 3 = 1 from by kernel_rfl] at g0
  obtain ⟨v0, r0, b0⟩ := ut_num (S := fun b => b < w.heap.size) (by kernel_rfl) g0
  have g1 : DataW.trod enc Tryz.prog w 0 SP true n 3 ((cs.drop 1).take (Tryz.prog.cellsOf 3)) = some z1 := hf 1 _ rfl
  rw [show Tryz.prog.cellsOf 3 = 1 from by kernel_rfl] at g1
  obtain ⟨v1, r1, b1⟩ := ut_num (S := fun b => b < w.heap.size) (by kernel_rfl) g1
  have g2 : DataW.trod enc Tryz.prog w 0 SP true n 3 ((cs.drop 2).take (Tryz.prog.cellsOf 3)) = some z2 := hf 2 _ rfl
  rw [show Tryz.prog.cellsOf 3 = 1 from by kernel_rfl] at g2
  obtain ⟨v2, r2, b2⟩ := ut_num (S := fun b => b < w.heap.size) (by kernel_rfl) g2
  have g3 : DataW.trod enc Tryz.prog w 0 SP true n 35 ((cs.drop 3).take (Tryz.prog.cellsOf 35)) = some z3 := hf 3 _ rfl
  rw [show Tryz.prog.cellsOf 35 = 7 from by kernel_rfl] at g3
  obtain ⟨v3, r3, b3⟩ := ut_job g3
  have g4 : DataW.trod enc Tryz.prog w 0 SP true n 39 ((cs.drop 10).take (Tryz.prog.cellsOf 39)) = some z4 := hf 4 _ rfl
  rw [show Tryz.prog.cellsOf 39 = 8 from by kernel_rfl] at g4
  obtain ⟨v4, r4, b4⟩ := ut_node g4
  have g5 : DataW.trod enc Tryz.prog w 0 SP true n 40 ((cs.drop 18).take (Tryz.prog.cellsOf 40)) = some z5 := hf 5 _ rfl
  rw [show Tryz.prog.cellsOf 40 = 1 from by kernel_rfl] at g5
  obtain ⟨v5, r5, b5⟩ := ut_lst (e := 108) (f := F_report) (by kernel_rfl) (by kernel_rfl) (by decide) (fun _ _ _ h => ut_report h) g5
  have g6 : DataW.trod enc Tryz.prog w 0 SP true n 43 ((cs.drop 19).take (Tryz.prog.cellsOf 43)) = some z6 := hf 6 _ rfl
  rw [show Tryz.prog.cellsOf 43 = 6 from by kernel_rfl] at g6
  obtain ⟨v6, r6, b6⟩ := ut_plan g6
  have g7 : DataW.trod enc Tryz.prog w 0 SP true n 31 ((cs.drop 25).take (Tryz.prog.cellsOf 31)) = some z7 := hf 7 _ rfl
  rw [show Tryz.prog.cellsOf 31 = 2 from by kernel_rfl] at g7
  obtain ⟨v7, r7, b7⟩ := ut_conf g7
  refine ⟨(v0, v1, v2, v3, v4, v5, v6, v7), ?_, ?_⟩
  rotate_left
  · rw [szb_cmd]
    simp only [List.map, Rows.uptoBulk, Rows.uptoBulkAll]
    have q0 := b0; rw [show szb .num v0 = 6 from rfl] at q0
    have q1 := b1; rw [show szb .num v1 = 6 from rfl] at q1
    have q2 := b2; rw [show szb .num v2 = 6 from rfl] at q2
    omega
  rw [List.take_of_length_le (by rw [List.length_drop, hl]; omega)] at r7
  refine rep_catU 1 ?z0 (rep_catU 1 ?z1 (rep_catU 1 ?z2 (rep_catU 7 ?z3 (rep_catU 8 ?z4 (rep_catU 1 ?z5 (rep_catU 6 ?z6 ?z7))))))
  case z0 => simpa only [List.drop_drop, List.drop_zero, Nat.reduceAdd] using r0
  case z1 => simpa only [List.drop_drop, List.drop_zero, Nat.reduceAdd] using r1
  case z2 => simpa only [List.drop_drop, List.drop_zero, Nat.reduceAdd] using r2
  case z3 => simpa only [List.drop_drop, List.drop_zero, Nat.reduceAdd] using r3
  case z4 => simpa only [List.drop_drop, List.drop_zero, Nat.reduceAdd] using r4
  case z5 => simpa only [List.drop_drop, List.drop_zero, Nat.reduceAdd] using r5
  case z6 => simpa only [List.drop_drop, List.drop_zero, Nat.reduceAdd] using r6
  case z7 => simpa only [List.drop_drop, List.drop_zero, Nat.reduceAdd] using r7

theorem ut_entry {fuel : Nat} {cs : List Value} {x : DataW H × List MemPlace} (h : DataW.trod enc Tryz.prog w 0 SP true fuel 81 cs = some x) : ∃ v, Rep w (fun b => b < w.heap.size) F_entry cs v ∧ szb F_entry v ≤ 6 * Rows.uptoBulk x.1 := by
  obtain ⟨xs, n, rfl, rfl, hl, hlen, hf⟩ := DataW.trod_struct Tryz.underlying81 h
  rw [show Tryz.prog.cellsOf 81 = 29 from by kernel_rfl] at hl
  obtain ⟨z0, z1, z2, rfl⟩ := ll3 xs hlen
  have g0 : DataW.trod enc Tryz.prog w 0 SP true n 3 ((cs.drop 0).take (Tryz.prog.cellsOf 3)) = some z0 := hf 0 _ rfl
  rw [show Tryz.prog.cellsOf 3 = 1 from by kernel_rfl] at g0
  obtain ⟨v0, r0, b0⟩ := ut_num (S := fun b => b < w.heap.size) (by kernel_rfl) g0
  have g1 : DataW.trod enc Tryz.prog w 0 SP true n 3 ((cs.drop 1).take (Tryz.prog.cellsOf 3)) = some z1 := hf 1 _ rfl
  rw [show Tryz.prog.cellsOf 3 = 1 from by kernel_rfl] at g1
  obtain ⟨v1, r1, b1⟩ := ut_num (S := fun b => b < w.heap.size) (by kernel_rfl) g1
  have g2 : DataW.trod enc Tryz.prog w 0 SP true n 45 ((cs.drop 2).take (Tryz.prog.cellsOf 45)) = some z2 := hf 2 _ rfl
  rw [show Tryz.prog.cellsOf 45 = 27 from by kernel_rfl] at g2
  obtain ⟨v2, r2, b2⟩ := ut_cmd g2
  refine ⟨(v0, v1, v2), ?_, ?_⟩
  rotate_left
  · rw [szb_entry]
    simp only [List.map, Rows.uptoBulk, Rows.uptoBulkAll]
    have q0 := b0; rw [show szb .num v0 = 6 from rfl] at q0
    have q1 := b1; rw [show szb .num v1 = 6 from rfl] at q1
    omega
  rw [List.take_of_length_le (by rw [List.length_drop, hl]; omega)] at r2
  refine rep_catU 1 ?z0 (rep_catU 1 ?z1 ?z2)
  case z0 => simpa only [List.drop_drop, List.drop_zero, Nat.reduceAdd] using r0
  case z1 => simpa only [List.drop_drop, List.drop_zero, Nat.reduceAdd] using r1
  case z2 => simpa only [List.drop_drop, List.drop_zero, Nat.reduceAdd] using r2
end
end Go.Proofs.YtcdoejdbmllnnabGreat

/- An argument with bytes that came in: a message or a snapshot holds a value, in blocks that are there. Made by program (wip/gen/opnb.py). -/
namespace Go.Proofs.YtcdoejdbmllnnabGreat
open Go.ChangeShapes Go.WideShapes Go.ChangeAt Go.RowKit
section
variable {H : Type} {enc : TypeId × Value → H} {w : World}
theorem ut_byt {fuel : Nat} {cs : List Value} {x : DataW H × List MemPlace} (hb : Rows.uptoBulk x.1 ≤ 1048576) (h : DataW.trod enc Tryz.prog w 0 SP true fuel 32 cs = some x) : ∃ v, Rep w (fun b => b < w.heap.size) .byt cs v ∧ szb .byt v ≤ 6 * Rows.uptoBulk x.1 := by
  rcases open_ints Tryz.underlying32 Tryz.underlying5 Tryz.cells5 h with ⟨hcs, _⟩ | ⟨y, len, cap, zs, hcs, _, hl, hm, hz, hx, hcell, hwz⟩
  · have := bulk_pos x.1
    subst hcs
    exact ⟨[], ⟨none, 0, rfl, Nat.le_refl _, ⟨by simp, fun h => absurd rfl h⟩, fun h => absurd rfl h⟩, by show 6 + 0 ≤ _; omega⟩
  · subst hcs
    simp only [SP, if_true] at hz
    have hbk : len + 1 ≤ Rows.uptoBulk x.1 := by
      have hx1 : x.1 = _ := congrArg Prod.fst hx
      rw [hx1]
      simp only [Rows.uptoBulk]
      have h2 := bulk_count (lits (H := H) .u8 (zs.take len))
      simp only [lits, List.length_map, List.length_take] at h2 ⊢
      omega
    have hlen : (bytesOfInts (zs.take len)).length = len := by simp [bytesOfInts]; omega
    refine ⟨bytesOfInts (zs.take len), ⟨some y, cap, by rw [hlen], by rw [hlen]; exact hl, ⟨by rw [hlen]; omega, fun hne => ?_⟩, fun hne z hz2 => ?_⟩, by show 6 + (bytesOfInts (zs.take len)).length ≤ _; rw [hlen]; omega⟩
    · have hpos : 0 < len := by rw [← hlen]; exact List.length_pos_iff.2 hne
      obtain ⟨b, off, spot⟩ := y
      have hc0 := hcell 0 (by omega)
      have hspot : spot = none := by simpa [Addr.add] using World.cell?_spot hc0
      subst hspot
      refine ⟨b, off, rfl, World.block_lt_of_cell? w _ (by simpa [Addr.add] using hc0), fun j hj => ?_⟩
      have hj2 : j < len := by rw [hlen] at hj; exact hj
      rw [bat_bytesOfInts zs hwz len j hj2 (by omega), ← hcell j (by omega), Addr.add_lit]
    · have hpos : 0 < len := by rw [← hlen]; exact List.length_pos_iff.2 hne
      cases hz2
      have hc0 := hcell 0 (by omega)
      have := World.block_lt_of_cell? w _ hc0
      have e : (y.add 0).block = y.block := by unfold Addr.add; split <;> rfl
      rw [e] at this
      exact this

theorem ll17 {α : Type} (l : List α) (h : l.length = 17) : ∃ y0 y1 y2 y3 y4 y5 y6 y7 y8 y9 y10 y11 y12 y13 y14 y15 y16, l = [y0, y1, y2, y3, y4, y5, y6, y7, y8, y9, y10, y11, y12, y13, y14, y15, y16] := by
  match l, h with
  | [y0, y1, y2, y3, y4, y5, y6, y7, y8, y9, y10, y11, y12, y13, y14, y15, y16], _ => exact ⟨_, _, _, _, _, _, _, _, _, _, _, _, _, _, _, _, _, rfl⟩

set_option maxHeartbeats 4000000 in
theorem ut_msg {fuel : Nat} {cs : List Value} {x : DataW H × List MemPlace} (hb : Rows.uptoBulk x.1 ≤ 1048576) (h : DataW.trod enc Tryz.prog w 0 SP true fuel 50 cs = some x) : ∃ v, Rep w (fun b => b < w.heap.size) F_msg cs v ∧ szb F_msg v ≤ 6 * Rows.uptoBulk x.1 := by
  obtain ⟨xs, n, rfl, rfl, hl, hlen, hf⟩ := DataW.trod_struct Tryz.underlying50 h
  rw [show Tryz.prog.cellsOf 50 = 46 from by kernel_rfl] at hl
  obtain ⟨z0, z1, z2, z3, z4, z5, z6, z7, z8, z9, z10, z11, z12, z13, z14, z15, z16, rfl⟩ := ll17 xs hlen
  obtain ⟨zl, hzl⟩ : ∃ zl, zl = ([z0, z1, z2, z3, z4, z5, z6, z7, z8, z9, z10, z11, z12, z13, z14, z15, z16].map (·.1)) := ⟨_, rfl⟩
  simp only [Rows.uptoBulk] at hb
  rw [← hzl] at hb
  have g0 : DataW.trod enc Tryz.prog w 0 SP true n 3 ((cs.drop 0).take (Tryz.prog.cellsOf 3)) = some z0 := hf 0 _ rfl
  rw [show Tryz.prog.cellsOf 3 = 1 from by kernel_rfl] at g0
  obtain ⟨v0, r0, b0⟩ := ut_num (S := fun b => b < w.heap.size) (by kernel_rfl) g0
  have g1 : DataW.trod enc Tryz.prog w 0 SP true n 3 ((cs.drop 1).take (Tryz.prog.cellsOf 3)) = some z1 := hf 1 _ rfl
  rw [show Tryz.prog.cellsOf 3 = 1 from by kernel_rfl] at g1
  obtain ⟨v1, r1, b1⟩ := ut_num (S := fun b => b < w.heap.size) (by kernel_rfl) g1
  have g2 : DataW.trod enc Tryz.prog w 0 SP true n 3 ((cs.drop 2).take (Tryz.prog.cellsOf 3)) = some z2 := hf 2 _ rfl
  rw [show Tryz.prog.cellsOf 3 = 1 from by kernel_rfl] at g2
  obtain ⟨v2, r2, b2⟩ := ut_num (S := fun b => b < w.heap.size) (by kernel_rfl) g2
  have g3 : DataW.trod enc Tryz.prog w 0 SP true n 3 ((cs.drop 3).take (Tryz.prog.cellsOf 3)) = some z3 := hf 3 _ rfl
  rw [show Tryz.prog.cellsOf 3 = 1 from by kernel_rfl] at g3
  obtain ⟨v3, r3, b3⟩ := ut_num (S := fun b => b < w.heap.size) (by kernel_rfl) g3
  have g4 : DataW.trod enc Tryz.prog w 0 SP true n 3 ((cs.drop 4).take (Tryz.prog.cellsOf 3)) = some z4 := hf 4 _ rfl
  rw [show Tryz.prog.cellsOf 3 = 1 from by kernel_rfl] at g4
  obtain ⟨v4, r4, b4⟩ := ut_num (S := fun b => b < w.heap.size) (by kernel_rfl) g4
  have g5 : DataW.trod enc Tryz.prog w 0 SP true n 3 ((cs.drop 5).take (Tryz.prog.cellsOf 3)) = some z5 := hf 5 _ rfl
  rw [show Tryz.prog.cellsOf 3 = 1 from by kernel_rfl] at g5
  obtain ⟨v5, r5, b5⟩ := ut_num (S := fun b => b < w.heap.size) (by kernel_rfl) g5
  have g6 : DataW.trod enc Tryz.prog w 0 SP true n 3 ((cs.drop 6).take (Tryz.prog.cellsOf 3)) = some z6 := hf 6 _ rfl
  rw [show Tryz.prog.cellsOf 3 = 1 from by kernel_rfl] at g6
  obtain ⟨v6, r6, b6⟩ := ut_num (S := fun b => b < w.heap.size) (by kernel_rfl) g6
  have g7 : DataW.trod enc Tryz.prog w 0 SP true n 4 ((cs.drop 7).take (Tryz.prog.cellsOf 4)) = some z7 := hf 7 _ rfl
  rw [show Tryz.prog.cellsOf 4 = 1 from by kernel_rfl] at g7
  obtain ⟨v7, r7, b7⟩ := ut_tru (S := fun b => b < w.heap.size) (by kernel_rfl) g7
  have g8 : DataW.trod enc Tryz.prog w 0 SP true n 3 ((cs.drop 8).take (Tryz.prog.cellsOf 3)) = some z8 := hf 8 _ rfl
  rw [show Tryz.prog.cellsOf 3 = 1 from by kernel_rfl] at g8
  obtain ⟨v8, r8, b8⟩ := ut_num (S := fun b => b < w.heap.size) (by kernel_rfl) g8
  have g9 : DataW.trod enc Tryz.prog w 0 SP true n 3 ((cs.drop 9).take (Tryz.prog.cellsOf 3)) = some z9 := hf 9 _ rfl
  rw [show Tryz.prog.cellsOf 3 = 1 from by kernel_rfl] at g9
  obtain ⟨v9, r9, b9⟩ := ut_num (S := fun b => b < w.heap.size) (by kernel_rfl) g9
  have g10 : DataW.trod enc Tryz.prog w 0 SP true n 3 ((cs.drop 10).take (Tryz.prog.cellsOf 3)) = some z10 := hf 10 _ rfl
  rw [show Tryz.prog.cellsOf 3 = 1 from by kernel_rfl] at g10
  obtain ⟨v10, r10, b10⟩ := ut_num (S := fun b => b < w.heap.size) (by kernel_rfl) g10
  have g11 : DataW.trod enc Tryz.prog w 0 SP true n 3 ((cs.drop 11).take (Tryz.prog.cellsOf 3)) = some z11 := hf 11 _ rfl
  rw [show Tryz.prog.cellsOf 3 = 1 from by kernel_rfl] at g11
  obtain ⟨v11, r11, b11⟩ := ut_num (S := fun b => b < w.heap.size) (by kernel_rfl) g11
  have g12 : DataW.trod enc Tryz.prog w 0 SP true n 28 ((cs.drop 12).take (Tryz.prog.cellsOf 28)) = some z12 := hf 12 _ rfl
  rw [show Tryz.prog.cellsOf 28 = 1 from by kernel_rfl] at g12
  obtain ⟨v12, r12, b12⟩ := ut_lst (e := 81) (f := F_entry) (by kernel_rfl) (by kernel_rfl) (by decide) (fun _ _ _ h => ut_entry h) g12
  have g13 : DataW.trod enc Tryz.prog w 0 SP true n 31 ((cs.drop 13).take (Tryz.prog.cellsOf 31)) = some z13 := hf 13 _ rfl
  rw [show Tryz.prog.cellsOf 31 = 2 from by kernel_rfl] at g13
  obtain ⟨v13, r13, b13⟩ := ut_conf g13
  have g14 : DataW.trod enc Tryz.prog w 0 SP true n 32 ((cs.drop 15).take (Tryz.prog.cellsOf 32)) = some z14 := hf 14 _ rfl
  rw [show Tryz.prog.cellsOf 32 = 1 from by kernel_rfl] at g14
  have hb14 : Rows.uptoBulk z14.1 ≤ 1048576 := by have := bulk_mem (d := z14.1) (l := zl) (by simp [hzl]); omega
  obtain ⟨v14, r14, b14⟩ := ut_byt hb14 g14
  have g15 : DataW.trod enc Tryz.prog w 0 SP true n 45 ((cs.drop 16).take (Tryz.prog.cellsOf 45)) = some z15 := hf 15 _ rfl
  rw [show Tryz.prog.cellsOf 45 = 27 from by kernel_rfl] at g15
  obtain ⟨v15, r15, b15⟩ := ut_cmd g15
  have g16 : DataW.trod enc Tryz.prog w 0 SP true n 48 ((cs.drop 43).take (Tryz.prog.cellsOf 48)) = some z16 := hf 16 _ rfl
  rw [show Tryz.prog.cellsOf 48 = 3 from by kernel_rfl] at g16
  obtain ⟨v16, r16, b16⟩ := ut_result g16
  refine ⟨(v0, v1, v2, v3, v4, v5, v6, v7, v8, v9, v10, v11, v12, v13, v14, v15, v16), ?_, ?_⟩
  rotate_left
  · rw [szb_msg]
    simp only [List.map, Rows.uptoBulk, Rows.uptoBulkAll]
    have q0 := b0; rw [show szb .num v0 = 6 from rfl] at q0
    have q1 := b1; rw [show szb .num v1 = 6 from rfl] at q1
    have q2 := b2; rw [show szb .num v2 = 6 from rfl] at q2
    have q3 := b3; rw [show szb .num v3 = 6 from rfl] at q3
    have q4 := b4; rw [show szb .num v4 = 6 from rfl] at q4
    have q5 := b5; rw [show szb .num v5 = 6 from rfl] at q5
    have q6 := b6; rw [show szb .num v6 = 6 from rfl] at q6
    have q7 := b7; rw [show szb .tru v7 = 6 from rfl] at q7
    have q8 := b8; rw [show szb .num v8 = 6 from rfl] at q8
    have q9 := b9; rw [show szb .num v9 = 6 from rfl] at q9
    have q10 := b10; rw [show szb .num v10 = 6 from rfl] at q10
    have q11 := b11; rw [show szb .num v11 = 6 from rfl] at q11
    omega
  rw [List.take_of_length_le (by rw [List.length_drop, hl]; omega)] at r16
  refine rep_catU 1 ?z0 (rep_catU 1 ?z1 (rep_catU 1 ?z2 (rep_catU 1 ?z3 (rep_catU 1 ?z4 (rep_catU 1 ?z5 (rep_catU 1 ?z6 (rep_catU 1 ?z7 (rep_catU 1 ?z8 (rep_catU 1 ?z9 (rep_catU 1 ?z10 (rep_catU 1 ?z11 (rep_catU 1 ?z12 (rep_catU 2 ?z13 (rep_catU 1 ?z14 (rep_catU 27 ?z15 ?z16)))))))))))))))
  case z0 => simpa only [List.drop_drop, List.drop_zero, Nat.reduceAdd] using r0
  case z1 => simpa only [List.drop_drop, List.drop_zero, Nat.reduceAdd] using r1
  case z2 => simpa only [List.drop_drop, List.drop_zero, Nat.reduceAdd] using r2
  case z3 => simpa only [List.drop_drop, List.drop_zero, Nat.reduceAdd] using r3
  case z4 => simpa only [List.drop_drop, List.drop_zero, Nat.reduceAdd] using r4
  case z5 => simpa only [List.drop_drop, List.drop_zero, Nat.reduceAdd] using r5
  case z6 => simpa only [List.drop_drop, List.drop_zero, Nat.reduceAdd] using r6
  case z7 => simpa only [List.drop_drop, List.drop_zero, Nat.reduceAdd] using r7
  case z8 => simpa only [List.drop_drop, List.drop_zero, Nat.reduceAdd] using r8
  case z9 => simpa only [List.drop_drop, List.drop_zero, Nat.reduceAdd] using r9
  case z10 => simpa only [List.drop_drop, List.drop_zero, Nat.reduceAdd] using r10
  case z11 => simpa only [List.drop_drop, List.drop_zero, Nat.reduceAdd] using r11
  case z12 => simpa only [List.drop_drop, List.drop_zero, Nat.reduceAdd] using r12
  case z13 => simpa only [List.drop_drop, List.drop_zero, Nat.reduceAdd] using r13
  case z14 => simpa only [List.drop_drop, List.drop_zero, Nat.reduceAdd] using r14
  case z15 => simpa only [List.drop_drop, List.drop_zero, Nat.reduceAdd] using r15
  case z16 => simpa only [List.drop_drop, List.drop_zero, Nat.reduceAdd] using r16
end
end Go.Proofs.YtcdoejdbmllnnabGreat

/- Steps that came in: a list of records with a message in each, in blocks that are there; what the document's writer makes of each message is bounded by how much came in. -/
namespace Go.Proofs.YtcdoejdbmllnnabGreat
open Go.ChangeShapes Go.WideShapes Go.ChangeAt Go.RowKit

/- a step: its kind, its message, its number -/
abbrev F_op : Fm := .cat .num (.cat F_msg .num)
section
variable {H : Type} {enc : TypeId × Value → H} {w : World}
theorem ut_lstP {t e : TypeId} {f : Fm} {P : Vl f → Prop} {fuel : Nat} {cs : List Value} {x : DataW H × List MemPlace} (ht : Tryz.prog.underlying t = some (.slice e)) (hc : Tryz.prog.cellsOf e = wd f) (hp : 0 < wd f)
    (ih : ∀ (fuel : Nat) (cs : List Value) (x : DataW H × List MemPlace), Rows.uptoBulk x.1 ≤ 1048576 → DataW.trod enc Tryz.prog w 0 SP true fuel e cs = some x → ∃ v, Rep w (fun b => b < w.heap.size) f cs v ∧ P v)
    (hb : Rows.uptoBulk x.1 ≤ 1048576) (h : DataW.trod enc Tryz.prog w 0 SP true fuel t cs = some x) : ∃ vs, Rep w (fun b => b < w.heap.size) (.lst f) cs vs ∧ ∀ i (hi : i < vs.length), P vs[i] := by
  rcases DataW.trod_slice ht h with ⟨rfl, rfl⟩ | ⟨a, len, cap, elems, rest, n, rfl, rfl, rfl, _, hlc, hcm, hel, hE, _, _⟩
  · exact ⟨[], ⟨none, 0, rfl, by simp, fun h => absurd rfl h⟩, fun i hi => by simp at hi⟩
  · rw [hc] at hE
    simp only [Rows.uptoBulk] at hb
    have hQ : ∀ i, i < len → ∃ v : Vl f, ∃ es, Rep w (fun b => b < w.heap.size) f es v ∧ (∀ j, j < wd f → w.cell? ((a.add (i * wd f)).add j) = es[j]?) ∧ P v := by
      intro i hi
      have hEi := hE i hi
      rw [List.getElem?_eq_getElem (by omega)] at hEi
      obtain ⟨es, he, ht2⟩ := Option.bind_eq_some_iff.1 hEi
      have hm := bulk_mem (d := elems[i].1) (l := elems.map (·.1)) (List.mem_map_of_mem (List.getElem_mem (by omega)))
      obtain ⟨v, hv, hs⟩ := ih _ _ _ (by omega) ht2
      obtain ⟨_, _, hcell⟩ := World.cells?_some he
      exact ⟨v, es, hv, hcell, hs⟩
    obtain ⟨vs, hvl, hvs⟩ := list_choiceU len _ hQ
    subst hvl
    refine ⟨vs, ⟨some a, cap, rfl, by unfold maxLen at hcm; omega, fun hne => ?_⟩, fun i hi => ?_⟩
    · have h0 : 0 < vs.length := List.length_pos_iff.2 hne
      obtain ⟨b, off, spot⟩ := a
      obtain ⟨es0, hr0, hc0, _⟩ := hvs 0 h0
      have hc00 := hc0 0 hp
      rw [List.getElem?_eq_getElem (by rw [hr0.len]; exact hp)] at hc00
      have hspot : spot = none := by simpa [Addr.add] using World.cell?_spot hc00
      subst hspot
      refine ⟨b, off, rfl, World.block_lt_of_cell? w _ (by simpa [Addr.add] using hc00), fun i hi => ?_⟩
      obtain ⟨es, hr, hcs, _⟩ := hvs i hi
      refine ⟨es, hr, fun j u hu => ?_⟩
      have hj : j < wd f := by rw [← hr.len]; exact (List.getElem?_eq_some_iff.1 hu).1
      have := hcs j hj
      rw [hu, Addr.add_mid, Addr.add_mid] at this
      exact this
    · obtain ⟨_, _, _, hP⟩ := hvs i hi
      exact hP
set_option maxHeartbeats 1000000 in
theorem ut_op {fuel : Nat} {cs : List Value} {x : DataW H × List MemPlace} (hb : Rows.uptoBulk x.1 ≤ 1048576) (h : DataW.trod enc Tryz.prog w 0 SP true fuel 52 cs = some x) : ∃ v, Rep w (fun b => b < w.heap.size) F_op cs v ∧ szb F_msg v.2.1 ≤ 137438953472 := by
  obtain ⟨xs, n, rfl, rfl, hl, hlen, hf⟩ := DataW.trod_struct Tryz.underlying52 h
  rw [show Tryz.prog.cellsOf 52 = 48 from by kernel_rfl] at hl
  obtain ⟨z0, z1, z2, rfl⟩ := ll3 xs hlen
  have g0 : DataW.trod enc Tryz.prog w 0 SP true n 3 ((cs.drop 0).take (Tryz.prog.cellsOf 3)) = some z0 := hf 0 _ rfl
  rw [show Tryz.prog.cellsOf 3 = 1 from by kernel_rfl] at g0
  obtain ⟨v0, r0, _⟩ := ut_num (S := fun b => b < w.heap.size) (by kernel_rfl) g0
  have g1 : DataW.trod enc Tryz.prog w 0 SP true n 50 ((cs.drop 1).take (Tryz.prog.cellsOf 50)) = some z1 := hf 1 _ rfl
  rw [show Tryz.prog.cellsOf 50 = 46 from by kernel_rfl] at g1
  have hb1 : Rows.uptoBulk z1.1 ≤ 1048576 := by
    simp only [Rows.uptoBulk] at hb
    have := bulk_mem (d := z1.1) (l := [z0, z1, z2].map (·.1)) (by simp)
    omega
  obtain ⟨v1, r1, b1⟩ := ut_msg hb1 g1
  have g2 : DataW.trod enc Tryz.prog w 0 SP true n 3 ((cs.drop 47).take (Tryz.prog.cellsOf 3)) = some z2 := hf 2 _ rfl
  rw [show Tryz.prog.cellsOf 3 = 1 from by kernel_rfl] at g2
  obtain ⟨v2, r2, _⟩ := ut_num (S := fun b => b < w.heap.size) (by kernel_rfl) g2
  refine ⟨(v0, v1, v2), ?_, ?_⟩
  rotate_left
  · show szb F_msg v1 ≤ _
    omega
  rw [List.take_of_length_le (by rw [List.length_drop, hl]; omega)] at r2
  refine rep_catU 1 ?z0 (rep_catU 46 ?z1 ?z2)
  case z0 => simpa only [List.drop_drop, List.drop_zero, Nat.reduceAdd] using r0
  case z1 => simpa only [List.drop_drop, List.drop_zero, Nat.reduceAdd] using r1
  case z2 => simpa only [List.drop_drop, List.drop_zero, Nat.reduceAdd] using r2
theorem open_ops {a : Option Addr} {len cap : Nat} {d : DataW H} {p : List MemPlace} (h : DataW.Trod enc Tryz.prog w 0 (fun _ => true) true 22 (.slice a len cap) d p) (hb : Rows.uptoBulk d ≤ 1048576) :
    ∃ vs : List (Vl F_op), len = vs.length ∧ RepL w (fun b => b < w.heap.size) F_op a vs ∧ ∀ i (hi : i < vs.length), szb F_msg vs[i].2.1 ≤ 137438953472 := by
  obtain ⟨fuel, hf⟩ := h
  obtain ⟨vs, ⟨a', cap', e, h1, h2⟩, h3⟩ := ut_lstP (t := 22) (e := 52) (f := F_op) (P := fun v => szb F_msg v.2.1 ≤ 137438953472) (by kernel_rfl) (by kernel_rfl) (by decide) (fun _ _ _ hb h => ut_op hb h) hb hf
  simp [Value.cells] at e
  obtain ⟨rfl, rfl, rfl⟩ := e
  exact ⟨vs, rfl, ⟨h1, h2⟩, h3⟩
end
end Go.Proofs.YtcdoejdbmllnnabGreat
