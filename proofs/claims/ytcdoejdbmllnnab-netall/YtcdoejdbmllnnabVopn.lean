/- An argument that came in: a record of whatever kind holds a value, in blocks that are there. Made by program (wip/gen/opn.py). -/
import Derived.Test.YtcdoejdbmllnnabVfm
import Derived.Test.YtcdoejdbmllnnabOpen
namespace Go.Proofs.Ytcdoejdbmllnnab
open Go.ChangeShapes Go.WideShapes Go.ChangeAt Go.RowKit

theorem list_choice {α : Type} (n : Nat) (Q : Nat → α → Prop) (h : ∀ i, i < n → ∃ v, Q i v) : ∃ vs : List α, vs.length = n ∧ ∀ i (hi : i < vs.length), Q i vs[i] := by
  induction n with
  | zero => exact ⟨[], rfl, fun i hi => by simp at hi⟩
  | succ n ih =>
    obtain ⟨vs, hl, hv⟩ := ih (fun i hi => h i (by omega))
    obtain ⟨v, hq⟩ := h n (by omega)
    refine ⟨vs ++ [v], by simp [hl], fun i hi => ?_⟩
    rw [List.length_append] at hi
    simp only [List.length_cons, List.length_nil] at hi
    by_cases hin : i < vs.length
    · rw [List.getElem_append_left hin]; exact hv i hin
    · have : i = n := by omega
      subst this
      rw [List.getElem_append_right (by omega)]
      simpa [hl] using hq
theorem rep_cat {w : World} {S : Nat → Prop} {f g : Fm} {cs : List Value} {a : Vl f} {b : Vl g} (k : Nat) (h1 : Rep w S f (cs.take k) a) (h2 : Rep w S g (cs.drop k) b) : Rep w S (.cat f g) cs (a, b) :=
  ⟨_, _, (List.take_append_drop k cs).symm, h1, h2⟩
section
variable {H : Type} {enc : TypeId × Value → H} {w : World} {sp : Nat → Bool}
theorem tr_num {t : TypeId} {fuel : Nat} {cs : List Value} {x : DataW H × List MemPlace} {S : Nat → Prop} (ht : Try.prog.underlying t = some (.int .i64)) (h : DataW.trod enc Try.prog w 0 sp true fuel t cs = some x) : ∃ v, Rep w S .num cs v := by
  obtain ⟨n, rfl, _, _⟩ := DataW.trod_int ht h
  exact ⟨n, rfl⟩
theorem tr_tru {t : TypeId} {fuel : Nat} {cs : List Value} {x : DataW H × List MemPlace} {S : Nat → Prop} (ht : Try.prog.underlying t = some .bool) (h : DataW.trod enc Try.prog w 0 sp true fuel t cs = some x) : ∃ v, Rep w S .tru cs v := by
  obtain ⟨b, rfl, _⟩ := DataW.trod_bool ht h
  exact ⟨b, rfl⟩
theorem tr_lst {t e : TypeId} {f : Fm} {fuel : Nat} {cs : List Value} {x : DataW H × List MemPlace} (ht : Try.prog.underlying t = some (.slice e)) (hc : Try.prog.cellsOf e = wd f) (hp : 0 < wd f)
    (ih : ∀ (fuel : Nat) (cs : List Value) (x : DataW H × List MemPlace), DataW.trod enc Try.prog w 0 sp true fuel e cs = some x → ∃ v, Rep w (fun b => b < w.heap.size) f cs v)
    (h : DataW.trod enc Try.prog w 0 sp true fuel t cs = some x) : ∃ v, Rep w (fun b => b < w.heap.size) (.lst f) cs v := by
  rcases DataW.trod_slice ht h with ⟨rfl, _⟩ | ⟨a, len, cap, elems, rest, n, rfl, rfl, _, _, hlc, hcm, hel, hE, _, _⟩
  · exact ⟨[], none, 0, rfl, by simp, fun h => absurd rfl h⟩
  · rw [hc] at hE
    have hQ : ∀ i, i < len → ∃ v : Vl f, ∃ es, Rep w (fun b => b < w.heap.size) f es v ∧ ∀ j, j < wd f → w.cell? ((a.add (i * wd f)).add j) = es[j]? := by
      intro i hi
      have hEi := hE i hi
      rw [List.getElem?_eq_getElem (by omega)] at hEi
      obtain ⟨es, he, ht2⟩ := Option.bind_eq_some_iff.1 hEi
      obtain ⟨v, hv⟩ := ih _ _ _ ht2
      obtain ⟨_, _, hcell⟩ := World.cells?_some he
      exact ⟨v, es, hv, hcell⟩
    obtain ⟨vs, hvl, hvs⟩ := list_choice len _ hQ
    subst hvl
    refine ⟨vs, some a, cap, rfl, by unfold maxLen at hcm; omega, fun hne => ?_⟩
    have h0 : 0 < vs.length := List.length_pos_iff.2 hne
    obtain ⟨b, off, spot⟩ := a
    obtain ⟨es0, hr0, hc0⟩ := hvs 0 h0
    have hc00 := hc0 0 hp
    rw [List.getElem?_eq_getElem (by rw [hr0.len]; exact hp)] at hc00
    have hspot : spot = none := by simpa [Addr.add] using World.cell?_spot hc00
    subst hspot
    refine ⟨b, off, rfl, World.block_lt_of_cell? w _ (by simpa [Addr.add] using hc00), fun i hi => ?_⟩
    obtain ⟨es, hr, hcs⟩ := hvs i hi
    refine ⟨es, hr, fun j u hu => ?_⟩
    have hj : j < wd f := by rw [← hr.len]; exact (List.getElem?_eq_some_iff.1 hu).1
    have := hcs j hj
    rw [hu, Addr.add_mid, Addr.add_mid] at this
    exact this


theorem tr_res {fuel : Nat} {cs : List Value} {x : DataW H × List MemPlace} (h : DataW.trod enc Try.prog w 0 sp true fuel 35 cs = some x) : ∃ v, Rep w (fun b => b < w.heap.size) F_res cs v := by
  obtain ⟨xs, n, rfl, rfl, hl, hlen, hf⟩ := DataW.trod_struct Try.underlying35 h
  rw [show Try.prog.cellsOf 35 = 2 from by kernel_rfl] at hl
  have hlen : xs.length = 2 := hlen
  have g0 : DataW.trod enc Try.prog w 0 sp true n 3 ((cs.drop 0).take (Try.prog.cellsOf 3)) = xs[0]? := hf 0 _ rfl
  rw [show Try.prog.cellsOf 3 = 1 from by kernel_rfl, List.getElem?_eq_getElem (by omega)] at g0
  obtain ⟨v0, r0⟩ := tr_num (S := fun b => b < w.heap.size) (by kernel_rfl) g0
  have g1 : DataW.trod enc Try.prog w 0 sp true n 3 ((cs.drop 1).take (Try.prog.cellsOf 3)) = xs[1]? := hf 1 _ rfl
  rw [show Try.prog.cellsOf 3 = 1 from by kernel_rfl, List.getElem?_eq_getElem (by omega)] at g1
  obtain ⟨v1, r1⟩ := tr_num (S := fun b => b < w.heap.size) (by kernel_rfl) g1
  refine ⟨(v0, v1), ?_⟩
  rw [List.take_of_length_le (by rw [List.length_drop, hl]; omega)] at r1
  refine rep_cat 1 ?z0 ?z1
  case z0 => simpa only [List.drop_drop, List.drop_zero, Nat.reduceAdd] using r0
  case z1 => simpa only [List.drop_drop, List.drop_zero, Nat.reduceAdd] using r1

theorem tr_conf {fuel : Nat} {cs : List Value} {x : DataW H × List MemPlace} (h : DataW.trod enc Try.prog w 0 sp true fuel 29 cs = some x) : ∃ v, Rep w (fun b => b < w.heap.size) F_conf cs v := by
  obtain ⟨xs, n, rfl, rfl, hl, hlen, hf⟩ := DataW.trod_struct Try.underlying29 h
  rw [show Try.prog.cellsOf 29 = 2 from by kernel_rfl] at hl
  have hlen : xs.length = 2 := hlen
  have g0 : DataW.trod enc Try.prog w 0 sp true n 23 ((cs.drop 0).take (Try.prog.cellsOf 23)) = xs[0]? := hf 0 _ rfl
  rw [show Try.prog.cellsOf 23 = 1 from by kernel_rfl, List.getElem?_eq_getElem (by omega)] at g0
  obtain ⟨v0, r0⟩ := tr_lst (e := 3) (f := .num) (by kernel_rfl) (by kernel_rfl) (by decide) (fun _ _ _ h => tr_num (S := fun b => b < w.heap.size) (by kernel_rfl) h) g0
  have g1 : DataW.trod enc Try.prog w 0 sp true n 23 ((cs.drop 1).take (Try.prog.cellsOf 23)) = xs[1]? := hf 1 _ rfl
  rw [show Try.prog.cellsOf 23 = 1 from by kernel_rfl, List.getElem?_eq_getElem (by omega)] at g1
  obtain ⟨v1, r1⟩ := tr_lst (e := 3) (f := .num) (by kernel_rfl) (by kernel_rfl) (by decide) (fun _ _ _ h => tr_num (S := fun b => b < w.heap.size) (by kernel_rfl) h) g1
  refine ⟨(v0, v1), ?_⟩
  rw [List.take_of_length_le (by rw [List.length_drop, hl]; omega)] at r1
  refine rep_cat 1 ?z0 ?z1
  case z0 => simpa only [List.drop_drop, List.drop_zero, Nat.reduceAdd] using r0
  case z1 => simpa only [List.drop_drop, List.drop_zero, Nat.reduceAdd] using r1

theorem tr_alloc {fuel : Nat} {cs : List Value} {x : DataW H × List MemPlace} (h : DataW.trod enc Try.prog w 0 sp true fuel 107 cs = some x) : ∃ v, Rep w (fun b => b < w.heap.size) F_alloc cs v := by
  obtain ⟨xs, n, rfl, rfl, hl, hlen, hf⟩ := DataW.trod_struct Try.underlying107 h
  rw [show Try.prog.cellsOf 107 = 11 from by kernel_rfl] at hl
  have hlen : xs.length = 10 := hlen
  have g0 : DataW.trod enc Try.prog w 0 sp true n 3 ((cs.drop 0).take (Try.prog.cellsOf 3)) = xs[0]? := hf 0 _ rfl
  rw [show Try.prog.cellsOf 3 = 1 from by kernel_rfl, List.getElem?_eq_getElem (by omega)] at g0
  obtain ⟨v0, r0⟩ := tr_num (S := fun b => b < w.heap.size) (by kernel_rfl) g0
  have g1 : DataW.trod enc Try.prog w 0 sp true n 3 ((cs.drop 1).take (Try.prog.cellsOf 3)) = xs[1]? := hf 1 _ rfl
  rw [show Try.prog.cellsOf 3 = 1 from by kernel_rfl, List.getElem?_eq_getElem (by omega)] at g1
  obtain ⟨v1, r1⟩ := tr_num (S := fun b => b < w.heap.size) (by kernel_rfl) g1
  have g2 : DataW.trod enc Try.prog w 0 sp true n 3 ((cs.drop 2).take (Try.prog.cellsOf 3)) = xs[2]? := hf 2 _ rfl
  rw [show Try.prog.cellsOf 3 = 1 from by kernel_rfl, List.getElem?_eq_getElem (by omega)] at g2
  obtain ⟨v2, r2⟩ := tr_num (S := fun b => b < w.heap.size) (by kernel_rfl) g2
  have g3 : DataW.trod enc Try.prog w 0 sp true n 3 ((cs.drop 3).take (Try.prog.cellsOf 3)) = xs[3]? := hf 3 _ rfl
  rw [show Try.prog.cellsOf 3 = 1 from by kernel_rfl, List.getElem?_eq_getElem (by omega)] at g3
  obtain ⟨v3, r3⟩ := tr_num (S := fun b => b < w.heap.size) (by kernel_rfl) g3
  have g4 : DataW.trod enc Try.prog w 0 sp true n 3 ((cs.drop 4).take (Try.prog.cellsOf 3)) = xs[4]? := hf 4 _ rfl
  rw [show Try.prog.cellsOf 3 = 1 from by kernel_rfl, List.getElem?_eq_getElem (by omega)] at g4
  obtain ⟨v4, r4⟩ := tr_num (S := fun b => b < w.heap.size) (by kernel_rfl) g4
  have g5 : DataW.trod enc Try.prog w 0 sp true n 3 ((cs.drop 5).take (Try.prog.cellsOf 3)) = xs[5]? := hf 5 _ rfl
  rw [show Try.prog.cellsOf 3 = 1 from by kernel_rfl, List.getElem?_eq_getElem (by omega)] at g5
  obtain ⟨v5, r5⟩ := tr_num (S := fun b => b < w.heap.size) (by kernel_rfl) g5
  have g6 : DataW.trod enc Try.prog w 0 sp true n 3 ((cs.drop 6).take (Try.prog.cellsOf 3)) = xs[6]? := hf 6 _ rfl
  rw [show Try.prog.cellsOf 3 = 1 from by kernel_rfl, List.getElem?_eq_getElem (by omega)] at g6
  obtain ⟨v6, r6⟩ := tr_num (S := fun b => b < w.heap.size) (by kernel_rfl) g6
  have g7 : DataW.trod enc Try.prog w 0 sp true n 35 ((cs.drop 7).take (Try.prog.cellsOf 35)) = xs[7]? := hf 7 _ rfl
  rw [show Try.prog.cellsOf 35 = 2 from by kernel_rfl, List.getElem?_eq_getElem (by omega)] at g7
  obtain ⟨v7, r7⟩ := tr_res g7
  have g8 : DataW.trod enc Try.prog w 0 sp true n 4 ((cs.drop 9).take (Try.prog.cellsOf 4)) = xs[8]? := hf 8 _ rfl
  rw [show Try.prog.cellsOf 4 = 1 from by kernel_rfl, List.getElem?_eq_getElem (by omega)] at g8
  obtain ⟨v8, r8⟩ := tr_tru (S := fun b => b < w.heap.size) (by kernel_rfl) g8
  have g9 : DataW.trod enc Try.prog w 0 sp true n 3 ((cs.drop 10).take (Try.prog.cellsOf 3)) = xs[9]? := hf 9 _ rfl
  rw [show Try.prog.cellsOf 3 = 1 from by kernel_rfl, List.getElem?_eq_getElem (by omega)] at g9
  obtain ⟨v9, r9⟩ := tr_num (S := fun b => b < w.heap.size) (by kernel_rfl) g9
  refine ⟨(v0, v1, v2, v3, v4, v5, v6, v7, v8, v9), ?_⟩
  rw [List.take_of_length_le (by rw [List.length_drop, hl]; omega)] at r9
  refine rep_cat 1 ?z0 (rep_cat 1 ?z1 (rep_cat 1 ?z2 (rep_cat 1 ?z3 (rep_cat 1 ?z4 (rep_cat 1 ?z5 (rep_cat 1 ?z6 (rep_cat 2 ?z7 (rep_cat 1 ?z8 ?z9))))))))
  case z0 => simpa only [List.drop_drop, List.drop_zero, Nat.reduceAdd] using r0
  case z1 => simpa only [List.drop_drop, List.drop_zero, Nat.reduceAdd] using r1
  case z2 => simpa only [List.drop_drop, List.drop_zero, Nat.reduceAdd] using r2
  case z3 => simpa only [List.drop_drop, List.drop_zero, Nat.reduceAdd] using r3
  case z4 => simpa only [List.drop_drop, List.drop_zero, Nat.reduceAdd] using r4
  case z5 => simpa only [List.drop_drop, List.drop_zero, Nat.reduceAdd] using r5
  case z6 => simpa only [List.drop_drop, List.drop_zero, Nat.reduceAdd] using r6
  case z7 => simpa only [List.drop_drop, List.drop_zero, Nat.reduceAdd] using r7
  case z8 => simpa only [List.drop_drop, List.drop_zero, Nat.reduceAdd] using r8
  case z9 => simpa only [List.drop_drop, List.drop_zero, Nat.reduceAdd] using r9

theorem tr_report {fuel : Nat} {cs : List Value} {x : DataW H × List MemPlace} (h : DataW.trod enc Try.prog w 0 sp true fuel 102 cs = some x) : ∃ v, Rep w (fun b => b < w.heap.size) F_report cs v := by
  obtain ⟨xs, n, rfl, rfl, hl, hlen, hf⟩ := DataW.trod_struct Try.underlying102 h
  rw [show Try.prog.cellsOf 102 = 2 from by kernel_rfl] at hl
  have hlen : xs.length = 2 := hlen
  have g0 : DataW.trod enc Try.prog w 0 sp true n 3 ((cs.drop 0).take (Try.prog.cellsOf 3)) = xs[0]? := hf 0 _ rfl
  rw [show Try.prog.cellsOf 3 = 1 from by kernel_rfl, List.getElem?_eq_getElem (by omega)] at g0
  obtain ⟨v0, r0⟩ := tr_num (S := fun b => b < w.heap.size) (by kernel_rfl) g0
  have g1 : DataW.trod enc Try.prog w 0 sp true n 3 ((cs.drop 1).take (Try.prog.cellsOf 3)) = xs[1]? := hf 1 _ rfl
  rw [show Try.prog.cellsOf 3 = 1 from by kernel_rfl, List.getElem?_eq_getElem (by omega)] at g1
  obtain ⟨v1, r1⟩ := tr_num (S := fun b => b < w.heap.size) (by kernel_rfl) g1
  refine ⟨(v0, v1), ?_⟩
  rw [List.take_of_length_le (by rw [List.length_drop, hl]; omega)] at r1
  refine rep_cat 1 ?z0 ?z1
  case z0 => simpa only [List.drop_drop, List.drop_zero, Nat.reduceAdd] using r0
  case z1 => simpa only [List.drop_drop, List.drop_zero, Nat.reduceAdd] using r1

theorem tr_group {fuel : Nat} {cs : List Value} {x : DataW H × List MemPlace} (h : DataW.trod enc Try.prog w 0 sp true fuel 121 cs = some x) : ∃ v, Rep w (fun b => b < w.heap.size) F_group cs v := by
  obtain ⟨xs, n, rfl, rfl, hl, hlen, hf⟩ := DataW.trod_struct Try.underlying121 h
  rw [show Try.prog.cellsOf 121 = 3 from by kernel_rfl] at hl
  have hlen : xs.length = 2 := hlen
  have g0 : DataW.trod enc Try.prog w 0 sp true n 3 ((cs.drop 0).take (Try.prog.cellsOf 3)) = xs[0]? := hf 0 _ rfl
  rw [show Try.prog.cellsOf 3 = 1 from by kernel_rfl, List.getElem?_eq_getElem (by omega)] at g0
  obtain ⟨v0, r0⟩ := tr_num (S := fun b => b < w.heap.size) (by kernel_rfl) g0
  have g1 : DataW.trod enc Try.prog w 0 sp true n 35 ((cs.drop 1).take (Try.prog.cellsOf 35)) = xs[1]? := hf 1 _ rfl
  rw [show Try.prog.cellsOf 35 = 2 from by kernel_rfl, List.getElem?_eq_getElem (by omega)] at g1
  obtain ⟨v1, r1⟩ := tr_res g1
  refine ⟨(v0, v1), ?_⟩
  rw [List.take_of_length_le (by rw [List.length_drop, hl]; omega)] at r1
  refine rep_cat 1 ?z0 ?z1
  case z0 => simpa only [List.drop_drop, List.drop_zero, Nat.reduceAdd] using r0
  case z1 => simpa only [List.drop_drop, List.drop_zero, Nat.reduceAdd] using r1

theorem tr_job {fuel : Nat} {cs : List Value} {x : DataW H × List MemPlace} (h : DataW.trod enc Try.prog w 0 sp true fuel 33 cs = some x) : ∃ v, Rep w (fun b => b < w.heap.size) F_job cs v := by
  obtain ⟨xs, n, rfl, rfl, hl, hlen, hf⟩ := DataW.trod_struct Try.underlying33 h
  rw [show Try.prog.cellsOf 33 = 7 from by kernel_rfl] at hl
  have hlen : xs.length = 7 := hlen
  have g0 : DataW.trod enc Try.prog w 0 sp true n 3 ((cs.drop 0).take (Try.prog.cellsOf 3)) = xs[0]? := hf 0 _ rfl
  rw [show Try.prog.cellsOf 3 = 1 from by kernel_rfl, List.getElem?_eq_getElem (by omega)] at g0
  obtain ⟨v0, r0⟩ := tr_num (S := fun b => b < w.heap.size) (by kernel_rfl) g0
  have g1 : DataW.trod enc Try.prog w 0 sp true n 3 ((cs.drop 1).take (Try.prog.cellsOf 3)) = xs[1]? := hf 1 _ rfl
  rw [show Try.prog.cellsOf 3 = 1 from by kernel_rfl, List.getElem?_eq_getElem (by omega)] at g1
  obtain ⟨v1, r1⟩ := tr_num (S := fun b => b < w.heap.size) (by kernel_rfl) g1
  have g2 : DataW.trod enc Try.prog w 0 sp true n 3 ((cs.drop 2).take (Try.prog.cellsOf 3)) = xs[2]? := hf 2 _ rfl
  rw [show Try.prog.cellsOf 3 = 1 from by kernel_rfl, List.getElem?_eq_getElem (by omega)] at g2
  obtain ⟨v2, r2⟩ := tr_num (S := fun b => b < w.heap.size) (by kernel_rfl) g2
  have g3 : DataW.trod enc Try.prog w 0 sp true n 3 ((cs.drop 3).take (Try.prog.cellsOf 3)) = xs[3]? := hf 3 _ rfl
  rw [show Try.prog.cellsOf 3 = 1 from by kernel_rfl, List.getElem?_eq_getElem (by omega)] at g3
  obtain ⟨v3, r3⟩ := tr_num (S := fun b => b < w.heap.size) (by kernel_rfl) g3
  have g4 : DataW.trod enc Try.prog w 0 sp true n 31 ((cs.drop 4).take (Try.prog.cellsOf 31)) = xs[4]? := hf 4 _ rfl
  rw [show Try.prog.cellsOf 31 = 1 from by kernel_rfl, List.getElem?_eq_getElem (by omega)] at g4
  obtain ⟨v4, r4⟩ := tr_lst (e := 121) (f := F_group) (by kernel_rfl) (by kernel_rfl) (by decide) (fun _ _ _ h => tr_group h) g4
  have g5 : DataW.trod enc Try.prog w 0 sp true n 3 ((cs.drop 5).take (Try.prog.cellsOf 3)) = xs[5]? := hf 5 _ rfl
  rw [show Try.prog.cellsOf 3 = 1 from by kernel_rfl, List.getElem?_eq_getElem (by omega)] at g5
  obtain ⟨v5, r5⟩ := tr_num (S := fun b => b < w.heap.size) (by kernel_rfl) g5
  have g6 : DataW.trod enc Try.prog w 0 sp true n 4 ((cs.drop 6).take (Try.prog.cellsOf 4)) = xs[6]? := hf 6 _ rfl
  rw [show Try.prog.cellsOf 4 = 1 from by kernel_rfl, List.getElem?_eq_getElem (by omega)] at g6
  obtain ⟨v6, r6⟩ := tr_tru (S := fun b => b < w.heap.size) (by kernel_rfl) g6
  refine ⟨(v0, v1, v2, v3, v4, v5, v6), ?_⟩
  rw [List.take_of_length_le (by rw [List.length_drop, hl]; omega)] at r6
  refine rep_cat 1 ?z0 (rep_cat 1 ?z1 (rep_cat 1 ?z2 (rep_cat 1 ?z3 (rep_cat 1 ?z4 (rep_cat 1 ?z5 ?z6)))))
  case z0 => simpa only [List.drop_drop, List.drop_zero, Nat.reduceAdd] using r0
  case z1 => simpa only [List.drop_drop, List.drop_zero, Nat.reduceAdd] using r1
  case z2 => simpa only [List.drop_drop, List.drop_zero, Nat.reduceAdd] using r2
  case z3 => simpa only [List.drop_drop, List.drop_zero, Nat.reduceAdd] using r3
  case z4 => simpa only [List.drop_drop, List.drop_zero, Nat.reduceAdd] using r4
  case z5 => simpa only [List.drop_drop, List.drop_zero, Nat.reduceAdd] using r5
  case z6 => simpa only [List.drop_drop, List.drop_zero, Nat.reduceAdd] using r6

theorem tr_node {fuel : Nat} {cs : List Value} {x : DataW H × List MemPlace} (h : DataW.trod enc Try.prog w 0 sp true fuel 37 cs = some x) : ∃ v, Rep w (fun b => b < w.heap.size) F_node cs v := by
  obtain ⟨xs, n, rfl, rfl, hl, hlen, hf⟩ := DataW.trod_struct Try.underlying37 h
  rw [show Try.prog.cellsOf 37 = 8 from by kernel_rfl] at hl
  have hlen : xs.length = 7 := hlen
  have g0 : DataW.trod enc Try.prog w 0 sp true n 3 ((cs.drop 0).take (Try.prog.cellsOf 3)) = xs[0]? := hf 0 _ rfl
  rw [show Try.prog.cellsOf 3 = 1 from by kernel_rfl, List.getElem?_eq_getElem (by omega)] at g0
  obtain ⟨v0, r0⟩ := tr_num (S := fun b => b < w.heap.size) (by kernel_rfl) g0
  have g1 : DataW.trod enc Try.prog w 0 sp true n 35 ((cs.drop 1).take (Try.prog.cellsOf 35)) = xs[1]? := hf 1 _ rfl
  rw [show Try.prog.cellsOf 35 = 2 from by kernel_rfl, List.getElem?_eq_getElem (by omega)] at g1
  obtain ⟨v1, r1⟩ := tr_res g1
  have g2 : DataW.trod enc Try.prog w 0 sp true n 4 ((cs.drop 3).take (Try.prog.cellsOf 4)) = xs[2]? := hf 2 _ rfl
  rw [show Try.prog.cellsOf 4 = 1 from by kernel_rfl, List.getElem?_eq_getElem (by omega)] at g2
  obtain ⟨v2, r2⟩ := tr_tru (S := fun b => b < w.heap.size) (by kernel_rfl) g2
  have g3 : DataW.trod enc Try.prog w 0 sp true n 4 ((cs.drop 4).take (Try.prog.cellsOf 4)) = xs[3]? := hf 3 _ rfl
  rw [show Try.prog.cellsOf 4 = 1 from by kernel_rfl, List.getElem?_eq_getElem (by omega)] at g3
  obtain ⟨v3, r3⟩ := tr_tru (S := fun b => b < w.heap.size) (by kernel_rfl) g3
  have g4 : DataW.trod enc Try.prog w 0 sp true n 3 ((cs.drop 5).take (Try.prog.cellsOf 3)) = xs[4]? := hf 4 _ rfl
  rw [show Try.prog.cellsOf 3 = 1 from by kernel_rfl, List.getElem?_eq_getElem (by omega)] at g4
  obtain ⟨v4, r4⟩ := tr_num (S := fun b => b < w.heap.size) (by kernel_rfl) g4
  have g5 : DataW.trod enc Try.prog w 0 sp true n 3 ((cs.drop 6).take (Try.prog.cellsOf 3)) = xs[5]? := hf 5 _ rfl
  rw [show Try.prog.cellsOf 3 = 1 from by kernel_rfl, List.getElem?_eq_getElem (by omega)] at g5
  obtain ⟨v5, r5⟩ := tr_num (S := fun b => b < w.heap.size) (by kernel_rfl) g5
  have g6 : DataW.trod enc Try.prog w 0 sp true n 3 ((cs.drop 7).take (Try.prog.cellsOf 3)) = xs[6]? := hf 6 _ rfl
  rw [show Try.prog.cellsOf 3 = 1 from by kernel_rfl, List.getElem?_eq_getElem (by omega)] at g6
  obtain ⟨v6, r6⟩ := tr_num (S := fun b => b < w.heap.size) (by kernel_rfl) g6
  refine ⟨(v0, v1, v2, v3, v4, v5, v6), ?_⟩
  rw [List.take_of_length_le (by rw [List.length_drop, hl]; omega)] at r6
  refine rep_cat 1 ?z0 (rep_cat 2 ?z1 (rep_cat 1 ?z2 (rep_cat 1 ?z3 (rep_cat 1 ?z4 (rep_cat 1 ?z5 ?z6)))))
  case z0 => simpa only [List.drop_drop, List.drop_zero, Nat.reduceAdd] using r0
  case z1 => simpa only [List.drop_drop, List.drop_zero, Nat.reduceAdd] using r1
  case z2 => simpa only [List.drop_drop, List.drop_zero, Nat.reduceAdd] using r2
  case z3 => simpa only [List.drop_drop, List.drop_zero, Nat.reduceAdd] using r3
  case z4 => simpa only [List.drop_drop, List.drop_zero, Nat.reduceAdd] using r4
  case z5 => simpa only [List.drop_drop, List.drop_zero, Nat.reduceAdd] using r5
  case z6 => simpa only [List.drop_drop, List.drop_zero, Nat.reduceAdd] using r6

theorem tr_plan {fuel : Nat} {cs : List Value} {x : DataW H × List MemPlace} (h : DataW.trod enc Try.prog w 0 sp true fuel 41 cs = some x) : ∃ v, Rep w (fun b => b < w.heap.size) F_plan cs v := by
  obtain ⟨xs, n, rfl, rfl, hl, hlen, hf⟩ := DataW.trod_struct Try.underlying41 h
  rw [show Try.prog.cellsOf 41 = 6 from by kernel_rfl] at hl
  have hlen : xs.length = 6 := hlen
  have g0 : DataW.trod enc Try.prog w 0 sp true n 3 ((cs.drop 0).take (Try.prog.cellsOf 3)) = xs[0]? := hf 0 _ rfl
  rw [show Try.prog.cellsOf 3 = 1 from by kernel_rfl, List.getElem?_eq_getElem (by omega)] at g0
  obtain ⟨v0, r0⟩ := tr_num (S := fun b => b < w.heap.size) (by kernel_rfl) g0
  have g1 : DataW.trod enc Try.prog w 0 sp true n 3 ((cs.drop 1).take (Try.prog.cellsOf 3)) = xs[1]? := hf 1 _ rfl
  rw [show Try.prog.cellsOf 3 = 1 from by kernel_rfl, List.getElem?_eq_getElem (by omega)] at g1
  obtain ⟨v1, r1⟩ := tr_num (S := fun b => b < w.heap.size) (by kernel_rfl) g1
  have g2 : DataW.trod enc Try.prog w 0 sp true n 3 ((cs.drop 2).take (Try.prog.cellsOf 3)) = xs[2]? := hf 2 _ rfl
  rw [show Try.prog.cellsOf 3 = 1 from by kernel_rfl, List.getElem?_eq_getElem (by omega)] at g2
  obtain ⟨v2, r2⟩ := tr_num (S := fun b => b < w.heap.size) (by kernel_rfl) g2
  have g3 : DataW.trod enc Try.prog w 0 sp true n 23 ((cs.drop 3).take (Try.prog.cellsOf 23)) = xs[3]? := hf 3 _ rfl
  rw [show Try.prog.cellsOf 23 = 1 from by kernel_rfl, List.getElem?_eq_getElem (by omega)] at g3
  obtain ⟨v3, r3⟩ := tr_lst (e := 3) (f := .num) (by kernel_rfl) (by kernel_rfl) (by decide) (fun _ _ _ h => tr_num (S := fun b => b < w.heap.size) (by kernel_rfl) h) g3
  have g4 : DataW.trod enc Try.prog w 0 sp true n 39 ((cs.drop 4).take (Try.prog.cellsOf 39)) = xs[4]? := hf 4 _ rfl
  rw [show Try.prog.cellsOf 39 = 1 from by kernel_rfl, List.getElem?_eq_getElem (by omega)] at g4
  obtain ⟨v4, r4⟩ := tr_lst (e := 107) (f := F_alloc) (by kernel_rfl) (by kernel_rfl) (by decide) (fun _ _ _ h => tr_alloc h) g4
  have g5 : DataW.trod enc Try.prog w 0 sp true n 4 ((cs.drop 5).take (Try.prog.cellsOf 4)) = xs[5]? := hf 5 _ rfl
  rw [show Try.prog.cellsOf 4 = 1 from by kernel_rfl, List.getElem?_eq_getElem (by omega)] at g5
  obtain ⟨v5, r5⟩ := tr_tru (S := fun b => b < w.heap.size) (by kernel_rfl) g5
  refine ⟨(v0, v1, v2, v3, v4, v5), ?_⟩
  rw [List.take_of_length_le (by rw [List.length_drop, hl]; omega)] at r5
  refine rep_cat 1 ?z0 (rep_cat 1 ?z1 (rep_cat 1 ?z2 (rep_cat 1 ?z3 (rep_cat 1 ?z4 ?z5))))
  case z0 => simpa only [List.drop_drop, List.drop_zero, Nat.reduceAdd] using r0
  case z1 => simpa only [List.drop_drop, List.drop_zero, Nat.reduceAdd] using r1
  case z2 => simpa only [List.drop_drop, List.drop_zero, Nat.reduceAdd] using r2
  case z3 => simpa only [List.drop_drop, List.drop_zero, Nat.reduceAdd] using r3
  case z4 => simpa only [List.drop_drop, List.drop_zero, Nat.reduceAdd] using r4
  case z5 => simpa only [List.drop_drop, List.drop_zero, Nat.reduceAdd] using r5

theorem tr_result {fuel : Nat} {cs : List Value} {x : DataW H × List MemPlace} (h : DataW.trod enc Try.prog w 0 sp true fuel 46 cs = some x) : ∃ v, Rep w (fun b => b < w.heap.size) F_result cs v := by
  obtain ⟨xs, n, rfl, rfl, hl, hlen, hf⟩ := DataW.trod_struct Try.underlying46 h
  rw [show Try.prog.cellsOf 46 = 3 from by kernel_rfl] at hl
  have hlen : xs.length = 3 := hlen
  have g0 : DataW.trod enc Try.prog w 0 sp true n 44 ((cs.drop 0).take (Try.prog.cellsOf 44)) = xs[0]? := hf 0 _ rfl
  rw [show Try.prog.cellsOf 44 = 1 from by kernel_rfl, List.getElem?_eq_getElem (by omega)] at g0
  obtain ⟨v0, r0⟩ := tr_num (S := fun b => b < w.heap.size) (by kernel_rfl) g0
  have g1 : DataW.trod enc Try.prog w 0 sp true n 3 ((cs.drop 1).take (Try.prog.cellsOf 3)) = xs[1]? := hf 1 _ rfl
  rw [show Try.prog.cellsOf 3 = 1 from by kernel_rfl, List.getElem?_eq_getElem (by omega)] at g1
  obtain ⟨v1, r1⟩ := tr_num (S := fun b => b < w.heap.size) (by kernel_rfl) g1
  have g2 : DataW.trod enc Try.prog w 0 sp true n 39 ((cs.drop 2).take (Try.prog.cellsOf 39)) = xs[2]? := hf 2 _ rfl
  rw [show Try.prog.cellsOf 39 = 1 from by kernel_rfl, List.getElem?_eq_getElem (by omega)] at g2
  obtain ⟨v2, r2⟩ := tr_lst (e := 107) (f := F_alloc) (by kernel_rfl) (by kernel_rfl) (by decide) (fun _ _ _ h => tr_alloc h) g2
  refine ⟨(v0, v1, v2), ?_⟩
  rw [List.take_of_length_le (by rw [List.length_drop, hl]; omega)] at r2
  refine rep_cat 1 ?z0 (rep_cat 1 ?z1 ?z2)
  case z0 => simpa only [List.drop_drop, List.drop_zero, Nat.reduceAdd] using r0
  case z1 => simpa only [List.drop_drop, List.drop_zero, Nat.reduceAdd] using r1
  case z2 => simpa only [List.drop_drop, List.drop_zero, Nat.reduceAdd] using r2

theorem tr_cmd {fuel : Nat} {cs : List Value} {x : DataW H × List MemPlace} (h : DataW.trod enc Try.prog w 0 sp true fuel 43 cs = some x) : ∃ v, Rep w (fun b => b < w.heap.size) F_cmd cs v := by
  obtain ⟨xs, n, rfl, rfl, hl, hlen, hf⟩ := DataW.trod_struct Try.underlying43 h
  rw [show Try.prog.cellsOf 43 = 27 from by kernel_rfl] at hl
  have hlen : xs.length = 8 := hlen
  have g0 : DataW.trod enc Try.prog w 0 sp true n 3 ((cs.drop 0).take (Try.prog.cellsOf 3)) = xs[0]? := hf 0 _ rfl
  rw [show Try.prog.cellsOf 3 = 1 from by kernel_rfl, List.getElem?_eq_getElem (by omega)] at g0
  obtain ⟨v0, r0⟩ := tr_num (S := fun b => b < w.heap.size) (by kernel_rfl) g0
  have g1 : DataW.trod enc Try.prog w 0 sp true n 3 ((cs.drop 1).take (Try.prog.cellsOf 3)) = xs[1]? := hf 1 _ rfl
  rw [show Try.prog.cellsOf 3 = 1 from by kernel_rfl, List.getElem?_eq_getElem (by omega)] at g1
  obtain ⟨v1, r1⟩ := tr_num (S := fun b => b < w.heap.size) (by kernel_rfl) g1
  have g2 : DataW.trod enc Try.prog w 0 sp true n 3 ((cs.drop 2).take (Try.prog.cellsOf 3)) = xs[2]? := hf 2 _ rfl
  rw [show Try.prog.cellsOf 3 = 1 from by kernel_rfl, List.getElem?_eq_getElem (by omega)] at g2
  obtain ⟨v2, r2⟩ := tr_num (S := fun b => b < w.heap.size) (by kernel_rfl) g2
  have g3 : DataW.trod enc Try.prog w 0 sp true n 33 ((cs.drop 3).take (Try.prog.cellsOf 33)) = xs[3]? := hf 3 _ rfl
  rw [show Try.prog.cellsOf 33 = 7 from by kernel_rfl, List.getElem?_eq_getElem (by omega)] at g3
  obtain ⟨v3, r3⟩ := tr_job g3
  have g4 : DataW.trod enc Try.prog w 0 sp true n 37 ((cs.drop 10).take (Try.prog.cellsOf 37)) = xs[4]? := hf 4 _ rfl
  rw [show Try.prog.cellsOf 37 = 8 from by kernel_rfl, List.getElem?_eq_getElem (by omega)] at g4
  obtain ⟨v4, r4⟩ := tr_node g4
  have g5 : DataW.trod enc Try.prog w 0 sp true n 38 ((cs.drop 18).take (Try.prog.cellsOf 38)) = xs[5]? := hf 5 _ rfl
  rw [show Try.prog.cellsOf 38 = 1 from by kernel_rfl, List.getElem?_eq_getElem (by omega)] at g5
  obtain ⟨v5, r5⟩ := tr_lst (e := 102) (f := F_report) (by kernel_rfl) (by kernel_rfl) (by decide) (fun _ _ _ h => tr_report h) g5
  have g6 : DataW.trod enc Try.prog w 0 sp true n 41 ((cs.drop 19).take (Try.prog.cellsOf 41)) = xs[6]? := hf 6 _ rfl
  rw [show Try.prog.cellsOf 41 = 6 from by kernel_rfl, List.getElem?_eq_getElem (by omega)] at g6
  obtain ⟨v6, r6⟩ := tr_plan g6
  have g7 : DataW.trod enc Try.prog w 0 sp true n 29 ((cs.drop 25).take (Try.prog.cellsOf 29)) = xs[7]? := hf 7 _ rfl
  rw [show Try.prog.cellsOf 29 = 2 from by kernel_rfl, List.getElem?_eq_getElem (by omega)] at g7
  obtain ⟨v7, r7⟩ := tr_conf g7
  refine ⟨(v0, v1, v2, v3, v4, v5, v6, v7), ?_⟩
  rw [List.take_of_length_le (by rw [List.length_drop, hl]; omega)] at r7
  refine rep_cat 1 ?z0 (rep_cat 1 ?z1 (rep_cat 1 ?z2 (rep_cat 7 ?z3 (rep_cat 8 ?z4 (rep_cat 1 ?z5 (rep_cat 6 ?z6 ?z7))))))
  case z0 => simpa only [List.drop_drop, List.drop_zero, Nat.reduceAdd] using r0
  case z1 => simpa only [List.drop_drop, List.drop_zero, Nat.reduceAdd] using r1
  case z2 => simpa only [List.drop_drop, List.drop_zero, Nat.reduceAdd] using r2
  case z3 => simpa only [List.drop_drop, List.drop_zero, Nat.reduceAdd] using r3
  case z4 => simpa only [List.drop_drop, List.drop_zero, Nat.reduceAdd] using r4
  case z5 => simpa only [List.drop_drop, List.drop_zero, Nat.reduceAdd] using r5
  case z6 => simpa only [List.drop_drop, List.drop_zero, Nat.reduceAdd] using r6
  case z7 => simpa only [List.drop_drop, List.drop_zero, Nat.reduceAdd] using r7

theorem tr_entry {fuel : Nat} {cs : List Value} {x : DataW H × List MemPlace} (h : DataW.trod enc Try.prog w 0 sp true fuel 84 cs = some x) : ∃ v, Rep w (fun b => b < w.heap.size) F_entry cs v := by
  obtain ⟨xs, n, rfl, rfl, hl, hlen, hf⟩ := DataW.trod_struct Try.underlying84 h
  rw [show Try.prog.cellsOf 84 = 29 from by kernel_rfl] at hl
  have hlen : xs.length = 3 := hlen
  have g0 : DataW.trod enc Try.prog w 0 sp true n 3 ((cs.drop 0).take (Try.prog.cellsOf 3)) = xs[0]? := hf 0 _ rfl
  rw [show Try.prog.cellsOf 3 = 1 from by kernel_rfl, List.getElem?_eq_getElem (by omega)] at g0
  obtain ⟨v0, r0⟩ := tr_num (S := fun b => b < w.heap.size) (by kernel_rfl) g0
  have g1 : DataW.trod enc Try.prog w 0 sp true n 3 ((cs.drop 1).take (Try.prog.cellsOf 3)) = xs[1]? := hf 1 _ rfl
  rw [show Try.prog.cellsOf 3 = 1 from by kernel_rfl, List.getElem?_eq_getElem (by omega)] at g1
  obtain ⟨v1, r1⟩ := tr_num (S := fun b => b < w.heap.size) (by kernel_rfl) g1
  have g2 : DataW.trod enc Try.prog w 0 sp true n 43 ((cs.drop 2).take (Try.prog.cellsOf 43)) = xs[2]? := hf 2 _ rfl
  rw [show Try.prog.cellsOf 43 = 27 from by kernel_rfl, List.getElem?_eq_getElem (by omega)] at g2
  obtain ⟨v2, r2⟩ := tr_cmd g2
  refine ⟨(v0, v1, v2), ?_⟩
  rw [List.take_of_length_le (by rw [List.length_drop, hl]; omega)] at r2
  refine rep_cat 1 ?z0 (rep_cat 1 ?z1 ?z2)
  case z0 => simpa only [List.drop_drop, List.drop_zero, Nat.reduceAdd] using r0
  case z1 => simpa only [List.drop_drop, List.drop_zero, Nat.reduceAdd] using r1
  case z2 => simpa only [List.drop_drop, List.drop_zero, Nat.reduceAdd] using r2
end
end Go.Proofs.Ytcdoejdbmllnnab
