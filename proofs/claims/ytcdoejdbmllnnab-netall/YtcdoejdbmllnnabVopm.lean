/- A message, and a list of messages, that came in, with no bound but the reach of memory. Made by program (wip/gen/opm.py). -/
import Derived.Test.YtcdoejdbmllnnabVopn
namespace Go.Proofs.Ytcdoejdbmllnnab
open Go.ChangeShapes Go.WideShapes Go.ChangeAt Go.RowKit

theorem wt_part {H : Type} {t : TypeId} {fs : Array Field} {xs : List (DataW H × List MemPlace)} {i : Nat} {f : Field} (ht : Try.prog.underlying t = some (.struct fs)) (hf : fs[i]? = some f) (hi : i < xs.length)
    (hw : ∀ n ∈ (DataW.agg (xs.map (·.1))).weights Try.prog t, n ≤ reachBytes) : ∀ n ∈ xs[i].1.weights Try.prog f.type, n ≤ reachBytes := by
  intro n hn
  refine hw n ?_
  simp only [DataW.weights, ht]
  refine DataW.weights_mem_each (j := i) (t := f.type) (d := xs[i].1) ?_ ?_ n hn
  · rw [List.getElem?_map, Array.getElem?_toList, hf]; rfl
  · rw [List.getElem?_map, List.getElem?_eq_getElem hi]; rfl
theorem wt_all {H : Type} {e : TypeId} {d : DataW H} : ∀ {l : List (DataW H)}, d ∈ l → ∀ n ∈ d.weights Try.prog e, n ∈ DataW.weightsAll Try.prog e l
  | x :: r, h, n, hn => by
    simp only [DataW.weightsAll, List.mem_append]
    rcases List.mem_cons.1 h with e | e
    · subst e; exact .inl hn
    · exact .inr (wt_all e n hn)
theorem wt_elem {H : Type} {t e : TypeId} {xs ys : List (DataW H × List MemPlace)} {i : Nat} (ht : Try.prog.underlying t = some (.slice e)) (hi : i < xs.length)
    (hw : ∀ n ∈ (DataW.slice (xs.map (·.1)) (ys.map (·.1))).weights Try.prog t, n ≤ reachBytes) : ∀ n ∈ xs[i].1.weights Try.prog e, n ≤ reachBytes := by
  intro n hn
  refine hw n ?_
  simp only [DataW.weights, ht]
  refine List.mem_cons_of_mem _ (List.mem_append_left _ (wt_all (d := xs[i].1) ?_ n hn))
  exact List.mem_map_of_mem (List.getElem_mem hi)
section
variable {H : Type} {enc : TypeId × Value → H} {w : World}
theorem tr_byt {fuel : Nat} {cs : List Value} {x : DataW H × List MemPlace} (hw : ∀ n ∈ x.1.weights Try.prog 30, n ≤ reachBytes) (h : DataW.trod enc Try.prog w 0 (fun _ => true) true fuel 30 cs = some x) : ∃ v, Rep w (fun b => b < w.heap.size) .byt cs v := by
  obtain ⟨a, len, cap, rfl⟩ : ∃ a len cap, cs = [.slice a len cap] := by
    rcases DataW.trod_slice Try.underlying30 h with ⟨rfl, _⟩ | ⟨a, len, cap, elems, rest, n, _, rfl, _⟩
    · exact ⟨_, _, _, rfl⟩
    · exact ⟨_, _, _, rfl⟩
  obtain ⟨l, h1, h2, h3⟩ := open_bytes (d := x.1) (p := x.2) ⟨fuel, h⟩ (fun elems spare e => hw _ (by rw [e]; simp [DataW.weights, Try.underlying30]))
  subst h1
  refine ⟨l, a, cap, rfl, h2, h3, fun hne y hy => ?_⟩
  obtain ⟨b, off, e, hb, _⟩ := h3.2 hne
  rw [e] at hy; cases hy; exact hb
theorem tr_lstW {t e : TypeId} {f : Fm} {fuel : Nat} {cs : List Value} {x : DataW H × List MemPlace} (ht : Try.prog.underlying t = some (.slice e)) (hc : Try.prog.cellsOf e = wd f) (hp : 0 < wd f)
    (ih : ∀ (fuel : Nat) (cs : List Value) (x : DataW H × List MemPlace), (∀ n ∈ x.1.weights Try.prog e, n ≤ reachBytes) → DataW.trod enc Try.prog w 0 (fun _ => true) true fuel e cs = some x → ∃ v, Rep w (fun b => b < w.heap.size) f cs v)
    (hw : ∀ n ∈ x.1.weights Try.prog t, n ≤ reachBytes) (h : DataW.trod enc Try.prog w 0 (fun _ => true) true fuel t cs = some x) : ∃ v, Rep w (fun b => b < w.heap.size) (.lst f) cs v := by
  rcases DataW.trod_slice ht h with ⟨rfl, _⟩ | ⟨a, len, cap, elems, rest, n, rfl, rfl, rfl, _, hlc, hcm, hel, hE, _, _⟩
  · exact ⟨[], none, 0, rfl, by simp, fun h => absurd rfl h⟩
  · rw [hc] at hE
    have hQ : ∀ i, i < len → ∃ v : Vl f, ∃ es, Rep w (fun b => b < w.heap.size) f es v ∧ ∀ j, j < wd f → w.cell? ((a.add (i * wd f)).add j) = es[j]? := by
      intro i hi
      have hEi := hE i hi
      rw [List.getElem?_eq_getElem (by omega)] at hEi
      obtain ⟨es, he, ht2⟩ := Option.bind_eq_some_iff.1 hEi
      obtain ⟨v, hv⟩ := ih _ _ _ (wt_elem ht (by omega) hw) ht2
      obtain ⟨_, _, hcell⟩ := World.cells?_some he
      exact ⟨v, es, hv, hcell⟩
    obtain ⟨vs, hvl, hvs⟩ := list_choice len _ hQ
    subst hvl
    refine ⟨vs, some a, cap, rfl, by unfold maxLen at hcm; omega, fun hne => ?_⟩
    have h0 : 0 < vs.length := List.length_pos_iff.2 hne
    obtain ⟨b, off, spot⟩ := a
    obtain ⟨es0, hr0, hc0⟩ := hvs 0 h0
    have hc00 := hc0 0 hp
    rw [List.getElem?_eq_getElem (by rw [hr0.len]; exact hp)] at hc00
    have hspot : spot = none := by simpa [Addr.add] using World.cell?_spot hc00
    subst hspot
    refine ⟨b, off, rfl, World.block_lt_of_cell? w _ (by simpa [Addr.add] using hc00), fun i hi => ?_⟩
    obtain ⟨es, hr, hcs⟩ := hvs i hi
    refine ⟨es, hr, fun j u hu => ?_⟩
    have hj : j < wd f := by rw [← hr.len]; exact (List.getElem?_eq_some_iff.1 hu).1
    have := hcs j hj
    rw [hu, Addr.add_mid, Addr.add_mid] at this
    exact this


theorem tr_msg {fuel : Nat} {cs : List Value} {x : DataW H × List MemPlace} (hw : ∀ n ∈ x.1.weights Try.prog 48, n ≤ reachBytes) (h : DataW.trod enc Try.prog w 0 (fun _ => true) true fuel 48 cs = some x) : ∃ v, Rep w (fun b => b < w.heap.size) F_msg cs v := by
  obtain ⟨xs, n, rfl, rfl, hl, hlen, hf⟩ := DataW.trod_struct Try.underlying48 h
  rw [show Try.prog.cellsOf 48 = 46 from by kernel_rfl] at hl
  have hlen : xs.length = 17 := hlen
  have g0 : DataW.trod enc Try.prog w 0 (fun _ => true) true n 3 ((cs.drop 0).take (Try.prog.cellsOf 3)) = xs[0]? := hf 0 _ rfl
  rw [show Try.prog.cellsOf 3 = 1 from by kernel_rfl, List.getElem?_eq_getElem (by omega)] at g0
  obtain ⟨v0, r0⟩ := tr_num (S := fun b => b < w.heap.size) (by kernel_rfl) g0
  have g1 : DataW.trod enc Try.prog w 0 (fun _ => true) true n 3 ((cs.drop 1).take (Try.prog.cellsOf 3)) = xs[1]? := hf 1 _ rfl
  rw [show Try.prog.cellsOf 3 = 1 from by kernel_rfl, List.getElem?_eq_getElem (by omega)] at g1
  obtain ⟨v1, r1⟩ := tr_num (S := fun b => b < w.heap.size) (by kernel_rfl) g1
  have g2 : DataW.trod enc Try.prog w 0 (fun _ => true) true n 3 ((cs.drop 2).take (Try.prog.cellsOf 3)) = xs[2]? := hf 2 _ rfl
  rw [show Try.prog.cellsOf 3 = 1 from by kernel_rfl, List.getElem?_eq_getElem (by omega)] at g2
  obtain ⟨v2, r2⟩ := tr_num (S := fun b => b < w.heap.size) (by kernel_rfl) g2
  have g3 : DataW.trod enc Try.prog w 0 (fun _ => true) true n 3 ((cs.drop 3).take (Try.prog.cellsOf 3)) = xs[3]? := hf 3 _ rfl
  rw [show Try.prog.cellsOf 3 = 1 from by kernel_rfl, List.getElem?_eq_getElem (by omega)] at g3
  obtain ⟨v3, r3⟩ := tr_num (S := fun b => b < w.heap.size) (by kernel_rfl) g3
  have g4 : DataW.trod enc Try.prog w 0 (fun _ => true) true n 3 ((cs.drop 4).take (Try.prog.cellsOf 3)) = xs[4]? := hf 4 _ rfl
  rw [show Try.prog.cellsOf 3 = 1 from by kernel_rfl, List.getElem?_eq_getElem (by omega)] at g4
  obtain ⟨v4, r4⟩ := tr_num (S := fun b => b < w.heap.size) (by kernel_rfl) g4
  have g5 : DataW.trod enc Try.prog w 0 (fun _ => true) true n 3 ((cs.drop 5).take (Try.prog.cellsOf 3)) = xs[5]? := hf 5 _ rfl
  rw [show Try.prog.cellsOf 3 = 1 from by kernel_rfl, List.getElem?_eq_getElem (by omega)] at g5
  obtain ⟨v5, r5⟩ := tr_num (S := fun b => b < w.heap.size) (by kernel_rfl) g5
  have g6 : DataW.trod enc Try.prog w 0 (fun _ => true) true n 3 ((cs.drop 6).take (Try.prog.cellsOf 3)) = xs[6]? := hf 6 _ rfl
  rw [show Try.prog.cellsOf 3 = 1 from by kernel_rfl, List.getElem?_eq_getElem (by omega)] at g6
  obtain ⟨v6, r6⟩ := tr_num (S := fun b => b < w.heap.size) (by kernel_rfl) g6
  have g7 : DataW.trod enc Try.prog w 0 (fun _ => true) true n 4 ((cs.drop 7).take (Try.prog.cellsOf 4)) = xs[7]? := hf 7 _ rfl
  rw [show Try.prog.cellsOf 4 = 1 from by kernel_rfl, List.getElem?_eq_getElem (by omega)] at g7
  obtain ⟨v7, r7⟩ := tr_tru (S := fun b => b < w.heap.size) (by kernel_rfl) g7
  have g8 : DataW.trod enc Try.prog w 0 (fun _ => true) true n 3 ((cs.drop 8).take (Try.prog.cellsOf 3)) = xs[8]? := hf 8 _ rfl
  rw [show Try.prog.cellsOf 3 = 1 from by kernel_rfl, List.getElem?_eq_getElem (by omega)] at g8
  obtain ⟨v8, r8⟩ := tr_num (S := fun b => b < w.heap.size) (by kernel_rfl) g8
  have g9 : DataW.trod enc Try.prog w 0 (fun _ => true) true n 3 ((cs.drop 9).take (Try.prog.cellsOf 3)) = xs[9]? := hf 9 _ rfl
  rw [show Try.prog.cellsOf 3 = 1 from by kernel_rfl, List.getElem?_eq_getElem (by omega)] at g9
  obtain ⟨v9, r9⟩ := tr_num (S := fun b => b < w.heap.size) (by kernel_rfl) g9
  have g10 : DataW.trod enc Try.prog w 0 (fun _ => true) true n 3 ((cs.drop 10).take (Try.prog.cellsOf 3)) = xs[10]? := hf 10 _ rfl
  rw [show Try.prog.cellsOf 3 = 1 from by kernel_rfl, List.getElem?_eq_getElem (by omega)] at g10
  obtain ⟨v10, r10⟩ := tr_num (S := fun b => b < w.heap.size) (by kernel_rfl) g10
  have g11 : DataW.trod enc Try.prog w 0 (fun _ => true) true n 3 ((cs.drop 11).take (Try.prog.cellsOf 3)) = xs[11]? := hf 11 _ rfl
  rw [show Try.prog.cellsOf 3 = 1 from by kernel_rfl, List.getElem?_eq_getElem (by omega)] at g11
  obtain ⟨v11, r11⟩ := tr_num (S := fun b => b < w.heap.size) (by kernel_rfl) g11
  have g12 : DataW.trod enc Try.prog w 0 (fun _ => true) true n 27 ((cs.drop 12).take (Try.prog.cellsOf 27)) = xs[12]? := hf 12 _ rfl
  rw [show Try.prog.cellsOf 27 = 1 from by kernel_rfl, List.getElem?_eq_getElem (by omega)] at g12
  obtain ⟨v12, r12⟩ := tr_lst (e := 84) (f := F_entry) (by kernel_rfl) (by kernel_rfl) (by decide) (fun _ _ _ h => tr_entry h) g12
  have g13 : DataW.trod enc Try.prog w 0 (fun _ => true) true n 29 ((cs.drop 13).take (Try.prog.cellsOf 29)) = xs[13]? := hf 13 _ rfl
  rw [show Try.prog.cellsOf 29 = 2 from by kernel_rfl, List.getElem?_eq_getElem (by omega)] at g13
  obtain ⟨v13, r13⟩ := tr_conf g13
  have g14 : DataW.trod enc Try.prog w 0 (fun _ => true) true n 30 ((cs.drop 15).take (Try.prog.cellsOf 30)) = xs[14]? := hf 14 _ rfl
  rw [show Try.prog.cellsOf 30 = 1 from by kernel_rfl, List.getElem?_eq_getElem (by omega)] at g14
  obtain ⟨v14, r14⟩ := tr_byt (wt_part Try.underlying48 (i := 14) rfl (by omega) hw) g14
  have g15 : DataW.trod enc Try.prog w 0 (fun _ => true) true n 43 ((cs.drop 16).take (Try.prog.cellsOf 43)) = xs[15]? := hf 15 _ rfl
  rw [show Try.prog.cellsOf 43 = 27 from by kernel_rfl, List.getElem?_eq_getElem (by omega)] at g15
  obtain ⟨v15, r15⟩ := tr_cmd g15
  have g16 : DataW.trod enc Try.prog w 0 (fun _ => true) true n 46 ((cs.drop 43).take (Try.prog.cellsOf 46)) = xs[16]? := hf 16 _ rfl
  rw [show Try.prog.cellsOf 46 = 3 from by kernel_rfl, List.getElem?_eq_getElem (by omega)] at g16
  obtain ⟨v16, r16⟩ := tr_result g16
  refine ⟨(v0, v1, v2, v3, v4, v5, v6, v7, v8, v9, v10, v11, v12, v13, v14, v15, v16), ?_⟩
  rw [List.take_of_length_le (by rw [List.length_drop, hl]; omega)] at r16
  refine rep_cat 1 ?z0 (rep_cat 1 ?z1 (rep_cat 1 ?z2 (rep_cat 1 ?z3 (rep_cat 1 ?z4 (rep_cat 1 ?z5 (rep_cat 1 ?z6 (rep_cat 1 ?z7 (rep_cat 1 ?z8 (rep_cat 1 ?z9 (rep_cat 1 ?z10 (rep_cat 1 ?z11 (rep_cat 1 ?z12 (rep_cat 2 ?z13 (rep_cat 1 ?z14 (rep_cat 27 ?z15 ?z16)))))))))))))))
  case z0 => simpa only [List.drop_drop, List.drop_zero, Nat.reduceAdd] using r0
  case z1 => simpa only [List.drop_drop, List.drop_zero, Nat.reduceAdd] using r1
  case z2 => simpa only [List.drop_drop, List.drop_zero, Nat.reduceAdd] using r2
  case z3 => simpa only [List.drop_drop, List.drop_zero, Nat.reduceAdd] using r3
  case z4 => simpa only [List.drop_drop, List.drop_zero, Nat.reduceAdd] using r4
  case z5 => simpa only [List.drop_drop, List.drop_zero, Nat.reduceAdd] using r5
  case z6 => simpa only [List.drop_drop, List.drop_zero, Nat.reduceAdd] using r6
  case z7 => simpa only [List.drop_drop, List.drop_zero, Nat.reduceAdd] using r7
  case z8 => simpa only [List.drop_drop, List.drop_zero, Nat.reduceAdd] using r8
  case z9 => simpa only [List.drop_drop, List.drop_zero, Nat.reduceAdd] using r9
  case z10 => simpa only [List.drop_drop, List.drop_zero, Nat.reduceAdd] using r10
  case z11 => simpa only [List.drop_drop, List.drop_zero, Nat.reduceAdd] using r11
  case z12 => simpa only [List.drop_drop, List.drop_zero, Nat.reduceAdd] using r12
  case z13 => simpa only [List.drop_drop, List.drop_zero, Nat.reduceAdd] using r13
  case z14 => simpa only [List.drop_drop, List.drop_zero, Nat.reduceAdd] using r14
  case z15 => simpa only [List.drop_drop, List.drop_zero, Nat.reduceAdd] using r15
  case z16 => simpa only [List.drop_drop, List.drop_zero, Nat.reduceAdd] using r16

theorem tr_msgs {fuel : Nat} {cs : List Value} {x : DataW H × List MemPlace} (hw : ∀ n ∈ x.1.weights Try.prog 22, n ≤ reachBytes) (h : DataW.trod enc Try.prog w 0 (fun _ => true) true fuel 22 cs = some x) : ∃ v, Rep w (fun b => b < w.heap.size) (.lst F_msg) cs v :=
  tr_lstW (e := 48) (f := F_msg) (by kernel_rfl) (by kernel_rfl) (by decide) (fun _ _ _ hw h => tr_msg hw h) hw h
theorem open_msgs {a : Option Addr} {len cap : Nat} {d : DataW H} {p : List MemPlace} (h : DataW.Trod enc Try.prog w 0 (fun _ => true) true 22 (.slice a len cap) d p) (hw : ∀ n ∈ d.weights Try.prog 22, n ≤ reachBytes) :
    ∃ vs : List (Vl F_msg), len = vs.length ∧ RepL w (fun b => b < w.heap.size) F_msg a vs := by
  obtain ⟨fuel, hf⟩ := h
  obtain ⟨vs, a', cap', e, h1, h2⟩ := tr_msgs hw hf
  simp [Value.cells] at e
  obtain ⟨rfl, rfl, rfl⟩ := e
  exact ⟨vs, rfl, h1, h2⟩
theorem open_nums {a : Option Addr} {len cap : Nat} {d : DataW H} {p : List MemPlace} (h : DataW.Trod enc Try.prog w 0 (fun _ => true) true 23 (.slice a len cap) d p) :
    ∃ vs : List Int, len = vs.length ∧ RepL w (fun b => b < w.heap.size) .num a vs := by
  obtain ⟨fuel, hf⟩ := h
  obtain ⟨vs, a', cap', e, h1, h2⟩ := tr_lst (e := 3) (f := .num) (by kernel_rfl) (by kernel_rfl) (by decide) (fun _ _ _ h => tr_num (S := fun b => b < w.heap.size) (by kernel_rfl) h) hf
  simp [Value.cells] at e
  obtain ⟨rfl, rfl, rfl⟩ := e
  exact ⟨vs, rfl, h1, h2⟩
end
end Go.Proofs.Ytcdoejdbmllnnab
