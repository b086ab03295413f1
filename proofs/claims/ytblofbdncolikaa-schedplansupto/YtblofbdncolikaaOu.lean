/- A store that comes in, where its bulk is bounded: how many nodes, allocations and groups there are at most. -/
import Derived.Test.YtblofbdncolikaaOp
import Derived.Test.YtblofbdncolikaaRows
namespace Go.Proofs.Ytblofbdncolikaa
open Go.RowKit Go.Shelf Go.ChangeShapes Go.WideShapes Go.ChangeAt
section
variable {H : Type} {enc : TypeId × Value → H} {w : World} {B : Nat}
theorem bulk_mem {d : DataW H} {l : List (DataW H)} (h : d ∈ l) : Rows.uptoBulk d ≤ Rows.uptoBulkAll l := by
 induction l with
 | nil => cases h
 | cons x l ih =>
  rw [Rows.uptoBulkAll]
  rcases List.mem_cons.1 h with rfl | h
  ·omega
  ·have := ih h; omega
theorem bulk_pos (d : DataW H) : 1 ≤ Rows.uptoBulk d := by
 cases d with
 | lit x => cases x <;> simp [Rows.uptoBulk]
 | _ => simp [Rows.uptoBulk]
theorem bulk_all (ds : List (DataW H)) : ds.length ≤ Rows.uptoBulkAll ds := by
 induction ds with
 | nil => simp
 | cons d r ih =>
  have h1 := bulk_pos d
  simp only [Rows.uptoBulkAll, List.length_cons]
  omega
theorem upto_le {ds : List (DataW H)} (h : Rows.uptoSmall H ds = true) : Rows.uptoBulkAll ds ≤ 1048576 := of_decide_eq_true h
theorem fbk {l : List (DataW H)} {d : DataW H} (hu : Rows.uptoBulk (.agg l) ≤ B) (hd : d ∈ l) : Rows.uptoBulk d ≤ B := by
 have := bulk_mem hd
 simp only [Rows.uptoBulk] at hu
 omega
def PU_js (B : Nat) (w : World) (v : Js) : Prop := ∃ G : List Gp, v.gl = G.length ∧ Fl w (fun b => b < w.heap.size) 3 24 Gp.cs v.ga G ∧ G.length ≤ B
def StB (B : Nat) (d : St) : Prop := d.nodes.length ≤ B ∧ d.allocs.length ≤ B ∧ ∀ x ∈ d.jobs, x.gs.length ≤ B
theorem trU_row {t e : TypeId} {k y fuel : Nat} {α : Type} {cs : List Value} {x : DataW H × List MemPlace} (csf : α → List Value) (Pd : α → Prop) (ht : Try.prog.underlying t = some (.slice e)) (hc : Try.prog.cellsOf e = k) (hby : Try.prog.bytesOf e = y) (hp : 0 < k) (hlen : ∀ v, (csf v).length = k)
  (ih : ∀ (fuel : Nat) (cs : List Value) (x : DataW H × List MemPlace), DataW.trod enc Try.prog w 0 (fun _ => true) true fuel e cs = some x → (∀ n ∈ x.1.weights Try.prog e, n ≤ reachBytes) → Rows.uptoBulk x.1 ≤ B → ∃ v, cs = csf v ∧ Pd v)
  (h : DataW.trod enc Try.prog w 0 (fun _ => true) true fuel t cs = some x) (hw : ∀ n ∈ x.1.weights Try.prog t, n ≤ reachBytes) (hu : Rows.uptoBulk x.1 ≤ B) :
  ∃ (a : Option Addr) (cap : Nat) (L : List α), cs = [.slice a L.length cap] ∧ Fl w (fun b => b < w.heap.size) k y csf a L ∧ (∀ i (hi : i < L.length), Pd L[i]) ∧ L.length * y ≤ reachBytes ∧ L.length ≤ B := by
 rcases DataW.trod_slice ht h with ⟨rfl, _⟩ | ⟨a', len', cap', elems, rest, n, _, rfl, hx, _, hlc, hcm, hel, hE, _, _⟩
 ·exact ⟨none, 0, [], rfl, Fl.nil _ _ _ _ _ _, fun i hi => by simp at hi, by simp, by simp⟩
 ·have e1 : x.1 = (Go.DataW.slice (elems.map (·.1)) (rest.map (·.1))) := congrArg Prod.fst hx
  rw [e1] at hw hu
  simp only [Rows.uptoBulk] at hu
  have hul := bulk_all (elems.map (·.1))
  rw [List.length_map] at hul
  have hw1 := hw ((elems.length + rest.length) * y) (by
   simp only [DataW.weights, ht, hby]
   simp)
  have hw2 : ∀ x ∈ elems, ∀ n ∈ x.1.weights Try.prog e, n ≤ reachBytes := fun x hx n hn => hw n (by
   simp only [DataW.weights, ht, List.mem_cons, List.mem_append]
   exact .inr (.inl (weights_mem_all (List.mem_map.2 ⟨x, hx, rfl⟩) n hn)))
  rw [hc] at hE
  have hQ : ∀ i, i < len' → ∃ v : α, (∀ j, j < k → w.cell? ((a'.add (i * k)).add j) = (csf v)[j]?) ∧ Pd v := by
   intro i hi
   have hEi := hE i hi
   rw [List.getElem?_eq_getElem (by omega)] at hEi
   obtain ⟨es, he, ht2⟩ := Option.bind_eq_some_iff.1 hEi
   obtain ⟨v, rfl, hB⟩ := ih _ _ _ ht2 (hw2 _ (List.getElem_mem (by omega))) (by have := bulk_mem (List.mem_map.2 ⟨elems[i], List.getElem_mem (by omega), rfl⟩ : elems[i].1 ∈ elems.map (·.1)); omega)
   obtain ⟨_, _, hcell⟩ := World.cells?_some he
   exact ⟨v, hcell, hB⟩
  obtain ⟨vs, hvl, hvs⟩ := list_choice len' _ hQ
  subst hvl
  have hbd : vs.length * y ≤ reachBytes := by
   have : vs.length * y ≤ (elems.length + rest.length) * y := Nat.mul_le_mul_right _ (by omega)
   omega
  refine ⟨some a', cap', vs, rfl, ⟨by unfold reachBytes at hbd; omega, fun hne => ?_⟩, fun i hi => (hvs i hi).2, hbd, by omega⟩
  have h0 : 0 < vs.length := List.length_pos_iff.2 hne
  obtain ⟨b, off, spot⟩ := a'
  have hc00 := (hvs 0 h0).1 0 hp
  rw [List.getElem?_eq_getElem (by rw [hlen]; exact hp)] at hc00
  have hspot : spot = none := by simpa [Addr.add] using World.cell?_spot hc00
  subst hspot
  refine ⟨b, off, rfl, World.block_lt_of_cell? w _ (by simpa [Addr.add] using hc00), fun i hi j u hu => ?_⟩
  have hj : j < k := by rw [← hlen vs[i]]; exact (List.getElem?_eq_some_iff.1 hu).1
  have := (hvs i hi).1 j hj
  rw [hu, Addr.add_mid, Addr.add_mid] at this
  exact this
theorem trU_js {fuel : Nat} {cs : List Value} {x : DataW H × List MemPlace} (h : DataW.trod enc Try.prog w 0 (fun _ => true) true fuel 51 cs = some x) (hw : ∀ n ∈ x.1.weights Try.prog 51, n ≤ reachBytes) (hu : Rows.uptoBulk x.1 ≤ B) : ∃ v : Js, cs = v.cs ∧ PU_js B w v := by
 obtain ⟨xs, n, rfl, rfl, hl, hlen, hf⟩ := DataW.trod_struct Try.underlying51 h
 rw [show Try.prog.cellsOf 51 = 7 from by kernel_rfl] at hl
 have hlen : xs.length = 7 := hlen
 obtain ⟨c0, c1, c2, c3, c4, c5, c6, rfl⟩ := len7 hl
 obtain ⟨x0, x1, x2, x3, x4, x5, x6, rfl⟩ := len7 hlen
 have g0 : DataW.trod enc Try.prog w 0 (fun _ => true) true n 3 (([c0, c1, c2, c3, c4, c5, c6].drop 0).take (Try.prog.cellsOf 3)) = some x0 := hf 0 _ rfl
 rw [show Try.prog.cellsOf 3 = 1 from by kernel_rfl] at g0
 obtain ⟨v0, e0, _, _⟩ := DataW.trod_int (by kernel_rfl) g0
 have g1 : DataW.trod enc Try.prog w 0 (fun _ => true) true n 3 (([c0, c1, c2, c3, c4, c5, c6].drop 1).take (Try.prog.cellsOf 3)) = some x1 := hf 1 _ rfl
 rw [show Try.prog.cellsOf 3 = 1 from by kernel_rfl] at g1
 obtain ⟨v1, e1, _, _⟩ := DataW.trod_int (by kernel_rfl) g1
 have g2 : DataW.trod enc Try.prog w 0 (fun _ => true) true n 3 (([c0, c1, c2, c3, c4, c5, c6].drop 2).take (Try.prog.cellsOf 3)) = some x2 := hf 2 _ rfl
 rw [show Try.prog.cellsOf 3 = 1 from by kernel_rfl] at g2
 obtain ⟨v2, e2, _, _⟩ := DataW.trod_int (by kernel_rfl) g2
 have g3 : DataW.trod enc Try.prog w 0 (fun _ => true) true n 3 (([c0, c1, c2, c3, c4, c5, c6].drop 3).take (Try.prog.cellsOf 3)) = some x3 := hf 3 _ rfl
 rw [show Try.prog.cellsOf 3 = 1 from by kernel_rfl] at g3
 obtain ⟨v3, e3, _, _⟩ := DataW.trod_int (by kernel_rfl) g3
 have g4 : DataW.trod enc Try.prog w 0 (fun _ => true) true n 49 (([c0, c1, c2, c3, c4, c5, c6].drop 4).take (Try.prog.cellsOf 49)) = some x4 := hf 4 _ rfl
 rw [show Try.prog.cellsOf 49 = 1 from by kernel_rfl] at g4
 obtain ⟨v4, k4, l4, e4, f4, q4, z4, y4⟩ := trU_row Gp.cs (P_gp w) Try.underlying49 (by kernel_rfl) (by kernel_rfl) (by decide) Gp.len (fun _ _ _ h hw _ => tr_gp h hw) g4 (fun m hm => hw m (by
  simp only [DataW.weights, Try.underlying51]
  exact DataW.weights_mem_each (j := 4) rfl rfl m hm)) (fbk hu (by simp))
 have g5 : DataW.trod enc Try.prog w 0 (fun _ => true) true n 3 (([c0, c1, c2, c3, c4, c5, c6].drop 5).take (Try.prog.cellsOf 3)) = some x5 := hf 5 _ rfl
 rw [show Try.prog.cellsOf 3 = 1 from by kernel_rfl] at g5
 obtain ⟨v5, e5, _, _⟩ := DataW.trod_int (by kernel_rfl) g5
 have g6 : DataW.trod enc Try.prog w 0 (fun _ => true) true n 4 (([c0, c1, c2, c3, c4, c5, c6].drop 6).take (Try.prog.cellsOf 4)) = some x6 := hf 6 _ rfl
 rw [show Try.prog.cellsOf 4 = 1 from by kernel_rfl] at g6
 obtain ⟨v6, e6, _⟩ := DataW.trod_bool (by kernel_rfl) g6
 simp at e0 e1 e2 e3 e4 e5 e6
 exact ⟨⟨v0, v1, v2, v3, v4, l4.length, k4, v5, v6⟩, by rw [Js.cs, e0, e1, e2, e3, e4, e5, e6], l4, rfl, f4, y4⟩
theorem deepU_js {w : World} {a : Option Addr} {Ls : List Js} (hF : Fl w (fun b => b < w.heap.size) 7 72 Js.cs a Ls) (h : ∀ i (hi : i < Ls.length), PU_js B w Ls[i]) : ∃ L : List Jb, JbR w (fun b => b < w.heap.size) a Ls L ∧ ∀ x ∈ L, x.gs.length ≤ B := by
 obtain ⟨vs, h1, h2⟩ := list_choice Ls.length (fun i (d : Jb) => ∃ x, Ls[i]? = some x ∧ ∃ ga gc, x = d.sh ga gc ∧ Fl w (fun b => b < w.heap.size) 3 24 Gp.cs ga d.gs ∧ d.gs.length ≤ B) (fun i hi => by
  obtain ⟨G, e, f, bg⟩ := h i hi
  refine ⟨⟨Ls[i].id, Ls[i].ty, Ls[i].pr, Ls[i].pa, G, Ls[i].ve, Ls[i].sd⟩, Ls[i], List.getElem?_eq_getElem hi, Ls[i].ga, Ls[i].gc, ?_, f, bg⟩
  rw [Jb.sh, ← e])
 refine ⟨vs, ⟨h1.symm, hF, fun i i1 i2 => ?_⟩, fun x hx => ?_⟩
 rotate_left
 ·obtain ⟨i, hi, rfl⟩ := List.getElem_of_mem hx
  obtain ⟨_, _, _, _, _, _, r⟩ := h2 i hi
  exact r
 obtain ⟨x, e, r⟩ := h2 i i2
 rw [List.getElem?_eq_getElem i1] at e
 cases e
 obtain ⟨ga, gc, r1, r2, _⟩ := r
 exact ⟨ga, gc, r1, r2⟩
theorem trU_st {fuel : Nat} {cs : List Value} {x : DataW H × List MemPlace} (h : DataW.trod enc Try.prog w 0 (fun _ => true) true fuel 29 cs = some x) (hw : ∀ n ∈ x.1.weights Try.prog 29, n ≤ reachBytes) (hu : Rows.uptoBulk x.1 ≤ B) : ∃ (s : Sc) (J B' : List Js) (X : List Ss) (d : St), cs = s.cs ∧ StR w (fun b => b < w.heap.size) s J B' X d ∧ d.allocs.length * 88 ≤ reachBytes ∧ StB B d := by
 obtain ⟨xs, n, rfl, rfl, hl, hlen, hf⟩ := DataW.trod_struct Try.underlying29 h
 rw [show Try.prog.cellsOf 29 = 9 from by kernel_rfl] at hl
 have hlen : xs.length = 9 := hlen
 obtain ⟨c0, c1, c2, c3, c4, c5, c6, c7, c8, rfl⟩ := len9 hl
 obtain ⟨x0, x1, x2, x3, x4, x5, x6, x7, x8, rfl⟩ := len9 hlen
 have g0 : DataW.trod enc Try.prog w 0 (fun _ => true) true n 3 (([c0, c1, c2, c3, c4, c5, c6, c7, c8].drop 0).take (Try.prog.cellsOf 3)) = some x0 := hf 0 _ rfl
 rw [show Try.prog.cellsOf 3 = 1 from by kernel_rfl] at g0
 obtain ⟨v0, e0, _, _⟩ := DataW.trod_int (by kernel_rfl) g0
 have g1 : DataW.trod enc Try.prog w 0 (fun _ => true) true n 3 (([c0, c1, c2, c3, c4, c5, c6, c7, c8].drop 1).take (Try.prog.cellsOf 3)) = some x1 := hf 1 _ rfl
 rw [show Try.prog.cellsOf 3 = 1 from by kernel_rfl] at g1
 obtain ⟨v1, e1, _, _⟩ := DataW.trod_int (by kernel_rfl) g1
 have g2 : DataW.trod enc Try.prog w 0 (fun _ => true) true n 22 (([c0, c1, c2, c3, c4, c5, c6, c7, c8].drop 2).take (Try.prog.cellsOf 22)) = some x2 := hf 2 _ rfl
 rw [show Try.prog.cellsOf 22 = 1 from by kernel_rfl] at g2
 obtain ⟨v2, k2, l2, e2, f2, q2, z2, y2⟩ := trU_row Js.cs (PU_js B w) Try.underlying22 (by kernel_rfl) (by kernel_rfl) (by decide) Js.len (fun _ _ _ h hw hu => trU_js h hw hu) g2 (fun m hm => hw m (by
  simp only [DataW.weights, Try.underlying29]
  exact DataW.weights_mem_each (j := 2) rfl rfl m hm)) (fbk hu (by simp))
 have g3 : DataW.trod enc Try.prog w 0 (fun _ => true) true n 22 (([c0, c1, c2, c3, c4, c5, c6, c7, c8].drop 3).take (Try.prog.cellsOf 22)) = some x3 := hf 3 _ rfl
 rw [show Try.prog.cellsOf 22 = 1 from by kernel_rfl] at g3
 obtain ⟨v3, k3, l3, e3, f3, q3, z3, y3⟩ := trU_row Js.cs (PU_js B w) Try.underlying22 (by kernel_rfl) (by kernel_rfl) (by decide) Js.len (fun _ _ _ h hw hu => trU_js h hw hu) g3 (fun m hm => hw m (by
  simp only [DataW.weights, Try.underlying29]
  exact DataW.weights_mem_each (j := 3) rfl rfl m hm)) (fbk hu (by simp))
 have g4 : DataW.trod enc Try.prog w 0 (fun _ => true) true n 23 (([c0, c1, c2, c3, c4, c5, c6, c7, c8].drop 4).take (Try.prog.cellsOf 23)) = some x4 := hf 4 _ rfl
 rw [show Try.prog.cellsOf 23 = 1 from by kernel_rfl] at g4
 obtain ⟨v4, k4, l4, e4, f4, q4, z4, y4⟩ := trU_row Nd.cs (P_nd w) Try.underlying23 (by kernel_rfl) (by kernel_rfl) (by decide) Nd.len (fun _ _ _ h hw _ => tr_nd h hw) g4 (fun m hm => hw m (by
  simp only [DataW.weights, Try.underlying29]
  exact DataW.weights_mem_each (j := 4) rfl rfl m hm)) (fbk hu (by simp))
 have g5 : DataW.trod enc Try.prog w 0 (fun _ => true) true n 24 (([c0, c1, c2, c3, c4, c5, c6, c7, c8].drop 5).take (Try.prog.cellsOf 24)) = some x5 := hf 5 _ rfl
 rw [show Try.prog.cellsOf 24 = 1 from by kernel_rfl] at g5
 obtain ⟨v5, k5, l5, e5, f5, q5, z5, y5⟩ := trU_row Al.cs (P_al w) Try.underlying24 (by kernel_rfl) (by kernel_rfl) (by decide) Al.len (fun _ _ _ h hw _ => tr_al h hw) g5 (fun m hm => hw m (by
  simp only [DataW.weights, Try.underlying29]
  exact DataW.weights_mem_each (j := 5) rfl rfl m hm)) (fbk hu (by simp))
 have g6 : DataW.trod enc Try.prog w 0 (fun _ => true) true n 25 (([c0, c1, c2, c3, c4, c5, c6, c7, c8].drop 6).take (Try.prog.cellsOf 25)) = some x6 := hf 6 _ rfl
 rw [show Try.prog.cellsOf 25 = 1 from by kernel_rfl] at g6
 obtain ⟨v6, k6, l6, e6, f6, q6, z6, y6⟩ := trU_row Qd.cs (P_ev w) Try.underlying25 (by kernel_rfl) (by kernel_rfl) (by decide) Qd.len (fun _ _ _ h hw _ => tr_ev h hw) g6 (fun m hm => hw m (by
  simp only [DataW.weights, Try.underlying29]
  exact DataW.weights_mem_each (j := 6) rfl rfl m hm)) (fbk hu (by simp))
 have g7 : DataW.trod enc Try.prog w 0 (fun _ => true) true n 26 (([c0, c1, c2, c3, c4, c5, c6, c7, c8].drop 7).take (Try.prog.cellsOf 26)) = some x7 := hf 7 _ rfl
 rw [show Try.prog.cellsOf 26 = 1 from by kernel_rfl] at g7
 obtain ⟨v7, k7, l7, e7, f7, q7, z7, y7⟩ := trU_row Qd.cs (P_dp w) Try.underlying26 (by kernel_rfl) (by kernel_rfl) (by decide) Qd.len (fun _ _ _ h hw _ => tr_dp h hw) g7 (fun m hm => hw m (by
  simp only [DataW.weights, Try.underlying29]
  exact DataW.weights_mem_each (j := 7) rfl rfl m hm)) (fbk hu (by simp))
 have g8 : DataW.trod enc Try.prog w 0 (fun _ => true) true n 27 (([c0, c1, c2, c3, c4, c5, c6, c7, c8].drop 8).take (Try.prog.cellsOf 27)) = some x8 := hf 8 _ rfl
 rw [show Try.prog.cellsOf 27 = 1 from by kernel_rfl] at g8
 obtain ⟨v8, k8, l8, e8, f8, q8, z8, y8⟩ := trU_row Ss.cs (P_ss w) Try.underlying27 (by kernel_rfl) (by kernel_rfl) (by decide) Ss.len (fun _ _ _ h hw _ => tr_ss h hw) g8 (fun m hm => hw m (by
  simp only [DataW.weights, Try.underlying29]
  exact DataW.weights_mem_each (j := 8) rfl rfl m hm)) (fbk hu (by simp))
 simp at e0 e1 e2 e3 e4 e5 e6 e7 e8
 obtain ⟨JD, hJ, bJ⟩ := deepU_js f2 q2
 obtain ⟨BD, hB, _⟩ := deepU_js f3 q3
 obtain ⟨XD, hX⟩ := deep_ss f8 q8
 exact ⟨⟨v0, v1, v2, l2.length, k2, v3, l3.length, k3, v4, l4.length, k4, v5, l5.length, k5, v6, l6.length, k6, v7, l7.length, k7, v8, l8.length, k8⟩, l2, l3, l8, ⟨v0, v1, JD, BD, l4, l5, l6, l7, XD⟩, by rw [Sc.cs, e0, e1, e2, e3, e4, e5, e6, e7, e8], ⟨rfl, rfl, ⟨rfl, rfl, rfl, rfl, rfl, rfl, rfl, f2, f3, f4, f5, f6, f7, f8⟩, hJ, hB, hX⟩, z5, y4, y5, bJ⟩
theorem openU_st {v : Value} {d : DataW H} {p : List MemPlace} (h : DataW.Trod enc Try.prog w 0 (fun _ => true) true 29 v d p) (hv : ∃ xs, v = .agg xs) (hw : ∀ n ∈ d.weights Try.prog 29, n ≤ reachBytes) (hu : Rows.uptoBulk d ≤ B) :
  ∃ (s : Sc) (J B' : List Js) (X : List Ss) (dd : St), v = .agg #[.int .i64 s.ix, .int .i64 s.nx, .slice s.a2 s.n2 s.c2, .slice s.a3 s.n3 s.c3, .slice s.a4 s.n4 s.c4, .slice s.a5 s.n5 s.c5, .slice s.a6 s.n6 s.c6, .slice s.a7 s.n7 s.c7, .slice s.a8 s.n8 s.c8] ∧ StR w (fun b => b < w.heap.size) s J B' X dd ∧ dd.allocs.length * 88 ≤ reachBytes ∧ StB B dd := by
 obtain ⟨fuel, hf⟩ := h
 obtain ⟨xs, rfl⟩ := hv
 obtain ⟨s, J, B', X, dd, e, h1, h2, h3⟩ := trU_st hf hw hu
 have e2 : xs = s.cs.toArray := by
  apply Array.toList_inj.1
  simpa [Value.cells] using e
 exact ⟨s, J, B', X, dd, by rw [e2]; rfl, h1, h2, h3⟩
end
end Go.Proofs.Ytblofbdncolikaa
