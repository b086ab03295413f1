/- What comes in: stores, allocations, what is asked. -/
import Derived.Test.YtblofbdncolikaaDp
import Derived.Test.YtblofbdncolikaaRows
import Derived.ChangeAt
import Derived.ChangeSlices
import Derived.OpenShut
namespace Go.Proofs.Ytblofbdncolikaa
open Go.ChangeShapes Go.WideShapes Go.ChangeAt Go.RowKit
theorem list_choice {α : Type} (n : Nat) (P : Nat → α → Prop) (h : ∀ i, i < n → ∃ v, P i v) : ∃ vs : List α, vs.length = n ∧ ∀ i (hi : i < vs.length), P i vs[i] := by
 induction n with
 | zero => exact ⟨[], rfl, fun i hi => by simp at hi⟩
 | succ n ih =>
  obtain ⟨vs, h1, h2⟩ := ih (fun i hi => h i (by omega))
  obtain ⟨v, hv⟩ := h n (by omega)
  refine ⟨vs ++ [v], by simp [h1], fun i hi => ?_⟩
  by_cases hi2 : i < vs.length
  ·rw [List.getElem_append_left hi2]; exact h2 i hi2
  ·have : i = vs.length := by simp at hi; omega
   subst this
   simp [h1]
   exact hv
theorem len2 {α : Type} {l : List α} (h : l.length = 2) : ∃ a0 a1, l = [a0, a1] := by
 match l, h with
 | [a0, a1], _ => exact ⟨a0, a1, rfl⟩
theorem len3 {α : Type} {l : List α} (h : l.length = 3) : ∃ a0 a1 a2, l = [a0, a1, a2] := by
 match l, h with
 | [a0, a1, a2], _ => exact ⟨a0, a1, a2, rfl⟩
theorem len4 {α : Type} {l : List α} (h : l.length = 4) : ∃ a0 a1 a2 a3, l = [a0, a1, a2, a3] := by
 match l, h with
 | [a0, a1, a2, a3], _ => exact ⟨a0, a1, a2, a3, rfl⟩
theorem len5 {α : Type} {l : List α} (h : l.length = 5) : ∃ a0 a1 a2 a3 a4, l = [a0, a1, a2, a3, a4] := by
 match l, h with
 | [a0, a1, a2, a3, a4], _ => exact ⟨a0, a1, a2, a3, a4, rfl⟩
theorem len7 {α : Type} {l : List α} (h : l.length = 7) : ∃ a0 a1 a2 a3 a4 a5 a6, l = [a0, a1, a2, a3, a4, a5, a6] := by
 match l, h with
 | [a0, a1, a2, a3, a4, a5, a6], _ => exact ⟨a0, a1, a2, a3, a4, a5, a6, rfl⟩
theorem len8 {α : Type} {l : List α} (h : l.length = 8) : ∃ a0 a1 a2 a3 a4 a5 a6 a7, l = [a0, a1, a2, a3, a4, a5, a6, a7] := by
 match l, h with
 | [a0, a1, a2, a3, a4, a5, a6, a7], _ => exact ⟨a0, a1, a2, a3, a4, a5, a6, a7, rfl⟩
theorem len9 {α : Type} {l : List α} (h : l.length = 9) : ∃ a0 a1 a2 a3 a4 a5 a6 a7 a8, l = [a0, a1, a2, a3, a4, a5, a6, a7, a8] := by
 match l, h with
 | [a0, a1, a2, a3, a4, a5, a6, a7, a8], _ => exact ⟨a0, a1, a2, a3, a4, a5, a6, a7, a8, rfl⟩
theorem len10 {α : Type} {l : List α} (h : l.length = 10) : ∃ a0 a1 a2 a3 a4 a5 a6 a7 a8 a9, l = [a0, a1, a2, a3, a4, a5, a6, a7, a8, a9] := by
 match l, h with
 | [a0, a1, a2, a3, a4, a5, a6, a7, a8, a9], _ => exact ⟨a0, a1, a2, a3, a4, a5, a6, a7, a8, a9, rfl⟩
theorem len11 {α : Type} {l : List α} (h : l.length = 11) : ∃ a0 a1 a2 a3 a4 a5 a6 a7 a8 a9 a10, l = [a0, a1, a2, a3, a4, a5, a6, a7, a8, a9, a10] := by
 match l, h with
 | [a0, a1, a2, a3, a4, a5, a6, a7, a8, a9, a10], _ => exact ⟨a0, a1, a2, a3, a4, a5, a6, a7, a8, a9, a10, rfl⟩
theorem len14 {α : Type} {l : List α} (h : l.length = 14) : ∃ a0 a1 a2 a3 a4 a5 a6 a7 a8 a9 a10 a11 a12 a13, l = [a0, a1, a2, a3, a4, a5, a6, a7, a8, a9, a10, a11, a12, a13] := by
 match l, h with
 | [a0, a1, a2, a3, a4, a5, a6, a7, a8, a9, a10, a11, a12, a13], _ => exact ⟨a0, a1, a2, a3, a4, a5, a6, a7, a8, a9, a10, a11, a12, a13, rfl⟩
section
variable {H : Type} {enc : TypeId × Value → H} {w : World}
theorem weights_mem_all {P : Program} {e : TypeId} : ∀ {l : List (DataW H)} {d : DataW H}, d ∈ l → ∀ n ∈ d.weights P e, n ∈ DataW.weightsAll P e l := by
 intro l
 induction l with
 | nil => intro d h; cases h
 | cons x l ih =>
  intro d h n hn
  rw [DataW.weightsAll, List.mem_append]
  rcases List.mem_cons.1 h with rfl | h
  ·exact .inl hn
  ·exact .inr (ih h n hn)
theorem tr_row {t e : TypeId} {k y fuel : Nat} {α : Type} {cs : List Value} {x : DataW H × List MemPlace} (csf : α → List Value) (Pd : α → Prop) (ht : Try.prog.underlying t = some (.slice e)) (hc : Try.prog.cellsOf e = k) (hby : Try.prog.bytesOf e = y) (hp : 0 < k) (hlen : ∀ v, (csf v).length = k)
  (ih : ∀ (fuel : Nat) (cs : List Value) (x : DataW H × List MemPlace), DataW.trod enc Try.prog w 0 (fun _ => true) true fuel e cs = some x → (∀ n ∈ x.1.weights Try.prog e, n ≤ reachBytes) → ∃ v, cs = csf v ∧ Pd v)
  (h : DataW.trod enc Try.prog w 0 (fun _ => true) true fuel t cs = some x) (hw : ∀ n ∈ x.1.weights Try.prog t, n ≤ reachBytes) :
  ∃ (a : Option Addr) (cap : Nat) (L : List α), cs = [.slice a L.length cap] ∧ Fl w (fun b => b < w.heap.size) k y csf a L ∧ (∀ i (hi : i < L.length), Pd L[i]) ∧ L.length * y ≤ reachBytes := by
 rcases DataW.trod_slice ht h with ⟨rfl, _⟩ | ⟨a', len', cap', elems, rest, n, _, rfl, hx, _, hlc, hcm, hel, hE, _, _⟩
 ·exact ⟨none, 0, [], rfl, Fl.nil _ _ _ _ _ _, fun i hi => by simp at hi, by simp⟩
 ·have e1 : x.1 = (Go.DataW.slice (elems.map (·.1)) (rest.map (·.1))) := congrArg Prod.fst hx
  rw [e1] at hw
  have hw1 := hw ((elems.length + rest.length) * y) (by
   simp only [DataW.weights, ht, hby]
   simp)
  have hw2 : ∀ x ∈ elems, ∀ n ∈ x.1.weights Try.prog e, n ≤ reachBytes := fun x hx n hn => hw n (by
   simp only [DataW.weights, ht, List.mem_cons, List.mem_append]
   exact .inr (.inl (weights_mem_all (List.mem_map.2 ⟨x, hx, rfl⟩) n hn)))
  rw [hc] at hE
  have hQ : ∀ i, i < len' → ∃ v : α, (∀ j, j < k → w.cell? ((a'.add (i * k)).add j) = (csf v)[j]?) ∧ Pd v := by
   intro i hi
   have hEi := hE i hi
   rw [List.getElem?_eq_getElem (by omega)] at hEi
   obtain ⟨es, he, ht2⟩ := Option.bind_eq_some_iff.1 hEi
   obtain ⟨v, rfl, hB⟩ := ih _ _ _ ht2 (hw2 _ (List.getElem_mem (by omega)))
   obtain ⟨_, _, hcell⟩ := World.cells?_some he
   exact ⟨v, hcell, hB⟩
  obtain ⟨vs, hvl, hvs⟩ := list_choice len' _ hQ
  subst hvl
  have hbd : vs.length * y ≤ reachBytes := by
   have : vs.length * y ≤ (elems.length + rest.length) * y := Nat.mul_le_mul_right _ (by omega)
   omega
  refine ⟨some a', cap', vs, rfl, ⟨by unfold reachBytes at hbd; omega, fun hne => ?_⟩, fun i hi => (hvs i hi).2, hbd⟩
  have h0 : 0 < vs.length := List.length_pos_iff.2 hne
  obtain ⟨b, off, spot⟩ := a'
  have hc00 := (hvs 0 h0).1 0 hp
  rw [List.getElem?_eq_getElem (by rw [hlen]; exact hp)] at hc00
  have hspot : spot = none := by simpa [Addr.add] using World.cell?_spot hc00
  subst hspot
  refine ⟨b, off, rfl, World.block_lt_of_cell? w _ (by simpa [Addr.add] using hc00), fun i hi j u hu => ?_⟩
  have hj : j < k := by rw [← hlen vs[i]]; exact (List.getElem?_eq_some_iff.1 hu).1
  have := (hvs i hi).1 j hj
  rw [hu, Addr.add_mid, Addr.add_mid] at this
  exact this
def P_gp (_ : World) (_ : Gp) : Prop := True
def P_nd (_ : World) (_ : Nd) : Prop := True
def P_al (_ : World) (_ : Al) : Prop := True
def P_ev (_ : World) (_ : Qd) : Prop := True
def P_dp (_ : World) (_ : Qd) : Prop := True
def P_js (w : World) (v : Js) : Prop := ∃ G : List Gp, v.gl = G.length ∧ Fl w (fun b => b < w.heap.size) 3 24 Gp.cs v.ga G
def P_ss (w : World) (v : Ss) : Prop := ∃ G : List Al, v.al = G.length ∧ Fl w (fun b => b < w.heap.size) 11 88 Al.cs v.aa G
theorem tr_res {fuel : Nat} {cs : List Value} {x : DataW H × List MemPlace} (h : DataW.trod enc Try.prog w 0 (fun _ => true) true fuel 40 cs = some x) (hw : ∀ n ∈ x.1.weights Try.prog 40, n ≤ reachBytes) : ∃ v : Int × Int, cs = [.int .i64 v.1, .int .i64 v.2] ∧ True := by
 obtain ⟨xs, n, rfl, rfl, hl, hlen, hf⟩ := DataW.trod_struct Try.underlying40 h
 rw [show Try.prog.cellsOf 40 = 2 from by kernel_rfl] at hl
 have hlen : xs.length = 2 := hlen
 obtain ⟨c0, c1, rfl⟩ := len2 hl
 obtain ⟨x0, x1, rfl⟩ := len2 hlen
 have g0 : DataW.trod enc Try.prog w 0 (fun _ => true) true n 3 (([c0, c1].drop 0).take (Try.prog.cellsOf 3)) = some x0 := hf 0 _ rfl
 rw [show Try.prog.cellsOf 3 = 1 from by kernel_rfl] at g0
 obtain ⟨v0, e0, _, _⟩ := DataW.trod_int (by kernel_rfl) g0
 have g1 : DataW.trod enc Try.prog w 0 (fun _ => true) true n 3 (([c0, c1].drop 1).take (Try.prog.cellsOf 3)) = some x1 := hf 1 _ rfl
 rw [show Try.prog.cellsOf 3 = 1 from by kernel_rfl] at g1
 obtain ⟨v1, e1, _, _⟩ := DataW.trod_int (by kernel_rfl) g1
 simp at e0 e1
 exact ⟨(v0, v1), by rw [e0, e1], trivial⟩
theorem tr_gp {fuel : Nat} {cs : List Value} {x : DataW H × List MemPlace} (h : DataW.trod enc Try.prog w 0 (fun _ => true) true fuel 48 cs = some x) (hw : ∀ n ∈ x.1.weights Try.prog 48, n ≤ reachBytes) : ∃ v : Gp, cs = v.cs ∧ P_gp w v := by
 obtain ⟨xs, n, rfl, rfl, hl, hlen, hf⟩ := DataW.trod_struct Try.underlying48 h
 rw [show Try.prog.cellsOf 48 = 3 from by kernel_rfl] at hl
 have hlen : xs.length = 2 := hlen
 obtain ⟨c0, c1, c2, rfl⟩ := len3 hl
 obtain ⟨x0, x1, rfl⟩ := len2 hlen
 have g0 : DataW.trod enc Try.prog w 0 (fun _ => true) true n 3 (([c0, c1, c2].drop 0).take (Try.prog.cellsOf 3)) = some x0 := hf 0 _ rfl
 rw [show Try.prog.cellsOf 3 = 1 from by kernel_rfl] at g0
 obtain ⟨v0, e0, _, _⟩ := DataW.trod_int (by kernel_rfl) g0
 have g1 : DataW.trod enc Try.prog w 0 (fun _ => true) true n 40 (([c0, c1, c2].drop 1).take (Try.prog.cellsOf 40)) = some x1 := hf 1 _ rfl
 rw [show Try.prog.cellsOf 40 = 2 from by kernel_rfl] at g1
 obtain ⟨v1, e1, q1⟩ := tr_res g1 (fun m hm => hw m (by
  simp only [DataW.weights, Try.underlying48]
  exact DataW.weights_mem_each (j := 1) rfl rfl m hm))
 simp at e0 e1
 exact ⟨⟨v0, v1.1, v1.2⟩, by rw [Gp.cs, e0, e1.1, e1.2], trivial⟩
theorem tr_nd {fuel : Nat} {cs : List Value} {x : DataW H × List MemPlace} (h : DataW.trod enc Try.prog w 0 (fun _ => true) true fuel 46 cs = some x) (hw : ∀ n ∈ x.1.weights Try.prog 46, n ≤ reachBytes) : ∃ v : Nd, cs = v.cs ∧ P_nd w v := by
 obtain ⟨xs, n, rfl, rfl, hl, hlen, hf⟩ := DataW.trod_struct Try.underlying46 h
 rw [show Try.prog.cellsOf 46 = 8 from by kernel_rfl] at hl
 have hlen : xs.length = 7 := hlen
 obtain ⟨c0, c1, c2, c3, c4, c5, c6, c7, rfl⟩ := len8 hl
 obtain ⟨x0, x1, x2, x3, x4, x5, x6, rfl⟩ := len7 hlen
 have g0 : DataW.trod enc Try.prog w 0 (fun _ => true) true n 3 (([c0, c1, c2, c3, c4, c5, c6, c7].drop 0).take (Try.prog.cellsOf 3)) = some x0 := hf 0 _ rfl
 rw [show Try.prog.cellsOf 3 = 1 from by kernel_rfl] at g0
 obtain ⟨v0, e0, _, _⟩ := DataW.trod_int (by kernel_rfl) g0
 have g1 : DataW.trod enc Try.prog w 0 (fun _ => true) true n 40 (([c0, c1, c2, c3, c4, c5, c6, c7].drop 1).take (Try.prog.cellsOf 40)) = some x1 := hf 1 _ rfl
 rw [show Try.prog.cellsOf 40 = 2 from by kernel_rfl] at g1
 obtain ⟨v1, e1, q1⟩ := tr_res g1 (fun m hm => hw m (by
  simp only [DataW.weights, Try.underlying46]
  exact DataW.weights_mem_each (j := 1) rfl rfl m hm))
 have g2 : DataW.trod enc Try.prog w 0 (fun _ => true) true n 4 (([c0, c1, c2, c3, c4, c5, c6, c7].drop 3).take (Try.prog.cellsOf 4)) = some x2 := hf 2 _ rfl
 rw [show Try.prog.cellsOf 4 = 1 from by kernel_rfl] at g2
 obtain ⟨v2, e2, _⟩ := DataW.trod_bool (by kernel_rfl) g2
 have g3 : DataW.trod enc Try.prog w 0 (fun _ => true) true n 4 (([c0, c1, c2, c3, c4, c5, c6, c7].drop 4).take (Try.prog.cellsOf 4)) = some x3 := hf 3 _ rfl
 rw [show Try.prog.cellsOf 4 = 1 from by kernel_rfl] at g3
 obtain ⟨v3, e3, _⟩ := DataW.trod_bool (by kernel_rfl) g3
 have g4 : DataW.trod enc Try.prog w 0 (fun _ => true) true n 3 (([c0, c1, c2, c3, c4, c5, c6, c7].drop 5).take (Try.prog.cellsOf 3)) = some x4 := hf 4 _ rfl
 rw [show Try.prog.cellsOf 3 = 1 from by kernel_rfl] at g4
 obtain ⟨v4, e4, _, _⟩ := DataW.trod_int (by kernel_rfl) g4
 have g5 : DataW.trod enc Try.prog w 0 (fun _ => true) true n 3 (([c0, c1, c2, c3, c4, c5, c6, c7].drop 6).take (Try.prog.cellsOf 3)) = some x5 := hf 5 _ rfl
 rw [show Try.prog.cellsOf 3 = 1 from by kernel_rfl] at g5
 obtain ⟨v5, e5, _, _⟩ := DataW.trod_int (by kernel_rfl) g5
 have g6 : DataW.trod enc Try.prog w 0 (fun _ => true) true n 3 (([c0, c1, c2, c3, c4, c5, c6, c7].drop 7).take (Try.prog.cellsOf 3)) = some x6 := hf 6 _ rfl
 rw [show Try.prog.cellsOf 3 = 1 from by kernel_rfl] at g6
 obtain ⟨v6, e6, _, _⟩ := DataW.trod_int (by kernel_rfl) g6
 simp at e0 e1 e2 e3 e4 e5 e6
 exact ⟨⟨v0, v1.1, v1.2, v2, v3, v4, v5, v6⟩, by rw [Nd.cs, e0, e1.1, e1.2, e2, e3, e4, e5, e6], trivial⟩
theorem tr_al {fuel : Nat} {cs : List Value} {x : DataW H × List MemPlace} (h : DataW.trod enc Try.prog w 0 (fun _ => true) true fuel 42 cs = some x) (hw : ∀ n ∈ x.1.weights Try.prog 42, n ≤ reachBytes) : ∃ v : Al, cs = v.cs ∧ P_al w v := by
 obtain ⟨xs, n, rfl, rfl, hl, hlen, hf⟩ := DataW.trod_struct Try.underlying42 h
 rw [show Try.prog.cellsOf 42 = 11 from by kernel_rfl] at hl
 have hlen : xs.length = 10 := hlen
 obtain ⟨c0, c1, c2, c3, c4, c5, c6, c7, c8, c9, c10, rfl⟩ := len11 hl
 obtain ⟨x0, x1, x2, x3, x4, x5, x6, x7, x8, x9, rfl⟩ := len10 hlen
 have g0 : DataW.trod enc Try.prog w 0 (fun _ => true) true n 3 (([c0, c1, c2, c3, c4, c5, c6, c7, c8, c9, c10].drop 0).take (Try.prog.cellsOf 3)) = some x0 := hf 0 _ rfl
 rw [show Try.prog.cellsOf 3 = 1 from by kernel_rfl] at g0
 obtain ⟨v0, e0, _, _⟩ := DataW.trod_int (by kernel_rfl) g0
 have g1 : DataW.trod enc Try.prog w 0 (fun _ => true) true n 3 (([c0, c1, c2, c3, c4, c5, c6, c7, c8, c9, c10].drop 1).take (Try.prog.cellsOf 3)) = some x1 := hf 1 _ rfl
 rw [show Try.prog.cellsOf 3 = 1 from by kernel_rfl] at g1
 obtain ⟨v1, e1, _, _⟩ := DataW.trod_int (by kernel_rfl) g1
 have g2 : DataW.trod enc Try.prog w 0 (fun _ => true) true n 3 (([c0, c1, c2, c3, c4, c5, c6, c7, c8, c9, c10].drop 2).take (Try.prog.cellsOf 3)) = some x2 := hf 2 _ rfl
 rw [show Try.prog.cellsOf 3 = 1 from by kernel_rfl] at g2
 obtain ⟨v2, e2, _, _⟩ := DataW.trod_int (by kernel_rfl) g2
 have g3 : DataW.trod enc Try.prog w 0 (fun _ => true) true n 3 (([c0, c1, c2, c3, c4, c5, c6, c7, c8, c9, c10].drop 3).take (Try.prog.cellsOf 3)) = some x3 := hf 3 _ rfl
 rw [show Try.prog.cellsOf 3 = 1 from by kernel_rfl] at g3
 obtain ⟨v3, e3, _, _⟩ := DataW.trod_int (by kernel_rfl) g3
 have g4 : DataW.trod enc Try.prog w 0 (fun _ => true) true n 3 (([c0, c1, c2, c3, c4, c5, c6, c7, c8, c9, c10].drop 4).take (Try.prog.cellsOf 3)) = some x4 := hf 4 _ rfl
 rw [show Try.prog.cellsOf 3 = 1 from by kernel_rfl] at g4
 obtain ⟨v4, e4, _, _⟩ := DataW.trod_int (by kernel_rfl) g4
 have g5 : DataW.trod enc Try.prog w 0 (fun _ => true) true n 3 (([c0, c1, c2, c3, c4, c5, c6, c7, c8, c9, c10].drop 5).take (Try.prog.cellsOf 3)) = some x5 := hf 5 _ rfl
 rw [show Try.prog.cellsOf 3 = 1 from by kernel_rfl] at g5
 obtain ⟨v5, e5, _, _⟩ := DataW.trod_int (by kernel_rfl) g5
 have g6 : DataW.trod enc Try.prog w 0 (fun _ => true) true n 3 (([c0, c1, c2, c3, c4, c5, c6, c7, c8, c9, c10].drop 6).take (Try.prog.cellsOf 3)) = some x6 := hf 6 _ rfl
 rw [show Try.prog.cellsOf 3 = 1 from by kernel_rfl] at g6
 obtain ⟨v6, e6, _, _⟩ := DataW.trod_int (by kernel_rfl) g6
 have g7 : DataW.trod enc Try.prog w 0 (fun _ => true) true n 40 (([c0, c1, c2, c3, c4, c5, c6, c7, c8, c9, c10].drop 7).take (Try.prog.cellsOf 40)) = some x7 := hf 7 _ rfl
 rw [show Try.prog.cellsOf 40 = 2 from by kernel_rfl] at g7
 obtain ⟨v7, e7, q7⟩ := tr_res g7 (fun m hm => hw m (by
  simp only [DataW.weights, Try.underlying42]
  exact DataW.weights_mem_each (j := 7) rfl rfl m hm))
 have g8 : DataW.trod enc Try.prog w 0 (fun _ => true) true n 4 (([c0, c1, c2, c3, c4, c5, c6, c7, c8, c9, c10].drop 9).take (Try.prog.cellsOf 4)) = some x8 := hf 8 _ rfl
 rw [show Try.prog.cellsOf 4 = 1 from by kernel_rfl] at g8
 obtain ⟨v8, e8, _⟩ := DataW.trod_bool (by kernel_rfl) g8
 have g9 : DataW.trod enc Try.prog w 0 (fun _ => true) true n 3 (([c0, c1, c2, c3, c4, c5, c6, c7, c8, c9, c10].drop 10).take (Try.prog.cellsOf 3)) = some x9 := hf 9 _ rfl
 rw [show Try.prog.cellsOf 3 = 1 from by kernel_rfl] at g9
 obtain ⟨v9, e9, _, _⟩ := DataW.trod_int (by kernel_rfl) g9
 simp at e0 e1 e2 e3 e4 e5 e6 e7 e8 e9
 exact ⟨⟨v0, v1, v2, v3, v4, v5, v6, v7.1, v7.2, v8, v9⟩, by rw [Al.cs, e0, e1, e2, e3, e4, e5, e6, e7.1, e7.2, e8, e9], trivial⟩
theorem tr_ev {fuel : Nat} {cs : List Value} {x : DataW H × List MemPlace} (h : DataW.trod enc Try.prog w 0 (fun _ => true) true fuel 53 cs = some x) (hw : ∀ n ∈ x.1.weights Try.prog 53, n ≤ reachBytes) : ∃ v : Qd, cs = v.cs ∧ P_ev w v := by
 obtain ⟨xs, n, rfl, rfl, hl, hlen, hf⟩ := DataW.trod_struct Try.underlying53 h
 rw [show Try.prog.cellsOf 53 = 4 from by kernel_rfl] at hl
 have hlen : xs.length = 4 := hlen
 obtain ⟨c0, c1, c2, c3, rfl⟩ := len4 hl
 obtain ⟨x0, x1, x2, x3, rfl⟩ := len4 hlen
 have g0 : DataW.trod enc Try.prog w 0 (fun _ => true) true n 3 (([c0, c1, c2, c3].drop 0).take (Try.prog.cellsOf 3)) = some x0 := hf 0 _ rfl
 rw [show Try.prog.cellsOf 3 = 1 from by kernel_rfl] at g0
 obtain ⟨v0, e0, _, _⟩ := DataW.trod_int (by kernel_rfl) g0
 have g1 : DataW.trod enc Try.prog w 0 (fun _ => true) true n 3 (([c0, c1, c2, c3].drop 1).take (Try.prog.cellsOf 3)) = some x1 := hf 1 _ rfl
 rw [show Try.prog.cellsOf 3 = 1 from by kernel_rfl] at g1
 obtain ⟨v1, e1, _, _⟩ := DataW.trod_int (by kernel_rfl) g1
 have g2 : DataW.trod enc Try.prog w 0 (fun _ => true) true n 3 (([c0, c1, c2, c3].drop 2).take (Try.prog.cellsOf 3)) = some x2 := hf 2 _ rfl
 rw [show Try.prog.cellsOf 3 = 1 from by kernel_rfl] at g2
 obtain ⟨v2, e2, _, _⟩ := DataW.trod_int (by kernel_rfl) g2
 have g3 : DataW.trod enc Try.prog w 0 (fun _ => true) true n 3 (([c0, c1, c2, c3].drop 3).take (Try.prog.cellsOf 3)) = some x3 := hf 3 _ rfl
 rw [show Try.prog.cellsOf 3 = 1 from by kernel_rfl] at g3
 obtain ⟨v3, e3, _, _⟩ := DataW.trod_int (by kernel_rfl) g3
 simp at e0 e1 e2 e3
 exact ⟨⟨v0, v1, v2, v3⟩, by rw [Qd.cs, e0, e1, e2, e3], trivial⟩
theorem tr_dp {fuel : Nat} {cs : List Value} {x : DataW H × List MemPlace} (h : DataW.trod enc Try.prog w 0 (fun _ => true) true fuel 79 cs = some x) (hw : ∀ n ∈ x.1.weights Try.prog 79, n ≤ reachBytes) : ∃ v : Qd, cs = v.cs ∧ P_dp w v := by
 obtain ⟨xs, n, rfl, rfl, hl, hlen, hf⟩ := DataW.trod_struct Try.underlying79 h
 rw [show Try.prog.cellsOf 79 = 4 from by kernel_rfl] at hl
 have hlen : xs.length = 4 := hlen
 obtain ⟨c0, c1, c2, c3, rfl⟩ := len4 hl
 obtain ⟨x0, x1, x2, x3, rfl⟩ := len4 hlen
 have g0 : DataW.trod enc Try.prog w 0 (fun _ => true) true n 3 (([c0, c1, c2, c3].drop 0).take (Try.prog.cellsOf 3)) = some x0 := hf 0 _ rfl
 rw [show Try.prog.cellsOf 3 = 1 from by kernel_rfl] at g0
 obtain ⟨v0, e0, _, _⟩ := DataW.trod_int (by kernel_rfl) g0
 have g1 : DataW.trod enc Try.prog w 0 (fun _ => true) true n 3 (([c0, c1, c2, c3].drop 1).take (Try.prog.cellsOf 3)) = some x1 := hf 1 _ rfl
 rw [show Try.prog.cellsOf 3 = 1 from by kernel_rfl] at g1
 obtain ⟨v1, e1, _, _⟩ := DataW.trod_int (by kernel_rfl) g1
 have g2 : DataW.trod enc Try.prog w 0 (fun _ => true) true n 3 (([c0, c1, c2, c3].drop 2).take (Try.prog.cellsOf 3)) = some x2 := hf 2 _ rfl
 rw [show Try.prog.cellsOf 3 = 1 from by kernel_rfl] at g2
 obtain ⟨v2, e2, _, _⟩ := DataW.trod_int (by kernel_rfl) g2
 have g3 : DataW.trod enc Try.prog w 0 (fun _ => true) true n 3 (([c0, c1, c2, c3].drop 3).take (Try.prog.cellsOf 3)) = some x3 := hf 3 _ rfl
 rw [show Try.prog.cellsOf 3 = 1 from by kernel_rfl] at g3
 obtain ⟨v3, e3, _, _⟩ := DataW.trod_int (by kernel_rfl) g3
 simp at e0 e1 e2 e3
 exact ⟨⟨v0, v1, v2, v3⟩, by rw [Qd.cs, e0, e1, e2, e3], trivial⟩
theorem tr_js {fuel : Nat} {cs : List Value} {x : DataW H × List MemPlace} (h : DataW.trod enc Try.prog w 0 (fun _ => true) true fuel 51 cs = some x) (hw : ∀ n ∈ x.1.weights Try.prog 51, n ≤ reachBytes) : ∃ v : Js, cs = v.cs ∧ P_js w v := by
 obtain ⟨xs, n, rfl, rfl, hl, hlen, hf⟩ := DataW.trod_struct Try.underlying51 h
 rw [show Try.prog.cellsOf 51 = 7 from by kernel_rfl] at hl
 have hlen : xs.length = 7 := hlen
 obtain ⟨c0, c1, c2, c3, c4, c5, c6, rfl⟩ := len7 hl
 obtain ⟨x0, x1, x2, x3, x4, x5, x6, rfl⟩ := len7 hlen
 have g0 : DataW.trod enc Try.prog w 0 (fun _ => true) true n 3 (([c0, c1, c2, c3, c4, c5, c6].drop 0).take (Try.prog.cellsOf 3)) = some x0 := hf 0 _ rfl
 rw [show Try.prog.cellsOf 3 = 1 from by kernel_rfl] at g0
 obtain ⟨v0, e0, _, _⟩ := DataW.trod_int (by kernel_rfl) g0
 have g1 : DataW.trod enc Try.prog w 0 (fun _ => true) true n 3 (([c0, c1, c2, c3, c4, c5, c6].drop 1).take (Try.prog.cellsOf 3)) = some x1 := hf 1 _ rfl
 rw [show Try.prog.cellsOf 3 = 1 from by kernel_rfl] at g1
 obtain ⟨v1, e1, _, _⟩ := DataW.trod_int (by kernel_rfl) g1
 have g2 : DataW.trod enc Try.prog w 0 (fun _ => true) true n 3 (([c0, c1, c2, c3, c4, c5, c6].drop 2).take (Try.prog.cellsOf 3)) = some x2 := hf 2 _ rfl
 rw [show Try.prog.cellsOf 3 = 1 from by kernel_rfl] at g2
 obtain ⟨v2, e2, _, _⟩ := DataW.trod_int (by kernel_rfl) g2
 have g3 : DataW.trod enc Try.prog w 0 (fun _ => true) true n 3 (([c0, c1, c2, c3, c4, c5, c6].drop 3).take (Try.prog.cellsOf 3)) = some x3 := hf 3 _ rfl
 rw [show Try.prog.cellsOf 3 = 1 from by kernel_rfl] at g3
 obtain ⟨v3, e3, _, _⟩ := DataW.trod_int (by kernel_rfl) g3
 have g4 : DataW.trod enc Try.prog w 0 (fun _ => true) true n 49 (([c0, c1, c2, c3, c4, c5, c6].drop 4).take (Try.prog.cellsOf 49)) = some x4 := hf 4 _ rfl
 rw [show Try.prog.cellsOf 49 = 1 from by kernel_rfl] at g4
 obtain ⟨v4, k4, l4, e4, f4, q4, z4⟩ := tr_row Gp.cs (P_gp w) Try.underlying49 (by kernel_rfl) (by kernel_rfl) (by decide) Gp.len (fun _ _ _ h hw => tr_gp h hw) g4 (fun m hm => hw m (by
  simp only [DataW.weights, Try.underlying51]
  exact DataW.weights_mem_each (j := 4) rfl rfl m hm))
 have g5 : DataW.trod enc Try.prog w 0 (fun _ => true) true n 3 (([c0, c1, c2, c3, c4, c5, c6].drop 5).take (Try.prog.cellsOf 3)) = some x5 := hf 5 _ rfl
 rw [show Try.prog.cellsOf 3 = 1 from by kernel_rfl] at g5
 obtain ⟨v5, e5, _, _⟩ := DataW.trod_int (by kernel_rfl) g5
 have g6 : DataW.trod enc Try.prog w 0 (fun _ => true) true n 4 (([c0, c1, c2, c3, c4, c5, c6].drop 6).take (Try.prog.cellsOf 4)) = some x6 := hf 6 _ rfl
 rw [show Try.prog.cellsOf 4 = 1 from by kernel_rfl] at g6
 obtain ⟨v6, e6, _⟩ := DataW.trod_bool (by kernel_rfl) g6
 simp at e0 e1 e2 e3 e4 e5 e6
 exact ⟨⟨v0, v1, v2, v3, v4, l4.length, k4, v5, v6⟩, by rw [Js.cs, e0, e1, e2, e3, e4, e5, e6], l4, rfl, f4⟩
theorem tr_rs {fuel : Nat} {cs : List Value} {x : DataW H × List MemPlace} (h : DataW.trod enc Try.prog w 0 (fun _ => true) true fuel 74 cs = some x) (hw : ∀ n ∈ x.1.weights Try.prog 74, n ≤ reachBytes) : ∃ v : Int × Int × Option Addr × List Al × Nat, cs = [.int .i64 v.1, .int .i64 v.2.1, .slice v.2.2.1 v.2.2.2.1.length v.2.2.2.2] ∧ Fl w (fun b => b < w.heap.size) 11 88 Al.cs v.2.2.1 v.2.2.2.1 := by
 obtain ⟨xs, n, rfl, rfl, hl, hlen, hf⟩ := DataW.trod_struct Try.underlying74 h
 rw [show Try.prog.cellsOf 74 = 3 from by kernel_rfl] at hl
 have hlen : xs.length = 3 := hlen
 obtain ⟨c0, c1, c2, rfl⟩ := len3 hl
 obtain ⟨x0, x1, x2, rfl⟩ := len3 hlen
 have g0 : DataW.trod enc Try.prog w 0 (fun _ => true) true n 72 (([c0, c1, c2].drop 0).take (Try.prog.cellsOf 72)) = some x0 := hf 0 _ rfl
 rw [show Try.prog.cellsOf 72 = 1 from by kernel_rfl] at g0
 obtain ⟨v0, e0, _, _⟩ := DataW.trod_int (by kernel_rfl) g0
 have g1 : DataW.trod enc Try.prog w 0 (fun _ => true) true n 3 (([c0, c1, c2].drop 1).take (Try.prog.cellsOf 3)) = some x1 := hf 1 _ rfl
 rw [show Try.prog.cellsOf 3 = 1 from by kernel_rfl] at g1
 obtain ⟨v1, e1, _, _⟩ := DataW.trod_int (by kernel_rfl) g1
 have g2 : DataW.trod enc Try.prog w 0 (fun _ => true) true n 24 (([c0, c1, c2].drop 2).take (Try.prog.cellsOf 24)) = some x2 := hf 2 _ rfl
 rw [show Try.prog.cellsOf 24 = 1 from by kernel_rfl] at g2
 obtain ⟨v2, k2, l2, e2, f2, q2, z2⟩ := tr_row Al.cs (P_al w) Try.underlying24 (by kernel_rfl) (by kernel_rfl) (by decide) Al.len (fun _ _ _ h hw => tr_al h hw) g2 (fun m hm => hw m (by
  simp only [DataW.weights, Try.underlying74]
  exact DataW.weights_mem_each (j := 2) rfl rfl m hm))
 simp at e0 e1 e2
 exact ⟨(v0, v1, v2, l2, k2), by rw [e0, e1, e2], f2⟩
theorem tr_ss {fuel : Nat} {cs : List Value} {x : DataW H × List MemPlace} (h : DataW.trod enc Try.prog w 0 (fun _ => true) true fuel 76 cs = some x) (hw : ∀ n ∈ x.1.weights Try.prog 76, n ≤ reachBytes) : ∃ v : Ss, cs = v.cs ∧ P_ss w v := by
 obtain ⟨xs, n, rfl, rfl, hl, hlen, hf⟩ := DataW.trod_struct Try.underlying76 h
 rw [show Try.prog.cellsOf 76 = 5 from by kernel_rfl] at hl
 have hlen : xs.length = 3 := hlen
 obtain ⟨c0, c1, c2, c3, c4, rfl⟩ := len5 hl
 obtain ⟨x0, x1, x2, rfl⟩ := len3 hlen
 have g0 : DataW.trod enc Try.prog w 0 (fun _ => true) true n 3 (([c0, c1, c2, c3, c4].drop 0).take (Try.prog.cellsOf 3)) = some x0 := hf 0 _ rfl
 rw [show Try.prog.cellsOf 3 = 1 from by kernel_rfl] at g0
 obtain ⟨v0, e0, _, _⟩ := DataW.trod_int (by kernel_rfl) g0
 have g1 : DataW.trod enc Try.prog w 0 (fun _ => true) true n 3 (([c0, c1, c2, c3, c4].drop 1).take (Try.prog.cellsOf 3)) = some x1 := hf 1 _ rfl
 rw [show Try.prog.cellsOf 3 = 1 from by kernel_rfl] at g1
 obtain ⟨v1, e1, _, _⟩ := DataW.trod_int (by kernel_rfl) g1
 have g2 : DataW.trod enc Try.prog w 0 (fun _ => true) true n 74 (([c0, c1, c2, c3, c4].drop 2).take (Try.prog.cellsOf 74)) = some x2 := hf 2 _ rfl
 rw [show Try.prog.cellsOf 74 = 3 from by kernel_rfl] at g2
 obtain ⟨v2, e2, q2⟩ := tr_rs g2 (fun m hm => hw m (by
  simp only [DataW.weights, Try.underlying76]
  exact DataW.weights_mem_each (j := 2) rfl rfl m hm))
 simp at e0 e1 e2
 exact ⟨⟨v0, v1, v2.1, v2.2.1, v2.2.2.1, v2.2.2.2.1.length, v2.2.2.2.2⟩, by rw [Ss.cs, e0, e1, e2.1, e2.2.1, e2.2.2], v2.2.2.2.1, rfl, q2⟩
theorem deep_js {w : World} {a : Option Addr} {Ls : List Js} (hF : Fl w (fun b => b < w.heap.size) 7 72 Js.cs a Ls) (h : ∀ i (hi : i < Ls.length), P_js w Ls[i]) : ∃ L : List Jb, JbR w (fun b => b < w.heap.size) a Ls L := by
 obtain ⟨vs, h1, h2⟩ := list_choice Ls.length (fun i (d : Jb) => ∃ x, Ls[i]? = some x ∧ ∃ ga gc, x = d.sh ga gc ∧ Fl w (fun b => b < w.heap.size) 3 24 Gp.cs ga d.gs) (fun i hi => by
  obtain ⟨G, e, f⟩ := h i hi
  refine ⟨⟨Ls[i].id, Ls[i].ty, Ls[i].pr, Ls[i].pa, G, Ls[i].ve, Ls[i].sd⟩, Ls[i], List.getElem?_eq_getElem hi, Ls[i].ga, Ls[i].gc, ?_, f⟩
  rw [Jb.sh, ← e])
 refine ⟨vs, h1.symm, hF, fun i i1 i2 => ?_⟩
 obtain ⟨x, e, r⟩ := h2 i i2
 rw [List.getElem?_eq_getElem i1] at e
 cases e
 exact r
theorem deep_ss {w : World} {a : Option Addr} {Ls : List Ss} (hF : Fl w (fun b => b < w.heap.size) 5 56 Ss.cs a Ls) (h : ∀ i (hi : i < Ls.length), P_ss w Ls[i]) : ∃ L : List Sn, SnR w (fun b => b < w.heap.size) a Ls L := by
 obtain ⟨vs, h1, h2⟩ := list_choice Ls.length (fun i (d : Sn) => ∃ x, Ls[i]? = some x ∧ ∃ ga gc, x = d.sh ga gc ∧ Fl w (fun b => b < w.heap.size) 11 88 Al.cs ga d.al) (fun i hi => by
  obtain ⟨G, e, f⟩ := h i hi
  refine ⟨⟨Ls[i].cl, Ls[i].rq, Ls[i].co, Ls[i].va, G⟩, Ls[i], List.getElem?_eq_getElem hi, Ls[i].aa, Ls[i].ac, ?_, f⟩
  rw [Sn.sh, ← e])
 refine ⟨vs, h1.symm, hF, fun i i1 i2 => ?_⟩
 obtain ⟨x, e, r⟩ := h2 i i2
 rw [List.getElem?_eq_getElem i1] at e
 cases e
 exact r
theorem tr_st {fuel : Nat} {cs : List Value} {x : DataW H × List MemPlace} (h : DataW.trod enc Try.prog w 0 (fun _ => true) true fuel 29 cs = some x) (hw : ∀ n ∈ x.1.weights Try.prog 29, n ≤ reachBytes) : ∃ (s : Sc) (J B : List Js) (X : List Ss) (d : St), cs = s.cs ∧ StR w (fun b => b < w.heap.size) s J B X d ∧ d.allocs.length * 88 ≤ reachBytes := by
 obtain ⟨xs, n, rfl, rfl, hl, hlen, hf⟩ := DataW.trod_struct Try.underlying29 h
 rw [show Try.prog.cellsOf 29 = 9 from by kernel_rfl] at hl
 have hlen : xs.length = 9 := hlen
 obtain ⟨c0, c1, c2, c3, c4, c5, c6, c7, c8, rfl⟩ := len9 hl
 obtain ⟨x0, x1, x2, x3, x4, x5, x6, x7, x8, rfl⟩ := len9 hlen
 have g0 : DataW.trod enc Try.prog w 0 (fun _ => true) true n 3 (([c0, c1, c2, c3, c4, c5, c6, c7, c8].drop 0).take (Try.prog.cellsOf 3)) = some x0 := hf 0 _ rfl
 rw [show Try.prog.cellsOf 3 = 1 from by kernel_rfl] at g0
 obtain ⟨v0, e0, _, _⟩ := DataW.trod_int (by kernel_rfl) g0
 have g1 : DataW.trod enc Try.prog w 0 (fun _ => true) true n 3 (([c0, c1, c2, c3, c4, c5, c6, c7, c8].drop 1).take (Try.prog.cellsOf 3)) = some x1 := hf 1 _ rfl
 rw [show Try.prog.cellsOf 3 = 1 from by kernel_rfl] at g1
 obtain ⟨v1, e1, _, _⟩ := DataW.trod_int (by kernel_rfl) g1
 have g2 : DataW.trod enc Try.prog w 0 (fun _ => true) true n 22 (([c0, c1, c2, c3, c4, c5, c6, c7, c8].drop 2).take (Try.prog.cellsOf 22)) = some x2 := hf 2 _ rfl
 rw [show Try.prog.cellsOf 22 = 1 from by kernel_rfl] at g2
 obtain ⟨v2, k2, l2, e2, f2, q2, z2⟩ := tr_row Js.cs (P_js w) Try.underlying22 (by kernel_rfl) (by kernel_rfl) (by decide) Js.len (fun _ _ _ h hw => tr_js h hw) g2 (fun m hm => hw m (by
  simp only [DataW.weights, Try.underlying29]
  exact DataW.weights_mem_each (j := 2) rfl rfl m hm))
 have g3 : DataW.trod enc Try.prog w 0 (fun _ => true) true n 22 (([c0, c1, c2, c3, c4, c5, c6, c7, c8].drop 3).take (Try.prog.cellsOf 22)) = some x3 := hf 3 _ rfl
 rw [show Try.prog.cellsOf 22 = 1 from by kernel_rfl] at g3
 obtain ⟨v3, k3, l3, e3, f3, q3, z3⟩ := tr_row Js.cs (P_js w) Try.underlying22 (by kernel_rfl) (by kernel_rfl) (by decide) Js.len (fun _ _ _ h hw => tr_js h hw) g3 (fun m hm => hw m (by
  simp only [DataW.weights, Try.underlying29]
  exact DataW.weights_mem_each (j := 3) rfl rfl m hm))
 have g4 : DataW.trod enc Try.prog w 0 (fun _ => true) true n 23 (([c0, c1, c2, c3, c4, c5, c6, c7, c8].drop 4).take (Try.prog.cellsOf 23)) = some x4 := hf 4 _ rfl
 rw [show Try.prog.cellsOf 23 = 1 from by kernel_rfl] at g4
 obtain ⟨v4, k4, l4, e4, f4, q4, z4⟩ := tr_row Nd.cs (P_nd w) Try.underlying23 (by kernel_rfl) (by kernel_rfl) (by decide) Nd.len (fun _ _ _ h hw => tr_nd h hw) g4 (fun m hm => hw m (by
  simp only [DataW.weights, Try.underlying29]
  exact DataW.weights_mem_each (j := 4) rfl rfl m hm))
 have g5 : DataW.trod enc Try.prog w 0 (fun _ => true) true n 24 (([c0, c1, c2, c3, c4, c5, c6, c7, c8].drop 5).take (Try.prog.cellsOf 24)) = some x5 := hf 5 _ rfl
 rw [show Try.prog.cellsOf 24 = 1 from by kernel_rfl] at g5
 obtain ⟨v5, k5, l5, e5, f5, q5, z5⟩ := tr_row Al.cs (P_al w) Try.underlying24 (by kernel_rfl) (by kernel_rfl) (by decide) Al.len (fun _ _ _ h hw => tr_al h hw) g5 (fun m hm => hw m (by
  simp only [DataW.weights, Try.underlying29]
  exact DataW.weights_mem_each (j := 5) rfl rfl m hm))
 have g6 : DataW.trod enc Try.prog w 0 (fun _ => true) true n 25 (([c0, c1, c2, c3, c4, c5, c6, c7, c8].drop 6).take (Try.prog.cellsOf 25)) = some x6 := hf 6 _ rfl
 rw [show Try.prog.cellsOf 25 = 1 from by kernel_rfl] at g6
 obtain ⟨v6, k6, l6, e6, f6, q6, z6⟩ := tr_row Qd.cs (P_ev w) Try.underlying25 (by kernel_rfl) (by kernel_rfl) (by decide) Qd.len (fun _ _ _ h hw => tr_ev h hw) g6 (fun m hm => hw m (by
  simp only [DataW.weights, Try.underlying29]
  exact DataW.weights_mem_each (j := 6) rfl rfl m hm))
 have g7 : DataW.trod enc Try.prog w 0 (fun _ => true) true n 26 (([c0, c1, c2, c3, c4, c5, c6, c7, c8].drop 7).take (Try.prog.cellsOf 26)) = some x7 := hf 7 _ rfl
 rw [show Try.prog.cellsOf 26 = 1 from by kernel_rfl] at g7
 obtain ⟨v7, k7, l7, e7, f7, q7, z7⟩ := tr_row Qd.cs (P_dp w) Try.underlying26 (by kernel_rfl) (by kernel_rfl) (by decide) Qd.len (fun _ _ _ h hw => tr_dp h hw) g7 (fun m hm => hw m (by
  simp only [DataW.weights, Try.underlying29]
  exact DataW.weights_mem_each (j := 7) rfl rfl m hm))
 have g8 : DataW.trod enc Try.prog w 0 (fun _ => true) true n 27 (([c0, c1, c2, c3, c4, c5, c6, c7, c8].drop 8).take (Try.prog.cellsOf 27)) = some x8 := hf 8 _ rfl
 rw [show Try.prog.cellsOf 27 = 1 from by kernel_rfl] at g8
 obtain ⟨v8, k8, l8, e8, f8, q8, z8⟩ := tr_row Ss.cs (P_ss w) Try.underlying27 (by kernel_rfl) (by kernel_rfl) (by decide) Ss.len (fun _ _ _ h hw => tr_ss h hw) g8 (fun m hm => hw m (by
  simp only [DataW.weights, Try.underlying29]
  exact DataW.weights_mem_each (j := 8) rfl rfl m hm))
 simp at e0 e1 e2 e3 e4 e5 e6 e7 e8
 obtain ⟨JD, hJ⟩ := deep_js f2 q2
 obtain ⟨BD, hB⟩ := deep_js f3 q3
 obtain ⟨XD, hX⟩ := deep_ss f8 q8
 exact ⟨⟨v0, v1, v2, l2.length, k2, v3, l3.length, k3, v4, l4.length, k4, v5, l5.length, k5, v6, l6.length, k6, v7, l7.length, k7, v8, l8.length, k8⟩, l2, l3, l8, ⟨v0, v1, JD, BD, l4, l5, l6, l7, XD⟩, by rw [Sc.cs, e0, e1, e2, e3, e4, e5, e6, e7, e8], ⟨rfl, rfl, ⟨rfl, rfl, rfl, rfl, rfl, rfl, rfl, f2, f3, f4, f5, f6, f7, f8⟩, hJ, hB, hX⟩, z5⟩
theorem open_st {v : Value} {d : DataW H} {p : List MemPlace} (h : DataW.Trod enc Try.prog w 0 (fun _ => true) true 29 v d p) (hv : ∃ xs, v = .agg xs) (hw : ∀ n ∈ d.weights Try.prog 29, n ≤ reachBytes) :
  ∃ (s : Sc) (J B : List Js) (X : List Ss) (dd : St), v = .agg #[.int .i64 s.ix, .int .i64 s.nx, .slice s.a2 s.n2 s.c2, .slice s.a3 s.n3 s.c3, .slice s.a4 s.n4 s.c4, .slice s.a5 s.n5 s.c5, .slice s.a6 s.n6 s.c6, .slice s.a7 s.n7 s.c7, .slice s.a8 s.n8 s.c8] ∧ StR w (fun b => b < w.heap.size) s J B X dd ∧ dd.allocs.length * 88 ≤ reachBytes := by
 obtain ⟨fuel, hf⟩ := h
 obtain ⟨xs, rfl⟩ := hv
 obtain ⟨s, J, B, X, dd, e, h1, h2⟩ := tr_st hf hw
 have e2 : xs = s.cs.toArray := by
  apply Array.toList_inj.1
  simpa [Value.cells] using e
 exact ⟨s, J, B, X, dd, by rw [e2]; rfl, h1, h2⟩
theorem open_al {v : Value} {d : DataW H} {p : List MemPlace} (h : DataW.Trod enc Try.prog w 0 (fun _ => true) true 42 v d p) (hv : ∃ xs, v = .agg xs) (hw : ∀ n ∈ d.weights Try.prog 42, n ≤ reachBytes) :
  ∃ (x : Al), v = .agg #[.int .i64 x.id, .int .i64 x.jb, .int .i64 x.ve, .int .i64 x.gr, .int .i64 x.ix, .int .i64 x.nd, .int .i64 x.ep, .int .i64 x.c, .int .i64 x.m, .bool x.sp, .int .i64 x.st] := by
 obtain ⟨fuel, hf⟩ := h
 obtain ⟨xs, rfl⟩ := hv
 obtain ⟨x, e, _⟩ := tr_al hf hw
 have e2 : xs = x.cs.toArray := by
  apply Array.toList_inj.1
  simpa [Value.cells] using e
 exact ⟨x, by rw [e2]; rfl⟩
end
end Go.Proofs.Ytblofbdncolikaa
