/- What comes in: allocations. -/
import Derived.Test.YtkienmncifonnaaDoorRo
import Derived.Test.YtkienmncifonnaaDoorRows
import Derived.ChangeSlices
import Derived.OpenShut
import Derived.ChangeOld
import Derived.Below
import Derived.SizedLaws
import Derived.DataShut
namespace Go.Proofs.YtkienmncifonnaaDoor
open Go.RowKit Go.ChangeShapes Go.WideShapes
theorem len2 {α : Type} {l : List α} (h : l.length = 2) : ∃ x0 x1, l = [x0, x1] := by
  match l, h with
  | [x0, x1], _ => exact ⟨_, _, rfl⟩
theorem len10 {α : Type} {l : List α} (h : l.length = 10) : ∃ x0 x1 x2 x3 x4 x5 x6 x7 x8 x9, l = [x0, x1, x2, x3, x4, x5, x6, x7, x8, x9] := by
  match l, h with
  | [x0, x1, x2, x3, x4, x5, x6, x7, x8, x9], _ => exact ⟨_, _, _, _, _, _, _, _, _, _, rfl⟩
theorem len11 {α : Type} {l : List α} (h : l.length = 11) : ∃ x0 x1 x2 x3 x4 x5 x6 x7 x8 x9 x10, l = [x0, x1, x2, x3, x4, x5, x6, x7, x8, x9, x10] := by
  match l, h with
  | [x0, x1, x2, x3, x4, x5, x6, x7, x8, x9, x10], _ => exact ⟨_, _, _, _, _, _, _, _, _, _, _, rfl⟩

section
variable {H : Type} {enc : TypeId × Value → H} {w : World}
theorem bulk_mem {d : DataW H} {l : List (DataW H)} (h : d ∈ l) : Rows.uptoBulk d ≤ Rows.uptoBulkAll l := by
  induction l with
  | nil => cases h
  | cons x l ih =>
    rw [Rows.uptoBulkAll]
    rcases List.mem_cons.1 h with rfl | h
    · omega
    · have := ih h; omega
theorem bulk_pos (d : DataW H) : 1 ≤ Rows.uptoBulk d := by
  cases d with
  | lit x => cases x <;> simp [Rows.uptoBulk]
  | _ => simp [Rows.uptoBulk]
theorem bulk_all (ds : List (DataW H)) : ds.length ≤ Rows.uptoBulkAll ds := by
  induction ds with
  | nil => simp
  | cons d r ih =>
    have h1 := bulk_pos d
    simp only [Rows.uptoBulkAll, List.length_cons]
    omega
theorem upto_le {ds : List (DataW H)} (h : Rows.uptoSmall H ds = true) : Rows.uptoBulkAll ds ≤ 1048576 := of_decide_eq_true h
theorem list_choice {α : Type} (n : Nat) (P : Nat → α → Prop) (h : ∀ i, i < n → ∃ v, P i v) : ∃ vs : List α, vs.length = n ∧ ∀ i (hi : i < vs.length), P i vs[i] := by
  induction n with
  | zero => exact ⟨[], rfl, fun i hi => by simp at hi⟩
  | succ n ih =>
    obtain ⟨vs, h1, h2⟩ := ih (fun i hi => h i (by omega))
    obtain ⟨v, hv⟩ := h n (by omega)
    refine ⟨vs ++ [v], by simp [h1], fun i hi => ?_⟩
    by_cases hi2 : i < vs.length
    · rw [List.getElem_append_left hi2]; exact h2 i hi2
    · have : i = vs.length := by simp at hi; omega
      subst this
      simp [h1]
      exact hv
theorem tr_28 {fuel : Nat} {cs : List Value} {x : DataW H × List MemPlace} (h : DataW.trod enc Tryd.prog w 0 (fun _ => true) true fuel 28 cs = some x) : ∃ a b : Int, cs = [.int .i64 a, .int .i64 b] := by
  obtain ⟨xs, n, rfl, rfl, hl, hlen, hf⟩ := DataW.trod_struct Tryd.underlying28 h
  rw [show Tryd.prog.cellsOf 28 = 2 from by kernel_rfl] at hl
  have hlen : xs.length = 2 := hlen
  obtain ⟨c0, c1, rfl⟩ := len2 hl
  obtain ⟨y0, y1, rfl⟩ := len2 hlen
  have g0 : DataW.trod enc Tryd.prog w 0 (fun _ => true) true n 3 (([c0, c1].drop 0).take (Tryd.prog.cellsOf 3)) = some y0 := hf 0 _ rfl
  rw [show Tryd.prog.cellsOf 3 = 1 from by kernel_rfl] at g0
  obtain ⟨v0, e0, _, _⟩ := DataW.trod_int Tryd.underlying3 g0
  have g1 : DataW.trod enc Tryd.prog w 0 (fun _ => true) true n 3 (([c0, c1].drop 1).take (Tryd.prog.cellsOf 3)) = some y1 := hf 1 _ rfl
  rw [show Tryd.prog.cellsOf 3 = 1 from by kernel_rfl] at g1
  obtain ⟨v1, e1, _, _⟩ := DataW.trod_int Tryd.underlying3 g1
  simp at e0 e1
  exact ⟨v0, v1, by rw [e0, e1]⟩
theorem tr_67 {fuel : Nat} {cs : List Value} {x : DataW H × List MemPlace} (h : DataW.trod enc Tryd.prog w 0 (fun _ => true) true fuel 67 cs = some x) : ∃ v : Al, cs = (alC v).toList ∧ wf64 v.id := by
  obtain ⟨xs, n, rfl, rfl, hl, hlen, hf⟩ := DataW.trod_struct Tryd.underlying67 h
  rw [show Tryd.prog.cellsOf 67 = 11 from by kernel_rfl] at hl
  have hlen : xs.length = 10 := hlen
  obtain ⟨c0, c1, c2, c3, c4, c5, c6, c7, c8, c9, c10, rfl⟩ := len11 hl
  obtain ⟨y0, y1, y2, y3, y4, y5, y6, y7, y8, y9, rfl⟩ := len10 hlen
  have g0 : DataW.trod enc Tryd.prog w 0 (fun _ => true) true n 3 (([c0, c1, c2, c3, c4, c5, c6, c7, c8, c9, c10].drop 0).take (Tryd.prog.cellsOf 3)) = some y0 := hf 0 _ rfl
  rw [show Tryd.prog.cellsOf 3 = 1 from by kernel_rfl] at g0
  obtain ⟨v0, e0, _, z0⟩ := DataW.trod_int Tryd.underlying3 g0
  have g1 : DataW.trod enc Tryd.prog w 0 (fun _ => true) true n 3 (([c0, c1, c2, c3, c4, c5, c6, c7, c8, c9, c10].drop 1).take (Tryd.prog.cellsOf 3)) = some y1 := hf 1 _ rfl
  rw [show Tryd.prog.cellsOf 3 = 1 from by kernel_rfl] at g1
  obtain ⟨v1, e1, _, _⟩ := DataW.trod_int Tryd.underlying3 g1
  have g2 : DataW.trod enc Tryd.prog w 0 (fun _ => true) true n 3 (([c0, c1, c2, c3, c4, c5, c6, c7, c8, c9, c10].drop 2).take (Tryd.prog.cellsOf 3)) = some y2 := hf 2 _ rfl
  rw [show Tryd.prog.cellsOf 3 = 1 from by kernel_rfl] at g2
  obtain ⟨v2, e2, _, _⟩ := DataW.trod_int Tryd.underlying3 g2
  have g3 : DataW.trod enc Tryd.prog w 0 (fun _ => true) true n 3 (([c0, c1, c2, c3, c4, c5, c6, c7, c8, c9, c10].drop 3).take (Tryd.prog.cellsOf 3)) = some y3 := hf 3 _ rfl
  rw [show Tryd.prog.cellsOf 3 = 1 from by kernel_rfl] at g3
  obtain ⟨v3, e3, _, _⟩ := DataW.trod_int Tryd.underlying3 g3
  have g4 : DataW.trod enc Tryd.prog w 0 (fun _ => true) true n 3 (([c0, c1, c2, c3, c4, c5, c6, c7, c8, c9, c10].drop 4).take (Tryd.prog.cellsOf 3)) = some y4 := hf 4 _ rfl
  rw [show Tryd.prog.cellsOf 3 = 1 from by kernel_rfl] at g4
  obtain ⟨v4, e4, _, _⟩ := DataW.trod_int Tryd.underlying3 g4
  have g5 : DataW.trod enc Tryd.prog w 0 (fun _ => true) true n 3 (([c0, c1, c2, c3, c4, c5, c6, c7, c8, c9, c10].drop 5).take (Tryd.prog.cellsOf 3)) = some y5 := hf 5 _ rfl
  rw [show Tryd.prog.cellsOf 3 = 1 from by kernel_rfl] at g5
  obtain ⟨v5, e5, _, _⟩ := DataW.trod_int Tryd.underlying3 g5
  have g6 : DataW.trod enc Tryd.prog w 0 (fun _ => true) true n 3 (([c0, c1, c2, c3, c4, c5, c6, c7, c8, c9, c10].drop 6).take (Tryd.prog.cellsOf 3)) = some y6 := hf 6 _ rfl
  rw [show Tryd.prog.cellsOf 3 = 1 from by kernel_rfl] at g6
  obtain ⟨v6, e6, _, _⟩ := DataW.trod_int Tryd.underlying3 g6
  have g7 : DataW.trod enc Tryd.prog w 0 (fun _ => true) true n 28 (([c0, c1, c2, c3, c4, c5, c6, c7, c8, c9, c10].drop 7).take (Tryd.prog.cellsOf 28)) = some y7 := hf 7 _ rfl
  rw [show Tryd.prog.cellsOf 28 = 2 from by kernel_rfl] at g7
  obtain ⟨v7, v7b, e7⟩ := tr_28 g7
  have g8 : DataW.trod enc Tryd.prog w 0 (fun _ => true) true n 4 (([c0, c1, c2, c3, c4, c5, c6, c7, c8, c9, c10].drop 9).take (Tryd.prog.cellsOf 4)) = some y8 := hf 8 _ rfl
  rw [show Tryd.prog.cellsOf 4 = 1 from by kernel_rfl] at g8
  obtain ⟨v8, e8, _⟩ := DataW.trod_bool Tryd.underlying4 g8
  have g9 : DataW.trod enc Tryd.prog w 0 (fun _ => true) true n 3 (([c0, c1, c2, c3, c4, c5, c6, c7, c8, c9, c10].drop 10).take (Tryd.prog.cellsOf 3)) = some y9 := hf 9 _ rfl
  rw [show Tryd.prog.cellsOf 3 = 1 from by kernel_rfl] at g9
  obtain ⟨v9, e9, _, _⟩ := DataW.trod_int Tryd.underlying3 g9
  simp at e0 e1 e2 e3 e4 e5 e6 e7 e8 e9
  exact ⟨⟨v0, v1, v2, v3, v4, v5, v6, v7, v7b, v8, v9⟩, by rw [e0, e1, e2, e3, e4, e5, e6, e7.1, e7.2, e8, e9]; rfl, (Lit.wf_int_iff _ _).1 z0⟩

theorem tr_als {fuel : Nat} {cs : List Value} {x : DataW H × List MemPlace} (h : DataW.trod enc Tryd.prog w 0 (fun _ => true) true fuel 43 cs = some x) : ∃ (a : Option Addr) (cap : Nat) (D : List Al), cs = [.slice a (List.length D) cap] ∧ RdR w.heap.size 67 11 alC w a D ∧ (∀ x ∈ D, wf64 x.id) ∧ D.length + 1 ≤ Rows.uptoBulk x.1 := by
  rcases DataW.trod_slice Tryd.underlying43 h with ⟨rfl, rfl⟩ | ⟨a, len, cap, elems, rest, n, _, rfl, rfl, _, hlc, hcm, hel2, hE, hR, _⟩
  · exact ⟨none, 0, [], rfl, fun h => absurd rfl h, fun x hx => (by cases hx), by simp [Rows.uptoBulk]⟩
  · rw [show Tryd.prog.cellsOf 67 = 11 from by kernel_rfl] at hE
    have hb := bulk_all (elems.map (·.1))
    rw [List.length_map] at hb
    have hq : ∀ i, i < len → ∃ e : Al, wf64 e.id ∧ ∀ j v, (alC e)[j]? = some v → w.cell? ((a.add (i * 11)).add j) = some v := by
      intro i hi
      have hEi := hE i hi
      rw [List.getElem?_eq_getElem (by omega)] at hEi
      obtain ⟨es, he, ht2⟩ := Option.bind_eq_some_iff.1 hEi
      obtain ⟨_, hlen, hcell⟩ := World.cells?_some he
      obtain ⟨e, rfl, hw⟩ := tr_67 ht2
      exact ⟨e, hw, fun j v hj => by rw [hcell j (by have := (Array.getElem?_eq_some_iff.1 hj).1; exact this), Array.getElem?_toList]; exact hj⟩
    obtain ⟨D, hDl, hD⟩ := list_choice len _ hq
    refine ⟨a, cap, D, by rw [hDl], fun hne => ?_, fun x hx => ?_, by simp only [Rows.uptoBulk]; omega⟩
    · have h0 : 0 < D.length := List.length_pos_iff.2 hne
      obtain ⟨b, off, spot⟩ := a
      have hc00 := (hD 0 h0).2 0 _ rfl
      have hspot : spot = none := by simpa [Addr.add] using World.cell?_spot hc00
      subst hspot
      have hbl : b < w.heap.size := World.block_lt_of_cell? w _ (by simpa [Addr.add] using hc00)
      refine ⟨b, off, rfl, hbl, .inl hbl, fun i e he j u hu => ?_⟩
      obtain ⟨hi, rfl⟩ := List.getElem?_eq_some_iff.1 he
      have k0 := (hD i hi).2 j u hu
      rw [Addr.add_lit, Addr.add_lit] at k0
      exact k0
    · obtain ⟨i, hi, rfl⟩ := List.getElem_of_mem hx
      exact (hD i hi).1
theorem open_als {v : Value} {d : DataW H} {p : List MemPlace} (hv : ∃ a n c, v = .slice a n c) (h : DataW.Trod enc Tryd.prog w 0 (fun _ => true) true 43 v d p) : ∃ (a : Option Addr) (c : Nat) (L : List Al), v = .slice a L.length c ∧ RdR w.heap.size 67 11 alC w a L ∧ (∀ x ∈ L, wf64 x.id) ∧ L.length + 1 ≤ Rows.uptoBulk d := by
  obtain ⟨a, n, c, rfl⟩ := hv
  obtain ⟨fuel, hf⟩ := h
  obtain ⟨a', cap', D, e, hD, hn, hb⟩ := tr_als hf
  simp [Value.cells] at e
  obtain ⟨rfl, rfl, rfl⟩ := e
  exact ⟨a, c, D, rfl, hD, hn, hb⟩
end
end Go.Proofs.YtkienmncifonnaaDoor
