/- slices.DeleteFunc at the items. -/
import Derived.Test.YtndomlbjdppckaaBhe
namespace Go.Proofs.Ytndomlbjdppckaa
open Go.RowKit
variable {D : Nat}

/- w' is w with new blocks and with writes to block r alone -/
structure RSo (w w' : World) (r : Option Nat) : Prop where
  os : w'.os = w.os
  tape : w'.tape = w.tape
  output : w'.output = w.output
  size : w.heap.size ≤ w'.heap.size
  block : ∀ (k : Nat), k < w.heap.size → some k ≠ r → w'.heap[k]? = w.heap[k]?
theorem RSo.refl (w : World) (r : Option Nat) : RSo w w r := ⟨rfl, rfl, rfl, Nat.le_refl _, fun _ _ _ => rfl⟩
theorem RSo.trans {a b c : World} {r : Option Nat} (h : RSo a b r) (k : RSo b c r) : RSo a c r :=
  ⟨k.os.trans h.os, k.tape.trans h.tape, k.output.trans h.output, Nat.le_trans h.size k.size, fun i hi hg => (k.block i (Nat.lt_of_lt_of_le hi h.size) hg).trans (h.block i hi hg)⟩
theorem RSo.of_below {a b : World} {r : Option Nat} (h : Below a.heap.size a b) : RSo a b r := ⟨h.os, h.tape, h.output, h.size, fun k hk _ => h.block k hk⟩
theorem RSo.set {a b : World} {g : Nat} (h : RSo a b (some g)) (j : Nat) (u : Value) : RSo a (b.setCell ⟨g, j, none⟩ u) (some g) :=
  h.trans ⟨rfl, rfl, rfl, by simp, fun k _ hk => Below.heap_setCell b ⟨g, j, none⟩ u k (fun e => hk (by rw [e]))⟩

/- a row of pointers, cell by cell -/
structure RowV (w : World) (g cap : Nat) (C : List Value) : Prop where
  lec : C.length ≤ cap
  capm : cap ≤ maxLen
  at_ : ∃ cur, w.heap[g]? = some (.cells cur 55 (0, 0)) ∧ cur.size = cap ∧ ∀ i, i < C.length → cur[i]? = C[i]?
theorem RowV.lt {w : World} {g cap : Nat} {C : List Value} (h : RowV w g cap C) : g < w.heap.size := by
  obtain ⟨cur, hc, _⟩ := h.at_
  exact heap_lt hc
theorem RowV.kept {w w' : World} {g cap : Nat} {C : List Value} (h : RowV w g cap C) (e : w'.heap[g]? = w.heap[g]?) : RowV w' g cap C := by
  obtain ⟨cur, hc, h2⟩ := h.at_
  exact ⟨h.lec, h.capm, cur, e.trans hc, h2⟩
theorem RowV.cell {w : World} {g cap : Nat} {C : List Value} (h : RowV w g cap C) (i : Nat) (u : Value) (hu : C[i]? = some u) : w.cell? ⟨g, i, none⟩ = some u := by
  obtain ⟨cur, hc, _, h2⟩ := h.at_
  rw [cell_of_row w g _ cur 55 (0, 0) hc]
  exact (h2 i (List.getElem?_eq_some_iff.1 hu).1).trans hu
theorem RowV.some {w : World} {g cap : Nat} {C : List Value} (h : RowV w g cap C) (i : Nat) (hi : i < C.length) : ∃ u, w.cell? ⟨g, i, none⟩ = Option.some u := ⟨C[i], h.cell i _ (List.getElem?_eq_getElem hi)⟩
theorem RowV.frozen {w : World} {g cap : Nat} {C : List Value} (h : RowV w g cap C) (j : Nat) : w.frozen? ⟨g, j, none⟩ = false := by
  obtain ⟨cur, hc, _, h2⟩ := h.at_
  simp [World.frozen?, hc]
theorem RowV.set {w : World} {g cap : Nat} {C : List Value} (h : RowV w g cap C) (i : Nat) (hi : i < C.length) (b : Nat) : RowV (w.setCell ⟨g, i, none⟩ (.pointer (Option.some ⟨b, 0, none⟩))) g cap (C.set i (ptr b)) := by
  obtain ⟨cur, hc, hs, h2⟩ := h.at_
  have hl := h.lec
  refine ⟨by simpa using h.lec, h.capm, _, heap_setCell_same w g i cur 55 _ hc, by simpa using hs, fun j hj => ?_⟩
  rw [List.length_set] at hj
  by_cases e : i = j
  · subst e
    rw [List.getElem?_set_self hj, Array.getElem?_setIfInBounds_self_of_lt (by omega)]; rfl
  · rw [List.getElem?_set_ne e, Array.getElem?_setIfInBounds_ne e]; exact h2 j hj
theorem RowV.own {w : World} {g cap : Nat} {C : List Value} (h : RowV w g cap C) : w.ownsRow 0 55 1 (.slice (Option.some ⟨g, 0, none⟩) C.length cap) C.length C := by
  obtain ⟨cur, hc, hs, h2⟩ := h.at_
  have hl := h.lec
  refine ⟨by simp, .inr ⟨g, cap, cur, rfl, Nat.zero_le _, hc, h.lec, h.capm, by omega, ?_⟩⟩
  apply List.ext_getElem?
  intro j
  rw [Nat.mul_one, List.getElem?_take]
  by_cases hj : j < C.length
  · rw [if_pos hj, Array.getElem?_toList]; exact h2 j hj
  · rw [if_neg hj, List.getElem?_eq_none (by omega)]
theorem rowV_of {w : World} {v : Value} {n : Nat} {xs : List Value} (h : w.ownsRow 0 55 1 v n xs) (hn : 0 < n) : ∃ g cap, v = .slice (some ⟨g, 0, none⟩) n cap ∧ RowV w g cap xs := by
  have hl := h.1
  rcases h.2 with ⟨rfl, e⟩ | ⟨g, cap, cur, rfl, _, h4, h1, h2, h5, h6⟩
  · omega
  · refine ⟨g, cap, rfl, by omega, h2, cur, h4, by omega, fun i hi => ?_⟩
    rw [← h6, List.getElem?_take, if_pos (by omega), Array.getElem?_toList]

/- behind j items, i of which are kept -/
structure KI (P : Nat × Itm → Bool) (L : List (Nat × Itm)) (j i : Nat) (C : List Value) : Prop where
  len : C.length = L.length
  lt : i < j
  le : j ≤ L.length
  low : C.take i = ptrs ((L.take j).filter (fun x => !P x))
  high : ∀ x, j ≤ x → C[x]? = (ptrs L)[x]?
theorem take_succ_get {L : List (Nat × Itm)} {j : Nat} {x : Nat × Itm} (h : L[j]? = some x) : L.take (j + 1) = L.take j ++ [x] := by
  rw [List.take_add_one, h]; rfl
theorem KI.start {P : Nat × Itm → Bool} {L : List (Nat × Itm)} {K : Nat} (hK : K < L.length) (hF : FI P L K) : KI P L (K + 1) K (ptrs L) := by
  have hx := List.getElem?_eq_getElem hK
  refine ⟨ptrs_length L, by omega, hK, ?_, fun _ _ => rfl⟩
  rw [take_succ_get hx, List.filter_append]
  have h1 : ([L[K]]).filter (fun x => !P x) = [] := by simp [hF.hit _ hx]
  have h2 : (L.take K).filter (fun x => !P x) = L.take K := List.filter_eq_self.2 fun a ha => by
    obtain ⟨i, hi⟩ := List.mem_iff_getElem?.1 ha
    have hil := (List.getElem?_eq_some_iff.1 hi).1
    have hiK : i < K := by simp at hil; omega
    rw [List.getElem?_take, if_pos hiK] at hi
    rw [hF.miss i a hiK hi]; rfl
  rw [h1, h2, List.append_nil]
  unfold ptrs
  rw [List.map_take]
theorem KI.keep {P : Nat × Itm → Bool} {L : List (Nat × Itm)} {C : List Value} {j i : Nat} {x : Nat × Itm} (h : KI P L j i C) (hx : L[j]? = some x) (hk : P x = false) : KI P L (j + 1) (i + 1) (C.set i (ptr x.1)) := by
  have hlt := h.lt
  have hl := h.len
  have hj := (List.getElem?_eq_some_iff.1 hx).1
  refine ⟨by simpa using h.len, by omega, hj, ?_, fun y hy => ?_⟩
  · rw [take_succ_get hx, List.filter_append]
    have h1 : ([x]).filter (fun x => !P x) = [x] := by simp [hk]
    rw [h1]
    have h2 : ptrs (List.filter (fun x => !P x) (List.take j L) ++ [x]) = ptrs (List.filter (fun x => !P x) (List.take j L)) ++ [ptr x.1] := by simp [ptrs]
    rw [h2, ← h.low, List.take_add_one, List.getElem?_set_self (by omega), List.take_set_of_le (Nat.le_refl _)]; rfl
  · rw [List.getElem?_set_ne (by omega)]
    exact h.high y (by omega)
theorem KI.drop {P : Nat × Itm → Bool} {L : List (Nat × Itm)} {C : List Value} {j i : Nat} {x : Nat × Itm} (h : KI P L j i C) (hx : L[j]? = some x) (hk : P x = true) : KI P L (j + 1) i C := by
  have hj := (List.getElem?_eq_some_iff.1 hx).1
  refine ⟨h.len, by have := h.lt; omega, hj, ?_, fun y hy => h.high y (by omega)⟩
  rw [take_succ_get hx, List.filter_append, h.low]
  have h1 : ([x]).filter (fun x => !P x) = [] := by simp [hk]
  rw [h1, List.append_nil]
theorem KI.done {P : Nat × Itm → Bool} {L : List (Nat × Itm)} {C : List Value} {i : Nat} (h : KI P L L.length i C) : C.take i = ptrs (L.filter (fun x => !P x)) ∧ i = (L.filter (fun x => !P x)).length := by
  have h1 := h.low
  rw [List.take_length] at h1
  refine ⟨h1, ?_⟩
  have h2 := congrArg List.length h1
  rw [ptrs_length, List.length_take] at h2
  have := h.lt
  have := h.len
  omega

theorem run_clear1 (w : World) (g cap i m : Nat) (C : List Value) (hR : RowV w g cap C) (hm : i + m = C.length) (hp : 0 < m) : ∃ w', (∀ (ty : TypeId) (c : Nat), (Builtin.clear_ #[56] ty #[.slice (some ⟨g, i, none⟩) m c]).run Try.prog w = .ok (.tuple #[]) w') ∧ RowV w' g cap (C.take i) ∧ RSo w w' (some g) := by
  obtain ⟨cur, hc, hs, h2⟩ := hR.at_
  have hl := hR.lec
  obtain ⟨zs, hzs⟩ : ∃ zs, zs = (Builtin.zeroCells (#[.pointer none] : Array Value) m).toList := ⟨_, rfl⟩
  have hzl : zs.length = m := by rw [hzs]; simp [Builtin.zeroCells]
  have hone : ∀ u ∈ zs, u.oneCell' = true := by
    intro u hu
    rw [hzs] at hu
    simp only [Builtin.zeroCells, Array.toList_map, List.mem_map] at hu
    obtain ⟨y, _, rfl⟩ := hu
    have h3 : y % 1 = 0 := Nat.mod_one y
    show ((#[.pointer none] : Array Value)[y % 1]!).oneCell' = true
    rw [h3]; rfl
  have hst := run_storeCells_at Try.prog g i 55 zs 0 cur w hc (by rw [hzl]; omega) hone
  simp only [Nat.add_zero] at hst
  refine ⟨w.setRow g (cur.toList.take i ++ zs ++ cur.toList.drop (i + zs.length)).toArray, ?_, ⟨by simp; omega, hR.capm, _, setRow_heap w g cur _ 55 _ hc, ?_, fun x hx => ?_⟩, ⟨rfl, rfl, rfl, by simp, fun k _ hk => setRow_other w g k _ (fun e => hk (by rw [e]))⟩⟩
  · intro ty c
    obtain ⟨m', rfl⟩ : ∃ m', m = m' + 1 := ⟨m - 1, by omega⟩
    have hv : ∀ w, (zeroValue 55).run Try.prog w = .ok (.pointer none) w := Try.zeroValue55
    simp [Builtin.clear_, run_underlying Try.underlying56, hv, Value.cells, ← hzs, hst]
  · simp only [List.size_toArray, List.length_append, List.length_take, List.length_drop, Array.length_toList, hzl]
    omega
  · have hx' : x < i ∧ x < C.length := by simp at hx; omega
    rw [List.getElem?_take, if_pos hx'.1, ← h2 x hx'.2, List.getElem?_toArray, List.append_assoc, List.getElem?_append_left (by simp; omega), List.getElem?_take, if_pos hx'.1, Array.getElem?_toList]
end Go.Proofs.Ytndomlbjdppckaa
