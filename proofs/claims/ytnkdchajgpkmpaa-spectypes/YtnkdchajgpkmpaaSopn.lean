/- What comes in: demands, groups, jobs, nodes, lists of them. -/
import Derived.Test.YtnkdchajgpkmpaaSjob
import Derived.Test.YtnkdchajgpkmpaaRows
import Derived.ChangeSlices
import Derived.OpenShut
namespace Go.Proofs.Ytnkdchajgpkmpaa
open Go.RowKit Go.ChangeShapes Go.WideShapes Go.ChangeAt

theorem list_choice {α : Type} (n : Nat) (P : Nat → α → Prop) (h : ∀ i, i < n → ∃ v, P i v) : ∃ vs : List α, vs.length = n ∧ ∀ i (hi : i < vs.length), P i vs[i] := by
  induction n with
  | zero => exact ⟨[], rfl, fun i hi => by simp at hi⟩
  | succ n ih =>
    obtain ⟨vs, h1, h2⟩ := ih (fun i hi => h i (by omega))
    obtain ⟨v, hv⟩ := h n (by omega)
    refine ⟨vs ++ [v], by simp [h1], fun i hi => ?_⟩
    by_cases hi2 : i < vs.length
    · rw [List.getElem_append_left hi2]; exact h2 i hi2
    · have : i = vs.length := by simp at hi; omega
      subst this
      simp [h1]
      exact hv
theorem len2 {α : Type} {l : List α} (h : l.length = 2) : ∃ a b, l = [a, b] := by
  match l, h with
  | [a, b], _ => exact ⟨a, b, rfl⟩
theorem len3 {α : Type} {l : List α} (h : l.length = 3) : ∃ a b c, l = [a, b, c] := by
  match l, h with
  | [a, b, c], _ => exact ⟨a, b, c, rfl⟩
theorem len4 {α : Type} {l : List α} (h : l.length = 4) : ∃ a b c d, l = [a, b, c, d] := by
  match l, h with
  | [a, b, c, d], _ => exact ⟨a, b, c, d, rfl⟩
theorem len7 {α : Type} {l : List α} (h : l.length = 7) : ∃ a b c d e f g, l = [a, b, c, d, e, f, g] := by
  match l, h with
  | [a, b, c, d, e, f, g], _ => exact ⟨a, b, c, d, e, f, g, rfl⟩
theorem len8 {α : Type} {l : List α} (h : l.length = 8) : ∃ a b c d e f g h, l = [a, b, c, d, e, f, g, h] := by
  match l, h with
  | [a, b, c, d, e, f, g, h], _ => exact ⟨a, b, c, d, e, f, g, h, rfl⟩
section
variable {H : Type} {enc : TypeId × Value → H} {w : World}
theorem tr_res {fuel : Nat} {cs : List Value} {x : DataW H × List MemPlace} (h : DataW.trod enc Try.prog w 0 (fun _ => true) true fuel 26 cs = some x) : ∃ a b : Int, cs = [.int .i64 a, .int .i64 b] := by
  obtain ⟨xs, n, rfl, rfl, hl, hlen, hf⟩ := DataW.trod_struct Try.underlying26 h
  rw [show Try.prog.cellsOf 26 = 2 from by kernel_rfl] at hl
  have hlen : xs.length = 2 := hlen
  obtain ⟨c0, c1, rfl⟩ := len2 hl
  have g0 : DataW.trod enc Try.prog w 0 (fun _ => true) true n 3 (([c0, c1].drop 0).take (Try.prog.cellsOf 3)) = xs[0]? := hf 0 _ rfl
  rw [show Try.prog.cellsOf 3 = 1 from by kernel_rfl, List.getElem?_eq_getElem (by omega)] at g0
  obtain ⟨v0, e0, _, _⟩ := DataW.trod_int (by kernel_rfl) g0
  have g1 : DataW.trod enc Try.prog w 0 (fun _ => true) true n 3 (([c0, c1].drop 1).take (Try.prog.cellsOf 3)) = xs[1]? := hf 1 _ rfl
  rw [show Try.prog.cellsOf 3 = 1 from by kernel_rfl, List.getElem?_eq_getElem (by omega)] at g1
  obtain ⟨v1, e1, _, _⟩ := DataW.trod_int (by kernel_rfl) g1
  simp at e0 e1
  exact ⟨v0, v1, by rw [e0, e1]⟩
theorem tr_group {fuel : Nat} {cs : List Value} {x : DataW H × List MemPlace} (h : DataW.trod enc Try.prog w 0 (fun _ => true) true fuel 43 cs = some x) : ∃ a b c : Int, cs = [.int .i64 a, .int .i64 b, .int .i64 c] := by
  obtain ⟨xs, n, rfl, rfl, hl, hlen, hf⟩ := DataW.trod_struct Try.underlying43 h
  rw [show Try.prog.cellsOf 43 = 3 from by kernel_rfl] at hl
  have hlen : xs.length = 2 := hlen
  obtain ⟨c0, c1, c2, rfl⟩ := len3 hl
  have g0 : DataW.trod enc Try.prog w 0 (fun _ => true) true n 3 (([c0, c1, c2].drop 0).take (Try.prog.cellsOf 3)) = xs[0]? := hf 0 _ rfl
  rw [show Try.prog.cellsOf 3 = 1 from by kernel_rfl, List.getElem?_eq_getElem (by omega)] at g0
  obtain ⟨v0, e0, _, _⟩ := DataW.trod_int (by kernel_rfl) g0
  have g1 : DataW.trod enc Try.prog w 0 (fun _ => true) true n 26 (([c0, c1, c2].drop 1).take (Try.prog.cellsOf 26)) = xs[1]? := hf 1 _ rfl
  rw [show Try.prog.cellsOf 26 = 2 from by kernel_rfl, List.getElem?_eq_getElem (by omega)] at g1
  obtain ⟨v1, u1, e1⟩ := tr_res g1
  simp at e0 e1
  exact ⟨v0, v1, u1, by rw [e0, e1.1, e1.2]⟩
theorem tr_groups {fuel : Nat} {cs : List Value} {x : DataW H × List MemPlace} (h : DataW.trod enc Try.prog w 0 (fun _ => true) true fuel 22 cs = some x) : ∃ (a : Option Addr) (cap : Nat) (L : List Gp), cs = [.slice a L.length cap] ∧ Grs w a L ∧ L.length ≤ maxLen := by
  rcases DataW.trod_slice Try.underlying22 h with ⟨rfl, _⟩ | ⟨a', len, cap, elems, rest, n, _, rfl, _, _, hlc, hcm, hel, hE, _, _⟩
  · exact ⟨none, 0, [], rfl, fun h => absurd rfl h, by simp⟩
  · rw [show Try.prog.cellsOf 43 = 3 from by kernel_rfl] at hE
    have hQ : ∀ i, i < len → ∃ v : Gp, ∀ j, j < 3 → w.cell? ((a'.add (i * 3)).add j) = ([.int .i64 v.n, .int .i64 v.c, .int .i64 v.m] : List Value)[j]? := by
      intro i hi
      have hEi := hE i hi
      rw [List.getElem?_eq_getElem (by omega)] at hEi
      obtain ⟨es, he, ht2⟩ := Option.bind_eq_some_iff.1 hEi
      obtain ⟨k, t, c, rfl⟩ := tr_group ht2
      obtain ⟨_, _, hcell⟩ := World.cells?_some he
      exact ⟨⟨k, t, c⟩, hcell⟩
    obtain ⟨vs, hvl, hvs⟩ := list_choice len _ hQ
    subst hvl
    refine ⟨some a', cap, vs, rfl, fun hne => ?_, Nat.le_trans hlc hcm⟩
    have h0 : 0 < vs.length := List.length_pos_iff.2 hne
    obtain ⟨b, off, spot⟩ := a'
    have hc00 := hvs 0 h0 0 (by omega)
    have hspot : spot = none := by simpa [Addr.add] using World.cell?_spot hc00
    subst hspot
    refine ⟨b, off, rfl, World.block_lt_of_cell? w _ (by simpa [Addr.add] using hc00), fun j hj => ?_⟩
    have e : gt vs j = vs[j] := by simp [gt, hj]
    rw [e]
    have k0 := hvs j hj 0 (by omega)
    have k1 := hvs j hj 1 (by omega)
    have k2 := hvs j hj 2 (by omega)
    rw [Addr.add_lit, Addr.add_lit] at k0 k1 k2
    exact ⟨k0, k1, k2⟩
theorem tr_job {fuel : Nat} {cs : List Value} {x : DataW H × List MemPlace} (h : DataW.trod enc Try.prog w 0 (fun _ => true) true fuel 24 cs = some x) : ∃ (id ty pr pa ve : Int) (st : Bool) (a : Option Addr) (cap : Nat) (L : List Gp), cs = [.int .i64 id, .int .i64 ty, .int .i64 pr, .int .i64 pa, .slice a L.length cap, .int .i64 ve, .bool st] ∧ Grs w a L ∧ L.length ≤ maxLen := by
  obtain ⟨xs, n, rfl, rfl, hl, hlen, hf⟩ := DataW.trod_struct Try.underlying24 h
  rw [show Try.prog.cellsOf 24 = 7 from by kernel_rfl] at hl
  have hlen : xs.length = 7 := hlen
  obtain ⟨c0, c1, c2, c3, c4, c5, c6, rfl⟩ := len7 hl
  have g0 : DataW.trod enc Try.prog w 0 (fun _ => true) true n 3 (([c0, c1, c2, c3, c4, c5, c6].drop 0).take (Try.prog.cellsOf 3)) = xs[0]? := hf 0 _ rfl
  rw [show Try.prog.cellsOf 3 = 1 from by kernel_rfl, List.getElem?_eq_getElem (by omega)] at g0
  obtain ⟨v0, e0, _, _⟩ := DataW.trod_int (by kernel_rfl) g0
  have g1 : DataW.trod enc Try.prog w 0 (fun _ => true) true n 3 (([c0, c1, c2, c3, c4, c5, c6].drop 1).take (Try.prog.cellsOf 3)) = xs[1]? := hf 1 _ rfl
  rw [show Try.prog.cellsOf 3 = 1 from by kernel_rfl, List.getElem?_eq_getElem (by omega)] at g1
  obtain ⟨v1, e1, _, _⟩ := DataW.trod_int (by kernel_rfl) g1
  have g2 : DataW.trod enc Try.prog w 0 (fun _ => true) true n 3 (([c0, c1, c2, c3, c4, c5, c6].drop 2).take (Try.prog.cellsOf 3)) = xs[2]? := hf 2 _ rfl
  rw [show Try.prog.cellsOf 3 = 1 from by kernel_rfl, List.getElem?_eq_getElem (by omega)] at g2
  obtain ⟨v2, e2, _, _⟩ := DataW.trod_int (by kernel_rfl) g2
  have g3 : DataW.trod enc Try.prog w 0 (fun _ => true) true n 3 (([c0, c1, c2, c3, c4, c5, c6].drop 3).take (Try.prog.cellsOf 3)) = xs[3]? := hf 3 _ rfl
  rw [show Try.prog.cellsOf 3 = 1 from by kernel_rfl, List.getElem?_eq_getElem (by omega)] at g3
  obtain ⟨v3, e3, _, _⟩ := DataW.trod_int (by kernel_rfl) g3
  have g4 : DataW.trod enc Try.prog w 0 (fun _ => true) true n 22 (([c0, c1, c2, c3, c4, c5, c6].drop 4).take (Try.prog.cellsOf 22)) = xs[4]? := hf 4 _ rfl
  rw [show Try.prog.cellsOf 22 = 1 from by kernel_rfl, List.getElem?_eq_getElem (by omega)] at g4
  obtain ⟨a, cap, L, e4, hL, hm⟩ := tr_groups g4
  have g5 : DataW.trod enc Try.prog w 0 (fun _ => true) true n 3 (([c0, c1, c2, c3, c4, c5, c6].drop 5).take (Try.prog.cellsOf 3)) = xs[5]? := hf 5 _ rfl
  rw [show Try.prog.cellsOf 3 = 1 from by kernel_rfl, List.getElem?_eq_getElem (by omega)] at g5
  obtain ⟨v5, e5, _, _⟩ := DataW.trod_int (by kernel_rfl) g5
  have g6 : DataW.trod enc Try.prog w 0 (fun _ => true) true n 4 (([c0, c1, c2, c3, c4, c5, c6].drop 6).take (Try.prog.cellsOf 4)) = xs[6]? := hf 6 _ rfl
  rw [show Try.prog.cellsOf 4 = 1 from by kernel_rfl, List.getElem?_eq_getElem (by omega)] at g6
  obtain ⟨v6, e6, _⟩ := DataW.trod_bool (by kernel_rfl) g6
  simp at e0 e1 e2 e3 e4 e5 e6
  exact ⟨v0, v1, v2, v3, v5, v6, a, cap, L, by rw [e0, e1, e2, e3, e4, e5, e6], hL, hm⟩
theorem tr_node {fuel : Nat} {cs : List Value} {x : DataW H × List MemPlace} (h : DataW.trod enc Try.prog w 0 (fun _ => true) true fuel 28 cs = some x) : ∃ (id c m bo ep se : Int) (up dr : Bool), cs = [.int .i64 id, .int .i64 c, .int .i64 m, .bool up, .bool dr, .int .i64 bo, .int .i64 ep, .int .i64 se] := by
  obtain ⟨xs, n, rfl, rfl, hl, hlen, hf⟩ := DataW.trod_struct Try.underlying28 h
  rw [show Try.prog.cellsOf 28 = 8 from by kernel_rfl] at hl
  have hlen : xs.length = 7 := hlen
  obtain ⟨c0, c1, c2, c3, c4, c5, c6, c7, rfl⟩ := len8 hl
  have g0 : DataW.trod enc Try.prog w 0 (fun _ => true) true n 3 (([c0, c1, c2, c3, c4, c5, c6, c7].drop 0).take (Try.prog.cellsOf 3)) = xs[0]? := hf 0 _ rfl
  rw [show Try.prog.cellsOf 3 = 1 from by kernel_rfl, List.getElem?_eq_getElem (by omega)] at g0
  obtain ⟨v0, e0, _, _⟩ := DataW.trod_int (by kernel_rfl) g0
  have g1 : DataW.trod enc Try.prog w 0 (fun _ => true) true n 26 (([c0, c1, c2, c3, c4, c5, c6, c7].drop 1).take (Try.prog.cellsOf 26)) = xs[1]? := hf 1 _ rfl
  rw [show Try.prog.cellsOf 26 = 2 from by kernel_rfl, List.getElem?_eq_getElem (by omega)] at g1
  obtain ⟨v1, u1, e1⟩ := tr_res g1
  have g2 : DataW.trod enc Try.prog w 0 (fun _ => true) true n 4 (([c0, c1, c2, c3, c4, c5, c6, c7].drop 3).take (Try.prog.cellsOf 4)) = xs[2]? := hf 2 _ rfl
  rw [show Try.prog.cellsOf 4 = 1 from by kernel_rfl, List.getElem?_eq_getElem (by omega)] at g2
  obtain ⟨v2, e2, _⟩ := DataW.trod_bool (by kernel_rfl) g2
  have g3 : DataW.trod enc Try.prog w 0 (fun _ => true) true n 4 (([c0, c1, c2, c3, c4, c5, c6, c7].drop 4).take (Try.prog.cellsOf 4)) = xs[3]? := hf 3 _ rfl
  rw [show Try.prog.cellsOf 4 = 1 from by kernel_rfl, List.getElem?_eq_getElem (by omega)] at g3
  obtain ⟨v3, e3, _⟩ := DataW.trod_bool (by kernel_rfl) g3
  have g4 : DataW.trod enc Try.prog w 0 (fun _ => true) true n 3 (([c0, c1, c2, c3, c4, c5, c6, c7].drop 5).take (Try.prog.cellsOf 3)) = xs[4]? := hf 4 _ rfl
  rw [show Try.prog.cellsOf 3 = 1 from by kernel_rfl, List.getElem?_eq_getElem (by omega)] at g4
  obtain ⟨v4, e4, _, _⟩ := DataW.trod_int (by kernel_rfl) g4
  have g5 : DataW.trod enc Try.prog w 0 (fun _ => true) true n 3 (([c0, c1, c2, c3, c4, c5, c6, c7].drop 6).take (Try.prog.cellsOf 3)) = xs[5]? := hf 5 _ rfl
  rw [show Try.prog.cellsOf 3 = 1 from by kernel_rfl, List.getElem?_eq_getElem (by omega)] at g5
  obtain ⟨v5, e5, _, _⟩ := DataW.trod_int (by kernel_rfl) g5
  have g6 : DataW.trod enc Try.prog w 0 (fun _ => true) true n 3 (([c0, c1, c2, c3, c4, c5, c6, c7].drop 7).take (Try.prog.cellsOf 3)) = xs[6]? := hf 6 _ rfl
  rw [show Try.prog.cellsOf 3 = 1 from by kernel_rfl, List.getElem?_eq_getElem (by omega)] at g6
  obtain ⟨v6, e6, _, _⟩ := DataW.trod_int (by kernel_rfl) g6
  simp at e0 e1 e2 e3 e4 e5 e6
  exact ⟨v0, v1, u1, v4, v5, v6, v2, v3, by rw [e0, e1.1, e1.2, e2, e3, e4, e5, e6]⟩
theorem tr_two {fuel : Nat} {cs : List Value} {x : DataW H × List MemPlace} (h : DataW.trod enc Try.prog w 0 (fun _ => true) true fuel 38 cs = some x) : ∃ a b c d : Int, cs = [.int .i64 a, .int .i64 b, .int .i64 c, .int .i64 d] := by
  obtain ⟨xs, n, rfl, rfl, hl, hlen, hf⟩ := DataW.trod_struct Try.underlying38 h
  rw [show Try.prog.cellsOf 38 = 4 from by kernel_rfl] at hl
  have hlen : xs.length = 2 := hlen
  obtain ⟨c0, c1, c2, c3, rfl⟩ := len4 hl
  have g0 : DataW.trod enc Try.prog w 0 (fun _ => true) true n 26 (([c0, c1, c2, c3].drop 0).take (Try.prog.cellsOf 26)) = xs[0]? := hf 0 _ rfl
  rw [show Try.prog.cellsOf 26 = 2 from by kernel_rfl, List.getElem?_eq_getElem (by omega)] at g0
  obtain ⟨v0, u0, e0⟩ := tr_res g0
  have g1 : DataW.trod enc Try.prog w 0 (fun _ => true) true n 26 (([c0, c1, c2, c3].drop 2).take (Try.prog.cellsOf 26)) = xs[1]? := hf 1 _ rfl
  rw [show Try.prog.cellsOf 26 = 2 from by kernel_rfl, List.getElem?_eq_getElem (by omega)] at g1
  obtain ⟨v1, u1, e1⟩ := tr_res g1
  simp at e0 e1
  exact ⟨v0, u0, v1, u1, by rw [e0.1, e0.2, e1.1, e1.2]⟩
theorem agg_of {v : Value} {cs : Array Value} {l : List Value} (hv : v = .agg cs) (h : cs.toList = l) : v = .agg l.toArray := by
  subst h; simpa using hv
theorem open_job {base : Nat} {v : Value} {d : DataW H} {p : List MemPlace} (hv : Value.okWide Try.prog w .any base 24 v) (h : DataW.Trod enc Try.prog w 0 (fun _ => true) true 24 v d p) : ∃ (id ty pr pa ve : Int) (st : Bool) (a : Option Addr) (cap : Nat) (L : List Gp), v = .agg #[.int .i64 id, .int .i64 ty, .int .i64 pr, .int .i64 pa, .slice a L.length cap, .int .i64 ve, .bool st] ∧ Grs w a L ∧ L.length ≤ maxLen := by
  obtain ⟨cs, rfl, _⟩ := okWide_struct Try.underlying24 hv
  obtain ⟨m, hm⟩ := h
  obtain ⟨id, ty, pr, pa, ve, st, a, cap, L, e, hg, hl⟩ := tr_job hm
  exact ⟨id, ty, pr, pa, ve, st, a, cap, L, agg_of rfl e, hg, hl⟩
theorem open_node {base : Nat} {v : Value} {d : DataW H} {p : List MemPlace} (hv : Value.okWide Try.prog w .any base 28 v) (h : DataW.Trod enc Try.prog w 0 (fun _ => true) true 28 v d p) : ∃ (id c m bo ep se : Int) (up dr : Bool), v = .agg #[.int .i64 id, .int .i64 c, .int .i64 m, .bool up, .bool dr, .int .i64 bo, .int .i64 ep, .int .i64 se] := by
  obtain ⟨cs, rfl, _⟩ := okWide_struct Try.underlying28 hv
  obtain ⟨m, hm⟩ := h
  obtain ⟨id, c, m, bo, ep, se, up, dr, e⟩ := tr_node hm
  exact ⟨id, c, m, bo, ep, se, up, dr, agg_of rfl e⟩
theorem open_res {base : Nat} {v : Value} {d : DataW H} {p : List MemPlace} (hv : Value.okWide Try.prog w .any base 26 v) (h : DataW.Trod enc Try.prog w 0 (fun _ => true) true 26 v d p) : ∃ (a b : Int), v = .agg #[.int .i64 a, .int .i64 b] := by
  obtain ⟨cs, rfl, _⟩ := okWide_struct Try.underlying26 hv
  obtain ⟨m, hm⟩ := h
  obtain ⟨a, b, e⟩ := tr_res hm
  exact ⟨a, b, agg_of rfl e⟩
theorem open_two {base : Nat} {v : Value} {d : DataW H} {p : List MemPlace} (hv : Value.okWide Try.prog w .any base 38 v) (h : DataW.Trod enc Try.prog w 0 (fun _ => true) true 38 v d p) : ∃ (a b c d : Int), v = .agg #[.int .i64 a, .int .i64 b, .int .i64 c, .int .i64 d] := by
  obtain ⟨cs, rfl, _⟩ := okWide_struct Try.underlying38 hv
  obtain ⟨m, hm⟩ := h
  obtain ⟨a, b, c, d, e⟩ := tr_two hm
  exact ⟨a, b, c, d, agg_of rfl e⟩
end

/- a list of demands -/
structure Rs where
  c : Int
  m : Int
instance : Inhabited Rs := ⟨⟨0, 0⟩⟩
def rt (L : List Rs) (i : Nat) : Rs := L.getD i default
def Rss (w : World) (a : Option Addr) (L : List Rs) : Prop := L ≠ [] → ∃ b off, a = some ⟨b, off, none⟩ ∧ b < w.heap.size ∧ ∀ j, j < L.length → w.cell? ⟨b, off + j * 2, none⟩ = some (.int .i64 (rt L j).c) ∧ w.cell? ⟨b, off + j * 2 + 1, none⟩ = some (.int .i64 (rt L j).m)
theorem Rss.at {w w' : World} {a : Option Addr} {L : List Rs} (h : Rss w a L) (hb : Below w.heap.size w w') (k : Nat) (hk : k < L.length) : ∃ b off, a = some ⟨b, off, none⟩ ∧ b < w.heap.size ∧ w'.cell? ⟨b, off + k * 2, none⟩ = some (.int .i64 (rt L k).c) ∧ w'.cell? ⟨b, off + k * 2 + 1, none⟩ = some (.int .i64 (rt L k).m) := by
  obtain ⟨b, off, h1, h2, h3⟩ := h (fun e => by subst e; simp at hk)
  obtain ⟨c0, c1⟩ := h3 k hk
  exact ⟨b, off, h1, h2, (hb.cell (p := ⟨b, _, none⟩) h2).trans c0, (hb.cell (p := ⟨b, _, none⟩) h2).trans c1⟩
theorem open_list {H : Type} {enc : TypeId × Value → H} {w : World} {base : Nat} {v : Value} {d : DataW H} {p : List MemPlace} (hv : Value.okWide Try.prog w .any base 40 v) (h : DataW.Trod enc Try.prog w 0 (fun _ => true) true 40 v d p) : ∃ (a : Option Addr) (cap : Nat) (L : List Rs), v = .slice a L.length cap ∧ Rss w a L ∧ L.length ≤ maxLen := by
  obtain ⟨a1, len1, cap1, rfl⟩ := okWide_slice Try.underlying40 hv
  obtain ⟨m, hm⟩ := h
  rcases DataW.trod_slice Try.underlying40 hm with ⟨e, _⟩ | ⟨a', len, cap, elems, rest, n, _, e, _, _, hlc, hcm, hel, hE, _, _⟩
  · simp [Value.cells] at e
    obtain ⟨rfl, rfl, rfl⟩ := e
    exact ⟨none, 0, [], rfl, fun h => absurd rfl h, by simp⟩
  · simp [Value.cells] at e
    obtain ⟨rfl, rfl, rfl⟩ := e
    rw [show Try.prog.cellsOf 26 = 2 from by kernel_rfl] at hE
    have hQ : ∀ i, i < len1 → ∃ v : Rs, ∀ j, j < 2 → w.cell? ((a'.add (i * 2)).add j) = ([.int .i64 v.c, .int .i64 v.m] : List Value)[j]? := by
      intro i hi
      have hEi := hE i hi
      rw [List.getElem?_eq_getElem (by omega)] at hEi
      obtain ⟨es, he, ht2⟩ := Option.bind_eq_some_iff.1 hEi
      obtain ⟨k, t, rfl⟩ := tr_res ht2
      obtain ⟨_, _, hcell⟩ := World.cells?_some he
      exact ⟨⟨k, t⟩, hcell⟩
    obtain ⟨vs, hvl, hvs⟩ := list_choice len1 _ hQ
    subst hvl
    refine ⟨some a', cap1, vs, rfl, fun hne => ?_, Nat.le_trans hlc hcm⟩
    have h0 : 0 < vs.length := List.length_pos_iff.2 hne
    obtain ⟨b, off, spot⟩ := a'
    have hc00 := hvs 0 h0 0 (by omega)
    have hspot : spot = none := by simpa [Addr.add] using World.cell?_spot hc00
    subst hspot
    refine ⟨b, off, rfl, World.block_lt_of_cell? w _ (by simpa [Addr.add] using hc00), fun j hj => ?_⟩
    have e : rt vs j = vs[j] := by simp [rt, hj]
    rw [e]
    have k0 := hvs j hj 0 (by omega)
    have k1 := hvs j hj 1 (by omega)
    rw [Addr.add_lit, Addr.add_lit] at k0 k1
    exact ⟨k0, k1⟩
end Go.Proofs.Ytnkdchajgpkmpaa
