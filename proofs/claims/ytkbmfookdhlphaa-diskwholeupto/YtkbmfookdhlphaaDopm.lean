/- A script that comes in, and a step that comes in: also how long the names are at most. -/
import Derived.Test.YtkbmfookdhlphaaGpy
namespace Go.Proofs.Ytkbmfookdhlphaa
open Go.RowKit Go.ChangeShapes Go.WideShapes Go.ChangeAt

def NmL (L : List Stp1) : Prop := ∀ j, j < L.length → (ot L j).nm.size ≤ maxLen ∧ (ot L j).to.size ≤ maxLen
section
variable {H : Type} {enc : TypeId × Value → H} {w : World}
theorem tr_step2 {fuel : Nat} {cs : List Value} {x : DataW H × List MemPlace} (h : DataW.trod enc Try.prog w 0 (fun _ => true) true fuel 31 cs = some x) (hw : ∀ n ∈ x.1.weights Try.prog 31, n ≤ reachBytes) : ∃ v : Stp1, cs = [.int .i64 v.k, .string v.nm, .string v.to, .slice v.a v.d.length v.cap, .int .i64 v.n] ∧ Bs w v.a v.d ∧ (v.a = none → v.d = []) ∧ v.nm.size ≤ maxLen ∧ v.to.size ≤ maxLen := by
  obtain ⟨xs, n, rfl, rfl, hl, hlen, hf⟩ := DataW.trod_struct Try.underlying31 h
  rw [show Try.prog.cellsOf 31 = 5 from by kernel_rfl] at hl
  have hlen : xs.length = 5 := hlen
  obtain ⟨c0, c1, c2, c3, c4, rfl⟩ := len5 hl
  obtain ⟨x0, x1, x2, x3, x4, rfl⟩ := len5 hlen
  have g0 : DataW.trod enc Try.prog w 0 (fun _ => true) true n 3 (([c0, c1, c2, c3, c4].drop 0).take (Try.prog.cellsOf 3)) = some x0 := hf 0 _ rfl
  rw [show Try.prog.cellsOf 3 = 1 from by kernel_rfl] at g0
  obtain ⟨v0, e0, _, _⟩ := DataW.trod_int (by kernel_rfl) g0
  have g1 : DataW.trod enc Try.prog w 0 (fun _ => true) true n 9 (([c0, c1, c2, c3, c4].drop 1).take (Try.prog.cellsOf 9)) = some x1 := hf 1 _ rfl
  rw [show Try.prog.cellsOf 9 = 1 from by kernel_rfl] at g1
  obtain ⟨v1, e1, _, z1⟩ := DataW.trod_string (by kernel_rfl) g1
  have g2 : DataW.trod enc Try.prog w 0 (fun _ => true) true n 9 (([c0, c1, c2, c3, c4].drop 2).take (Try.prog.cellsOf 9)) = some x2 := hf 2 _ rfl
  rw [show Try.prog.cellsOf 9 = 1 from by kernel_rfl] at g2
  obtain ⟨v2, e2, _, z2⟩ := DataW.trod_string (by kernel_rfl) g2
  have g3 : DataW.trod enc Try.prog w 0 (fun _ => true) true n 29 (([c0, c1, c2, c3, c4].drop 3).take (Try.prog.cellsOf 29)) = some x3 := hf 3 _ rfl
  rw [show Try.prog.cellsOf 29 = 1 from by kernel_rfl] at g3
  obtain ⟨a, cap, l, e3, hB, hnn⟩ := tr_bytes g3 (fun m hm => hw m (by
    simp only [DataW.weights, Try.underlying31]
    exact DataW.weights_mem_each (j := 3) rfl rfl m hm))
  have g4 : DataW.trod enc Try.prog w 0 (fun _ => true) true n 3 (([c0, c1, c2, c3, c4].drop 4).take (Try.prog.cellsOf 3)) = some x4 := hf 4 _ rfl
  rw [show Try.prog.cellsOf 3 = 1 from by kernel_rfl] at g4
  obtain ⟨v4, e4, _, _⟩ := DataW.trod_int (by kernel_rfl) g4
  simp at e0 e1 e2 e3 e4
  exact ⟨⟨v0, v1, v2, a, cap, l, v4⟩, by rw [e0, e1, e2, e3, e4], hB, hnn, z1, z2⟩
theorem open_steps2 {a : Option Addr} {len cap : Nat} {d : DataW H} {p : List MemPlace} (h : DataW.Trod enc Try.prog w 0 (fun _ => true) true 22 (.slice a len cap) d p) (hw : ∀ n ∈ d.weights Try.prog 22, n ≤ reachBytes) :
    ∃ L : List Stp1, len = L.length ∧ Stps w a L ∧ NmL L ∧ L.length ≤ 1954687338268 := by
  obtain ⟨fuel, hf⟩ := h
  rcases DataW.trod_slice Try.underlying22 hf with ⟨e, _⟩ | ⟨a', len', cap', elems, rest, n, _, e, hx, _, hlc, hcm, hel, hE, _, _⟩
  · simp [Value.cells] at e
    obtain ⟨rfl, rfl, rfl⟩ := e
    exact ⟨[], rfl, fun h => absurd rfl h, fun j hj => absurd hj (Nat.not_lt_zero _), by simp⟩
  · simp [Value.cells] at e
    obtain ⟨rfl, rfl, rfl⟩ := e
    have e1 : d = (Go.DataW.slice (elems.map (·.1)) (rest.map (·.1))) := congrArg Prod.fst hx
    subst e1
    have hw1 := hw ((elems.length + rest.length) * 72) (by
      simp only [DataW.weights, Try.underlying22, show Try.prog.bytesOf 31 = 72 from by kernel_rfl]
      simp)
    have hw2 : ∀ x ∈ elems, ∀ n ∈ x.1.weights Try.prog 31, n ≤ reachBytes := fun x hx n hn => hw n (by
      simp only [DataW.weights, Try.underlying22, List.mem_cons, List.mem_append]
      exact .inr (.inl (weights_mem_all (List.mem_map.2 ⟨x, hx, rfl⟩) n hn)))
    rw [show Try.prog.cellsOf 31 = 5 from by kernel_rfl] at hE
    have hQ : ∀ i, i < len → ∃ v : Stp1, (∀ j, j < 5 → w.cell? ((a'.add (i * 5)).add j) = ([.int .i64 v.k, .string v.nm, .string v.to, .slice v.a v.d.length v.cap, .int .i64 v.n] : List Value)[j]?) ∧ Bs w v.a v.d ∧ (v.a = none → v.d = []) ∧ v.nm.size ≤ maxLen ∧ v.to.size ≤ maxLen := by
      intro i hi
      have hEi := hE i hi
      rw [List.getElem?_eq_getElem (by omega)] at hEi
      obtain ⟨es, he, ht2⟩ := Option.bind_eq_some_iff.1 hEi
      obtain ⟨v, rfl, hB, hnn, z1, z2⟩ := tr_step2 ht2 (hw2 _ (List.getElem_mem (by omega)))
      obtain ⟨_, _, hcell⟩ := World.cells?_some he
      exact ⟨v, hcell, hB, hnn, z1, z2⟩
    obtain ⟨vs, hvl, hvs⟩ := list_choice len _ hQ
    subst hvl
    refine ⟨vs, rfl, fun hne => ?_, fun j hj => ?_, by unfold reachBytes at hw1; omega⟩
    rotate_left
    · have e : ot vs j = vs[j] := by simp [ot, hj]
      rw [e]
      exact (hvs j hj).2.2.2
    have h0 : 0 < vs.length := List.length_pos_iff.2 hne
    obtain ⟨b, off, spot⟩ := a'
    have hc00 := (hvs 0 h0).1 0 (by omega)
    have hspot : spot = none := by simpa [Addr.add] using World.cell?_spot hc00
    subst hspot
    refine ⟨b, off, rfl, World.block_lt_of_cell? w _ (by simpa [Addr.add] using hc00), fun j hj => ?_⟩
    obtain ⟨h1, h2, h3, _⟩ := hvs j hj
    have e : ot vs j = vs[j] := by simp [ot, hj]
    rw [e]
    have k0 := h1 0 (by omega)
    have k1 := h1 1 (by omega)
    have k2 := h1 2 (by omega)
    have k3 := h1 3 (by omega)
    have k4 := h1 4 (by omega)
    rw [Addr.add_lit, Addr.add_lit] at k0 k1 k2 k3 k4
    exact ⟨k0, k1, k2, k3, k4, h2, h3⟩
theorem open_step {v : Value} {d : DataW H} {p : List MemPlace} (h : DataW.Trod enc Try.prog w 0 (fun _ => true) true 31 v d p) (hv : ∃ xs, v = .agg xs) (hw : ∀ n ∈ d.weights Try.prog 31, n ≤ reachBytes) :
    ∃ x : Stp1, v = .agg #[.int .i64 x.k, .string x.nm, .string x.to, .slice x.a x.d.length x.cap, .int .i64 x.n] ∧ Bs w x.a x.d ∧ (x.a = none → x.d = []) ∧ x.nm.size ≤ maxLen ∧ x.to.size ≤ maxLen := by
  obtain ⟨fuel, hf⟩ := h
  obtain ⟨xs, rfl⟩ := hv
  obtain ⟨x, e, hB, hnn, z1, z2⟩ := tr_step2 hf hw
  have e2 : xs = #[.int .i64 x.k, .string x.nm, .string x.to, .slice x.a x.d.length x.cap, .int .i64 x.n] := by
    apply Array.toList_inj.1
    simpa [Value.cells] using e
  exact ⟨x, by rw [e2], hB, hnn, z1, z2⟩
end
end Go.Proofs.Ytkbmfookdhlphaa
