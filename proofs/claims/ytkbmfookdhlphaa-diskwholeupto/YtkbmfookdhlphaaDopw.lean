/- A script that comes in, where its bulk is bounded: its steps, and how long the names are at most. -/
import Derived.Test.YtkbmfookdhlphaaDopm
namespace Go.Proofs.Ytkbmfookdhlphaa
open Go.RowKit Go.ChangeShapes Go.WideShapes Go.ChangeAt

section
variable {H : Type} {enc : TypeId × Value → H} {w : World}
theorem bulk_mem {d : DataW H} {l : List (DataW H)} (h : d ∈ l) : Rows.uptoBulk d ≤ Rows.uptoBulkAll l := by
  induction l with
  | nil => cases h
  | cons x l ih =>
    rw [Rows.uptoBulkAll]
    rcases List.mem_cons.1 h with rfl | h
    · omega
    · have := ih h; omega
theorem bulk_pos (d : DataW H) : 1 ≤ Rows.uptoBulk d := by
  cases d with
  | lit x => cases x <;> simp [Rows.uptoBulk]
  | _ => simp [Rows.uptoBulk]
theorem bulk_all (ds : List (DataW H)) : ds.length ≤ Rows.uptoBulkAll ds := by
  induction ds with
  | nil => simp
  | cons d r ih =>
    have h1 := bulk_pos d
    simp only [Rows.uptoBulkAll, List.length_cons]
    omega
theorem upto_le {ds : List (DataW H)} (h : Rows.uptoSmall H ds = true) : Rows.uptoBulkAll ds ≤ 1048576 := of_decide_eq_true h
theorem tr_bytesU {fuel : Nat} {cs : List Value} {x : DataW H × List MemPlace} (h : DataW.trod enc Try.prog w 0 (fun _ => true) true fuel 29 cs = some x) (hw : Rows.uptoBulk x.1 ≤ 1048576) : ∃ (a : Option Addr) (cap : Nat) (l : List UInt8), cs = [.slice a l.length cap] ∧ Bs w a l ∧ (a = none → l = []) ∧ l.length ≤ cap := by
  rcases open_ints Try.underlying29 Try.underlying5 cellsOf_u8 h with ⟨rfl, _⟩ | ⟨x, len, c, zs, rfl, _, hl, hm, hz, rfl, hcell, hwz⟩
  · exact ⟨none, 0, [], rfl, ⟨by simp, fun h => absurd rfl h⟩, fun _ => rfl, by simp⟩
  · simp only [if_true] at hz
    simp only [Rows.uptoBulk] at hw
    have hr := bulk_all (H := H) (lits .u8 (zs.take len))
    simp only [lits, List.length_map, List.length_take] at hr hw
    have hbl : (bytesOfInts (zs.take len)).length = len := by simp [bytesOfInts]; omega
    refine ⟨some x, c, bytesOfInts (zs.take len), by rw [hbl], ⟨by rw [hbl]; omega, fun hne => ?_⟩, fun e => (by cases e), by rw [hbl]; exact hl⟩
    have hlen : 0 < len := by
      rcases Nat.eq_zero_or_pos len with h0 | h0
      · subst h0; simp [bytesOfInts] at hne
      · exact h0
    obtain ⟨b, off, spot⟩ := x
    have hc0 := hcell 0 (by omega)
    have hspot : spot = none := by simpa [Addr.add] using World.cell?_spot hc0
    subst hspot
    refine ⟨b, off, rfl, World.block_lt_of_cell? w _ (by simpa [Addr.add] using hc0), fun j hj => ?_⟩
    rw [hbl] at hj
    rw [bat_bytesOfInts zs hwz len j hj (by omega), ← hcell j (by omega), Addr.add_lit]
theorem tr_stepW {fuel : Nat} {cs : List Value} {x : DataW H × List MemPlace} (h : DataW.trod enc Try.prog w 0 (fun _ => true) true fuel 31 cs = some x) (hw : Rows.uptoBulk x.1 ≤ 1048576) : ∃ v : Stp1, cs = [.int .i64 v.k, .string v.nm, .string v.to, .slice v.a v.d.length v.cap, .int .i64 v.n] ∧ Bs w v.a v.d ∧ (v.a = none → v.d = []) ∧ v.nm.size ≤ maxLen ∧ v.to.size ≤ maxLen := by
  obtain ⟨xs, n, rfl, rfl, hl, hlen, hf⟩ := DataW.trod_struct Try.underlying31 h
  rw [show Try.prog.cellsOf 31 = 5 from by kernel_rfl] at hl
  have hlen : xs.length = 5 := hlen
  obtain ⟨c0, c1, c2, c3, c4, rfl⟩ := len5 hl
  obtain ⟨x0, x1, x2, x3, x4, rfl⟩ := len5 hlen
  have g0 : DataW.trod enc Try.prog w 0 (fun _ => true) true n 3 (([c0, c1, c2, c3, c4].drop 0).take (Try.prog.cellsOf 3)) = some x0 := hf 0 _ rfl
  rw [show Try.prog.cellsOf 3 = 1 from by kernel_rfl] at g0
  obtain ⟨v0, e0, _, _⟩ := DataW.trod_int (by kernel_rfl) g0
  have g1 : DataW.trod enc Try.prog w 0 (fun _ => true) true n 9 (([c0, c1, c2, c3, c4].drop 1).take (Try.prog.cellsOf 9)) = some x1 := hf 1 _ rfl
  rw [show Try.prog.cellsOf 9 = 1 from by kernel_rfl] at g1
  obtain ⟨v1, e1, _, z1⟩ := DataW.trod_string (by kernel_rfl) g1
  have g2 : DataW.trod enc Try.prog w 0 (fun _ => true) true n 9 (([c0, c1, c2, c3, c4].drop 2).take (Try.prog.cellsOf 9)) = some x2 := hf 2 _ rfl
  rw [show Try.prog.cellsOf 9 = 1 from by kernel_rfl] at g2
  obtain ⟨v2, e2, _, z2⟩ := DataW.trod_string (by kernel_rfl) g2
  have g3 : DataW.trod enc Try.prog w 0 (fun _ => true) true n 29 (([c0, c1, c2, c3, c4].drop 3).take (Try.prog.cellsOf 29)) = some x3 := hf 3 _ rfl
  rw [show Try.prog.cellsOf 29 = 1 from by kernel_rfl] at g3
  obtain ⟨a, cap, l, e3, hB, hnn, _⟩ := tr_bytesU g3 (by
    have := bulk_mem (d := x3.1) (l := [x0, x1, x2, x3, x4].map (·.1)) (by simp)
    simp only [Rows.uptoBulk] at hw
    omega)
  have g4 : DataW.trod enc Try.prog w 0 (fun _ => true) true n 3 (([c0, c1, c2, c3, c4].drop 4).take (Try.prog.cellsOf 3)) = some x4 := hf 4 _ rfl
  rw [show Try.prog.cellsOf 3 = 1 from by kernel_rfl] at g4
  obtain ⟨v4, e4, _, _⟩ := DataW.trod_int (by kernel_rfl) g4
  simp at e0 e1 e2 e3 e4
  exact ⟨⟨v0, v1, v2, a, cap, l, v4⟩, by rw [e0, e1, e2, e3, e4], hB, hnn, z1, z2⟩
theorem open_stepsW {a : Option Addr} {len cap : Nat} {d : DataW H} {p : List MemPlace} (h : DataW.Trod enc Try.prog w 0 (fun _ => true) true 22 (.slice a len cap) d p) (hw : Rows.uptoBulk d ≤ 1048576) :
    ∃ L : List Stp1, len = L.length ∧ (Stps w a L ∧ NmL L) ∧ L.length ≤ 1048576 := by
  obtain ⟨fuel, hf⟩ := h
  rcases DataW.trod_slice Try.underlying22 hf with ⟨e, _⟩ | ⟨a', len', cap', elems, rest, n, _, e, hx, _, hlc, hcm, hel, hE, _, _⟩
  · simp [Value.cells] at e
    obtain ⟨rfl, rfl, rfl⟩ := e
    exact ⟨[], rfl, ⟨fun h => absurd rfl h, fun j hj => by simp at hj⟩, by simp⟩
  · simp [Value.cells] at e
    obtain ⟨rfl, rfl, rfl⟩ := e
    have e1 : d = (Go.DataW.slice (elems.map (·.1)) (rest.map (·.1))) := congrArg Prod.fst hx
    subst e1
    simp only [Rows.uptoBulk] at hw
    have hw1 := bulk_all (elems.map (·.1))
    rw [List.length_map] at hw1
    have hw2 : ∀ x ∈ elems, Rows.uptoBulk x.1 ≤ 1048576 := fun x hx => by
      have := bulk_mem (List.mem_map.2 ⟨x, hx, rfl⟩ : x.1 ∈ elems.map (·.1))
      omega
    rw [show Try.prog.cellsOf 31 = 5 from by kernel_rfl] at hE
    have hQ : ∀ i, i < len → ∃ v : Stp1, (∀ j, j < 5 → w.cell? ((a'.add (i * 5)).add j) = ([.int .i64 v.k, .string v.nm, .string v.to, .slice v.a v.d.length v.cap, .int .i64 v.n] : List Value)[j]?) ∧ Bs w v.a v.d ∧ (v.a = none → v.d = []) ∧ v.nm.size ≤ maxLen ∧ v.to.size ≤ maxLen := by
      intro i hi
      have hEi := hE i hi
      rw [List.getElem?_eq_getElem (by omega)] at hEi
      obtain ⟨es, he, ht2⟩ := Option.bind_eq_some_iff.1 hEi
      obtain ⟨v, rfl, hB, hnn, z1, z2⟩ := tr_stepW ht2 (hw2 _ (List.getElem_mem (by omega)))
      obtain ⟨_, _, hcell⟩ := World.cells?_some he
      exact ⟨v, hcell, hB, hnn, z1, z2⟩
    obtain ⟨vs, hvl, hvs⟩ := list_choice len _ hQ
    subst hvl
    refine ⟨vs, rfl, ⟨fun hne => ?_, fun j hj => ?_⟩, by omega⟩
    · have h0 : 0 < vs.length := List.length_pos_iff.2 hne
      obtain ⟨b, off, spot⟩ := a'
      have hc00 := (hvs 0 h0).1 0 (by omega)
      have hspot : spot = none := by simpa [Addr.add] using World.cell?_spot hc00
      subst hspot
      refine ⟨b, off, rfl, World.block_lt_of_cell? w _ (by simpa [Addr.add] using hc00), fun j hj => ?_⟩
      obtain ⟨h1, h2, h3, _⟩ := hvs j hj
      have e : ot vs j = vs[j] := by simp [ot, hj]
      rw [e]
      have k0 := h1 0 (by omega)
      have k1 := h1 1 (by omega)
      have k2 := h1 2 (by omega)
      have k3 := h1 3 (by omega)
      have k4 := h1 4 (by omega)
      rw [Addr.add_lit, Addr.add_lit] at k0 k1 k2 k3 k4
      exact ⟨k0, k1, k2, k3, k4, h2, h3⟩
    · have e : ot vs j = vs[j] := by simp [ot, hj]
      rw [e]
      exact (hvs j hj).2.2.2
end
end Go.Proofs.Ytkbmfookdhlphaa
