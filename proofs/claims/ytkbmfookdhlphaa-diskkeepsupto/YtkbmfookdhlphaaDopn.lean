/- A script that comes in: its steps, each of five cells, the bytes of each behind an address. -/
import Derived.Test.YtkbmfookdhlphaaDsu
import Derived.Test.YtkbmfookdhlphaaRows
import Derived.ChangeSlices
import Derived.OpenShut
import Derived.ProofKit
import Derived.ChangeOld
import Derived.Below
import Derived.SizedLaws
namespace Go.Proofs.Ytkbmfookdhlphaa
open Go.RowKit Go.ChangeShapes Go.WideShapes Go.ChangeAt

structure Stp1 where
  k : Int
  nm : ByteArray
  to : ByteArray
  a : Option Addr
  cap : Nat
  d : List UInt8
  n : Int
instance : Inhabited Stp1 := ⟨⟨0, .empty, .empty, none, 0, [], 0⟩⟩
def ot (L : List Stp1) (i : Nat) : Stp1 := L.getD i default
def Stps (w : World) (a : Option Addr) (L : List Stp1) : Prop := L ≠ [] → ∃ b off, a = some ⟨b, off, none⟩ ∧ b < w.heap.size ∧ ∀ j, j < L.length → w.cell? ⟨b, off + j * 5, none⟩ = some (.int .i64 (ot L j).k) ∧ w.cell? ⟨b, off + j * 5 + 1, none⟩ = some (.string (ot L j).nm) ∧ w.cell? ⟨b, off + j * 5 + 2, none⟩ = some (.string (ot L j).to) ∧ w.cell? ⟨b, off + j * 5 + 3, none⟩ = some (.slice (ot L j).a (ot L j).d.length (ot L j).cap) ∧ w.cell? ⟨b, off + j * 5 + 4, none⟩ = some (.int .i64 (ot L j).n) ∧ Bs w (ot L j).a (ot L j).d ∧ ((ot L j).a = none → (ot L j).d = [])
theorem Stps.at {w w' : World} {a : Option Addr} {L : List Stp1} (h : Stps w a L) (hb : Below w.heap.size w w') (j : Nat) (hj : j < L.length) : ∃ b off, a = some ⟨b, off, none⟩ ∧ b < w.heap.size ∧ w'.cell? ⟨b, off + j * 5, none⟩ = some (.int .i64 (ot L j).k) ∧ w'.cell? ⟨b, off + j * 5 + 1, none⟩ = some (.string (ot L j).nm) ∧ w'.cell? ⟨b, off + j * 5 + 2, none⟩ = some (.string (ot L j).to) ∧ w'.cell? ⟨b, off + j * 5 + 3, none⟩ = some (.slice (ot L j).a (ot L j).d.length (ot L j).cap) ∧ w'.cell? ⟨b, off + j * 5 + 4, none⟩ = some (.int .i64 (ot L j).n) ∧ Bs w (ot L j).a (ot L j).d ∧ ((ot L j).a = none → (ot L j).d = []) := by
  obtain ⟨b, off, h1, h2, h3⟩ := h (fun e => by subst e; simp at hj)
  obtain ⟨c0, c1, c2, c3, c4, c5, c6⟩ := h3 j hj
  exact ⟨b, off, h1, h2, (hb.cell (p := ⟨b, _, none⟩) h2).trans c0, (hb.cell (p := ⟨b, _, none⟩) h2).trans c1, (hb.cell (p := ⟨b, _, none⟩) h2).trans c2, (hb.cell (p := ⟨b, _, none⟩) h2).trans c3, (hb.cell (p := ⟨b, _, none⟩) h2).trans c4, c5, c6⟩

theorem list_choice {α : Type} (n : Nat) (P : Nat → α → Prop) (h : ∀ i, i < n → ∃ v, P i v) : ∃ vs : List α, vs.length = n ∧ ∀ i (hi : i < vs.length), P i vs[i] := by
  induction n with
  | zero => exact ⟨[], rfl, fun i hi => by simp at hi⟩
  | succ n ih =>
    obtain ⟨vs, h1, h2⟩ := ih (fun i hi => h i (by omega))
    obtain ⟨v, hv⟩ := h n (by omega)
    refine ⟨vs ++ [v], by simp [h1], fun i hi => ?_⟩
    by_cases hi2 : i < vs.length
    · rw [List.getElem_append_left hi2]; exact h2 i hi2
    · have : i = vs.length := by simp at hi; omega
      subst this
      simp [h1]
      exact hv
theorem len5 {α : Type} {l : List α} (h : l.length = 5) : ∃ a b c d e, l = [a, b, c, d, e] := by
  match l, h with
  | [a, b, c, d, e], _ => exact ⟨a, b, c, d, e, rfl⟩
theorem bytesOf_u8 : Try.prog.bytesOf 5 = 1 := by kernel_rfl
theorem cellsOf_u8 : Try.prog.cellsOf 5 = 1 := by kernel_rfl
def bytesOfInts (zs : List Int) : List UInt8 := zs.map fun n => UInt8.ofNat n.toNat
theorem bat_bytesOfInts (zs : List Int) (hw : ∀ n ∈ zs, (Lit.int .u8 n).wf = true) (len j : Nat) (hj : j < len) (hl : len ≤ zs.length) : bat (bytesOfInts (zs.take len)) j = zs.getD j 0 := by
  have hj2 : j < zs.length := by omega
  have hb := bounds_u8 (hw zs[j] (List.getElem_mem hj2))
  simp [bat, bn, bytesOfInts, List.getD, hj, hj2]
  omega
section
variable {H : Type} {enc : TypeId × Value → H} {w : World}
theorem tr_bytes {fuel : Nat} {cs : List Value} {x : DataW H × List MemPlace} (h : DataW.trod enc Try.prog w 0 (fun _ => true) true fuel 29 cs = some x) (hw : ∀ n ∈ x.1.weights Try.prog 29, n ≤ reachBytes) : ∃ (a : Option Addr) (cap : Nat) (l : List UInt8), cs = [.slice a l.length cap] ∧ Bs w a l ∧ (a = none → l = []) := by
  rcases open_ints Try.underlying29 Try.underlying5 cellsOf_u8 h with ⟨rfl, _⟩ | ⟨x, len, c, zs, rfl, _, hl, hm, hz, rfl, hcell, hwz⟩
  · exact ⟨none, 0, [], rfl, ⟨by simp, fun h => absurd rfl h⟩, fun _ => rfl⟩
  · simp only [if_true] at hz
    simp only [DataW.weights, Try.underlying29, bytesOf_u8] at hw
    have hr := hw _ List.mem_cons_self
    simp only [lits, List.length_map, List.length_take, List.length_drop, reachBytes] at hr
    have hbl : (bytesOfInts (zs.take len)).length = len := by simp [bytesOfInts]; omega
    refine ⟨some x, c, bytesOfInts (zs.take len), by rw [hbl], ⟨by rw [hbl]; omega, fun hne => ?_⟩, fun e => by cases e⟩
    have hlen : 0 < len := by
      rcases Nat.eq_zero_or_pos len with h0 | h0
      · subst h0; simp [bytesOfInts] at hne
      · exact h0
    obtain ⟨b, off, spot⟩ := x
    have hc0 := hcell 0 (by omega)
    have hspot : spot = none := by simpa [Addr.add] using World.cell?_spot hc0
    subst hspot
    refine ⟨b, off, rfl, World.block_lt_of_cell? w _ (by simpa [Addr.add] using hc0), fun j hj => ?_⟩
    rw [hbl] at hj
    rw [bat_bytesOfInts zs hwz len j hj (by omega), ← hcell j (by omega), Addr.add_lit]
theorem tr_step {fuel : Nat} {cs : List Value} {x : DataW H × List MemPlace} (h : DataW.trod enc Try.prog w 0 (fun _ => true) true fuel 31 cs = some x) (hw : ∀ n ∈ x.1.weights Try.prog 31, n ≤ reachBytes) : ∃ v : Stp1, cs = [.int .i64 v.k, .string v.nm, .string v.to, .slice v.a v.d.length v.cap, .int .i64 v.n] ∧ Bs w v.a v.d ∧ (v.a = none → v.d = []) := by
  obtain ⟨xs, n, rfl, rfl, hl, hlen, hf⟩ := DataW.trod_struct Try.underlying31 h
  rw [show Try.prog.cellsOf 31 = 5 from by kernel_rfl] at hl
  have hlen : xs.length = 5 := hlen
  obtain ⟨c0, c1, c2, c3, c4, rfl⟩ := len5 hl
  obtain ⟨x0, x1, x2, x3, x4, rfl⟩ := len5 hlen
  have g0 : DataW.trod enc Try.prog w 0 (fun _ => true) true n 3 (([c0, c1, c2, c3, c4].drop 0).take (Try.prog.cellsOf 3)) = some x0 := hf 0 _ rfl
  rw [show Try.prog.cellsOf 3 = 1 from by kernel_rfl] at g0
  obtain ⟨v0, e0, _, _⟩ := DataW.trod_int (by kernel_rfl) g0
  have g1 : DataW.trod enc Try.prog w 0 (fun _ => true) true n 9 (([c0, c1, c2, c3, c4].drop 1).take (Try.prog.cellsOf 9)) = some x1 := hf 1 _ rfl
  rw [show Try.prog.cellsOf 9 = 1 from by kernel_rfl] at g1
  obtain ⟨v1, e1, _, _⟩ := DataW.trod_string (by kernel_rfl) g1
  have g2 : DataW.trod enc Try.prog w 0 (fun _ => true) true n 9 (([c0, c1, c2, c3, c4].drop 2).take (Try.prog.cellsOf 9)) = some x2 := hf 2 _ rfl
  rw [show Try.prog.cellsOf 9 = 1 from by kernel_rfl] at g2
  obtain ⟨v2, e2, _, _⟩ := DataW.trod_string (by kernel_rfl) g2
  have g3 : DataW.trod enc Try.prog w 0 (fun _ => true) true n 29 (([c0, c1, c2, c3, c4].drop 3).take (Try.prog.cellsOf 29)) = some x3 := hf 3 _ rfl
  rw [show Try.prog.cellsOf 29 = 1 from by kernel_rfl] at g3
  obtain ⟨a, cap, l, e3, hB, hnn⟩ := tr_bytes g3 (fun m hm => hw m (by
    simp only [DataW.weights, Try.underlying31]
    exact DataW.weights_mem_each (j := 3) rfl rfl m hm))
  have g4 : DataW.trod enc Try.prog w 0 (fun _ => true) true n 3 (([c0, c1, c2, c3, c4].drop 4).take (Try.prog.cellsOf 3)) = some x4 := hf 4 _ rfl
  rw [show Try.prog.cellsOf 3 = 1 from by kernel_rfl] at g4
  obtain ⟨v4, e4, _, _⟩ := DataW.trod_int (by kernel_rfl) g4
  simp at e0 e1 e2 e3 e4
  exact ⟨⟨v0, v1, v2, a, cap, l, v4⟩, by rw [e0, e1, e2, e3, e4], hB, hnn⟩
theorem weights_mem_all {P : Program} {e : TypeId} : ∀ {l : List (DataW H)} {d : DataW H}, d ∈ l → ∀ n ∈ d.weights P e, n ∈ DataW.weightsAll P e l := by
  intro l
  induction l with
  | nil => intro d h; cases h
  | cons x l ih =>
    intro d h n hn
    rw [DataW.weightsAll, List.mem_append]
    rcases List.mem_cons.1 h with rfl | h
    · exact .inl hn
    · exact .inr (ih h n hn)
theorem open_steps {a : Option Addr} {len cap : Nat} {d : DataW H} {p : List MemPlace} (h : DataW.Trod enc Try.prog w 0 (fun _ => true) true 22 (.slice a len cap) d p) (hw : ∀ n ∈ d.weights Try.prog 22, n ≤ reachBytes) :
    ∃ L : List Stp1, len = L.length ∧ Stps w a L ∧ L.length ≤ 1954687338268 := by
  obtain ⟨fuel, hf⟩ := h
  rcases DataW.trod_slice Try.underlying22 hf with ⟨e, _⟩ | ⟨a', len', cap', elems, rest, n, _, e, hx, _, hlc, hcm, hel, hE, _, _⟩
  · simp [Value.cells] at e
    obtain ⟨rfl, rfl, rfl⟩ := e
    exact ⟨[], rfl, fun h => absurd rfl h, by simp⟩
  · simp [Value.cells] at e
    obtain ⟨rfl, rfl, rfl⟩ := e
    have e1 : d = (Go.DataW.slice (elems.map (·.1)) (rest.map (·.1))) := congrArg Prod.fst hx
    subst e1
    have hw1 := hw ((elems.length + rest.length) * 72) (by
      simp only [DataW.weights, Try.underlying22, show Try.prog.bytesOf 31 = 72 from by kernel_rfl]
      simp)
    have hw2 : ∀ x ∈ elems, ∀ n ∈ x.1.weights Try.prog 31, n ≤ reachBytes := fun x hx n hn => hw n (by
      simp only [DataW.weights, Try.underlying22, List.mem_cons, List.mem_append]
      exact .inr (.inl (weights_mem_all (List.mem_map.2 ⟨x, hx, rfl⟩) n hn)))
    rw [show Try.prog.cellsOf 31 = 5 from by kernel_rfl] at hE
    have hQ : ∀ i, i < len → ∃ v : Stp1, (∀ j, j < 5 → w.cell? ((a'.add (i * 5)).add j) = ([.int .i64 v.k, .string v.nm, .string v.to, .slice v.a v.d.length v.cap, .int .i64 v.n] : List Value)[j]?) ∧ Bs w v.a v.d ∧ (v.a = none → v.d = []) := by
      intro i hi
      have hEi := hE i hi
      rw [List.getElem?_eq_getElem (by omega)] at hEi
      obtain ⟨es, he, ht2⟩ := Option.bind_eq_some_iff.1 hEi
      obtain ⟨v, rfl, hB, hnn⟩ := tr_step ht2 (hw2 _ (List.getElem_mem (by omega)))
      obtain ⟨_, _, hcell⟩ := World.cells?_some he
      exact ⟨v, hcell, hB, hnn⟩
    obtain ⟨vs, hvl, hvs⟩ := list_choice len _ hQ
    subst hvl
    refine ⟨vs, rfl, fun hne => ?_, by unfold reachBytes at hw1; omega⟩
    have h0 : 0 < vs.length := List.length_pos_iff.2 hne
    obtain ⟨b, off, spot⟩ := a'
    have hc00 := (hvs 0 h0).1 0 (by omega)
    have hspot : spot = none := by simpa [Addr.add] using World.cell?_spot hc00
    subst hspot
    refine ⟨b, off, rfl, World.block_lt_of_cell? w _ (by simpa [Addr.add] using hc00), fun j hj => ?_⟩
    obtain ⟨h1, h2, h3⟩ := hvs j hj
    have e : ot vs j = vs[j] := by simp [ot, hj]
    rw [e]
    have k0 := h1 0 (by omega)
    have k1 := h1 1 (by omega)
    have k2 := h1 2 (by omega)
    have k3 := h1 3 (by omega)
    have k4 := h1 4 (by omega)
    rw [Addr.add_lit, Addr.add_lit] at k0 k1 k2 k3 k4
    exact ⟨k0, k1, k2, k3, k4, h2, h3⟩
end
end Go.Proofs.Ytkbmfookdhlphaa
