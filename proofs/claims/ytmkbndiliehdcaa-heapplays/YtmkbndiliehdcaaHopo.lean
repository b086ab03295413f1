/- A list of steps that comes in: three numbers each. -/
import Derived.Test.YtmkbndiliehdcaaHopn
namespace Go.Proofs.Ytmkbndiliehdcaa
open Go.RowKit Go.ChangeShapes Go.WideShapes Go.ChangeAt

/- the steps l (their kind, key and tag) lie behind the address a -/
def Stps (w : World) (a : Option Addr) (l : List It) : Prop := l ≠ [] → ∃ b off, a = some ⟨b, off, none⟩ ∧ b < w.heap.size ∧ ∀ j, j < l.length → w.cell? ⟨b, off + j * 3, none⟩ = some (.int .i64 (gt l j).k) ∧ w.cell? ⟨b, off + j * 3 + 1, none⟩ = some (.int .i64 (gt l j).t) ∧ w.cell? ⟨b, off + j * 3 + 2, none⟩ = some (.int .i64 (gt l j).c)

theorem list_choice {α : Type} (n : Nat) (P : Nat → α → Prop) (h : ∀ i, i < n → ∃ v, P i v) : ∃ vs : List α, vs.length = n ∧ ∀ i (hi : i < vs.length), P i vs[i] := by
  induction n with
  | zero => exact ⟨[], rfl, fun i hi => by simp at hi⟩
  | succ n ih =>
    obtain ⟨vs, h1, h2⟩ := ih (fun i hi => h i (by omega))
    obtain ⟨v, hv⟩ := h n (by omega)
    refine ⟨vs ++ [v], by simp [h1], fun i hi => ?_⟩
    by_cases hi2 : i < vs.length
    · rw [List.getElem_append_left hi2]; exact h2 i hi2
    · have : i = vs.length := by simp at hi; omega
      subst this
      simp [h1]
      exact hv

section
variable {H : Type} {enc : TypeId × Value → H} {w : World}
theorem len2 {α : Type} {l : List α} (h : l.length = 2) : ∃ a b, l = [a, b] := by
  match l, h with
  | [a, b], _ => exact ⟨a, b, rfl⟩
theorem len3 {α : Type} {l : List α} (h : l.length = 3) : ∃ a b c, l = [a, b, c] := by
  match l, h with
  | [a, b, c], _ => exact ⟨a, b, c, rfl⟩
theorem tr_pair {fuel : Nat} {cs : List Value} {x : DataW H × List MemPlace} (h : DataW.trod enc Try.prog w 0 (fun _ => true) true fuel 26 cs = some x) : ∃ k t : Int, cs = [.int .i64 k, .int .i64 t] := by
  obtain ⟨xs, n, rfl, rfl, hl, hlen, hf⟩ := DataW.trod_struct Try.underlying26 h
  rw [show Try.prog.cellsOf 26 = 2 from by kernel_rfl] at hl
  have hlen : xs.length = 2 := hlen
  obtain ⟨c0, c1, rfl⟩ := len2 hl
  have g0 : DataW.trod enc Try.prog w 0 (fun _ => true) true n 3 (([c0, c1].drop 0).take (Try.prog.cellsOf 3)) = xs[0]? := hf 0 _ rfl
  rw [show Try.prog.cellsOf 3 = 1 from by kernel_rfl, List.getElem?_eq_getElem (by omega)] at g0
  obtain ⟨k, e0, _, _⟩ := DataW.trod_int (by kernel_rfl) g0
  have g1 : DataW.trod enc Try.prog w 0 (fun _ => true) true n 3 (([c0, c1].drop 1).take (Try.prog.cellsOf 3)) = xs[1]? := hf 1 _ rfl
  rw [show Try.prog.cellsOf 3 = 1 from by kernel_rfl, List.getElem?_eq_getElem (by omega)] at g1
  obtain ⟨t, e1, _, _⟩ := DataW.trod_int (by kernel_rfl) g1
  simp at e0 e1
  exact ⟨k, t, by rw [e0, e1]⟩
theorem tr_op {fuel : Nat} {cs : List Value} {x : DataW H × List MemPlace} (h : DataW.trod enc Try.prog w 0 (fun _ => true) true fuel 33 cs = some x) : ∃ k t c : Int, cs = [.int .i64 k, .int .i64 t, .int .i64 c] ∧ 1 ≤ Rows.uptoBulk x.1 := by
  obtain ⟨xs, n, rfl, rfl, hl, hlen, hf⟩ := DataW.trod_struct Try.underlying33 h
  rw [show Try.prog.cellsOf 33 = 3 from by kernel_rfl] at hl
  have hlen : xs.length = 2 := hlen
  obtain ⟨c0, c1, c2, rfl⟩ := len3 hl
  have g0 : DataW.trod enc Try.prog w 0 (fun _ => true) true n 3 (([c0, c1, c2].drop 0).take (Try.prog.cellsOf 3)) = xs[0]? := hf 0 _ rfl
  rw [show Try.prog.cellsOf 3 = 1 from by kernel_rfl, List.getElem?_eq_getElem (by omega)] at g0
  obtain ⟨k, e0, _, _⟩ := DataW.trod_int (by kernel_rfl) g0
  have g1 : DataW.trod enc Try.prog w 0 (fun _ => true) true n 26 (([c0, c1, c2].drop 1).take (Try.prog.cellsOf 26)) = xs[1]? := hf 1 _ rfl
  rw [show Try.prog.cellsOf 26 = 2 from by kernel_rfl, List.getElem?_eq_getElem (by omega)] at g1
  obtain ⟨t, c, e1⟩ := tr_pair g1
  simp at e0 e1
  refine ⟨k, t, c, by rw [e0, e1.1, e1.2], ?_⟩
  simp [Rows.uptoBulk]
theorem bulk_all (ds : List (DataW H)) (h : ∀ d ∈ ds, 1 ≤ Rows.uptoBulk d) : ds.length ≤ Rows.uptoBulkAll ds := by
  induction ds with
  | nil => simp
  | cons d r ih =>
    have h1 := h d (by simp)
    have h2 := ih (fun d hd => h d (by simp [hd]))
    simp only [Rows.uptoBulkAll, List.length_cons]
    omega
theorem open_ops {a : Option Addr} {len cap : Nat} {d : DataW H} {p : List MemPlace} (h : DataW.Trod enc Try.prog w 0 (fun _ => true) true 22 (.slice a len cap) d p) :
    ∃ l : List It, len = l.length ∧ Stps w a l ∧ l.length ≤ Rows.uptoBulk d ∧ l.length ≤ cap := by
  obtain ⟨fuel, hf⟩ := h
  rcases DataW.trod_slice Try.underlying22 hf with ⟨e, _⟩ | ⟨a', len', cap', elems, rest, n, _, e, hx, _, hlc, hcm, hel, hE, _, _⟩
  · simp [Value.cells] at e
    obtain ⟨rfl, rfl, rfl⟩ := e
    exact ⟨[], rfl, fun h => absurd rfl h, by simp, by simp⟩
  · simp [Value.cells] at e
    obtain ⟨rfl, rfl, rfl⟩ := e
    rw [show Try.prog.cellsOf 33 = 3 from by kernel_rfl] at hE
    have hQ : ∀ i, i < len → ∃ v : It, (∀ j, j < 3 → w.cell? ((a'.add (i * 3)).add j) = ([.int .i64 v.k, .int .i64 v.t, .int .i64 v.c] : List Value)[j]?) ∧ ∀ y, elems[i]? = some y → 1 ≤ Rows.uptoBulk y.1 := by
      intro i hi
      have hEi := hE i hi
      rw [List.getElem?_eq_getElem (by omega)] at hEi
      obtain ⟨es, he, ht2⟩ := Option.bind_eq_some_iff.1 hEi
      obtain ⟨k, t, c, rfl, hb⟩ := tr_op ht2
      obtain ⟨_, _, hcell⟩ := World.cells?_some he
      refine ⟨⟨k, t, c⟩, hcell, fun y hy => ?_⟩
      rw [List.getElem?_eq_getElem (by omega)] at hy
      cases hy
      exact hb
    obtain ⟨vs, hvl, hvs⟩ := list_choice len _ hQ
    subst hvl
    refine ⟨vs, rfl, fun hne => ?_, ?_, hlc⟩
    · have h0 : 0 < vs.length := List.length_pos_iff.2 hne
      obtain ⟨b, off, spot⟩ := a'
      have hc00 := (hvs 0 h0).1 0 (by omega)
      have hspot : spot = none := by simpa [Addr.add] using World.cell?_spot hc00
      subst hspot
      refine ⟨b, off, rfl, World.block_lt_of_cell? w _ (by simpa [Addr.add] using hc00), fun j hj => ?_⟩
      have h1 := (hvs j hj).1
      rw [gt_eq hj]
      have k0 := h1 0 (by omega)
      have k1 := h1 1 (by omega)
      have k2 := h1 2 (by omega)
      rw [Addr.add_lit, Addr.add_lit] at k0 k1 k2
      exact ⟨k0, k1, k2⟩
    · have e1 : d = (Go.DataW.slice (elems.map (·.1)) (rest.map (·.1))) := congrArg Prod.fst hx
      rw [e1]
      have := bulk_all (elems.map (·.1)) (fun d hd => by
        obtain ⟨y, hy, rfl⟩ := List.mem_map.1 hd
        obtain ⟨i, hi, rfl⟩ := List.getElem_of_mem hy
        exact (hvs i (by omega)).2 _ (List.getElem?_eq_getElem hi))
      simp only [Rows.uptoBulk, List.length_map] at this ⊢
      omega
end
theorem Stps.at {w w' : World} {a : Option Addr} {l : List It} (h : Stps w a l) (hb : Below w.heap.size w w') (k : Nat) (hk : k < l.length) : ∃ b off, a = some ⟨b, off, none⟩ ∧ b < w.heap.size ∧ w'.cell? ⟨b, off + k * 3, none⟩ = some (.int .i64 (gt l k).k) ∧ w'.cell? ⟨b, off + k * 3 + 1, none⟩ = some (.int .i64 (gt l k).t) ∧ w'.cell? ⟨b, off + k * 3 + 2, none⟩ = some (.int .i64 (gt l k).c) := by
  obtain ⟨b, off, h1, h2, h3⟩ := h (fun e => by subst e; simp at hk)
  obtain ⟨c0, c1, c2⟩ := h3 k hk
  exact ⟨b, off, h1, h2, (hb.cell (p := ⟨b, _, none⟩) h2).trans c0, (hb.cell (p := ⟨b, _, none⟩) h2).trans c1, (hb.cell (p := ⟨b, _, none⟩) h2).trans c2⟩

end Go.Proofs.Ytmkbndiliehdcaa
