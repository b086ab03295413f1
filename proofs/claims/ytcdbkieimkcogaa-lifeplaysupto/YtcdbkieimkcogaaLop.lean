/- What comes in: nodes and deployments, with no bound; beats whose bulk is bounded. -/
import Derived.Test.YtcdbkieimkcogaaLc
import Derived.Test.YtcdbkieimkcogaaRows
import Derived.ChangeSlices
import Derived.OpenShut
import Derived.ChangeOld
import Derived.Below
import Derived.SizedLaws
import Derived.DataShut
namespace Go.Proofs.Ytcdbkieimkcogaa
open Go.RowKit Go.ChangeShapes Go.WideShapes Go.ChangeAt

theorem len2 {α : Type} {l : List α} (h : l.length = 2) : ∃ x0 x1, l = [x0, x1] := by
  match l, h with
  | [x0, x1], _ => exact ⟨_, _, rfl⟩
theorem len4 {α : Type} {l : List α} (h : l.length = 4) : ∃ x0 x1 x2 x3, l = [x0, x1, x2, x3] := by
  match l, h with
  | [x0, x1, x2, x3], _ => exact ⟨_, _, _, _, rfl⟩
theorem len7 {α : Type} {l : List α} (h : l.length = 7) : ∃ x0 x1 x2 x3 x4 x5 x6, l = [x0, x1, x2, x3, x4, x5, x6] := by
  match l, h with
  | [x0, x1, x2, x3, x4, x5, x6], _ => exact ⟨_, _, _, _, _, _, _, rfl⟩
theorem len8 {α : Type} {l : List α} (h : l.length = 8) : ∃ x0 x1 x2 x3 x4 x5 x6 x7, l = [x0, x1, x2, x3, x4, x5, x6, x7] := by
  match l, h with
  | [x0, x1, x2, x3, x4, x5, x6, x7], _ => exact ⟨_, _, _, _, _, _, _, _, rfl⟩
structure Bt where
  ld : Bool
  tm : Int
  na : Option Addr
  N : List Nd
  nc : Nat
  pa : Option Addr
  P : List Dp
  pc : Nat
instance : Inhabited Bt := ⟨⟨false, 0, none, [], 0, none, [], 0⟩⟩
structure BtR (D : Nat) (w : World) (v : Bt) : Prop where
  tm : -9223372036854775808 ≤ v.tm ∧ v.tm ≤ 9223372036854775807
  n : NdR D w v.na v.N
  p : DpR D w v.pa v.P
  nm : v.N.length ≤ maxLen
  pm : v.P.length ≤ maxLen
def bt (L : List Bt) (j : Nat) : Bt := L.getD j default
def wt : List Bt → Nat
  | [] => 0
  | x :: L => x.N.length + x.P.length + 1 + wt L
theorem wt_app (A B : List Bt) : wt (A ++ B) = wt A + wt B := by
  induction A with
  | nil => simp [wt]
  | cons x A ih => simp only [List.cons_append, wt, ih]; omega
theorem wt_len (A : List Bt) : A.length ≤ wt A := by
  induction A with
  | nil => simp [wt]
  | cons x A ih => simp only [wt, List.length_cons]; omega
theorem wt_at {L : List Bt} {j : Nat} (h : j < L.length) : (bt L j).N.length + (bt L j).P.length + 1 ≤ wt L := by
  induction L generalizing j with
  | nil => simp at h
  | cons x L ih =>
    cases j with
    | zero => simp only [bt, List.getD_cons_zero, wt]; omega
    | succ j =>
      have := ih (j := j) (by simpa using h)
      simp only [bt, List.getD_cons_succ, wt] at this ⊢; omega
def Bts (w : World) (a : Option Addr) (L : List Bt) : Prop := L ≠ [] → ∃ b off, a = some ⟨b, off, none⟩ ∧ b < w.heap.size ∧ ∀ j, j < L.length → w.cell? ⟨b, off + j * 4, none⟩ = some (.bool (bt L j).ld) ∧ w.cell? ⟨b, off + j * 4 + 1, none⟩ = some (.int .i64 (bt L j).tm) ∧ w.cell? ⟨b, off + j * 4 + 2, none⟩ = some (.slice (bt L j).na (bt L j).N.length (bt L j).nc) ∧ w.cell? ⟨b, off + j * 4 + 3, none⟩ = some (.slice (bt L j).pa (bt L j).P.length (bt L j).pc) ∧ BtR w.heap.size w (bt L j)
theorem Bts.at {w0 w : World} {a : Option Addr} {L : List Bt} (h : Bts w0 a L) (hb : Below w0.heap.size w0 w) (j : Nat) (hj : j < L.length) : ∃ b off, a = some ⟨b, off, none⟩ ∧ b < w0.heap.size ∧ w.cell? ⟨b, off + j * 4, none⟩ = some (.bool (bt L j).ld) ∧ w.cell? ⟨b, off + j * 4 + 1, none⟩ = some (.int .i64 (bt L j).tm) ∧ w.cell? ⟨b, off + j * 4 + 2, none⟩ = some (.slice (bt L j).na (bt L j).N.length (bt L j).nc) ∧ w.cell? ⟨b, off + j * 4 + 3, none⟩ = some (.slice (bt L j).pa (bt L j).P.length (bt L j).pc) ∧ BtR w0.heap.size w0 (bt L j) := by
  obtain ⟨b, off, h1, h2, h3⟩ := h (fun e => by rw [e] at hj; simp at hj)
  obtain ⟨k0, k1, k2, k3, k4⟩ := h3 j hj
  have e := hb.block b h2
  exact ⟨b, off, h1, h2, (World.cell?_of_block (w := w0) e).trans k0, (World.cell?_of_block (w := w0) e).trans k1, (World.cell?_of_block (w := w0) e).trans k2, (World.cell?_of_block (w := w0) e).trans k3, k4⟩
section
variable {H : Type} {enc : TypeId × Value → H} {w : World}
theorem bulk_mem {d : DataW H} {l : List (DataW H)} (h : d ∈ l) : Rows.uptoBulk d ≤ Rows.uptoBulkAll l := by
  induction l with
  | nil => cases h
  | cons x l ih =>
    rw [Rows.uptoBulkAll]
    rcases List.mem_cons.1 h with rfl | h
    · omega
    · have := ih h; omega
theorem bulk_pos (d : DataW H) : 1 ≤ Rows.uptoBulk d := by
  cases d with
  | lit x => cases x <;> simp [Rows.uptoBulk]
  | _ => simp [Rows.uptoBulk]
theorem bulk_all (ds : List (DataW H)) : ds.length ≤ Rows.uptoBulkAll ds := by
  induction ds with
  | nil => simp
  | cons d r ih =>
    have h1 := bulk_pos d
    simp only [Rows.uptoBulkAll, List.length_cons]
    omega
theorem upto_le {ds : List (DataW H)} (h : Rows.uptoSmall H ds = true) : Rows.uptoBulkAll ds ≤ 1048576 := of_decide_eq_true h
theorem list_choice {α : Type} (n : Nat) (P : Nat → α → Prop) (h : ∀ i, i < n → ∃ v, P i v) : ∃ vs : List α, vs.length = n ∧ ∀ i (hi : i < vs.length), P i vs[i] := by
  induction n with
  | zero => exact ⟨[], rfl, fun i hi => by simp at hi⟩
  | succ n ih =>
    obtain ⟨vs, h1, h2⟩ := ih (fun i hi => h i (by omega))
    obtain ⟨v, hv⟩ := h n (by omega)
    refine ⟨vs ++ [v], by simp [h1], fun i hi => ?_⟩
    by_cases hi2 : i < vs.length
    · rw [List.getElem_append_left hi2]; exact h2 i hi2
    · have : i = vs.length := by simp at hi; omega
      subst this
      simp [h1]
      exact hv
theorem tr_50 {fuel : Nat} {cs : List Value} {x : DataW H × List MemPlace} (h : DataW.trod enc Try.prog w 0 (fun _ => true) true fuel 50 cs = some x) : ∃ a b : Int, cs = [.int .i64 a, .int .i64 b] := by
  obtain ⟨xs, n, rfl, rfl, hl, hlen, hf⟩ := DataW.trod_struct Try.underlying50 h
  rw [show Try.prog.cellsOf 50 = 2 from by kernel_rfl] at hl
  have hlen : xs.length = 2 := hlen
  obtain ⟨c0, c1, rfl⟩ := len2 hl
  obtain ⟨y0, y1, rfl⟩ := len2 hlen
  have g0 : DataW.trod enc Try.prog w 0 (fun _ => true) true n 3 (([c0, c1].drop 0).take (Try.prog.cellsOf 3)) = some y0 := hf 0 _ rfl
  rw [show Try.prog.cellsOf 3 = 1 from by kernel_rfl] at g0
  obtain ⟨v0, e0, _, _⟩ := DataW.trod_int Try.underlying3 g0
  have g1 : DataW.trod enc Try.prog w 0 (fun _ => true) true n 3 (([c0, c1].drop 1).take (Try.prog.cellsOf 3)) = some y1 := hf 1 _ rfl
  rw [show Try.prog.cellsOf 3 = 1 from by kernel_rfl] at g1
  obtain ⟨v1, e1, _, _⟩ := DataW.trod_int Try.underlying3 g1
  simp at e0 e1
  exact ⟨v0, v1, by rw [e0, e1]⟩
theorem tr_52 {fuel : Nat} {cs : List Value} {x : DataW H × List MemPlace} (h : DataW.trod enc Try.prog w 0 (fun _ => true) true fuel 52 cs = some x) : ∃ v : Nd, cs = (ndC v).toList := by
  obtain ⟨xs, n, rfl, rfl, hl, hlen, hf⟩ := DataW.trod_struct Try.underlying52 h
  rw [show Try.prog.cellsOf 52 = 8 from by kernel_rfl] at hl
  have hlen : xs.length = 7 := hlen
  obtain ⟨c0, c1, c2, c3, c4, c5, c6, c7, rfl⟩ := len8 hl
  obtain ⟨y0, y1, y2, y3, y4, y5, y6, rfl⟩ := len7 hlen
  have g0 : DataW.trod enc Try.prog w 0 (fun _ => true) true n 3 (([c0, c1, c2, c3, c4, c5, c6, c7].drop 0).take (Try.prog.cellsOf 3)) = some y0 := hf 0 _ rfl
  rw [show Try.prog.cellsOf 3 = 1 from by kernel_rfl] at g0
  obtain ⟨v0, e0, _, _⟩ := DataW.trod_int Try.underlying3 g0
  have g1 : DataW.trod enc Try.prog w 0 (fun _ => true) true n 50 (([c0, c1, c2, c3, c4, c5, c6, c7].drop 1).take (Try.prog.cellsOf 50)) = some y1 := hf 1 _ rfl
  rw [show Try.prog.cellsOf 50 = 2 from by kernel_rfl] at g1
  obtain ⟨v1, v1b, e1⟩ := tr_50 g1
  have g2 : DataW.trod enc Try.prog w 0 (fun _ => true) true n 4 (([c0, c1, c2, c3, c4, c5, c6, c7].drop 3).take (Try.prog.cellsOf 4)) = some y2 := hf 2 _ rfl
  rw [show Try.prog.cellsOf 4 = 1 from by kernel_rfl] at g2
  obtain ⟨v2, e2, _⟩ := DataW.trod_bool Try.underlying4 g2
  have g3 : DataW.trod enc Try.prog w 0 (fun _ => true) true n 4 (([c0, c1, c2, c3, c4, c5, c6, c7].drop 4).take (Try.prog.cellsOf 4)) = some y3 := hf 3 _ rfl
  rw [show Try.prog.cellsOf 4 = 1 from by kernel_rfl] at g3
  obtain ⟨v3, e3, _⟩ := DataW.trod_bool Try.underlying4 g3
  have g4 : DataW.trod enc Try.prog w 0 (fun _ => true) true n 3 (([c0, c1, c2, c3, c4, c5, c6, c7].drop 5).take (Try.prog.cellsOf 3)) = some y4 := hf 4 _ rfl
  rw [show Try.prog.cellsOf 3 = 1 from by kernel_rfl] at g4
  obtain ⟨v4, e4, _, _⟩ := DataW.trod_int Try.underlying3 g4
  have g5 : DataW.trod enc Try.prog w 0 (fun _ => true) true n 3 (([c0, c1, c2, c3, c4, c5, c6, c7].drop 6).take (Try.prog.cellsOf 3)) = some y5 := hf 5 _ rfl
  rw [show Try.prog.cellsOf 3 = 1 from by kernel_rfl] at g5
  obtain ⟨v5, e5, _, _⟩ := DataW.trod_int Try.underlying3 g5
  have g6 : DataW.trod enc Try.prog w 0 (fun _ => true) true n 3 (([c0, c1, c2, c3, c4, c5, c6, c7].drop 7).take (Try.prog.cellsOf 3)) = some y6 := hf 6 _ rfl
  rw [show Try.prog.cellsOf 3 = 1 from by kernel_rfl] at g6
  obtain ⟨v6, e6, _, _⟩ := DataW.trod_int Try.underlying3 g6
  simp at e0 e1 e2 e3 e4 e5 e6
  exact ⟨⟨v0, v1, v1b, v2, v3, v4, v5, v6⟩, by rw [e0, e1.1, e1.2, e2, e3, e4, e5, e6]; rfl⟩
theorem tr_71 {fuel : Nat} {cs : List Value} {x : DataW H × List MemPlace} (h : DataW.trod enc Try.prog w 0 (fun _ => true) true fuel 71 cs = some x) : ∃ v : Dp, cs = (dpC v).toList := by
  obtain ⟨xs, n, rfl, rfl, hl, hlen, hf⟩ := DataW.trod_struct Try.underlying71 h
  rw [show Try.prog.cellsOf 71 = 4 from by kernel_rfl] at hl
  have hlen : xs.length = 4 := hlen
  obtain ⟨c0, c1, c2, c3, rfl⟩ := len4 hl
  obtain ⟨y0, y1, y2, y3, rfl⟩ := len4 hlen
  have g0 : DataW.trod enc Try.prog w 0 (fun _ => true) true n 3 (([c0, c1, c2, c3].drop 0).take (Try.prog.cellsOf 3)) = some y0 := hf 0 _ rfl
  rw [show Try.prog.cellsOf 3 = 1 from by kernel_rfl] at g0
  obtain ⟨v0, e0, _, _⟩ := DataW.trod_int Try.underlying3 g0
  have g1 : DataW.trod enc Try.prog w 0 (fun _ => true) true n 3 (([c0, c1, c2, c3].drop 1).take (Try.prog.cellsOf 3)) = some y1 := hf 1 _ rfl
  rw [show Try.prog.cellsOf 3 = 1 from by kernel_rfl] at g1
  obtain ⟨v1, e1, _, _⟩ := DataW.trod_int Try.underlying3 g1
  have g2 : DataW.trod enc Try.prog w 0 (fun _ => true) true n 3 (([c0, c1, c2, c3].drop 2).take (Try.prog.cellsOf 3)) = some y2 := hf 2 _ rfl
  rw [show Try.prog.cellsOf 3 = 1 from by kernel_rfl] at g2
  obtain ⟨v2, e2, _, _⟩ := DataW.trod_int Try.underlying3 g2
  have g3 : DataW.trod enc Try.prog w 0 (fun _ => true) true n 3 (([c0, c1, c2, c3].drop 3).take (Try.prog.cellsOf 3)) = some y3 := hf 3 _ rfl
  rw [show Try.prog.cellsOf 3 = 1 from by kernel_rfl] at g3
  obtain ⟨v3, e3, _, _⟩ := DataW.trod_int Try.underlying3 g3
  simp at e0 e1 e2 e3
  exact ⟨⟨v0, v1, v2, v3⟩, by rw [e0, e1, e2, e3]; rfl⟩
theorem tr_nds {fuel : Nat} {cs : List Value} {x : DataW H × List MemPlace} (h : DataW.trod enc Try.prog w 0 (fun _ => true) true fuel 29 cs = some x) : ∃ (a : Option Addr) (cap : Nat) (D : List Nd), cs = [.slice a (List.length D) cap] ∧ NdR w.heap.size w a D ∧ D.length ≤ maxLen ∧ D.length + 1 ≤ Rows.uptoBulk x.1 := by
  rcases DataW.trod_slice Try.underlying29 h with ⟨rfl, rfl⟩ | ⟨a, len, cap, elems, rest, n, _, rfl, rfl, _, hlc, hcm, hel2, hE, hR, _⟩
  · exact ⟨none, 0, [], rfl, fun h => absurd rfl h, Nat.zero_le _, by simp [Rows.uptoBulk]⟩
  · rw [show Try.prog.cellsOf 52 = 8 from by kernel_rfl] at hE
    have hb := bulk_all (elems.map (·.1))
    rw [List.length_map] at hb
    have hq : ∀ i, i < len → ∃ e : Nd, ∀ j v, (ndC e)[j]? = some v → w.cell? ((a.add (i * 8)).add j) = some v := by
      intro i hi
      have hEi := hE i hi
      rw [List.getElem?_eq_getElem (by omega)] at hEi
      obtain ⟨es, he, ht2⟩ := Option.bind_eq_some_iff.1 hEi
      obtain ⟨_, hlen, hcell⟩ := World.cells?_some he
      obtain ⟨e, rfl⟩ := tr_52 ht2
      exact ⟨e, fun j v hj => by rw [hcell j (by have := (Array.getElem?_eq_some_iff.1 hj).1; exact this), Array.getElem?_toList]; exact hj⟩
    obtain ⟨D, hDl, hD⟩ := list_choice len _ hq
    refine ⟨a, cap, D, by rw [hDl], fun hne => ?_, by rw [hDl]; exact Nat.le_trans hlc hcm, by simp only [Rows.uptoBulk]; omega⟩
    have h0 : 0 < D.length := List.length_pos_iff.2 hne
    obtain ⟨b, off, spot⟩ := a
    have hc00 := hD 0 h0 0 _ rfl
    have hspot : spot = none := by simpa [Addr.add] using World.cell?_spot hc00
    subst hspot
    have hbl : b < w.heap.size := World.block_lt_of_cell? w _ (by simpa [Addr.add] using hc00)
    refine ⟨b, off, rfl, hbl, .inl hbl, fun i e he j u hu => ?_⟩
    obtain ⟨hi, rfl⟩ := List.getElem?_eq_some_iff.1 he
    have k0 := hD i hi j u hu
    rw [Addr.add_lit, Addr.add_lit] at k0
    exact k0
theorem open_nds {v : Value} {d : DataW H} {p : List MemPlace} (hv : ∃ a n c, v = .slice a n c) (h : DataW.Trod enc Try.prog w 0 (fun _ => true) true 29 v d p) : ∃ (a : Option Addr) (c : Nat) (L : List Nd), v = .slice a L.length c ∧ NdR w.heap.size w a L ∧ L.length ≤ maxLen := by
  obtain ⟨a, n, c, rfl⟩ := hv
  obtain ⟨fuel, hf⟩ := h
  obtain ⟨a', cap', D, e, hD, hn, _⟩ := tr_nds hf
  simp [Value.cells] at e
  obtain ⟨rfl, rfl, rfl⟩ := e
  exact ⟨a, c, D, rfl, hD, hn⟩
theorem tr_dps {fuel : Nat} {cs : List Value} {x : DataW H × List MemPlace} (h : DataW.trod enc Try.prog w 0 (fun _ => true) true fuel 30 cs = some x) : ∃ (a : Option Addr) (cap : Nat) (D : List Dp), cs = [.slice a (List.length D) cap] ∧ DpR w.heap.size w a D ∧ D.length ≤ maxLen ∧ D.length + 1 ≤ Rows.uptoBulk x.1 := by
  rcases DataW.trod_slice Try.underlying30 h with ⟨rfl, rfl⟩ | ⟨a, len, cap, elems, rest, n, _, rfl, rfl, _, hlc, hcm, hel2, hE, hR, _⟩
  · exact ⟨none, 0, [], rfl, fun h => absurd rfl h, Nat.zero_le _, by simp [Rows.uptoBulk]⟩
  · rw [show Try.prog.cellsOf 71 = 4 from by kernel_rfl] at hE
    have hb := bulk_all (elems.map (·.1))
    rw [List.length_map] at hb
    have hq : ∀ i, i < len → ∃ e : Dp, ∀ j v, (dpC e)[j]? = some v → w.cell? ((a.add (i * 4)).add j) = some v := by
      intro i hi
      have hEi := hE i hi
      rw [List.getElem?_eq_getElem (by omega)] at hEi
      obtain ⟨es, he, ht2⟩ := Option.bind_eq_some_iff.1 hEi
      obtain ⟨_, hlen, hcell⟩ := World.cells?_some he
      obtain ⟨e, rfl⟩ := tr_71 ht2
      exact ⟨e, fun j v hj => by rw [hcell j (by have := (Array.getElem?_eq_some_iff.1 hj).1; exact this), Array.getElem?_toList]; exact hj⟩
    obtain ⟨D, hDl, hD⟩ := list_choice len _ hq
    refine ⟨a, cap, D, by rw [hDl], fun hne => ?_, by rw [hDl]; exact Nat.le_trans hlc hcm, by simp only [Rows.uptoBulk]; omega⟩
    have h0 : 0 < D.length := List.length_pos_iff.2 hne
    obtain ⟨b, off, spot⟩ := a
    have hc00 := hD 0 h0 0 _ rfl
    have hspot : spot = none := by simpa [Addr.add] using World.cell?_spot hc00
    subst hspot
    have hbl : b < w.heap.size := World.block_lt_of_cell? w _ (by simpa [Addr.add] using hc00)
    refine ⟨b, off, rfl, hbl, .inl hbl, fun i e he j u hu => ?_⟩
    obtain ⟨hi, rfl⟩ := List.getElem?_eq_some_iff.1 he
    have k0 := hD i hi j u hu
    rw [Addr.add_lit, Addr.add_lit] at k0
    exact k0
theorem open_dps {v : Value} {d : DataW H} {p : List MemPlace} (hv : ∃ a n c, v = .slice a n c) (h : DataW.Trod enc Try.prog w 0 (fun _ => true) true 30 v d p) : ∃ (a : Option Addr) (c : Nat) (L : List Dp), v = .slice a L.length c ∧ DpR w.heap.size w a L ∧ L.length ≤ maxLen := by
  obtain ⟨a, n, c, rfl⟩ := hv
  obtain ⟨fuel, hf⟩ := h
  obtain ⟨a', cap', D, e, hD, hn, _⟩ := tr_dps hf
  simp [Value.cells] at e
  obtain ⟨rfl, rfl, rfl⟩ := e
  exact ⟨a, c, D, rfl, hD, hn⟩
theorem tr_32 {fuel : Nat} {cs : List Value} {x : DataW H × List MemPlace} (h : DataW.trod enc Try.prog w 0 (fun _ => true) true fuel 32 cs = some x) : ∃ v : Bt, cs = [.bool v.ld, .int .i64 v.tm, .slice v.na v.N.length v.nc, .slice v.pa v.P.length v.pc] ∧ BtR w.heap.size w v ∧ v.N.length + v.P.length + 1 ≤ Rows.uptoBulk x.1 := by
  obtain ⟨xs, n, rfl, rfl, hl, hlen, hf⟩ := DataW.trod_struct Try.underlying32 h
  rw [show Try.prog.cellsOf 32 = 4 from by kernel_rfl] at hl
  have hlen : xs.length = 4 := hlen
  obtain ⟨c0, c1, c2, c3, rfl⟩ := len4 hl
  obtain ⟨y0, y1, y2, y3, rfl⟩ := len4 hlen
  have g0 : DataW.trod enc Try.prog w 0 (fun _ => true) true n 4 (([c0, c1, c2, c3].drop 0).take (Try.prog.cellsOf 4)) = some y0 := hf 0 _ rfl
  rw [show Try.prog.cellsOf 4 = 1 from by kernel_rfl] at g0
  obtain ⟨v0, e0, _⟩ := DataW.trod_bool Try.underlying4 g0
  have g1 : DataW.trod enc Try.prog w 0 (fun _ => true) true n 3 (([c0, c1, c2, c3].drop 1).take (Try.prog.cellsOf 3)) = some y1 := hf 1 _ rfl
  rw [show Try.prog.cellsOf 3 = 1 from by kernel_rfl] at g1
  obtain ⟨v1, e1, _, z1⟩ := DataW.trod_int Try.underlying3 g1
  have g2 : DataW.trod enc Try.prog w 0 (fun _ => true) true n 29 (([c0, c1, c2, c3].drop 2).take (Try.prog.cellsOf 29)) = some y2 := hf 2 _ rfl
  rw [show Try.prog.cellsOf 29 = 1 from by kernel_rfl] at g2
  have g3 : DataW.trod enc Try.prog w 0 (fun _ => true) true n 30 (([c0, c1, c2, c3].drop 3).take (Try.prog.cellsOf 30)) = some y3 := hf 3 _ rfl
  rw [show Try.prog.cellsOf 30 = 1 from by kernel_rfl] at g3
  obtain ⟨a2, k2, D2, e2, hN2, hm2, hb2⟩ := tr_nds g2
  obtain ⟨a3, k3, D3, e3, hN3, hm3, hb3⟩ := tr_dps g3
  simp at e0 e1 e2 e3
  refine ⟨⟨v0, v1, a2, D2, k2, a3, D3, k3⟩, by rw [e0, e1, e2, e3], ⟨(Lit.wf_int_iff _ _).1 z1, hN2, hN3, hm2, hm3⟩, ?_⟩
  simp only [Rows.uptoBulk, List.map_cons, List.map_nil, Rows.uptoBulkAll]
  show D2.length + D3.length + 1 ≤ _
  omega
theorem bulk_wt {es : List (DataW H × List MemPlace)} : ∀ {vs : List Bt}, vs.length = es.length → (∀ i (hi : i < vs.length) (hj : i < es.length), vs[i].N.length + vs[i].P.length + 1 ≤ Rows.uptoBulk es[i].1) → wt vs ≤ Rows.uptoBulkAll (es.map (·.1)) := by
  induction es with
  | nil =>
    intro vs h _
    have e : vs = [] := List.eq_nil_of_length_eq_zero (by simpa using h)
    subst e
    simp [wt]
  | cons y es ih =>
    intro vs h1 h2
    cases vs with
    | nil => simp at h1
    | cons x vs =>
      have h3 := h2 0 (by simp) (by simp)
      have h4 := ih (vs := vs) (by simpa using h1) (fun i hi hj => by
        have := h2 (i + 1) (by simpa using hi) (by simpa using hj)
        simpa using this)
      simp only [List.getElem_cons_zero] at h3
      simp only [wt, List.map_cons, Rows.uptoBulkAll]
      omega
theorem open_bts {a : Option Addr} {len cap : Nat} {d : DataW H} {p : List MemPlace} (h : DataW.Trod enc Try.prog w 0 (fun _ => true) true 22 (.slice a len cap) d p) (hw : Rows.uptoBulk d ≤ 1048576) :
    ∃ L : List Bt, len = L.length ∧ Bts w a L ∧ wt L ≤ 1048576 := by
  obtain ⟨fuel, hf⟩ := h
  rcases DataW.trod_slice Try.underlying22 hf with ⟨e, _⟩ | ⟨a', len', cap', elems, rest, n, _, e, hx, _, hlc, hcm, hel, hE, _, _⟩
  · simp [Value.cells] at e
    obtain ⟨rfl, rfl, rfl⟩ := e
    exact ⟨[], rfl, fun h => absurd rfl h, by simp [wt]⟩
  · simp [Value.cells] at e
    obtain ⟨rfl, rfl, rfl⟩ := e
    have e1 : d = (Go.DataW.slice (elems.map (·.1)) (rest.map (·.1))) := congrArg Prod.fst hx
    subst e1
    have hw' : Rows.uptoBulkAll (elems.map (·.1)) + Rows.uptoBulkAll (rest.map (·.1)) + 1 ≤ 1048576 := by simpa only [Rows.uptoBulk] using hw
    rw [show Try.prog.cellsOf 32 = 4 from by kernel_rfl] at hE
    have hQ : ∀ i, i < len → ∃ v : Bt, (∀ j, j < 4 → w.cell? ((a'.add (i * 4)).add j) = ([.bool v.ld, .int .i64 v.tm, .slice v.na v.N.length v.nc, .slice v.pa v.P.length v.pc] : List Value)[j]?) ∧ BtR w.heap.size w v ∧ ∀ hj : i < elems.length, v.N.length + v.P.length + 1 ≤ Rows.uptoBulk (elems[i]'hj).1 := by
      intro i hi
      have hEi := hE i hi
      rw [List.getElem?_eq_getElem (by omega)] at hEi
      obtain ⟨es, he, ht2⟩ := Option.bind_eq_some_iff.1 hEi
      obtain ⟨v, rfl, hB, hn⟩ := tr_32 ht2
      obtain ⟨_, _, hcell⟩ := World.cells?_some he
      exact ⟨v, hcell, hB, fun _ => hn⟩
    obtain ⟨vs, hvl, hvs⟩ := list_choice len _ hQ
    subst hvl
    have hwt : wt vs ≤ _ := bulk_wt (es := elems) (vs := vs) hel.symm (fun i hi hj => (hvs i hi).2.2 hj)
    refine ⟨vs, rfl, fun hne => ?_, by omega⟩
    have h0 : 0 < vs.length := List.length_pos_iff.2 hne
    obtain ⟨b, off, spot⟩ := a'
    have hc00 := (hvs 0 h0).1 0 (by omega)
    have hspot : spot = none := by simpa [Addr.add] using World.cell?_spot hc00
    subst hspot
    refine ⟨b, off, rfl, World.block_lt_of_cell? w _ (by simpa [Addr.add] using hc00), fun j hj => ?_⟩
    obtain ⟨h1, h2, _⟩ := hvs j hj
    have e : bt vs j = vs[j] := by simp [bt, List.getD, hj]
    rw [e]
    have k0 := h1 0 (by omega)
    have k1 := h1 1 (by omega)
    have k2 := h1 2 (by omega)
    have k3 := h1 3 (by omega)
    rw [Addr.add_lit, Addr.add_lit] at k0 k1 k2 k3
    exact ⟨k0, k1, k2, k3, h2⟩
end
end Go.Proofs.Ytcdbkieimkcogaa
