/- What comes in: deeds whose bulk is bounded; evaluations, with no bound. -/
import Derived.Test.YtndomlbjdppckaaBud
import Derived.Test.YtndomlbjdppckaaRows
import Derived.ChangeSlices
import Derived.OpenShut
import Derived.ChangeOld
import Derived.Below
import Derived.SizedLaws
import Derived.DataShut
namespace Go.Proofs.Ytndomlbjdppckaa
open Go.RowKit Go.ChangeShapes Go.WideShapes Go.ChangeAt

theorem len3 {α : Type} {l : List α} (h : l.length = 3) : ∃ x0 x1 x2, l = [x0, x1, x2] := by
  match l, h with
  | [x0, x1, x2], _ => exact ⟨_, _, _, rfl⟩
theorem len4 {α : Type} {l : List α} (h : l.length = 4) : ∃ x0 x1 x2 x3, l = [x0, x1, x2, x3] := by
  match l, h with
  | [x0, x1, x2, x3], _ => exact ⟨_, _, _, _, rfl⟩
section
variable {H : Type} {enc : TypeId × Value → H} {w : World}
theorem bulk_mem {d : DataW H} {l : List (DataW H)} (h : d ∈ l) : Rows.uptoBulk d ≤ Rows.uptoBulkAll l := by
  induction l with
  | nil => cases h
  | cons x l ih =>
    rw [Rows.uptoBulkAll]
    rcases List.mem_cons.1 h with rfl | h
    · omega
    · have := ih h; omega
theorem bulk_pos (d : DataW H) : 1 ≤ Rows.uptoBulk d := by
  cases d with
  | lit x => cases x <;> simp [Rows.uptoBulk]
  | _ => simp [Rows.uptoBulk]
theorem bulk_all (ds : List (DataW H)) : ds.length ≤ Rows.uptoBulkAll ds := by
  induction ds with
  | nil => simp
  | cons d r ih =>
    have h1 := bulk_pos d
    simp only [Rows.uptoBulkAll, List.length_cons]
    omega
theorem upto_le {ds : List (DataW H)} (h : Rows.uptoSmall H ds = true) : Rows.uptoBulkAll ds ≤ 1048576 := of_decide_eq_true h
theorem list_choice {α : Type} (n : Nat) (P : Nat → α → Prop) (h : ∀ i, i < n → ∃ v, P i v) : ∃ vs : List α, vs.length = n ∧ ∀ i (hi : i < vs.length), P i vs[i] := by
  induction n with
  | zero => exact ⟨[], rfl, fun i hi => by simp at hi⟩
  | succ n ih =>
    obtain ⟨vs, h1, h2⟩ := ih (fun i hi => h i (by omega))
    obtain ⟨v, hv⟩ := h n (by omega)
    refine ⟨vs ++ [v], by simp [h1], fun i hi => ?_⟩
    by_cases hi2 : i < vs.length
    · rw [List.getElem_append_left hi2]; exact h2 i hi2
    · have : i = vs.length := by simp at hi; omega
      subst this
      simp [h1]
      exact hv
theorem tr_42 {fuel : Nat} {cs : List Value} {x : DataW H × List MemPlace} (h : DataW.trod enc Try.prog w 0 (fun _ => true) true fuel 42 cs = some x) : ∃ e : Ev, cs = [.int .i64 e.jb, .int .i64 e.pr, .int .i64 e.st, .int .i64 e.ix] := by
  obtain ⟨xs, n, rfl, rfl, hl, hlen, hf⟩ := DataW.trod_struct Try.underlying42 h
  rw [show Try.prog.cellsOf 42 = 4 from by kernel_rfl] at hl
  have hlen : xs.length = 4 := hlen
  obtain ⟨c0, c1, c2, c3, rfl⟩ := len4 hl
  obtain ⟨y0, y1, y2, y3, rfl⟩ := len4 hlen
  have g0 : DataW.trod enc Try.prog w 0 (fun _ => true) true n 3 (([c0, c1, c2, c3].drop 0).take (Try.prog.cellsOf 3)) = some y0 := hf 0 _ rfl
  rw [show Try.prog.cellsOf 3 = 1 from by kernel_rfl] at g0
  obtain ⟨v0, e0, _, _⟩ := DataW.trod_int Try.underlying3 g0
  have g1 : DataW.trod enc Try.prog w 0 (fun _ => true) true n 3 (([c0, c1, c2, c3].drop 1).take (Try.prog.cellsOf 3)) = some y1 := hf 1 _ rfl
  rw [show Try.prog.cellsOf 3 = 1 from by kernel_rfl] at g1
  obtain ⟨v1, e1, _, _⟩ := DataW.trod_int Try.underlying3 g1
  have g2 : DataW.trod enc Try.prog w 0 (fun _ => true) true n 3 (([c0, c1, c2, c3].drop 2).take (Try.prog.cellsOf 3)) = some y2 := hf 2 _ rfl
  rw [show Try.prog.cellsOf 3 = 1 from by kernel_rfl] at g2
  obtain ⟨v2, e2, _, _⟩ := DataW.trod_int Try.underlying3 g2
  have g3 : DataW.trod enc Try.prog w 0 (fun _ => true) true n 3 (([c0, c1, c2, c3].drop 3).take (Try.prog.cellsOf 3)) = some y3 := hf 3 _ rfl
  rw [show Try.prog.cellsOf 3 = 1 from by kernel_rfl] at g3
  obtain ⟨v3, e3, _, _⟩ := DataW.trod_int Try.underlying3 g3
  simp at e0 e1 e2 e3
  exact ⟨⟨v0, v1, v2, v3⟩, by rw [e0, e1, e2, e3]⟩
theorem info42b : (Try.prog.info? 42).map (fun i => i.bytes) = some 32 := by kernel_rfl
theorem tr_ev {fuel : Nat} {cs : List Value} {x : DataW H × List MemPlace} (h : DataW.trod enc Try.prog w 0 (fun _ => true) true fuel 29 cs = some x) : ∃ (a : Option Addr) (cap : Nat) (D : List Ev), cs = [.slice a (List.length D) cap] ∧ EvR w.heap.size w a D ∧ (Rows.uptoBulk x.1 ≤ 1048576 → D.length + 1 ≤ Rows.uptoBulk x.1) := by
  rcases DataW.trod_slice Try.underlying29 h with ⟨rfl, e⟩ | ⟨a, len, cap, elems, rest, n, _, rfl, rfl, _, hlc, _, hel2, hE, hR, _⟩
  · exact ⟨none, 0, [], rfl, fun h => absurd rfl h, fun _ => bulk_pos _⟩
  · rw [show Try.prog.cellsOf 42 = 4 from by kernel_rfl] at hE
    have hb := bulk_all (elems.map (·.1))
    rw [List.length_map] at hb
    have hq : ∀ i, i < len → ∃ e : Ev, ∀ j v, ([.int .i64 e.jb, .int .i64 e.pr, .int .i64 e.st, .int .i64 e.ix] : List Value)[j]? = some v → w.cell? ((a.add (i * 4)).add j) = some v := by
      intro i hi
      have hEi := hE i hi
      rw [List.getElem?_eq_getElem (by omega)] at hEi
      obtain ⟨es, he, ht2⟩ := Option.bind_eq_some_iff.1 hEi
      obtain ⟨_, hlen, hcell⟩ := World.cells?_some he
      obtain ⟨e, rfl⟩ := tr_42 ht2
      exact ⟨e, fun j v hj => by rw [hcell j (by have := (List.getElem?_eq_some_iff.1 hj).1; simp at this; omega)]; exact hj⟩
    obtain ⟨D, hDl, hD⟩ := list_choice len _ hq
    refine ⟨a, cap, D, by rw [hDl], fun hne => ?_, fun hw => by simp only [Rows.uptoBulk] at hw ⊢; omega⟩
    have h0 : 0 < D.length := List.length_pos_iff.2 hne
    obtain ⟨b, off, spot⟩ := a
    have hc00 := hD 0 h0 0 _ rfl
    have hspot : spot = none := by simpa [Addr.add] using World.cell?_spot hc00
    subst hspot
    have hbl : b < w.heap.size := World.block_lt_of_cell? w _ (by simpa [Addr.add] using hc00)
    refine ⟨b, off, rfl, hbl, .inl hbl, fun i e he => ?_⟩
    obtain ⟨hi, rfl⟩ := List.getElem?_eq_some_iff.1 he
    have k0 := hD i hi 0 _ rfl
    have k1 := hD i hi 1 _ rfl
    have k2 := hD i hi 2 _ rfl
    have k3 := hD i hi 3 _ rfl
    rw [Addr.add_lit, Addr.add_lit] at k0 k1 k2 k3
    exact ⟨k0, k1, k2, k3⟩
/- deeds -/
structure Dee where
  kd : Int
  wk : Int
  xa : Option Addr
  xc : Nat
  D : List Ev
deriving Inhabited
def rng (c : Int) : Prop := -9223372036854775808 ≤ c ∧ c ≤ 9223372036854775807
def DeR (D : Nat) (w : World) (x : Dee) : Prop := (rng x.kd ∧ rng x.wk) ∧ EvR D w x.xa x.D
def dt (L : List Dee) (j : Nat) : Dee := L.getD j default
def wt : List Dee → Nat
  | [] => 0
  | x :: L => x.D.length + 1 + wt L
theorem wt_app (A B : List Dee) : wt (A ++ B) = wt A + wt B := by
  induction A with
  | nil => simp [wt]
  | cons x A ih => simp only [List.cons_append, wt, ih]; omega
theorem wt_len (A : List Dee) : A.length ≤ wt A := by
  induction A with
  | nil => simp [wt]
  | cons x A ih => simp only [wt, List.length_cons]; omega
def pre (L : List Dee) (k : Nat) : Nat := wt (L.take k)
theorem pre_0 (L : List Dee) : pre L 0 = 0 := rfl
theorem pre_succ (L : List Dee) (j : Nat) (h : j < L.length) : pre L (j + 1) = pre L j + ((dt L j).D.length + 1) := by
  unfold pre dt
  rw [List.take_succ_eq_append_getElem h, wt_app]
  simp [wt, List.getD, h]
theorem pre_le (L : List Dee) (k : Nat) : pre L k ≤ wt L := by
  have := wt_app (L.take k) (L.drop k)
  rw [List.take_append_drop] at this
  unfold pre
  omega
def Dees (w : World) (a : Option Addr) (L : List Dee) : Prop := L ≠ [] → ∃ b off, a = some ⟨b, off, none⟩ ∧ b < w.heap.size ∧ ∀ j, j < L.length → w.cell? ⟨b, off + j * 3, none⟩ = some (.int .i64 (dt L j).kd) ∧ w.cell? ⟨b, off + j * 3 + 1, none⟩ = some (.int .i64 (dt L j).wk) ∧ w.cell? ⟨b, off + j * 3 + 2, none⟩ = some (.slice (dt L j).xa (dt L j).D.length (dt L j).xc) ∧ DeR w.heap.size w (dt L j)
theorem Dees.at {w0 w : World} {a : Option Addr} {L : List Dee} (h : Dees w0 a L) (hb : Below w0.heap.size w0 w) (j : Nat) (hj : j < L.length) : ∃ b off, a = some ⟨b, off, none⟩ ∧ b < w0.heap.size ∧ w.cell? ⟨b, off + j * 3, none⟩ = some (.int .i64 (dt L j).kd) ∧ w.cell? ⟨b, off + j * 3 + 1, none⟩ = some (.int .i64 (dt L j).wk) ∧ w.cell? ⟨b, off + j * 3 + 2, none⟩ = some (.slice (dt L j).xa (dt L j).D.length (dt L j).xc) ∧ DeR w0.heap.size w0 (dt L j) := by
  obtain ⟨b, off, h1, h2, h3⟩ := h (fun e => by rw [e] at hj; simp at hj)
  obtain ⟨k0, k1, k2, k3⟩ := h3 j hj
  have e := hb.block b h2
  exact ⟨b, off, h1, h2, (World.cell?_of_block (w := w0) e).trans k0, (World.cell?_of_block (w := w0) e).trans k1, (World.cell?_of_block (w := w0) e).trans k2, k3⟩
theorem tr_31 {fuel : Nat} {cs : List Value} {x : DataW H × List MemPlace} (h : DataW.trod enc Try.prog w 0 (fun _ => true) true fuel 31 cs = some x) (hw : Rows.uptoBulk x.1 ≤ 1048576) : ∃ v : Dee, cs = [.int .i64 v.kd, .int .i64 v.wk, .slice v.xa v.D.length v.xc] ∧ DeR w.heap.size w v ∧ v.D.length + 1 ≤ Rows.uptoBulk x.1 := by
  obtain ⟨xs, n, rfl, rfl, hl, hlen, hf⟩ := DataW.trod_struct Try.underlying31 h
  rw [show Try.prog.cellsOf 31 = 3 from by kernel_rfl] at hl
  have hlen : xs.length = 3 := hlen
  obtain ⟨c0, c1, c2, rfl⟩ := len3 hl
  obtain ⟨x0, x1, x2, rfl⟩ := len3 hlen
  have g0 : DataW.trod enc Try.prog w 0 (fun _ => true) true n 3 (([c0, c1, c2].drop 0).take (Try.prog.cellsOf 3)) = some x0 := hf 0 _ rfl
  rw [show Try.prog.cellsOf 3 = 1 from by kernel_rfl] at g0
  obtain ⟨v0, e0, _, z0⟩ := DataW.trod_int Try.underlying3 g0
  have g1 : DataW.trod enc Try.prog w 0 (fun _ => true) true n 3 (([c0, c1, c2].drop 1).take (Try.prog.cellsOf 3)) = some x1 := hf 1 _ rfl
  rw [show Try.prog.cellsOf 3 = 1 from by kernel_rfl] at g1
  obtain ⟨v1, e1, _, z1⟩ := DataW.trod_int Try.underlying3 g1
  have g2 : DataW.trod enc Try.prog w 0 (fun _ => true) true n 29 (([c0, c1, c2].drop 2).take (Try.prog.cellsOf 29)) = some x2 := hf 2 _ rfl
  rw [show Try.prog.cellsOf 29 = 1 from by kernel_rfl] at g2
  have hb2 := bulk_mem (d := x2.1) (l := [x0, x1, x2].map (·.1)) (by simp)
  have hw' : Rows.uptoBulkAll ([x0, x1, x2].map (·.1)) + 1 ≤ 1048576 := by simpa only [Rows.uptoBulk] using hw
  obtain ⟨a, cap, D, e2, hD, hn⟩ := tr_ev g2
  have hn := hn (by omega)
  simp at e0 e1 e2
  refine ⟨⟨v0, v1, a, cap, D⟩, by rw [e0, e1, e2], ⟨⟨(Lit.wf_int_iff _ _).1 z0, (Lit.wf_int_iff _ _).1 z1⟩, hD⟩, ?_⟩
  simp only [Rows.uptoBulk]
  show D.length + 1 ≤ _
  omega
theorem bulk_wt {es : List (DataW H × List MemPlace)} : ∀ {vs : List Dee}, vs.length = es.length → (∀ i (hi : i < vs.length) (hj : i < es.length), vs[i].D.length + 1 ≤ Rows.uptoBulk es[i].1) → wt vs ≤ Rows.uptoBulkAll (es.map (·.1)) := by
  induction es with
  | nil =>
    intro vs h _
    have e : vs = [] := List.eq_nil_of_length_eq_zero (by simpa using h)
    subst e
    simp [wt]
  | cons y es ih =>
    intro vs h1 h2
    cases vs with
    | nil => simp at h1
    | cons x vs =>
      have h3 := h2 0 (by simp) (by simp)
      have h4 := ih (vs := vs) (by simpa using h1) (fun i hi hj => by
        have := h2 (i + 1) (by simpa using hi) (by simpa using hj)
        simpa using this)
      simp only [List.getElem_cons_zero] at h3
      simp only [wt, List.map_cons, Rows.uptoBulkAll]
      omega
theorem open_deeds {a : Option Addr} {len cap : Nat} {d : DataW H} {p : List MemPlace} (h : DataW.Trod enc Try.prog w 0 (fun _ => true) true 22 (.slice a len cap) d p) (hw : Rows.uptoBulk d ≤ 1048576) :
    ∃ L : List Dee, len = L.length ∧ Dees w a L ∧ wt L ≤ 1048576 := by
  obtain ⟨fuel, hf⟩ := h
  rcases DataW.trod_slice Try.underlying22 hf with ⟨e, _⟩ | ⟨a', len', cap', elems, rest, n, _, e, hx, _, hlc, hcm, hel, hE, _, _⟩
  · simp [Value.cells] at e
    obtain ⟨rfl, rfl, rfl⟩ := e
    exact ⟨[], rfl, fun h => absurd rfl h, by simp [wt]⟩
  · simp [Value.cells] at e
    obtain ⟨rfl, rfl, rfl⟩ := e
    have e1 : d = (Go.DataW.slice (elems.map (·.1)) (rest.map (·.1))) := congrArg Prod.fst hx
    subst e1
    have hw' : Rows.uptoBulkAll (elems.map (·.1)) + Rows.uptoBulkAll (rest.map (·.1)) + 1 ≤ 1048576 := by simpa only [Rows.uptoBulk] using hw
    have hw2 : ∀ x ∈ elems, Rows.uptoBulk x.1 ≤ 1048576 := fun x hx => by
      have := bulk_mem (List.mem_map.2 ⟨x, hx, rfl⟩ : x.1 ∈ elems.map (·.1))
      omega
    rw [show Try.prog.cellsOf 31 = 3 from by kernel_rfl] at hE
    have hQ : ∀ i, i < len → ∃ v : Dee, (∀ j, j < 3 → w.cell? ((a'.add (i * 3)).add j) = ([.int .i64 v.kd, .int .i64 v.wk, .slice v.xa v.D.length v.xc] : List Value)[j]?) ∧ DeR w.heap.size w v ∧ ∀ hj : i < elems.length, v.D.length + 1 ≤ Rows.uptoBulk (elems[i]'hj).1 := by
      intro i hi
      have hEi := hE i hi
      rw [List.getElem?_eq_getElem (by omega)] at hEi
      obtain ⟨es, he, ht2⟩ := Option.bind_eq_some_iff.1 hEi
      obtain ⟨v, rfl, hB, hn⟩ := tr_31 ht2 (hw2 _ (List.getElem_mem (by omega)))
      obtain ⟨_, _, hcell⟩ := World.cells?_some he
      exact ⟨v, hcell, hB, fun _ => hn⟩
    obtain ⟨vs, hvl, hvs⟩ := list_choice len _ hQ
    subst hvl
    have hwt : wt vs ≤ _ := bulk_wt (es := elems) (vs := vs) hel.symm (fun i hi hj => (hvs i hi).2.2 hj)
    refine ⟨vs, rfl, fun hne => ?_, by omega⟩
    have h0 : 0 < vs.length := List.length_pos_iff.2 hne
    obtain ⟨b, off, spot⟩ := a'
    have hc00 := (hvs 0 h0).1 0 (by omega)
    have hspot : spot = none := by simpa [Addr.add] using World.cell?_spot hc00
    subst hspot
    refine ⟨b, off, rfl, World.block_lt_of_cell? w _ (by simpa [Addr.add] using hc00), fun j hj => ?_⟩
    obtain ⟨h1, h2, _⟩ := hvs j hj
    have e : dt vs j = vs[j] := by simp [dt, List.getD, hj]
    rw [e]
    have k0 := h1 0 (by omega)
    have k1 := h1 1 (by omega)
    have k2 := h1 2 (by omega)
    rw [Addr.add_lit, Addr.add_lit] at k0 k1 k2
    exact ⟨k0, k1, k2, h2⟩
theorem open_evs {a : Option Addr} {len cap : Nat} {d : DataW H} {p : List MemPlace} (h : DataW.Trod enc Try.prog w 0 (fun _ => true) true 29 (.slice a len cap) d p) :
    ∃ L : List Ev, len = L.length ∧ EvR w.heap.size w a L ∧ (Rows.uptoBulk d ≤ 1048576 → L.length ≤ 1048576) := by
  obtain ⟨fuel, hf⟩ := h
  obtain ⟨a', cap', D, e, hD, hn⟩ := tr_ev hf
  simp [Value.cells] at e
  obtain ⟨rfl, rfl, rfl⟩ := e
  exact ⟨D, rfl, hD, fun hw => by have h1 : D.length + 1 ≤ Rows.uptoBulk d := hn hw; omega⟩
end
end Go.Proofs.Ytndomlbjdppckaa
