/- Deeds that come in, where their bulk is bounded. -/
import Derived.Test.YtdkmlgkljhhokaaMem
import Derived.Test.YtdkmlgkljhhokaaRows
import Derived.ChangeSlices
import Derived.OpenShut
import Derived.ProofKit
import Derived.ChangeOld
import Derived.Below
import Derived.SizedLaws
import Derived.DataShut
namespace Go.Proofs.Ytdkmlgkljhhokaa
open Go.RowKit Go.ChangeShapes Go.WideShapes Go.ChangeAt

theorem len2 {α : Type} {l : List α} (h : l.length = 2) : ∃ x0 x1, l = [x0, x1] := by
  match l, h with
  | [x0, x1], _ => exact ⟨_, _, rfl⟩
theorem len3 {α : Type} {l : List α} (h : l.length = 3) : ∃ x0 x1 x2, l = [x0, x1, x2] := by
  match l, h with
  | [x0, x1, x2], _ => exact ⟨_, _, _, rfl⟩
theorem len5 {α : Type} {l : List α} (h : l.length = 5) : ∃ x0 x1 x2 x3 x4, l = [x0, x1, x2, x3, x4] := by
  match l, h with
  | [x0, x1, x2, x3, x4], _ => exact ⟨_, _, _, _, _, rfl⟩
theorem len6 {α : Type} {l : List α} (h : l.length = 6) : ∃ x0 x1 x2 x3 x4 x5, l = [x0, x1, x2, x3, x4, x5] := by
  match l, h with
  | [x0, x1, x2, x3, x4, x5], _ => exact ⟨_, _, _, _, _, _, rfl⟩
theorem len7 {α : Type} {l : List α} (h : l.length = 7) : ∃ x0 x1 x2 x3 x4 x5 x6, l = [x0, x1, x2, x3, x4, x5, x6] := by
  match l, h with
  | [x0, x1, x2, x3, x4, x5, x6], _ => exact ⟨_, _, _, _, _, _, _, rfl⟩
theorem len8 {α : Type} {l : List α} (h : l.length = 8) : ∃ x0 x1 x2 x3 x4 x5 x6 x7, l = [x0, x1, x2, x3, x4, x5, x6, x7] := by
  match l, h with
  | [x0, x1, x2, x3, x4, x5, x6, x7], _ => exact ⟨_, _, _, _, _, _, _, _, rfl⟩
theorem len10 {α : Type} {l : List α} (h : l.length = 10) : ∃ x0 x1 x2 x3 x4 x5 x6 x7 x8 x9, l = [x0, x1, x2, x3, x4, x5, x6, x7, x8, x9] := by
  match l, h with
  | [x0, x1, x2, x3, x4, x5, x6, x7, x8, x9], _ => exact ⟨_, _, _, _, _, _, _, _, _, _, rfl⟩
theorem len11 {α : Type} {l : List α} (h : l.length = 11) : ∃ x0 x1 x2 x3 x4 x5 x6 x7 x8 x9 x10, l = [x0, x1, x2, x3, x4, x5, x6, x7, x8, x9, x10] := by
  match l, h with
  | [x0, x1, x2, x3, x4, x5, x6, x7, x8, x9, x10], _ => exact ⟨_, _, _, _, _, _, _, _, _, _, _, rfl⟩
theorem len27 {α : Type} {l : List α} (h : l.length = 27) : ∃ x0 x1 x2 x3 x4 x5 x6 x7 x8 x9 x10 x11 x12 x13 x14 x15 x16 x17 x18 x19 x20 x21 x22 x23 x24 x25 x26, l = [x0, x1, x2, x3, x4, x5, x6, x7, x8, x9, x10, x11, x12, x13, x14, x15, x16, x17, x18, x19, x20, x21, x22, x23, x24, x25, x26] := by
  match l, h with
  | [x0, x1, x2, x3, x4, x5, x6, x7, x8, x9, x10, x11, x12, x13, x14, x15, x16, x17, x18, x19, x20, x21, x22, x23, x24, x25, x26], _ => exact ⟨_, _, _, _, _, _, _, _, _, _, _, _, _, _, _, _, _, _, _, _, _, _, _, _, _, _, _, rfl⟩
theorem len29 {α : Type} {l : List α} (h : l.length = 29) : ∃ x0 x1 x2 x3 x4 x5 x6 x7 x8 x9 x10 x11 x12 x13 x14 x15 x16 x17 x18 x19 x20 x21 x22 x23 x24 x25 x26 x27 x28, l = [x0, x1, x2, x3, x4, x5, x6, x7, x8, x9, x10, x11, x12, x13, x14, x15, x16, x17, x18, x19, x20, x21, x22, x23, x24, x25, x26, x27, x28] := by
  match l, h with
  | [x0, x1, x2, x3, x4, x5, x6, x7, x8, x9, x10, x11, x12, x13, x14, x15, x16, x17, x18, x19, x20, x21, x22, x23, x24, x25, x26, x27, x28], _ => exact ⟨_, _, _, _, _, _, _, _, _, _, _, _, _, _, _, _, _, _, _, _, _, _, _, _, _, _, _, _, _, rfl⟩
section
variable {H : Type} {enc : TypeId × Value → H} {w : World}
theorem bulk_mem {d : DataW H} {l : List (DataW H)} (h : d ∈ l) : Rows.uptoBulk d ≤ Rows.uptoBulkAll l := by
  induction l with
  | nil => cases h
  | cons x l ih =>
    rw [Rows.uptoBulkAll]
    rcases List.mem_cons.1 h with rfl | h
    · omega
    · have := ih h; omega
theorem bulk_pos (d : DataW H) : 1 ≤ Rows.uptoBulk d := by
  cases d with
  | lit x => cases x <;> simp [Rows.uptoBulk]
  | _ => simp [Rows.uptoBulk]
theorem bulk_all (ds : List (DataW H)) : ds.length ≤ Rows.uptoBulkAll ds := by
  induction ds with
  | nil => simp
  | cons d r ih =>
    have h1 := bulk_pos d
    simp only [Rows.uptoBulkAll, List.length_cons]
    omega
theorem upto_le {ds : List (DataW H)} (h : Rows.uptoSmall H ds = true) : Rows.uptoBulkAll ds ≤ 1048576 := of_decide_eq_true h
theorem list_choice {α : Type} (n : Nat) (P : Nat → α → Prop) (h : ∀ i, i < n → ∃ v, P i v) : ∃ vs : List α, vs.length = n ∧ ∀ i (hi : i < vs.length), P i vs[i] := by
  induction n with
  | zero => exact ⟨[], rfl, fun i hi => by simp at hi⟩
  | succ n ih =>
    obtain ⟨vs, h1, h2⟩ := ih (fun i hi => h i (by omega))
    obtain ⟨v, hv⟩ := h n (by omega)
    refine ⟨vs ++ [v], by simp [h1], fun i hi => ?_⟩
    by_cases hi2 : i < vs.length
    · rw [List.getElem_append_left hi2]; exact h2 i hi2
    · have : i = vs.length := by simp at hi; omega
      subst this
      simp [h1]
      exact hv
/- rows of rows -/
def flg (C : Nat → List Value) : Nat → List Value
  | 0 => []
  | n + 1 => flg C n ++ C n
theorem flg_len {C : Nat → List Value} {s : Nat} : ∀ {n : Nat}, (∀ j, j < n → (C j).length = s) → (flg C n).length = n * s := by
  intro n
  induction n with
  | zero => intro _; simp [flg]
  | succ n ih => intro h; rw [flg, List.length_append, ih (fun j hj => h j (by omega)), h n (by omega), Nat.succ_mul]
theorem flg_range {C : Nat → List Value} {s b off : Nat} : ∀ {n : Nat}, (∀ j, j < n → (C j).length = s ∧ w.rangeAt b (off + j * s) (C j)) → w.rangeAt b off (flg C n) := by
  intro n
  induction n with
  | zero => intro _ j v hj; simp [flg] at hj
  | succ n ih =>
    intro h j v hj
    have hl : (flg C n).length = n * s := flg_len (fun j hj => (h j (by omega)).1)
    rw [flg] at hj
    by_cases e : j < (flg C n).length
    · rw [List.getElem?_append_left e] at hj
      exact ih (fun j hj => h j (by omega)) j v hj
    · rw [List.getElem?_append_right (by omega), hl] at hj
      have := (h n (by omega)).2 _ v hj
      rw [show off + n * s + (j - n * s) = off + j by omega] at this
      exact this
theorem flg_one {C : Nat → List Value} : ∀ {n : Nat}, (∀ j, j < n → ∀ u ∈ C j, u.oneCell' = true) → ∀ u ∈ flg C n, u.oneCell' = true := by
  intro n
  induction n with
  | zero => intro _ u hu; simp [flg] at hu
  | succ n ih =>
    intro h u hu
    rw [flg, List.mem_append] at hu
    rcases hu with hu | hu
    · exact ih (fun j hj => h j (by omega)) u hu
    · exact h n (by omega) u hu
theorem fun_choice {α : Type} [Inhabited α] {n : Nat} {P : Nat → α → Prop} (h : ∀ i, i < n → ∃ v, P i v) : ∃ f : Nat → α, ∀ i, i < n → P i (f i) := by
  obtain ⟨vs, h1, h2⟩ := list_choice n P h
  exact ⟨fun i => vs.getD i default, fun i hi => by
    have : i < vs.length := by omega
    have e : vs.getD i default = vs[i] := by simp [List.getD, this]
    show P i (vs.getD i default)
    rw [e]; exact h2 i this⟩
/- elements that lie behind an address -/
theorem tr_list {t e : TypeId} {s : Nat} (ht : Try.prog.underlying t = some (.slice e)) (hs : Try.prog.cellsOf e = s) (hs0 : 0 < s) (hel : ∀ {fuel : Nat} {cs : List Value} {x : DataW H × List MemPlace}, DataW.trod enc Try.prog w 0 (fun _ => true) true fuel e cs = some x → cs.length = s ∧ ∀ u ∈ cs, u.oneCell' = true)
    {fuel : Nat} {cs : List Value} {x : DataW H × List MemPlace} (h : DataW.trod enc Try.prog w 0 (fun _ => true) true fuel t cs = some x) (hw : Rows.uptoBulk x.1 ≤ 1048576) : ∃ v, cs = [v] ∧ NsR w w s v := by
  rcases DataW.trod_slice ht h with ⟨rfl, _⟩ | ⟨a, len, cap, elems, rest, n, _, rfl, rfl, _, hlc, _, hel2, hE, hR, _⟩
  · exact ⟨_, rfl, .inl ⟨_, rfl⟩⟩
  · rw [hs] at hE
    simp only [Rows.uptoBulk] at hw
    have hb := bulk_all (elems.map (·.1))
    rw [List.length_map] at hb
    have hq : ∀ i, i < len → ∃ c : List Value, (c.length = s ∧ ∀ u ∈ c, u.oneCell' = true) ∧ ∀ j v, c[j]? = some v → w.cell? ((a.add (i * s)).add j) = some v := by
      intro i hi
      have hEi := hE i hi
      rw [List.getElem?_eq_getElem (by omega)] at hEi
      obtain ⟨es, he, ht2⟩ := Option.bind_eq_some_iff.1 hEi
      obtain ⟨_, hlen, hcell⟩ := World.cells?_some he
      have h1 := hel ht2
      exact ⟨es, h1, fun j v hj => by rw [hcell j (by have := (List.getElem?_eq_some_iff.1 hj).1; omega)]; exact hj⟩
    obtain ⟨C, hC⟩ := fun_choice hq
    obtain ⟨b, off, spot⟩ := a
    by_cases hl0 : len = 0
    · subst hl0
      by_cases hc0 : cap = 0
      · subst hc0; exact ⟨_, rfl, .inl ⟨_, rfl⟩⟩
      · obtain ⟨hrl, hR⟩ := hR rfl
        have hR0 := hR 0 (by omega)
        rw [hs, List.getElem?_eq_getElem (by omega)] at hR0
        obtain ⟨es, he, ht2⟩ := Option.bind_eq_some_iff.1 hR0
        obtain ⟨_, _, hcell⟩ := World.cells?_some he
        have h1 := (hel ht2).1
        have hc00 := hcell 0 (by omega)
        rw [List.getElem?_eq_getElem (by omega)] at hc00
        have hspot : spot = none := by simpa [Addr.add] using World.cell?_spot hc00
        subst hspot
        exact ⟨_, rfl, .inr ⟨b, off, 0, cap, [], rfl, by omega, by simp, range_nil _ _ _, fun u hu => (by cases hu), fun h => absurd h (by omega)⟩⟩
    · have hlen0 : 0 < len := by omega
      have hc00 := (hC 0 hlen0).2 0 _ (List.getElem?_eq_getElem (by rw [(hC 0 hlen0).1.1]; omega))
      have hspot : spot = none := by simpa [Addr.add] using World.cell?_spot hc00
      subst hspot
      have hR : ∀ j, j < len → (C j).length = s ∧ w.rangeAt b (off + j * s) (C j) := fun j hj => ⟨(hC j hj).1.1, fun i v hi => by
        have := (hC j hj).2 i v hi
        rw [Addr.add_mid, Addr.add_mid] at this
        exact this⟩
      refine ⟨_, rfl, .inr ⟨b, off, len, cap, flg C len, rfl, by omega, flg_len (fun j hj => (hC j hj).1.1), flg_range hR, flg_one (fun j hj => (hC j hj).1.2), fun _ => .inl ?_⟩⟩
      exact World.block_lt_of_cell? w _ (by simpa [Addr.add] using hc00)
theorem tr_38 {fuel : Nat} {cs : List Value} {x : DataW H × List MemPlace} (h : DataW.trod enc Try.prog w 0 (fun _ => true) true fuel 38 cs = some x) : ∃ (v0 : Int) (v1 : Int), cs = [.int .i64 v0, .int .i64 v1] := by
  obtain ⟨xs, n, rfl, rfl, hl, hlen, hf⟩ := DataW.trod_struct Try.underlying38 h
  rw [show Try.prog.cellsOf 38 = 2 from by kernel_rfl] at hl
  have hlen : xs.length = 2 := hlen
  obtain ⟨c0, c1, rfl⟩ := len2 hl
  obtain ⟨y0, y1, rfl⟩ := len2 hlen
  have g0 : DataW.trod enc Try.prog w 0 (fun _ => true) true n 3 (([c0, c1].drop 0).take (Try.prog.cellsOf 3)) = some y0 := hf 0 _ rfl
  rw [show Try.prog.cellsOf 3 = 1 from by kernel_rfl] at g0
  have g0 : DataW.trod enc Try.prog w 0 (fun _ => true) true n 3 [c0] = some y0 := g0
  have g1 : DataW.trod enc Try.prog w 0 (fun _ => true) true n 3 (([c0, c1].drop 1).take (Try.prog.cellsOf 3)) = some y1 := hf 1 _ rfl
  rw [show Try.prog.cellsOf 3 = 1 from by kernel_rfl] at g1
  have g1 : DataW.trod enc Try.prog w 0 (fun _ => true) true n 3 [c1] = some y1 := g1
  obtain ⟨w0, e0, _, _⟩ := DataW.trod_int Try.underlying3 g0
  cases e0
  obtain ⟨w1, e1, _, _⟩ := DataW.trod_int Try.underlying3 g1
  cases e1
  exact ⟨_, _, rfl⟩
theorem tr_84 {fuel : Nat} {cs : List Value} {x : DataW H × List MemPlace} (h : DataW.trod enc Try.prog w 0 (fun _ => true) true fuel 84 cs = some x) : ∃ (v0 : Int) (v1_0 : Int) (v1_1 : Int), cs = [.int .i64 v0, .int .i64 v1_0, .int .i64 v1_1] := by
  obtain ⟨xs, n, rfl, rfl, hl, hlen, hf⟩ := DataW.trod_struct Try.underlying84 h
  rw [show Try.prog.cellsOf 84 = 3 from by kernel_rfl] at hl
  have hlen : xs.length = 2 := hlen
  obtain ⟨c0, c1, c2, rfl⟩ := len3 hl
  obtain ⟨y0, y1, rfl⟩ := len2 hlen
  have g0 : DataW.trod enc Try.prog w 0 (fun _ => true) true n 3 (([c0, c1, c2].drop 0).take (Try.prog.cellsOf 3)) = some y0 := hf 0 _ rfl
  rw [show Try.prog.cellsOf 3 = 1 from by kernel_rfl] at g0
  have g0 : DataW.trod enc Try.prog w 0 (fun _ => true) true n 3 [c0] = some y0 := g0
  have g1 : DataW.trod enc Try.prog w 0 (fun _ => true) true n 38 (([c0, c1, c2].drop 1).take (Try.prog.cellsOf 38)) = some y1 := hf 1 _ rfl
  rw [show Try.prog.cellsOf 38 = 2 from by kernel_rfl] at g1
  have g1 : DataW.trod enc Try.prog w 0 (fun _ => true) true n 38 [c1, c2] = some y1 := g1
  obtain ⟨w0, e0, _, _⟩ := DataW.trod_int Try.underlying3 g0
  cases e0
  obtain ⟨s1_0, s1_1, e1⟩ := tr_38 g1
  cases e1
  exact ⟨_, _, _, rfl⟩
theorem tr_87 {fuel : Nat} {cs : List Value} {x : DataW H × List MemPlace} (h : DataW.trod enc Try.prog w 0 (fun _ => true) true fuel 87 cs = some x) : ∃ (v0 : Int) (v1 : Int), cs = [.int .i64 v0, .int .i64 v1] := by
  obtain ⟨xs, n, rfl, rfl, hl, hlen, hf⟩ := DataW.trod_struct Try.underlying87 h
  rw [show Try.prog.cellsOf 87 = 2 from by kernel_rfl] at hl
  have hlen : xs.length = 2 := hlen
  obtain ⟨c0, c1, rfl⟩ := len2 hl
  obtain ⟨y0, y1, rfl⟩ := len2 hlen
  have g0 : DataW.trod enc Try.prog w 0 (fun _ => true) true n 3 (([c0, c1].drop 0).take (Try.prog.cellsOf 3)) = some y0 := hf 0 _ rfl
  rw [show Try.prog.cellsOf 3 = 1 from by kernel_rfl] at g0
  have g0 : DataW.trod enc Try.prog w 0 (fun _ => true) true n 3 [c0] = some y0 := g0
  have g1 : DataW.trod enc Try.prog w 0 (fun _ => true) true n 3 (([c0, c1].drop 1).take (Try.prog.cellsOf 3)) = some y1 := hf 1 _ rfl
  rw [show Try.prog.cellsOf 3 = 1 from by kernel_rfl] at g1
  have g1 : DataW.trod enc Try.prog w 0 (fun _ => true) true n 3 [c1] = some y1 := g1
  obtain ⟨w0, e0, _, _⟩ := DataW.trod_int Try.underlying3 g0
  cases e0
  obtain ⟨w1, e1, _, _⟩ := DataW.trod_int Try.underlying3 g1
  cases e1
  exact ⟨_, _, rfl⟩
theorem tr_91 {fuel : Nat} {cs : List Value} {x : DataW H × List MemPlace} (h : DataW.trod enc Try.prog w 0 (fun _ => true) true fuel 91 cs = some x) : ∃ (v0 : Int) (v1 : Int) (v2 : Int) (v3 : Int) (v4 : Int) (v5 : Int) (v6 : Int) (v7_0 : Int) (v7_1 : Int) (v8 : Bool) (v9 : Int), cs = [.int .i64 v0, .int .i64 v1, .int .i64 v2, .int .i64 v3, .int .i64 v4, .int .i64 v5, .int .i64 v6, .int .i64 v7_0, .int .i64 v7_1, .bool v8, .int .i64 v9] := by
  obtain ⟨xs, n, rfl, rfl, hl, hlen, hf⟩ := DataW.trod_struct Try.underlying91 h
  rw [show Try.prog.cellsOf 91 = 11 from by kernel_rfl] at hl
  have hlen : xs.length = 10 := hlen
  obtain ⟨c0, c1, c2, c3, c4, c5, c6, c7, c8, c9, c10, rfl⟩ := len11 hl
  obtain ⟨y0, y1, y2, y3, y4, y5, y6, y7, y8, y9, rfl⟩ := len10 hlen
  have g0 : DataW.trod enc Try.prog w 0 (fun _ => true) true n 3 (([c0, c1, c2, c3, c4, c5, c6, c7, c8, c9, c10].drop 0).take (Try.prog.cellsOf 3)) = some y0 := hf 0 _ rfl
  rw [show Try.prog.cellsOf 3 = 1 from by kernel_rfl] at g0
  have g0 : DataW.trod enc Try.prog w 0 (fun _ => true) true n 3 [c0] = some y0 := g0
  have g1 : DataW.trod enc Try.prog w 0 (fun _ => true) true n 3 (([c0, c1, c2, c3, c4, c5, c6, c7, c8, c9, c10].drop 1).take (Try.prog.cellsOf 3)) = some y1 := hf 1 _ rfl
  rw [show Try.prog.cellsOf 3 = 1 from by kernel_rfl] at g1
  have g1 : DataW.trod enc Try.prog w 0 (fun _ => true) true n 3 [c1] = some y1 := g1
  have g2 : DataW.trod enc Try.prog w 0 (fun _ => true) true n 3 (([c0, c1, c2, c3, c4, c5, c6, c7, c8, c9, c10].drop 2).take (Try.prog.cellsOf 3)) = some y2 := hf 2 _ rfl
  rw [show Try.prog.cellsOf 3 = 1 from by kernel_rfl] at g2
  have g2 : DataW.trod enc Try.prog w 0 (fun _ => true) true n 3 [c2] = some y2 := g2
  have g3 : DataW.trod enc Try.prog w 0 (fun _ => true) true n 3 (([c0, c1, c2, c3, c4, c5, c6, c7, c8, c9, c10].drop 3).take (Try.prog.cellsOf 3)) = some y3 := hf 3 _ rfl
  rw [show Try.prog.cellsOf 3 = 1 from by kernel_rfl] at g3
  have g3 : DataW.trod enc Try.prog w 0 (fun _ => true) true n 3 [c3] = some y3 := g3
  have g4 : DataW.trod enc Try.prog w 0 (fun _ => true) true n 3 (([c0, c1, c2, c3, c4, c5, c6, c7, c8, c9, c10].drop 4).take (Try.prog.cellsOf 3)) = some y4 := hf 4 _ rfl
  rw [show Try.prog.cellsOf 3 = 1 from by kernel_rfl] at g4
  have g4 : DataW.trod enc Try.prog w 0 (fun _ => true) true n 3 [c4] = some y4 := g4
  have g5 : DataW.trod enc Try.prog w 0 (fun _ => true) true n 3 (([c0, c1, c2, c3, c4, c5, c6, c7, c8, c9, c10].drop 5).take (Try.prog.cellsOf 3)) = some y5 := hf 5 _ rfl
  rw [show Try.prog.cellsOf 3 = 1 from by kernel_rfl] at g5
  have g5 : DataW.trod enc Try.prog w 0 (fun _ => true) true n 3 [c5] = some y5 := g5
  have g6 : DataW.trod enc Try.prog w 0 (fun _ => true) true n 3 (([c0, c1, c2, c3, c4, c5, c6, c7, c8, c9, c10].drop 6).take (Try.prog.cellsOf 3)) = some y6 := hf 6 _ rfl
  rw [show Try.prog.cellsOf 3 = 1 from by kernel_rfl] at g6
  have g6 : DataW.trod enc Try.prog w 0 (fun _ => true) true n 3 [c6] = some y6 := g6
  have g7 : DataW.trod enc Try.prog w 0 (fun _ => true) true n 38 (([c0, c1, c2, c3, c4, c5, c6, c7, c8, c9, c10].drop 7).take (Try.prog.cellsOf 38)) = some y7 := hf 7 _ rfl
  rw [show Try.prog.cellsOf 38 = 2 from by kernel_rfl] at g7
  have g7 : DataW.trod enc Try.prog w 0 (fun _ => true) true n 38 [c7, c8] = some y7 := g7
  have g8 : DataW.trod enc Try.prog w 0 (fun _ => true) true n 4 (([c0, c1, c2, c3, c4, c5, c6, c7, c8, c9, c10].drop 9).take (Try.prog.cellsOf 4)) = some y8 := hf 8 _ rfl
  rw [show Try.prog.cellsOf 4 = 1 from by kernel_rfl] at g8
  have g8 : DataW.trod enc Try.prog w 0 (fun _ => true) true n 4 [c9] = some y8 := g8
  have g9 : DataW.trod enc Try.prog w 0 (fun _ => true) true n 3 (([c0, c1, c2, c3, c4, c5, c6, c7, c8, c9, c10].drop 10).take (Try.prog.cellsOf 3)) = some y9 := hf 9 _ rfl
  rw [show Try.prog.cellsOf 3 = 1 from by kernel_rfl] at g9
  have g9 : DataW.trod enc Try.prog w 0 (fun _ => true) true n 3 [c10] = some y9 := g9
  obtain ⟨w0, e0, _, _⟩ := DataW.trod_int Try.underlying3 g0
  cases e0
  obtain ⟨w1, e1, _, _⟩ := DataW.trod_int Try.underlying3 g1
  cases e1
  obtain ⟨w2, e2, _, _⟩ := DataW.trod_int Try.underlying3 g2
  cases e2
  obtain ⟨w3, e3, _, _⟩ := DataW.trod_int Try.underlying3 g3
  cases e3
  obtain ⟨w4, e4, _, _⟩ := DataW.trod_int Try.underlying3 g4
  cases e4
  obtain ⟨w5, e5, _, _⟩ := DataW.trod_int Try.underlying3 g5
  cases e5
  obtain ⟨w6, e6, _, _⟩ := DataW.trod_int Try.underlying3 g6
  cases e6
  obtain ⟨s7_0, s7_1, e7⟩ := tr_38 g7
  cases e7
  obtain ⟨w8, e8, _⟩ := DataW.trod_bool Try.underlying4 g8
  cases e8
  obtain ⟨w9, e9, _, _⟩ := DataW.trod_int Try.underlying3 g9
  cases e9
  exact ⟨_, _, _, _, _, _, _, _, _, _, _, rfl⟩
theorem one_3 {fuel : Nat} {cs : List Value} {x : DataW H × List MemPlace} (h : DataW.trod enc Try.prog w 0 (fun _ => true) true fuel 3 cs = some x) : cs.length = 1 ∧ ∀ u ∈ cs, u.oneCell' = true := by
  obtain ⟨w0, rfl, _, _⟩ := DataW.trod_int Try.underlying3 h
  exact ⟨rfl, fun u hu => by rw [List.mem_singleton.1 hu]; rfl⟩
theorem one_84 {fuel : Nat} {cs : List Value} {x : DataW H × List MemPlace} (h : DataW.trod enc Try.prog w 0 (fun _ => true) true fuel 84 cs = some x) : cs.length = 3 ∧ ∀ u ∈ cs, u.oneCell' = true := by
  obtain ⟨v0, v1_0, v1_1, rfl⟩ := tr_84 h
  refine ⟨rfl, fun u hu => ?_⟩
  simp only [List.mem_cons, List.not_mem_nil, or_false] at hu
  rcases hu with h | h | h <;> (subst h; rfl)
theorem one_87 {fuel : Nat} {cs : List Value} {x : DataW H × List MemPlace} (h : DataW.trod enc Try.prog w 0 (fun _ => true) true fuel 87 cs = some x) : cs.length = 2 ∧ ∀ u ∈ cs, u.oneCell' = true := by
  obtain ⟨v0, v1, rfl⟩ := tr_87 h
  refine ⟨rfl, fun u hu => ?_⟩
  simp only [List.mem_cons, List.not_mem_nil, or_false] at hu
  rcases hu with h | h <;> (subst h; rfl)
theorem one_91 {fuel : Nat} {cs : List Value} {x : DataW H × List MemPlace} (h : DataW.trod enc Try.prog w 0 (fun _ => true) true fuel 91 cs = some x) : cs.length = 11 ∧ ∀ u ∈ cs, u.oneCell' = true := by
  obtain ⟨v0, v1, v2, v3, v4, v5, v6, v7_0, v7_1, v8, v9, rfl⟩ := tr_91 h
  refine ⟨rfl, fun u hu => ?_⟩
  simp only [List.mem_cons, List.not_mem_nil, or_false] at hu
  rcases hu with h | h | h | h | h | h | h | h | h | h | h <;> (subst h; rfl)
theorem tr_l34 {fuel : Nat} {cs : List Value} {x : DataW H × List MemPlace} (h : DataW.trod enc Try.prog w 0 (fun _ => true) true fuel 34 cs = some x) (hw : Rows.uptoBulk x.1 ≤ 1048576) : ∃ v, cs = [v] ∧ NsR w w 3 v :=
  tr_list Try.underlying34 (by kernel_rfl) (by decide) (fun h => one_84 h) h hw
theorem tr_l41 {fuel : Nat} {cs : List Value} {x : DataW H × List MemPlace} (h : DataW.trod enc Try.prog w 0 (fun _ => true) true fuel 41 cs = some x) (hw : Rows.uptoBulk x.1 ≤ 1048576) : ∃ v, cs = [v] ∧ NsR w w 2 v :=
  tr_list Try.underlying41 (by kernel_rfl) (by decide) (fun h => one_87 h) h hw
theorem tr_l42 {fuel : Nat} {cs : List Value} {x : DataW H × List MemPlace} (h : DataW.trod enc Try.prog w 0 (fun _ => true) true fuel 42 cs = some x) (hw : Rows.uptoBulk x.1 ≤ 1048576) : ∃ v, cs = [v] ∧ NsR w w 1 v :=
  tr_list Try.underlying42 (by kernel_rfl) (by decide) (fun h => one_3 h) h hw
theorem tr_l43 {fuel : Nat} {cs : List Value} {x : DataW H × List MemPlace} (h : DataW.trod enc Try.prog w 0 (fun _ => true) true fuel 43 cs = some x) (hw : Rows.uptoBulk x.1 ≤ 1048576) : ∃ v, cs = [v] ∧ NsR w w 11 v :=
  tr_list Try.underlying43 (by kernel_rfl) (by decide) (fun h => one_91 h) h hw
theorem tr_36 {fuel : Nat} {cs : List Value} {x : DataW H × List MemPlace} (h : DataW.trod enc Try.prog w 0 (fun _ => true) true fuel 36 cs = some x) (hw : Rows.uptoBulk x.1 ≤ 1048576) : ∃ (v0 : Int) (v1 : Int) (v2 : Int) (v3 : Int) (v4 : Value) (v5 : Int) (v6 : Bool), cs = [.int .i64 v0, .int .i64 v1, .int .i64 v2, .int .i64 v3, v4, .int .i64 v5, .bool v6] ∧ NsR w w 3 v4 := by
  obtain ⟨xs, n, rfl, rfl, hl, hlen, hf⟩ := DataW.trod_struct Try.underlying36 h
  rw [show Try.prog.cellsOf 36 = 7 from by kernel_rfl] at hl
  have hlen : xs.length = 7 := hlen
  obtain ⟨c0, c1, c2, c3, c4, c5, c6, rfl⟩ := len7 hl
  obtain ⟨y0, y1, y2, y3, y4, y5, y6, rfl⟩ := len7 hlen
  have g0 : DataW.trod enc Try.prog w 0 (fun _ => true) true n 3 (([c0, c1, c2, c3, c4, c5, c6].drop 0).take (Try.prog.cellsOf 3)) = some y0 := hf 0 _ rfl
  rw [show Try.prog.cellsOf 3 = 1 from by kernel_rfl] at g0
  have g0 : DataW.trod enc Try.prog w 0 (fun _ => true) true n 3 [c0] = some y0 := g0
  have g1 : DataW.trod enc Try.prog w 0 (fun _ => true) true n 3 (([c0, c1, c2, c3, c4, c5, c6].drop 1).take (Try.prog.cellsOf 3)) = some y1 := hf 1 _ rfl
  rw [show Try.prog.cellsOf 3 = 1 from by kernel_rfl] at g1
  have g1 : DataW.trod enc Try.prog w 0 (fun _ => true) true n 3 [c1] = some y1 := g1
  have g2 : DataW.trod enc Try.prog w 0 (fun _ => true) true n 3 (([c0, c1, c2, c3, c4, c5, c6].drop 2).take (Try.prog.cellsOf 3)) = some y2 := hf 2 _ rfl
  rw [show Try.prog.cellsOf 3 = 1 from by kernel_rfl] at g2
  have g2 : DataW.trod enc Try.prog w 0 (fun _ => true) true n 3 [c2] = some y2 := g2
  have g3 : DataW.trod enc Try.prog w 0 (fun _ => true) true n 3 (([c0, c1, c2, c3, c4, c5, c6].drop 3).take (Try.prog.cellsOf 3)) = some y3 := hf 3 _ rfl
  rw [show Try.prog.cellsOf 3 = 1 from by kernel_rfl] at g3
  have g3 : DataW.trod enc Try.prog w 0 (fun _ => true) true n 3 [c3] = some y3 := g3
  have g4 : DataW.trod enc Try.prog w 0 (fun _ => true) true n 34 (([c0, c1, c2, c3, c4, c5, c6].drop 4).take (Try.prog.cellsOf 34)) = some y4 := hf 4 _ rfl
  rw [show Try.prog.cellsOf 34 = 1 from by kernel_rfl] at g4
  have g4 : DataW.trod enc Try.prog w 0 (fun _ => true) true n 34 [c4] = some y4 := g4
  have g5 : DataW.trod enc Try.prog w 0 (fun _ => true) true n 3 (([c0, c1, c2, c3, c4, c5, c6].drop 5).take (Try.prog.cellsOf 3)) = some y5 := hf 5 _ rfl
  rw [show Try.prog.cellsOf 3 = 1 from by kernel_rfl] at g5
  have g5 : DataW.trod enc Try.prog w 0 (fun _ => true) true n 3 [c5] = some y5 := g5
  have g6 : DataW.trod enc Try.prog w 0 (fun _ => true) true n 4 (([c0, c1, c2, c3, c4, c5, c6].drop 6).take (Try.prog.cellsOf 4)) = some y6 := hf 6 _ rfl
  rw [show Try.prog.cellsOf 4 = 1 from by kernel_rfl] at g6
  have g6 : DataW.trod enc Try.prog w 0 (fun _ => true) true n 4 [c6] = some y6 := g6
  obtain ⟨w0, e0, _, _⟩ := DataW.trod_int Try.underlying3 g0
  cases e0
  obtain ⟨w1, e1, _, _⟩ := DataW.trod_int Try.underlying3 g1
  cases e1
  obtain ⟨w2, e2, _, _⟩ := DataW.trod_int Try.underlying3 g2
  cases e2
  obtain ⟨w3, e3, _, _⟩ := DataW.trod_int Try.underlying3 g3
  cases e3
  obtain ⟨w4, e4, m4⟩ := tr_l34 g4 (by
    have := bulk_mem (d := y4.1) (l := [y0, y1, y2, y3, y4, y5, y6].map (·.1)) (by simp)
    simp only [Rows.uptoBulk] at hw
    omega)
  cases e4
  obtain ⟨w5, e5, _, _⟩ := DataW.trod_int Try.underlying3 g5
  cases e5
  obtain ⟨w6, e6, _⟩ := DataW.trod_bool Try.underlying4 g6
  cases e6
  exact ⟨_, _, _, _, _, _, _, rfl, m4⟩
theorem tr_40 {fuel : Nat} {cs : List Value} {x : DataW H × List MemPlace} (h : DataW.trod enc Try.prog w 0 (fun _ => true) true fuel 40 cs = some x) : ∃ (v0 : Int) (v1_0 : Int) (v1_1 : Int) (v2 : Bool) (v3 : Bool) (v4 : Int) (v5 : Int) (v6 : Int), cs = [.int .i64 v0, .int .i64 v1_0, .int .i64 v1_1, .bool v2, .bool v3, .int .i64 v4, .int .i64 v5, .int .i64 v6] := by
  obtain ⟨xs, n, rfl, rfl, hl, hlen, hf⟩ := DataW.trod_struct Try.underlying40 h
  rw [show Try.prog.cellsOf 40 = 8 from by kernel_rfl] at hl
  have hlen : xs.length = 7 := hlen
  obtain ⟨c0, c1, c2, c3, c4, c5, c6, c7, rfl⟩ := len8 hl
  obtain ⟨y0, y1, y2, y3, y4, y5, y6, rfl⟩ := len7 hlen
  have g0 : DataW.trod enc Try.prog w 0 (fun _ => true) true n 3 (([c0, c1, c2, c3, c4, c5, c6, c7].drop 0).take (Try.prog.cellsOf 3)) = some y0 := hf 0 _ rfl
  rw [show Try.prog.cellsOf 3 = 1 from by kernel_rfl] at g0
  have g0 : DataW.trod enc Try.prog w 0 (fun _ => true) true n 3 [c0] = some y0 := g0
  have g1 : DataW.trod enc Try.prog w 0 (fun _ => true) true n 38 (([c0, c1, c2, c3, c4, c5, c6, c7].drop 1).take (Try.prog.cellsOf 38)) = some y1 := hf 1 _ rfl
  rw [show Try.prog.cellsOf 38 = 2 from by kernel_rfl] at g1
  have g1 : DataW.trod enc Try.prog w 0 (fun _ => true) true n 38 [c1, c2] = some y1 := g1
  have g2 : DataW.trod enc Try.prog w 0 (fun _ => true) true n 4 (([c0, c1, c2, c3, c4, c5, c6, c7].drop 3).take (Try.prog.cellsOf 4)) = some y2 := hf 2 _ rfl
  rw [show Try.prog.cellsOf 4 = 1 from by kernel_rfl] at g2
  have g2 : DataW.trod enc Try.prog w 0 (fun _ => true) true n 4 [c3] = some y2 := g2
  have g3 : DataW.trod enc Try.prog w 0 (fun _ => true) true n 4 (([c0, c1, c2, c3, c4, c5, c6, c7].drop 4).take (Try.prog.cellsOf 4)) = some y3 := hf 3 _ rfl
  rw [show Try.prog.cellsOf 4 = 1 from by kernel_rfl] at g3
  have g3 : DataW.trod enc Try.prog w 0 (fun _ => true) true n 4 [c4] = some y3 := g3
  have g4 : DataW.trod enc Try.prog w 0 (fun _ => true) true n 3 (([c0, c1, c2, c3, c4, c5, c6, c7].drop 5).take (Try.prog.cellsOf 3)) = some y4 := hf 4 _ rfl
  rw [show Try.prog.cellsOf 3 = 1 from by kernel_rfl] at g4
  have g4 : DataW.trod enc Try.prog w 0 (fun _ => true) true n 3 [c5] = some y4 := g4
  have g5 : DataW.trod enc Try.prog w 0 (fun _ => true) true n 3 (([c0, c1, c2, c3, c4, c5, c6, c7].drop 6).take (Try.prog.cellsOf 3)) = some y5 := hf 5 _ rfl
  rw [show Try.prog.cellsOf 3 = 1 from by kernel_rfl] at g5
  have g5 : DataW.trod enc Try.prog w 0 (fun _ => true) true n 3 [c6] = some y5 := g5
  have g6 : DataW.trod enc Try.prog w 0 (fun _ => true) true n 3 (([c0, c1, c2, c3, c4, c5, c6, c7].drop 7).take (Try.prog.cellsOf 3)) = some y6 := hf 6 _ rfl
  rw [show Try.prog.cellsOf 3 = 1 from by kernel_rfl] at g6
  have g6 : DataW.trod enc Try.prog w 0 (fun _ => true) true n 3 [c7] = some y6 := g6
  obtain ⟨w0, e0, _, _⟩ := DataW.trod_int Try.underlying3 g0
  cases e0
  obtain ⟨s1_0, s1_1, e1⟩ := tr_38 g1
  cases e1
  obtain ⟨w2, e2, _⟩ := DataW.trod_bool Try.underlying4 g2
  cases e2
  obtain ⟨w3, e3, _⟩ := DataW.trod_bool Try.underlying4 g3
  cases e3
  obtain ⟨w4, e4, _, _⟩ := DataW.trod_int Try.underlying3 g4
  cases e4
  obtain ⟨w5, e5, _, _⟩ := DataW.trod_int Try.underlying3 g5
  cases e5
  obtain ⟨w6, e6, _, _⟩ := DataW.trod_int Try.underlying3 g6
  cases e6
  exact ⟨_, _, _, _, _, _, _, _, rfl⟩
theorem tr_45 {fuel : Nat} {cs : List Value} {x : DataW H × List MemPlace} (h : DataW.trod enc Try.prog w 0 (fun _ => true) true fuel 45 cs = some x) (hw : Rows.uptoBulk x.1 ≤ 1048576) : ∃ (v0 : Int) (v1 : Int) (v2 : Int) (v3 : Value) (v4 : Value) (v5 : Bool), cs = [.int .i64 v0, .int .i64 v1, .int .i64 v2, v3, v4, .bool v5] ∧ NsR w w 1 v3 ∧ NsR w w 11 v4 := by
  obtain ⟨xs, n, rfl, rfl, hl, hlen, hf⟩ := DataW.trod_struct Try.underlying45 h
  rw [show Try.prog.cellsOf 45 = 6 from by kernel_rfl] at hl
  have hlen : xs.length = 6 := hlen
  obtain ⟨c0, c1, c2, c3, c4, c5, rfl⟩ := len6 hl
  obtain ⟨y0, y1, y2, y3, y4, y5, rfl⟩ := len6 hlen
  have g0 : DataW.trod enc Try.prog w 0 (fun _ => true) true n 3 (([c0, c1, c2, c3, c4, c5].drop 0).take (Try.prog.cellsOf 3)) = some y0 := hf 0 _ rfl
  rw [show Try.prog.cellsOf 3 = 1 from by kernel_rfl] at g0
  have g0 : DataW.trod enc Try.prog w 0 (fun _ => true) true n 3 [c0] = some y0 := g0
  have g1 : DataW.trod enc Try.prog w 0 (fun _ => true) true n 3 (([c0, c1, c2, c3, c4, c5].drop 1).take (Try.prog.cellsOf 3)) = some y1 := hf 1 _ rfl
  rw [show Try.prog.cellsOf 3 = 1 from by kernel_rfl] at g1
  have g1 : DataW.trod enc Try.prog w 0 (fun _ => true) true n 3 [c1] = some y1 := g1
  have g2 : DataW.trod enc Try.prog w 0 (fun _ => true) true n 3 (([c0, c1, c2, c3, c4, c5].drop 2).take (Try.prog.cellsOf 3)) = some y2 := hf 2 _ rfl
  rw [show Try.prog.cellsOf 3 = 1 from by kernel_rfl] at g2
  have g2 : DataW.trod enc Try.prog w 0 (fun _ => true) true n 3 [c2] = some y2 := g2
  have g3 : DataW.trod enc Try.prog w 0 (fun _ => true) true n 42 (([c0, c1, c2, c3, c4, c5].drop 3).take (Try.prog.cellsOf 42)) = some y3 := hf 3 _ rfl
  rw [show Try.prog.cellsOf 42 = 1 from by kernel_rfl] at g3
  have g3 : DataW.trod enc Try.prog w 0 (fun _ => true) true n 42 [c3] = some y3 := g3
  have g4 : DataW.trod enc Try.prog w 0 (fun _ => true) true n 43 (([c0, c1, c2, c3, c4, c5].drop 4).take (Try.prog.cellsOf 43)) = some y4 := hf 4 _ rfl
  rw [show Try.prog.cellsOf 43 = 1 from by kernel_rfl] at g4
  have g4 : DataW.trod enc Try.prog w 0 (fun _ => true) true n 43 [c4] = some y4 := g4
  have g5 : DataW.trod enc Try.prog w 0 (fun _ => true) true n 4 (([c0, c1, c2, c3, c4, c5].drop 5).take (Try.prog.cellsOf 4)) = some y5 := hf 5 _ rfl
  rw [show Try.prog.cellsOf 4 = 1 from by kernel_rfl] at g5
  have g5 : DataW.trod enc Try.prog w 0 (fun _ => true) true n 4 [c5] = some y5 := g5
  obtain ⟨w0, e0, _, _⟩ := DataW.trod_int Try.underlying3 g0
  cases e0
  obtain ⟨w1, e1, _, _⟩ := DataW.trod_int Try.underlying3 g1
  cases e1
  obtain ⟨w2, e2, _, _⟩ := DataW.trod_int Try.underlying3 g2
  cases e2
  obtain ⟨w3, e3, m3⟩ := tr_l42 g3 (by
    have := bulk_mem (d := y3.1) (l := [y0, y1, y2, y3, y4, y5].map (·.1)) (by simp)
    simp only [Rows.uptoBulk] at hw
    omega)
  cases e3
  obtain ⟨w4, e4, m4⟩ := tr_l43 g4 (by
    have := bulk_mem (d := y4.1) (l := [y0, y1, y2, y3, y4, y5].map (·.1)) (by simp)
    simp only [Rows.uptoBulk] at hw
    omega)
  cases e4
  obtain ⟨w5, e5, _⟩ := DataW.trod_bool Try.underlying4 g5
  cases e5
  exact ⟨_, _, _, _, _, _, rfl, m3, m4⟩
theorem tr_47 {fuel : Nat} {cs : List Value} {x : DataW H × List MemPlace} (h : DataW.trod enc Try.prog w 0 (fun _ => true) true fuel 47 cs = some x) (hw : Rows.uptoBulk x.1 ≤ 1048576) : ∃ (v0 : Value) (v1 : Value), cs = [v0, v1] ∧ NsR w w 1 v0 ∧ NsR w w 1 v1 := by
  obtain ⟨xs, n, rfl, rfl, hl, hlen, hf⟩ := DataW.trod_struct Try.underlying47 h
  rw [show Try.prog.cellsOf 47 = 2 from by kernel_rfl] at hl
  have hlen : xs.length = 2 := hlen
  obtain ⟨c0, c1, rfl⟩ := len2 hl
  obtain ⟨y0, y1, rfl⟩ := len2 hlen
  have g0 : DataW.trod enc Try.prog w 0 (fun _ => true) true n 42 (([c0, c1].drop 0).take (Try.prog.cellsOf 42)) = some y0 := hf 0 _ rfl
  rw [show Try.prog.cellsOf 42 = 1 from by kernel_rfl] at g0
  have g0 : DataW.trod enc Try.prog w 0 (fun _ => true) true n 42 [c0] = some y0 := g0
  have g1 : DataW.trod enc Try.prog w 0 (fun _ => true) true n 42 (([c0, c1].drop 1).take (Try.prog.cellsOf 42)) = some y1 := hf 1 _ rfl
  rw [show Try.prog.cellsOf 42 = 1 from by kernel_rfl] at g1
  have g1 : DataW.trod enc Try.prog w 0 (fun _ => true) true n 42 [c1] = some y1 := g1
  obtain ⟨w0, e0, m0⟩ := tr_l42 g0 (by
    have := bulk_mem (d := y0.1) (l := [y0, y1].map (·.1)) (by simp)
    simp only [Rows.uptoBulk] at hw
    omega)
  cases e0
  obtain ⟨w1, e1, m1⟩ := tr_l42 g1 (by
    have := bulk_mem (d := y1.1) (l := [y0, y1].map (·.1)) (by simp)
    simp only [Rows.uptoBulk] at hw
    omega)
  cases e1
  exact ⟨_, _, rfl, m0, m1⟩
theorem tr_49 {fuel : Nat} {cs : List Value} {x : DataW H × List MemPlace} (h : DataW.trod enc Try.prog w 0 (fun _ => true) true fuel 49 cs = some x) (hw : Rows.uptoBulk x.1 ≤ 1048576) : ∃ (v0 : Int) (v1 : Int) (v2 : Int) (v3_0 : Int) (v3_1 : Int) (v3_2 : Int) (v3_3 : Int) (v3_4 : Value) (v3_5 : Int) (v3_6 : Bool) (v4_0 : Int) (v4_1_0 : Int) (v4_1_1 : Int) (v4_2 : Bool) (v4_3 : Bool) (v4_4 : Int) (v4_5 : Int) (v4_6 : Int) (v5 : Value) (v6_0 : Int) (v6_1 : Int) (v6_2 : Int) (v6_3 : Value) (v6_4 : Value) (v6_5 : Bool) (v7_0 : Value) (v7_1 : Value), cs = [.int .i64 v0, .int .i64 v1, .int .i64 v2, .int .i64 v3_0, .int .i64 v3_1, .int .i64 v3_2, .int .i64 v3_3, v3_4, .int .i64 v3_5, .bool v3_6, .int .i64 v4_0, .int .i64 v4_1_0, .int .i64 v4_1_1, .bool v4_2, .bool v4_3, .int .i64 v4_4, .int .i64 v4_5, .int .i64 v4_6, v5, .int .i64 v6_0, .int .i64 v6_1, .int .i64 v6_2, v6_3, v6_4, .bool v6_5, v7_0, v7_1] ∧ NsR w w 3 v3_4 ∧ NsR w w 2 v5 ∧ NsR w w 1 v6_3 ∧ NsR w w 11 v6_4 ∧ NsR w w 1 v7_0 ∧ NsR w w 1 v7_1 := by
  obtain ⟨xs, n, rfl, rfl, hl, hlen, hf⟩ := DataW.trod_struct Try.underlying49 h
  rw [show Try.prog.cellsOf 49 = 27 from by kernel_rfl] at hl
  have hlen : xs.length = 8 := hlen
  obtain ⟨c0, c1, c2, c3, c4, c5, c6, c7, c8, c9, c10, c11, c12, c13, c14, c15, c16, c17, c18, c19, c20, c21, c22, c23, c24, c25, c26, rfl⟩ := len27 hl
  obtain ⟨y0, y1, y2, y3, y4, y5, y6, y7, rfl⟩ := len8 hlen
  have g0 : DataW.trod enc Try.prog w 0 (fun _ => true) true n 3 (([c0, c1, c2, c3, c4, c5, c6, c7, c8, c9, c10, c11, c12, c13, c14, c15, c16, c17, c18, c19, c20, c21, c22, c23, c24, c25, c26].drop 0).take (Try.prog.cellsOf 3)) = some y0 := hf 0 _ rfl
  rw [show Try.prog.cellsOf 3 = 1 from by kernel_rfl] at g0
  have g0 : DataW.trod enc Try.prog w 0 (fun _ => true) true n 3 [c0] = some y0 := g0
  have g1 : DataW.trod enc Try.prog w 0 (fun _ => true) true n 3 (([c0, c1, c2, c3, c4, c5, c6, c7, c8, c9, c10, c11, c12, c13, c14, c15, c16, c17, c18, c19, c20, c21, c22, c23, c24, c25, c26].drop 1).take (Try.prog.cellsOf 3)) = some y1 := hf 1 _ rfl
  rw [show Try.prog.cellsOf 3 = 1 from by kernel_rfl] at g1
  have g1 : DataW.trod enc Try.prog w 0 (fun _ => true) true n 3 [c1] = some y1 := g1
  have g2 : DataW.trod enc Try.prog w 0 (fun _ => true) true n 3 (([c0, c1, c2, c3, c4, c5, c6, c7, c8, c9, c10, c11, c12, c13, c14, c15, c16, c17, c18, c19, c20, c21, c22, c23, c24, c25, c26].drop 2).take (Try.prog.cellsOf 3)) = some y2 := hf 2 _ rfl
  rw [show Try.prog.cellsOf 3 = 1 from by kernel_rfl] at g2
  have g2 : DataW.trod enc Try.prog w 0 (fun _ => true) true n 3 [c2] = some y2 := g2
  have g3 : DataW.trod enc Try.prog w 0 (fun _ => true) true n 36 (([c0, c1, c2, c3, c4, c5, c6, c7, c8, c9, c10, c11, c12, c13, c14, c15, c16, c17, c18, c19, c20, c21, c22, c23, c24, c25, c26].drop 3).take (Try.prog.cellsOf 36)) = some y3 := hf 3 _ rfl
  rw [show Try.prog.cellsOf 36 = 7 from by kernel_rfl] at g3
  have g3 : DataW.trod enc Try.prog w 0 (fun _ => true) true n 36 [c3, c4, c5, c6, c7, c8, c9] = some y3 := g3
  have g4 : DataW.trod enc Try.prog w 0 (fun _ => true) true n 40 (([c0, c1, c2, c3, c4, c5, c6, c7, c8, c9, c10, c11, c12, c13, c14, c15, c16, c17, c18, c19, c20, c21, c22, c23, c24, c25, c26].drop 10).take (Try.prog.cellsOf 40)) = some y4 := hf 4 _ rfl
  rw [show Try.prog.cellsOf 40 = 8 from by kernel_rfl] at g4
  have g4 : DataW.trod enc Try.prog w 0 (fun _ => true) true n 40 [c10, c11, c12, c13, c14, c15, c16, c17] = some y4 := g4
  have g5 : DataW.trod enc Try.prog w 0 (fun _ => true) true n 41 (([c0, c1, c2, c3, c4, c5, c6, c7, c8, c9, c10, c11, c12, c13, c14, c15, c16, c17, c18, c19, c20, c21, c22, c23, c24, c25, c26].drop 18).take (Try.prog.cellsOf 41)) = some y5 := hf 5 _ rfl
  rw [show Try.prog.cellsOf 41 = 1 from by kernel_rfl] at g5
  have g5 : DataW.trod enc Try.prog w 0 (fun _ => true) true n 41 [c18] = some y5 := g5
  have g6 : DataW.trod enc Try.prog w 0 (fun _ => true) true n 45 (([c0, c1, c2, c3, c4, c5, c6, c7, c8, c9, c10, c11, c12, c13, c14, c15, c16, c17, c18, c19, c20, c21, c22, c23, c24, c25, c26].drop 19).take (Try.prog.cellsOf 45)) = some y6 := hf 6 _ rfl
  rw [show Try.prog.cellsOf 45 = 6 from by kernel_rfl] at g6
  have g6 : DataW.trod enc Try.prog w 0 (fun _ => true) true n 45 [c19, c20, c21, c22, c23, c24] = some y6 := g6
  have g7 : DataW.trod enc Try.prog w 0 (fun _ => true) true n 47 (([c0, c1, c2, c3, c4, c5, c6, c7, c8, c9, c10, c11, c12, c13, c14, c15, c16, c17, c18, c19, c20, c21, c22, c23, c24, c25, c26].drop 25).take (Try.prog.cellsOf 47)) = some y7 := hf 7 _ rfl
  rw [show Try.prog.cellsOf 47 = 2 from by kernel_rfl] at g7
  have g7 : DataW.trod enc Try.prog w 0 (fun _ => true) true n 47 [c25, c26] = some y7 := g7
  obtain ⟨w0, e0, _, _⟩ := DataW.trod_int Try.underlying3 g0
  cases e0
  obtain ⟨w1, e1, _, _⟩ := DataW.trod_int Try.underlying3 g1
  cases e1
  obtain ⟨w2, e2, _, _⟩ := DataW.trod_int Try.underlying3 g2
  cases e2
  obtain ⟨s3_0, s3_1, s3_2, s3_3, s3_4, s3_5, s3_6, e3, m3_0⟩ := tr_36 g3 (by
    have := bulk_mem (d := y3.1) (l := [y0, y1, y2, y3, y4, y5, y6, y7].map (·.1)) (by simp)
    simp only [Rows.uptoBulk] at hw
    omega)
  cases e3
  obtain ⟨s4_0, s4_1_0, s4_1_1, s4_2, s4_3, s4_4, s4_5, s4_6, e4⟩ := tr_40 g4
  cases e4
  obtain ⟨w5, e5, m5⟩ := tr_l41 g5 (by
    have := bulk_mem (d := y5.1) (l := [y0, y1, y2, y3, y4, y5, y6, y7].map (·.1)) (by simp)
    simp only [Rows.uptoBulk] at hw
    omega)
  cases e5
  obtain ⟨s6_0, s6_1, s6_2, s6_3, s6_4, s6_5, e6, m6_0, m6_1⟩ := tr_45 g6 (by
    have := bulk_mem (d := y6.1) (l := [y0, y1, y2, y3, y4, y5, y6, y7].map (·.1)) (by simp)
    simp only [Rows.uptoBulk] at hw
    omega)
  cases e6
  obtain ⟨s7_0, s7_1, e7, m7_0, m7_1⟩ := tr_47 g7 (by
    have := bulk_mem (d := y7.1) (l := [y0, y1, y2, y3, y4, y5, y6, y7].map (·.1)) (by simp)
    simp only [Rows.uptoBulk] at hw
    omega)
  cases e7
  exact ⟨_, _, _, _, _, _, _, _, _, _, _, _, _, _, _, _, _, _, _, _, _, _, _, _, _, _, _, rfl, m3_0, m5, m6_0, m6_1, m7_0, m7_1⟩
theorem tr_51 {fuel : Nat} {cs : List Value} {x : DataW H × List MemPlace} (h : DataW.trod enc Try.prog w 0 (fun _ => true) true fuel 51 cs = some x) (hw : Rows.uptoBulk x.1 ≤ 1048576) : ∃ (v0 : Int) (v1 : Int) (v2_0 : Int) (v2_1 : Int) (v2_2 : Int) (v2_3_0 : Int) (v2_3_1 : Int) (v2_3_2 : Int) (v2_3_3 : Int) (v2_3_4 : Value) (v2_3_5 : Int) (v2_3_6 : Bool) (v2_4_0 : Int) (v2_4_1_0 : Int) (v2_4_1_1 : Int) (v2_4_2 : Bool) (v2_4_3 : Bool) (v2_4_4 : Int) (v2_4_5 : Int) (v2_4_6 : Int) (v2_5 : Value) (v2_6_0 : Int) (v2_6_1 : Int) (v2_6_2 : Int) (v2_6_3 : Value) (v2_6_4 : Value) (v2_6_5 : Bool) (v2_7_0 : Value) (v2_7_1 : Value), cs = [.int .i64 v0, .int .i64 v1, .int .i64 v2_0, .int .i64 v2_1, .int .i64 v2_2, .int .i64 v2_3_0, .int .i64 v2_3_1, .int .i64 v2_3_2, .int .i64 v2_3_3, v2_3_4, .int .i64 v2_3_5, .bool v2_3_6, .int .i64 v2_4_0, .int .i64 v2_4_1_0, .int .i64 v2_4_1_1, .bool v2_4_2, .bool v2_4_3, .int .i64 v2_4_4, .int .i64 v2_4_5, .int .i64 v2_4_6, v2_5, .int .i64 v2_6_0, .int .i64 v2_6_1, .int .i64 v2_6_2, v2_6_3, v2_6_4, .bool v2_6_5, v2_7_0, v2_7_1] ∧ NsR w w 3 v2_3_4 ∧ NsR w w 2 v2_5 ∧ NsR w w 1 v2_6_3 ∧ NsR w w 11 v2_6_4 ∧ NsR w w 1 v2_7_0 ∧ NsR w w 1 v2_7_1 := by
  obtain ⟨xs, n, rfl, rfl, hl, hlen, hf⟩ := DataW.trod_struct Try.underlying51 h
  rw [show Try.prog.cellsOf 51 = 29 from by kernel_rfl] at hl
  have hlen : xs.length = 3 := hlen
  obtain ⟨c0, c1, c2, c3, c4, c5, c6, c7, c8, c9, c10, c11, c12, c13, c14, c15, c16, c17, c18, c19, c20, c21, c22, c23, c24, c25, c26, c27, c28, rfl⟩ := len29 hl
  obtain ⟨y0, y1, y2, rfl⟩ := len3 hlen
  have g0 : DataW.trod enc Try.prog w 0 (fun _ => true) true n 3 (([c0, c1, c2, c3, c4, c5, c6, c7, c8, c9, c10, c11, c12, c13, c14, c15, c16, c17, c18, c19, c20, c21, c22, c23, c24, c25, c26, c27, c28].drop 0).take (Try.prog.cellsOf 3)) = some y0 := hf 0 _ rfl
  rw [show Try.prog.cellsOf 3 = 1 from by kernel_rfl] at g0
  have g0 : DataW.trod enc Try.prog w 0 (fun _ => true) true n 3 [c0] = some y0 := g0
  have g1 : DataW.trod enc Try.prog w 0 (fun _ => true) true n 3 (([c0, c1, c2, c3, c4, c5, c6, c7, c8, c9, c10, c11, c12, c13, c14, c15, c16, c17, c18, c19, c20, c21, c22, c23, c24, c25, c26, c27, c28].drop 1).take (Try.prog.cellsOf 3)) = some y1 := hf 1 _ rfl
  rw [show Try.prog.cellsOf 3 = 1 from by kernel_rfl] at g1
  have g1 : DataW.trod enc Try.prog w 0 (fun _ => true) true n 3 [c1] = some y1 := g1
  have g2 : DataW.trod enc Try.prog w 0 (fun _ => true) true n 49 (([c0, c1, c2, c3, c4, c5, c6, c7, c8, c9, c10, c11, c12, c13, c14, c15, c16, c17, c18, c19, c20, c21, c22, c23, c24, c25, c26, c27, c28].drop 2).take (Try.prog.cellsOf 49)) = some y2 := hf 2 _ rfl
  rw [show Try.prog.cellsOf 49 = 27 from by kernel_rfl] at g2
  have g2 : DataW.trod enc Try.prog w 0 (fun _ => true) true n 49 [c2, c3, c4, c5, c6, c7, c8, c9, c10, c11, c12, c13, c14, c15, c16, c17, c18, c19, c20, c21, c22, c23, c24, c25, c26, c27, c28] = some y2 := g2
  obtain ⟨w0, e0, _, _⟩ := DataW.trod_int Try.underlying3 g0
  cases e0
  obtain ⟨w1, e1, _, _⟩ := DataW.trod_int Try.underlying3 g1
  cases e1
  obtain ⟨s2_0, s2_1, s2_2, s2_3_0, s2_3_1, s2_3_2, s2_3_3, s2_3_4, s2_3_5, s2_3_6, s2_4_0, s2_4_1_0, s2_4_1_1, s2_4_2, s2_4_3, s2_4_4, s2_4_5, s2_4_6, s2_5, s2_6_0, s2_6_1, s2_6_2, s2_6_3, s2_6_4, s2_6_5, s2_7_0, s2_7_1, e2, m2_0, m2_1, m2_2, m2_3, m2_4, m2_5⟩ := tr_49 g2 (by
    have := bulk_mem (d := y2.1) (l := [y0, y1, y2].map (·.1)) (by simp)
    simp only [Rows.uptoBulk] at hw
    omega)
  cases e2
  exact ⟨_, _, _, _, _, _, _, _, _, _, _, _, _, _, _, _, _, _, _, _, _, _, _, _, _, _, _, _, _, rfl, m2_0, m2_1, m2_2, m2_3, m2_4, m2_5⟩
theorem tr_en {fuel : Nat} {cs : List Value} {x : DataW H × List MemPlace} (h : DataW.trod enc Try.prog w 0 (fun _ => true) true fuel 51 cs = some x) (hw : Rows.uptoBulk x.1 ≤ 1048576) : ∃ e, EnR w w cs e := by
  obtain ⟨v0, v1, v2_0, v2_1, v2_2, v2_3_0, v2_3_1, v2_3_2, v2_3_3, v2_3_4, v2_3_5, v2_3_6, v2_4_0, v2_4_1_0, v2_4_1_1, v2_4_2, v2_4_3, v2_4_4, v2_4_5, v2_4_6, v2_5, v2_6_0, v2_6_1, v2_6_2, v2_6_3, v2_6_4, v2_6_5, v2_7_0, v2_7_1, rfl, m0, m1, m2, m3, m4, m5⟩ := tr_51 h hw
  refine ⟨⟨v0, v1, v2_0, v2_3_0⟩, rfl, rfl, rfl, rfl, rfl, fun u hu => ?_, ⟨_, rfl, m0⟩, ⟨_, rfl, m1⟩, ⟨_, rfl, m2⟩, ⟨_, rfl, m3⟩, ⟨_, rfl, m4⟩, ⟨_, rfl, m5⟩⟩
  simp only [List.mem_cons, List.not_mem_nil, or_false] at hu
  rcases hu with h | h | h | h | h | h | h | h | h | h | h | h | h | h | h | h | h | h | h | h | h | h | h | h | h | h | h | h | h <;> subst h
  all_goals first | rfl | exact m0.one | exact m1.one | exact m2.one | exact m3.one | exact m4.one | exact m5.one
/- a list of entries -/
theorem tr_es {fuel : Nat} {cs : List Value} {x : DataW H × List MemPlace} (h : DataW.trod enc Try.prog w 0 (fun _ => true) true fuel 28 cs = some x) (hw : Rows.uptoBulk x.1 ≤ 1048576) : ∃ a cap D, cs = [.slice a (List.length D) cap] ∧ EsR w w (.slice a D.length cap) D ∧ D.length + 1 ≤ Rows.uptoBulk x.1 := by
  rcases DataW.trod_slice Try.underlying28 h with ⟨rfl, e⟩ | ⟨a, len, cap, elems, rest, n, _, rfl, rfl, _, hlc, _, hel2, hE, hR, _⟩
  · exact ⟨_, _, [], rfl, .inl ⟨⟨_, rfl⟩, rfl⟩, bulk_pos _⟩
  · rw [show Try.prog.cellsOf 51 = 29 from by kernel_rfl] at hE hR
    have hb := bulk_all (elems.map (·.1))
    rw [List.length_map] at hb
    have hq : ∀ i, i < len → ∃ ce : List Value × En, EnR w w ce.1 ce.2 ∧ ∀ j v, ce.1[j]? = some v → w.cell? ((a.add (i * 29)).add j) = some v := by
      intro i hi
      have hEi := hE i hi
      rw [List.getElem?_eq_getElem (by omega)] at hEi
      obtain ⟨es, he, ht2⟩ := Option.bind_eq_some_iff.1 hEi
      obtain ⟨_, hlen, hcell⟩ := World.cells?_some he
      obtain ⟨e, h1⟩ := tr_en ht2 (by
        have := bulk_mem (List.mem_map.2 ⟨_, List.getElem_mem (by omega : i < elems.length), rfl⟩ : (elems[i]'(by omega)).1 ∈ elems.map (·.1))
        simp only [Rows.uptoBulk] at hw
        omega)
      exact ⟨(es, e), h1, fun j v (hj : es[j]? = some v) => by rw [hcell j (by have := (List.getElem?_eq_some_iff.1 hj).1; omega)]; exact hj⟩
    obtain ⟨CE, hCl, hC⟩ := list_choice len _ hq
    have hdl : (CE.map (·.2)).length = len := by rw [List.length_map, hCl]
    refine ⟨_, cap, CE.map (·.2), by rw [hdl], ?_, by rw [hdl]; simp only [Rows.uptoBulk]; omega⟩
    rw [hdl]
    obtain ⟨b, off, spot⟩ := a
    by_cases hl0 : len = 0
    · have hn : CE = [] := List.eq_nil_of_length_eq_zero (by omega)
      subst hn
      subst hl0
      by_cases hc0 : cap = 0
      · subst hc0; exact .inl ⟨⟨_, rfl⟩, rfl⟩
      · obtain ⟨hrl, hR⟩ := hR rfl
        have hR0 := hR 0 (by omega)
        rw [List.getElem?_eq_getElem (by omega)] at hR0
        obtain ⟨es, he, ht2⟩ := Option.bind_eq_some_iff.1 hR0
        obtain ⟨_, hlen, hcell⟩ := World.cells?_some he
        have hc00 := hcell 0 (by omega)
        rw [List.getElem?_eq_getElem (by omega)] at hc00
        have hspot : spot = none := by simpa [Addr.add] using World.cell?_spot hc00
        subst hspot
        exact .inr ⟨b, off, cap, fun _ => [], rfl, Nat.zero_le _, fun j e hj => by simp at hj⟩
    · have hlen0 : 0 < CE.length := by omega
      have hc00 := (hC 0 hlen0).2 0 _ (hC 0 hlen0).1.c0
      have hspot : spot = none := by simpa [Addr.add] using World.cell?_spot hc00
      subst hspot
      refine .inr ⟨b, off, cap, fun j => (CE.getD j default).1, by rw [hdl], by rw [hdl]; exact hlc, fun j e hj => ?_⟩
      rw [List.getElem?_map] at hj
      obtain ⟨ce, h1, rfl⟩ := Option.map_eq_some_iff.1 hj
      obtain ⟨hjl, rfl⟩ := List.getElem?_eq_some_iff.1 h1
      have e2 : CE.getD j default = CE[j] := by simp [List.getD, hjl]
      show EnR w w (CE.getD j default).1 _ ∧ w.rangeAt b (off + j * 29) (CE.getD j default).1
      rw [e2]
      refine ⟨(hC j hjl).1, fun i v hi => ?_⟩
      have := (hC j hjl).2 i v hi
      rw [Addr.add_mid, Addr.add_mid] at this
      exact this
/- deeds -/
structure Dee where
  kd : Int
  ix : Int
  tm : Int
  op : Int
  xa : Option Addr
  xc : Nat
  D : List En
deriving Inhabited
def rng (c : Int) : Prop := -9223372036854775808 ≤ c ∧ c ≤ 9223372036854775807
def DeR (w : World) (x : Dee) : Prop := (rng x.kd ∧ rng x.ix ∧ rng x.tm) ∧ EsR w w (.slice x.xa x.D.length x.xc) x.D
def dt (L : List Dee) (j : Nat) : Dee := L.getD j default
def wt : List Dee → Nat
  | [] => 0
  | x :: L => x.D.length + 1 + wt L
theorem wt_app (A B : List Dee) : wt (A ++ B) = wt A + wt B := by
  induction A with
  | nil => simp [wt]
  | cons x A ih => simp only [List.cons_append, wt, ih]; omega
def pre (L : List Dee) (k : Nat) : Nat := wt (L.take k)
theorem pre_0 (L : List Dee) : pre L 0 = 0 := rfl
theorem pre_succ (L : List Dee) (j : Nat) (h : j < L.length) : pre L (j + 1) = pre L j + ((dt L j).D.length + 1) := by
  unfold pre dt
  rw [List.take_succ_eq_append_getElem h, wt_app]
  simp [wt, List.getD, h]
theorem pre_le (L : List Dee) (k : Nat) : pre L k ≤ wt L := by
  have := wt_app (L.take k) (L.drop k)
  rw [List.take_append_drop] at this
  unfold pre
  omega
def Dees (w : World) (a : Option Addr) (L : List Dee) : Prop := L ≠ [] → ∃ b off, a = some ⟨b, off, none⟩ ∧ b < w.heap.size ∧ ∀ j, j < L.length → w.cell? ⟨b, off + j * 5, none⟩ = some (.int .i64 (dt L j).kd) ∧ w.cell? ⟨b, off + j * 5 + 1, none⟩ = some (.int .i64 (dt L j).ix) ∧ w.cell? ⟨b, off + j * 5 + 2, none⟩ = some (.int .i64 (dt L j).tm) ∧ w.cell? ⟨b, off + j * 5 + 3, none⟩ = some (.int .i64 (dt L j).op) ∧ w.cell? ⟨b, off + j * 5 + 4, none⟩ = some (.slice (dt L j).xa (dt L j).D.length (dt L j).xc) ∧ DeR w (dt L j)
theorem Dees.at {w0 w : World} {a : Option Addr} {L : List Dee} (h : Dees w0 a L) (hb : Below w0.heap.size w0 w) (j : Nat) (hj : j < L.length) : ∃ b off, a = some ⟨b, off, none⟩ ∧ b < w0.heap.size ∧ w.cell? ⟨b, off + j * 5, none⟩ = some (.int .i64 (dt L j).kd) ∧ w.cell? ⟨b, off + j * 5 + 1, none⟩ = some (.int .i64 (dt L j).ix) ∧ w.cell? ⟨b, off + j * 5 + 2, none⟩ = some (.int .i64 (dt L j).tm) ∧ w.cell? ⟨b, off + j * 5 + 3, none⟩ = some (.int .i64 (dt L j).op) ∧ w.cell? ⟨b, off + j * 5 + 4, none⟩ = some (.slice (dt L j).xa (dt L j).D.length (dt L j).xc) ∧ DeR w0 (dt L j) := by
  obtain ⟨b, off, h1, h2, h3⟩ := h (fun e => by rw [e] at hj; simp at hj)
  obtain ⟨k0, k1, k2, k3, k4, k5⟩ := h3 j hj
  have e := hb.block b h2
  exact ⟨b, off, h1, h2, (World.cell?_of_block (w := w0) e).trans k0, (World.cell?_of_block (w := w0) e).trans k1, (World.cell?_of_block (w := w0) e).trans k2, (World.cell?_of_block (w := w0) e).trans k3, (World.cell?_of_block (w := w0) e).trans k4, k5⟩
theorem tr_30 {fuel : Nat} {cs : List Value} {x : DataW H × List MemPlace} (h : DataW.trod enc Try.prog w 0 (fun _ => true) true fuel 30 cs = some x) (hw : Rows.uptoBulk x.1 ≤ 1048576) : ∃ v : Dee, cs = [.int .i64 v.kd, .int .i64 v.ix, .int .i64 v.tm, .int .i64 v.op, .slice v.xa v.D.length v.xc] ∧ DeR w v ∧ v.D.length + 1 ≤ Rows.uptoBulk x.1 := by
  obtain ⟨xs, n, rfl, rfl, hl, hlen, hf⟩ := DataW.trod_struct Try.underlying30 h
  rw [show Try.prog.cellsOf 30 = 5 from by kernel_rfl] at hl
  have hlen : xs.length = 5 := hlen
  obtain ⟨c0, c1, c2, c3, c4, rfl⟩ := len5 hl
  obtain ⟨x0, x1, x2, x3, x4, rfl⟩ := len5 hlen
  have g0 : DataW.trod enc Try.prog w 0 (fun _ => true) true n 3 (([c0, c1, c2, c3, c4].drop 0).take (Try.prog.cellsOf 3)) = some x0 := hf 0 _ rfl
  rw [show Try.prog.cellsOf 3 = 1 from by kernel_rfl] at g0
  obtain ⟨v0, e0, _, z0⟩ := DataW.trod_int Try.underlying3 g0
  have g1 : DataW.trod enc Try.prog w 0 (fun _ => true) true n 3 (([c0, c1, c2, c3, c4].drop 1).take (Try.prog.cellsOf 3)) = some x1 := hf 1 _ rfl
  rw [show Try.prog.cellsOf 3 = 1 from by kernel_rfl] at g1
  obtain ⟨v1, e1, _, z1⟩ := DataW.trod_int Try.underlying3 g1
  have g2 : DataW.trod enc Try.prog w 0 (fun _ => true) true n 3 (([c0, c1, c2, c3, c4].drop 2).take (Try.prog.cellsOf 3)) = some x2 := hf 2 _ rfl
  rw [show Try.prog.cellsOf 3 = 1 from by kernel_rfl] at g2
  obtain ⟨v2, e2, _, z2⟩ := DataW.trod_int Try.underlying3 g2
  have g3 : DataW.trod enc Try.prog w 0 (fun _ => true) true n 3 (([c0, c1, c2, c3, c4].drop 3).take (Try.prog.cellsOf 3)) = some x3 := hf 3 _ rfl
  rw [show Try.prog.cellsOf 3 = 1 from by kernel_rfl] at g3
  obtain ⟨v3, e3, _, z3⟩ := DataW.trod_int Try.underlying3 g3
  have g4 : DataW.trod enc Try.prog w 0 (fun _ => true) true n 28 (([c0, c1, c2, c3, c4].drop 4).take (Try.prog.cellsOf 28)) = some x4 := hf 4 _ rfl
  rw [show Try.prog.cellsOf 28 = 1 from by kernel_rfl] at g4
  have hb4 := bulk_mem (d := x4.1) (l := [x0, x1, x2, x3, x4].map (·.1)) (by simp)
  have hw' : Rows.uptoBulkAll ([x0, x1, x2, x3, x4].map (·.1)) + 1 ≤ 1048576 := by simpa only [Rows.uptoBulk] using hw
  obtain ⟨a, cap, D, e4, hD, hn⟩ := tr_es g4 (by omega)
  simp at e0 e1 e2 e3 e4
  refine ⟨⟨v0, v1, v2, v3, a, cap, D⟩, by rw [e0, e1, e2, e3, e4], ⟨⟨(Lit.wf_int_iff _ _).1 z0, (Lit.wf_int_iff _ _).1 z1, (Lit.wf_int_iff _ _).1 z2⟩, hD⟩, ?_⟩
  simp only [Rows.uptoBulk]
  show D.length + 1 ≤ _
  omega
theorem bulk_wt {es : List (DataW H × List MemPlace)} : ∀ {vs : List Dee}, vs.length = es.length → (∀ i (hi : i < vs.length) (hj : i < es.length), vs[i].D.length + 1 ≤ Rows.uptoBulk es[i].1) → wt vs ≤ Rows.uptoBulkAll (es.map (·.1)) := by
  induction es with
  | nil =>
    intro vs h _
    have e : vs = [] := List.eq_nil_of_length_eq_zero (by simpa using h)
    subst e
    simp [wt]
  | cons y es ih =>
    intro vs h1 h2
    cases vs with
    | nil => simp at h1
    | cons x vs =>
      have h3 := h2 0 (by simp) (by simp)
      have h4 := ih (vs := vs) (by simpa using h1) (fun i hi hj => by
        have := h2 (i + 1) (by simpa using hi) (by simpa using hj)
        simpa using this)
      simp only [List.getElem_cons_zero] at h3
      simp only [wt, List.map_cons, Rows.uptoBulkAll]
      omega
theorem open_deeds {a : Option Addr} {len cap : Nat} {d : DataW H} {p : List MemPlace} (h : DataW.Trod enc Try.prog w 0 (fun _ => true) true 22 (.slice a len cap) d p) (hw : Rows.uptoBulk d ≤ 1048576) :
    ∃ L : List Dee, len = L.length ∧ Dees w a L ∧ wt L ≤ 1048576 := by
  obtain ⟨fuel, hf⟩ := h
  rcases DataW.trod_slice Try.underlying22 hf with ⟨e, _⟩ | ⟨a', len', cap', elems, rest, n, _, e, hx, _, hlc, hcm, hel, hE, _, _⟩
  · simp [Value.cells] at e
    obtain ⟨rfl, rfl, rfl⟩ := e
    exact ⟨[], rfl, fun h => absurd rfl h, by simp [wt]⟩
  · simp [Value.cells] at e
    obtain ⟨rfl, rfl, rfl⟩ := e
    have e1 : d = (Go.DataW.slice (elems.map (·.1)) (rest.map (·.1))) := congrArg Prod.fst hx
    subst e1
    have hw' : Rows.uptoBulkAll (elems.map (·.1)) + Rows.uptoBulkAll (rest.map (·.1)) + 1 ≤ 1048576 := by simpa only [Rows.uptoBulk] using hw
    have hw2 : ∀ x ∈ elems, Rows.uptoBulk x.1 ≤ 1048576 := fun x hx => by
      have := bulk_mem (List.mem_map.2 ⟨x, hx, rfl⟩ : x.1 ∈ elems.map (·.1))
      omega
    rw [show Try.prog.cellsOf 30 = 5 from by kernel_rfl] at hE
    have hQ : ∀ i, i < len → ∃ v : Dee, (∀ j, j < 5 → w.cell? ((a'.add (i * 5)).add j) = ([.int .i64 v.kd, .int .i64 v.ix, .int .i64 v.tm, .int .i64 v.op, .slice v.xa v.D.length v.xc] : List Value)[j]?) ∧ DeR w v ∧ ∀ hj : i < elems.length, v.D.length + 1 ≤ Rows.uptoBulk (elems[i]'hj).1 := by
      intro i hi
      have hEi := hE i hi
      rw [List.getElem?_eq_getElem (by omega)] at hEi
      obtain ⟨es, he, ht2⟩ := Option.bind_eq_some_iff.1 hEi
      obtain ⟨v, rfl, hB, hn⟩ := tr_30 ht2 (hw2 _ (List.getElem_mem (by omega)))
      obtain ⟨_, _, hcell⟩ := World.cells?_some he
      exact ⟨v, hcell, hB, fun _ => hn⟩
    obtain ⟨vs, hvl, hvs⟩ := list_choice len _ hQ
    subst hvl
    have hwt : wt vs ≤ _ := bulk_wt (es := elems) (vs := vs) hel.symm (fun i hi hj => (hvs i hi).2.2 hj)
    refine ⟨vs, rfl, fun hne => ?_, by omega⟩
    have h0 : 0 < vs.length := List.length_pos_iff.2 hne
    obtain ⟨b, off, spot⟩ := a'
    have hc00 := (hvs 0 h0).1 0 (by omega)
    have hspot : spot = none := by simpa [Addr.add] using World.cell?_spot hc00
    subst hspot
    refine ⟨b, off, rfl, World.block_lt_of_cell? w _ (by simpa [Addr.add] using hc00), fun j hj => ?_⟩
    obtain ⟨h1, h2, _⟩ := hvs j hj
    have e : dt vs j = vs[j] := by simp [dt, List.getD, hj]
    rw [e]
    have k0 := h1 0 (by omega)
    have k1 := h1 1 (by omega)
    have k2 := h1 2 (by omega)
    have k3 := h1 3 (by omega)
    have k4 := h1 4 (by omega)
    rw [Addr.add_lit, Addr.add_lit] at k0 k1 k2 k3 k4
    exact ⟨k0, k1, k2, k3, k4, h2⟩
end
end Go.Proofs.Ytdkmlgkljhhokaa
