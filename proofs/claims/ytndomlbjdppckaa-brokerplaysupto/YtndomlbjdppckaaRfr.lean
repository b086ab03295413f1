/- The document's broker in memory: a list of items that stand in a row of its own. -/
import Derived.Test.YtndomlbjdppckaaBsta
namespace Go.Proofs.Ytndomlbjdppckaa
open Go.RowKit
variable {D : Nat}

def itL (x : Itm) : List Value := (itC x).toList
theorem itL_len (x : Itm) : (itL x).length = 9 := rfl
def rows (R : List Itm) : List Value := R.flatMap itL
theorem rows_len (R : List Itm) : (rows R).length = R.length * 9 := by
  induction R with
  | nil => rfl
  | cons x R ih => simp only [rows, List.flatMap_cons, List.length_append, List.length_cons, itL_len] at ih ⊢; rw [ih]; omega
theorem rows_snoc (R : List Itm) (x : Itm) : rows (R ++ [x]) = rows R ++ itL x := by simp [rows]
theorem rows_get : ∀ (R : List Itm) (i : Nat) (x : Itm), R[i]? = some x → ∀ j, j < 9 → (rows R)[i * 9 + j]? = (itL x)[j]?
  | [], i, x, h, j, hj => by simp at h
  | y :: R, 0, x, h, j, hj => by
    simp at h; subst h
    have e : rows (y :: R) = itL y ++ rows R := by simp [rows]
    rw [e, List.getElem?_append_left (by rw [itL_len]; omega)]; simp
  | y :: R, i + 1, x, h, j, hj => by
    have e : rows (y :: R) = itL y ++ rows R := by simp [rows]
    have h2 := rows_get R i x (by simpa using h) j hj
    rw [e, List.getElem?_append_right (by rw [itL_len]; omega), itL_len, ← h2]
    congr 1
    omega
/- items, cell by cell -/
structure RowI (w : World) (g cap : Nat) (R : List Itm) : Prop where
  lec : R.length ≤ cap
  capm : cap ≤ maxLen
  at_ : ∃ cur, w.heap[g]? = some (.cells cur 71 (0, 0)) ∧ cur.size = cap * 9 ∧ ∀ i x, R[i]? = some x → ∀ j, j < 9 → cur[i * 9 + j]? = (itC x)[j]?
theorem RowI.lt {w : World} {g cap : Nat} {R : List Itm} (h : RowI w g cap R) : g < w.heap.size := by
  obtain ⟨cur, hc, _⟩ := h.at_
  exact heap_lt hc
theorem RowI.own {w : World} {g cap : Nat} {R : List Itm} (h : RowI w g cap R) : w.ownsRow 0 71 9 (.slice (some ⟨g, 0, none⟩) R.length cap) R.length (rows R) := by
  obtain ⟨cur, hc, hs, h2⟩ := h.at_
  have hl := h.lec
  refine ⟨rows_len R, .inr ⟨g, cap, cur, rfl, Nat.zero_le _, hc, h.lec, h.capm, hs, ?_⟩⟩
  apply List.ext_getElem?
  intro q
  by_cases hq : q < R.length * 9
  · rw [List.getElem?_take, if_pos hq, Array.getElem?_toList]
    have hi : q / 9 < R.length := by omega
    have e := List.getElem?_eq_getElem hi
    have h3 := h2 _ _ e (q % 9) (by omega)
    have h4 := rows_get R _ _ e (q % 9) (by omega)
    rw [show q / 9 * 9 + q % 9 = q by omega] at h3 h4
    rw [h3, h4]; simp [itL]
  · rw [List.getElem?_eq_none (by simp; omega), List.getElem?_eq_none (by rw [rows_len]; omega)]
theorem rowI_of {w : World} {v : Value} {R : List Itm} (h : w.ownsRow 0 71 9 v R.length (rows R)) (hn : 0 < R.length) : ∃ g cap, v = .slice (some ⟨g, 0, none⟩) R.length cap ∧ RowI w g cap R := by
  rcases h.2 with ⟨rfl, e⟩ | ⟨g, cap, cur, rfl, _, h4, h1, h2, h5, h6⟩
  · omega
  · refine ⟨g, cap, rfl, h1, h2, cur, h4, h5, fun i x hx j hj => ?_⟩
    have hi := (List.getElem?_eq_some_iff.1 hx).1
    have h7 := rows_get R i x hx j hj
    rw [← h6, List.getElem?_take, if_pos (by omega), Array.getElem?_toList] at h7
    rw [h7]; simp [itL]
theorem RowI.cells {w : World} {g cap : Nat} {R : List Itm} (h : RowI w g cap R) {i : Nat} {x : Itm} (hx : R[i]? = some x) : w.cell? ⟨g, i * 9, none⟩ = some (.int .i64 x.jb) ∧ w.cell? ⟨g, i * 9 + 1, none⟩ = some (.int .i64 x.pr) ∧ w.cell? ⟨g, i * 9 + 2, none⟩ = some (.int .i64 x.st) ∧ w.cell? ⟨g, i * 9 + 3, none⟩ = some (.int .i64 x.ix) ∧ w.cell? ⟨g, i * 9 + 4, none⟩ = some (.int .i64 x.cn) ∧ w.cell? ⟨g, i * 9 + 5, none⟩ = some (.int .i64 x.dl) ∧ w.cell? ⟨g, i * 9 + 6, none⟩ = some (.bool x.tk) ∧ w.cell? ⟨g, i * 9 + 7, none⟩ = some (.int .i64 x.wk) ∧ w.cell? ⟨g, i * 9 + 8, none⟩ = some (.int .i64 x.tc) := by
  obtain ⟨cur, hc, _, h2⟩ := h.at_
  refine ⟨?_, ?_, ?_, ?_, ?_, ?_, ?_, ?_, ?_⟩
  · rw [cell_of_row w g _ cur 71 (0, 0) hc]; exact h2 i x hx 0 (by omega)
  all_goals (rw [cell_of_row w g _ cur 71 (0, 0) hc])
  · exact h2 i x hx 1 (by omega)
  · exact h2 i x hx 2 (by omega)
  · exact h2 i x hx 3 (by omega)
  · exact h2 i x hx 4 (by omega)
  · exact h2 i x hx 5 (by omega)
  · exact h2 i x hx 6 (by omega)
  · exact h2 i x hx 7 (by omega)
  · exact h2 i x hx 8 (by omega)
theorem RowI.frozen {w : World} {g cap : Nat} {R : List Itm} (h : RowI w g cap R) (j : Nat) : w.frozen? ⟨g, j, none⟩ = false := by
  obtain ⟨cur, hc, _⟩ := h.at_
  simp [World.frozen?, hc]
theorem RowI.setc {w : World} {g cap : Nat} {R : List Itm} (h : RowI w g cap R) {i : Nat} {x y : Itm} (hx : R[i]? = some x) (j : Nat) (hj : j < 9) (u : Value) (e : (itC x).setIfInBounds j u = itC y) : RowI (w.setCell ⟨g, i * 9 + j, none⟩ u) g cap (R.set i y) := by
  obtain ⟨cur, hc, hs, h2⟩ := h.at_
  have hl := h.lec
  have hi := (List.getElem?_eq_some_iff.1 hx).1
  refine ⟨by simpa using h.lec, h.capm, _, heap_setCell_same w g _ cur 71 _ hc, by simpa using hs, fun k z hz q hq => ?_⟩
  by_cases hk : i = k
  · subst hk
    rw [List.getElem?_set_self hi] at hz
    have hz' := Option.some.inj hz
    subst hz'
    rw [← e]
    by_cases hqj : j = q
    · subst hqj
      rw [Array.getElem?_setIfInBounds_self_of_lt (by omega), Array.getElem?_setIfInBounds_self_of_lt (by show j < 9; exact hj)]
    · rw [Array.getElem?_setIfInBounds_ne (by omega), Array.getElem?_setIfInBounds_ne hqj]
      exact h2 i x hx q hq
  · rw [List.getElem?_set_ne hk] at hz
    rw [Array.getElem?_setIfInBounds_ne (by omega)]
    exact h2 k z hz q hq

structure RefR (D : Nat) (w : World) (pR : Nat) (v : Value) (R : List Itm) : Prop where
  blk : w.heap[pR]? = some (.cells #[v] 28 (0, 0))
  row : w.ownsRow 0 71 9 v R.length (rows R)
  lo : D ≤ pR
  lr : ∀ k, v.ownBlock = some k → D ≤ k
def TR : List Nat := [28, 71]
theorem RefR.keepT {D' : Nat} {T : List Nat} {w w' : World} {pR : Nat} {v : Value} {R : List Itm} (h : RefR D w pR v R) (hf : FrT D' T w w') (h1 : 28 ∉ T) (h2 : 71 ∉ T) : RefR D w' pR v R :=
  ⟨hf.cells h.blk h1, own_keepT h.row hf h2, h.lo, h.lr⟩
theorem RefR.grow {w w' : World} {pR : Nat} {v : Value} {R : List Itm} (h : RefR D w pR v R) (hb : Below w.heap.size w w') : RefR D w' pR v R := h.keepT (D' := 0) (T := []) (FrT.of_below hb) (by simp) (by simp)
theorem RefR.cell {w : World} {pR : Nat} {v : Value} {R : List Itm} (h : RefR D w pR v R) : w.cell? ⟨pR, 0, none⟩ = some v := by rw [cell_of_row w pR 0 _ 28 (0, 0) h.blk]; rfl
theorem RefR.slice {w : World} {pR : Nat} {v : Value} {R : List Itm} (h : RefR D w pR v R) : ∃ a cap, v = .slice a R.length cap ∧ R.length ≤ maxLen := by
  rcases h.row.2 with ⟨rfl, e⟩ | ⟨g, cap, cur, rfl, _, _, h1, h2, _⟩
  · exact ⟨none, 0, by rw [e], by rw [e]; unfold maxLen; omega⟩
  · exact ⟨_, cap, rfl, Nat.le_trans h1 h2⟩
theorem RefR.at_ {w : World} {pR : Nat} {v : Value} {R : List Itm} (h : RefR D w pR v R) {i : Nat} {x : Itm} (hx : R[i]? = some x) : ∃ g cap, v = .slice (some ⟨g, 0, none⟩) R.length cap ∧ RowI w g cap R ∧ pR ≠ g ∧ D ≤ g := by
  have hi := (List.getElem?_eq_some_iff.1 hx).1
  obtain ⟨g, cap, rfl, hr⟩ := rowI_of h.row (by omega)
  refine ⟨g, cap, rfl, hr, fun e => ?_, h.lr g rfl⟩
  obtain ⟨cur, hc, _⟩ := hr.at_
  have h2 := h.blk
  rw [e, hc] at h2; cases h2
theorem RefR.setc {w : World} {pR g cap : Nat} {R : List Itm} (h : RefR D w pR (.slice (some ⟨g, 0, none⟩) R.length cap) R) (hr : RowI w g cap R) (hp : pR ≠ g) {i : Nat} {x y : Itm} (hx : R[i]? = some x) (j : Nat) (hj : j < 9) (u : Value) (e : (itC x).setIfInBounds j u = itC y) :
    RefR D (w.setCell ⟨g, i * 9 + j, none⟩ u) pR (.slice (some ⟨g, 0, none⟩) R.length cap) (R.set i y) ∧ RowI (w.setCell ⟨g, i * 9 + j, none⟩ u) g cap (R.set i y) ∧ FrT D [71] w (w.setCell ⟨g, i * 9 + j, none⟩ u) := by
  have h2 := hr.setc hx j hj u e
  obtain ⟨cur, hc, _⟩ := hr.at_
  refine ⟨⟨(Below.heap_setCell w ⟨g, i * 9 + j, none⟩ u pR hp).trans h.blk, ?_, h.lo, h.lr⟩, h2, FrT.set (FrT.refl _ _ _) hc (by decide) (h.lr g rfl) _ u⟩
  have h3 := h2.own
  rw [List.length_set] at h3
  rw [List.length_set]; exact h3
/- the first that has it -/
structure FR (P : Itm → Bool) (R : List Itm) (K : Nat) : Prop where
  le : K ≤ R.length
  miss : ∀ j x, j < K → R[j]? = some x → P x = false
  hit : ∀ x, R[K]? = some x → P x = true
theorem FR.ex (P : Itm → Bool) (R : List Itm) : ∃ K, FR P R K := by
  induction R with
  | nil => exact ⟨0, Nat.le_refl _, fun j x h => by omega, fun x h => by simp at h⟩
  | cons y L ih =>
    by_cases hy : P y = true
    · exact ⟨0, Nat.zero_le _, fun j x h => by omega, fun x h => by simp at h; rw [← h]; exact hy⟩
    · obtain ⟨K, h1, h2, h3⟩ := ih
      refine ⟨K + 1, by simpa using h1, fun j x hj hx => ?_, fun x hx => h3 x (by simpa using hx)⟩
      cases j with
      | zero => simp at hx; rw [← hx]; simpa using hy
      | succ j => exact h2 j x (by omega) (by simpa using hx)
theorem FR.idx {P : Itm → Bool} {R : List Itm} {K : Nat} (h : FR P R K) : R.findIdx? P = if K < R.length then some K else none := by
  split
  · rename_i hK
    rw [List.findIdx?_eq_some_iff_getElem]
    refine ⟨hK, h.hit _ (List.getElem?_eq_getElem hK), fun j hj => ?_⟩
    rw [h.miss j _ hj (List.getElem?_eq_getElem (by omega))]; simp
  · rename_i hK
    rw [List.findIdx?_eq_none_iff]
    intro x hx
    obtain ⟨j, hj⟩ := List.mem_iff_getElem?.1 hx
    exact h.miss j x (by have := (List.getElem?_eq_some_iff.1 hj).1; omega) hj
theorem FR.find {P : Itm → Bool} {R : List Itm} {K : Nat} (h : FR P R K) : R.find? P = R[K]? := by
  cases hx : R[K]? with
  | none =>
    rw [List.find?_eq_none]
    intro x hx2
    obtain ⟨j, hj⟩ := List.mem_iff_getElem?.1 hx2
    have hl := h.le
    rw [List.getElem?_eq_none_iff] at hx
    have hjl := (List.getElem?_eq_some_iff.1 hj).1
    have hjK : j < K := by omega
    rw [h.miss j x hjK hj]; simp
  | some x =>
    have hK := (List.getElem?_eq_some_iff.1 hx)
    have hK1 := hK.1
    rw [List.find?_eq_some_iff_getElem]
    refine ⟨h.hit x hx, K, hK.1, hK.2, fun j hj => ?_⟩
    rw [h.miss j _ hj (List.getElem?_eq_getElem (by omega))]; rfl

set_option maxHeartbeats 4000000 in
set_option maxRecDepth 100000 in
theorem rof_any (pR : Nat) (v : Value) (R : List Itm) (wk : Int) (K : Nat) (w : World) (h : RefR D w pR v R) (hF : FR (hb wk) R K) : Calls Try.prog 31 #[.pointer (some ⟨pR, 0, none⟩), .int .i64 wk] w fun e w' => e = .returned (.int .i64 (if K < R.length then (K : Int) else -1)) ∧ w' = w := by
  obtain ⟨a, cap, rfl, hlm⟩ := h.slice
  unfold maxLen at hlm
  have c0 := h.cell
  have HH := hidOf h
  have HF := hidOf hF
  have hKl := hF.le
  clear h hF
  go_enter Try.func31, Try.ntmps31
  go_wp2
  go_loopw [5] (fun i wr => ∃ (k : Nat), i = .int .i64 (k : Int) ∧ k ≤ K ∧ wr = w) (fun i _ => K + 1 - (intOf i).toNat)
  case atStart => exact ⟨0, rfl, Nat.zero_le _, rfl⟩
  case round =>
    obtain ⟨k, rfl, hk, hwr⟩ := hrel
    subst hwr
    by_cases hlt : k < R.length
    · have hltz : (k : Int) < (R.length : Int) := by omega
      obtain ⟨x, hx⟩ : ∃ x, R[k]? = some x := ⟨R[k], List.getElem?_eq_getElem hlt⟩
      obtain ⟨g, cap', hv, hR, hpg, _⟩ := HH.out.at_ hx
      obtain ⟨rfl, rfl⟩ : a = some ⟨g, 0, none⟩ ∧ cap = cap' := by cases hv; exact ⟨rfl, rfl⟩
      obtain ⟨_, _, _, _, _, _, x6, x7, _⟩ := hR.cells hx
      have HX := hidOf hx
      clear hv hR hpg hx
      by_cases hkN : k = K
      · subst hkN
        have hkk : hb wk x = true := HF.out.hit x HX.out
        simp [hb] at hkk
        rw [hkk.1] at x6
        have hw : (x.wk == wk) = true := by simp [hkk.2]
        clear hkk
        go_wp2
        go_ret
        (try rw [if_pos hlt])
        exact ⟨rfl, rfl⟩
      · have hkk : hb wk x = false := HF.out.miss k x (by omega) HX.out
        cases ht : x.tk with
        | true =>
          rw [ht] at x6
          have hw : (x.wk == wk) = false := by simpa [hb, ht] using hkk
          clear hkk ht
          go_wp2
          go_roundw
          case rel => exact ⟨k + 1, by go_num, by omega, by first | rfl | trivial⟩
          case measure => simp [intOf]; omega
        | false =>
          rw [ht] at x6
          clear hkk ht
          go_wp2
          go_roundw
          case rel => exact ⟨k + 1, by go_num, by omega, by first | rfl | trivial⟩
          case measure => simp [intOf]; omega
    · have hltz : ¬ (k : Int) < (R.length : Int) := by omega
      go_wp2
      go_ret
      (try rw [if_neg (by omega)])
      exact ⟨rfl, rfl⟩

set_option maxHeartbeats 4000000 in
theorem rheld_any (pR : Nat) (v : Value) (R : List Itm) (wk : Int) (w : World) (h : RefR D w pR v R) : Calls Try.prog 20 #[.pointer (some ⟨pR, 0, none⟩), .int .i64 wk] w fun e w' => e = .returned (.tuple #[heV (heldM wk R), .bool (heldM wk R).isSome]) ∧ Below w.heap.size w w' := by
  obtain ⟨K, hF⟩ := FR.ex (hb wk) R
  have HC := hidOf (fun o => rof_any pR v R wk K (w.alloc o) (h.grow (below1 w o)) hF)
  have hfd : heldM wk R = R[K]? := hF.find
  rw [hfd]
  have HB0 : Hid (∀ o : Obj, Below w.heap.size w (w.alloc o)) := hidOf (below1 w)
  cases hx : R[K]? with
  | none =>
    have hK : ¬ K < R.length := by rw [List.getElem?_eq_none_iff] at hx; omega
    simp only [if_neg hK] at HC
    clear h hF hfd hx hK
    go_enter Try.func20, Try.ntmps20
    go_wp2_with (go_at_call 31; refine (HC.out _).mono ?_; rintro e w1 ⟨rfl, hb1⟩; subst w1)
    refine bodyPost_ret (results_cell4 Try.results20 _ _ w.heap.size (.int .i64 0) (.int .i64 0) (.int .i64 0) (.int .i64 0) (.bool false) rfl rfl ?_ ?_ ?_ ?_) rfl ?_
    all_goals (try (simp [go_sem]; done))
    first | exact ⟨rfl, HB0.out _⟩ | exact ⟨rfl, ((((HB0.out _).setCell (p := ⟨w.heap.size, 0, none⟩) (Nat.le_refl _) _).setCell (p := ⟨w.heap.size, 1, none⟩) (Nat.le_refl _) _).setCell (p := ⟨w.heap.size, 2, none⟩) (Nat.le_refl _) _).setCell (p := ⟨w.heap.size, 3, none⟩) (Nat.le_refl _) _⟩
  | some x =>
    have hK : K < R.length := (List.getElem?_eq_some_iff.1 hx).1
    simp only [if_pos hK] at HC
    obtain ⟨g, cap, rfl, hR, hpg, _⟩ := h.at_ hx
    have hll := hR.lec
    have c0 := h.cell
    have hpl := heap_lt h.blk
    have hgl := hR.lt
    obtain ⟨x0, x1, x2, x3, _⟩ := hR.cells hx
    have hKz : ¬ (K : Int) < 0 := by omega
    have hKz2 : (K : Int) < (R.length : Int) := by omega
    clear h hF hfd hx hR
    go_enter Try.func20, Try.ntmps20
    go_wp2_with (go_at_call 31; refine (HC.out _).mono ?_; rintro e w1 ⟨rfl, hb1⟩; subst w1)
    refine bodyPost_ret (results_cell4 Try.results20 _ _ w.heap.size (.int .i64 x.jb) (.int .i64 x.pr) (.int .i64 x.st) (.int .i64 x.ix) (.bool true) rfl rfl ?_ ?_ ?_ ?_) rfl ?_
    all_goals (try (simp [go_sem]; done))
    first | exact ⟨rfl, HB0.out _⟩ | exact ⟨rfl, ((((HB0.out _).setCell (p := ⟨w.heap.size, 0, none⟩) (Nat.le_refl _) _).setCell (p := ⟨w.heap.size, 1, none⟩) (Nat.le_refl _) _).setCell (p := ⟨w.heap.size, 2, none⟩) (Nat.le_refl _) _).setCell (p := ⟨w.heap.size, 3, none⟩) (Nat.le_refl _) _⟩

set_option maxHeartbeats 8000000 in
set_option maxRecDepth 100000 in
theorem rnack_any (pR : Nat) (v : Value) (R : List Itm) (wk : Int) (w : World) (h : RefR D w pR v R) (hI : ∀ x ∈ R, x.cn ≤ 3) : Calls Try.prog 16 #[.pointer (some ⟨pR, 0, none⟩), .int .i64 wk] w fun e w' => e = .returned (.int .i64 (if (heldM wk R).isSome = true then 0 else 3)) ∧ RefR D w' pR v (nackM wk R) ∧ FrT D [71] w w' := by
  obtain ⟨K, hF⟩ := FR.ex (hb wk) R
  have HC := hidOf (rof_any pR v R wk K w h hF)
  have hfd : heldM wk R = R[K]? := hF.find
  rw [hfd]
  unfold nackM
  rw [hF.idx]
  cases hx : R[K]? with
  | none =>
    have hK : ¬ K < R.length := by rw [List.getElem?_eq_none_iff] at hx; omega
    simp only [if_neg hK] at HC ⊢
    have HH := hidOf h
    clear h hF hfd hx hK hI
    go_enter Try.func16, Try.ntmps16
    go_wp2_with (go_at_call 31; refine HC.out.mono ?_; rintro e w1 ⟨rfl, hb1⟩; subst w1)
    go_ret
    exact ⟨rfl, HH.out, FrT.refl _ _ _⟩
  | some x =>
    have hK : K < R.length := (List.getElem?_eq_some_iff.1 hx).1
    simp only [if_pos hK] at HC ⊢
    have hg : R.getD K default = x := by simp [List.getD, hx]
    rw [hg]
    obtain ⟨g, cap, rfl, hR, hpg, hDg⟩ := h.at_ hx
    have hll := hR.lec
    have c0 := h.cell
    have hc3 := hI x (List.mem_of_getElem? hx)
    obtain ⟨_, _, _, _, x4, x5, x6, _, _⟩ := hR.cells hx
    have zf := hR.frozen
    have hgp : g ≠ pR := fun e => hpg e.symm
    have hKz : ¬ (K : Int) < 0 := by omega
    have hKz2 : (K : Int) < (R.length : Int) := by omega
    obtain ⟨A1, A2, A3⟩ := h.setc hR hpg hx 6 (by omega) (.bool false) (y := { x with tk := false }) rfl
    have hx1 : (R.set K { x with tk := false })[K]? = some { x with tk := false } := List.getElem?_set_self hK
    by_cases hc : x.cn = 3
    · have hcg : (3 : Int) ≤ x.cn := by omega
      have HNK : Hid (nk x = { x with tk := false, cn := 0, dl := 6 }) := hidOf (by unfold nk; rw [if_pos hc])
      rw [show R.length = (R.set K { x with tk := false }).length by rw [List.length_set]] at A1
      obtain ⟨B1, B2, B3⟩ := A1.setc A2 hpg hx1 4 (by omega) (.int .i64 0) (y := { x with tk := false, cn := 0 }) rfl
      rw [List.set_set] at B1 B2
      have hx2 : (R.set K { x with tk := false, cn := 0 })[K]? = some { x with tk := false, cn := 0 } := List.getElem?_set_self hK
      have B1' := B1
      rw [List.length_set, show R.length = (R.set K { x with tk := false, cn := 0 }).length by rw [List.length_set]] at B1'
      obtain ⟨C1, C2, C3⟩ := B1'.setc B2 hpg hx2 5 (by omega) (.int .i64 6) (y := { x with tk := false, cn := 0, dl := 6 }) rfl
      rw [List.set_set, List.length_set] at C1
      have HR := hidOf C1
      have HFF := hidOf ((A3.trans B3).trans C3)
      clear h hF hfd hx hI hc A1 A2 A3 B1 B2 B3 B1' C1 C2 C3 hR hx1 hx2
      go_enter Try.func16, Try.ntmps16
      go_wp2_with (go_at_call 31; refine HC.out.mono ?_; rintro e w1 ⟨rfl, hb1⟩; subst w1)
      go_ret
      exact ⟨rfl, by rw [HNK.out]; exact HR.out, HFF.out⟩
    · have hcg : ¬ (3 : Int) ≤ x.cn := by omega
      have HNK : Hid (nk x = { x with tk := false }) := hidOf (by unfold nk; rw [if_neg hc])
      have HR := hidOf A1
      have HFF := hidOf A3
      clear h hF hfd hx hI hc A1 A2 A3 hR hx1
      go_enter Try.func16, Try.ntmps16
      go_wp2_with (go_at_call 31; refine HC.out.mono ?_; rintro e w1 ⟨rfl, hb1⟩; subst w1)
      go_ret
      exact ⟨rfl, by rw [HNK.out]; exact HR.out, HFF.out⟩
end Go.Proofs.Ytndomlbjdppckaa
