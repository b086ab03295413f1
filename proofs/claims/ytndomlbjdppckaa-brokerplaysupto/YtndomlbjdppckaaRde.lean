/- The document's Dequeue. -/
import Derived.Test.YtndomlbjdppckaaRfa
namespace Go.Proofs.Ytndomlbjdppckaa
open Go.RowKit
variable {D : Nat}

theorem RefR.setn {w : World} {pR g cap n : Nat} {R : List Itm} (h : RefR D w pR (.slice (some ⟨g, 0, none⟩) n cap) R) (hr : RowI w g cap R) (hp : pR ≠ g) (hn : R.length = n) {i : Nat} {x y : Itm} (hx : R[i]? = some x) (j : Nat) (hj : j < 9) (u : Value) (e : (itC x).setIfInBounds j u = itC y) :
    RefR D (w.setCell ⟨g, i * 9 + j, none⟩ u) pR (.slice (some ⟨g, 0, none⟩) n cap) (R.set i y) ∧ RowI (w.setCell ⟨g, i * 9 + j, none⟩ u) g cap (R.set i y) ∧ FrT D [71] w (w.setCell ⟨g, i * 9 + j, none⟩ u) ∧ (R.set i y).length = n ∧ (R.set i y)[i]? = some y := by
  subst hn
  obtain ⟨h1, h2, h3⟩ := h.setc hr hp hx j hj u e
  exact ⟨h1, h2, h3, by simp, List.getElem?_set_self (List.getElem?_eq_some_iff.1 hx).1⟩

theorem Bst.skip {R : List Itm} {k : Nat} {bv : Int} {x : Itm} (h : Bst R k bv) (hx : R[k]? = some x) (hf : fr x = false) : Bst R (k + 1) bv := by
  cases h with
  | no h1 => exact .no (fun j z hj hz => by
      by_cases e : j = k
      · subst e; rw [hx] at hz; rw [← Option.some.inj hz]; exact hf
      · exact h1 j z (by omega) hz)
  | yes b y hb hy hfy h1 => exact .yes b y (by omega) hy hfy (fun j z hj hz hfz => by
      by_cases e : j = k
      · subst e; rw [hx] at hz; rw [← Option.some.inj hz, hf] at hfz; cases hfz
      · exact h1 j z (by omega) hz hfz)
theorem klt_irr (x : Itm) : klt x x = false := by rw [klt_false]; omega
theorem Bst.first {R : List Itm} {k : Nat} {x : Itm} (h : ∀ j z, j < k → R[j]? = some z → fr z = false) (hx : R[k]? = some x) (hf : fr x = true) : Bst R (k + 1) k :=
  .yes k x (by omega) hx hf (fun j z hj hz hfz => by
    by_cases e : j = k
    · subst e; rw [hx] at hz; rw [← Option.some.inj hz]; exact klt_irr x
    · have := h j z (by omega) hz
      rw [this] at hfz; cases hfz)
theorem Bst.keep {R : List Itm} {k b : Nat} {x y : Itm} (hb : b < k) (hy : R[b]? = some y) (hfy : fr y = true) (h : ∀ j z, j < k → R[j]? = some z → fr z = true → klt z y = false) (hx : R[k]? = some x) (hk : klt x y = false) : Bst R (k + 1) b :=
  .yes b y (by omega) hy hfy (fun j z hj hz hfz => by
    by_cases e : j = k
    · subst e; rw [hx] at hz; rw [← Option.some.inj hz]; exact hk
    · exact h j z (by omega) hz hfz)
theorem Bst.turn {R : List Itm} {k : Nat} {x y : Itm} (h : ∀ j z, j < k → R[j]? = some z → fr z = true → klt z y = false) (hx : R[k]? = some x) (hf : fr x = true) (hk : klt x y = true) : Bst R (k + 1) k :=
  .yes k x (by omega) hx hf (fun j z hj hz hfz => by
    by_cases e : j = k
    · subst e; rw [hx] at hz; rw [← Option.some.inj hz]; exact klt_irr x
    · have h1 := h j z (by omega) hz hfz
      rw [klt_iff] at hk
      rw [klt_false] at h1 ⊢
      omega)
theorem Bst.done {R : List Itm} {b : Nat} {y : Itm} (hy : R[b]? = some y) (hfy : fr y = true) (h : ∀ j z, j < R.length → R[j]? = some z → fr z = true → klt z y = false) : MinR R b y :=
  ⟨hy, hfy, fun z hz hf => by
    obtain ⟨j, hj⟩ := List.mem_iff_getElem?.1 hz
    exact h j z (List.getElem?_eq_some_iff.1 hj).1 hj hf⟩

set_option maxHeartbeats 4000000 in
theorem rdeq_has (pR : Nat) (v : Value) (R : List Itm) (wk : Int) (w : World) (h : RefR D w pR v R) (hh : (heldM wk R).isSome = true) : Calls Try.prog 12 #[.pointer (some ⟨pR, 0, none⟩), .int .i64 wk] w fun e w' => e = .returned (.tuple #[zeV, .bool false]) ∧ Below w.heap.size w w' := by
  obtain ⟨K, hF⟩ := FR.ex (hb wk) R
  have HC := hidOf (fun o => rof_any pR v R wk K (w.alloc o) (h.grow (below1 w o)) hF)
  have hfd : heldM wk R = R[K]? := hF.find
  rw [hfd] at hh
  have hK : K < R.length := by
    cases hx : R[K]? with
    | none => rw [hx] at hh; cases hh
    | some x => exact (List.getElem?_eq_some_iff.1 hx).1
  simp only [if_pos hK] at HC
  have HB0 : Hid (∀ o : Obj, Below w.heap.size w (w.alloc o)) := hidOf (below1 w)
  have hKz : (0 : Int) ≤ (K : Int) := by omega
  clear h hF hfd hh hK
  go_enter Try.func12, Try.ntmps12
  go_wp2_with (go_at_call 31; refine (HC.out _).mono ?_; rintro e w1 ⟨rfl, hb1⟩; subst w1)
  refine bodyPost_ret (results_cell4 Try.results12 _ _ w.heap.size (.int .i64 0) (.int .i64 0) (.int .i64 0) (.int .i64 0) (.bool false) rfl rfl ?_ ?_ ?_ ?_) rfl ?_
  all_goals (try (simp [go_sem]; done))
  first | exact ⟨rfl, HB0.out _⟩ | exact ⟨rfl, ((((HB0.out _).setCell (p := ⟨w.heap.size, 0, none⟩) (Nat.le_refl _) _).setCell (p := ⟨w.heap.size, 1, none⟩) (Nat.le_refl _) _).setCell (p := ⟨w.heap.size, 2, none⟩) (Nat.le_refl _) _).setCell (p := ⟨w.heap.size, 3, none⟩) (Nat.le_refl _) _⟩

set_option maxHeartbeats 16000000 in
set_option maxRecDepth 100000 in
theorem rdeq_any (pR : Nat) (v : Value) (R : List Itm) (wk : Int) (w : World) (h : RefR D w pR v R) (hh : heldM wk R = none) (hI : IvR R) : Calls Try.prog 12 #[.pointer (some ⟨pR, 0, none⟩), .int .i64 wk] w fun e w' => ((∀ j z, j < R.length → R[j]? = some z → fr z = false) ∧ e = .returned (.tuple #[zeV, .bool false]) ∧ Below w.heap.size w w') ∨ ∃ i x, MinR R i x ∧ e = .returned (.tuple #[evV x, .bool true]) ∧ RefR D w' pR v (R.set i (tkn wk x)) ∧ FrT D [71] w w' := by
  obtain ⟨K, hF⟩ := FR.ex (hb wk) R
  have HC := hidOf (fun o => rof_any pR v R wk K (w.alloc o) (h.grow (below1 w o)) hF)
  have hfd : heldM wk R = R[K]? := hF.find
  rw [hfd] at hh
  have hK : ¬ K < R.length := by rw [List.getElem?_eq_none_iff] at hh; omega
  simp only [if_neg hK] at HC
  have HB0 : Hid (∀ o : Obj, Below w.heap.size w (w.alloc o)) := hidOf (below1 w)
  obtain ⟨a, cap, rfl, hlm⟩ := h.slice
  unfold maxLen at hlm
  have HH := hidOf h
  have HI := hidOf hI
  have hq0 : ∀ o : Obj, (w.alloc o).heap[w.heap.size]? = some o := fun o => heap_alloc_new w o
  have HQ0 := hidOf hq0
  clear h hF hfd hh hK hI hq0
  go_enter Try.func12, Try.ntmps12
  go_wp2_with (go_at_call 31; refine (HC.out _).mono ?_; rintro e w1 ⟨rfl, hb1⟩; subst w1)
  go_loopw [6, 7] (fun b i wr => ∃ (k : Nat) (bv : Int), k ≤ R.length ∧ i = .int .i64 (k : Int) ∧ b = .int .i64 bv ∧ Hid (Bst R k bv) ∧ Hid (Below (w.heap.size + 1) (w.alloc (.cells #[.int .i64 0, .int .i64 0, .int .i64 0, .int .i64 0] 42)) wr)) (fun _ i _ => R.length - (intOf i).toNat)
  case atStart => exact ⟨0, -1, Nat.zero_le _, rfl, rfl, hidOf (.no (fun j z hj _ => by omega)), hidOf (Below.refl _ _)⟩
  case round =>
    obtain ⟨k, bv, hk, rfl, rfl, HBS, HB⟩ := hrel
    have HBW : Hid (Below w.heap.size w wr) := hidOf ((HB0.out _).trans (HB.out.mono (by omega)))
    have hHr := HH.out.grow HBW.out
    have c0 := hHr.cell
    have hpl := heap_lt hHr.blk
    by_cases hlt : k < R.length
    · have hltz : (k : Int) < (R.length : Int) := by omega
      obtain ⟨x, hx⟩ : ∃ x, R[k]? = some x := ⟨R[k], List.getElem?_eq_getElem hlt⟩
      obtain ⟨g, cap', hv, hR, hpg, _⟩ := hHr.at_ hx
      obtain ⟨rfl, rfl⟩ : a = some ⟨g, 0, none⟩ ∧ cap = cap' := by cases hv; exact ⟨rfl, rfl⟩
      obtain ⟨x0, x1, x2, x3, x4, x5, x6, x7, x8⟩ := hR.cells hx
      have hgl := hR.lt
      have hIx := HI.out x (List.mem_of_getElem? hx)
      have HX := hidOf hx
      have HRW := hidOf hR
      clear hv hx hHr hR
      cases ht : x.tk with
      | true =>
        rw [ht] at x6
        have HF1 : Hid (fr x = false) := hidOf (by simp [fr, ht])
        clear ht hIx
        go_wp2
        go_roundw
        case rel => exact ⟨k + 1, bv, by omega, by go_num, rfl, hidOf (HBS.out.skip HX.out HF1.out), HB⟩
        case measure => simp [intOf]; omega
      | false =>
        rw [ht] at x6
        by_cases hd : x.dl = 0
        · have HF1 : Hid (fr x = true) := hidOf (by simp [fr, ht, hd])
          rw [hd] at x5
          clear ht hIx hd
          cases HBS.out with
          | no h1 =>
            have HN := hidOf h1
            clear h1
            go_wp2
            go_roundw
            case rel => exact ⟨k + 1, k, by omega, by go_num, rfl, hidOf (Bst.first HN.out HX.out HF1.out), HB⟩
            case measure => simp [intOf]; omega
          | yes b y hb hy hfy h1 =>
            have HY := hidOf hy
            have HFY := hidOf hfy
            have HN := hidOf h1
            obtain ⟨y0, y1, y2, y3, _⟩ := HRW.out.cells hy
            have hbz : ¬ (b : Int) < 0 := by omega
            have hbz2 : (b : Int) < (R.length : Int) := by omega
            have HA := hidOf (fun W => ahead_any x y W)
            simp only [evV] at HA
            clear hy hfy h1
            cases hkl : klt x y with
            | true =>
              have HKL := hidOf hkl
              rw [hkl] at HA
              clear hkl
              go_wp2
              go_region_held3 (fun w' => w'.cell? ⟨pR, 0, none⟩ = some (.slice (some ⟨g, 0, none⟩) R.length cap) ∧ w'.cell? ⟨g, k * 9, none⟩ = some (.int .i64 x.jb) ∧ w'.cell? ⟨g, k * 9 + 1, none⟩ = some (.int .i64 x.pr) ∧ w'.cell? ⟨g, k * 9 + 2, none⟩ = some (.int .i64 x.st) ∧ w'.cell? ⟨g, k * 9 + 3, none⟩ = some (.int .i64 x.ix) ∧ w'.cell? ⟨g, b * 9, none⟩ = some (.int .i64 y.jb) ∧ w'.cell? ⟨g, b * 9 + 1, none⟩ = some (.int .i64 y.pr) ∧ w'.cell? ⟨g, b * 9 + 2, none⟩ = some (.int .i64 y.st) ∧ w'.cell? ⟨g, b * 9 + 3, none⟩ = some (.int .i64 y.ix)) (first | go_keep | exact ⟨k0, k1, k2, k3, k4, k5, k6, k7, k8⟩) (first | (go_at_call 32; refine (HA.out _).mono ?_; rintro e w3 ⟨rfl, hb3⟩; have k0 := (hb3.cell (p := ⟨pR, 0, none⟩) hpl).trans c0; have k1 := (hb3.cell (p := ⟨g, k * 9, none⟩) hgl).trans x0; have k2 := (hb3.cell (p := ⟨g, k * 9 + 1, none⟩) hgl).trans x1; have k3 := (hb3.cell (p := ⟨g, k * 9 + 2, none⟩) hgl).trans x2; have k4 := (hb3.cell (p := ⟨g, k * 9 + 3, none⟩) hgl).trans x3; have k5 := (hb3.cell (p := ⟨g, b * 9, none⟩) hgl).trans y0; have k6 := (hb3.cell (p := ⟨g, b * 9 + 1, none⟩) hgl).trans y1; have k7 := (hb3.cell (p := ⟨g, b * 9 + 2, none⟩) hgl).trans y2; have k8 := (hb3.cell (p := ⟨g, b * 9 + 3, none⟩) hgl).trans y3))
              have HB3 : Hid (Below wr.heap.size wr w3) := hidOf ((Below.refl wr.heap.size wr).drew.trans hb3)
              clear hb3 k0 k1 k2 k3 k4 k5 k6 k7 k8
              go_wp2
              go_roundw
              case rel => exact ⟨k + 1, k, by omega, by go_num, rfl, hidOf (Bst.turn HN.out HX.out HF1.out HKL.out), hidOf (HB.out.trans (HB3.out.mono (by have := HB.out.size; simp at this; omega)))⟩
              case measure => simp [intOf]; omega
            | false =>
              have HKL := hidOf hkl
              rw [hkl] at HA
              clear hkl
              go_wp2
              go_region_held3 (fun w' => w'.cell? ⟨pR, 0, none⟩ = some (.slice (some ⟨g, 0, none⟩) R.length cap) ∧ w'.cell? ⟨g, k * 9, none⟩ = some (.int .i64 x.jb) ∧ w'.cell? ⟨g, k * 9 + 1, none⟩ = some (.int .i64 x.pr) ∧ w'.cell? ⟨g, k * 9 + 2, none⟩ = some (.int .i64 x.st) ∧ w'.cell? ⟨g, k * 9 + 3, none⟩ = some (.int .i64 x.ix) ∧ w'.cell? ⟨g, b * 9, none⟩ = some (.int .i64 y.jb) ∧ w'.cell? ⟨g, b * 9 + 1, none⟩ = some (.int .i64 y.pr) ∧ w'.cell? ⟨g, b * 9 + 2, none⟩ = some (.int .i64 y.st) ∧ w'.cell? ⟨g, b * 9 + 3, none⟩ = some (.int .i64 y.ix)) (first | go_keep | exact ⟨k0, k1, k2, k3, k4, k5, k6, k7, k8⟩) (first | (go_at_call 32; refine (HA.out _).mono ?_; rintro e w3 ⟨rfl, hb3⟩; have k0 := (hb3.cell (p := ⟨pR, 0, none⟩) hpl).trans c0; have k1 := (hb3.cell (p := ⟨g, k * 9, none⟩) hgl).trans x0; have k2 := (hb3.cell (p := ⟨g, k * 9 + 1, none⟩) hgl).trans x1; have k3 := (hb3.cell (p := ⟨g, k * 9 + 2, none⟩) hgl).trans x2; have k4 := (hb3.cell (p := ⟨g, k * 9 + 3, none⟩) hgl).trans x3; have k5 := (hb3.cell (p := ⟨g, b * 9, none⟩) hgl).trans y0; have k6 := (hb3.cell (p := ⟨g, b * 9 + 1, none⟩) hgl).trans y1; have k7 := (hb3.cell (p := ⟨g, b * 9 + 2, none⟩) hgl).trans y2; have k8 := (hb3.cell (p := ⟨g, b * 9 + 3, none⟩) hgl).trans y3))
              have HB3 : Hid (Below wr.heap.size wr w3) := hidOf ((Below.refl wr.heap.size wr).drew.trans hb3)
              clear hb3 k0 k1 k2 k3 k4 k5 k6 k7 k8
              go_wp2
              go_roundw
              case rel => exact ⟨k + 1, b, by omega, by go_num, rfl, hidOf (Bst.keep hb HY.out HFY.out HN.out HX.out HKL.out), hidOf (HB.out.trans (HB3.out.mono (by have := HB.out.size; simp at this; omega)))⟩
              case measure => simp [intOf]; omega
        · have hd2 : 0 < x.dl := by have := hIx.d0; omega
          have HF1 : Hid (fr x = false) := hidOf (by simp [fr, hd])
          clear ht hIx hd
          go_wp2
          go_roundw
          case rel => exact ⟨k + 1, bv, by omega, by go_num, rfl, hidOf (HBS.out.skip HX.out HF1.out), HB⟩
          case measure => simp [intOf]; omega
    · obtain rfl : k = R.length := by omega
      have hltz : ¬ (R.length : Int) < (R.length : Int) := by omega
      have hqr := (HB.out.block w.heap.size (by omega)).trans (HQ0.out (.cells #[.int .i64 0, .int .i64 0, .int .i64 0, .int .i64 0] 42))
      obtain ⟨q0, q1, q2, q3, q4⟩ := box4 hqr
      have hql := heap_lt hqr
      cases HBS.out with
      | no h1 =>
        have HN := hidOf h1
        clear h1 hHr hqr
        go_wp2
        refine bodyPost_ret (results_cell4 Try.results12 _ _ w.heap.size (.int .i64 0) (.int .i64 0) (.int .i64 0) (.int .i64 0) (.bool false) rfl rfl ?_ ?_ ?_ ?_) rfl ?_
        all_goals (try (simp [go_sem, q0, q1, q2, q3]; done))
        exact .inl ⟨HN.out, rfl, ((((HBW.out).setCell (p := ⟨w.heap.size, 0, none⟩) (Nat.le_refl _) _).setCell (p := ⟨w.heap.size, 1, none⟩) (Nat.le_refl _) _).setCell (p := ⟨w.heap.size, 2, none⟩) (Nat.le_refl _) _).setCell (p := ⟨w.heap.size, 3, none⟩) (Nat.le_refl _) _⟩
      | yes b y hb hy hfy h1 =>
        have HM := hidOf (Bst.done hy hfy h1)
        obtain ⟨g, cap', hv, hR, hpg, hDg⟩ := hHr.at_ hy
        obtain ⟨rfl, rfl⟩ : a = some ⟨g, 0, none⟩ ∧ cap = cap' := by cases hv; exact ⟨rfl, rfl⟩
        obtain ⟨y0, y1, y2, y3, y4, y5, y6, y7, y8⟩ := hR.cells hy
        have zf := hR.frozen
        have hgl := hR.lt
        have hIy := HI.out y (List.mem_of_getElem? hy)
        have hc0 := hIy.c0
        have hc3 := hIy.c3
        have hbz : ¬ (b : Int) < 0 := by omega
        have hbz2 : (b : Int) < (R.length : Int) := by omega
        have hgp : g ≠ pR := fun e => hpg e.symm
        have hgq : g ≠ w.heap.size := fun e => by
          obtain ⟨cur, hc, _⟩ := hR.at_
          rw [e, hqr] at hc; cases hc
        have hqg : w.heap.size ≠ g := fun e => hgq e.symm
        obtain ⟨A1, A2, A3, A4, A5⟩ := hHr.setn hR hpg rfl hy 6 (by omega) (.bool true) (y := { y with tk := true }) rfl
        obtain ⟨B1, B2, B3, B4, B5⟩ := A1.setn A2 hpg A4 A5 7 (by omega) (.int .i64 wk) (y := { y with tk := true, wk := wk }) rfl
        obtain ⟨C1, C2, C3, C4, C5⟩ := B1.setn B2 hpg B4 B5 8 (by omega) (.int .i64 0) (y := { y with tk := true, wk := wk, tc := 0 }) rfl
        obtain ⟨D1, D2, D3, D4, D5⟩ := C1.setn C2 hpg C4 C5 4 (by omega) (.int .i64 (y.cn + 1)) (y := tkn wk y) rfl
        simp only [List.set_set] at D1
        have HD1 := hidOf D1
        have HD3 := hidOf (((A3.trans B3).trans C3).trans D3)
        have HQR := hidOf hqr
        clear hv hy hfy h1 hHr hR hqr A1 A2 A3 A4 A5 B1 B2 B3 B4 B5 C1 C2 C3 C4 C5 D1 D2 D3 D4 D5 hIy
        go_wp2
        refine bodyPost_ret (results_cell4 Try.results12 _ _ w.heap.size (.int .i64 y.jb) (.int .i64 y.pr) (.int .i64 y.st) (.int .i64 y.ix) (.bool true) rfl rfl ?_ ?_ ?_ ?_) rfl ?_
        all_goals (try (simp [go_sem, q0, q1, q2, q3]; done))
        have hQ9 := HD3.out.cells HQR.out (by decide)
        have hF9 := ((FrT.of_below (D := D) HBW.out).trans HD3.out)
        refine .inr ⟨b, y, HM.out, rfl, ?_, (((hF9.setnew (Nat.le_refl _) 0 _).setnew (Nat.le_refl _) 1 _).setnew (Nat.le_refl _) 2 _).setnew (Nat.le_refl _) 3 _⟩
        have hFq := FrT.set (FrT.set (FrT.set (FrT.set (FrT.refl 0 [42] _) hQ9 (by decide) (Nat.zero_le _) 0 (.int .i64 y.jb)) (heap_setCell_same _ _ 0 _ 42 _ hQ9) (by decide) (Nat.zero_le _) 1 (.int .i64 y.pr)) (heap_setCell_same _ _ 1 _ 42 _ (heap_setCell_same _ _ 0 _ 42 _ hQ9)) (by decide) (Nat.zero_le _) 2 (.int .i64 y.st)) (heap_setCell_same _ _ 2 _ 42 _ (heap_setCell_same _ _ 1 _ 42 _ (heap_setCell_same _ _ 0 _ 42 _ hQ9))) (by decide) (Nat.zero_le _) 3 (.int .i64 y.ix)
        exact HD1.out.keepT hFq (by decide) (by decide)
end Go.Proofs.Ytndomlbjdppckaa
