/- The document's Ack and Dequeue. -/
import Derived.Test.YtndomlbjdppckaaRfr
import Derived.Deep.Cut
namespace Go.Proofs.Ytndomlbjdppckaa
open Go.RowKit
variable {D : Nat}

set_option maxHeartbeats 1000000 in
theorem ahead_any (a b : Itm) (w : World) : Calls Try.prog 32 #[evV a, evV b] w fun e w' => e = .returned (.bool (klt a b)) ∧ Below w.heap.size w w' := by
  obtain ⟨jb, pr, st, ix, cn, dl, tk, wk, tc⟩ := a
  obtain ⟨jb', pr', st', ix', cn', dl', tk', wk', tc'⟩ := b
  simp only [evV]
  by_cases h1 : pr = pr'
  · by_cases h2 : ix = ix'
    · have hk : klt ⟨jb, pr, st, ix, cn, dl, tk, wk, tc⟩ ⟨jb', pr', st', ix', cn', dl', tk', wk', tc'⟩ = decide (jb < jb') := by simp [klt, h1, h2]
      rw [hk]
      clear hk
      subst h1 h2
      generalize hd : decide (jb < jb') = d
      go_enter Try.func32, Try.ntmps32
      go_wp2
      go_ret
      exact ⟨by simp, below2 w _ _⟩
    · have hk : klt ⟨jb, pr, st, ix, cn, dl, tk, wk, tc⟩ ⟨jb', pr', st', ix', cn', dl', tk', wk', tc'⟩ = decide (ix < ix') := by simp [klt, h1, h2]
      rw [hk]
      clear hk
      subst h1
      have hne : (ix == ix') = false := beq_eq_false_iff_ne.2 h2
      have hne2 : (ix != ix') = true := bne_iff_ne.2 h2
      generalize hd : decide (ix < ix') = d
      clear h2
      go_enter Try.func32, Try.ntmps32
      go_wp2
      go_ret
      exact ⟨by simp, below2 w _ _⟩
  · have hk : klt ⟨jb, pr, st, ix, cn, dl, tk, wk, tc⟩ ⟨jb', pr', st', ix', cn', dl', tk', wk', tc'⟩ = decide (pr' < pr) := by simp [klt, h1]
    rw [hk]
    clear hk
    have hne : (pr == pr') = false := beq_eq_false_iff_ne.2 h1
    have hne2 : (pr != pr') = true := bne_iff_ne.2 h1
    generalize hd : decide (pr' < pr) = d
    clear h1
    go_enter Try.func32, Try.ntmps32
    go_wp2
    go_ret
    exact ⟨by simp, below2 w _ _⟩

/- the best so far of the first k -/
inductive Bst (R : List Itm) (k : Nat) : Int → Prop where
  | no : (∀ j z, j < k → R[j]? = some z → fr z = false) → Bst R k (-1)
  | yes (b : Nat) (y : Itm) : b < k → R[b]? = some y → fr y = true → (∀ j z, j < k → R[j]? = some z → fr z = true → klt z y = false) → Bst R k b
theorem MinR.uniq {R : List Itm} (hJ : JR R) {i i' : Nat} {x x' : Itm} (h : MinR R i x) (h' : MinR R i' x') : i = i' ∧ x = x' := by
  have h1 := h.2.2 x' (List.mem_of_getElem? h'.1) h'.2.1
  have h2 := h'.2.2 x (List.mem_of_getElem? h.1) h.2.1
  rw [klt_false] at h1 h2
  have hj : x.jb = x'.jb := by omega
  have hp := List.pairwise_iff_getElem.1 hJ
  obtain ⟨l1, e1⟩ := List.getElem?_eq_some_iff.1 h.1
  obtain ⟨l2, e2⟩ := List.getElem?_eq_some_iff.1 h'.1
  have hi : i = i' := by
    rcases Nat.lt_trichotomy i i' with hl | hl | hl
    · have h9 := hp i i' (by simpa using l1) (by simpa using l2) hl
      simp only [List.getElem_map, e1, e2] at h9; exact absurd hj h9
    · exact hl
    · have h9 := hp i' i (by simpa using l2) (by simpa using l1) hl
      simp only [List.getElem_map, e1, e2] at h9; exact absurd hj.symm h9
  subst hi
  refine ⟨rfl, ?_⟩
  have := h.1.symm.trans h'.1
  exact Option.some.inj this
theorem info71 : (Try.prog.info? 71).map (fun i => (i.zero, i.size, i.bytes)) = some (some (.agg #[.int .i64 0, .int .i64 0, .int .i64 0, .int .i64 0, .int .i64 0, .int .i64 0, .bool false, .int .i64 0, .int .i64 0]), 9, 72) := by kernel_rfl
def er (R : List Itm) (K k : Nat) : List Itm := (R.take k).eraseIdx K
theorem er_zero (R : List Itm) (K : Nat) : er R K 0 = [] := by simp [er]
theorem er_all (R : List Itm) (K : Nat) : er R K R.length = R.eraseIdx K := by simp [er]
theorem er_eq {R : List Itm} {K : Nat} {x : Itm} (h : R[K]? = some x) : er R K (K + 1) = er R K K := by
  have hl := (List.getElem?_eq_some_iff.1 h).1
  unfold er
  apply List.ext_getElem?
  intro j
  rw [List.getElem?_eraseIdx, List.getElem?_eraseIdx]
  by_cases hj : j < K
  · rw [if_pos hj, if_pos hj, List.getElem?_take, List.getElem?_take, if_pos (by omega), if_pos hj]
  · rw [if_neg hj, if_neg hj, List.getElem?_take, List.getElem?_take, if_neg (by omega), if_neg (by omega)]
theorem er_ne {R : List Itm} {K k : Nat} {x : Itm} (h : R[k]? = some x) (hne : k ≠ K) : er R K (k + 1) = er R K k ++ [x] := by
  have hl := (List.getElem?_eq_some_iff.1 h).1
  unfold er
  rw [List.take_add_one, h]
  show (R.take k ++ [x]).eraseIdx K = _
  by_cases hk : K < k
  · rw [List.eraseIdx_append_of_lt_length (by simp; omega)]
  · rw [List.eraseIdx_of_length_le (by simp; omega), List.eraseIdx_of_length_le (by simp; omega)]
theorem er_len (R : List Itm) (K k : Nat) : (er R K k).length ≤ R.length := by
  unfold er
  exact Nat.le_trans (List.eraseIdx_sublist ..).length_le (by simp; omega)
theorem itL_one (x : Itm) : ∀ u ∈ itL x, u.oneCell' = true := by
  intro u hu
  simp [itL, itC] at hu
  rcases hu with rfl | rfl | rfl | rfl | rfl | rfl | rfl | rfl | rfl <;> rfl

set_option maxHeartbeats 8000000 in
set_option maxRecDepth 100000 in
theorem rack_any (pR : Nat) (v : Value) (R : List Itm) (wk : Int) (w : World) (h : RefR D w pR v R) (hN : R.length ≤ 1048576000) : Calls Try.prog 14 #[.pointer (some ⟨pR, 0, none⟩), .int .i64 wk] w fun e w' => e = .returned (.int .i64 (if (heldM wk R).isSome = true then 0 else 3)) ∧ (∃ v', RefR D w' pR v' (ackM wk R)) ∧ FrT D TR w w' := by
  obtain ⟨K, hF⟩ := FR.ex (hb wk) R
  have HC := hidOf (rof_any pR v R wk K w h hF)
  have hfd : heldM wk R = R[K]? := hF.find
  rw [hfd]
  unfold ackM
  rw [hF.idx]
  cases hx : R[K]? with
  | none =>
    have hK : ¬ K < R.length := by rw [List.getElem?_eq_none_iff] at hx; omega
    simp only [if_neg hK] at HC ⊢
    have HH := hidOf h
    clear h hF hfd hx hK
    go_enter Try.func14, Try.ntmps14
    go_wp2_with (go_at_call 31; refine HC.out.mono ?_; rintro e w1 ⟨rfl, hb1⟩; subst w1)
    go_ret
    exact ⟨rfl, ⟨v, HH.out⟩, FrT.refl _ _ _⟩
  | some y =>
    have hK : K < R.length := (List.getElem?_eq_some_iff.1 hx).1
    simp only [if_pos hK] at HC ⊢
    have HX := hidOf hx
    obtain ⟨a, cap, rfl, hlm⟩ := h.slice
    have hKz : ¬ (K : Int) < 0 := by omega
    have hDw : D ≤ w.heap.size := Nat.le_of_lt (Nat.lt_of_le_of_lt h.lo (heap_lt h.blk))
    have HH := hidOf h
    obtain ⟨i0, hi0, hz0, hz1, hz2⟩ := info_parts info71
    have HI := hidOf hi0
    have HZ0 := hidOf hz0
    have HZ1 := hidOf hz1
    have HZ2 := hidOf hz2
    clear h hF hfd hx hi0 hz0 hz1 hz2
    go_enter Try.func14, Try.ntmps14
    go_wp2_with (go_at_call 31; refine HC.out.mono ?_; rintro e w1 ⟨rfl, hb1⟩; subst w1)
    go_loopw [6, 7] (fun o i wr => ∃ (k : Nat) (av : Option Addr) (cv : Nat), k ≤ R.length ∧ i = .int .i64 (k : Int) ∧ o = .slice av (er R K k).length cv ∧ Hid (wr.ownsRow 0 71 9 (.slice av (er R K k).length cv) (er R K k).length (rows (er R K k))) ∧ Hid (∀ q, (Value.slice av (er R K k).length cv).ownBlock = some q → w.heap.size ≤ q) ∧ Hid (Below w.heap.size w wr)) (fun _ i _ => R.length - (intOf i).toNat)
    case atStart => exact ⟨0, none, 0, Nat.zero_le _, rfl, by rw [er_zero]; rfl, hidOf (by rw [er_zero]; exact ⟨rfl, .inl ⟨rfl, rfl⟩⟩), hidOf (fun q hq => by cases hq), hidOf (Below.refl _ _)⟩
    case round =>
      obtain ⟨k, av, cv, hk, rfl, rfl, HO, HD, HB⟩ := hrel
      have hHr := HH.out.grow HB.out
      have c0 := hHr.cell
      have hpl := heap_lt hHr.blk
      by_cases hlt : k < R.length
      · have hltz : (k : Int) < (R.length : Int) := by omega
        obtain ⟨x, hx⟩ : ∃ x, R[k]? = some x := ⟨R[k], List.getElem?_eq_getElem hlt⟩
        obtain ⟨g, cap', hv, hR, hpg, _⟩ := hHr.at_ hx
        obtain ⟨rfl, rfl⟩ : a = some ⟨g, 0, none⟩ ∧ cap = cap' := by cases hv; exact ⟨rfl, rfl⟩
        obtain ⟨x0, x1, x2, x3, x4, x5, x6, x7, x8⟩ := hR.cells hx
        have hgl := hR.lt
        have hel := er_len R K k
        by_cases hkK : k = K
        · subst hkK
          have hne : ((k : Int) == (k : Int)) = true := by simp
          have HE := hidOf (er_eq HX.out)
          clear hv hR hx hHr
          go_wp2
          go_roundw
          case rel => exact ⟨k + 1, av, cv, by omega, by go_num, by rw [HE.out], hidOf (by rw [HE.out]; exact HO.out), hidOf (by rw [HE.out]; exact HD.out), HB⟩
          case measure => simp [intOf]; omega
        · have hne : ((k : Int) == (K : Int)) = false := by simp; omega
          have HE := hidOf (er_ne hx hkK)
          have HOB : Hid (∀ o : Obj, (wr.alloc o).ownsRow 0 71 9 (.slice av (er R K k).length cv) (er R K k).length (rows (er R K k))) := hidOf (fun o => own_keepT (D := 0) (T := []) HO.out (FrT.of_below (below1 wr o)) (by simp))
          clear hv hR hx hHr
          go_upto_region 9 with (fail)
          go_wp2_with (at_builtin; refine wpList_appP _ rfl _ _ 26 rfl 0 71 i0 (.agg #[.int .i64 0, .int .i64 0, .int .i64 0, .int .i64 0, .int .i64 0, .int .i64 0, .bool false, .int .i64 0, .int .i64 0]) 9 72 Try.underlying26 HI.out HZ0.out HZ1.out HZ2.out rfl (by decide) (.slice av (er R K k).length cv) (er R K k).length (rows (er R K k)) rfl (HOB.out _) ⟨wr.heap.size, 0, none⟩ 1 1 (itL x) rfl rfl (fun j u hj => cell_news wr (itC x) 71 j u hj) (itL_one x) (by unfold maxLen; omega) (by omega) (Nat.zero_le _) ?_; intro v6 w6 ho6 hg6 hv6; obtain ⟨a6, c6, rfl⟩ := own_slice ho6; have HO6 := hidOf ho6; have HV6 := hidOf hv6; have HB6 : Hid (Below w.heap.size w w6) := hidOf ((HB.out.trans ((below1 wr _).mono HB.out.size)).grown hg6 (Nat.le_trans HB.out.size (below1 wr _).size) (fun q hq => HD.out q hq)); clear ho6 hg6 hv6)
          go_roundw
          case rel => exact ⟨k + 1, a6, c6, by omega, by go_num, by rw [HE.out, List.length_append]; rfl, hidOf (by rw [HE.out, List.length_append, rows_snoc]; exact HO6.out), hidOf (fun q hq => by
              rw [HE.out, List.length_append] at hq
              rcases HV6.out with h9 | h9
              · exact HD.out q (h9.symm.trans hq)
              · have h8 := h9.symm.trans hq
                have h7 := Option.some.inj h8
                rw [World.size_alloc] at h7
                have h6 := HB.out.size
                omega), HB6⟩
          case measure => simp [intOf]; omega
      · obtain rfl : k = R.length := by omega
        have hltz : ¬ (R.length : Int) < (R.length : Int) := by omega
        have zf : wr.frozen? ⟨pR, 0, none⟩ = false := by simp [World.frozen?, hHr.blk]
        have HO2 : Hid (wr.ownsRow 0 71 9 (.slice av (er R K R.length).length cv) (er R K R.length).length (rows (er R K R.length))) := HO
        have HHR := hidOf hHr
        have hEA := er_all R K
        rw [hEA] at HO2 HD ⊢
        generalize hgR : R.eraseIdx K = R' at *
        have HGR := hidOf hgR
        clear hHr hEA hgR HO
        go_wp2
        go_ret
        have hF9 : FrT D TR wr (wr.setCell ⟨pR, 0, none⟩ (.slice av R'.length cv)) := FrT.set (FrT.refl _ _ _) HHR.out.blk (by decide) HHR.out.lo 0 _
        refine ⟨rfl, ⟨.slice av R'.length cv, ⟨?_, ?_, HHR.out.lo, fun q hq => Nat.le_trans hDw (HD.out q hq)⟩⟩, (FrT.of_below HB.out).trans hF9⟩
        · rw [heap_setCell_same wr pR 0 _ 28 _ HHR.out.blk]; rfl
        · show (wr.setCell ⟨pR, 0, none⟩ (.slice av R'.length cv)).ownsRow 0 71 9 (.slice av R'.length cv) (R.eraseIdx K).length (rows (R.eraseIdx K))
          rw [HGR.out]
          refine own_of_set HO2.out (fun e => ?_) 0 _
          have h1 := HD.out pR e
          have h2 := heap_lt HH.out.blk
          omega
end Go.Proofs.Ytndomlbjdppckaa
