/- The document's Tick and Lead. -/
import Derived.Test.YtcdbkieimkcogaaLl
namespace Go.Proofs.Ytcdbkieimkcogaa
open Go.RowKit
variable {D : Nat}
set_option maxHeartbeats 400000 in
theorem rlead_any (pR : Nat) (R : List Ck) (w : World) (h : RfR D w pR R) : Calls Try.prog 8 #[ptr pR] w fun e w' => e = .returned (.tuple #[]) ∧ RfR D w' pR [] ∧ FrT D [28] w w' := by
  obtain ⟨v, h1, h2⟩ := h.ex
  have hlo := h.lo
  have c0 : w.cell? ⟨pR, 0, none⟩ = some v := by rw [cell_of_row w pR 0 _ 28 (0, 0) h1]; rfl
  have fz : w.frozen? ⟨pR, 0, none⟩ = false := by simp [World.frozen?, h1]
  have HP := hidOf h1
  clear h h1 h2
  unfold ptr
  go_enter Try.func8, Try.ntmps8
  go_wp2
  go_end0
  refine ⟨rfl, ⟨⟨.slice none 0 0, ?_, OwR.nil⟩, hlo⟩, (FrT.refl D [28] w).set HP.out (by decide) hlo 0 _⟩
  rw [heap_setCell_same w pR 0 _ 28 (.slice none 0 0) HP.out]; rfl
set_option maxHeartbeats 16000000 in
set_option maxRecDepth 100000 in
theorem rtick_any (pR : Nat) (R : List Ck) (L : List Nd) (P : List Dp) (a7 : Option Addr) (c7 : Nat) (a8 : Option Addr) (c8 : Nat) (w : World) (h : RfR D w pR R) (hDw : D ≤ w.heap.size) (hm : Okm (look R)) (hL : NdR D w a7 L) (hP : DpR D w a8 P) (hN : L.length + P.length ≤ 1048576) :
    Calls Try.prog 12 #[ptr pR, .agg #[.int .i64 0, .int .i64 0, .slice none 0 0, .slice none 0 0, .slice a7 L.length c7, .slice none 0 0, .slice none 0 0, .slice a8 P.length c8, .slice none 0 0]] w fun e w' => ∃ v R', e = .returned v ∧ RfR D w' pR R' ∧ look R' = (tkM (look R) L P).1 ∧ OwR w.heap.size 60 27 cmC w' v (tkM (look R) L P).2 ∧ FrT D [28] w w' := by
  have HIF := hidOf if60
  obtain ⟨vR, hR1, hR2⟩ := h.ex
  have HR := hidOf h
  have HM := hidOf hm
  have HNd := hidOf hL
  have HDp := hidOf hP
  have hpl := heap_lt hR1
  clear hm hL hP hR1 hR2
  unfold ptr
  have HB0 := hidOf (below1 w (.cells #[.int .i64 0, .int .i64 0, .slice none 0 0, .slice none 0 0, .slice a7 L.length c7, .slice none 0 0, .slice none 0 0, .slice a8 P.length c8, .slice none 0 0] 38))
  have HQ0 := hidOf (heap_alloc_new w (.cells #[.int .i64 0, .int .i64 0, .slice none 0 0, .slice none 0 0, .slice a7 L.length c7, .slice none 0 0, .slice none 0 0, .slice a8 P.length c8, .slice none 0 0] 38))
  obtain ⟨W, hW⟩ : ∃ y, y = w.alloc (.cells #[.int .i64 0, .int .i64 0, .slice none 0 0, .slice none 0 0, .slice a7 L.length c7, .slice none 0 0, .slice none 0 0, .slice a8 P.length c8, .slice none 0 0] 38) := ⟨_, rfl⟩
  have hWz : W.heap.size = w.heap.size + 1 := by rw [hW]; simp
  rw [← hW] at HB0 HQ0
  go_enter Try.func12, Try.ntmps12
  go_upto_region 1 with (fail)
  rw [← hW]
  clear hW
  go_wp2
  go_loopw [5, 6, 7] (fun n o i w5 => ∃ (k : Nat) (X : List Ck) (xa : Option Addr) (xc : Nat), k ≤ L.length ∧ i = .int .i64 (k : Int) ∧ n = .slice xa X.length xc ∧ X.length ≤ k ∧ Hid (look X = (fN (look R) (L.take k)).1) ∧ Hid (OwR W.heap.size 76 5 ckC w5 (.slice xa X.length xc) X) ∧ Hid (OwR W.heap.size 60 27 cmC w5 o (fN (look R) (L.take k)).2) ∧ Hid (Below W.heap.size W w5) ∧ W.heap.size ≤ w5.heap.size) (fun _ _ i _ => L.length - (intOf i).toNat)
  case atStart => exact ⟨0, [], none, 0, Nat.zero_le _, rfl, rfl, Nat.le_refl _, hidOf rfl, hidOf OwR.nil, hidOf OwR.nil, hidOf (Below.refl _ _), Nat.le_refl _⟩
  case round =>
    obtain ⟨k, X, xa, xc, hk, rfl, rfl, hXl, HLX, HX, HO, HBk, hsz⟩ := hrel
    have HXB := hidOf ((HBk.out.block w.heap.size (by omega)).trans HQ0.out)
    have y4 : wr.cell? ⟨w.heap.size, 4, none⟩ = some (.slice a7 L.length c7) := by rw [cell_of_row _ _ 4 _ 38 (0, 0) HXB.out]; rfl
    have y7 : wr.cell? ⟨w.heap.size, 7, none⟩ = some (.slice a8 P.length c8) := by rw [cell_of_row _ _ 7 _ 38 (0, 0) HXB.out]; rfl
    have HBw : Hid (Below w.heap.size w wr) := hidOf (HB0.out.trans (HBk.out.mono (by omega)))
    have hflen : (fN (look R) (L.take k)).2.length ≤ k := by have := fN_len (look R) (L.take k) (fun _ => none, []); simp at this; exact Nat.le_trans this (Nat.min_le_left _ _)
    by_cases hlt : k < L.length
    · have hltz : (k : Int) < (L.length : Int) := by omega
      obtain ⟨x, hx⟩ : ∃ x, L[k]? = some x := ⟨L[k], List.getElem?_eq_getElem hlt⟩
      obtain ⟨b, off, rfl, hbl, x0, x1, x2, x3, x4, x5, x6, x7⟩ := nd_at (HNd.out.grow HBw.out) hx
      have HFT : Hid (fN (look R) (L.take (k + 1)) = stN (look R) (fN (look R) (L.take k)) x) := hidOf (foldl_take _ _ hx)
      clear hx
      cases hup : x.up with
      | false =>
        rw [hup] at x3
        have HE : Hid (stN (look R) (fN (look R) (L.take k)) x = (fN (look R) (L.take k))) := hidOf (by unfold stN; simp [hup])
        have HB1' := hidOf (below1 wr (.cells #[.int .i64 x.id, .int .i64 x.c1, .int .i64 x.c2, .bool false, .bool x.dr, .int .i64 x.bt, .int .i64 x.ep, .int .i64 x.sq] 52))
        clear hup
        go_wp2
        go_roundw
        case rel => exact ⟨k + 1, X, xa, xc, by omega, by go_num, rfl, by omega, hidOf (by rw [HFT.out, HE.out]; exact HLX.out), hidOf (HX.out.grow HB1'.out), hidOf (by rw [HFT.out, HE.out]; exact HO.out.grow HB1'.out), hidOf (HBk.out.trans (HB1'.out.mono hsz)), by simp; omega⟩
        case measure => simp [intOf]; omega
      | true =>
        rw [hup] at x3
        have HB1' := hidOf (below1 wr (.cells #[.int .i64 x.id, .int .i64 x.c1, .int .i64 x.c2, .bool true, .bool x.dr, .int .i64 x.bt, .int .i64 x.ep, .int .i64 x.sq] 52))
        have HQ1' := hidOf (heap_alloc_new wr (.cells #[.int .i64 x.id, .int .i64 x.c1, .int .i64 x.c2, .bool true, .bool x.dr, .int .i64 x.bt, .int .i64 x.ep, .int .i64 x.sq] 52))
        have HBW1 : Hid (Below w.heap.size w (wr.alloc (.cells #[.int .i64 x.id, .int .i64 x.c1, .int .i64 x.c2, .bool true, .bool x.dr, .int .i64 x.bt, .int .i64 x.ep, .int .i64 x.sq] 52))) := hidOf (HBw.out.trans (HB1'.out.mono HBw.out.size))
        have HRw := HR
        have HV : Hid (∀ v, look R (sgOf ⟨false, x.id, x.ep, x.sq, 0⟩) = some v → 0 ≤ v ∧ v < 20) := hidOf (fun v hv => by have h9 := HM.out _ v hv; have h8 : (sgOf ⟨false, x.id, x.ep, x.sq, 0⟩).kd = 1 := rfl; omega)
        cases hdb : dueB (look R) (fN (look R) (L.take k)).1 (nSg x) 20 with
        | false =>
          have HDB := hidOf hdb
          have HE : Hid (stN (look R) (fN (look R) (L.take k)) x = (dueN (look R) (fN (look R) (L.take k)).1 (nSg x) 20, (fN (look R) (L.take k)).2)) := hidOf (by unfold stN; simp [hup, hdb])
          clear hup hdb
          go_wp2_with (first
            | (go_at_call 18; refine (goes_any pR W.heap.size R X ⟨false, x.id, x.ep, x.sq, 0⟩ 20 xa xc _ (HRw.out.grow HBW1.out) (HX.out.grow HB1'.out) (by have := HBW1.out.size; simp only [World.size_alloc] at this ⊢; omega) (by omega) HV.out (by decide) rfl).mono ?_; rintro r w2 ⟨xa', xc', X', rfl, hx2, hlk2, hxl2, hf2⟩; rw [HLX.out, show dueB (look R) (fN (look R) (L.take k)).1 (sgOf ⟨false, x.id, x.ep, x.sq, 0⟩) 20 = false from HDB.out]; have HX2 := hidOf hx2; have HLX2 : Hid (look X' = dueN (look R) (fN (look R) (L.take k)).1 (nSg x) 20) := hidOf (by rw [hlk2, HLX.out]; rfl); have HF2 := hidOf hf2; have HQ2 := hidOf (hf2.cells HQ1'.out (by decide)); have HZ2 : Hid (wr.heap.size + 1 ≤ w2.heap.size) := hidOf (by have := hf2.size; simpa using this); clear hx2 hlk2 hf2))
          go_roundw
          case rel => exact ⟨k + 1, X', xa', xc', by omega, by go_num, rfl, by omega, hidOf (by rw [HFT.out, HE.out]; exact HLX2.out), HX2, hidOf (by rw [HFT.out, HE.out]; exact (HO.out.grow HB1'.out).keepT HF2.out (by decide)), hidOf ((HBk.out.trans (HB1'.out.mono (by omega))).trans (HF2.out.below (by simp; omega))), by have := HZ2.out; omega⟩
          case measure => simp [intOf]; omega
        | true =>
          have HDB := hidOf hdb
          have HE : Hid (stN (look R) (fN (look R) (L.take k)) x = (dueN (look R) (fN (look R) (L.take k)).1 (nSg x) 20, (fN (look R) (L.take k)).2 ++ [dnC x])) := hidOf (by unfold stN; simp [hup, hdb])
          clear hup hdb
          go_wp2_with (first
            | (go_at_call 18; refine (goes_any pR W.heap.size R X ⟨false, x.id, x.ep, x.sq, 0⟩ 20 xa xc _ (HRw.out.grow HBW1.out) (HX.out.grow HB1'.out) (by have := HBW1.out.size; simp only [World.size_alloc] at this ⊢; omega) (by omega) HV.out (by decide) rfl).mono ?_; rintro r w2 ⟨xa', xc', X', rfl, hx2, hlk2, hxl2, hf2⟩; rw [HLX.out, show dueB (look R) (fN (look R) (L.take k)).1 (sgOf ⟨false, x.id, x.ep, x.sq, 0⟩) 20 = true from HDB.out]; have HX2 := hidOf hx2; have HLX2 : Hid (look X' = dueN (look R) (fN (look R) (L.take k)).1 (nSg x) 20) := hidOf (by rw [hlk2, HLX.out]; rfl); have HF2 := hidOf hf2; have HQ2 := hidOf (hf2.cells HQ1'.out (by decide)); have HZ2 : Hid (wr.heap.size + 1 ≤ w2.heap.size) := hidOf (by have := hf2.size; simpa using this); have q := cell_of_row w2 wr.heap.size; have t0 := (q 0 _ 52 (0, 0) HQ2.out).trans rfl; have t1 := (q 1 _ 52 (0, 0) HQ2.out).trans rfl; have t6 := (q 6 _ 52 (0, 0) HQ2.out).trans rfl; have t7 := (q 7 _ 52 (0, 0) HQ2.out).trans rfl; simp only [List.getElem?_toArray, List.getElem?_cons_zero, List.getElem?_cons_succ] at t0 t1 t6 t7; clear q; clear hx2 hlk2 hf2)
            | (at_builtin; refine wpList_appR _ rfl _ _ 41 rfl W.heap.size 60 27 304 Try.underlying41 HIF.out (by decide) cm_size u6 (fN (look R) (L.take k)).2 rfl (((HO.out.grow HB1'.out).keepT HF2.out (by decide)).grow (below1 w2 (.cells #[.int .i64 7, .int .i64 0, .int .i64 0, .int .i64 0, .int .i64 0, .int .i64 0, .int .i64 0, .slice none 0 0, .int .i64 0, .bool false, .int .i64 x.id, .int .i64 0, .int .i64 0, .bool false, .bool false, .int .i64 0, .int .i64 x.ep, .int .i64 x.sq, .slice none 0 0, .int .i64 0, .int .i64 0, .int .i64 0, .slice none 0 0, .slice none 0 0, .bool false, .slice none 0 0, .slice none 0 0] 60))) (dnC x) ⟨w2.heap.size, 0, none⟩ 1 rfl (fun j u hj => cell_news w2 (cmC (dnC x)) 60 j u hj) (cm_one _) (by unfold maxLen; omega) (by omega) (by have := HZ2.out; simp; omega) ?_; intro v5 w5 ho5 hg5 hv5; have HF5 := hidOf ((((HO.out.grow HB1'.out).keepT HF2.out (by decide)).grow (below1 w2 (.cells #[.int .i64 7, .int .i64 0, .int .i64 0, .int .i64 0, .int .i64 0, .int .i64 0, .int .i64 0, .slice none 0 0, .int .i64 0, .bool false, .int .i64 x.id, .int .i64 0, .int .i64 0, .bool false, .bool false, .int .i64 0, .int .i64 x.ep, .int .i64 x.sq, .slice none 0 0, .int .i64 0, .int .i64 0, .int .i64 0, .slice none 0 0, .slice none 0 0, .bool false, .slice none 0 0, .slice none 0 0] 60))).frt2 hg5); have HO5 := hidOf ho5; clear ho5 hg5 hv5))
          go_roundw
          case rel => exact ⟨k + 1, X', xa', xc', by omega, by go_num, rfl, by omega, hidOf (by rw [HFT.out, HE.out]; exact HLX2.out), hidOf ((HX2.out.grow (below1 _ _)).keepT HF5.out (by decide)), hidOf (by rw [HFT.out, HE.out]; exact HO5.out), hidOf ((((HBk.out.trans (HB1'.out.mono (by omega))).trans (HF2.out.below (by simp; omega))).trans ((below1 _ _).mono (by have := HZ2.out; omega))).trans (HF5.out.below (by have := HZ2.out; simp; omega))), by have := HF5.out.size; have := HZ2.out; simp only [World.size_alloc] at *; omega⟩
          case measure => simp [intOf]; omega

    · obtain rfl : k = L.length := by omega
      have hltz : ¬ (L.length : Int) < (L.length : Int) := by omega
      have HLX1 : Hid (look X = (fN (look R) L).1) := hidOf (by have := HLX.out; rw [List.take_length] at this; exact this)
      have HO1 : Hid (OwR W.heap.size 60 27 cmC wr u6 (fN (look R) L).2) := hidOf (by have := HO.out; rw [List.take_length] at this; exact this)
      clear HLX HO hltz HXB
      go_wp2
      obtain ⟨wq, hwq⟩ : ∃ y, y = wr := ⟨_, rfl⟩
      subst hwq
      go_loopw [5, 6, 10] (fun n o i w5 => ∃ (k : Nat) (X : List Ck) (xa : Option Addr) (xc : Nat), k ≤ P.length ∧ i = .int .i64 (k : Int) ∧ n = .slice xa X.length xc ∧ X.length ≤ L.length + k ∧ Hid (look X = (fD (look R) L (P.take k)).1) ∧ Hid (OwR W.heap.size 76 5 ckC w5 (.slice xa X.length xc) X) ∧ Hid (OwR W.heap.size 60 27 cmC w5 o (fD (look R) L (P.take k)).2) ∧ Hid (Below W.heap.size W w5) ∧ W.heap.size ≤ w5.heap.size) (fun _ _ i _ => P.length - (intOf i).toNat)
      case atStart => exact ⟨0, X, xa, xc, Nat.zero_le _, rfl, rfl, by omega, HLX1, HX, HO1, HBk, hsz⟩
      case round =>
        obtain ⟨k, X, xa, xc, hk, rfl, rfl, hXl, HLX, HX, HO, HBk, hsz⟩ := hrel
        have HXB := hidOf ((HBk.out.block w.heap.size (by omega)).trans HQ0.out)
        have y7 : wr.cell? ⟨w.heap.size, 7, none⟩ = some (.slice a8 P.length c8) := by rw [cell_of_row _ _ 7 _ 38 (0, 0) HXB.out]; rfl
        have HBw : Hid (Below w.heap.size w wr) := hidOf (HB0.out.trans (HBk.out.mono (by omega)))
        have hflen : (fD (look R) L (P.take k)).2.length ≤ L.length + k := by have := fD_len (look R) (P.take k) (fN (look R) L); have h8 := fN_len (look R) L (fun _ => none, []); have h9 : (P.take k).length ≤ k := (by rw [List.length_take]; exact Nat.min_le_left _ _); unfold fD; unfold fN at this ⊢; simp only [List.length_nil] at h8; omega
        by_cases hlt : k < P.length
        · have hltz : (k : Int) < (P.length : Int) := by omega
          obtain ⟨x, hx⟩ : ∃ x, P[k]? = some x := ⟨P[k], List.getElem?_eq_getElem hlt⟩
          obtain ⟨b, off, rfl, hbl, x0, x1, x2, x3⟩ := dp_at (HDp.out.grow HBw.out) hx
          have HFT : Hid (fD (look R) L (P.take (k + 1)) = stD (look R) (fD (look R) L (P.take k)) x) := hidOf (foldl_take _ _ hx)
          clear hx
          by_cases hst : x.st = 1
          · rw [hst] at x2
            have HB1' := hidOf (below1 wr (.cells #[.int .i64 x.jb, .int .i64 x.vr, .int .i64 1, .int .i64 x.ix] 71))
            have HQ1' := hidOf (heap_alloc_new wr (.cells #[.int .i64 x.jb, .int .i64 x.vr, .int .i64 1, .int .i64 x.ix] 71))
            have HBW1 : Hid (Below w.heap.size w (wr.alloc (.cells #[.int .i64 x.jb, .int .i64 x.vr, .int .i64 1, .int .i64 x.ix] 71))) := hidOf (HBw.out.trans (HB1'.out.mono HBw.out.size))
            have HRw := HR
            have HV : Hid (∀ v, look R (sgOf ⟨true, x.jb, x.vr, x.ix, 0⟩) = some v → 0 ≤ v ∧ v < 40) := hidOf (fun v hv => by have h9 := HM.out _ v hv; have h8 : (sgOf ⟨true, x.jb, x.vr, x.ix, 0⟩).kd = 2 := rfl; omega)
            cases hdb : dueB (look R) (fD (look R) L (P.take k)).1 (dSg x) 40 with
            | false =>
              have HDB := hidOf hdb
              have HE : Hid (stD (look R) (fD (look R) L (P.take k)) x = (dueN (look R) (fD (look R) L (P.take k)).1 (dSg x) 40, (fD (look R) L (P.take k)).2)) := hidOf (by unfold stD; simp [hst, hdb])
              clear hst hdb
              go_wp2_with (first
                | (go_at_call 18; refine (goes_any pR W.heap.size R X ⟨true, x.jb, x.vr, x.ix, 0⟩ 40 xa xc _ (HRw.out.grow HBW1.out) (HX.out.grow HB1'.out) (by have := HBW1.out.size; simp only [World.size_alloc] at this ⊢; omega) (by omega) HV.out (by decide) rfl).mono ?_; rintro r w2 ⟨xa', xc', X', rfl, hx2, hlk2, hxl2, hf2⟩; rw [HLX.out, show dueB (look R) (fD (look R) L (P.take k)).1 (sgOf ⟨true, x.jb, x.vr, x.ix, 0⟩) 40 = false from HDB.out]; have HX2 := hidOf hx2; have HLX2 : Hid (look X' = dueN (look R) (fD (look R) L (P.take k)).1 (dSg x) 40) := hidOf (by rw [hlk2, HLX.out]; rfl); have HF2 := hidOf hf2; have HQ2 := hidOf (hf2.cells HQ1'.out (by decide)); have HZ2 : Hid (wr.heap.size + 1 ≤ w2.heap.size) := hidOf (by have := hf2.size; simpa using this); clear hx2 hlk2 hf2))
              go_roundw
              case rel => exact ⟨k + 1, X', xa', xc', by omega, by go_num, rfl, by omega, hidOf (by rw [HFT.out, HE.out]; exact HLX2.out), HX2, hidOf (by rw [HFT.out, HE.out]; exact (HO.out.grow HB1'.out).keepT HF2.out (by decide)), hidOf ((HBk.out.trans (HB1'.out.mono (by omega))).trans (HF2.out.below (by simp; omega))), by have := HZ2.out; omega⟩
              case measure => simp [intOf]; omega
            | true =>
              have HDB := hidOf hdb
              have HE : Hid (stD (look R) (fD (look R) L (P.take k)) x = (dueN (look R) (fD (look R) L (P.take k)).1 (dSg x) 40, (fD (look R) L (P.take k)).2 ++ [rvC x])) := hidOf (by unfold stD; simp [hst, hdb])
              clear hst hdb
              go_wp2_with (first
                | (go_at_call 18; refine (goes_any pR W.heap.size R X ⟨true, x.jb, x.vr, x.ix, 0⟩ 40 xa xc _ (HRw.out.grow HBW1.out) (HX.out.grow HB1'.out) (by have := HBW1.out.size; simp only [World.size_alloc] at this ⊢; omega) (by omega) HV.out (by decide) rfl).mono ?_; rintro r w2 ⟨xa', xc', X', rfl, hx2, hlk2, hxl2, hf2⟩; rw [HLX.out, show dueB (look R) (fD (look R) L (P.take k)).1 (sgOf ⟨true, x.jb, x.vr, x.ix, 0⟩) 40 = true from HDB.out]; have HX2 := hidOf hx2; have HLX2 : Hid (look X' = dueN (look R) (fD (look R) L (P.take k)).1 (dSg x) 40) := hidOf (by rw [hlk2, HLX.out]; rfl); have HF2 := hidOf hf2; have HQ2 := hidOf (hf2.cells HQ1'.out (by decide)); have HZ2 : Hid (wr.heap.size + 1 ≤ w2.heap.size) := hidOf (by have := hf2.size; simpa using this); have q := cell_of_row w2 wr.heap.size; have t0 := (q 0 _ 71 (0, 0) HQ2.out).trans rfl; have t1 := (q 1 _ 71 (0, 0) HQ2.out).trans rfl; simp only [List.getElem?_toArray, List.getElem?_cons_zero, List.getElem?_cons_succ] at t0 t1; clear q; clear hx2 hlk2 hf2)
                | (at_builtin; refine wpList_appR _ rfl _ _ 41 rfl W.heap.size 60 27 304 Try.underlying41 HIF.out (by decide) cm_size u6 (fD (look R) L (P.take k)).2 rfl (((HO.out.grow HB1'.out).keepT HF2.out (by decide)).grow (below1 w2 (.cells #[.int .i64 10, .int .i64 0, .int .i64 0, .int .i64 x.jb, .int .i64 0, .int .i64 0, .int .i64 0, .slice none 0 0, .int .i64 x.vr, .bool false, .int .i64 0, .int .i64 0, .int .i64 0, .bool false, .bool false, .int .i64 0, .int .i64 0, .int .i64 0, .slice none 0 0, .int .i64 0, .int .i64 0, .int .i64 0, .slice none 0 0, .slice none 0 0, .bool false, .slice none 0 0, .slice none 0 0] 60))) (rvC x) ⟨w2.heap.size, 0, none⟩ 1 rfl (fun j u hj => cell_news w2 (cmC (rvC x)) 60 j u hj) (cm_one _) (by unfold maxLen; omega) (by omega) (by have := HZ2.out; simp; omega) ?_; intro v5 w5 ho5 hg5 hv5; have HF5 := hidOf ((((HO.out.grow HB1'.out).keepT HF2.out (by decide)).grow (below1 w2 (.cells #[.int .i64 10, .int .i64 0, .int .i64 0, .int .i64 x.jb, .int .i64 0, .int .i64 0, .int .i64 0, .slice none 0 0, .int .i64 x.vr, .bool false, .int .i64 0, .int .i64 0, .int .i64 0, .bool false, .bool false, .int .i64 0, .int .i64 0, .int .i64 0, .slice none 0 0, .int .i64 0, .int .i64 0, .int .i64 0, .slice none 0 0, .slice none 0 0, .bool false, .slice none 0 0, .slice none 0 0] 60))).frt2 hg5); have HO5 := hidOf ho5; clear ho5 hg5 hv5))
              go_roundw
              case rel => exact ⟨k + 1, X', xa', xc', by omega, by go_num, rfl, by omega, hidOf (by rw [HFT.out, HE.out]; exact HLX2.out), hidOf ((HX2.out.grow (below1 _ _)).keepT HF5.out (by decide)), hidOf (by rw [HFT.out, HE.out]; exact HO5.out), hidOf ((((HBk.out.trans (HB1'.out.mono (by omega))).trans (HF2.out.below (by simp; omega))).trans ((below1 _ _).mono (by have := HZ2.out; omega))).trans (HF5.out.below (by have := HZ2.out; simp; omega))), by have := HF5.out.size; have := HZ2.out; simp only [World.size_alloc] at *; omega⟩
              case measure => simp [intOf]; omega

          · have hstb : (x.st == 1) = false := by simp [hst]
            have HE : Hid (stD (look R) (fD (look R) L (P.take k)) x = (fD (look R) L (P.take k))) := hidOf (by unfold stD; simp [hst])
            have HB1' := hidOf (below1 wr (.cells #[.int .i64 x.jb, .int .i64 x.vr, .int .i64 x.st, .int .i64 x.ix] 71))
            clear hst
            go_wp2
            go_roundw
            case rel => exact ⟨k + 1, X, xa, xc, by omega, by go_num, rfl, by omega, hidOf (by rw [HFT.out, HE.out]; exact HLX.out), hidOf (HX.out.grow HB1'.out), hidOf (by rw [HFT.out, HE.out]; exact HO.out.grow HB1'.out), hidOf (HBk.out.trans (HB1'.out.mono hsz)), by simp; omega⟩
            case measure => simp [intOf]; omega
        · obtain rfl : k = P.length := by omega
          have hltz : ¬ (P.length : Int) < (P.length : Int) := by omega
          obtain ⟨vR, hR1, hR2⟩ := (HR.out.grow HBw.out).ex
          have c0 : wr.cell? ⟨pR, 0, none⟩ = some vR := by rw [cell_of_row wr pR 0 _ 28 (0, 0) hR1]; rfl
          have fz : wr.frozen? ⟨pR, 0, none⟩ = false := by simp [World.frozen?, hR1]
          have HP := hidOf hR1
          have hlo := HR.out.lo
          clear hR1 hR2
          go_wp2
          go_ret
          have hl := HLX.out
          have ho := HO.out
          rw [List.take_length] at hl ho
          have hs := (FrT.refl D [28] wr).set HP.out (by decide) hlo 0 (.slice xa X.length xc)
          have h1 : RfR D (wr.setCell ⟨pR, 0, none⟩ (.slice xa X.length xc)) pR X := by
            refine ⟨⟨.slice xa X.length xc, ?_, (HX.out.mono (by omega)).keepT hs (by decide)⟩, hlo⟩
            rw [heap_setCell_same wr pR 0 _ 28 (.slice xa X.length xc) HP.out]; rfl
          exact ⟨_, rfl, X, h1, hl, (ho.mono (by omega)).keepT hs (by decide), (FrT.of_below HBw.out).trans hs⟩
end Go.Proofs.Ytcdbkieimkcogaa
