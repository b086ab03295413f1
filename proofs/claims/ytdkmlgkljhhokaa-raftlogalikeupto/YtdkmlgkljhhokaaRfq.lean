/- The document's log: Accept. -/
import Derived.Test.YtdkmlgkljhhokaaRfp
namespace Go.Proofs.Ytdkmlgkljhhokaa
open Go.RowKit

theorem acc_come {M : Lg} (h : Wf M) {i t : Int} {D : List En} : accB M i t D = (comeB i t D && hasB M i t) := by
  unfold accB comeB
  cases hh : hasB M i t with
  | false => simp
  | true =>
    obtain ⟨⟨h1, h2⟩, h3⟩ := hasB_iff.1 hh
    have h4 := h.lastI_le
    have h5 := h.b0
    have h6 := h.term i
    have e1 : isN i = true := by unfold isN; simp; omega
    have e2 : isN t = true := by unfold isN; simp; omega
    simp [e1, e2]
theorem wpW_trans {w a b : World} (h1 : Below w.heap.size w a) (h2 : Below a.heap.size a b) : Below w.heap.size w b := h1.trans (h2.mono h1.size)
theorem take_min {L : List En} {k kk : Nat} {e : En} (h : L[k]? = some e) : L.take (min (k + 1) kk) = if k < kk then L.take (min k kk) ++ [e] else L.take (min k kk) := by
  obtain ⟨hl, rfl⟩ := List.getElem?_eq_some_iff.1 h
  split
  · rw [Nat.min_eq_left (by omega), Nat.min_eq_left (by omega), List.take_succ_eq_append_getElem hl]
  · rw [Nat.min_eq_right (by omega), Nat.min_eq_right (by omega)]
section
variable {w0 w : World} {q : Nat} {M : Lg} {v : Value}
def RaP (w0 w : World) (q : Nat) (v : Value) (X : Int) (B : Bool) (M' : Lg) (e : Ending) (w' : World) : Prop := ∃ v', e = .returned (.tuple #[.int .i64 X, .bool B]) ∧ LgR w0 w' 69 q M' v' ∧ Chg w w' (fun k => k = q) ∧ Nx w v v'
theorem RaP.mk {w' : World} {X : Int} {B : Bool} {M' : Lg} {v' : Value} (h1 : LgR w0 w' 69 q M' v') (h2 : Chg w w' (fun k => k = q)) (h3 : Nx w v v') : RaP w0 w q v X B M' (.returned (.tuple #[.int .i64 X, .bool B])) w' := ⟨v', rfl, h1, h2, h3⟩
set_option maxHeartbeats 8000000 in
set_option maxRecDepth 100000 in
theorem raccept_any (h : LgR w0 w 69 q M v) (i t : Int) (xa : Option Addr) (xc : Nat) (D : List En) (hx : EsR w0 w (.slice xa D.length xc) D) (hxp : D ≠ [] → (Value.slice xa D.length xc).ownBlock ≠ some q) (hlen : M.L.length + D.length ≤ 33554432) : Calls Try.prog 26 #[.pointer (some ⟨q, 0, none⟩), .int .i64 i, .int .i64 t, .slice xa D.length xc] w (RaP w0 w q v (accX M i t D) (accB M i t D) (accM M i t D)) := by
  have H := hidOf h
  have HCO := hidOf (come_any w0 w _ D i t hx (by omega))
  have HAC := hidOf (acc_come h.wf (i := i) (t := t) (D := D))
  have hw0 := h.w0le
  cases hc : comeB i t D with
  | false =>
    have HE : Hid (accB M i t D = false ∧ accX M i t D = 0 ∧ accM M i t D = M) := by
      have e : accB M i t D = false := by rw [HAC.out, hc]; rfl
      exact hidOf ⟨e, by unfold accX; rw [if_neg (by rw [e]; decide)], by unfold accM; rw [if_neg (by rw [e]; decide)]⟩
    rw [HE.out.1, HE.out.2.1, HE.out.2.2]
    rw [hc] at HCO
    clear h hx hxp HAC hc
    generalize D.length = n at *
    go_enter Try.func26, Try.ntmps26
    go_wp2_with (go_at_call 39; refine HCO.out.mono ?_; rintro e w1 ⟨rfl, hb1⟩; have HB1 := hidOf hb1; clear hb1)
    go_ret2
    exact RaP.mk (H.out.below HB1.out) (Chg.bel HB1.out) (Nx.refl _ _)
  | true =>
    rw [hc] at HCO HAC
    have HT := hidOf (fun (w' : World) (hb : Below w.heap.size w w') (i : Int) => rterm_any (h.below hb) i)
    cases hh : hasB M i t with
    | false =>
      have HE : Hid (accB M i t D = false ∧ accX M i t D = 0 ∧ accM M i t D = M) := by
        have e : accB M i t D = false := by rw [HAC.out, hh]; rfl
        exact hidOf ⟨e, by unfold accX; rw [if_neg (by rw [e]; decide)], by unfold accM; rw [if_neg (by rw [e]; decide)]⟩
      rw [HE.out.1, HE.out.2.1, HE.out.2.2]
      have HTI := hidOf (fun (w' : World) (hb : Below w.heap.size w w') => HT.out w' hb i)
      have hhb : (termE M i ≠ 0) ∨ (termE M i = 0 ∧ termT M i ≠ t) := by
        unfold hasB at hh
        by_cases e1 : termE M i = 0
        · exact .inr ⟨e1, fun e2 => by simp [e1, e2] at hh⟩
        · exact .inl e1
      clear h hx hxp HAC hc hh HT HE
      generalize D.length = n at *
      generalize termT M i = tt at *
      generalize termE M i = te at *
      rcases hhb with e1 | ⟨rfl, e2⟩
      · have hb1 : (te == 0) = false := beq_false_of_ne e1
        have hb2 : (te != 0) = true := bne_iff_ne.2 e1
        go_enter Try.func26, Try.ntmps26
        go_wp2_with (first | (go_at_call 39; refine HCO.out.mono ?_; rintro e w1 ⟨rfl, hb1⟩; have HB1 := hidOf hb1; clear hb1) | (go_at_call 28; refine (HTI.out _ HB1.out).mono ?_; rintro e w2 ⟨rfl, hw2⟩; subst w2))
        go_ret2
        exact RaP.mk (H.out.below HB1.out) (Chg.bel HB1.out) (Nx.refl _ _)
      · have hb1 : (tt == t) = false := beq_false_of_ne e2
        have hb2 : (tt != t) = true := bne_iff_ne.2 e2
        go_enter Try.func26, Try.ntmps26
        go_wp2_with (first | (go_at_call 39; refine HCO.out.mono ?_; rintro e w1 ⟨rfl, hb1⟩; have HB1 := hidOf hb1; clear hb1) | (go_at_call 28; refine (HTI.out _ HB1.out).mono ?_; rintro e w2 ⟨rfl, hw2⟩; subst w2))
        go_ret2
        exact RaP.mk (H.out.below HB1.out) (Chg.bel HB1.out) (Nx.refl _ _)
    | true =>
      obtain ⟨⟨g1, g2⟩, g3⟩ := hasB_iff.1 hh
      have hm : mayB i t D = true := by unfold comeB at hc; rw [Bool.and_eq_true] at hc; exact hc.2
      have hacc : accB M i t D = true := by rw [HAC.out, hh]; rfl
      have HAX : Hid (accX M i t D = hdIx (freshD M D) ∧ accM M i t D = replM M (freshD M D)) := hidOf ⟨by unfold accX; rw [if_pos hacc]; cases freshD M D <;> rfl, by unfold accM; rw [if_pos hacc]⟩
      have HFS := hidOf (freshD_suffix g1 g2 g3 hm)
      have HWA := hidOf (h.wf.acc i t D)
      rw [hacc]
      have HTI : Hid (∀ w', Below w.heap.size w w' → Calls Try.prog 28 #[.pointer (some ⟨q, 0, none⟩), .int .i64 i] w' fun e w2 => e = .returned (.tuple #[.int .i64 t, .int .i64 0]) ∧ w2 = w') := hidOf (fun w' hb => by
        have := HT.out w' hb i
        rw [g3, show termE M i = 0 by unfold termE; rw [if_neg (by omega), if_neg (by omega)]] at this
        exact this)
      have HX := hidOf hx
      have HXP := hidOf hxp
      have HLN := hidOf hlen
      have HIN := hidOf (show M.bi ≤ i ∧ i ≤ lastI M from ⟨g1, g2⟩)
      obtain ⟨va, vc, hv⟩ := h.form
      subst hv
      clear h hx hxp hh hm hacc g1 g2 g3 hc HAC
      have hdl : D.length ≤ 33554432 := by omega
      have hml : M.L.length ≤ 33554432 := by omega
      clear hlen
      go_enter Try.func26, Try.ntmps26
      go_wp2_with (first | (go_at_call 39; refine HCO.out.mono ?_; rintro e w1 ⟨rfl, hb1⟩; have HB1 := hidOf hb1; clear hb1) | (go_at_call 28; refine (HTI.out _ HB1.out).mono ?_; rintro e w2 ⟨rfl, hw2⟩; subst w2))
      go_loopw [13] (fun kv wr => ∃ k : Nat, k ≤ D.length ∧ kv = .int .i64 (k : Int) ∧ Hid (freshD M D = freshD M (D.drop k)) ∧ wr = w1) (fun kv _ => D.length - (intOf kv).toNat)
      case atStart => exact ⟨0, Nat.zero_le _, rfl, hidOf rfl, rfl⟩
      case round =>
        obtain ⟨k, hk, rfl, HK, hwr⟩ := hrel
        subst wr
        by_cases hlt : k < D.length
        · have hltz : (k : Int) < (D.length : Int) := by omega
          obtain ⟨e, he⟩ : ∃ e, D[k]? = some e := ⟨_, List.getElem?_eq_getElem hlt⟩
          have hx1 := HX.out.below hw0 HB1.out
          obtain ⟨b, off, cap, c, hv, hb, d0, d1, _, _⟩ := hx1.at he
          cases hv
          have HFD : Hid (freshD M D = if hasB M e.ix e.tm = true then freshD M (D.drop (k + 1)) else e :: D.drop (k + 1)) := hidOf (HK.out.trans (freshD_drop he))
          have HTE := hidOf (HT.out w1 HB1.out e.ix)
          have HHB : Hid (hasB M e.ix e.tm = (decide (termE M e.ix = 0) && decide (termT M e.ix = e.tm))) := hidOf rfl
          cases hhe : hasB M e.ix e.tm with
          | true =>
            rw [hhe] at HFD HHB
            have HF2 : Hid (freshD M D = freshD M (D.drop (k + 1))) := hidOf (by rw [HFD.out, if_pos rfl])
            have hq := HHB.out.symm
            rw [Bool.and_eq_true, decide_eq_true_eq, decide_eq_true_eq] at hq
            rw [hq.1, hq.2] at HTE
            clear HFD he hhe HFS HHB hq hx1
            obtain ⟨ix, tm, op, id⟩ := e
            dsimp only at d0 d1 HTE
            go_wp2_with (go_at_call 28; refine HTE.out.mono ?_; rintro e w2 ⟨rfl, hw2⟩; subst w2)
            go_roundw
            case rel => exact ⟨k + 1, by omega, by go_num, HF2, by first | trivial | rfl⟩
            case measure => simp [intOf]; omega
          | false =>
            rw [hhe] at HFD HHB
            have HF2 : Hid (freshD M D = e :: D.drop (k + 1)) := hidOf (by rw [HFD.out, if_neg (by decide)])
            have HSB := hidOf (hx1.sub (j := k) (m := D.length - k) hlt (by omega))
            have HDK : Hid ((D.drop k).take (D.length - k) = e :: D.drop (k + 1)) := hidOf (by rw [List.take_of_length_le (by simp), drop_at he])
            obtain ⟨kk, hkk, hkl⟩ : ∃ kk : Nat, e.ix = M.bi + 1 + kk ∧ kk ≤ M.L.length := by
              rcases HFS.out with q | ⟨k', x, E, q1, _, _, _, _, q6, q7, _⟩
              · rw [HF2.out] at q; cases q
              · rw [HF2.out] at q1
                cases q1
                unfold lastI at q7
                exact ⟨(e.ix - M.bi - 1).toNat, by omega, by omega⟩
            have HMA : Hid (accM M i t D = ⟨M.bi, M.bt, M.L.take kk ++ e :: D.drop (k + 1)⟩ ∧ accX M i t D = e.ix) := by
              rw [HAX.out.1, HAX.out.2, HF2.out]
              refine hidOf ⟨?_, rfl⟩
              show Lg.mk _ _ _ = _
              rw [show (e.ix - M.bi - 1).toNat = kk by omega]
            have HWF2 : Hid (Wf ⟨M.bi, M.bt, M.L.take kk ++ e :: D.drop (k + 1)⟩) := hidOf (by rw [← HMA.out.1]; exact HWA.out)
            have HLL : Hid ((M.L.take kk ++ e :: D.drop (k + 1)).length ≤ 33554432 ∧ (e :: D.drop (k + 1)).length = D.length - k) := hidOf (by
              rw [← drop_at he, List.length_append, List.length_take, List.length_drop]
              exact ⟨by have := HLN.out; omega, rfl⟩)
            obtain ⟨b', off', hab, _, hck, hck2, hsub⟩ := HSB.out
            cases hab
            rw [HDK.out] at hsub
            have HSUB := hidOf hsub
            have hne : ¬ xc = k := by omega
            have hkd : k ≤ D.length := by omega
            have HBQ : Hid (b ≠ q) := hidOf (fun e => HXP.out (ne_lt hlt) (by rw [e]; rfl))
            have hcs : (termE M e.ix ≠ 0) ∨ (termE M e.ix = 0 ∧ termT M e.ix ≠ e.tm) := by
              have := HHB.out
              by_cases e1 : termE M e.ix = 0
              · exact .inr ⟨e1, fun e2 => by simp [e1, e2] at this⟩
              · exact .inl e1
            have HL1 := hidOf (H.out.below HB1.out)
            obtain ⟨c0, c1, c2, hp, _⟩ := HL1.out.cells
            have hw1 := HL1.out.w0le
            have hkk2 : M.bi + 1 + (kk : Int) = e.ix := hkk.symm
            have HKK := hidOf hkk
            clear HFD he hhe HFS HSB hsub HHB hx1 HAX HWA hkk hkk2 HT HTI HIN
            generalize termT M e.ix = tt at *
            generalize termE M e.ix = te at *
            obtain ⟨ix, tm, op, id⟩ := e
            dsimp only at d0 d1 HTE hcs HKK HMA
            have hcs2 : ((te == 0) = false ∧ (te != 0) = true) ∨ (te = 0 ∧ (tt == tm) = false) := by
              rcases hcs with h | ⟨h1, h2⟩
              · exact .inl ⟨beq_false_of_ne h, bne_iff_ne.2 h⟩
              · exact .inr ⟨h1, beq_false_of_ne h2⟩
            clear hcs
            rcases hcs2 with ⟨t1, t2⟩ | ⟨rfl, t1⟩
            all_goals
              go_wp2_with (go_at_call 28; refine HTE.out.mono ?_; rintro e w2 ⟨rfl, hw2⟩; subst w2)
              go_loopw [16, 17] (fun ov jv wr => ∃ (j : Nat) (oa : Option Addr) (on oc : Nat), j ≤ M.L.length ∧ jv = .int .i64 (j : Int) ∧ ov = .slice oa on oc ∧ Hid (OwR w0 wr (.slice oa on oc) (M.L.take (min j kk)) ∧ (∀ x, (Value.slice oa on oc).ownBlock = some x → w1.heap.size ≤ x)) ∧ Hid (Below w1.heap.size w1 wr)) (fun _ jv _ => M.L.length - (intOf jv).toNat)
              case atStart => exact ⟨0, none, 0, 0, Nat.zero_le _, rfl, rfl, hidOf ⟨by rw [Nat.zero_min]; exact OwR.nil _ _, fun x hx => by cases hx⟩, hidOf (Below.refl _ _)⟩
              case round =>
                obtain ⟨j, oa, on, oc, hj, rfl, rfl, HO, HB⟩ := hrel
                have HLr := hidOf (HL1.out.below HB.out)
                obtain ⟨y0, y1, y2, hpr, yf⟩ := HLr.out.cells
                have hwr0 := HLr.out.w0le
                have yd := (HB.out.cell (p := ⟨b, off + k * 29, none⟩) hb).trans d0
                have hbr : b < wr.heap.size := Nat.lt_of_lt_of_le hb HB.out.size
                by_cases hjl : j < M.L.length
                · have hjz : (j : Int) < (M.L.length : Int) := by omega
                  obtain ⟨x, hxj⟩ : ∃ x, M.L[j]? = some x := ⟨_, List.getElem?_eq_getElem hjl⟩
                  obtain ⟨b2, off2, cap2, cc, hv2, hb2, z0, _, hE2, hR2⟩ := HLr.out.own.es.at hxj
                  cases hv2
                  have hxi := (H.out.wf.at hxj).1
                  have HTM := hidOf (take_min (kk := kk) hxj)
                  have HE2 := hidOf hE2
                  have HR2 := hidOf hR2
                  clear hxj hE2 hR2
                  by_cases hjk : j < kk
                  · have hlt2 : x.ix < ix := by rw [hxi, HKK.out]; omega
                    have HT2 : Hid (M.L.take (min (j + 1) kk) = M.L.take (min j kk) ++ [x]) := hidOf (by rw [HTM.out, if_pos hjk])
                    have HLK : Hid ((M.L.take (min j kk)).length + 1 ≤ 67108864) := hidOf (by rw [List.length_take]; omega)
                    clear HTM hxi hjk
                    obtain ⟨ix2, tm2, op2, id2⟩ := x
                    dsimp only at z0 hlt2
                    go_wp2
                    go_quiet (fail)
                    go_wp2_with (first
                      | (refine wpList_load_mid rfl 51 (.tmp 93) rfl b2 (off2 + j * 29) rfl cc _ HR2.out Try.underlying51 rfl (en_info HE2.out) ?_)
                      | (refine wpList_bs1 rfl (.tmp 94) rfl cc HE2.out.len rfl ?_)
                      | (at_builtin; refine wpList_app _ rfl (.tmp 87) (.tmp 95) rfl w0 (Nat.le_trans hwr0 (by simp)) (.slice oa on oc) _ _ _ rfl (HO.out.1.below hwr0 (((bdrewN wr _)).trans (below1 (wr.drewN _) _))) rfl (es_box (w := wr.drewN _) (HE2.out.kp (Kp.bel hwr0 (bdrewN wr _))) hwr0) (by have := HLK.out; simpa using this) ?_; intro v3 w3 a1 a2 a3; rw [← HT2.out] at a1; have A1 := hidOf a1; have HB3 := hidOf (HB.out.trans ((((bdrewN wr _).trans (below1 (wr.drewN _) (.cells cc.toArray 51))).mono HB.out.size).trans (a2.below (Nat.le_trans HB.out.size (by simp)) HO.out.2))); have HN3 := hidOf (show ∀ x, v3.ownBlock = some x → w1.heap.size ≤ x from fun x hx => (by rcases a3 with e | e; exact HO.out.2 x (e ▸ hx); (rw [e] at hx; have h5 := Option.some.inj hx; have h6 := HB.out.size; simp at h5; omega))); obtain ⟨oa3, on3, oc3, hv3⟩ : ∃ a n c, v3 = Value.slice a n c := (by obtain ⟨a, c, h⟩ := a1.es.form; exact ⟨a, _, c, h⟩); subst hv3; clear a1 a2 a3))
                    go_roundw
                    case rel => exact ⟨j + 1, oa3, on3, oc3, by omega, by go_num, rfl, hidOf ⟨A1.out, HN3.out⟩, HB3⟩
                    case measure => simp [intOf]; omega
                  · have hlt2 : ¬ x.ix < ix := by rw [hxi, HKK.out]; omega
                    have HT2 : Hid (M.L.take (min (j + 1) kk) = M.L.take (min j kk)) := hidOf (by rw [HTM.out, if_neg hjk])
                    clear HTM hxi hjk
                    obtain ⟨ix2, tm2, op2, id2⟩ := x
                    dsimp only at z0 hlt2
                    go_wp2
                    go_quiet (fail)
                    go_wp2
                    go_roundw
                    case rel => exact ⟨j + 1, oa, on, oc, by omega, by go_num, rfl, hidOf ⟨by rw [HT2.out]; exact HO.out.1.below hwr0 (bdrewN wr _), HO.out.2⟩, hidOf (HB.out.trans ((bdrewN wr _).mono HB.out.size))⟩
                    case measure => simp [intOf]; omega
                · have hjz : ¬ (j : Int) < (M.L.length : Int) := by omega
                  have HTE2 : Hid (M.L.take (min j kk) = M.L.take kk) := hidOf (by rw [Nat.min_eq_right (by omega)])
                  rw [HTE2.out] at HO
                  have HSr := hidOf (HSUB.out.below hw1 HB.out)
                  have HLK : Hid ((M.L.take kk).length + ((⟨ix, tm, op, id⟩ : En) :: D.drop (k + 1)).length ≤ 67108864) := hidOf (by have := HLL.out.1; rw [List.length_append] at this; omega)
                  have HEL := hidOf HLL.out.2
                  go_wp2_with (at_builtin; refine wpList_app _ rfl (.tmp 97) (.tmp 100) rfl w0 hwr0 (.slice oa on oc) _ _ _ rfl HO.out.1 rfl HSr.out HLK.out ?_; intro v3 w3 a1 a2 a3; have A1 := hidOf a1; have hb3 : Below w1.heap.size w1 w3 := HB.out.trans (a2.below HB.out.size HO.out.2); have HB3 := hidOf hb3; have HN3 := hidOf (show ∀ x, v3.ownBlock = some x → w1.heap.size ≤ x from fun x hx => (by rcases a3 with e | e; exact HO.out.2 x (e ▸ hx); (rw [e] at hx; have h5 := Option.some.inj hx; have h6 := HB.out.size; omega))); obtain ⟨oa3, on3, oc3, hv3⟩ : ∃ a n c, v3 = Value.slice a n c := (by obtain ⟨a, c, h⟩ := a1.es.form; exact ⟨a, _, c, h⟩); subst hv3; have HL3 := hidOf (HL1.out.below hb3); obtain ⟨u0, u1, u2, u3, u4⟩ := HL3.out.cells; have ud := (hb3.cell (p := ⟨b, off + k * 29, none⟩) hb).trans d0; have ub : b < w3.heap.size := Nat.lt_of_lt_of_le hb hb3.size; have ubq := HBQ.out; clear a1 a2 a3 hb3 y0 y1 y2 yf yd hpr hbr)
                  go_ret2
                  rw [HMA.out.1, HMA.out.2]
                  have hcw : Chg w w3 (fun k => k = q) := Chg.bel (wpW_trans HB1.out HB3.out)
                  exact RaP.mk (LgR.setv9 HL3.out.blk H.out.lo A1.out HWF2.out HLL.out.1) (hcw.trans (T := fun k => k = q) ⟨rfl, rfl, rfl, by simp, fun i _ hn => Below.heap_setCell w3 ⟨q, 2, none⟩ _ i hn⟩ (fun _ e => .inl e)) (fun x hx => .inr (Nat.le_trans HB1.out.size (HN3.out x hx)))
        · have hltz : ¬ (k : Int) < (D.length : Int) := by omega
          have HF2 : Hid (freshD M D = []) := hidOf (by rw [HK.out, List.drop_eq_nil_of_le (by omega)]; rfl)
          have HMA : Hid (accM M i t D = M ∧ accX M i t D = 0) := by
            rw [HAX.out.1, HAX.out.2, HF2.out]
            exact hidOf ⟨rfl, rfl⟩
          clear HAX
          go_wp2
          go_ret2
          rw [HMA.out.1, HMA.out.2]
          exact RaP.mk (H.out.below HB1.out) (Chg.bel HB1.out) (Nx.refl _ _)
end
end Go.Proofs.Ytdkmlgkljhhokaa
