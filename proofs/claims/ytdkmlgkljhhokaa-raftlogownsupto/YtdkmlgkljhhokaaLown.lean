/- RaftlogOwns, walked. -/
import Derived.Test.YtdkmlgkljhhokaaLpie
namespace Go.Proofs.Ytdkmlgkljhhokaa
open Go.RowKit

theorem zEn_len (ix tm op : Int) : (zEn ix tm op).length = 29 := rfl
theorem zEn_size (ix tm op : Int) : (zEn ix tm op).toArray.size = 29 := rfl
theorem zEn_inf (ix tm op : Int) : (Try.prog.info? 51).map (·.size) = some (zEn ix tm op).toArray.size := by rw [zEn_size]; exact Zc_i
set_option maxHeartbeats 800000 in
set_option maxRecDepth 100000 in
theorem lawOwns (a : Option Addr) (cap : Nat) (L : List Dee) (w : World) (hO : Dees w a L) (hL : wt L ≤ 1048576) : Calls Try.prog 6 #[.slice a L.length cap] w fun e w' => e = .returned (.bool true) ∧ Below w.heap.size w w' := by
  have HO := hidOf hO
  have HL := hidOf hL
  have HLV := hidOf lives_any
  have HTW := hidOf (tw_new w (i := 0) (t := 0) (by decide))
  clear hO hL
  go_enter Try.func6, Try.ntmps6
  go_wp2_with (first
    | (go_at_call 9; refine (new_yes 0 0 w (by decide)).mono ?_; rintro e w1 ⟨rfl, hw1⟩; rw [← hw1] at HTW; have HW1 := hidOf hw1; clear hw1)
    | (go_at_call 10; refine (rnew_yes 0 0 w1 (by decide)).mono ?_; rintro e w2 ⟨rfl, hw2⟩; rw [← hw2] at HTW; clear hw2))
  obtain ⟨q, hq⟩ : ∃ q, q = w1.heap.size := ⟨_, rfl⟩
  rw [← hq] at HTW
  rw [← hq]
  clear hq HW1
  go_loopw [5] (fun i wr => ∃ (k : Nat) (M : Lg), i = .int .i64 (k : Int) ∧ k ≤ L.length ∧ Hid (TwL w wr w.heap.size q M ∧ M.L.length ≤ pre L k)) (fun i _ => L.length - (intOf i).toNat)
  case atStart => exact ⟨0, _, rfl, Nat.zero_le _, hidOf ⟨HTW.out, Nat.zero_le _⟩⟩
  case round =>
    obtain ⟨j, M, rfl, hk, H⟩ := hrel
    have hJ : j ≤ 1048576 := by
      have h1 := pre_len L
      have := HL.out
      omega
    by_cases hlt : j < L.length
    · have hltz : (j : Int) < (L.length : Int) := by omega
      obtain ⟨b, off, hab, hbl, c0, c1, c2, c3, c4, hB⟩ := HO.out.at H.out.1.bel j hlt
      subst hab
      have HC := hidOf (does_t H.out.1 hlt hB HL.out H.out.2)
      obtain ⟨x, hx⟩ : ∃ x, x = dt L j := ⟨_, rfl⟩
      rw [← hx] at c0 c1 c2 c3 c4 HC
      have hbw : b < wr.heap.size := Nat.lt_of_lt_of_le hbl H.out.1.bel.size
      clear hx hB hbl
      obtain ⟨kd, ix, tm, op, xa, xc, D⟩ := x
      simp only at c0 c1 c2 c3 c4
      simp only at HC
      generalize D.length = dn at *
      go_wp2_with (first
        | (go_at_call 11; refine HC.out.mono ?_; rintro e w4 ⟨rfl, ht, hm⟩; generalize nxL _ M = M2 at ht hm; obtain ⟨v2, u2, ht⟩ := ht; have HT := hidOf ht; have HM := hidOf hm; have hb0 := ht.c.wf.b0; have hb1 := ht.c.wf.b1; obtain ⟨bi, HBI⟩ : ∃ b, Hid (b = M2.bi) := ⟨_, hidOf rfl⟩; obtain ⟨bt, HBT⟩ : ∃ b, Hid (b = M2.bt) := ⟨_, hidOf rfl⟩; have HBA := hidOf (base_any ht.c); rw [← HBI.out] at hb0 hb1; rw [← HBI.out, ← HBT.out] at HBA; have HSA := hidOf (slice_all ht.c.len); rw [← HBI.out] at HSA; clear ht hm HC)
        | (go_at_call 21; refine HBA.out.mono ?_; rintro e w5 ⟨rfl, hd⟩; have HT5 := hidOf (HT.out.below hd.bel); clear hd HT HBA)
        | (go_at_call 19; refine (slice_any HT5.out.c (bi + 1) 1073741824).mono ?_; rintro e w6 ⟨s6, rfl, o6, b6, n6⟩; rw [HSA.out] at o6; obtain ⟨sa, sc, hs⟩ := o6.es.form; subst hs; have HS6 := hidOf (o6.up HT5.out.w0le n6); have HB6 := hidOf b6; clear o6 b6 n6))
      have HLN := hidOf HT5.out.c.len
      obtain ⟨ml, HML⟩ : ∃ n, Hid (n = M2.L.length) := ⟨_, hidOf rfl⟩
      rw [← HML.out] at HS6
      rw [← HML.out]
      have hml : ml ≤ 33554432 := by have := HLN.out; have := HML.out; omega
      go_loopw [9] (fun kv wr => ∃ (n : Nat) (XL : List En), n ≤ ml ∧ XL.length = ml ∧ kv = .int .i64 (n : Int) ∧ Hid (OwR w5 wr (.slice sa ml sc) XL ∧ Below w5.heap.size w5 wr)) (fun kv _ => ml - (intOf kv).toNat)
      case atStart => exact ⟨0, M2.L, Nat.zero_le _, HML.out.symm, rfl, hidOf ⟨HS6.out, HB6.out⟩⟩
      case round =>
        obtain ⟨n, XL, hn, hxl, rfl, HI⟩ := hrel
        have HXL := hidOf hxl
        clear hxl
        by_cases hnl : n < ml
        · have hnlz : (n : Int) < (ml : Int) := by omega
          rcases HI.out.1.cases with ⟨_, e2⟩ | ⟨b2, off2, cap2, hv, how⟩
          · have := HXL.out; rw [e2] at this; simp at this; omega
          have hsa : sa = some ⟨b2, off2, none⟩ := by cases hv; rfl
          have hsc : sc = cap2 := by cases hv; rfl
          subst hsa
          subst hsc
          have hb2 := how.lt
          have HOW := hidOf how
          have HLO : Hid (w5.heap.size ≤ b2) := hidOf (by obtain ⟨_, _, _, _, h4, _⟩ := how; exact h4)
          have HTH : Hid (wr.there b2 (off2 + n * 29) (zEn (-1) (-1) 0).toArray.size) := hidOf (by obtain ⟨_, _, _, ht, _⟩ := how.at (List.getElem?_eq_getElem (show n < XL.length by have := HXL.out; omega)); rw [zEn_size]; exact ht)
          have HIN := hidOf (zEn_inf (-1) (-1) 0)
          have HON := hidOf (all_oneCell_toArray (zEn_o (-1) (-1) 0))
          clear hv how
          go_wp2_with (refine wpList_store_mid rfl 51 (.tmp 47) (.tmp 46) rfl b2 (off2 + n * 29) (zEn (-1) (-1) 0).toArray rfl rfl HTH.out HIN.out HON.out ?_; clear HTH)
          go_roundw
          case rel =>
            refine ⟨n + 1, XL.set n ⟨-1, -1, 0, 0⟩, by omega, by rw [List.length_set]; exact HXL.out, by go_num, hidOf ⟨?_, ?_⟩⟩
            · have := (HOW.out.setS HI.out.2.size (show n < XL.length by have := HXL.out; omega) (zEnR w5 wr (-1) (-1) 0)).1
              have h2 := this.ow
              rw [List.length_set, HXL.out] at h2
              simpa using h2
            · have hch := chg_setCells wr b2 (off2 + n * 29) (zEn (-1) (-1) 0)
              have := HI.out.2.trans (hch.below (B := w5.heap.size) HI.out.2.size (fun k e => by subst e; exact HLO.out))
              simpa using this
          case measure => simp [intOf]; omega
        · have hnlz : ¬ (n : Int) < (ml : Int) := by omega
          go_wp2_with (fail)
          go_loopw [8, 10] (fun xv kv wr => ∃ (n : Nat) (aa : Option Addr) (an ac : Nat) (XL : List En), n ≤ 8 ∧ kv = .int .i64 (n : Int) ∧ xv = .slice aa an ac ∧ Hid ((an = XL.length ∧ an ≤ ml + n ∧ OwR w5 wr (.slice aa an ac) XL) ∧ Below w5.heap.size w5 wr)) (fun _ kv _ => 8 - (intOf kv).toNat)
          case atStart => exact ⟨0, sa, ml, sc, XL, Nat.zero_le _, rfl, rfl, hidOf ⟨⟨HXL.out.symm, Nat.le_refl _, HI.out.1⟩, HI.out.2⟩⟩
          case round =>
            obtain ⟨n2, aa, an, ac, XL2, hn2, rfl, rfl, HJ⟩ := hrel
            by_cases hnl2 : n2 < 8
            · have hnlz2 : (n2 : Int) < 8 := by omega
              go_wp2_with (first
                | (refine wpList_bs1 rfl (.tmp 53) rfl (zEn (-1) (-1) 0) rfl rfl ?_)
                | (at_builtin; refine wpList_app _ rfl (.tmp 52) (.tmp 54) rfl w5 (Nat.le_trans HJ.out.2.size (below1 _ _).size) (.slice aa an ac) (.slice (some ⟨wr.heap.size, 0, none⟩) 1 1) XL2 [⟨-1, -1, 0, 0⟩] rfl (HJ.out.1.2.2.below HJ.out.2.size (below1 _ _)) rfl (es_one w5 wr _ _ (zEnR w5 wr (-1) (-1) 0) HJ.out.2.size) (by have := HJ.out.1; simp only [List.length_singleton]; omega) ?_; intro v7 w7 h1 h2 h3; have HB7 := hidOf ((HJ.out.2.trans ((below1 wr _).mono HJ.out.2.size)).trans ((HJ.out.1.2.2.below HJ.out.2.size (below1 _ _)).belowC (Nat.le_trans HJ.out.2.size (below1 _ _).size) h2)); obtain ⟨ga, gc, hg⟩ := h1.es.form; rw [List.length_append, List.length_singleton] at hg; subst hg; have HI7 := hidOf h1; clear h1 h2 h3))
              go_roundw
              case rel => exact ⟨n2 + 1, ga, XL2.length + 1, gc, XL2 ++ [⟨-1, -1, 0, 0⟩], by omega, by go_num, rfl, hidOf ⟨⟨by rw [List.length_append, List.length_singleton], by have := HJ.out.1; omega, HI7.out⟩, HB7.out⟩⟩
              case measure => simp [intOf]; omega
            · have hnlz2 : ¬ (n2 : Int) < 8 := by omega
              go_wp2_with (go_at_call 12; refine (alike_any (M := M2) ⟨_, _, HT5.out.below HJ.out.2⟩).mono ?_; rintro e w8 ⟨rfl, ht, _⟩; have HT8 := hidOf ht; clear ht)
              go_roundw
              case rel => exact ⟨j + 1, M2, by go_num, by omega, hidOf ⟨HT8.out, HM.out⟩⟩
              case measure => simp [intOf]; omega
    · have hltz : ¬ (j : Int) < (L.length : Int) := by omega
      go_wp2_with (go_at_call 13; refine (HLV.out _).mono ?_; rintro e w6 ⟨rfl, hb⟩; have HB := hidOf (H.out.1.bel.trans (hb.mono H.out.1.bel.size)); clear hb)
      go_ret
      exact ⟨rfl, HB.out⟩
end Go.Proofs.Ytdkmlgkljhhokaa
