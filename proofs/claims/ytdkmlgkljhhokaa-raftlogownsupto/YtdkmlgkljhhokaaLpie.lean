/- RaftlogPieces, walked. -/
import Derived.Test.YtdkmlgkljhhokaaLpla
namespace Go.Proofs.Ytdkmlgkljhhokaa
open Go.RowKit

/- from a later world's sight -/
section
variable {w0 w1 w : World}
theorem NsR.up {sz : Nat} {v : Value} (h0 : w0.heap.size ≤ w1.heap.size) (h : NsR w0 w sz v) : NsR w1 w sz v := by
  rcases h with h | ⟨b, off, n, cap, news, h1, h2, h3, h4, h5, h6⟩
  · exact .inl h
  · exact .inr ⟨b, off, n, cap, news, h1, h2, h3, h4, h5, fun hn => (h6 hn).imp (fun e => Nat.lt_of_lt_of_le e h0) id⟩
theorem EnR.up {c : List Value} {e : En} (h0 : w0.heap.size ≤ w1.heap.size) (h : EnR w0 w c e) : EnR w1 w c e :=
  ⟨h.len, h.c0, h.c1, h.c2, h.c5, h.one, h.n9.imp fun _ q => ⟨q.1, q.2.up h0⟩, h.n20.imp fun _ q => ⟨q.1, q.2.up h0⟩, h.n24.imp fun _ q => ⟨q.1, q.2.up h0⟩, h.n25.imp fun _ q => ⟨q.1, q.2.up h0⟩, h.n27.imp fun _ q => ⟨q.1, q.2.up h0⟩, h.n28.imp fun _ q => ⟨q.1, q.2.up h0⟩⟩
theorem EsR.up {v : Value} {L : List En} (h0 : w0.heap.size ≤ w1.heap.size) (h : EsR w0 w v L) : EsR w1 w v L := by
  rcases h with h | ⟨b, off, cap, C, h1, h2, h3⟩
  · exact .inl h
  · exact .inr ⟨b, off, cap, C, h1, h2, fun j e hj => ⟨(h3 j e hj).1.up h0, (h3 j e hj).2⟩⟩
theorem OwR.up {v : Value} {L : List En} (h0 : w0.heap.size ≤ w1.heap.size) (h : OwR w0 w v L) (hn : ∀ k, v.ownBlock = some k → w1.heap.size ≤ k) : OwR w1 w v L := by
  rcases h with h | ⟨b, off, cap, C, cur, h1, h2, h3, h4, h5⟩
  · exact .inl h
  · exact .inr ⟨b, off, cap, C, cur, h1, h2, fun j e hj => ⟨(h3 j e hj).1.up h0, (h3 j e hj).2⟩, hn b (by rw [h1]; rfl), h5⟩
theorem OwR.belowC {w' : World} {v : Value} {L : List En} (h : OwR w0 w v L) (h0 : w0.heap.size ≤ w.heap.size) (hc : Chg w w' (Sv v)) : Below w0.heap.size w w' := hc.below h0 (fun _ e => (h.blk e).1)
end
theorem piece {M : Lg} {m : Nat} {mo : Int} (hm : m ≤ M.L.length) (hc : 1 ≤ mo) : M.L.take m ++ sliceM M (M.bi + 1 + m) mo = M.L.take (m + (sliceM M (M.bi + 1 + m) mo).length) ∧ ((sliceM M (M.bi + 1 + m) mo).length : Int) ≤ mo ∧ m + (sliceM M (M.bi + 1 + m) mo).length ≤ M.L.length ∧ (m < M.L.length → 1 ≤ (sliceM M (M.bi + 1 + m) mo).length) := by
  unfold sliceM
  by_cases e : m = M.L.length
  · rw [if_pos (by unfold lastI; omega)]
    exact ⟨by simp, by simp; omega, by simpa using hm, fun h => by omega⟩
  · rw [if_neg (by unfold lastI; omega), show (M.bi + 1 + (m : Int) - M.bi - 1).toNat = m by omega]
    have hl : ((M.L.drop m).take mo.toNat).length = min mo.toNat (M.L.length - m) := by rw [List.length_take, List.length_drop]
    refine ⟨?_, by rw [hl]; omega, by rw [hl]; omega, fun _ => by rw [hl]; omega⟩
    rw [List.take_add]
    congr 1
    rw [hl]
    by_cases hq : mo.toNat ≤ M.L.length - m
    · rw [Nat.min_eq_left hq]
    · rw [Nat.min_eq_right (by omega), List.take_of_length_le (by rw [List.length_drop]; omega), List.take_of_length_le (by rw [List.length_drop]; omega)]
set_option maxHeartbeats 8000000 in
set_option maxRecDepth 100000 in
theorem lawPieces (a : Option Addr) (cap : Nat) (L : List Dee) (mz : Int) (w : World) (hO : Dees w a L) (hL : wt L ≤ 1048576) (hmz : i64 mz) : Calls Try.prog 8 #[.slice a L.length cap, .int .i64 mz] w fun e w' => e = .returned (.bool true) ∧ Below w.heap.size w w' := by
  have HO := hidOf hO
  have HL := hidOf hL
  have HLV := hidOf lives_any
  have HTW := hidOf (tw_new w (i := 0) (t := 0) (by decide))
  clear hO hL
  go_enter Try.func8, Try.ntmps8
  go_wp2_with (first
    | (go_at_call 9; refine (new_yes 0 0 w (by decide)).mono ?_; rintro e w1 ⟨rfl, hw1⟩; rw [← hw1] at HTW; have HW1 := hidOf hw1; clear hw1)
    | (go_at_call 10; refine (rnew_yes 0 0 w1 (by decide)).mono ?_; rintro e w2 ⟨rfl, hw2⟩; rw [← hw2] at HTW; clear hw2))
  obtain ⟨q, hq⟩ : ∃ q, q = w1.heap.size := ⟨_, rfl⟩
  rw [← hq] at HTW
  rw [← hq]
  clear hq HW1
  go_loopw [7] (fun i wr => ∃ (k : Nat) (M : Lg), i = .int .i64 (k : Int) ∧ k ≤ L.length ∧ Hid (TwL w wr w.heap.size q M ∧ M.L.length ≤ pre L k)) (fun i _ => L.length - (intOf i).toNat)
  case atStart => exact ⟨0, _, rfl, Nat.zero_le _, hidOf ⟨HTW.out, Nat.zero_le _⟩⟩
  case round =>
    obtain ⟨j, M, rfl, hk, H⟩ := hrel
    have hJ : j ≤ 1048576 := by
      have h1 := pre_len L
      have := HL.out
      omega
    by_cases hlt : j < L.length
    · have hltz : (j : Int) < (L.length : Int) := by omega
      obtain ⟨b, off, hab, hbl, c0, c1, c2, c3, c4, hB⟩ := HO.out.at H.out.1.bel j hlt
      subst hab
      have HC := hidOf (does_t H.out.1 hlt hB HL.out H.out.2)
      obtain ⟨x, hx⟩ : ∃ x, x = dt L j := ⟨_, rfl⟩
      rw [← hx] at c0 c1 c2 c3 c4 HC
      have hbw : b < wr.heap.size := Nat.lt_of_lt_of_le hbl H.out.1.bel.size
      clear hx hB hbl
      obtain ⟨kd, ix, tm, op, xa, xc, D⟩ := x
      simp only at c0 c1 c2 c3 c4
      simp only at HC
      generalize D.length = dn at *
      go_wp2_with (go_at_call 11; refine HC.out.mono ?_; rintro e w4 ⟨rfl, ht, hm⟩; generalize nxL _ M = M2 at ht hm; have HT := hidOf ht; have HM := hidOf hm; clear ht hm HC)
      go_roundw
      case rel => exact ⟨j + 1, M2, by go_num, by omega, hidOf ⟨HT.out, HM.out⟩⟩
      case measure => simp [intOf]; omega
    · have hltz : ¬ (j : Int) < (L.length : Int) := by omega
      obtain ⟨v, u, ht⟩ := H.out.1
      have HT := hidOf ht
      have HWF := hidOf ht.c.wf
      have HLN := hidOf ht.c.len
      have hb0 := ht.c.wf.b0
      have hb1 := ht.c.wf.b1
      clear ht H
      obtain ⟨bi, HBI⟩ : ∃ b, Hid (b = M.bi) := ⟨_, hidOf rfl⟩
      rw [← HBI.out] at hb0 hb1
      have HPK := hidOf (fun w' => pick_any mz 9 w' hmz (by omega))
      have hc := pickZ_range mz (show (0 : Int) < 9 by omega)
      generalize pickZ mz 9 = c at *
      go_wp2_with (first
        | (go_at_call 15; refine (HPK.out _).mono ?_; rintro e w5 ⟨rfl, hw5⟩; subst w5)
        | (go_at_call 21; refine (base_any HT.out.c).mono ?_; rintro e wB ⟨he, hd⟩; rw [← HBI.out] at he; subst he; have HTB := hidOf (HT.out.below hd.bel); clear hd HT))
      obtain ⟨ml, HML⟩ : ∃ n, Hid (n = M.L.length) := ⟨_, hidOf rfl⟩
      have hml : ml ≤ 33554432 := by have := HLN.out; have := HML.out; omega
      obtain ⟨ua, uc, hu⟩ := HTB.out.r.form
      subst hu
      rw [← HML.out] at HTB
      have hbl := HWF.out.lastI_le.2
      unfold lastI at hbl
      rw [← HBI.out, ← HML.out] at hbl
      go_loopw [10, 11, 12] (fun av tv nv wr => ∃ (k m : Nat) (aa : Option Addr) (an ac : Nat), k ≤ ml + 1 ∧ m ≤ ml ∧ nv = .int .i64 (k : Int) ∧ tv = .int .i64 (bi + 1 + m) ∧ av = .slice aa an ac ∧ Hid ((an = m ∧ OwR wB wr (.slice aa an ac) (M.L.take m)) ∧ Below wB.heap.size wB wr ∧ (k ≤ m ∨ m = ml))) (fun _ _ nv _ => ml + 1 - (intOf nv).toNat)
      case atStart => exact ⟨0, 0, none, 0, 0, Nat.zero_le _, Nat.zero_le _, rfl, by simp, rfl, hidOf ⟨⟨rfl, OwR.nil _ _⟩, Below.refl _ _, .inl (Nat.le_refl _)⟩⟩
      case round =>
        obtain ⟨k, m, aa, an, ac, hk2, hm2, rfl, rfl, rfl, HI⟩ := hrel
        have HTR := hidOf (HTB.out.below HI.out.2.1)
        obtain ⟨f0, f1, f2, hqw, _⟩ := HTR.out.r.cells
        by_cases hkl : k ≤ ml
        · have hklz : (k : Int) ≤ (ml : Int) := by omega
          obtain ⟨p1, p2, p3, p4⟩ := piece (M := M) (m := m) (mo := 1 + c) (by rw [← HML.out]; exact hm2) (by omega)
          rw [← HBI.out] at p1 p2 p3 p4
          rw [← HML.out] at p3 p4
          have HSS := hidOf (slice_any HTR.out.c (bi + 1 + m) (1 + c))
          generalize sliceM M (bi + 1 + m) (1 + c) = X at *
          obtain ⟨xn, HXN⟩ : ∃ n, Hid (n = X.length) := ⟨_, hidOf rfl⟩
          rw [← HXN.out] at p1 p2 p3 p4
          have P1 := hidOf p1
          have P4 := hidOf p4
          have hng : ¬ (1 + c < (xn : Int)) := by omega
          clear p1 p4
          go_wp2_with (first
            | (go_at_call 19; refine HSS.out.mono ?_; rintro e w6 ⟨s6, rfl, o6, b6, n6⟩; obtain ⟨sa, sc, hs⟩ := o6.es.form; subst hs; rw [← HXN.out] at o6; rw [← HXN.out]; have HS6 := hidOf (o6.es.up HTB.out.w0le); have HB6 := hidOf (HI.out.2.1.trans (b6.mono HI.out.2.1.size)); have HI6 := hidOf (HI.out.1.2.below HI.out.2.1.size b6); clear o6 b6 n6 HSS)
            | (at_builtin; refine wpList_app _ rfl (.tmp 59) (.tmp 60) rfl wB HB6.out.size (.slice aa an ac) (.slice sa xn sc) (M.L.take m) X rfl HI6.out rfl HS6.out (by have h1 := List.length_take_le m M.L; have h2 := HML.out; have h3 := HXN.out; omega) ?_; intro v7 w7 h1 h2 h3; rw [P1.out] at h1; have HB7 := hidOf (HB6.out.trans (HI6.out.belowC HB6.out.size h2)); obtain ⟨ga, gc, hg⟩ := h1.es.form; rw [show (M.L.take (m + xn)).length = m + xn by rw [List.length_take, ← HML.out]; omega] at hg; subst hg; have HI7 := hidOf h1; clear h1 h2 h3))
          go_roundw
          case rel => exact ⟨k + 1, m + xn, ga, m + xn, gc, by omega, by omega, by go_num, by go_num, rfl, hidOf ⟨⟨rfl, HI7.out⟩, HB7.out, by have := HI.out.2.2; have := P4.out; omega⟩⟩
          case measure => simp [intOf]; omega
        · have hklz : ¬ (k : Int) ≤ (ml : Int) := by omega
          have hmm : m = ml := by have := HI.out.2.2; omega
          subst hmm
          have HSA := hidOf (slice_all HLN.out)
          rw [← HBI.out] at HSA
          have HIA := hidOf HI.out.1.2
          rw [HML.out, List.take_length] at HIA
          have HLL : Hid (M.L.length ≤ 67108864) := hidOf (by have := HLN.out; omega)
          go_wp2_with (first
            | (go_at_call 19; refine (slice_any HTR.out.c (bi + 1) 1073741824).mono ?_; rintro e w6 ⟨s6, rfl, o6, b6, n6⟩; rw [HSA.out] at o6; have HS6 := hidOf (o6.es.up HTB.out.w0le); have HB6 := hidOf (HI.out.2.1.trans (b6.mono HI.out.2.1.size)); have HI6 := hidOf (HIA.out.below HI.out.2.1.size b6); have HT6 := hidOf (HTR.out.below b6); clear o6 b6 n6)
            | (go_at_call 20; have hS := entries_any wB w6 HB6.out.size _ s6 M.L M.L HI6.out.es HS6.out ⟨HLL.out, HLL.out⟩; rw [show decide (M.L = M.L) = true by simp] at hS; refine hS.mono ?_; rintro e w7 ⟨rfl, b7⟩; have HT7 := hidOf (HT6.out.below b7); clear b7 hS)
            | (go_at_call 13; refine (HLV.out _).mono ?_; rintro e w16 ⟨rfl, hb⟩; have HB := hidOf (HT7.out.bel.trans (hb.mono HT7.out.bel.size)); clear hb))
          go_ret
          exact ⟨by simp, HB.out⟩
end Go.Proofs.Ytdkmlgkljhhokaa
