/- RaftlogRising, walked. -/
import Derived.Test.YtdkmlgkljhhokaaLpla
namespace Go.Proofs.Ytdkmlgkljhhokaa
open Go.RowKit

theorem mayB_rise {i t : Int} {L : List En} (h : mayB i t L = true) {n : Nat} {e : En} (he : L[n]? = some e) : endT t (L.take n) ≤ e.tm ∧ endT t (L.take (n + 1)) = e.tm := by
  obtain ⟨hn, rfl⟩ := List.getElem?_eq_some_iff.1 he
  refine ⟨?_, by rw [List.take_succ_eq_append_getElem hn, endT_snoc]⟩
  rw [← List.take_append_drop n L, mayB_app, Bool.and_eq_true, List.drop_eq_getElem_cons hn] at h
  exact (mayB_cons.1 h.2).2.2.1
set_option maxHeartbeats 8000000 in
set_option maxRecDepth 100000 in
theorem lawRising (a : Option Addr) (cap : Nat) (L : List Dee) (w : World) (hO : Dees w a L) (hL : wt L ≤ 1048576) : Calls Try.prog 7 #[.slice a L.length cap] w fun e w' => e = .returned (.bool true) ∧ Below w.heap.size w w' := by
  have HO := hidOf hO
  have HL := hidOf hL
  have HLV := hidOf lives_any
  have HTW := hidOf (tw_new w (i := 0) (t := 0) (by decide))
  clear hO hL
  go_enter Try.func7, Try.ntmps7
  go_wp2_with (first
    | (go_at_call 9; refine (new_yes 0 0 w (by decide)).mono ?_; rintro e w1 ⟨rfl, hw1⟩; rw [← hw1] at HTW; have HW1 := hidOf hw1; clear hw1)
    | (go_at_call 10; refine (rnew_yes 0 0 w1 (by decide)).mono ?_; rintro e w2 ⟨rfl, hw2⟩; rw [← hw2] at HTW; clear hw2))
  obtain ⟨q, hq⟩ : ∃ q, q = w1.heap.size := ⟨_, rfl⟩
  rw [← hq] at HTW
  rw [← hq]
  clear hq HW1
  go_loopw [5] (fun i wr => ∃ (k : Nat) (M : Lg), i = .int .i64 (k : Int) ∧ k ≤ L.length ∧ Hid (TwL w wr w.heap.size q M ∧ M.L.length ≤ pre L k)) (fun i _ => L.length - (intOf i).toNat)
  case atStart => exact ⟨0, _, rfl, Nat.zero_le _, hidOf ⟨HTW.out, Nat.zero_le _⟩⟩
  case round =>
    obtain ⟨j, M, rfl, hk, H⟩ := hrel
    have hJ : j ≤ 1048576 := by
      have h1 := pre_len L
      have := HL.out
      omega
    by_cases hlt : j < L.length
    · have hltz : (j : Int) < (L.length : Int) := by omega
      obtain ⟨b, off, hab, hbl, c0, c1, c2, c3, c4, hB⟩ := HO.out.at H.out.1.bel j hlt
      subst hab
      have HC := hidOf (does_t H.out.1 hlt hB HL.out H.out.2)
      obtain ⟨x, hx⟩ : ∃ x, x = dt L j := ⟨_, rfl⟩
      rw [← hx] at c0 c1 c2 c3 c4 HC
      have hbw : b < wr.heap.size := Nat.lt_of_lt_of_le hbl H.out.1.bel.size
      clear hx hB hbl
      obtain ⟨kd, ix, tm, op, xa, xc, D⟩ := x
      simp only at c0 c1 c2 c3 c4
      simp only at HC
      generalize D.length = dn at *
      go_wp2_with (first
        | (go_at_call 11; refine HC.out.mono ?_; rintro e w4 ⟨rfl, ht, hm⟩; generalize nxL _ M = M2 at ht hm; obtain ⟨v2, u2, ht⟩ := ht; have HT := hidOf ht; have HM := hidOf hm; have hb0 := ht.c.wf.b0; have hb1 := ht.c.wf.b1; obtain ⟨bi, HBI⟩ : ∃ b, Hid (b = M2.bi) := ⟨_, hidOf rfl⟩; obtain ⟨bt, HBT⟩ : ∃ b, Hid (b = M2.bt) := ⟨_, hidOf rfl⟩; have HBA := hidOf (base_any ht.c); rw [← HBI.out] at hb0 hb1; rw [← HBI.out, ← HBT.out] at HBA; have HSA := hidOf (slice_all ht.c.len); rw [← HBI.out] at HSA; clear ht hm HC)
        | (go_at_call 21; refine HBA.out.mono ?_; rintro e w5 ⟨rfl, hd⟩; have HT5 := hidOf (HT.out.below hd.bel); clear hd HT HBA)
        | (go_at_call 19; refine (slice_any HT5.out.c (bi + 1) 1073741824).mono ?_; rintro e w6 ⟨s6, rfl, o6, b6, _⟩; rw [HSA.out] at o6; have HT6 := hidOf (HT5.out.below b6); obtain ⟨sa, sc, hs⟩ := o6.es.form; subst hs; have HS6 := hidOf o6; clear o6 b6 HT5))
      have HWF := hidOf HT6.out.c.wf
      have HLN := hidOf HT6.out.c.len
      obtain ⟨ml, HML⟩ : ∃ n, Hid (n = M2.L.length) := ⟨_, hidOf rfl⟩
      rw [← HML.out] at HS6
      rw [← HML.out]
      have hml : ml ≤ 33554432 := by have := HLN.out; have := HML.out; omega
      go_loopw [6, 7, 9] (fun iv tv kv wr => ∃ n : Nat, n ≤ ml ∧ kv = .int .i64 (n : Int) ∧ iv = .int .i64 (bi + n) ∧ tv = .int .i64 (endT bt (M2.L.take n)) ∧ wr = w6) (fun _ _ kv _ => ml - (intOf kv).toNat)
      case atStart => exact ⟨0, Nat.zero_le _, rfl, by simp, rfl, rfl⟩
      case round =>
        obtain ⟨n, hn, rfl, rfl, rfl, hwr⟩ := hrel
        subst hwr
        by_cases hnl : n < ml
        · have hnlz : (n : Int) < (ml : Int) := by omega
          obtain ⟨e, he⟩ : ∃ e, M2.L[n]? = some e := ⟨_, List.getElem?_eq_getElem (by have := HML.out; omega)⟩
          obtain ⟨b2, off2, cap2, c, hv, hb2, d0, d1, _, _⟩ := HS6.out.es.at he
          cases hv
          have h1 := HWF.out.at he
          obtain ⟨h2, h3⟩ := mayB_rise HWF.out.may he
          rw [← HBI.out] at h1
          rw [← HBT.out] at h1 h2 h3
          clear he
          obtain ⟨ix2, tm2, op2, id2⟩ := e
          simp only at h1 h2 h3 d0 d1
          have hix : ix2 = bi + n + 1 := by omega
          subst hix
          have HE3 := hidOf h3
          generalize endT bt (M2.L.take n) = tt at *
          have hnt : ¬ tm2 < tt := by omega
          have hcap : b2 < wr.heap.size := hb2
          clear h1 h2 h3
          go_wp2
          go_roundw
          case rel => exact ⟨n + 1, by omega, by go_num, by go_num, by rw [HE3.out], (by first | rfl | trivial)⟩
          case measure => simp [intOf]; omega
        · have hnlz : ¬ (n : Int) < (ml : Int) := by omega
          have hnm : n = ml := by omega
          subst hnm
          have HLA := hidOf (last_any HT6.out.c)
          rw [show lastI M2 = bi + n by unfold lastI; rw [← HBI.out, ← HML.out], show lastT M2 = endT bt (M2.L.take n) by unfold lastT; rw [← HBT.out, HML.out, List.take_length]] at HLA
          generalize endT bt (M2.L.take n) = tt at *
          go_wp2_with (go_at_call 16; refine HLA.out.mono ?_; rintro e w7 ⟨rfl, hd⟩; have HT7 := hidOf (HT6.out.below hd.bel); clear hd)
          go_roundw
          case rel => exact ⟨j + 1, M2, by go_num, by omega, hidOf ⟨⟨_, _, HT7.out⟩, HM.out⟩⟩
          case measure => simp [intOf]; omega
    · have hltz : ¬ (j : Int) < (L.length : Int) := by omega
      go_wp2_with (go_at_call 13; refine (HLV.out _).mono ?_; rintro e w6 ⟨rfl, hb⟩; have HB := hidOf (H.out.1.bel.trans (hb.mono H.out.1.bel.size)); clear hb)
      go_ret
      exact ⟨rfl, HB.out⟩
end Go.Proofs.Ytdkmlgkljhhokaa
