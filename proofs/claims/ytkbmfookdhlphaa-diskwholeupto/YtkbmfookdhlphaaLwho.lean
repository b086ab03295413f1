/- DiskWhole, walked. -/
import Derived.Test.YtkbmfookdhlphaaLels
import Derived.Test.YtkbmfookdhlphaaDopw
namespace Go.Proofs.Ytkbmfookdhlphaa
open Go.RowKit Go.Maps Go.Sort

theorem Tw2.more {w0 w : World} {p q k : Nat} {M N : Md} (h : Tw2 w0 w p q M N k) (hk : k + 1 ≤ 4398046511104) : Tw2 w0 w p q M N (k + 1) := by
  obtain ⟨F, R, h⟩ := h
  exact ⟨F, R, h.more2 hk⟩
theorem mv_dur {E : Int} {M' M : Md} (h : M'.dur = M.dur) : (mv E M' M).dur = M.dur := by
  unfold mv; split
  · exact h
  · rfl
theorem nx_dur {kd n : Int} {s t : Nm} {d : List UInt8} {M M' : Md} (h : NxM kd s t d n M M') (h5 : kd ≠ 5) (h7 : kd ≠ 7) : M'.dur = M.dur := by
  obtain ⟨m, _, rfl⟩ := h
  unfold nxM
  rw [if_neg h5, if_neg h7]
  split
  · exact mv_dur rfl
  split
  · exact mv_dur rfl
  split
  · exact mv_dur rfl
  split
  · exact mv_dur rfl
  split
  · exact mv_dur rfl
  · rfl
theorem mkD_0 (l : List (Nat × Dd)) (fs : FS) : mkD l 0 fs = fs := by
  cases l with
  | nil => rfl
  | cons y l => unfold mkD; rw [if_pos (Nat.zero_min _)]
theorem pickN_0 (n : Nat) : pickN 0 n = 0 := by unfold pickN; simp
theorem crash0_files (M : Md) : (crashM 0 M).files = M.dur := by
  show mkD M.done (pickN 0 (sumU M.done)) M.dur = M.dur
  rw [pickN_0, mkD_0]

set_option maxHeartbeats 8000000 in
set_option maxRecDepth 100000 in
theorem lawWhole (a : Option Addr) (cap : Nat) (L : List Stp1) (a2 : Option Addr) (cap2 : Nat) (L2 : List Stp1) (w : World) (hO : Stps w a L ∧ NmL L) (hL : L.length ≤ 1048576) (hO2 : Stps w a2 L2 ∧ NmL L2) (hL2 : L2.length ≤ 1048576) : Calls Try.prog 5 #[.slice a L.length cap, .slice a2 L2.length cap2] w fun e w' => e = .returned (.bool true) ∧ Below w.heap.size w w' := by
  have HO := hidOf hO.1
  have HN := hidOf hO.2
  have HO2 := hidOf hO2.1
  have HN2 := hidOf hO2.2
  clear hO hO2
  go_enter Try.func5, Try.ntmps5
  go_wp2_with (first
    | (go_at_call 9; refine (new_st _).mono ?_; rintro e w1 ⟨F, rfl, h1, h2, h3⟩; have HA := hidOf h1; have HB := hidOf h2; have HC := hidOf h3; clear h1 h2 h3)
    | (go_at_call 11; refine (known_any _).mono ?_; rintro e w3 ⟨rfl, hb⟩; have H1 := hidOf (tw2_new (HA.out.below hb) HB.out (HC.out.trans (hb.mono HC.out.size))); clear hb HA HB HC)
    | (go_at_call 10; refine (rnew_any _).mono ?_; rintro e w2 ⟨rfl, hw⟩; rw [← hw] at H1; clear hw))
  obtain ⟨q, hq⟩ : ∃ q, q = w3.heap.size := ⟨_, rfl⟩
  rw [← hq] at H1
  rw [← hq]
  clear hq
  go_loopw [7] (fun i wr => ∃ (k : Nat) (M : Md), i = .int .i64 (k : Int) ∧ k ≤ L.length ∧ Hid (Tw2 w wr (w.heap.size + 1 + 1) q M M k)) (fun i _ => L.length - (intOf i).toNat)
  case atStart => exact ⟨0, _, rfl, Nat.zero_le _, H1⟩
  case round =>
    obtain ⟨j, M, rfl, hk, H⟩ := hrel
    by_cases hlt : j < L.length
    · have hltz : (j : Int) < (L.length : Int) := by omega
      obtain ⟨b, off, hab, hbl, c0, c1, c2, c3, c4, hB, hnn⟩ := HO.out.at H.out.bel j hlt
      subst hab
      have HC := hidOf (does_t H.out (by omega) (ot L j) hB (HN.out j hlt).1 (HN.out j hlt).2)
      obtain ⟨x, hx⟩ : ∃ x, x = ot L j := ⟨_, rfl⟩
      rw [← hx] at c0 c1 c2 c3 c4 HC
      have hbw : b < wr.heap.size := Nat.lt_of_lt_of_le hbl H.out.bel.size
      clear hx hB hnn hbl
      obtain ⟨kd, nm, to, ad, cp, d, xn⟩ := x
      simp only at c0 c1 c2 c3 c4
      go_wp2_with (go_at_call 12; refine HC.out.mono ?_; rintro e w4 ⟨bb, M', N', rfl, ht, hm, _⟩; obtain ⟨hm1, _⟩ := hm rfl; rw [← hm1] at ht; have HT := hidOf ht; clear ht hm hm1)
      go_roundw
      case rel => exact ⟨j + 1, M', by go_num, by omega, HT⟩
      case measure => simp [intOf]; omega
    · have hltz : ¬ (j : Int) < (L.length : Int) := by omega
      obtain ⟨k, hkj⟩ : ∃ k, k = j := ⟨_, rfl⟩
      subst hkj
      obtain ⟨TT, hTT⟩ := told_f H.out.cst
      have HTT := hidOf hTT
      obtain ⟨F, R, hT⟩ := H.out
      have HT := hidOf hT
      have HFL := hidOf hT.d.2.fl
      clear hTT hT H
      by_cases hl : M.left = 0
      · have HS : Hid (syE M = 11) := hidOf (if_pos hl)
        clear hl
        go_wp2_with (first
          | (go_at_call 20; refine (two_sy1 HT.out (by omega)).mono ?_; rintro e w5 ⟨he, F5, h5, _⟩; rw [HS.out] at he h5; rw [mv_ne (by decide)] at h5; subst he; have H5 : Hid (Tw2 w w5 (w.heap.size + 1 + 1) q M M k) := hidOf ⟨_, _, h5⟩; clear h5)
          | (go_at_call 15; refine (HTT.out _ _ _ rfl H5.out.cst).mono ?_; rintro e w6 ⟨rfl, hb6⟩; have H7 := hidOf (H5.out.below hb6); clear hb6 H5))
        go_loopw [10] (fun i wr => ∃ (j : Nat) (M2 N : Md), i = .int .i64 (j : Int) ∧ j ≤ L2.length ∧ Hid (Tw2 w wr (w.heap.size + 1 + 1) (q) M2 N (k + j) ∧ True)) (fun i _ => L2.length - (intOf i).toNat)
        case atStart => exact ⟨0, _, _, rfl, Nat.zero_le _, hidOf ⟨H7.out, trivial⟩⟩
        case round =>
          obtain ⟨j, M2, N, rfl, hj, H⟩ := hrel
          by_cases hlt : j < L2.length
          · have hltz : (j : Int) < (L2.length : Int) := by omega
            obtain ⟨b, off, hab, hbl, c0, c1, c2, c3, c4, hB, hnn⟩ := HO2.out.at H.out.1.bel j hlt
            subst hab
            have HC := hidOf (does_t H.out.1 (by omega) (ot L2 j) hB (HN2.out j hlt).1 (HN2.out j hlt).2)
            obtain ⟨x, hx⟩ : ∃ x, x = ot L2 j := ⟨_, rfl⟩
            rw [← hx] at c0 c1 c2 c3 c4 HC
            have hbw : b < wr.heap.size := Nat.lt_of_lt_of_le hbl H.out.1.bel.size
            have HBB := hidOf hB
            have HBB2 := hidOf (HN2.out j hlt)
            rw [← hx] at HBB HBB2
            clear hx hB hnn hbl
            obtain ⟨kd, nm, to, ad, cp, d, xn⟩ := x
            simp only at c0 c1 c2 c3 c4
            by_cases h5 : kd = 5
            · subst h5
              go_wp2
              go_roundw
              case rel => exact ⟨j + 1, M2, N, by go_num, by omega, hidOf ⟨H.out.1.more (by omega), H.out.2⟩⟩
              case measure => simp [intOf]; omega
            · by_cases h7 : kd = 7
              · subst h7
                go_wp2
                go_roundw
                case rel => exact ⟨j + 1, M2, N, by go_num, by omega, hidOf ⟨H.out.1.more (by omega), H.out.2⟩⟩
                case measure => simp [intOf]; omega
              · have h5b : (kd == 5) = false := beq_false_of_ne h5
                have h7b : (kd == 7) = false := beq_false_of_ne h7
                have h5c : (kd != 5) = true := bne_iff_ne.2 h5
                have h7c : (kd != 7) = true := bne_iff_ne.2 h7
                have HK5 := hidOf h5
                have HK7 := hidOf h7
                have HC2 := hidOf ((does_t H.out.1 (by omega) ⟨kd, nm, to, ad, cp, d, xn⟩ HBB.out HBB2.out.1 HBB2.out.2))
                clear h5 h7 HC
                go_wp2_with (go_at_call 12; refine HC2.out.mono ?_; rintro e w4 ⟨bb, M', N', rfl, ht, _, hnx⟩; have HT := hidOf (show Tw2 w w4 (w.heap.size + 1 + 1) (q) M' N' (k + (j + 1)) ∧ _ from ⟨ht, trivial⟩); clear ht hnx)
                go_roundw
                case rel => exact ⟨j + 1, M', N', by go_num, by omega, HT⟩
                case measure => simp [intOf]; omega
          · have hltz : ¬ (j : Int) < (L2.length : Int) := by omega
            have HK := hidOf H.out.1.cst
            go_wp2_with (first
              | (go_at_call 21; refine (crash_c 0 HK.out (by omega)).mono ?_; rintro e w5 ⟨rfl, h5⟩; have H5 := hidOf h5; clear h5 HK H)
              | (go_at_call 21; refine (crash_c 17 H5.out (by omega)).mono ?_; rintro e w7 ⟨rfl, h7⟩; have H7 := hidOf h7; clear h7 H5))
            go_ret
            exact ⟨rfl, H7.out.bel⟩
      · have HS : Hid (syE M = 0) := hidOf (if_neg hl)
        have HDUR : Hid ((syncM M).dur = M.files) := hidOf HFL.out.symm
        clear hl
        go_wp2_with (first
          | (go_at_call 20; refine (two_sy1 HT.out (by omega)).mono ?_; rintro e w5 ⟨he, F5, h5, _⟩; rw [HS.out] at he h5; rw [mv_0] at h5; subst he; have H5 : Hid (Tw2 w w5 (w.heap.size + 1 + 1) q (syncM M) M k) := hidOf ⟨_, _, h5⟩; clear h5)
          | (go_at_call 15; refine (HTT.out (syncM M) k _ rfl H5.out.cst).mono ?_; rintro e w6 ⟨rfl, hb6⟩; have H7 := hidOf (H5.out.below hb6); clear hb6 H5))
        go_loopw [10] (fun i wr => ∃ (j : Nat) (M2 N : Md), i = .int .i64 (j : Int) ∧ j ≤ L2.length ∧ Hid (Tw2 w wr (w.heap.size + 1 + 1) (q) M2 N (k + j) ∧ M2.dur = M.files)) (fun i _ => L2.length - (intOf i).toNat)
        case atStart => exact ⟨0, _, _, rfl, Nat.zero_le _, hidOf ⟨H7.out, HDUR.out⟩⟩
        case round =>
          obtain ⟨j, M2, N, rfl, hj, H⟩ := hrel
          by_cases hlt : j < L2.length
          · have hltz : (j : Int) < (L2.length : Int) := by omega
            obtain ⟨b, off, hab, hbl, c0, c1, c2, c3, c4, hB, hnn⟩ := HO2.out.at H.out.1.bel j hlt
            subst hab
            have HC := hidOf (does_t H.out.1 (by omega) (ot L2 j) hB (HN2.out j hlt).1 (HN2.out j hlt).2)
            obtain ⟨x, hx⟩ : ∃ x, x = ot L2 j := ⟨_, rfl⟩
            rw [← hx] at c0 c1 c2 c3 c4 HC
            have hbw : b < wr.heap.size := Nat.lt_of_lt_of_le hbl H.out.1.bel.size
            have HBB := hidOf hB
            have HBB2 := hidOf (HN2.out j hlt)
            rw [← hx] at HBB HBB2
            clear hx hB hnn hbl
            obtain ⟨kd, nm, to, ad, cp, d, xn⟩ := x
            simp only at c0 c1 c2 c3 c4
            by_cases h5 : kd = 5
            · subst h5
              go_wp2
              go_roundw
              case rel => exact ⟨j + 1, M2, N, by go_num, by omega, hidOf ⟨H.out.1.more (by omega), H.out.2⟩⟩
              case measure => simp [intOf]; omega
            · by_cases h7 : kd = 7
              · subst h7
                go_wp2
                go_roundw
                case rel => exact ⟨j + 1, M2, N, by go_num, by omega, hidOf ⟨H.out.1.more (by omega), H.out.2⟩⟩
                case measure => simp [intOf]; omega
              · have h5b : (kd == 5) = false := beq_false_of_ne h5
                have h7b : (kd == 7) = false := beq_false_of_ne h7
                have h5c : (kd != 5) = true := bne_iff_ne.2 h5
                have h7c : (kd != 7) = true := bne_iff_ne.2 h7
                have HK5 := hidOf h5
                have HK7 := hidOf h7
                have HC2 := hidOf ((does_t H.out.1 (by omega) ⟨kd, nm, to, ad, cp, d, xn⟩ HBB.out HBB2.out.1 HBB2.out.2))
                clear h5 h7 HC
                go_wp2_with (go_at_call 12; refine HC2.out.mono ?_; rintro e w4 ⟨bb, M', N', rfl, ht, _, hnx⟩; have HT := hidOf (show Tw2 w w4 (w.heap.size + 1 + 1) (q) M' N' (k + (j + 1)) ∧ _ from ⟨ht, (nx_dur hnx HK5.out HK7.out).trans H.out.2⟩); clear ht hnx)
                go_roundw
                case rel => exact ⟨j + 1, M', N', by go_num, by omega, HT⟩
                case measure => simp [intOf]; omega
          · have hltz : ¬ (j : Int) < (L2.length : Int) := by omega
            have HK := hidOf H.out.1.cst
            have HDU := hidOf H.out.2
            go_wp2_with (first
              | (go_at_call 21; refine (crash_c 0 HK.out (by omega)).mono ?_; rintro e w5 ⟨rfl, h5⟩; have H5 := hidOf h5; clear h5 HK H)
              | (go_at_call 15; refine (HTT.out _ _ _ ((crash0_files M2).trans HDU.out) H5.out).mono ?_; rintro e w6 ⟨rfl, hb6⟩; have H6 := hidOf (H5.out.below hb6); clear hb6 H5)
              | (go_at_call 21; refine (crash_c 17 H6.out (by omega)).mono ?_; rintro e w7 ⟨rfl, h7⟩; have H7 := hidOf h7; clear h7 H6)
              | (go_at_call 15; refine (HTT.out _ _ _ ((crash0_files M2).trans HDU.out) H7.out).mono ?_; rintro e w8 ⟨rfl, hb8⟩; have H8 := hidOf (H7.out.below hb8); clear hb8 H7))
            go_ret
            exact ⟨rfl, H8.out.bel⟩
end Go.Proofs.Ytkbmfookdhlphaa
