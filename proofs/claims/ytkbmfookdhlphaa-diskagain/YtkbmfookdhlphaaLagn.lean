/- DiskAgain, walked. -/
import Derived.Test.YtkbmfookdhlphaaDlw
namespace Go.Proofs.Ytkbmfookdhlphaa
open Go.RowKit Go.Maps Go.Sort

set_option maxHeartbeats 4000000 in
set_option maxRecDepth 100000 in
theorem lawAgain (a : Option Addr) (cap : Nat) (L : List Stp1) (pick again : Int) (w : World) (hO : Stps w a L) (hN : NmL L) (hL : L.length ≤ 1954687338268) : Calls Try.prog 8 #[.slice a L.length cap, .int .i64 pick, .int .i64 again] w fun e w' => e = .returned (.bool true) ∧ Below w.heap.size w w' := by
  have HO := hidOf hO
  have HN := hidOf hN
  clear hO hN
  go_enter Try.func8, Try.ntmps8
  go_wp2_with (first
    | (go_at_call 9; refine (new_st _).mono ?_; rintro e w1 ⟨F, rfl, h1, h2, h3⟩; have H1 := hidOf (tw2_new h1 h2 h3); clear h1 h2 h3)
    | (go_at_call 10; refine (rnew_any _).mono ?_; rintro e w2 ⟨rfl, hw⟩; rw [← hw] at H1; clear hw)
    | (go_at_call 11; refine (known_any _).mono ?_; rintro e w3 ⟨rfl, hb⟩; have H2 := hidOf (H1.out.below hb); clear hb))
  go_loopw [9] (fun i wr => ∃ (k : Nat) (M : Md), i = .int .i64 (k : Int) ∧ k ≤ L.length ∧ Hid (Tw2 w wr (w.heap.size + 1 + 1) (w1.heap.size) M M k)) (fun i _ => L.length - (intOf i).toNat)
  case atStart => exact ⟨0, _, rfl, Nat.zero_le _, H2⟩
  case round =>
    obtain ⟨k, M, rfl, hk, H⟩ := hrel
    by_cases hlt : k < L.length
    · have hltz : (k : Int) < (L.length : Int) := by omega
      obtain ⟨b, off, hab, hbl, c0, c1, c2, c3, c4, hB, hnn⟩ := HO.out.at H.out.bel k hlt
      subst hab
      have HC := hidOf (does_t H.out (by omega) (ot L k) hB (HN.out k hlt).1 (HN.out k hlt).2)
      obtain ⟨x, hx⟩ : ∃ x, x = ot L k := ⟨_, rfl⟩
      rw [← hx] at c0 c1 c2 c3 c4 HC
      clear hx hB hnn
      obtain ⟨kd, nm, to, ad, cp, d, xn⟩ := x
      simp only at c0 c1 c2 c3 c4
      have hbw : b < wr.heap.size := Nat.lt_of_lt_of_le hbl H.out.bel.size
      clear hbl
      go_wp2_with (go_at_call 12; refine HC.out.mono ?_; rintro e w4 ⟨bb, M', N', rfl, ht, hm, _⟩; obtain ⟨hm1, _⟩ := hm rfl; rw [← hm1] at ht; have HT := hidOf ht; clear ht hm hm1)
      go_roundw
      case rel => exact ⟨k + 1, M', by go_num, by omega, HT⟩
      case measure => simp [intOf]; omega
    · have hltz : ¬ (k : Int) < (L.length : Int) := by omega
      have HK := hidOf H.out.cst
      go_wp2_with (first
        | (go_at_call 21; refine (crash_c pick HK.out (by omega)).mono ?_; rintro e w5 ⟨rfl, h5⟩; have H5 := hidOf h5; obtain ⟨TT, hTT⟩ := told_f h5; have HTT := hidOf hTT; clear h5 hTT HK H)
        | (go_at_call 15; refine (HTT.out _ _ _ rfl H5.out).mono ?_; rintro e w6 ⟨rfl, hb6⟩; have H6 := hidOf (H5.out.below hb6); clear hb6 H5)
        | (go_at_call 21; refine (crash_c again H6.out (by omega)).mono ?_; rintro e w7 ⟨rfl, h7⟩; have H7 := hidOf h7; clear h7 H6)
        | (go_at_call 15; refine (HTT.out _ _ _ rfl H7.out).mono ?_; rintro e w8 ⟨rfl, hb8⟩; have H8 := hidOf (H7.out.below hb8); clear hb8 H7)
        | (go_at_call 20; refine (sync_d H8.out (by omega) (show (-1 : Int) ≠ 0 by decide)).mono ?_; rintro e w9 ⟨rfl, h9⟩; have H9 := hidOf h9; clear h9 H8))
      go_ret
      exact ⟨rfl, H9.out.bel⟩
end Go.Proofs.Ytkbmfookdhlphaa
