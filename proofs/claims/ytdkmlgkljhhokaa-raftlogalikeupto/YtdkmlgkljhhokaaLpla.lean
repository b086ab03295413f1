/- RaftlogPlays, walked. -/
import Derived.Test.YtdkmlgkljhhokaaLwk
namespace Go.Proofs.Ytdkmlgkljhhokaa
open Go.RowKit

theorem pre_len : ∀ L : List Dee, L.length ≤ wt L
  | [] => Nat.le_refl _
  | x :: L => by have := pre_len L; simp only [wt, List.length_cons]; omega
set_option maxHeartbeats 8000000 in
set_option maxRecDepth 100000 in
theorem lawPlays (i t : Int) (a : Option Addr) (cap : Nat) (L : List Dee) (w : World) (hO : Dees w a L) (hL : wt L ≤ 1048576) : Calls Try.prog 3 #[.int .i64 i, .int .i64 t, .slice a L.length cap] w fun e w' => e = .returned (.bool true) ∧ Below w.heap.size w w' := by
  have HO := hidOf hO
  have HL := hidOf hL
  have HLV := hidOf lives_any
  clear hO hL
  cases hN : newB i t with
  | false =>
    have HN := hidOf hN
    clear hN
    go_enter Try.func3, Try.ntmps3
    go_wp2_with (first
      | (go_at_call 9; refine (new_no i t w HN.out).mono ?_; rintro e w1 ⟨rfl, hw1⟩; subst w1)
      | (go_at_call 10; refine (rnew_no i t w HN.out).mono ?_; rintro e w1 ⟨rfl, hw1⟩; subst w1))
    go_loopw [9] (fun i wr => i = .int .i64 0 ∧ wr = w) (fun _ _ => 0)
    case atStart => exact ⟨rfl, rfl⟩
    case round =>
      obtain ⟨rfl, rfl⟩ := hrel
      by_cases hl : 0 < L.length
      · have hlz : (0 : Int) < (L.length : Int) := by omega
        go_wp2_with (go_at_call 13; refine (HLV.out _).mono ?_; rintro e w1 ⟨rfl, hb⟩; have HB := hidOf hb; clear hb)
        go_ret
        exact ⟨rfl, HB.out⟩
      · have hlz : ¬ (0 : Int) < (L.length : Int) := by omega
        go_wp2_with (go_at_call 13; refine (HLV.out _).mono ?_; rintro e w1 ⟨rfl, hb⟩; have HB := hidOf hb; clear hb)
        go_ret
        exact ⟨rfl, HB.out⟩
  | true =>
    have HN := hidOf hN
    have HTW := hidOf (tw_new w hN)
    clear hN
    go_enter Try.func3, Try.ntmps3
    go_wp2_with (first
      | (go_at_call 9; refine (new_yes i t w HN.out).mono ?_; rintro e w1 ⟨rfl, hw1⟩; rw [← hw1] at HTW; have HW1 := hidOf hw1; clear hw1)
      | (go_at_call 10; refine (rnew_yes i t w1 HN.out).mono ?_; rintro e w2 ⟨rfl, hw2⟩; rw [← hw2] at HTW; clear hw2))
    obtain ⟨q, hq⟩ : ∃ q, q = w1.heap.size := ⟨_, rfl⟩
    rw [← hq] at HTW
    rw [← hq]
    clear hq HW1
    go_loopw [9] (fun i wr => ∃ (k : Nat) (M : Lg), i = .int .i64 (k : Int) ∧ k ≤ L.length ∧ Hid (TwL w wr w.heap.size q M ∧ M.L.length ≤ pre L k)) (fun i _ => L.length - (intOf i).toNat)
    case atStart => exact ⟨0, _, rfl, Nat.zero_le _, hidOf ⟨HTW.out, Nat.zero_le _⟩⟩
    case round =>
      obtain ⟨j, M, rfl, hk, H⟩ := hrel
      have hJ : j ≤ 1048576 := by
        have h1 := pre_len L
        have := HL.out
        omega
      by_cases hlt : j < L.length
      · have hltz : (j : Int) < (L.length : Int) := by omega
        obtain ⟨b, off, hab, hbl, c0, c1, c2, c3, c4, hB⟩ := HO.out.at H.out.1.bel j hlt
        subst hab
        have HC := hidOf (does_t H.out.1 hlt hB HL.out H.out.2)
        obtain ⟨x, hx⟩ : ∃ x, x = dt L j := ⟨_, rfl⟩
        rw [← hx] at c0 c1 c2 c3 c4 HC
        have hbw : b < wr.heap.size := Nat.lt_of_lt_of_le hbl H.out.1.bel.size
        clear hx hB hbl
        obtain ⟨kd, ix, tm, op, xa, xc, D⟩ := x
        simp only at c0 c1 c2 c3 c4
        simp only at HC
        generalize D.length = dn at *
        go_wp2_with (first
          | (go_at_call 11; refine HC.out.mono ?_; rintro e w4 ⟨rfl, ht, hm⟩; have HT := hidOf ht; have HM := hidOf hm; clear ht hm)
          | (go_at_call 12; refine (alike_any HT.out).mono ?_; rintro e w5 ⟨rfl, ht, _⟩; have HT5 := hidOf ht; clear ht HT))
        go_roundw
        case rel => exact ⟨j + 1, _, by go_num, by omega, hidOf ⟨HT5.out, HM.out⟩⟩
        case measure => simp [intOf]; omega
      · have hltz : ¬ (j : Int) < (L.length : Int) := by omega
        go_wp2_with (go_at_call 13; refine (HLV.out _).mono ?_; rintro e w6 ⟨rfl, hb⟩; have HB := hidOf (H.out.1.bel.trans (hb.mono H.out.1.bel.size)); clear hb)
        go_ret
        exact ⟨rfl, HB.out⟩
end Go.Proofs.Ytdkmlgkljhhokaa
