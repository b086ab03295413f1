/- What the document's Unframe returns: the same five answers. -/
import Derived.Test.YtpbokgeaolpiaaaRead
namespace Go.Proofs.Ytpbokgeaolpiaaa
open Go.RowKit

set_option maxHeartbeats 400000 in
theorem refUnframe_any (a : Option Addr) (n cap : Nat) (l : List UInt8) (w : World) (hn : n = l.length) (hcap : n ≤ cap) (h : Bs w a l) :
    Calls Try.prog 14 #[.slice a n cap] w fun e w' => Told5 w w' e (unf l) := by
  have hlen := h.1
  rw [← hn] at hlen
  by_cases h11 : n < 11
  · have HU : Hid (unf l = ⟨0, 0, [], 0, 0⟩) := by show unf l = _; unfold unf; rw [if_pos (by omega)]
    clear hn h
    go_enter Try.func14, Try.ntmps14
    go_wp2
    refine bodyPost_ret (v := .tuple #[.int .i64 0, .int .i64 0, .slice none 0 0, .int .i64 0, .int .i64 0]) (by simp [results, Try.results14, go_sem]) rfl ?_
    rw [HU.out]
    exact told_zero w 0 0
  · have HN : Hid (n = l.length) := hn
    obtain ⟨b, off, rfl, hb, hc⟩ := h.2 (by intro e; simp [e] at hn; omega)
    have hNlt := uN_lt l
    have hPlt := uP_lt l
    have hKlt := uK_lt l
    have hc4 := hc 4 (by omega)
    rw [uK_bat l (by omega)] at hc4
    have U1 : Hid (hi ((l.drop (0 : Int).toNat).take (4 : Int).toNat) = uN l) := by show hi _ = _; unfold uN; simp
    have U2 : Hid (hi ((l.drop (5 : Int).toNat).take (6 : Int).toNat) = uP l) := rfl
    by_cases hbig : 1048576 < uN l ∨ 1099511627776 < uP l
    · have HU : Hid (unf l = ⟨0, 0, [], 0, 10⟩) := by show unf l = _; unfold unf; rw [if_neg (by omega), if_pos hbig]
      clear hn hc
      go_enter Try.func14, Try.ntmps14
      go_wp2_with fail
      refine (number_any _ n cap l _ _ _ HN.out (by omega) (by omega) (by omega) (by omega) h).mono ?_
      rintro e w1 ⟨rfl, hw⟩
      subst hw
      rw [U1.out]
      go_wp2_with fail
      refine (number_any _ n cap l _ _ _ HN.out (by omega) (by omega) (by omega) (by omega) h).mono ?_
      rintro e w1 ⟨rfl, hw⟩
      subst hw
      rw [U2.out]
      by_cases hb1 : 1048576 < uN l
      · go_wp2
        refine bodyPost_ret (v := .tuple #[.int .i64 0, .int .i64 0, .slice none 0 0, .int .i64 0, .int .i64 10]) (by simp [results, Try.results14, go_sem]) rfl ?_
        rw [HU.out]
        exact told_zero w1 10 0
      · have hb2 : 1099511627776 < uP l := by omega
        go_wp2
        refine bodyPost_ret (v := .tuple #[.int .i64 0, .int .i64 0, .slice none 0 0, .int .i64 0, .int .i64 10]) (by simp [results, Try.results14, go_sem]) rfl ?_
        rw [HU.out]
        exact told_zero w1 10 0
    · have hN1 : uN l ≤ 1048576 := by omega
      have hP1 : uP l ≤ 1099511627776 := by omega
      by_cases hsh : n < 11 + uN l + 4
      · have HU : Hid (unf l = ⟨0, 0, [], 0, 0⟩) := by show unf l = _; unfold unf; rw [if_neg (by omega), if_neg hbig, if_pos (by omega)]
        clear hn hc hbig
        go_enter Try.func14, Try.ntmps14
        go_wp2_with fail
        refine (number_any _ n cap l _ _ _ HN.out (by omega) (by omega) (by omega) (by omega) h).mono ?_
        rintro e w1 ⟨rfl, hw⟩
        subst hw
        rw [U1.out]
        go_wp2_with fail
        refine (number_any _ n cap l _ _ _ HN.out (by omega) (by omega) (by omega) (by omega) h).mono ?_
        rintro e w1 ⟨rfl, hw⟩
        subst hw
        rw [U2.out]
        go_wp2
        refine bodyPost_ret (v := .tuple #[.int .i64 0, .int .i64 0, .slice none 0 0, .int .i64 0, .int .i64 0]) (by simp [results, Try.results14, go_sem]) rfl ?_
        rw [HU.out]
        exact told_zero w1 0 0
      · have HUd : Hid (unf l = if (l.drop (11 + uN l)).take 4 ≠ lo4 (nsum (l.take (11 + uN l))) then ⟨0, 0, [], 0, 10⟩ else ⟨uK l, uP l, (l.drop 11).take (uN l), ((11 + uN l + 4 : Nat) : Int), 0⟩) := by
          show unf l = _; conv => lhs; unfold unf
          rw [if_neg (by omega), if_neg hbig, if_neg (by omega)]
        have HFr := fr_of l (by omega)
        have HFR : Hid (fr (uK l) (uP l) ((l.drop 11).take (uN l)) = l.take (11 + uN l + 4) ↔ (l.drop (11 + uN l)).take 4 = lo4 (nsum (l.take (11 + uN l)))) := HFr
        have HB3 : Hid (((l.drop 11).take (uN l)).length = uN l) := by show _ = _; simp only [List.length_take, List.length_drop]; omega
        have HB4 : Hid ((l.take (11 + uN l + 4)).length = 11 + uN l + 4) := by show _ = _; simp only [List.length_take]; omega
        have e2 := slice_h (some ⟨b, off, none⟩) n cap (11 + uN l + 4) (11 + (uN l : Int) + 4) (by omega) (by omega)
        have e3 := slice_lh b off n cap 11 (11 + uN l) (uN l) 11 (11 + (uN l : Int)) (by omega) (by omega) (by omega) (by omega) (by omega) (by omega)
        have hsrc := (h.part 11 (uN l)).src (P := Try.prog) Try.underlying22 (cap - 11)
        rw [HB3.out] at hsrc
        clear hn hc hbig HFr
        go_enter Try.func14, Try.ntmps14
        go_wp2_with fail
        refine (number_any _ n cap l _ _ _ HN.out (by omega) (by omega) (by omega) (by omega) h).mono ?_
        rintro e w1 ⟨rfl, hw⟩
        subst hw
        rw [U1.out]
        go_wp2_with fail
        refine (number_any _ n cap l _ _ _ HN.out (by omega) (by omega) (by omega) (by omega) h).mono ?_
        rintro e w1 ⟨rfl, hw⟩
        subst hw
        rw [U2.out]
        go_wp2_with (at_builtin; refine wpList_append_b _ rfl (.tmp 36) (.tmp 40) rfl _ [] rfl (.inl ⟨rfl, rfl⟩) _ ((l.drop 11).take (uN l)) rfl ?src ?len ?next)
        case src => rw [HB3.out]; exact hsrc
        case len => rw [HB3.out]; simp; omega
        case next =>
          intro v1 w2 o1 s1
          replace s1 : Stp w1 w2 none v1.ownBlock := s1
          obtain ⟨a1, c1, hv1, hb1⟩ := o1.form
          rw [HB3.out] at hv1 hb1
          subst hv1
          go_wp2_with fail
          refine (refFrame_ok _ _ a1 _ c1 ((l.drop 11).take (uN l)) _ HB3.out.symm (hb1 (by omega)) ⟨by omega, by omega, by omega, by omega, by omega⟩).mono ?_
          rintro e w3 ⟨v3, rfl, o3, s3⟩
          rw [Int.toNat_natCast, Int.toNat_natCast] at o3
          have s13 : Stp w1 w3 none none := ⟨s3.os.trans s1.os, s3.tape.trans s1.tape, s3.output.trans s1.output, Nat.le_trans s1.size s3.size, fun k hk _ => (s3.block k (Nat.lt_of_lt_of_le hk s1.size) (by simp)).trans (s1.block k hk (by simp)), .inl rfl⟩
          have hl3 : Bs w3 (some ⟨b, off, none⟩) l := h.grow (s13.below _ (Nat.le_refl _) (fun k hk => by cases hk))
          have o13 := o1.below (s3.below _ (Nat.le_refl _) (fun k hk => by cases hk))
          obtain ⟨a3, c3, hv3, hb3⟩ := o3.form
          have HB5 : Hid ((fr (uK l) (uP l) ((l.drop 11).take (uN l))).length = uN l + 15) := by show _ = _; rw [fr_length, HB3.out]
          subst hv3
          go_wp2_with fail
          refine (same_any a3 _ _ _ c3 cap _ (l.take (11 + uN l + 4)) _ rfl HB4.out.symm (hb3 (by rw [HB5.out]; omega)) (hl3.first _)).mono ?_
          rintro e w4 ⟨rfl, n4, hw4⟩
          have s34 : Stp w1 w4 none (Value.slice a1 (uN l) c1).ownBlock := by
            rw [hw4]
            exact ((⟨s13.os, s13.tape, s13.output, s13.size, s13.block, s1.row⟩ : Stp w1 w3 none (Value.slice a1 (uN l) c1).ownBlock)).drewN n4
          have o14 : Own w4 (Value.slice a1 (uN l) c1) ((l.drop 11).take (uN l)) := by rw [hw4]; exact o13.drewN n4
          clear hw4
          generalize hdd : decide (fr (uK l) (uP l) ((l.drop 11).take (uN l)) = l.take (11 + uN l + 4)) = d at *
          have HD : Hid (decide (fr (uK l) (uP l) ((l.drop 11).take (uN l)) = l.take (11 + uN l + 4)) = d) := hdd
          clear hdd
          cases d with
          | false =>
            go_wp2
            refine bodyPost_ret (v := .tuple #[.int .i64 0, .int .i64 0, .slice none 0 0, .int .i64 0, .int .i64 10]) (by simp [results, Try.results14, go_sem]) rfl ?_
            rw [HUd.out, if_pos (fun e => of_decide_eq_false HD.out (HFR.out.2 e))]
            exact ⟨_, rfl, .inl ⟨rfl, rfl⟩, ⟨s34.os, s34.tape, s34.output, s34.size, s34.block, .inl rfl⟩⟩
          | true =>
            go_wp2
            refine bodyPost_ret (v := .tuple #[.int .i64 (uK l), .int .i64 (uP l), .slice a1 (uN l) c1, .int .i64 (11 + (uN l : Int) + 4), .int .i64 0]) (by simp [results, Try.results14, go_sem]) rfl ?_
            rw [HUd.out, if_neg (not_not_intro (HFR.out.1 (of_decide_eq_true HD.out)))]
            exact ⟨_, by go_num, o14, s34⟩
end Go.Proofs.Ytpbokgeaolpiaaa
