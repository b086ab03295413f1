/- What Unframe returns: the five answers that the document asks, the body in a row of its own. -/
import Derived.Test.YtpbokgeaolpiaabFram
namespace Go.Proofs.Ytpbokgeaolpiaab
open Go.RowKit

structure Five where
  kind : Int
  place : Int
  body : List UInt8
  used : Int
  err : Int
def uK (l : List UInt8) : Nat := hi ((l.drop 4).take 1)
def uP (l : List UInt8) : Nat := hi ((l.drop 5).take 6)
def uN (l : List UInt8) : Nat := hi (l.take 4)
def unf (l : List UInt8) : Five :=
  if l.length < 11 then ⟨0, 0, [], 0, 0⟩
  else if 1048576 < uN l ∨ 1099511627776 < uP l then ⟨0, 0, [], 0, 10⟩
  else if l.length < 11 + uN l + 4 then ⟨0, 0, [], 0, 0⟩
  else if (l.drop (11 + uN l)).take 4 ≠ lo4 (nsum (l.take (11 + uN l))) then ⟨0, 0, [], 0, 10⟩
  else ⟨uK l, uP l, (l.drop 11).take (uN l), ((11 + uN l + 4 : Nat) : Int), 0⟩

def Told5 (w w' : World) (e : Ending) (r : Five) : Prop :=
  ∃ v, e = .returned (.tuple #[.int .i64 r.kind, .int .i64 r.place, v, .int .i64 r.used, .int .i64 r.err]) ∧ Own w' v r.body ∧ Stp w w' none v.ownBlock
theorem told_zero (w : World) (x : Int) (n : Nat) : Told5 w (w.drewN n) (.returned (.tuple #[.int .i64 0, .int .i64 0, .slice none 0 0, .int .i64 0, .int .i64 x])) ⟨0, 0, [], 0, x⟩ :=
  ⟨_, rfl, .inl ⟨rfl, rfl⟩, (Stp.refl _ _).drewN n⟩

theorem readHead_u (a : Option Addr) (n cap : Nat) (l : List UInt8) (w : World) (hn : n = l.length) (h11 : 11 ≤ n) (hcap : n ≤ cap) (h : Bs w a l) :
    Calls Try.prog 37 #[.slice a n cap] w fun e w' => e = .returned (.tuple #[.int .i64 ((uN l : Nat) : Int), .int .i64 ((uK l : Nat) : Int), .int .i64 ((uP l : Nat) : Int)]) ∧ ∃ nq, w' = w.drewN nq :=
  readHead_any a n cap l w hn h11 hcap h
theorem uN_lt (l : List UInt8) : uN l < 281474976710656 := hi_lt6 _ (by simp; omega)
theorem uP_lt (l : List UInt8) : uP l < 281474976710656 := hi_lt6 _ (by simp; omega)
theorem uK_lt (l : List UInt8) : uK l < 256 := hi_lt_of _ 1 (by simp; omega)

theorem Try.elem22 : Try.prog.underlying 33 = some (.slice (Try.prog.elem 33)) := by kernel_rfl
theorem Try.size5 (w : World) : (sizeOf (Try.prog.elem 33)).run Try.prog w = .ok 1 w := by
  obtain ⟨i, hi, hz0, hz1, hz2⟩ := info_parts Try.info5
  have e : Try.prog.elem 33 = 5 := by kernel_rfl
  rw [e]
  simp [sizeOf, typeInfo, hi, hz1]
theorem slice_lh (b off n cap lo hi' m : Nat) (x y : Int) (hx : x = lo) (hy : y = hi') (h1 : lo ≤ hi') (h2 : hi' ≤ cap) (h3 : lo < cap) (hm : m = hi' - lo) (w : World) :
    (Instr.slice 33 (.slice (some ⟨b, off, none⟩) n cap) (some (.int .i64 x)) (some (.int .i64 y)) none).run Try.prog w = .ok (.slice (some ⟨b, off + lo, none⟩) m (cap - lo)) w := by
  subst hx; subst hy; subst hm
  rw [run_slice_lh (P := Try.prog) w 33 _ n cap Try.elem22 .i64 .i64 lo hi' (by omega) (by omega) (by omega), Try.size5]
  simp only [Result.andThen_ok, sliced, Int.toNat_natCast]
  rw [if_neg (by omega)]
  simp [Addr.add_lit]
theorem slice_h (a : Option Addr) (n cap hi' : Nat) (y : Int) (hy : y = hi') (h2 : hi' ≤ cap) (w : World) :
    (Instr.slice 33 (.slice a n cap) none (some (.int .i64 y)) none).run Try.prog w = .ok (.slice a hi' cap) w := by
  subst hy
  rw [run_slice_h (P := Try.prog) w 33 _ n cap Try.elem22 .i64 hi' (by omega) (by omega), Try.size5]
  simp only [Result.andThen_ok, sliced, Int.toNat_natCast]
  cases a with
  | none => simp
  | some a => simp; cases a; simp [Addr.add]

set_option maxHeartbeats 400000 in
theorem unframe_any (a : Option Addr) (n cap : Nat) (l : List UInt8) (w : World) (hn : n = l.length) (hcap : n ≤ cap) (h : Bs w a l) :
    Calls Try.prog 17 #[.slice a n cap] w fun e w' => Told5 w w' e (unf l) := by
  have hlen := h.1
  rw [← hn] at hlen
  by_cases h11 : n < 11
  · have HU : Hid (unf l = ⟨0, 0, [], 0, 0⟩) := by show unf l = _; unfold unf; rw [if_pos (by omega)]
    clear hn h
    go_enter Try.func17, Try.ntmps17
    go_wp2
    refine bodyPost_ret (v := .tuple #[.int .i64 0, .int .i64 0, .slice none 0 0, .int .i64 0, .int .i64 0]) (by simp [results, Try.results17, go_sem]) rfl ?_
    rw [HU.out]
    exact told_zero w 0 0
  · have HN : Hid (n = l.length) := hn
    obtain ⟨b, off, rfl, hb, hc⟩ := h.2 (by intro e; simp [e] at hn; omega)
    have hNlt := uN_lt l
    have hPlt := uP_lt l
    have hKlt := uK_lt l
    by_cases hbig : 1048576 < uN l ∨ 1099511627776 < uP l
    · have HU : Hid (unf l = ⟨0, 0, [], 0, 10⟩) := by show unf l = _; unfold unf; rw [if_neg (by omega), if_pos hbig]
      clear hn hc
      go_enter Try.func17, Try.ntmps17
      go_wp2_with fail
      refine (readHead_u _ n cap l _ HN.out (by omega) hcap h).mono ?_
      rintro e w1 ⟨rfl, nq, rfl⟩
      by_cases hb1 : 1048576 < uN l
      · go_wp2
        refine bodyPost_ret (v := .tuple #[.int .i64 0, .int .i64 0, .slice none 0 0, .int .i64 0, .int .i64 10]) (by simp [results, Try.results17, go_sem]) rfl ?_
        rw [HU.out]
        exact told_zero w 10 nq
      · have hb2 : 1099511627776 < uP l := by omega
        go_wp2
        refine bodyPost_ret (v := .tuple #[.int .i64 0, .int .i64 0, .slice none 0 0, .int .i64 0, .int .i64 10]) (by simp [results, Try.results17, go_sem]) rfl ?_
        rw [HU.out]
        exact told_zero w 10 nq
    · have hN1 : uN l ≤ 1048576 := by omega
      have hP1 : uP l ≤ 1099511627776 := by omega
      by_cases hsh : n < 11 + uN l + 4
      · have HU : Hid (unf l = ⟨0, 0, [], 0, 0⟩) := by show unf l = _; unfold unf; rw [if_neg (by omega), if_neg hbig, if_pos (by omega)]
        clear hn hc hbig
        go_enter Try.func17, Try.ntmps17
        go_wp2_with fail
        refine (readHead_u _ n cap l _ HN.out (by omega) hcap h).mono ?_
        rintro e w1 ⟨rfl, nq, rfl⟩
        go_wp2
        refine bodyPost_ret (v := .tuple #[.int .i64 0, .int .i64 0, .slice none 0 0, .int .i64 0, .int .i64 0]) (by simp [results, Try.results17, go_sem]) rfl ?_
        rw [HU.out]
        exact told_zero w 0 nq
      · have HL4 : Hid (((l.drop (11 + uN l)).take 4).length = 4) := by show _ = _; simp only [List.length_take, List.length_drop]; omega
        have HL1 : Hid (11 + uN l = (l.take (11 + uN l)).length) := by show _ = _; simp only [List.length_take]; omega
        have HUd : Hid (unf l = if (l.drop (11 + uN l)).take 4 ≠ lo4 (nsum (l.take (11 + uN l))) then ⟨0, 0, [], 0, 10⟩ else ⟨uK l, uP l, (l.drop 11).take (uN l), ((11 + uN l + 4 : Nat) : Int), 0⟩) := by
          show unf l = _; conv => lhs; unfold unf
          rw [if_neg (by omega), if_neg hbig, if_neg (by omega)]
        have HB3 : Hid (uN l = ((l.drop 11).take (uN l)).length) := by show _ = _; simp only [List.length_take, List.length_drop]; omega
        clear hn hc hbig
        go_enter Try.func17, Try.ntmps17
        go_wp2_with fail
        refine (readHead_u _ n cap l _ HN.out (by omega) hcap h).mono ?_
        rintro e w1 ⟨rfl, n0, hw⟩
        have HW : Hid (w1 = w.drewN n0) := hw
        have h1 : Bs w1 (some ⟨b, off, none⟩) l := by rw [hw]; exact h.drewN _
        clear hw h
        have e1 := slice_h (some ⟨b, off, none⟩) n cap (11 + uN l) (11 + (uN l : Int)) (by omega) (by omega)
        have e2 := slice_lh b off n cap (11 + uN l) (11 + uN l + 4) 4 (11 + (uN l : Int)) (11 + (uN l : Int) + 4) (by omega) (by omega) (by omega) (by omega) (by omega) (by omega)
        have e3 := slice_lh b off n cap 11 (11 + uN l) (uN l) 11 (11 + (uN l : Int)) (by omega) (by omega) (by omega) (by omega) (by omega) (by omega)
        go_wp2
        go_quiet ((go_at_call 38; refine Calls.quiet_of_same (sumIsRight_any _ _ _ _ _ (l.take (11 + uN l)) ((l.drop (11 + uN l)).take 4) _ ?_ ?_ ?_ ?_); exact HL1.out; exact HL4.out; exact ((h1.first (11 + uN l)).drewN _); exact ((h1.part (11 + uN l) 4).drewN _)))
        have hst : Stp w (w1.drewN nq) none none := by rw [HW.out]; exact ((Stp.refl _ _).drewN _).drewN _
        have h2 : Bs (w1.drewN nq) (some ⟨b, off, none⟩) l := h1.drewN _
        generalize w1.drewN nq = w2 at *
        clear h1 HW
        generalize hdd : decide ((l.drop (11 + uN l)).take 4 = lo4 (nsum (l.take (11 + uN l)))) = d at *
        have HD : Hid (decide ((l.drop (11 + uN l)).take 4 = lo4 (nsum (l.take (11 + uN l)))) = d) := hdd
        clear hdd
        cases d with
        | false =>
          go_wp2
          refine bodyPost_ret (v := .tuple #[.int .i64 0, .int .i64 0, .slice none 0 0, .int .i64 0, .int .i64 10]) (by simp [results, Try.results17, go_sem]) rfl ?_
          rw [HUd.out, if_pos (of_decide_eq_false HD.out)]
          exact ⟨_, rfl, .inl ⟨rfl, rfl⟩, hst⟩
        | true =>
          go_wp2_with fail
          refine (copyBytes_any _ _ _ ((l.drop 11).take (uN l)) _ HB3.out (h2.part 11 (uN l))).mono ?_
          rintro e w3 ⟨v3, rfl, o3, s3⟩
          go_wp2
          refine bodyPost_ret (v := .tuple #[.int .i64 (uK l), .int .i64 (uP l), v3, .int .i64 (11 + (uN l : Int) + 4), .int .i64 0]) (by simp [results, Try.results17, go_sem]) rfl ?_
          rw [HUd.out, if_neg (not_not_intro (of_decide_eq_true HD.out))]
          exact ⟨v3, by go_num, o3, hst.trans s3⟩
end Go.Proofs.Ytpbokgeaolpiaab
