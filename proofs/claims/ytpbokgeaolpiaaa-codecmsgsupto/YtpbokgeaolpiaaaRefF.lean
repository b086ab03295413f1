/- What the document's Frame returns: the same bytes. -/
import Derived.Test.YtpbokgeaolpiaaaFram
namespace Go.Proofs.Ytpbokgeaolpiaaa
open Go.RowKit

def los (n : Nat) : Nat → List UInt8
  | 0 => []
  | k + 1 => los n k ++ [lob n k]
theorem los4 (n : Nat) : los n 4 = lo4 n := rfl
theorem los_length (n k : Nat) : (los n k).length = k := by
  induction k with
  | zero => rfl
  | succ k ih => simp [los, ih]

set_option maxHeartbeats 400000 in
theorem refFrame_ok (kind place : Int) (a : Option Addr) (n cap : Nat) (l : List UInt8) (w : World) (hn : n = l.length) (h : Bs w a l) (hok : okF kind place n) :
    Calls Try.prog 10 #[.int .i64 kind, .int .i64 place, .slice a n cap] w fun e w' => ∃ v', e = .returned (.tuple #[v', .int .i64 0]) ∧ Own w' v' (fr kind.toNat place.toNat l) ∧ Stp w w' none v'.ownBlock := by
  obtain ⟨k0, k1, p0, p1, n1⟩ := hok
  have HN : Hid (n = l.length) := hn
  clear hn
  go_enter Try.func10, Try.ntmps10
  go_wp2_with fail
  refine (put_any _ [] _ _ _ (by omega) (by omega) (by omega) (by simp) (.inl ⟨rfl, rfl⟩)).mono ?_
  rintro e w1 ⟨v1, rfl, o1, st1⟩
  rw [Int.toNat_natCast] at o1
  replace st1 : Stp w w1 none v1.ownBlock := st1
  go_wp2_with fail
  refine (put_any v1 _ _ _ _ k0 (by omega) (by omega) (by simp [hb_length]) o1).mono ?_
  rintro e w2 ⟨v2, rfl, o2, s2⟩
  have st2 := st1.trans s2
  go_wp2_with fail
  refine (put_any v2 _ _ _ _ p0 (by omega) (by omega) (by simp [hb_length]) o2).mono ?_
  rintro e w3 ⟨v3, rfl, o3, s3⟩
  have st3 := st2.trans s3
  have hbs : Bs w3 a l := h.grow (st3.below _ (Nat.le_refl _) (fun k hk => by cases hk))
  have hsrc := hbs.src (P := Try.prog) Try.underlying22 cap
  rw [← HN.out] at hsrc
  go_wp2_with (at_builtin; refine wpList_append_b _ rfl (.tmp 37) (.tmp 38) rfl _ _ rfl o3 _ l rfl ?src ?len ?k)
  case src => rw [← HN.out]; exact hsrc
  case len => have := HN.out; simp only [List.length_append, hb_length, List.length_nil]; omega
  case k =>
    intro v4 w4 o4 s4
    have st4 := st3.trans s4
    have hfr : hb n 4 ++ (hb kind.toNat 1 ++ (hb place.toNat 6 ++ l)) = fr0 kind.toNat place.toNat l := by rw [HN.out]; rfl
    rw [hfr] at o4
    clear hfr
    have hl0 : (fr0 kind.toNat place.toNat l).length ≤ 1048587 := by rw [fr0_length, ← HN.out]; omega
    have HF : Hid (fr kind.toNat place.toNat l = fr0 kind.toNat place.toNat l ++ los (nsum (fr0 kind.toNat place.toNat l)) 4) := rfl
    generalize fr0 kind.toNat place.toNat l = f at *
    obtain ⟨a4, cap4, hv4, hbs4⟩ := o4.form
    subst hv4
    have hbs4' := hbs4 (by omega)
    have hsl := nsum_lt f
    go_wp2_with fail
    refine (refSum_any a4 _ cap4 f w4 rfl hbs4').mono ?_
    rintro e w' ⟨rfl, hw⟩
    subst hw
    generalize hS : nsum f = S at *
    clear hS
    go_wp2
    go_loopw [8, 10] (fun v i wr => ∃ k : Nat, k ≤ 4 ∧ i = .int .i64 k ∧ Own wr v (f ++ los S k) ∧ Stp w wr none v.ownBlock) (fun _ i _ => 4 - (intOf i).toNat)
    case atStart => exact ⟨0, Nat.zero_le _, rfl, by simpa [los] using o4, st4⟩
    case round =>
      obtain ⟨k, hk, rfl, ok, stk⟩ := hrel
      by_cases hlt : k < 4
      · go_wp2_with (at_builtin; refine wpList_append_b _ rfl (.tmp 46) (.tmp 52) rfl _ (f ++ los S k) rfl (ok.alloc _) _ [lob S k] rfl ?src2 ?len2 ?next2)
        case src2 => exact src_one _ _ _ (lob_toNat S k).symm _ rfl
        case len2 => simp only [List.length_append, los_length, List.length_cons, List.length_nil]; omega
        case next2 =>
          intro v5 w5 o5 s5
          go_wp2
          exact ⟨⟨k + 1, by omega, by go_num, by simpa [los] using o5, (stk.alloc _).trans s5⟩, by simp [intOf]; omega⟩
      · have hk4 : k = 4 := by omega
        subst hk4
        go_wp2
        go_ret2
        exact ⟨_, rfl, by rw [HF.out]; exact ok, stk⟩

set_option maxHeartbeats 400000 in
theorem refFrame_no (kind place : Int) (a : Option Addr) (n cap : Nat) (w : World) (hn : n ≤ 211106232532992) (hok : ¬ okF kind place n) :
    Calls Try.prog 10 #[.int .i64 kind, .int .i64 place, .slice a n cap] w fun e w' => e = .returned (.tuple #[.slice none 0 0, .int .i64 1]) ∧ w' = w := by
  unfold okF at hok
  go_enter Try.func10, Try.ntmps10
  by_cases h1 : kind < 0
  · go_wp2
    go_ret2
    exact ⟨rfl, rfl⟩
  by_cases h2 : 255 < kind
  · go_wp2
    go_ret2
    exact ⟨rfl, rfl⟩
  by_cases h3 : place < 0
  · go_wp2
    go_ret2
    exact ⟨rfl, rfl⟩
  by_cases h4 : 1099511627776 < place
  · go_wp2
    go_ret2
    exact ⟨rfl, rfl⟩
  have h5 : 1048576 < n := by omega
  go_wp2
  go_ret2
  exact ⟨rfl, rfl⟩

end Go.Proofs.Ytpbokgeaolpiaaa
