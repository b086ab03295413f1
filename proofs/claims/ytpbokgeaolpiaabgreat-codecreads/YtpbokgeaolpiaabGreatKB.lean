/- Several texts in one (wip/gen/group.py). -/
import Derived.Test.YtpbokgeaolpiaabGreatRla
import Derived.Test.YtpbokgeaolpiaabGreatKA
import Derived.Lib.SlBytesConst
import Derived.Test.YtpbokgeaolpiaabGreatVra
import Derived.Test.YtpbokgeaolpiaabGreatIa
import Derived.Deep.Cut
import Derived.Deep.RegionLaw
/- What the reader's bytes does on whatever bytes. -/
namespace Go.Proofs.YtpbokgeaolpiaabGreat
open Go.RowKit

theorem slice_h33 (a : Option Addr) (n cap hi' : Nat) (h2 : hi' ≤ cap) (w : World) :
    (Instr.slice 22 (.slice a n cap) none (some (.int .i64 (hi' : Int))) none).run Tryz.prog w = .ok (.slice a hi' cap) w := slice_h a n cap hi' _ rfl h2 w
theorem Bs.firstAny {w : World} {a : Option Addr} {l : List UInt8} (h : Bs w a l) (q : Nat) : Bs w a (l.take q) := by
  refine ⟨by have := h.1; rw [List.length_take]; omega, fun hne => ?_⟩
  obtain ⟨b, off, rfl, hlt, hc⟩ := h.2 (by rintro rfl; simp at hne)
  have h2 : Bs w (some ⟨b, off, none⟩) (l.take q) := Bs.first h q
  exact h2.2 hne

set_option maxHeartbeats 800000 in
theorem bytes_g {D : Nat} (p : Nat) (s : Option (List UInt8)) (w : World) (h : RG D w p s) :
    Calls Tryz.prog 80 #[.pointer (some ⟨p, 0, none⟩)] w fun e w' => ∃ (a : Option Addr) (n c : Nat), e = .returned (.slice a n c) ∧ RG D w' p (bytS s) ∧ RS w w' p := by
  have HB : Hid (bytS s = (cntS 65536 s).bind fun l => if l.length < cntV 65536 s then none else some (l.drop (cntV 65536 s))) := rfl
  have HV0 : Hid (cntS 65536 s = none → cntV 65536 s = cntV 65536 s) := fun _ => rfl
  go_enter Tryz.func80, Tryz.ntmps80
  go_wp2_with fail
  refine (count_g p s _ w (by omega) (by omega) h).mono ?_
  rintro e w1 ⟨rfl, r1, s1, hn⟩
  generalize cntV 65536 s = N at *
  cases hst : cntS 65536 s with
  | none =>
    have hb := HB.out
    rw [hst] at hb r1
    have HB2 : Hid (bytS s = none) := hb
    have R1 : Hid (RG D w1 p none) := r1
    obtain ⟨h1, hD, f0, f1, c0, c1⟩ := r1
    clear hb HB hst
    by_cases hN : N = 0
    · subst hN
      have hsl := slice_h33 none 0 0 0 (Nat.le_refl _)
      have hsl2 := sliceAny_lo none 0 0 0 0 rfl (Nat.le_refl _)
      go_wp2_with fail
      refine (copyBytes_any none 0 0 [] w1 rfl ⟨by simp, fun h => absurd rfl h⟩).mono ?_
      rintro e w2 ⟨v2, rfl, o2, s2⟩
      have B2 := s2.belowN
      have r2 := R1.out.ext B2 h1 hD
      have e0 : w2.cell? ⟨p, 0, none⟩ = some (.slice none 0 0) := r2.2.2.2.2.1
      have e1 : w2.cell? ⟨p, 1, none⟩ = some (.bool true) := r2.2.2.2.2.2
      have k0 := r2.2.2.1
      have k1 := r2.2.2.2.1
      have q0 := r2.1
      have q1 := r2.2.1
      obtain ⟨a2, c2, hv2, _⟩ := o2.form
      subst hv2
      have s12 : RS w w2 p := s1.ext (B2.mono s1.size)
      clear r2 R1 o2 s2
      go_wp2
      go_ret
      refine ⟨_, _, _, rfl, ?_, ?_⟩
      · rw [HB2.out]
        exact ⟨by simpa using q0, by simpa using q1, by rw [World.frozen?_setCell]; exact k0, by rw [World.frozen?_setCell]; exact k1, World.cell?_setCell_same w2 _ _ e0, by rw [World.cell?_setCell_other w2 _ _ _ (by simp)]; exact e1⟩
      · exact s12.trans ⟨rfl, rfl, rfl, by simp, fun j _ hp => Below.heap_setCell w2 ⟨p, 0, none⟩ _ j hp⟩
    · have hNp : (0 : Int) < (N : Int) := by omega
      go_wp2_with fail
      refine (fail_any p w1 _ _ h1 hD c0 c1 f0 f1).mono ?_
      rintro e w2 ⟨rfl, r2, s2⟩
      go_wp2
      go_ret
      exact ⟨_, _, _, rfl, by rw [HB2.out]; exact r2, s1.trans s2⟩
  | some l =>
    have hb := HB.out
    rw [hst] at hb r1
    have R1 := r1
    obtain ⟨h1, hD, f0, f1, a, cap, c0, c1, hcap, hbs, hne⟩ := r1
    have HNE : Hid _ := hne
    have hll := hbs.1
    by_cases hlt : l.length < N
    · have HB2 : Hid (bytS s = none) := by show bytS s = _; rw [hb]; simp [hlt]
      clear hb HB hst hne
      go_wp2_with fail
      refine (fail_any p w1 _ _ h1 hD c0 c1 f0 f1).mono ?_
      rintro e w2 ⟨rfl, r2, s2⟩
      go_wp2
      go_ret
      exact ⟨_, _, _, rfl, by rw [HB2.out]; exact r2, s1.trans s2⟩
    · have HB2 : Hid (bytS s = some (l.drop N)) := by show bytS s = _; rw [hb]; simp [hlt]
      have hNl : N ≤ l.length := by omega
      clear hb HB hst hne
      have hsl := slice_h33 a l.length cap N (by omega)
      go_wp2_with fail
      refine (copyBytes_any a N cap (l.take N) w1 (by rw [List.length_take]; omega) (hbs.firstAny N)).mono ?_
      rintro e w2 ⟨v2, rfl, o2, s2⟩
      have B2 := s2.belowN
      have r2 := R1.ext B2 h1 hD
      have hbs2 : Bs w2 a l := hbs.grow B2
      have e0 : w2.cell? ⟨p, 0, none⟩ = some (.slice a l.length cap) := (B2.cell (p := ⟨p, 0, none⟩) h1).trans c0
      have k0 := r2.2.2.1
      obtain ⟨a3, HA3, hsl3⟩ : ∃ a3, Hid (a3 = if cap = N then a else a.map (·.add N)) ∧ ∀ w, (Instr.slice 22 (.slice a l.length cap) (some (.int .i64 (N : Int))) none none).run Tryz.prog w = .ok (.slice a3 (l.length - N) (cap - N)) w :=
        ⟨_, rfl, sliceAny_lo a l.length cap N _ rfl hNl⟩
      have hnx := RG.next r2 e0 hcap hbs2 HNE.out hNl (.slice a3 (l.length - N) (cap - N)) (by rw [HA3.out])
      have HX : Hid _ := hnx
      have s12 : RS w w2 p := s1.ext (B2.mono s1.size)
      obtain ⟨a2, c2, hv2, _⟩ := o2.form
      subst hv2
      clear hnx r2 o2 s2 hsl R1
      go_wp2
      go_ret
      exact ⟨_, _, _, rfl, by rw [HB2.out]; exact HX.out.1, s12.trans HX.out.2⟩
end Go.Proofs.YtpbokgeaolpiaabGreat

/- A frame is told by its bytes: numbers written with their highest byte first are read again, and the frame that is made of what was read is the one that stands there just if its sum is right. -/
namespace Go.Proofs.YtpbokgeaolpiaabGreat
open Go.RowKit

theorem hi_foldl (l : List UInt8) (m : Nat) : l.foldl (fun n b => 256 * n + b.toNat) m = m * 256 ^ l.length + hi l := by
  induction l generalizing m with
  | nil => simp [hi]
  | cons x r ih =>
    have e : hi (x :: r) = r.foldl (fun n b => 256 * n + b.toNat) (256 * 0 + x.toNat) := rfl
    rw [e, List.foldl_cons, ih, ih, List.length_cons, Nat.pow_succ]
    have : (256 * m + x.toNat) * 256 ^ r.length = m * (256 ^ r.length * 256) + x.toNat * 256 ^ r.length := by
      rw [Nat.add_mul, Nat.mul_comm 256 m, Nat.mul_assoc, Nat.mul_comm 256]
    rw [this, Nat.mul_zero, Nat.zero_add, Nat.add_assoc]
theorem hi_cons (x : UInt8) (r : List UInt8) : hi (x :: r) = x.toNat * 256 ^ r.length + hi r := by
  have e : hi (x :: r) = r.foldl (fun n b => 256 * n + b.toNat) (256 * 0 + x.toNat) := rfl
  rw [e, hi_foldl]; simp
theorem hb_add (x k m j : Nat) (h : j ≤ k) : hb (x * 256 ^ k + m) j = hb m j := by
  induction j with
  | zero => rfl
  | succ j ih =>
    rw [hb, hb, ih (by omega)]
    congr 1
    have e : x * 256 ^ k = 256 ^ j * (256 * (x * 256 ^ (k - j - 1))) := by
      have hk : 256 ^ k = 256 ^ j * (256 * 256 ^ (k - j - 1)) := by
        conv => lhs; rw [show k = j + 1 + (k - j - 1) by omega, Nat.pow_add, Nat.pow_succ, Nat.mul_assoc]
      rw [hk, Nat.mul_left_comm]
      congr 1
      rw [Nat.mul_left_comm]
    rw [e, Nat.mul_add_div (Nat.pow_pos (by omega))]
    apply UInt8.toNat.inj
    simp
theorem hb_hi (l : List UInt8) : hb (hi l) l.length = l := by
  induction l with
  | nil => rfl
  | cons x r ih =>
    rw [List.length_cons, hb, hi_cons, hb_add _ _ _ _ (Nat.le_refl _), ih]
    congr 1
    have hlt := hi_lt r
    have : (x.toNat * 256 ^ r.length + hi r) / 256 ^ r.length = x.toNat := by
      rw [Nat.mul_comm, Nat.mul_add_div (Nat.pow_pos (by omega)), Nat.div_eq_of_lt hlt]; rfl
    rw [this]; simp
theorem take_two (l : List UInt8) (a b c : Nat) (h : c = a + b) : l.take a ++ (l.drop a).take b = l.take c := by rw [h, List.take_add]
theorem drop_two (l : List UInt8) (p q a b c : Nat) (hq : q = p + a) (h : c = a + b) : (l.drop p).take a ++ (l.drop q).take b = (l.drop p).take c := by
  rw [h, hq, List.take_add, List.drop_drop]
theorem fr0_of (l : List UInt8) (h : 11 + uN l ≤ l.length) : fr0 (uK l) (uP l) ((l.drop 11).take (uN l)) = l.take (11 + uN l) := by
  have hl : ((l.drop 11).take (uN l)).length = uN l := by simp only [List.length_take, List.length_drop]; omega
  unfold fr0
  rw [hl]
  have e4 : hb (uN l) 4 = l.take 4 := by
    have := hb_hi (l.take 4)
    rw [List.length_take, Nat.min_eq_left (by omega)] at this; exact this
  have e1 : hb (uK l) 1 = (l.drop 4).take 1 := by
    have := hb_hi ((l.drop 4).take 1)
    rw [List.length_take, List.length_drop, Nat.min_eq_left (by omega)] at this; exact this
  have e6 : hb (uP l) 6 = (l.drop 5).take 6 := by
    have := hb_hi ((l.drop 5).take 6)
    rw [List.length_take, List.length_drop, Nat.min_eq_left (by omega)] at this; exact this
  rw [e4, e1, e6, drop_two l 5 11 6 (uN l) (6 + uN l) (by omega) (by omega), drop_two l 4 5 1 (6 + uN l) (7 + uN l) (by omega) (by omega), take_two l 4 (7 + uN l) (11 + uN l) (by omega)]
theorem fr_of (l : List UInt8) (h : 11 + uN l + 4 ≤ l.length) : fr (uK l) (uP l) ((l.drop 11).take (uN l)) = l.take (11 + uN l + 4) ↔ (l.drop (11 + uN l)).take 4 = lo4 (nsum (l.take (11 + uN l))) := by
  unfold fr
  rw [fr0_of l (by omega), ← take_two l (11 + uN l) 4 (11 + uN l + 4) rfl, List.append_cancel_left_eq]
  exact eq_comm
theorem uK_bat (l : List UInt8) (h : 11 ≤ l.length) : bat l 4 = ((uK l : Nat) : Int) := by
  unfold uK
  have h4 : 4 < l.length := by omega
  have : (l.drop 4).take 1 = [l.getD 4 0] := by
    rw [List.drop_eq_getElem_cons h4, List.take_succ_cons, List.take_zero]; simp [List.getD, h4]
  rw [this]; simp [bat, bn, hi]

end Go.Proofs.YtpbokgeaolpiaabGreat

/- What Unframe tells of a frame, whatever stands behind it: what was framed. -/
namespace Go.Proofs.YtpbokgeaolpiaabGreat
open Go.RowKit

theorem hi_hb (n s : Nat) : hi (hb n s) = n % 256 ^ s := by
  induction s with
  | zero => simp [hb, hi, Nat.mod_one]
  | succ s ih =>
    rw [hb, hi_cons, ih, hb_length, Nat.pow_succ, Nat.mod_mul]
    have : (UInt8.ofNat (n / 256 ^ s)).toNat = n / 256 ^ s % 256 := by simp
    rw [this, Nat.mul_comm, Nat.add_comm]
theorem hi_hb_lt (n s : Nat) (h : n < 256 ^ s) : hi (hb n s) = n := by rw [hi_hb, Nat.mod_eq_of_lt h]
theorem take_app (a b : List UInt8) (n : Nat) (h : a.length = n) : (a ++ b).take n = a := by rw [← h]; exact List.take_left
theorem drop_app (a b : List UInt8) (n : Nat) (h : a.length = n) : (a ++ b).drop n = b := by rw [← h]; exact List.drop_left
theorem drop_more (a b : List UInt8) (n m : Nat) (h : a.length = n) : (a ++ b).drop (n + m) = b.drop m := by rw [← List.drop_drop, drop_app a b n h]

theorem fr_form (k p : Nat) (b x : List UInt8) : fr k p b ++ x = hb b.length 4 ++ (hb k 1 ++ (hb p 6 ++ (b ++ (lo4 (nsum (fr0 k p b)) ++ x)))) := by
  unfold fr
  have : fr0 k p b = hb b.length 4 ++ (hb k 1 ++ (hb p 6 ++ b)) := rfl
  generalize nsum (fr0 k p b) = s
  rw [this]
  simp only [List.append_assoc]
theorem uN_fr (k p : Nat) (b x : List UInt8) (h : b.length ≤ 1048576) : uN (fr k p b ++ x) = b.length := by
  unfold uN
  rw [fr_form, take_app _ _ 4 (hb_length _ _), hi_hb_lt _ _ (by omega)]
theorem uK_fr (k p : Nat) (b x : List UInt8) (h : k ≤ 255) : uK (fr k p b ++ x) = k := by
  unfold uK
  rw [fr_form, drop_app _ _ 4 (hb_length _ _), take_app _ _ 1 (hb_length _ _), hi_hb_lt _ _ (by omega)]
theorem uP_fr (k p : Nat) (b x : List UInt8) (h : p ≤ 1099511627776) : uP (fr k p b ++ x) = p := by
  unfold uP
  rw [fr_form, show (5 : Nat) = 4 + 1 from rfl, drop_more _ _ 4 1 (hb_length _ _), drop_app _ _ 1 (hb_length _ _), take_app _ _ 6 (hb_length _ _), hi_hb_lt _ _ (by omega)]
theorem body_fr (k p : Nat) (b x : List UInt8) : ((fr k p b ++ x).drop 11).take b.length = b := by
  rw [fr_form, show (11 : Nat) = 4 + (1 + 6) from rfl, drop_more _ _ 4 _ (hb_length _ _), drop_more _ _ 1 6 (hb_length _ _), drop_app _ _ 6 (hb_length _ _), take_app _ _ _ rfl]
theorem take_fr (k p : Nat) (b x : List UInt8) : (fr k p b ++ x).take (11 + b.length) = fr0 k p b := by
  unfold fr
  rw [List.append_assoc, take_app _ _ _ (by rw [fr0_length]; omega)]
theorem sum_fr (k p : Nat) (b x : List UInt8) : ((fr k p b ++ x).drop (11 + b.length)).take 4 = lo4 (nsum (fr0 k p b)) := by
  unfold fr
  rw [List.append_assoc, drop_app _ _ _ (by rw [fr0_length]; omega), take_app _ _ 4 rfl]
theorem unf_fr (k p : Nat) (b x : List UInt8) (hk : k ≤ 255) (hp : p ≤ 1099511627776) (hb : b.length ≤ 1048576) : unf (fr k p b ++ x) = ⟨k, p, b, ((b.length + 15 : Nat) : Int), 0⟩ := by
  have hl : (fr k p b ++ x).length = b.length + 15 + x.length := by rw [List.length_append, fr_length]
  unfold unf
  rw [uN_fr k p b x hb, uK_fr k p b x hk, uP_fr k p b x hp, body_fr, take_fr, sum_fr]
  rw [if_neg (by omega), if_neg (by omega), if_neg (by omega), if_neg (by simp)]
  congr 2
  omega
end Go.Proofs.YtpbokgeaolpiaabGreat

/- The example that each statement asks first: known returns true, in whatever memory, and changes nothing that was there. -/
namespace Go.Proofs.YtpbokgeaolpiaabGreat
open Go.RowKit

theorem Own.cap {w : World} {a : Option Addr} {n cap : Nat} {l : List UInt8} (h : Own w (.slice a n cap) l) : n ≤ cap := by
  rcases h with ⟨h, _⟩ | ⟨g, c, cur, h, _, hl, _⟩
  · cases h; omega
  · cases h; exact hl
theorem Own.some {w : World} {v : Value} {l : List UInt8} (h : Own w v l) (hl : l ≠ []) : ∃ g cap, v = .slice (some ⟨g, 0, none⟩) l.length cap ∧ l.length ≤ cap := by
  rcases h with ⟨_, h⟩ | ⟨g, c, cur, h, _, hc, _⟩
  · exact absurd h hl
  · exact ⟨g, c, h, hc⟩
theorem Tryz.under5 : Tryz.prog.underlying 5 = some (.int .u8) := by kernel_rfl
theorem bs_one (w : World) (b : UInt8) (x : Int) (f : Nat × Nat) (hx : x = (b.toNat : Int)) : Bs (w.alloc (.cells #[.int .u8 x] 5 f)) (some ⟨w.heap.size, 0, none⟩) [b] := by
  subst hx
  refine ⟨by simp, fun _ => ⟨w.heap.size, 0, rfl, by simp, fun j hj => ?_⟩⟩
  have : j = 0 := by simpa using hj
  subst this
  unfold World.cell?
  rw [heap_alloc_new]; rfl
theorem fr_a : fr (1 : Int).toNat (2 : Int).toNat [97] = [0, 0, 0, 1, 1, 0, 0, 0, 0, 0, 2, 97] ++ lo4 (nsum (fr0 1 2 [97])) := rfl
theorem fr_a3 : bat (fr (1 : Int).toNat (2 : Int).toNat [97]) 3 = 1 := by rw [fr_a]; rfl
theorem fr_a10 : bat (fr (1 : Int).toNat (2 : Int).toNat [97]) 10 = 2 := by rw [fr_a]; rfl

set_option maxHeartbeats 800000 in
set_option maxRecDepth 100000 in
theorem known_any (w : World) : Calls Tryz.prog 8 #[] w fun e w' => e = .returned (.bool true) ∧ Below w.heap.size w w' := by
  have hcv := Lib.run_convert_bytes_const (P := Tryz.prog) w 22 5 #[.int .u8 97] 1 1 Tryz.underlying22 Tryz.under5
  go_enter Tryz.func8, Tryz.ntmps8
  go_wp2_with fail
  refine (frame_ok 1 2 _ 1 1 [97] _ rfl (bs_one w 97 97 (1, 2) rfl) ⟨by omega, by omega, by omega, by omega, by omega⟩).mono ?_
  rintro e w1 ⟨v1, rfl, o1, s1⟩
  have B1 : Below w.heap.size w w1 := ((Below.refl _ _).alloc (Nat.le_refl _) _).trans (s1.below _ (by rw [World.size_alloc]; omega) (fun k hk => by cases hk))
  have hl1 : Hid ((fr (1 : Int).toNat (2 : Int).toNat [97]).length = 16) := fr_length 1 2 [97]
  obtain ⟨g1, c1, hv1, hc1⟩ := o1.some (by intro e; have := hl1.out; rw [e] at this; simp at this)
  rw [hl1.out] at hv1 hc1
  subst hv1
  obtain ⟨a1, c1', e1, hb1⟩ := o1.form
  rw [hl1.out] at e1 hb1
  cases e1
  have U : Hid (unf (fr (1 : Int).toNat (2 : Int).toNat [97]) = ⟨1, 2, [97], 16, 0⟩) := by
    have := unf_fr 1 2 [97] [] (by omega) (by omega) (by simp)
    rw [List.append_nil] at this; exact this
  clear s1
  go_wp2_with fail
  refine (unframe_any _ 16 c1 _ w1 hl1.out.symm hc1 (hb1 (by omega))).mono ?_
  rintro e w2 ⟨v2, he, o2, s2⟩
  rw [U.out] at he o2
  subst he
  have B2 : Below w.heap.size w w2 := B1.trans (s2.below _ B1.size (fun k hk => by cases hk))
  have L2 : Below w1.heap.size w1 w2 := s2.below _ (Nat.le_refl _) (fun k hk => by cases hk)
  have o12 := o1.below L2
  clear hcv s2 L2 o1 B1 U
  obtain ⟨g2, c2, hv2, hc2⟩ := o2.some (by simp)
  rw [show ([97] : List UInt8).length = 1 from rfl] at hv2 hc2
  subst hv2
  go_wp2_with fail
  refine (putCmd_z w2).mono ?_
  rintro e w3 ⟨v3, rfl, o3, L3⟩
  have B3 := B2.trans (L3.mono B2.size)
  have o13 := o12.below L3
  have o23 := o2.below L3
  clear o12 o2 B2 L3
  obtain ⟨g3, c3, hv3, hc3⟩ := o3.some (by simp [zs])
  rw [zs_length] at hv3 hc3
  subst hv3
  go_wp2_with fail
  refine (getCmd_z _ w3 o3).mono ?_
  rintro e w4 ⟨rfl, L4⟩
  have B4 := B3.trans (L4.mono B3.size)
  have o14 := o13.below L4
  have o24 := o23.below L4
  clear o13 o23 B3 L4 o3
  go_wp2_with (refine wpList_store_rowF rfl 38 (.tmp 10) (.tmp 34) rfl w4.heap.size Zcmd rfl rfl 38 _ (heap_alloc_new w4 _) Zi rfl Zo ?next)
  case next =>
    intro w5 hw5h
    have hw5 := hw5h.out
    have L5 : Below w4.heap.size w4 w5 := by
      rw [hw5]; exact ((Below.refl _ _).alloc (Nat.le_refl _) _).trans ⟨rfl, rfl, rfl, by simp [World.setRow], fun k hk => setRow_other _ _ _ _ (by omega)⟩
    have B5 := B4.trans (L5.mono B4.size)
    have o15 := o14.below L5
    have o25 := o24.below L5
    clear o14 o24 B4 L5 hw5 hw5h
    obtain ⟨a1, c1', e1, hb1⟩ := o15.form
    rw [hl1.out] at e1 hb1
    cases e1
    obtain ⟨_, _, e1, _, hcell1⟩ := (hb1 (by omega)).2 (by intro e; have := hl1.out; rw [e] at this; simp at this)
    cases e1
    have x3 := hcell1 3 (by rw [hl1.out]; omega)
    have x10 := hcell1 10 (by rw [hl1.out]; omega)
    rw [fr_a3] at x3
    rw [fr_a10] at x10
    obtain ⟨a2, c2', e2, hb2⟩ := o25.form
    rw [show ([97] : List UInt8).length = 1 from rfl] at e2 hb2
    cases e2
    obtain ⟨_, _, e2, _, hcell2⟩ := (hb2 (by omega)).2 (by simp)
    cases e2
    have y0 := hcell2 0 (by simp)
    have hstr : (convert 22 9 (.slice (some ⟨g2, 0, none⟩) 1 c2)).run Tryz.prog w5 = .ok (.string ⟨#[97]⟩) w5 := run_convert_bytes_back (P := Tryz.prog) w5 22 9 5 ⟨g2, 0, none⟩ c2 [97] Tryz.underlying22 Tryz.under5 Tryz.underlying9 (fun j hj => by
      have : j = 0 := by simpa using hj
      subst this
      rw [Addr.add_lit]; exact y0)
    clear hcell1 hcell2 hb1 hb2 o15 o25 hl1 y0
    go_wp2
    go_ret
    exact ⟨rfl, B5⟩
end Go.Proofs.YtpbokgeaolpiaabGreat

/- What the reader does with bytes, whatever they are: what is left, and what was read. Made by program (wip/gen/rdv.py). -/
namespace Go.Proofs.YtpbokgeaolpiaabGreat
open Go.RowKit

set_option maxHeartbeats 800000 in
theorem bytes_v {D : Nat} (p : Nat) (s : Option (List UInt8)) (w : World) (h : RG D w p s) :
    Calls Tryz.prog 80 #[.pointer (some ⟨p, 0, none⟩)] w fun e w' => ∃ (a : Option Addr) (c : Nat), e = .returned (.slice a (de .byt s).1.length c) ∧ (de .byt s).1.length ≤ c ∧ RepB w' (NB w w') a (de .byt s).1 ∧ RG D w' p (de .byt s).2 ∧ RS w w' p := by
  show Calls Tryz.prog 80 #[.pointer (some ⟨p, 0, none⟩)] w fun e w' => ∃ (a : Option Addr) (c : Nat), e = .returned (.slice a (bytV s).length c) ∧ (bytV s).length ≤ c ∧ RepB w' (NB w w') a (bytV s) ∧ RG D w' p (bytT s) ∧ RS w w' p
  have HB : Hid (bytT s = (cntS 65536 s).bind fun l => if l.length < cntV 65536 s then none else some (l.drop (cntV 65536 s))) := rfl
  have HV : Hid (bytV s = match cntS 65536 s with | none => [] | some l => if l.length < cntV 65536 s then [] else l.take (cntV 65536 s)) := rfl
  go_enter Tryz.func80, Tryz.ntmps80
  go_wp2_with fail
  refine (count_g p s _ w (by omega) (by omega) h).mono ?_
  rintro e w1 ⟨rfl, r1, s1, hn⟩
  generalize cntV 65536 s = N at *
  cases hst : cntS 65536 s with
  | none =>
    have hb := HB.out
    have hv := HV.out
    rw [hst] at hb r1 hv
    have HB2 : Hid (bytT s = none) := hb
    have HV2 : Hid (bytV s = []) := hv
    have R1 : Hid (RG D w1 p none) := r1
    obtain ⟨h1, hD, f0, f1, c0, c1⟩ := r1
    clear hb hv HB HV hst
    by_cases hN : N = 0
    · subst hN
      have hsl := slice_h33 none 0 0 0 (Nat.le_refl _)
      have hsl2 := sliceAny_lo none 0 0 0 0 rfl (Nat.le_refl _)
      go_wp2_with fail
      refine (copyBytes_any none 0 0 [] w1 rfl ⟨by simp, fun h => absurd rfl h⟩).mono ?_
      rintro e w2 ⟨v2, rfl, o2, s2⟩
      have B2 := s2.belowN
      have r2 := R1.out.ext B2 h1 hD
      have e0 : w2.cell? ⟨p, 0, none⟩ = some (.slice none 0 0) := r2.2.2.2.2.1
      have e1 : w2.cell? ⟨p, 1, none⟩ = some (.bool true) := r2.2.2.2.2.2
      have k0 := r2.2.2.1
      have k1 := r2.2.2.2.1
      have q0 := r2.1
      have q1 := r2.2.1
      obtain ⟨a2, c2, hv2, _⟩ := o2.form
      subst hv2
      have s12 : RS w w2 p := s1.ext (B2.mono s1.size)
      clear r2 R1 o2 s2
      go_wp2
      go_ret
      rw [HV2.out]
      refine ⟨_, _, rfl, Nat.zero_le _, ⟨⟨by simp, fun h => absurd rfl h⟩, fun h => absurd rfl h⟩, ?_, ?_⟩
      · rw [HB2.out]
        exact ⟨by simpa using q0, by simpa using q1, by rw [World.frozen?_setCell]; exact k0, by rw [World.frozen?_setCell]; exact k1, World.cell?_setCell_same w2 _ _ e0, by rw [World.cell?_setCell_other w2 _ _ _ (by simp)]; exact e1⟩
      · exact s12.trans ⟨rfl, rfl, rfl, by simp, fun j _ hp => Below.heap_setCell w2 ⟨p, 0, none⟩ _ j hp⟩
    · have hNp : (0 : Int) < (N : Int) := by omega
      go_wp2_with fail
      refine (fail_any p w1 _ _ h1 hD c0 c1 f0 f1).mono ?_
      rintro e w2 ⟨rfl, r2, s2⟩
      go_wp2
      go_ret
      rw [HV2.out]
      exact ⟨none, 0, rfl, Nat.zero_le _, ⟨⟨by simp, fun h => absurd rfl h⟩, fun h => absurd rfl h⟩, by rw [HB2.out]; exact r2, s1.trans s2⟩
  | some l =>
    have hb := HB.out
    have hv := HV.out
    rw [hst] at hb r1 hv
    simp only at hv
    have R1 := r1
    obtain ⟨h1, hD, f0, f1, a, cap, c0, c1, hcap, hbs, hne⟩ := r1
    have HNE : Hid _ := hne
    have hll := hbs.1
    by_cases hlt : l.length < N
    · have HB2 : Hid (bytT s = none) := by show bytT s = _; rw [hb]; simp [hlt]
      have HV2 : Hid (bytV s = []) := by show bytV s = _; rw [hv, if_pos hlt]
      clear hb hv HB HV hst hne
      go_wp2_with fail
      refine (fail_any p w1 _ _ h1 hD c0 c1 f0 f1).mono ?_
      rintro e w2 ⟨rfl, r2, s2⟩
      go_wp2
      go_ret
      rw [HV2.out]
      exact ⟨none, 0, rfl, Nat.zero_le _, ⟨⟨by simp, fun h => absurd rfl h⟩, fun h => absurd rfl h⟩, by rw [HB2.out]; exact r2, s1.trans s2⟩
    · have HB2 : Hid (bytT s = some (l.drop N)) := by show bytT s = _; rw [hb]; simp [hlt]
      have HV2 : Hid (bytV s = l.take N) := by show bytV s = _; rw [hv, if_neg hlt]
      have hNl : N ≤ l.length := by omega
      clear hb hv HB HV hst hne
      have hsl := slice_h33 a l.length cap N (by omega)
      go_wp2_with fail
      refine (copyBytes_any a N cap (l.take N) w1 (by rw [List.length_take]; omega) (hbs.firstAny N)).mono ?_
      rintro e w2 ⟨v2, rfl, o2, s2⟩
      have B2 := s2.belowN
      have r2 := R1.ext B2 h1 hD
      have hbs2 : Bs w2 a l := hbs.grow B2
      have e0 : w2.cell? ⟨p, 0, none⟩ = some (.slice a l.length cap) := (B2.cell (p := ⟨p, 0, none⟩) h1).trans c0
      have k0 := r2.2.2.1
      obtain ⟨a3, HA3, hsl3⟩ : ∃ a3, Hid (a3 = if cap = N then a else a.map (·.add N)) ∧ ∀ w, (Instr.slice 22 (.slice a l.length cap) (some (.int .i64 (N : Int))) none none).run Tryz.prog w = .ok (.slice a3 (l.length - N) (cap - N)) w :=
        ⟨_, rfl, sliceAny_lo a l.length cap N _ rfl hNl⟩
      have hnx := RG.next r2 e0 hcap hbs2 HNE.out hNl (.slice a3 (l.length - N) (cap - N)) (by rw [HA3.out])
      have HX : Hid _ := hnx
      have s12 : RS w w2 p := s1.ext (B2.mono s1.size)
      obtain ⟨a2, c2, hv2, hbsn⟩ := o2.form
      subst hv2
      have hNN : (l.take N).length = N := by rw [List.length_take]; omega
      have BYT : Hid ((l.take N).length ≤ c2 ∧ RepB w2 (NB w w2) a2 (l.take N)) := by
        refine ⟨o2.cap, hbsn (by omega), fun hne x hx => ?_⟩
        have hob : (Value.slice a2 (l.take N).length c2).ownBlock = some x.block := by rw [hx]; rfl
        refine ⟨?_, o2.lt _ hob, o2.uf _ hob⟩
        rcases s2.row with e | ⟨q, e, hq⟩
        · rw [hob] at e; cases e
        · rw [hob] at e; cases e; exact Nat.le_trans s1.size hq
      rw [hNN] at BYT
      have HPN : Hid (p < w.heap.size ∨ True) := .inr trivial
      have HNP : Hid (p < w.heap.size) := h.1
      clear hnx r2 o2 s2 hsl R1 hbsn
      rw [hNN]
      go_wp2
      go_ret
      rw [HV2.out, hNN]
      refine ⟨_, _, rfl, BYT.out.1, ?_, by rw [HB2.out]; exact HX.out.1, s12.trans HX.out.2⟩
      exact BYT.out.2.keptN (by simp) (fun b h1 h2 => Below.heap_setCell w2 ⟨p, 0, none⟩ _ b (by have := HNP.out; show b ≠ p; omega)) (Nat.le_refl _)

end Go.Proofs.YtpbokgeaolpiaabGreat

/- The document's reader: truths, counts, bytes; and how records are put together. -/
namespace Go.Proofs.YtpbokgeaolpiaabGreat
open Go.RowKit

theorem Rd.cat {a b : Fm} {l l1 l2 : List UInt8} {bad b1 b2 : Bool} {x : Vl a} {y : Vl b} (h1 : Rd a l bad x l1 b1) (h2 : Rd b l1 b1 y l2 b2) : Rd (.cat a b) l bad (x, y) l2 b2 := by
  refine ⟨by show ((en a x).2 || (en b y).2) = false; rw [h1.1, h2.1]; rfl, fun hb r hr => ?_⟩
  have hr' : (de b (de a (some l)).2).2 = some r := hr
  cases hs : (de a (some l)).2 with
  | none => rw [hs, de_none] at hr'; cases hr'
  | some r1 =>
    obtain ⟨e1, e2, e3⟩ := h1.2 hb r1 hs
    rw [hs] at hr'
    subst e2
    obtain ⟨f1, f2, f3⟩ := h2.2 e3 r hr'
    refine ⟨?_, f2, f3⟩
    show (x, y) = ((de a (some l)).1, (de b (de a (some l)).2).1)
    rw [hs, ← e1, ← f1]
theorem Rt_of {l l1 : List UInt8} {bad b1 b' : Bool} {m : Int} (h : Rd .num l bad m l1 b1) (hb' : b1 = false → (m = 0 ∨ m = 1) → b' = false) : Rd .tru l bad (decide (m = 1)) l1 b' := by
  refine ⟨rfl, fun hb r hr => ?_⟩
  have hr' : truS (some l) = some r := hr
  unfold truS at hr'
  split at hr'
  · next hq =>
    obtain ⟨e1, e2, e3⟩ := h.2 hb r hr'
    have e1' : m = numV (some l) := e1
    exact ⟨by show decide (m = 1) = decide (numV (some l) = 1); rw [e1'], e2, hb' e3 (by rw [e1']; exact hq)⟩
  · cases hr'
def FlagO (D : Nat) (w : World) (p : Nat) (l : List UInt8) (bad : Bool) (e : Ending) (w' : World) : Prop := ∃ b : Bool, e = .returned (.bool b) ∧ OutI D w p .tru l bad b w'
def CountO (D : Nat) (w : World) (p : Nat) (l : List UInt8) (bad : Bool) (e : Ending) (w' : World) : Prop :=
  ∃ (n : Nat) (l' : List UInt8) (bad' : Bool), e = .returned (.int .i64 (n : Int)) ∧ n ≤ 64 ∧ (bad = false → ∀ r, cntS 64 (some l) = some r → n = cntV 64 (some l) ∧ l' = r ∧ bad' = false) ∧ RI D w' p l' bad' ∧ RS w w' p
def BytO (D : Nat) (w : World) (p : Nat) (l : List UInt8) (bad : Bool) (e : Ending) (w' : World) : Prop :=
  ∃ (a : Option Addr) (c : Nat) (v : List UInt8), e = .returned (.slice a v.length c) ∧ v.length ≤ c ∧ RepB w' (NB w w') a v ∧ OutI D w p .byt l bad v w'

set_option maxHeartbeats 1000000 in
theorem flag_i {D : Nat} (p : Nat) (l : List UInt8) (bad : Bool) (w : World) (h : RI D w p l bad) : Calls Tryz.prog 82 #[.pointer (some ⟨p, 0, none⟩)] w fun e w' => FlagO D w p l bad e w' := by
  go_enter Tryz.func82, Tryz.ntmps82
  go_wp2_with fail
  refine (num_i p l bad w h).mono ?_
  rintro e w1 ⟨m, rfl, hm, l1, b1, rd1, ri1, rs1⟩
  have HT := hidI (ri1.toBad true)
  have HF := hidI (ri1.toBad false)
  have RD := hidI rd1
  have RR := hidI rs1
  obtain ⟨h1, hD, f0, f1, c1, a, cap, c0, hcap, hbs, hne⟩ := ri1
  clear hbs hne hcap rd1 rs1
  cases b1 with
  | true =>
    by_cases hm1 : m = 1
    · subst hm1
      go_wp2
      go_ret
      exact ⟨true, rfl, l1, true, Rt_of RD.out (fun h => by cases h), HT.out.1, RR.out.trans HT.out.2⟩
    · have hb2 : (m == 1) = false := by simp; omega
      go_wp2
      go_ret
      refine ⟨false, rfl, l1, true, ?_, HT.out.1, RR.out.trans HT.out.2⟩
      have := Rt_of (b' := true) RD.out (fun h => by cases h)
      rwa [show decide (m = 1) = false by simp; omega] at this
  | false =>
    by_cases hm1 : m = 1
    · subst hm1
      go_wp2
      go_ret
      exact ⟨true, rfl, l1, false, Rt_of RD.out (fun _ _ => rfl), HF.out.1, RR.out.trans HF.out.2⟩
    · by_cases hm0 : m = 0
      · subst hm0
        go_wp2
        go_ret
        exact ⟨false, rfl, l1, false, Rt_of RD.out (fun _ _ => rfl), HF.out.1, RR.out.trans HF.out.2⟩
      · have hb2 : (m == 1) = false := by simp; omega
        have hb0 : (m != 0) = true := by rw [bne_iff_ne]; omega
        have hb1 : (m != 1) = true := by rw [bne_iff_ne]; omega
        go_wp2
        go_ret
        refine ⟨false, rfl, l1, true, ?_, HT.out.1, RR.out.trans HT.out.2⟩
        have := Rt_of (b' := true) RD.out (fun _ h => by omega)
        rwa [show decide (m = 1) = false by simp; omega] at this

set_option maxHeartbeats 1000000 in
theorem count_i {D : Nat} (p : Nat) (l : List UInt8) (bad : Bool) (w : World) (h : RI D w p l bad) : Calls Tryz.prog 60 #[.pointer (some ⟨p, 0, none⟩)] w fun e w' => CountO D w p l bad e w' := by
  go_enter Tryz.func60, Tryz.ntmps60
  go_wp2_with fail
  refine (num_i p l bad w h).mono ?_
  rintro e w1 ⟨m, rfl, hm, l1, b1, rd1, ri1, rs1⟩
  have HT := hidI (ri1.toBad true)
  have HR := hidI ri1
  have RR := hidI rs1
  have HP : Hid (bad = false → ∀ r, cntS 64 (some l) = some r → 0 ≤ m ∧ m ≤ 64 ∧ m.toNat = cntV 64 (some l) ∧ l1 = r ∧ b1 = false) := by
    intro hb r hr
    unfold cntS at hr
    split at hr
    · cases hr
    · next hq =>
      obtain ⟨e1, e2, e3⟩ := rd1.2 hb r hr
      have e1' : m = numV (some l) := e1
      refine ⟨by omega, by omega, ?_, e2, e3⟩
      unfold cntV
      rw [if_neg hq, e1']
  obtain ⟨h1, hD, f0, f1, c1, a, cap, c0, hcap, hbs, hne⟩ := ri1
  clear hbs hne hcap rd1 rs1
  by_cases hlo : m < 0
  · go_wp2
    go_ret
    exact ⟨0, l1, true, rfl, by omega, fun hb r hr => absurd (HP.out hb r hr).1 (by omega), HT.out.1, RR.out.trans HT.out.2⟩
  · by_cases hhi : 64 < m
    · go_wp2
      go_ret
      exact ⟨0, l1, true, rfl, by omega, fun hb r hr => absurd (HP.out hb r hr).2.1 (by omega), HT.out.1, RR.out.trans HT.out.2⟩
    · obtain ⟨n, hn⟩ : ∃ n : Nat, m = (n : Int) := ⟨m.toNat, by omega⟩
      subst hn
      go_wp2
      go_ret
      exact ⟨n, l1, b1, rfl, by omega, fun hb r hr => ⟨by have := (HP.out hb r hr).2.2.1; omega, (HP.out hb r hr).2.2.2⟩, HR.out, RR.out⟩

theorem Rb_of {l l1 l2 : List UInt8} {bad b1 b2 : Bool} {m : Int} {v : List UInt8} (h : Rd .num l bad m l1 b1) (hv : v.length ≤ 65536) (ho : b1 = false → 0 ≤ m → m ≤ 65536 → m ≤ (l1.length : Int) → v = l1.take m.toNat ∧ l2 = l1.drop m.toNat ∧ b2 = false) : Rd .byt l bad v l2 b2 := by
  refine ⟨by show (if v.length ≤ 65536 then (enc (v.length : Int) ++ v, false) else ([], true)).2 = false; rw [if_pos hv], fun hb r hr => ?_⟩
  have hr' : bytT (some l) = some r := hr
  show v = bytV (some l) ∧ l2 = r ∧ b2 = false
  unfold bytT at hr'
  unfold bytV
  cases hc : cntS 65536 (some l) with
  | none => rw [hc] at hr'; cases hr'
  | some q =>
    rw [hc] at hr'
    have hc2 := hc
    unfold cntS at hc2
    split at hc2
    · cases hc2
    · next hq =>
      obtain ⟨e1, e2, e3⟩ := h.2 hb q hc2
      have e1' : m = numV (some l) := e1
      subst e2
      have hcv : cntV 65536 (some l) = m.toNat := by unfold cntV; rw [if_neg hq, e1']
      have hr2 : (if l1.length < cntV 65536 (some l) then none else some (l1.drop (cntV 65536 (some l)))) = some r := hr'
      rw [hcv] at hr2
      split at hr2
      · cases hr2
      · next hlt =>
        obtain ⟨g1, g2, g3⟩ := ho e3 (by omega) (by omega) (by omega)
        refine ⟨?_, ?_, g3⟩
        · show v = if l1.length < cntV 65536 (some l) then [] else l1.take (cntV 65536 (some l))
          rw [hcv, if_neg hlt]; exact g1
        · rw [g2]; exact Option.some.inj hr2

set_option maxHeartbeats 1000000 in
theorem bytes_i {D : Nat} (p : Nat) (l : List UInt8) (bad : Bool) (w : World) (h : RI D w p l bad) : Calls Tryz.prog 83 #[.pointer (some ⟨p, 0, none⟩)] w fun e w' => BytO D w p l bad e w' := by
  have HPW := hidI h.1
  go_enter Tryz.func83, Tryz.ntmps83
  go_wp2_with fail
  refine (num_i p l bad w h).mono ?_
  rintro e w1 ⟨m, rfl, hm, l1, b1, rd1, ri1, rs1⟩
  have HT := hidI (ri1.toBad true)
  have HR := hidI ri1
  have RD := hidI rd1
  have RR := hidI rs1
  obtain ⟨h1, hD, f0, f1, c1, a, cap, c0, hcap, hbs, hne⟩ := ri1
  have hll := hbs.1
  have HBS := hidI hbs
  clear hbs hne rd1 rs1
  by_cases hlo : m < 0
  · go_wp2
    go_ret
    exact ⟨none, 0, [], rfl, Nat.le_refl _, ⟨⟨by simp, fun h => absurd rfl h⟩, fun h => absurd rfl h⟩, l1, true, Rb_of RD.out (by simp) (fun _ h => by omega), HT.out.1, RR.out.trans HT.out.2⟩
  · by_cases hhi : 65536 < m
    · go_wp2
      go_ret
      exact ⟨none, 0, [], rfl, Nat.le_refl _, ⟨⟨by simp, fun h => absurd rfl h⟩, fun h => absurd rfl h⟩, l1, true, Rb_of RD.out (by simp) (fun _ _ h => by omega), HT.out.1, RR.out.trans HT.out.2⟩
    · by_cases hle : (l1.length : Int) < m
      · go_wp2
        go_ret
        exact ⟨none, 0, [], rfl, Nat.le_refl _, ⟨⟨by simp, fun h => absurd rfl h⟩, fun h => absurd rfl h⟩, l1, true, Rb_of RD.out (by simp) (fun _ _ _ h => by omega), HT.out.1, RR.out.trans HT.out.2⟩
      · obtain ⟨n, hn⟩ : ∃ n : Nat, m = (n : Int) := ⟨m.toNat, by omega⟩
        subst hn
        have hsl := slice_h33 a l1.length cap n (by omega)
        have HNT : Hid ((l1.take n).length = n) := by show _ = _; rw [List.length_take]; omega
        have HSRC0 := (HBS.out.firstAny n).src (P := Tryz.prog) Tryz.underlying22 cap
        rw [HNT.out] at HSRC0
        have HSRC : Hid (Src Tryz.prog 1 22 (.slice a n cap) (l1.take n).length (vals (l1.take n)) w1) := by show Src _ _ _ _ _ _ _; rw [HNT.out]; exact HSRC0
        clear HSRC0
        go_upto_region 6 with fail
        go_wp2_with (at_builtin; refine wpList_append_b _ rfl (.tmp 25) (.tmp 31) rfl (.slice none 0 0) [] rfl (.inl ⟨rfl, rfl⟩) (.slice a n cap) (l1.take n) rfl HSRC.out ?len ?next)
        case len => rw [HNT.out]; simp; omega
        case next =>
          intro v2 w2 o2 s2
          have B2 : Below w1.heap.size w1 w2 := s2.belowN
          have r2 := HR.out.ext B2 h1 hD
          have e0 : w2.cell? ⟨p, 0, none⟩ = some (.slice a l1.length cap) := (B2.cell (p := ⟨p, 0, none⟩) h1).trans c0
          have k0 := r2.2.2.1
          have hp2 := r2.1
          obtain ⟨a3, HA3, hsl3⟩ : ∃ a3, Hid (a3 = if cap = n then a else a.map (·.add n)) ∧ ∀ w, (Instr.slice 22 (.slice a l1.length cap) (some (.int .i64 (n : Int))) none none).run Tryz.prog w = .ok (.slice a3 (l1.length - n) (cap - n)) w :=
            ⟨_, rfl, sliceAny_lo a l1.length cap n _ rfl (by omega)⟩
          have HX := hidI (r2.next e0 (u := n) (by omega) (.slice a3 (l1.length - n) (cap - n)) (by rw [HA3.out]))
          have s12 : RS w w2 p := RR.out.ext (B2.mono RR.out.size)
          obtain ⟨a2, c2, hv2, hbsn⟩ := o2.form
          subst hv2
          have BYT : Hid ((l1.take n).length ≤ c2 ∧ RepB w2 (NB w w2) a2 (l1.take n)) := by
            refine ⟨o2.cap, hbsn (by rw [HNT.out]; omega), fun hne x hx => ?_⟩
            have hob : (Value.slice a2 (l1.take n).length c2).ownBlock = some x.block := by rw [hx]; rfl
            refine ⟨?_, o2.lt _ hob, o2.uf _ hob⟩
            rcases s2.row with e | ⟨q, e, hq⟩
            · rw [hob] at e; cases e
            · rw [hob] at e; cases e; exact Nat.le_trans RR.out.size hq
          have HRS := hidI s12
          clear r2 o2 s2 hsl hbsn s12 B2
          rw [HNT.out]
          go_wp2
          go_ret
          refine ⟨a2, c2, l1.take n, by rw [HNT.out]; rfl, BYT.out.1, ?_, l1.drop n, b1, Rb_of RD.out (by rw [HNT.out]; omega) (fun hb _ _ _ => ⟨rfl, rfl, hb⟩), HX.out.1, HRS.out.trans HX.out.2⟩
          exact BYT.out.2.keptN (by simp) (fun b h1 h2 => Below.heap_setCell w2 ⟨p, 0, none⟩ _ b (by have := HPW.out; show b ≠ p; omega)) (Nat.le_refl _)

/- lists, element by element -/
def RdN (f : Fm) (k : Nat) (l : List UInt8) (bad : Bool) (vs : List (Vl f)) (l' : List UInt8) (bad' : Bool) : Prop :=
  vs.length = k ∧ (∀ v ∈ vs, (en f v).2 = false) ∧ (bad = false → ∀ r, (deN (de f) k (some l)).2 = some r → vs = (deN (de f) k (some l)).1 ∧ l' = r ∧ bad' = false)
theorem RdN.zero (f : Fm) (l : List UInt8) (bad : Bool) : RdN f 0 l bad [] l bad := by
  refine ⟨rfl, fun v hv => (by cases hv), fun hb r hr => ?_⟩
  have : some l = some r := hr
  exact ⟨rfl, Option.some.inj this, hb⟩
theorem RdN.more {f : Fm} {k : Nat} {l l1 l2 : List UInt8} {bad b1 b2 : Bool} {vs : List (Vl f)} {x : Vl f} (h : RdN f k l bad vs l1 b1) (hx : Rd f l1 b1 x l2 b2) : RdN f (k + 1) l bad (vs ++ [x]) l2 b2 := by
  refine ⟨by rw [List.length_append, h.1]; rfl, fun v hv => ?_, fun hb r hr => ?_⟩
  · rcases List.mem_append.1 hv with q | q
    · exact h.2.1 v q
    · simp at q; subst q; exact hx.1
  · have hr' : (de f (deN (de f) k (some l)).2).2 = some r := hr
    cases hs : (deN (de f) k (some l)).2 with
    | none => rw [hs, de_none] at hr'; cases hr'
    | some r1 =>
      obtain ⟨e1, e2, e3⟩ := h.2.2 hb r1 hs
      rw [hs] at hr'
      subst e2
      obtain ⟨g1, g2, g3⟩ := hx.2 e3 r hr'
      refine ⟨?_, g2, g3⟩
      show vs ++ [x] = (deN (de f) k (some l)).1 ++ [(de f (deN (de f) k (some l)).2).1]
      rw [hs, ← e1, ← g1]
theorem RdN.lst {f : Fm} {n : Nat} {l l1 l2 : List UInt8} {bad b1 b2 : Bool} {vs : List (Vl f)} (hn : n ≤ 64) (hc : bad = false → ∀ r, cntS 64 (some l) = some r → n = cntV 64 (some l) ∧ l1 = r ∧ b1 = false) (h : RdN f n l1 b1 vs l2 b2) : Rd (.lst f) l bad vs l2 b2 := by
  have hl : vs.length ≤ 64 := by rw [h.1]; exact hn
  refine ⟨?_, fun hb r hr => ?_⟩
  · show (if vs.length ≤ 64 then (enc (vs.length : Int) ++ vs.flatMap fun v => (en f v).1, vs.any fun v => (en f v).2) else ([], true)).2 = false
    rw [if_pos hl]
    show (vs.any fun v => (en f v).2) = false
    rw [List.any_eq_false]
    intro v hv
    rw [h.2.1 v hv]
    decide
  · show vs = (de (.lst f) (some l)).1 ∧ l2 = r ∧ b2 = false
    rw [de] at hr ⊢
    split at hr
    · cases hr
    · next hq =>
      rw [if_neg hq]
      cases hs : cntS 64 (some l) with
      | none =>
        exfalso
        apply hq
        rw [hs]
        have := deN_none (de f) (de_none f) 0 (cntV 64 (some l)) none rfl
        rwa [Nat.zero_add] at this
      | some q =>
        obtain ⟨e1, e2, e3⟩ := hc hb q hs
        rw [hs] at hr
        subst e2
        rw [← e1] at hr ⊢
        exact h.2.2 e3 r hr

end Go.Proofs.YtpbokgeaolpiaabGreat

/- The document's reader: numbers, lists and records. Made by program (wip/gen/inr.py). -/
namespace Go.Proofs.YtpbokgeaolpiaabGreat
open Go.RowKit

def RecO (D : Nat) (w : World) (p : Nat) (f : Fm) (l : List UInt8) (bad : Bool) (e : Ending) (w' : World) : Prop := ∃ (cs : List Value) (v : Vl f), e = .returned (.agg cs.toArray) ∧ Rep w' (NB w w') f cs v ∧ OutI D w p f l bad v w'
def LstO (D : Nat) (w : World) (p : Nat) (f : Fm) (l : List UInt8) (bad : Bool) (e : Ending) (w' : World) : Prop := ∃ (a : Option Addr) (c : Nat) (vs : List (Vl f)), e = .returned (.slice a vs.length c) ∧ RepL w' (NB w w') f a vs ∧ OutI D w p (.lst f) l bad vs w'
/- a part that writes to the blocks p and q alone -/
structure RQ (w w' : World) (p q : Nat) : Prop where
  os : w'.os = w.os
  tape : w'.tape = w.tape
  output : w'.output = w.output
  size : w.heap.size ≤ w'.heap.size
  block : ∀ k, k < w.heap.size → k ≠ p → k ≠ q → w'.heap[k]? = w.heap[k]?
theorem RS.rq {w w' : World} {p q : Nat} (h : RS w w' p) : RQ w w' p q := ⟨h.os, h.tape, h.output, h.size, fun k a b _ => h.block k a b⟩
theorem RQ.rs {w w' : World} {p : Nat} (h : RQ w w' p p) : RS w w' p := ⟨h.os, h.tape, h.output, h.size, fun k a b => h.block k a b b⟩
theorem RQ.trans {a b c : World} {p q : Nat} (h : RQ a b p q) (k : RQ b c p q) : RQ a c p q := ⟨k.os.trans h.os, k.tape.trans h.tape, k.output.trans h.output, Nat.le_trans h.size k.size, fun i h1 h2 h3 => (k.block i (Nat.lt_of_lt_of_le h1 h.size) h2 h3).trans (h.block i h1 h2 h3)⟩
/- where a loop stands: k elements were read -/
def LoopJ (D : Nat) (w : World) (p q : Nat) (f : Fm) (E size k : Nat) (l1 : List UInt8) (b1 : Bool) (v : Value) (wr : World) : Prop :=
  ∃ (xs : List Value) (vs : List (Vl f)) (lk : List UInt8) (bk : Bool), wr.ownsRow w.heap.size E size v k xs ∧ RQ w wr p q ∧ RI D wr p lk bk ∧ RdN f k l1 b1 vs lk bk ∧ Elems w wr f v xs vs

set_option maxHeartbeats 1000000 in
set_option maxRecDepth 100000 in
theorem res_i {D : Nat} (p : Nat) (l : List UInt8) (bad : Bool) (w : World) (h : RI D w p l bad) : Calls Tryz.prog 123 #[.pointer (some ⟨p, 0, none⟩)] w fun e w' => RecO D w p F_res l bad e w' := by
  have hB0 : Below w.heap.size w (w.alloc (.cells #[.int .i64 0, .int .i64 0] 27)) := (Below.refl _ _).alloc (Nat.le_refl _) _
  have h0 : RI D (w.alloc (.cells #[.int .i64 0, .int .i64 0] 27)) p l bad := h.ext hB0 h.1 h.2.1
  have s0 : RS w (w.alloc (.cells #[.int .i64 0, .int .i64 0] 27)) p := (RS.refl _ _).alloc _
  have g0 : Hid ((w.alloc (.cells #[.int .i64 0, .int .i64 0] 27)).heap[w.heap.size]? = some (.cells #[.int .i64 0, .int .i64 0] 27 (0, 0))) := heap_alloc_new w _
  have z0 : w.heap.size < (w.alloc (.cells #[.int .i64 0, .int .i64 0] 27)).heap.size := by rw [World.size_alloc]; omega
  have hpq : Hid (p ≠ w.heap.size) := by have := h.1; show p ≠ _; omega
  have hDq : Hid (p < w.heap.size ∧ D ≤ w.heap.size) := ⟨h.1, h.2.1⟩
  clear h hB0
  go_enter Tryz.func123, Tryz.ntmps123
  go_wp2_with fail
  refine (num_i p _ _ _ h0).mono ?_
  rintro e w1 ⟨m0, rfl, _, l1, b1, rd1, h1, t1⟩
  have RD1 := hidI rd1
  clear rd1
  have s1 := s0.trans t1
  have g1 : Hid (w1.heap[w.heap.size]? = some (.cells #[.int .i64 0, .int .i64 0] 27 (0, 0))) := (t1.block _ z0 hpq.out.symm).trans g0.out
  have z1 : w.heap.size < w1.heap.size := Nat.lt_of_lt_of_le z0 t1.size
  clear h0 t1 s0 g0 z0
  go_wp2_with fail
  refine (num_i p _ _ _ h1).mono ?_
  rintro e w2 ⟨m1, rfl, _, l2, b2, rd2, h2, t2⟩
  have RD2 := hidI rd2
  clear rd2
  have s2 := s1.trans t2
  have g2 : Hid (w2.heap[w.heap.size]? = some (.cells #[.int .i64 0, .int .i64 0] 27 (0, 0))) := (t2.block _ z1 hpq.out.symm).trans g1.out
  have z2 : w.heap.size < w2.heap.size := Nat.lt_of_lt_of_le z1 t2.size
  clear h1 t2 s1 g1 z1
  have I0 : Hid ((Tryz.prog.info? 27).map (·.size) = some (#[.int .i64 m0, .int .i64 m1] : Array Value).size) := by show _ = _; kernel_rfl
  have REP : Hid (Rep w2 (NBr (w.heap.size + 1) w2) F_res [.int .i64 m0, .int .i64 m1] (m0, m1)) := by
    exact mk_res m0 m1
  have O0 : Hid ((#[.int .i64 m0, .int .i64 m1] : Array Value).all (·.oneCell') = true) := REP.out.all
  have RDA : Hid (Rd F_res l bad (m0, m1) l2 b2) := (Rd.cat RD1.out RD2.out)
  go_wp2_with (refine wpList_store_row rfl 27 (.tmp 2) (.tmp 7) rfl w.heap.size #[.int .i64 m0, .int .i64 m1] rfl rfl 27 #[.int .i64 0, .int .i64 0] g2.out I0.out rfl O0.out ?_)
  refine bodyPost_ret (v := .agg #[.int .i64 m0, .int .i64 m1]) ?_ rfl ⟨[.int .i64 m0, .int .i64 m1], _, rfl, ?_, l2, b2, RDA.out, ?_, ?_⟩
  · refine results_cell_row Tryz.results123 _ _ w.heap.size 27 _ (0, 0) _ ?_ (setRow_heap w2 w.heap.size _ _ 27 _ g2.out) Tryz.underlying27 rfl I0.out
    rfl
  · exact REP.out.keptN (by simp [World.setRow]) (fun b h1 h2 => setRow_other _ _ _ _ (by omega)) (Nat.le_succ _)
  · exact h2.ext ⟨rfl, rfl, rfl, by simp [World.setRow], fun k hk => setRow_other _ _ _ _ (by omega)⟩ hDq.out.1 hDq.out.2
  · exact s2.setRow (Nat.le_refl _) _


set_option maxHeartbeats 800000 in
set_option maxRecDepth 100000 in
theorem nums_i {D : Nat} (p : Nat) (l : List UInt8) (bad : Bool) (w : World) (h : RI D w p l bad) : Calls Tryz.prog 124 #[.pointer (some ⟨p, 0, none⟩)] w fun e w' => LstO D w p .num l bad e w' := by
  obtain ⟨i0, hi, hz0, hz1, hz2⟩ := info_parts listInt_vi
  have hp0 := h.1
  have hD0 := h.2.1
  go_enter Tryz.func124, Tryz.ntmps124
  go_wp2_with fail
  refine (count_i p l bad w h).mono ?_
  rintro e w1 ⟨N, l1, b1, rfl, hN, hcn, r1, s1⟩
  have HC := hidI hcn
  clear hcn
  go_wp2
  go_loopw [4, 5] (fun v i wr => ∃ k : Nat, k ≤ N ∧ i = .int .i64 k ∧ LoopJ D w p p .num 3 1 k l1 b1 v wr) (fun _ i _ => N - (intOf i).toNat)
  case atStart => exact ⟨0, Nat.zero_le _, rfl, [], [], l1, b1, World.ownsRow_nil _ _ _ _, s1.rq, r1, RdN.zero _ _ _, Elems.nil _ _ _ _⟩
  case round =>
    obtain ⟨k, hk, rfl, xs, vs, lk, bk, ok, sk, rk, rdk, hel⟩ := hrel
    have RDK := hidI rdk
    have HEL := hidI hel
    clear rdk hel
    by_cases hlt : k < N
    · go_wp2_with fail
      refine (num_i p _ _ wr rk).mono ?_
      rintro e w2 ⟨m, rfl, _, l2, b2, rd2, r2, t2⟩
      have hx : Rep w2 (NB wr w2) .num [.int .i64 m] m := rfl
      have sk2 : RS w w2 p := sk.rs.trans t2
      have ok2 := ownsRow_rs ok t2 hp0
      have HEL2 := hidI (HEL.out.rs t2 hp0)
      have HVL : Hid (∀ q, u4.ownBlock = some q → q < wr.heap.size) := fun q hq => (ok.lt q hq).2
      have HWR : Hid (w.heap.size ≤ wr.heap.size) := sk.size
      have HX := hidI hx
      have O1 : Hid (∀ u ∈ (#[.int .i64 m] : Array Value).toList, u.oneCell' = true) := hx.one
      have HB2 : Hid (Below w2.heap.size w2 (w2.alloc (.cells #[.int .i64 m] 3))) := (Below.refl _ _).alloc (Nat.le_refl _) _
      have HRD := hidI (RDK.out.more rd2)
      clear t2 rk ok sk hx rd2
      go_wp2_with (at_builtin; refine wpList_append_own2 _ rfl (.tmp 13) (.tmp 16) 31 rfl w.heap.size 3 i0 (.int .i64 0) 1 8 Tryz.underlying31 hi hz0 hz1 hz2 rfl (by decide) _ _ _ rfl (ok2.alloc _) ⟨w2.heap.size, 0, none⟩ 1 1 (#[.int .i64 m] : Array Value).toList rfl rfl (fun j u hj => cell_news w2 _ _ j u hj) O1.out ?c3 ?c4 ?c5 ?next)
      case c3 => unfold maxLen; omega
      case c4 => omega
      case c5 => have := sk2.size; rw [World.size_alloc]; omega
      case next =>
        intro v3 w3 ho3 hg3 hw3
        have HEL3 := hidI (HEL2.out.more HX.out HWR.out HVL.out HB2.out hg3 (by rw [World.size_alloc]; exact hw3))
        have hB3 : Below w.heap.size w2 w3 := ((Below.refl _ _).alloc sk2.size _).grown hg3 (by have := sk2.size; rw [World.size_alloc]; omega) (fun j hj => (ok2.lt j hj).1)
        have r3 := r2.ext hB3 hp0 hD0
        have s3 : RQ w w3 p p := (sk2.ext hB3).rq
        have LJ := hidI (show LoopJ D w p p .num 3 1 (k + 1) l1 b1 v3 w3 from ⟨_, _, _, _, ho3, s3, r3, HRD.out, HEL3.out⟩)
        clear hg3 r2 sk2 ok2 hB3 hw3 ho3 r3 s3 HEL3
        go_wp2
        exact ⟨⟨k + 1, by omega, by go_num, LJ.out⟩, by simp [intOf]; omega⟩
    · have hkN : k = N := by omega
      subst hkN
      have hvl := RDK.out.1
      obtain ⟨va, vc, hv, hrl⟩ : ∃ va vc, u4 = Value.slice va k vc ∧ RepL wr (NB w wr) .num va vs := by
        have := Elems.done (e := 3) HEL.out (by rw [hvl]; exact ok) (by rw [hvl]; omega)
        rwa [hvl] at this
      subst hv
      have FIN : Hid (LstO D w p .num l bad (.returned (.slice va k vc)) wr) := ⟨va, vc, vs, by rw [hvl], hrl, lk, bk, RdN.lst hN HC.out RDK.out, rk, sk.rs⟩
      clear rk ok hrl hvl
      go_wp2
      go_ret
      exact FIN.out


set_option maxHeartbeats 1000000 in
set_option maxRecDepth 100000 in
theorem conf_i {D : Nat} (p : Nat) (l : List UInt8) (bad : Bool) (w : World) (h : RI D w p l bad) : Calls Tryz.prog 62 #[.pointer (some ⟨p, 0, none⟩)] w fun e w' => RecO D w p F_conf l bad e w' := by
  have hB0 : Below w.heap.size w (w.alloc (.cells #[.slice none 0 0, .slice none 0 0] 36)) := (Below.refl _ _).alloc (Nat.le_refl _) _
  have h0 : RI D (w.alloc (.cells #[.slice none 0 0, .slice none 0 0] 36)) p l bad := h.ext hB0 h.1 h.2.1
  have s0 : RS w (w.alloc (.cells #[.slice none 0 0, .slice none 0 0] 36)) p := (RS.refl _ _).alloc _
  have g0 : Hid ((w.alloc (.cells #[.slice none 0 0, .slice none 0 0] 36)).heap[w.heap.size]? = some (.cells #[.slice none 0 0, .slice none 0 0] 36 (0, 0))) := heap_alloc_new w _
  have z0 : w.heap.size < (w.alloc (.cells #[.slice none 0 0, .slice none 0 0] 36)).heap.size := by rw [World.size_alloc]; omega
  have hpq : Hid (p ≠ w.heap.size) := by have := h.1; show p ≠ _; omega
  have hDq : Hid (p < w.heap.size ∧ D ≤ w.heap.size) := ⟨h.1, h.2.1⟩
  clear h hB0
  go_enter Tryz.func62, Tryz.ntmps62
  go_wp2_with fail
  refine (nums_i p _ _ _ h0).mono ?_
  rintro e w1 ⟨a0, c0, v0, rfl, q0, l1, b1, rd1, h1, t1⟩
  have RD1 := hidI rd1
  clear rd1
  have Q0 := hidI (q0.keptN (lo' := w.heap.size + 1) (Nat.le_refl _) (fun _ _ _ => rfl) z0)
  clear q0
  have s1 := s0.trans t1
  have g1 : Hid (w1.heap[w.heap.size]? = some (.cells #[.slice none 0 0, .slice none 0 0] 36 (0, 0))) := (t1.block _ z0 hpq.out.symm).trans g0.out
  have z1 : w.heap.size < w1.heap.size := Nat.lt_of_lt_of_le z0 t1.size
  clear h0 t1 s0 g0 z0
  go_wp2_with fail
  refine (nums_i p _ _ _ h1).mono ?_
  rintro e w2 ⟨a1, c1, v1, rfl, q1, l2, b2, rd2, h2, t2⟩
  have RD2 := hidI rd2
  clear rd2
  replace Q0 := hidI (Q0.out.keptN (lo' := w.heap.size + 1) t2.size (fun b h1 h2 => t2.block b h2 (by have := hDq.out.1; omega)) (Nat.le_refl _))
  have Q1 := hidI (q1.keptN (lo' := w.heap.size + 1) (Nat.le_refl _) (fun _ _ _ => rfl) z1)
  clear q1
  have s2 := s1.trans t2
  have g2 : Hid (w2.heap[w.heap.size]? = some (.cells #[.slice none 0 0, .slice none 0 0] 36 (0, 0))) := (t2.block _ z1 hpq.out.symm).trans g1.out
  have z2 : w.heap.size < w2.heap.size := Nat.lt_of_lt_of_le z1 t2.size
  clear h1 t2 s1 g1 z1
  have I0 : Hid ((Tryz.prog.info? 36).map (·.size) = some (#[.slice a0 v0.length c0, .slice a1 v1.length c1] : Array Value).size) := by show _ = _; kernel_rfl
  have REP : Hid (Rep w2 (NBr (w.heap.size + 1) w2) F_conf [.slice a0 v0.length c0, .slice a1 v1.length c1] (v0, v1)) := by
    exact mk_conf a0 c0 v0 a1 c1 v1 Q0.out Q1.out
  have O0 : Hid ((#[.slice a0 v0.length c0, .slice a1 v1.length c1] : Array Value).all (·.oneCell') = true) := REP.out.all
  have RDA : Hid (Rd F_conf l bad (v0, v1) l2 b2) := (Rd.cat RD1.out RD2.out)
  go_wp2_with (refine wpList_store_row rfl 36 (.tmp 2) (.tmp 7) rfl w.heap.size #[.slice a0 v0.length c0, .slice a1 v1.length c1] rfl rfl 36 #[.slice none 0 0, .slice none 0 0] g2.out I0.out rfl O0.out ?_)
  refine bodyPost_ret (v := .agg #[.slice a0 v0.length c0, .slice a1 v1.length c1]) ?_ rfl ⟨[.slice a0 v0.length c0, .slice a1 v1.length c1], _, rfl, ?_, l2, b2, RDA.out, ?_, ?_⟩
  · refine results_cell_row Tryz.results62 _ _ w.heap.size 36 _ (0, 0) _ ?_ (setRow_heap w2 w.heap.size _ _ 36 _ g2.out) Tryz.underlying36 rfl I0.out
    rfl
  · exact REP.out.keptN (by simp [World.setRow]) (fun b h1 h2 => setRow_other _ _ _ _ (by omega)) (Nat.le_succ _)
  · exact h2.ext ⟨rfl, rfl, rfl, by simp [World.setRow], fun k hk => setRow_other _ _ _ _ (by omega)⟩ hDq.out.1 hDq.out.2
  · exact s2.setRow (Nat.le_refl _) _


set_option maxHeartbeats 1000000 in
set_option maxRecDepth 100000 in
theorem alloc_i {D : Nat} (p : Nat) (l : List UInt8) (bad : Bool) (w : World) (h : RI D w p l bad) : Calls Tryz.prog 141 #[.pointer (some ⟨p, 0, none⟩)] w fun e w' => RecO D w p F_alloc l bad e w' := by
  have hB0 : Below w.heap.size w (w.alloc (.cells #[.int .i64 0, .int .i64 0, .int .i64 0, .int .i64 0, .int .i64 0, .int .i64 0, .int .i64 0, .int .i64 0, .int .i64 0, .bool false, .int .i64 0] 136)) := (Below.refl _ _).alloc (Nat.le_refl _) _
  have h0 : RI D (w.alloc (.cells #[.int .i64 0, .int .i64 0, .int .i64 0, .int .i64 0, .int .i64 0, .int .i64 0, .int .i64 0, .int .i64 0, .int .i64 0, .bool false, .int .i64 0] 136)) p l bad := h.ext hB0 h.1 h.2.1
  have s0 : RS w (w.alloc (.cells #[.int .i64 0, .int .i64 0, .int .i64 0, .int .i64 0, .int .i64 0, .int .i64 0, .int .i64 0, .int .i64 0, .int .i64 0, .bool false, .int .i64 0] 136)) p := (RS.refl _ _).alloc _
  have g0 : Hid ((w.alloc (.cells #[.int .i64 0, .int .i64 0, .int .i64 0, .int .i64 0, .int .i64 0, .int .i64 0, .int .i64 0, .int .i64 0, .int .i64 0, .bool false, .int .i64 0] 136)).heap[w.heap.size]? = some (.cells #[.int .i64 0, .int .i64 0, .int .i64 0, .int .i64 0, .int .i64 0, .int .i64 0, .int .i64 0, .int .i64 0, .int .i64 0, .bool false, .int .i64 0] 136 (0, 0))) := heap_alloc_new w _
  have z0 : w.heap.size < (w.alloc (.cells #[.int .i64 0, .int .i64 0, .int .i64 0, .int .i64 0, .int .i64 0, .int .i64 0, .int .i64 0, .int .i64 0, .int .i64 0, .bool false, .int .i64 0] 136)).heap.size := by rw [World.size_alloc]; omega
  have hpq : Hid (p ≠ w.heap.size) := by have := h.1; show p ≠ _; omega
  have hDq : Hid (p < w.heap.size ∧ D ≤ w.heap.size) := ⟨h.1, h.2.1⟩
  clear h hB0
  go_enter Tryz.func141, Tryz.ntmps141
  go_wp2_with fail
  refine (num_i p _ _ _ h0).mono ?_
  rintro e w1 ⟨m0, rfl, _, l1, b1, rd1, h1, t1⟩
  have RD1 := hidI rd1
  clear rd1
  have s1 := s0.trans t1
  have g1 : Hid (w1.heap[w.heap.size]? = some (.cells #[.int .i64 0, .int .i64 0, .int .i64 0, .int .i64 0, .int .i64 0, .int .i64 0, .int .i64 0, .int .i64 0, .int .i64 0, .bool false, .int .i64 0] 136 (0, 0))) := (t1.block _ z0 hpq.out.symm).trans g0.out
  have z1 : w.heap.size < w1.heap.size := Nat.lt_of_lt_of_le z0 t1.size
  clear h0 t1 s0 g0 z0
  go_wp2_with fail
  refine (num_i p _ _ _ h1).mono ?_
  rintro e w2 ⟨m1, rfl, _, l2, b2, rd2, h2, t2⟩
  have RD2 := hidI rd2
  clear rd2
  have s2 := s1.trans t2
  have g2 : Hid (w2.heap[w.heap.size]? = some (.cells #[.int .i64 0, .int .i64 0, .int .i64 0, .int .i64 0, .int .i64 0, .int .i64 0, .int .i64 0, .int .i64 0, .int .i64 0, .bool false, .int .i64 0] 136 (0, 0))) := (t2.block _ z1 hpq.out.symm).trans g1.out
  have z2 : w.heap.size < w2.heap.size := Nat.lt_of_lt_of_le z1 t2.size
  clear h1 t2 s1 g1 z1
  go_wp2_with fail
  refine (num_i p _ _ _ h2).mono ?_
  rintro e w3 ⟨m2, rfl, _, l3, b3, rd3, h3, t3⟩
  have RD3 := hidI rd3
  clear rd3
  have s3 := s2.trans t3
  have g3 : Hid (w3.heap[w.heap.size]? = some (.cells #[.int .i64 0, .int .i64 0, .int .i64 0, .int .i64 0, .int .i64 0, .int .i64 0, .int .i64 0, .int .i64 0, .int .i64 0, .bool false, .int .i64 0] 136 (0, 0))) := (t3.block _ z2 hpq.out.symm).trans g2.out
  have z3 : w.heap.size < w3.heap.size := Nat.lt_of_lt_of_le z2 t3.size
  clear h2 t3 s2 g2 z2
  go_wp2_with fail
  refine (num_i p _ _ _ h3).mono ?_
  rintro e w4 ⟨m3, rfl, _, l4, b4, rd4, h4, t4⟩
  have RD4 := hidI rd4
  clear rd4
  have s4 := s3.trans t4
  have g4 : Hid (w4.heap[w.heap.size]? = some (.cells #[.int .i64 0, .int .i64 0, .int .i64 0, .int .i64 0, .int .i64 0, .int .i64 0, .int .i64 0, .int .i64 0, .int .i64 0, .bool false, .int .i64 0] 136 (0, 0))) := (t4.block _ z3 hpq.out.symm).trans g3.out
  have z4 : w.heap.size < w4.heap.size := Nat.lt_of_lt_of_le z3 t4.size
  clear h3 t4 s3 g3 z3
  go_wp2_with fail
  refine (num_i p _ _ _ h4).mono ?_
  rintro e w5 ⟨m4, rfl, _, l5, b5, rd5, h5, t5⟩
  have RD5 := hidI rd5
  clear rd5
  have s5 := s4.trans t5
  have g5 : Hid (w5.heap[w.heap.size]? = some (.cells #[.int .i64 0, .int .i64 0, .int .i64 0, .int .i64 0, .int .i64 0, .int .i64 0, .int .i64 0, .int .i64 0, .int .i64 0, .bool false, .int .i64 0] 136 (0, 0))) := (t5.block _ z4 hpq.out.symm).trans g4.out
  have z5 : w.heap.size < w5.heap.size := Nat.lt_of_lt_of_le z4 t5.size
  clear h4 t5 s4 g4 z4
  go_wp2_with fail
  refine (num_i p _ _ _ h5).mono ?_
  rintro e w6 ⟨m5, rfl, _, l6, b6, rd6, h6, t6⟩
  have RD6 := hidI rd6
  clear rd6
  have s6 := s5.trans t6
  have g6 : Hid (w6.heap[w.heap.size]? = some (.cells #[.int .i64 0, .int .i64 0, .int .i64 0, .int .i64 0, .int .i64 0, .int .i64 0, .int .i64 0, .int .i64 0, .int .i64 0, .bool false, .int .i64 0] 136 (0, 0))) := (t6.block _ z5 hpq.out.symm).trans g5.out
  have z6 : w.heap.size < w6.heap.size := Nat.lt_of_lt_of_le z5 t6.size
  clear h5 t6 s5 g5 z5
  go_wp2_with fail
  refine (num_i p _ _ _ h6).mono ?_
  rintro e w7 ⟨m6, rfl, _, l7, b7, rd7, h7, t7⟩
  have RD7 := hidI rd7
  clear rd7
  have s7 := s6.trans t7
  have g7 : Hid (w7.heap[w.heap.size]? = some (.cells #[.int .i64 0, .int .i64 0, .int .i64 0, .int .i64 0, .int .i64 0, .int .i64 0, .int .i64 0, .int .i64 0, .int .i64 0, .bool false, .int .i64 0] 136 (0, 0))) := (t7.block _ z6 hpq.out.symm).trans g6.out
  have z7 : w.heap.size < w7.heap.size := Nat.lt_of_lt_of_le z6 t7.size
  clear h6 t7 s6 g6 z6
  go_wp2_with fail
  refine (res_i p _ _ _ h7).mono ?_
  rintro e w8 ⟨cs7, v7, rfl, q7, l8, b8, rd8, h8, t8⟩
  have RD8 := hidI rd8
  clear rd8
  obtain ⟨y7_0, y7_1, rfl⟩ := list_len2 cs7 q7.len
  have Q7 := hidI (q7.keptN (lo' := w.heap.size + 1) (Nat.le_refl _) (fun _ _ _ => rfl) z7)
  clear q7
  have s8 := s7.trans t8
  have g8 : Hid (w8.heap[w.heap.size]? = some (.cells #[.int .i64 0, .int .i64 0, .int .i64 0, .int .i64 0, .int .i64 0, .int .i64 0, .int .i64 0, .int .i64 0, .int .i64 0, .bool false, .int .i64 0] 136 (0, 0))) := (t8.block _ z7 hpq.out.symm).trans g7.out
  have z8 : w.heap.size < w8.heap.size := Nat.lt_of_lt_of_le z7 t8.size
  clear h7 t8 s7 g7 z7
  go_wp2_with fail
  refine (flag_i p _ _ _ h8).mono ?_
  rintro e w9 ⟨m8, rfl, l9, b9, rd9, h9, t9⟩
  have RD9 := hidI rd9
  clear rd9
  replace Q7 := hidI (Q7.out.keptN (lo' := w.heap.size + 1) t9.size (fun b h1 h2 => t9.block b h2 (by have := hDq.out.1; omega)) (Nat.le_refl _))
  have s9 := s8.trans t9
  have g9 : Hid (w9.heap[w.heap.size]? = some (.cells #[.int .i64 0, .int .i64 0, .int .i64 0, .int .i64 0, .int .i64 0, .int .i64 0, .int .i64 0, .int .i64 0, .int .i64 0, .bool false, .int .i64 0] 136 (0, 0))) := (t9.block _ z8 hpq.out.symm).trans g8.out
  have z9 : w.heap.size < w9.heap.size := Nat.lt_of_lt_of_le z8 t9.size
  clear h8 t9 s8 g8 z8
  go_wp2_with fail
  refine (num_i p _ _ _ h9).mono ?_
  rintro e w10 ⟨m9, rfl, _, l10, b10, rd10, h10, t10⟩
  have RD10 := hidI rd10
  clear rd10
  replace Q7 := hidI (Q7.out.keptN (lo' := w.heap.size + 1) t10.size (fun b h1 h2 => t10.block b h2 (by have := hDq.out.1; omega)) (Nat.le_refl _))
  have s10 := s9.trans t10
  have g10 : Hid (w10.heap[w.heap.size]? = some (.cells #[.int .i64 0, .int .i64 0, .int .i64 0, .int .i64 0, .int .i64 0, .int .i64 0, .int .i64 0, .int .i64 0, .int .i64 0, .bool false, .int .i64 0] 136 (0, 0))) := (t10.block _ z9 hpq.out.symm).trans g9.out
  have z10 : w.heap.size < w10.heap.size := Nat.lt_of_lt_of_le z9 t10.size
  clear h9 t10 s9 g9 z9
  have I0 : Hid ((Tryz.prog.info? 136).map (·.size) = some (#[.int .i64 m0, .int .i64 m1, .int .i64 m2, .int .i64 m3, .int .i64 m4, .int .i64 m5, .int .i64 m6, y7_0, y7_1, .bool m8, .int .i64 m9] : Array Value).size) := by show _ = _; kernel_rfl
  have REP : Hid (Rep w10 (NBr (w.heap.size + 1) w10) F_alloc [.int .i64 m0, .int .i64 m1, .int .i64 m2, .int .i64 m3, .int .i64 m4, .int .i64 m5, .int .i64 m6, y7_0, y7_1, .bool m8, .int .i64 m9] (m0, m1, m2, m3, m4, m5, m6, v7, m8, m9)) := by
    exact mk_alloc m0 m1 m2 m3 m4 m5 m6 y7_0 y7_1 v7 m8 m9 Q7.out
  have O0 : Hid ((#[.int .i64 m0, .int .i64 m1, .int .i64 m2, .int .i64 m3, .int .i64 m4, .int .i64 m5, .int .i64 m6, y7_0, y7_1, .bool m8, .int .i64 m9] : Array Value).all (·.oneCell') = true) := REP.out.all
  have RDA : Hid (Rd F_alloc l bad (m0, m1, m2, m3, m4, m5, m6, v7, m8, m9) l10 b10) := (Rd.cat RD1.out (Rd.cat RD2.out (Rd.cat RD3.out (Rd.cat RD4.out (Rd.cat RD5.out (Rd.cat RD6.out (Rd.cat RD7.out (Rd.cat RD8.out (Rd.cat RD9.out RD10.out)))))))))
  go_wp2_with (refine wpList_store_row rfl 136 (.tmp 2) (.tmp 23) rfl w.heap.size #[.int .i64 m0, .int .i64 m1, .int .i64 m2, .int .i64 m3, .int .i64 m4, .int .i64 m5, .int .i64 m6, y7_0, y7_1, .bool m8, .int .i64 m9] rfl rfl 136 #[.int .i64 0, .int .i64 0, .int .i64 0, .int .i64 0, .int .i64 0, .int .i64 0, .int .i64 0, .int .i64 0, .int .i64 0, .bool false, .int .i64 0] g10.out I0.out rfl O0.out ?_)
  refine bodyPost_ret (v := .agg #[.int .i64 m0, .int .i64 m1, .int .i64 m2, .int .i64 m3, .int .i64 m4, .int .i64 m5, .int .i64 m6, y7_0, y7_1, .bool m8, .int .i64 m9]) ?_ rfl ⟨[.int .i64 m0, .int .i64 m1, .int .i64 m2, .int .i64 m3, .int .i64 m4, .int .i64 m5, .int .i64 m6, y7_0, y7_1, .bool m8, .int .i64 m9], _, rfl, ?_, l10, b10, RDA.out, ?_, ?_⟩
  · refine results_cell_row Tryz.results141 _ _ w.heap.size 136 _ (0, 0) _ ?_ (setRow_heap w10 w.heap.size _ _ 136 _ g10.out) Tryz.underlying136 rfl I0.out
    rfl
  · exact REP.out.keptN (by simp [World.setRow]) (fun b h1 h2 => setRow_other _ _ _ _ (by omega)) (Nat.le_succ _)
  · exact h10.ext ⟨rfl, rfl, rfl, by simp [World.setRow], fun k hk => setRow_other _ _ _ _ (by omega)⟩ hDq.out.1 hDq.out.2
  · exact s10.setRow (Nat.le_refl _) _


set_option maxHeartbeats 800000 in
set_option maxRecDepth 100000 in
theorem allocs_i {D : Nat} (p : Nat) (l : List UInt8) (bad : Bool) (w : World) (h : RI D w p l bad) : Calls Tryz.prog 102 #[.pointer (some ⟨p, 0, none⟩)] w fun e w' => LstO D w p F_alloc l bad e w' := by
  obtain ⟨i0, hi, hz0, hz1, hz2⟩ := info_parts listAlloc_vi
  have hp0 := h.1
  have hD0 := h.2.1
  go_enter Tryz.func102, Tryz.ntmps102
  go_wp2_with fail
  refine (count_i p l bad w h).mono ?_
  rintro e w1 ⟨N, l1, b1, rfl, hN, hcn, r1, s1⟩
  have HC := hidI hcn
  clear hcn
  go_wp2
  go_loopw [4, 5] (fun v i wr => ∃ k : Nat, k ≤ N ∧ i = .int .i64 k ∧ LoopJ D w p p F_alloc 136 11 k l1 b1 v wr) (fun _ i _ => N - (intOf i).toNat)
  case atStart => exact ⟨0, Nat.zero_le _, rfl, [], [], l1, b1, World.ownsRow_nil _ _ _ _, s1.rq, r1, RdN.zero _ _ _, Elems.nil _ _ _ _⟩
  case round =>
    obtain ⟨k, hk, rfl, xs, vs, lk, bk, ok, sk, rk, rdk, hel⟩ := hrel
    have RDK := hidI rdk
    have HEL := hidI hel
    clear rdk hel
    by_cases hlt : k < N
    · go_wp2_with fail
      refine (alloc_i p _ _ wr rk).mono ?_
      rintro e w2 ⟨es, m, rfl, hx, l2, b2, rd2, r2, t2⟩
      obtain ⟨y0, y1, y2, y3, y4, y5, y6, y7, y8, y9, y10, rfl⟩ := list_len11 es hx.len
      have sk2 : RS w w2 p := sk.rs.trans t2
      have ok2 := ownsRow_rs ok t2 hp0
      have HEL2 := hidI (HEL.out.rs t2 hp0)
      have HVL : Hid (∀ q, u4.ownBlock = some q → q < wr.heap.size) := fun q hq => (ok.lt q hq).2
      have HWR : Hid (w.heap.size ≤ wr.heap.size) := sk.size
      have HX := hidI hx
      have O1 : Hid (∀ u ∈ (#[y0, y1, y2, y3, y4, y5, y6, y7, y8, y9, y10] : Array Value).toList, u.oneCell' = true) := hx.one
      have HB2 : Hid (Below w2.heap.size w2 (w2.alloc (.cells #[y0, y1, y2, y3, y4, y5, y6, y7, y8, y9, y10] 136))) := (Below.refl _ _).alloc (Nat.le_refl _) _
      have HRD := hidI (RDK.out.more rd2)
      clear t2 rk ok sk hx rd2
      go_wp2_with (at_builtin; refine wpList_append_own2 _ rfl (.tmp 13) (.tmp 16) 32 rfl w.heap.size 136 i0 (.agg #[.int .i64 0, .int .i64 0, .int .i64 0, .int .i64 0, .int .i64 0, .int .i64 0, .int .i64 0, .int .i64 0, .int .i64 0, .bool false, .int .i64 0]) 11 88 Tryz.underlying32 hi hz0 hz1 hz2 rfl (by decide) _ _ _ rfl (ok2.alloc _) ⟨w2.heap.size, 0, none⟩ 1 1 (#[y0, y1, y2, y3, y4, y5, y6, y7, y8, y9, y10] : Array Value).toList rfl rfl (fun j u hj => cell_news w2 _ _ j u hj) O1.out ?c3 ?c4 ?c5 ?next)
      case c3 => unfold maxLen; omega
      case c4 => omega
      case c5 => have := sk2.size; rw [World.size_alloc]; omega
      case next =>
        intro v3 w3 ho3 hg3 hw3
        have HEL3 := hidI (HEL2.out.more HX.out HWR.out HVL.out HB2.out hg3 (by rw [World.size_alloc]; exact hw3))
        have hB3 : Below w.heap.size w2 w3 := ((Below.refl _ _).alloc sk2.size _).grown hg3 (by have := sk2.size; rw [World.size_alloc]; omega) (fun j hj => (ok2.lt j hj).1)
        have r3 := r2.ext hB3 hp0 hD0
        have s3 : RQ w w3 p p := (sk2.ext hB3).rq
        have LJ := hidI (show LoopJ D w p p F_alloc 136 11 (k + 1) l1 b1 v3 w3 from ⟨_, _, _, _, ho3, s3, r3, HRD.out, HEL3.out⟩)
        clear hg3 r2 sk2 ok2 hB3 hw3 ho3 r3 s3 HEL3
        go_wp2
        exact ⟨⟨k + 1, by omega, by go_num, LJ.out⟩, by simp [intOf]; omega⟩
    · have hkN : k = N := by omega
      subst hkN
      have hvl := RDK.out.1
      obtain ⟨va, vc, hv, hrl⟩ : ∃ va vc, u4 = Value.slice va k vc ∧ RepL wr (NB w wr) F_alloc va vs := by
        have := Elems.done (e := 136) HEL.out (by rw [hvl]; exact ok) (by rw [hvl]; omega)
        rwa [hvl] at this
      subst hv
      have FIN : Hid (LstO D w p F_alloc l bad (.returned (.slice va k vc)) wr) := ⟨va, vc, vs, by rw [hvl], hrl, lk, bk, RdN.lst hN HC.out RDK.out, rk, sk.rs⟩
      clear rk ok hrl hvl
      go_wp2
      go_ret
      exact FIN.out


set_option maxHeartbeats 1000000 in
set_option maxRecDepth 100000 in
theorem node_i {D : Nat} (p : Nat) (l : List UInt8) (bad : Bool) (w : World) (h : RI D w p l bad) : Calls Tryz.prog 59 #[.pointer (some ⟨p, 0, none⟩)] w fun e w' => RecO D w p F_node l bad e w' := by
  have hB0 : Below w.heap.size w (w.alloc (.cells #[.int .i64 0, .int .i64 0, .int .i64 0, .bool false, .bool false, .int .i64 0, .int .i64 0, .int .i64 0] 29)) := (Below.refl _ _).alloc (Nat.le_refl _) _
  have h0 : RI D (w.alloc (.cells #[.int .i64 0, .int .i64 0, .int .i64 0, .bool false, .bool false, .int .i64 0, .int .i64 0, .int .i64 0] 29)) p l bad := h.ext hB0 h.1 h.2.1
  have s0 : RS w (w.alloc (.cells #[.int .i64 0, .int .i64 0, .int .i64 0, .bool false, .bool false, .int .i64 0, .int .i64 0, .int .i64 0] 29)) p := (RS.refl _ _).alloc _
  have g0 : Hid ((w.alloc (.cells #[.int .i64 0, .int .i64 0, .int .i64 0, .bool false, .bool false, .int .i64 0, .int .i64 0, .int .i64 0] 29)).heap[w.heap.size]? = some (.cells #[.int .i64 0, .int .i64 0, .int .i64 0, .bool false, .bool false, .int .i64 0, .int .i64 0, .int .i64 0] 29 (0, 0))) := heap_alloc_new w _
  have z0 : w.heap.size < (w.alloc (.cells #[.int .i64 0, .int .i64 0, .int .i64 0, .bool false, .bool false, .int .i64 0, .int .i64 0, .int .i64 0] 29)).heap.size := by rw [World.size_alloc]; omega
  have hpq : Hid (p ≠ w.heap.size) := by have := h.1; show p ≠ _; omega
  have hDq : Hid (p < w.heap.size ∧ D ≤ w.heap.size) := ⟨h.1, h.2.1⟩
  clear h hB0
  go_enter Tryz.func59, Tryz.ntmps59
  go_wp2_with fail
  refine (num_i p _ _ _ h0).mono ?_
  rintro e w1 ⟨m0, rfl, _, l1, b1, rd1, h1, t1⟩
  have RD1 := hidI rd1
  clear rd1
  have s1 := s0.trans t1
  have g1 : Hid (w1.heap[w.heap.size]? = some (.cells #[.int .i64 0, .int .i64 0, .int .i64 0, .bool false, .bool false, .int .i64 0, .int .i64 0, .int .i64 0] 29 (0, 0))) := (t1.block _ z0 hpq.out.symm).trans g0.out
  have z1 : w.heap.size < w1.heap.size := Nat.lt_of_lt_of_le z0 t1.size
  clear h0 t1 s0 g0 z0
  go_wp2_with fail
  refine (res_i p _ _ _ h1).mono ?_
  rintro e w2 ⟨cs1, v1, rfl, q1, l2, b2, rd2, h2, t2⟩
  have RD2 := hidI rd2
  clear rd2
  obtain ⟨y1_0, y1_1, rfl⟩ := list_len2 cs1 q1.len
  have Q1 := hidI (q1.keptN (lo' := w.heap.size + 1) (Nat.le_refl _) (fun _ _ _ => rfl) z1)
  clear q1
  have s2 := s1.trans t2
  have g2 : Hid (w2.heap[w.heap.size]? = some (.cells #[.int .i64 0, .int .i64 0, .int .i64 0, .bool false, .bool false, .int .i64 0, .int .i64 0, .int .i64 0] 29 (0, 0))) := (t2.block _ z1 hpq.out.symm).trans g1.out
  have z2 : w.heap.size < w2.heap.size := Nat.lt_of_lt_of_le z1 t2.size
  clear h1 t2 s1 g1 z1
  go_wp2_with fail
  refine (flag_i p _ _ _ h2).mono ?_
  rintro e w3 ⟨m2, rfl, l3, b3, rd3, h3, t3⟩
  have RD3 := hidI rd3
  clear rd3
  replace Q1 := hidI (Q1.out.keptN (lo' := w.heap.size + 1) t3.size (fun b h1 h2 => t3.block b h2 (by have := hDq.out.1; omega)) (Nat.le_refl _))
  have s3 := s2.trans t3
  have g3 : Hid (w3.heap[w.heap.size]? = some (.cells #[.int .i64 0, .int .i64 0, .int .i64 0, .bool false, .bool false, .int .i64 0, .int .i64 0, .int .i64 0] 29 (0, 0))) := (t3.block _ z2 hpq.out.symm).trans g2.out
  have z3 : w.heap.size < w3.heap.size := Nat.lt_of_lt_of_le z2 t3.size
  clear h2 t3 s2 g2 z2
  go_wp2_with fail
  refine (flag_i p _ _ _ h3).mono ?_
  rintro e w4 ⟨m3, rfl, l4, b4, rd4, h4, t4⟩
  have RD4 := hidI rd4
  clear rd4
  replace Q1 := hidI (Q1.out.keptN (lo' := w.heap.size + 1) t4.size (fun b h1 h2 => t4.block b h2 (by have := hDq.out.1; omega)) (Nat.le_refl _))
  have s4 := s3.trans t4
  have g4 : Hid (w4.heap[w.heap.size]? = some (.cells #[.int .i64 0, .int .i64 0, .int .i64 0, .bool false, .bool false, .int .i64 0, .int .i64 0, .int .i64 0] 29 (0, 0))) := (t4.block _ z3 hpq.out.symm).trans g3.out
  have z4 : w.heap.size < w4.heap.size := Nat.lt_of_lt_of_le z3 t4.size
  clear h3 t4 s3 g3 z3
  go_wp2_with fail
  refine (num_i p _ _ _ h4).mono ?_
  rintro e w5 ⟨m4, rfl, _, l5, b5, rd5, h5, t5⟩
  have RD5 := hidI rd5
  clear rd5
  replace Q1 := hidI (Q1.out.keptN (lo' := w.heap.size + 1) t5.size (fun b h1 h2 => t5.block b h2 (by have := hDq.out.1; omega)) (Nat.le_refl _))
  have s5 := s4.trans t5
  have g5 : Hid (w5.heap[w.heap.size]? = some (.cells #[.int .i64 0, .int .i64 0, .int .i64 0, .bool false, .bool false, .int .i64 0, .int .i64 0, .int .i64 0] 29 (0, 0))) := (t5.block _ z4 hpq.out.symm).trans g4.out
  have z5 : w.heap.size < w5.heap.size := Nat.lt_of_lt_of_le z4 t5.size
  clear h4 t5 s4 g4 z4
  go_wp2_with fail
  refine (num_i p _ _ _ h5).mono ?_
  rintro e w6 ⟨m5, rfl, _, l6, b6, rd6, h6, t6⟩
  have RD6 := hidI rd6
  clear rd6
  replace Q1 := hidI (Q1.out.keptN (lo' := w.heap.size + 1) t6.size (fun b h1 h2 => t6.block b h2 (by have := hDq.out.1; omega)) (Nat.le_refl _))
  have s6 := s5.trans t6
  have g6 : Hid (w6.heap[w.heap.size]? = some (.cells #[.int .i64 0, .int .i64 0, .int .i64 0, .bool false, .bool false, .int .i64 0, .int .i64 0, .int .i64 0] 29 (0, 0))) := (t6.block _ z5 hpq.out.symm).trans g5.out
  have z6 : w.heap.size < w6.heap.size := Nat.lt_of_lt_of_le z5 t6.size
  clear h5 t6 s5 g5 z5
  go_wp2_with fail
  refine (num_i p _ _ _ h6).mono ?_
  rintro e w7 ⟨m6, rfl, _, l7, b7, rd7, h7, t7⟩
  have RD7 := hidI rd7
  clear rd7
  replace Q1 := hidI (Q1.out.keptN (lo' := w.heap.size + 1) t7.size (fun b h1 h2 => t7.block b h2 (by have := hDq.out.1; omega)) (Nat.le_refl _))
  have s7 := s6.trans t7
  have g7 : Hid (w7.heap[w.heap.size]? = some (.cells #[.int .i64 0, .int .i64 0, .int .i64 0, .bool false, .bool false, .int .i64 0, .int .i64 0, .int .i64 0] 29 (0, 0))) := (t7.block _ z6 hpq.out.symm).trans g6.out
  have z7 : w.heap.size < w7.heap.size := Nat.lt_of_lt_of_le z6 t7.size
  clear h6 t7 s6 g6 z6
  have I0 : Hid ((Tryz.prog.info? 29).map (·.size) = some (#[.int .i64 m0, y1_0, y1_1, .bool m2, .bool m3, .int .i64 m4, .int .i64 m5, .int .i64 m6] : Array Value).size) := by show _ = _; kernel_rfl
  have REP : Hid (Rep w7 (NBr (w.heap.size + 1) w7) F_node [.int .i64 m0, y1_0, y1_1, .bool m2, .bool m3, .int .i64 m4, .int .i64 m5, .int .i64 m6] (m0, v1, m2, m3, m4, m5, m6)) := by
    exact mk_node m0 y1_0 y1_1 v1 m2 m3 m4 m5 m6 Q1.out
  have O0 : Hid ((#[.int .i64 m0, y1_0, y1_1, .bool m2, .bool m3, .int .i64 m4, .int .i64 m5, .int .i64 m6] : Array Value).all (·.oneCell') = true) := REP.out.all
  have RDA : Hid (Rd F_node l bad (m0, v1, m2, m3, m4, m5, m6) l7 b7) := (Rd.cat RD1.out (Rd.cat RD2.out (Rd.cat RD3.out (Rd.cat RD4.out (Rd.cat RD5.out (Rd.cat RD6.out RD7.out))))))
  go_wp2_with (refine wpList_store_row rfl 29 (.tmp 2) (.tmp 17) rfl w.heap.size #[.int .i64 m0, y1_0, y1_1, .bool m2, .bool m3, .int .i64 m4, .int .i64 m5, .int .i64 m6] rfl rfl 29 #[.int .i64 0, .int .i64 0, .int .i64 0, .bool false, .bool false, .int .i64 0, .int .i64 0, .int .i64 0] g7.out I0.out rfl O0.out ?_)
  refine bodyPost_ret (v := .agg #[.int .i64 m0, y1_0, y1_1, .bool m2, .bool m3, .int .i64 m4, .int .i64 m5, .int .i64 m6]) ?_ rfl ⟨[.int .i64 m0, y1_0, y1_1, .bool m2, .bool m3, .int .i64 m4, .int .i64 m5, .int .i64 m6], _, rfl, ?_, l7, b7, RDA.out, ?_, ?_⟩
  · refine results_cell_row Tryz.results59 _ _ w.heap.size 29 _ (0, 0) _ ?_ (setRow_heap w7 w.heap.size _ _ 29 _ g7.out) Tryz.underlying29 rfl I0.out
    rfl
  · exact REP.out.keptN (by simp [World.setRow]) (fun b h1 h2 => setRow_other _ _ _ _ (by omega)) (Nat.le_succ _)
  · exact h7.ext ⟨rfl, rfl, rfl, by simp [World.setRow], fun k hk => setRow_other _ _ _ _ (by omega)⟩ hDq.out.1 hDq.out.2
  · exact s7.setRow (Nat.le_refl _) _


set_option maxHeartbeats 1000000 in
set_option maxRecDepth 100000 in
theorem result_i {D : Nat} (p : Nat) (l : List UInt8) (bad : Bool) (w : World) (h : RI D w p l bad) : Calls Tryz.prog 84 #[.pointer (some ⟨p, 0, none⟩)] w fun e w' => RecO D w p F_result l bad e w' := by
  have hB0 : Below w.heap.size w (w.alloc (.cells #[.int .i64 0, .int .i64 0, .slice none 0 0] 53)) := (Below.refl _ _).alloc (Nat.le_refl _) _
  have h0 : RI D (w.alloc (.cells #[.int .i64 0, .int .i64 0, .slice none 0 0] 53)) p l bad := h.ext hB0 h.1 h.2.1
  have s0 : RS w (w.alloc (.cells #[.int .i64 0, .int .i64 0, .slice none 0 0] 53)) p := (RS.refl _ _).alloc _
  have g0 : Hid ((w.alloc (.cells #[.int .i64 0, .int .i64 0, .slice none 0 0] 53)).heap[w.heap.size]? = some (.cells #[.int .i64 0, .int .i64 0, .slice none 0 0] 53 (0, 0))) := heap_alloc_new w _
  have z0 : w.heap.size < (w.alloc (.cells #[.int .i64 0, .int .i64 0, .slice none 0 0] 53)).heap.size := by rw [World.size_alloc]; omega
  have hpq : Hid (p ≠ w.heap.size) := by have := h.1; show p ≠ _; omega
  have hDq : Hid (p < w.heap.size ∧ D ≤ w.heap.size) := ⟨h.1, h.2.1⟩
  clear h hB0
  go_enter Tryz.func84, Tryz.ntmps84
  go_wp2_with fail
  refine (num_i p _ _ _ h0).mono ?_
  rintro e w1 ⟨m0, rfl, _, l1, b1, rd1, h1, t1⟩
  have RD1 := hidI rd1
  clear rd1
  have s1 := s0.trans t1
  have g1 : Hid (w1.heap[w.heap.size]? = some (.cells #[.int .i64 0, .int .i64 0, .slice none 0 0] 53 (0, 0))) := (t1.block _ z0 hpq.out.symm).trans g0.out
  have z1 : w.heap.size < w1.heap.size := Nat.lt_of_lt_of_le z0 t1.size
  clear h0 t1 s0 g0 z0
  go_wp2_with fail
  refine (num_i p _ _ _ h1).mono ?_
  rintro e w2 ⟨m1, rfl, _, l2, b2, rd2, h2, t2⟩
  have RD2 := hidI rd2
  clear rd2
  have s2 := s1.trans t2
  have g2 : Hid (w2.heap[w.heap.size]? = some (.cells #[.int .i64 0, .int .i64 0, .slice none 0 0] 53 (0, 0))) := (t2.block _ z1 hpq.out.symm).trans g1.out
  have z2 : w.heap.size < w2.heap.size := Nat.lt_of_lt_of_le z1 t2.size
  clear h1 t2 s1 g1 z1
  go_wp2_with fail
  refine (allocs_i p _ _ _ h2).mono ?_
  rintro e w3 ⟨a2, c2, v2, rfl, q2, l3, b3, rd3, h3, t3⟩
  have RD3 := hidI rd3
  clear rd3
  have Q2 := hidI (q2.keptN (lo' := w.heap.size + 1) (Nat.le_refl _) (fun _ _ _ => rfl) z2)
  clear q2
  have s3 := s2.trans t3
  have g3 : Hid (w3.heap[w.heap.size]? = some (.cells #[.int .i64 0, .int .i64 0, .slice none 0 0] 53 (0, 0))) := (t3.block _ z2 hpq.out.symm).trans g2.out
  have z3 : w.heap.size < w3.heap.size := Nat.lt_of_lt_of_le z2 t3.size
  clear h2 t3 s2 g2 z2
  have I0 : Hid ((Tryz.prog.info? 53).map (·.size) = some (#[.int .i64 m0, .int .i64 m1, .slice a2 v2.length c2] : Array Value).size) := by show _ = _; kernel_rfl
  have REP : Hid (Rep w3 (NBr (w.heap.size + 1) w3) F_result [.int .i64 m0, .int .i64 m1, .slice a2 v2.length c2] (m0, m1, v2)) := by
    exact mk_result m0 m1 a2 c2 v2 Q2.out
  have O0 : Hid ((#[.int .i64 m0, .int .i64 m1, .slice a2 v2.length c2] : Array Value).all (·.oneCell') = true) := REP.out.all
  have RDA : Hid (Rd F_result l bad (m0, m1, v2) l3 b3) := (Rd.cat RD1.out (Rd.cat RD2.out RD3.out))
  go_wp2_with (refine wpList_store_row rfl 53 (.tmp 2) (.tmp 9) rfl w.heap.size #[.int .i64 m0, .int .i64 m1, .slice a2 v2.length c2] rfl rfl 53 #[.int .i64 0, .int .i64 0, .slice none 0 0] g3.out I0.out rfl O0.out ?_)
  refine bodyPost_ret (v := .agg #[.int .i64 m0, .int .i64 m1, .slice a2 v2.length c2]) ?_ rfl ⟨[.int .i64 m0, .int .i64 m1, .slice a2 v2.length c2], _, rfl, ?_, l3, b3, RDA.out, ?_, ?_⟩
  · refine results_cell_row Tryz.results84 _ _ w.heap.size 53 _ (0, 0) _ ?_ (setRow_heap w3 w.heap.size _ _ 53 _ g3.out) Tryz.underlying53 rfl I0.out
    rfl
  · exact REP.out.keptN (by simp [World.setRow]) (fun b h1 h2 => setRow_other _ _ _ _ (by omega)) (Nat.le_succ _)
  · exact h3.ext ⟨rfl, rfl, rfl, by simp [World.setRow], fun k hk => setRow_other _ _ _ _ (by omega)⟩ hDq.out.1 hDq.out.2
  · exact s3.setRow (Nat.le_refl _) _


set_option maxHeartbeats 1000000 in
set_option maxRecDepth 100000 in
theorem plan_i {D : Nat} (p : Nat) (l : List UInt8) (bad : Bool) (w : World) (h : RI D w p l bad) : Calls Tryz.prog 61 #[.pointer (some ⟨p, 0, none⟩)] w fun e w' => RecO D w p F_plan l bad e w' := by
  have hB0 : Below w.heap.size w (w.alloc (.cells #[.int .i64 0, .int .i64 0, .int .i64 0, .slice none 0 0, .slice none 0 0, .bool false] 34)) := (Below.refl _ _).alloc (Nat.le_refl _) _
  have h0 : RI D (w.alloc (.cells #[.int .i64 0, .int .i64 0, .int .i64 0, .slice none 0 0, .slice none 0 0, .bool false] 34)) p l bad := h.ext hB0 h.1 h.2.1
  have s0 : RS w (w.alloc (.cells #[.int .i64 0, .int .i64 0, .int .i64 0, .slice none 0 0, .slice none 0 0, .bool false] 34)) p := (RS.refl _ _).alloc _
  have g0 : Hid ((w.alloc (.cells #[.int .i64 0, .int .i64 0, .int .i64 0, .slice none 0 0, .slice none 0 0, .bool false] 34)).heap[w.heap.size]? = some (.cells #[.int .i64 0, .int .i64 0, .int .i64 0, .slice none 0 0, .slice none 0 0, .bool false] 34 (0, 0))) := heap_alloc_new w _
  have z0 : w.heap.size < (w.alloc (.cells #[.int .i64 0, .int .i64 0, .int .i64 0, .slice none 0 0, .slice none 0 0, .bool false] 34)).heap.size := by rw [World.size_alloc]; omega
  have hpq : Hid (p ≠ w.heap.size) := by have := h.1; show p ≠ _; omega
  have hDq : Hid (p < w.heap.size ∧ D ≤ w.heap.size) := ⟨h.1, h.2.1⟩
  clear h hB0
  go_enter Tryz.func61, Tryz.ntmps61
  go_wp2_with fail
  refine (num_i p _ _ _ h0).mono ?_
  rintro e w1 ⟨m0, rfl, _, l1, b1, rd1, h1, t1⟩
  have RD1 := hidI rd1
  clear rd1
  have s1 := s0.trans t1
  have g1 : Hid (w1.heap[w.heap.size]? = some (.cells #[.int .i64 0, .int .i64 0, .int .i64 0, .slice none 0 0, .slice none 0 0, .bool false] 34 (0, 0))) := (t1.block _ z0 hpq.out.symm).trans g0.out
  have z1 : w.heap.size < w1.heap.size := Nat.lt_of_lt_of_le z0 t1.size
  clear h0 t1 s0 g0 z0
  go_wp2_with fail
  refine (num_i p _ _ _ h1).mono ?_
  rintro e w2 ⟨m1, rfl, _, l2, b2, rd2, h2, t2⟩
  have RD2 := hidI rd2
  clear rd2
  have s2 := s1.trans t2
  have g2 : Hid (w2.heap[w.heap.size]? = some (.cells #[.int .i64 0, .int .i64 0, .int .i64 0, .slice none 0 0, .slice none 0 0, .bool false] 34 (0, 0))) := (t2.block _ z1 hpq.out.symm).trans g1.out
  have z2 : w.heap.size < w2.heap.size := Nat.lt_of_lt_of_le z1 t2.size
  clear h1 t2 s1 g1 z1
  go_wp2_with fail
  refine (num_i p _ _ _ h2).mono ?_
  rintro e w3 ⟨m2, rfl, _, l3, b3, rd3, h3, t3⟩
  have RD3 := hidI rd3
  clear rd3
  have s3 := s2.trans t3
  have g3 : Hid (w3.heap[w.heap.size]? = some (.cells #[.int .i64 0, .int .i64 0, .int .i64 0, .slice none 0 0, .slice none 0 0, .bool false] 34 (0, 0))) := (t3.block _ z2 hpq.out.symm).trans g2.out
  have z3 : w.heap.size < w3.heap.size := Nat.lt_of_lt_of_le z2 t3.size
  clear h2 t3 s2 g2 z2
  go_wp2_with fail
  refine (nums_i p _ _ _ h3).mono ?_
  rintro e w4 ⟨a3, c3, v3, rfl, q3, l4, b4, rd4, h4, t4⟩
  have RD4 := hidI rd4
  clear rd4
  have Q3 := hidI (q3.keptN (lo' := w.heap.size + 1) (Nat.le_refl _) (fun _ _ _ => rfl) z3)
  clear q3
  have s4 := s3.trans t4
  have g4 : Hid (w4.heap[w.heap.size]? = some (.cells #[.int .i64 0, .int .i64 0, .int .i64 0, .slice none 0 0, .slice none 0 0, .bool false] 34 (0, 0))) := (t4.block _ z3 hpq.out.symm).trans g3.out
  have z4 : w.heap.size < w4.heap.size := Nat.lt_of_lt_of_le z3 t4.size
  clear h3 t4 s3 g3 z3
  go_wp2_with fail
  refine (allocs_i p _ _ _ h4).mono ?_
  rintro e w5 ⟨a4, c4, v4, rfl, q4, l5, b5, rd5, h5, t5⟩
  have RD5 := hidI rd5
  clear rd5
  replace Q3 := hidI (Q3.out.keptN (lo' := w.heap.size + 1) t5.size (fun b h1 h2 => t5.block b h2 (by have := hDq.out.1; omega)) (Nat.le_refl _))
  have Q4 := hidI (q4.keptN (lo' := w.heap.size + 1) (Nat.le_refl _) (fun _ _ _ => rfl) z4)
  clear q4
  have s5 := s4.trans t5
  have g5 : Hid (w5.heap[w.heap.size]? = some (.cells #[.int .i64 0, .int .i64 0, .int .i64 0, .slice none 0 0, .slice none 0 0, .bool false] 34 (0, 0))) := (t5.block _ z4 hpq.out.symm).trans g4.out
  have z5 : w.heap.size < w5.heap.size := Nat.lt_of_lt_of_le z4 t5.size
  clear h4 t5 s4 g4 z4
  go_wp2_with fail
  refine (flag_i p _ _ _ h5).mono ?_
  rintro e w6 ⟨m5, rfl, l6, b6, rd6, h6, t6⟩
  have RD6 := hidI rd6
  clear rd6
  replace Q3 := hidI (Q3.out.keptN (lo' := w.heap.size + 1) t6.size (fun b h1 h2 => t6.block b h2 (by have := hDq.out.1; omega)) (Nat.le_refl _))
  replace Q4 := hidI (Q4.out.keptN (lo' := w.heap.size + 1) t6.size (fun b h1 h2 => t6.block b h2 (by have := hDq.out.1; omega)) (Nat.le_refl _))
  have s6 := s5.trans t6
  have g6 : Hid (w6.heap[w.heap.size]? = some (.cells #[.int .i64 0, .int .i64 0, .int .i64 0, .slice none 0 0, .slice none 0 0, .bool false] 34 (0, 0))) := (t6.block _ z5 hpq.out.symm).trans g5.out
  have z6 : w.heap.size < w6.heap.size := Nat.lt_of_lt_of_le z5 t6.size
  clear h5 t6 s5 g5 z5
  have I0 : Hid ((Tryz.prog.info? 34).map (·.size) = some (#[.int .i64 m0, .int .i64 m1, .int .i64 m2, .slice a3 v3.length c3, .slice a4 v4.length c4, .bool m5] : Array Value).size) := by show _ = _; kernel_rfl
  have REP : Hid (Rep w6 (NBr (w.heap.size + 1) w6) F_plan [.int .i64 m0, .int .i64 m1, .int .i64 m2, .slice a3 v3.length c3, .slice a4 v4.length c4, .bool m5] (m0, m1, m2, v3, v4, m5)) := by
    exact mk_plan m0 m1 m2 a3 c3 v3 a4 c4 v4 m5 Q3.out Q4.out
  have O0 : Hid ((#[.int .i64 m0, .int .i64 m1, .int .i64 m2, .slice a3 v3.length c3, .slice a4 v4.length c4, .bool m5] : Array Value).all (·.oneCell') = true) := REP.out.all
  have RDA : Hid (Rd F_plan l bad (m0, m1, m2, v3, v4, m5) l6 b6) := (Rd.cat RD1.out (Rd.cat RD2.out (Rd.cat RD3.out (Rd.cat RD4.out (Rd.cat RD5.out RD6.out)))))
  go_wp2_with (refine wpList_store_row rfl 34 (.tmp 2) (.tmp 15) rfl w.heap.size #[.int .i64 m0, .int .i64 m1, .int .i64 m2, .slice a3 v3.length c3, .slice a4 v4.length c4, .bool m5] rfl rfl 34 #[.int .i64 0, .int .i64 0, .int .i64 0, .slice none 0 0, .slice none 0 0, .bool false] g6.out I0.out rfl O0.out ?_)
  refine bodyPost_ret (v := .agg #[.int .i64 m0, .int .i64 m1, .int .i64 m2, .slice a3 v3.length c3, .slice a4 v4.length c4, .bool m5]) ?_ rfl ⟨[.int .i64 m0, .int .i64 m1, .int .i64 m2, .slice a3 v3.length c3, .slice a4 v4.length c4, .bool m5], _, rfl, ?_, l6, b6, RDA.out, ?_, ?_⟩
  · refine results_cell_row Tryz.results61 _ _ w.heap.size 34 _ (0, 0) _ ?_ (setRow_heap w6 w.heap.size _ _ 34 _ g6.out) Tryz.underlying34 rfl I0.out
    rfl
  · exact REP.out.keptN (by simp [World.setRow]) (fun b h1 h2 => setRow_other _ _ _ _ (by omega)) (Nat.le_succ _)
  · exact h6.ext ⟨rfl, rfl, rfl, by simp [World.setRow], fun k hk => setRow_other _ _ _ _ (by omega)⟩ hDq.out.1 hDq.out.2
  · exact s6.setRow (Nat.le_refl _) _

end Go.Proofs.YtpbokgeaolpiaabGreat

/- Steps for records that are read field by field into a variable: an append in a region that draws its order, a record stored into the midst of a block. -/
namespace Go.Proofs.YtpbokgeaolpiaabGreat
open Go.RowKit

theorem step_append_own {P : Program} {ops : Array Oper} {o : Oper} {a : Act} {K : Act → World → Prop} {Q : Exit → Act → World → Prop} {E : Prop} (w : World) (hgd : o.guard = none) (s x : Operand) (t : TypeId)
    (ho : o.op = .call { callee := .builtin .append, args := #[s, x], argTypes := #[t, t] })
    (base : Nat) (e : TypeId) (i : TypeInfo) (z : Value) (size bytes : Nat) (ht : P.underlying t = some (.slice e)) (hi : P.info? e = some i) (hz : i.zero = some z)
    (hsize : i.size = size) (hby : i.bytes = bytes) (hzs : z.cells.size = size) (hsz : 0 < size)
    (v : Value) (n : Nat) (xs : List Value) (hs : a.eval s = v) (hown : w.ownsRow base e size v n xs)
    (ad : Addr) (m c : Nat) (news : List Value) (hx : a.eval x = .slice (some ad) m c) (hl : news.length = m * size) (hnews : ∀ j u, news[j]? = some u → w.cell? (ad.add j) = some u) (h1 : ∀ u ∈ news, u.oneCell' = true)
    (h63 : n + m ≤ maxLen) (hbytes : (n + m) * bytes ≤ 140737488355328) (hbase : base ≤ w.heap.size)
    (h : ∀ v' w', w'.ownsRow base e size v' (n + m) (xs ++ news) → w.grownBy w' v.ownBlock → (v'.ownBlock = v.ownBlock ∨ v'.ownBlock = some w.heap.size) → K (a.put o.dst v') w') :
    if Region.wanted o (yielded ops a.tmps) = true then Oper.wp P o a w K Q else E := by
  have hw : Region.wanted o (yielded ops a.tmps) = true := by simp [Region.wanted, hgd]
  rw [if_pos hw]
  obtain ⟨v', w', hr, h2, h3, _⟩ := run_append_own (P := P) w base t o.type e i z size bytes ht hi hz hsize hby hzs hsz v n xs hown ad m c news hl hnews h1 h63 hbytes hbase
  have h4 := append_row w base t o.type e i z size bytes ht hi hz hsize hby v n xs hown ad m c news hl hnews h1 h63 hbytes v' w' hr
  unfold Oper.wp execOp
  simp only [ho, resolve, invoke, builtin, Sem.run_bind, Sem.run_pure, Result.andThen_ok, List.map_toArray, List.map_cons, List.map_nil, hs, hx, hr]
  exact h v' w' h2 h3 h4

/- the cells vs laid over C from o on -/
def putL (C : List Value) (o : Nat) (vs : List Value) : List Value := C.take o ++ vs ++ C.drop (o + vs.length)
/- w' is w with block b holding C' -/
structure Laid (w w' : World) (b : Nat) (C' : List Value) (t : TypeId) : Prop where
  os : w'.os = w.os
  tape : w'.tape = w.tape
  output : w'.output = w.output
  size : w'.heap.size = w.heap.size
  at_ : w'.heap[b]? = some (.cells C'.toArray t (0, 0))
  block : ∀ k, k ≠ b → w'.heap[k]? = w.heap[k]?
theorem laid_cell {w : World} {b o : Nat} {C : List Value} {t : TypeId} (h : w.heap[b]? = some (.cells C.toArray t (0, 0))) (v : Value) : Laid w (w.setCell ⟨b, o, none⟩ v) b (C.set o v) t := by
  refine ⟨rfl, rfl, rfl, by simp, ?_, fun k hk => Below.heap_setCell w ⟨b, o, none⟩ v k hk⟩
  rw [heap_setCell_same w b o _ t v h, List.setIfInBounds_toArray]
theorem laid_cells (b : Nat) (t : TypeId) : ∀ (vs : List Value) (o : Nat) (C : List Value) (w : World), w.heap[b]? = some (.cells C.toArray t (0, 0)) → o + vs.length ≤ C.length → Laid w (w.setCells b o vs) b (putL C o vs) t
  | [], o, C, w, h, _ => by
    refine ⟨rfl, rfl, rfl, rfl, ?_, fun _ _ => rfl⟩
    unfold putL
    simp only [List.length_nil, Nat.add_zero, List.append_nil, List.take_append_drop]
    exact h
  | v :: vs, o, C, w, h, hl => by
    have h1 := laid_cell (o := o) h v
    simp only [List.length_cons] at hl
    have h2 := laid_cells b t vs (o + 1) (C.set o v) (w.setCell ⟨b, o, none⟩ v) h1.at_ (by rw [List.length_set]; omega)
    refine ⟨h2.os.trans h1.os, h2.tape.trans h1.tape, h2.output.trans h1.output, h2.size.trans h1.size, ?_, fun k hk => (h2.block k hk).trans (h1.block k hk)⟩
    have e : putL (C.set o v) (o + 1) vs = putL C o (v :: vs) := by
      unfold putL
      apply List.ext_getElem?
      intro j
      simp only [List.length_cons, List.append_assoc, List.getElem?_append, List.length_take, List.length_set, List.getElem?_take, List.getElem?_drop, List.getElem?_set]
      by_cases hj : j < o
      · rw [if_pos (by omega), if_pos (by omega), if_neg (by omega), if_pos (by omega), if_pos (by omega)]
      · by_cases hj2 : j = o
        · subst hj2
          rw [if_pos (by omega), if_pos (by omega), if_pos rfl, if_pos (by omega), if_neg (by omega), if_pos (by omega), show j - min j C.length = 0 by omega]
          rfl
        · by_cases hj3 : j < o + 1 + vs.length
          · rw [if_neg (by omega), if_pos (by omega), if_neg (by omega), if_pos (by omega), show j - min o C.length = (j - min (o + 1) C.length) + 1 by omega, List.getElem?_cons_succ]
          · rw [if_neg (by omega), if_neg (by omega), if_neg (by omega), if_neg (by omega), if_neg (by omega)]
            congr 1
            omega
    rw [← e]
    exact h2.at_
theorem wpList_store_midF {ops : Array Oper} {rest : List Oper} {op : Oper} {a : Act} {w : World} {Q : Exit → Act → World → Prop} (hgd : op.guard = none) (ty : TypeId) (x y : Operand) (ho : op.op = .store ty x y)
    (b o : Nat) (cs : List Value) (hx : a.eval x = .pointer (some ⟨b, o, none⟩)) (hy : a.eval y = .agg cs.toArray) (t : TypeId) (C C' : List Value) (hb : w.heap[b]? = some (.cells C.toArray t (0, 0))) (hC : putL C o cs = C') (hl : o + cs.length ≤ C.length)
    (hi : (Tryz.prog.info? ty).map (·.size) = some cs.toArray.size) (h1 : ∀ v ∈ cs, v.oneCell' = true) (h : ∀ w', Hid (Laid w w' b C' t) → wpList Tryz.prog ops Q rest (a.put op.dst undef) w') : wpList Tryz.prog ops Q (op :: rest) a w := by
  refine wpList_store_mid hgd ty x y ho b o cs.toArray hx hy ?_ hi (all_oneCell_toArray h1) ?_
  · intro j hj
    have hj' : j < cs.length := by simpa using hj
    constructor
    · rw [cell_of_row w b _ _ t (0, 0) hb, List.getElem?_toArray, List.getElem?_eq_getElem (by omega)]; rfl
    · simp [World.frozen?, hb]
  · have := laid_cells b t cs o C w hb hl
    rw [hC] at this
    exact h _ this

/- new blocks but for q -/
def NX (lo q : Nat) (w : World) (b : Nat) : Prop := lo ≤ b ∧ b ≠ q ∧ b < w.heap.size ∧ Uf w b
theorem NX.to {lo q : Nat} {w w' : World} {b : Nat} (h : NX lo q w b) (hs : w.heap.size ≤ w'.heap.size) (hb : ∀ b, lo ≤ b → b ≠ q → b < w.heap.size → w'.heap[b]? = w.heap[b]?) : NX lo q w' b := ⟨h.1, h.2.1, Nat.lt_of_lt_of_le h.2.2.1 hs, h.2.2.2.to (hb b h.1 h.2.1 h.2.2.1)⟩
theorem Rep.keptX {lo q : Nat} {w w' : World} {f : Fm} {cs : List Value} {v : Vl f} (h : Rep w (NX lo q w) f cs v) (hs : w.heap.size ≤ w'.heap.size) (hb : ∀ b, lo ≤ b → b ≠ q → b < w.heap.size → w'.heap[b]? = w.heap[b]?) : Rep w' (NX lo q w') f cs v := h.kept hs (fun b x => hb b x.1 x.2.1 x.2.2.1) (fun _ x => x.to hs hb)
theorem RepL.keptX {lo q : Nat} {w w' : World} {f : Fm} {a : Option Addr} {v : List (Vl f)} (h : RepL w (NX lo q w) f a v) (hs : w.heap.size ≤ w'.heap.size) (hb : ∀ b, lo ≤ b → b ≠ q → b < w.heap.size → w'.heap[b]? = w.heap[b]?) : RepL w' (NX lo q w') f a v := h.kept hs (fun b x => hb b x.1 x.2.1 x.2.2.1) (fun _ x => x.to hs hb)
theorem RepB.keptX {lo q : Nat} {w w' : World} {a : Option Addr} {v : List UInt8} (h : RepB w (NX lo q w) a v) (hs : w.heap.size ≤ w'.heap.size) (hb : ∀ b, lo ≤ b → b ≠ q → b < w.heap.size → w'.heap[b]? = w.heap[b]?) : RepB w' (NX lo q w') a v := h.kept hs (fun b x => hb b x.1 x.2.1 x.2.2.1) (fun _ x => x.to hs hb)
theorem Rep.toX {lo lo' q : Nat} {w : World} {f : Fm} {cs : List Value} {v : Vl f} (h : Rep w (NBr lo w) f cs v) (hl : lo' ≤ lo) (hq : q < lo ∨ w.heap.size ≤ q) : Rep w (NX lo' q w) f cs v := h.kept (Nat.le_refl _) (fun _ _ => rfl) (fun b x => ⟨Nat.le_trans hl x.1, by have := x.1; have := x.2.1; omega, x.2.1, x.2.2⟩)
theorem RepL.toX {lo lo' q : Nat} {w : World} {f : Fm} {a : Option Addr} {v : List (Vl f)} (h : RepL w (NBr lo w) f a v) (hl : lo' ≤ lo) (hq : q < lo ∨ w.heap.size ≤ q) : RepL w (NX lo' q w) f a v := h.kept (Nat.le_refl _) (fun _ _ => rfl) (fun b x => ⟨Nat.le_trans hl x.1, by have := x.1; have := x.2.1; omega, x.2.1, x.2.2⟩)
theorem RepB.toX {lo lo' q : Nat} {w : World} {a : Option Addr} {v : List UInt8} (h : RepB w (NBr lo w) a v) (hl : lo' ≤ lo) (hq : q < lo ∨ w.heap.size ≤ q) : RepB w (NX lo' q w) a v := h.kept (Nat.le_refl _) (fun _ _ => rfl) (fun b x => ⟨Nat.le_trans hl x.1, by have := x.1; have := x.2.1; omega, x.2.1, x.2.2⟩)
theorem Rep.unX {lo q : Nat} {w w' : World} {f : Fm} {cs : List Value} {v : Vl f} (h : Rep w' (NX lo q w') f cs v) (hl : w.heap.size ≤ lo) : Rep w' (NB w w') f cs v := h.kept (Nat.le_refl _) (fun _ _ => rfl) (fun _ x => ⟨Nat.le_trans hl x.1, x.2.2.1, x.2.2.2⟩)
theorem RI.laid {D : Nat} {w w' : World} {p b : Nat} {l : List UInt8} {bad : Bool} {C : List Value} {t : TypeId} (h : RI D w p l bad) (hl : Laid w w' b C t) (hp : p < b) (hD : D ≤ b) : RI D w' p l bad := h.ext (B := b) ⟨hl.os, hl.tape, hl.output, by rw [hl.size]; exact Nat.le_refl _, fun k hk => hl.block k (by omega)⟩ hp hD

end Go.Proofs.YtpbokgeaolpiaabGreat

/- A round of a loop that reads an element and appends it to a field of a variable: where it stands afterwards. -/
namespace Go.Proofs.YtpbokgeaolpiaabGreat
open Go.RowKit

theorem row_keptI {w w' : World} {base e size : Nat} {v : Value} {n : Nat} {xs : List Value} (h : w.ownsRow base e size v n xs) (hb : ∀ g, v.ownBlock = some g → w'.heap[g]? = w.heap[g]?) : w'.ownsRow base e size v n xs := by
  refine ⟨h.1, ?_⟩
  rcases h.2 with h1 | ⟨g, cap, cur, e1, e2, e3, e4⟩
  · exact .inl h1
  · exact .inr ⟨g, cap, cur, e1, e2, (hb g (by rw [e1]; rfl)).trans e3, e4⟩
theorem row_ne {w : World} {base e size : Nat} {v : Value} {n : Nat} {xs : List Value} {q : Nat} {C : Array Value} {t : TypeId} {fr : Nat × Nat} (ho : w.ownsRow base e size v n xs) (hq : w.heap[q]? = some (.cells C t fr)) (hne : e ≠ t) : v.ownBlock ≠ some q := by
  intro hv
  rcases ho.2 with ⟨h1, _⟩ | ⟨g, cap, cur, e1, e2, e3, e4⟩
  · rw [h1] at hv; cases hv
  · rw [e1] at hv; cases hv; rw [hq] at e3; cases e3; exact hne rfl
theorem loop_more {D : Nat} {wB wr wl w3 : World} {p q1 : Nat} {f : Fm} {E size k : Nat} {l1 lk l2 : List UInt8} {b1 bk b2 : Bool} {v v3 : Value} {xs es : List Value} {vs : List (Vl f)} {x : Vl f} {lf : Nat} {C : List Value} {t : TypeId}
    (ok : wr.ownsRow wB.heap.size E size v k xs) (sk : RQ wB wr p q1) (rdk : RdN f k l1 b1 vs lk bk) (hel : Elems wB wr f v xs vs)
    (G1 : wr.heap[q1]? = some (.cells C.toArray t (0, 0))) (hEt : E ≠ t) (hq : q1 < wB.heap.size) (hpB : p < wB.heap.size) (hpq : p < q1) (hDq : D ≤ q1)
    (tl : RS wr wl p) (hx : Rep wl (NBr wr.heap.size wl) f es x) (rdx : Rd f lk bk x l2 b2) (rl : RI D wl p l2 b2)
    (ho3 : w3.ownsRow wB.heap.size E size v3 (k + 1) (xs ++ es)) (hg3 : (wl.alloc (.cells es.toArray E)).grownBy w3 v.ownBlock) (hw3 : v3.ownBlock = v.ownBlock ∨ v3.ownBlock = some (wl.heap.size + 1)) :
    LoopJ D wB p q1 f E size (k + 1) l1 b1 v3 (w3.setCell ⟨q1, lf, none⟩ v3) ∧ (w3.setCell ⟨q1, lf, none⟩ v3).heap[q1]? = some (.cells (C.set lf v3).toArray t (0, 0)) := by
  have hqr : q1 < wr.heap.size := (Array.getElem?_eq_some_iff.1 G1).1
  have ok2 := ownsRow_rs ok tl hpB
  have Gl : wl.heap[q1]? = some (.cells C.toArray t (0, 0)) := (tl.block q1 hqr (by omega)).trans G1
  have hqv : v.ownBlock ≠ some q1 := row_ne ok G1 hEt
  have hbl : ∀ j, v.ownBlock = some j → wB.heap.size ≤ j := fun j hj => (ok.lt j hj).1
  have hl3 : ∀ j, j < wl.heap.size → v.ownBlock ≠ some j → w3.heap[j]? = wl.heap[j]? := fun j hj hne => (hg3.block j (by rw [World.size_alloc]; omega) (fun e => hne e.symm)).trans (Below.heap_alloc wl _ j hj)
  have hs3 : wl.heap.size + 1 ≤ w3.heap.size := by have := hg3.size; rwa [World.size_alloc] at this
  have hql : q1 < wl.heap.size := Nat.lt_of_lt_of_le hqr tl.size
  have G3 : w3.heap[q1]? = some (.cells C.toArray t (0, 0)) := (hl3 q1 hql hqv).trans Gl
  have LA := laid_cell (o := lf) G3 v3
  have hBl : Below wB.heap.size wl w3 := ⟨hg3.os, hg3.tape, hg3.output, by omega, fun j hj => hl3 j (by have := sk.size; have := tl.size; omega) (fun e => by have := hbl j e; omega)⟩
  have HEL2 := hel.rs tl hpB
  have HEL3 := HEL2.more hx sk.size (fun j hj => (ok.lt j hj).2) ((Below.refl _ _).alloc (Nat.le_refl _) _) hg3 (by rw [World.size_alloc]; exact hw3)
  have hRS : RS w3 (w3.setCell ⟨q1, lf, none⟩ v3) q1 := ⟨LA.os, LA.tape, LA.output, by rw [LA.size]; exact Nat.le_refl _, fun j _ hj => LA.block j hj⟩
  have hq3 : v3.ownBlock ≠ some q1 := row_ne ho3 G3 hEt
  refine ⟨⟨_, _, l2, b2, row_keptI ho3 (fun g hg => LA.block g (fun e => hq3 (by rw [hg, e]))), ?_, ?_, rdk.more rdx, HEL3.rs hRS hq⟩, LA.at_⟩
  · refine ⟨LA.os.trans (hg3.os.trans (tl.os.trans sk.os)), LA.tape.trans (hg3.tape.trans (tl.tape.trans sk.tape)), LA.output.trans (hg3.output.trans (tl.output.trans sk.output)), ?_, fun j hj hjp hjq => ?_⟩
    · rw [LA.size]; have := sk.size; have := tl.size; omega
    · exact (LA.block j hjq).trans ((hBl.block j hj).trans ((tl.block j (Nat.lt_of_lt_of_le hj sk.size) hjp).trans (sk.block j hj hjp hjq)))
  · exact (rl.ext hBl hpB (by omega)).laid LA hpq hDq

theorem loop_g3 {wB wr wl w3 : World} {p q1 : Nat} {E size k : Nat} {v : Value} {xs es : List Value} {C : List Value} {t : TypeId}
    (ok : wr.ownsRow wB.heap.size E size v k xs) (G1 : wr.heap[q1]? = some (.cells C.toArray t (0, 0))) (hEt : E ≠ t) (hpq : p < q1) (tl : RS wr wl p) (hg3 : (wl.alloc (.cells es.toArray E)).grownBy w3 v.ownBlock) : w3.heap[q1]? = some (.cells C.toArray t (0, 0)) := by
  have hqr : q1 < wr.heap.size := (Array.getElem?_eq_some_iff.1 G1).1
  have hqv : v.ownBlock ≠ some q1 := row_ne ok G1 hEt
  have hql : q1 < wl.heap.size := Nat.lt_of_lt_of_le hqr tl.size
  exact ((hg3.block q1 (by rw [World.size_alloc]; omega) (fun e => hqv e.symm)).trans (Below.heap_alloc wl _ q1 hql)).trans ((tl.block q1 hqr (by omega)).trans G1)
theorem row_slice {w : World} {base e size : Nat} {v : Value} {n : Nat} {xs : List Value} (h : w.ownsRow base e size v (n + 1) xs) : ∃ g c, v = .slice (some ⟨g, 0, none⟩) (n + 1) c := by
  rcases h.2 with ⟨_, h1⟩ | ⟨g, cap, cur, e1, _⟩
  · omega
  · exact ⟨g, cap, e1⟩
theorem rs_drew (w : World) (p : Nat) : RS w w.drew p := ⟨rfl, rfl, rfl, Nat.le_refl _, fun _ _ _ => rfl⟩

end Go.Proofs.YtpbokgeaolpiaabGreat

/- The document's Get..: what they share. Made by program (wip/gen/ig.py). -/
namespace Go.Proofs.YtpbokgeaolpiaabGreat
open Go.RowKit

set_option maxHeartbeats 400000 in
theorem done_i {D : Nat} (p : Nat) (l : List UInt8) (bad : Bool) (w : World) (h : RI D w p l bad) : Calls Tryz.prog 25 #[.pointer (some ⟨p, 0, none⟩)] w fun e w' => e = .returned (.bool (!bad && decide (l = []))) ∧ w' = w := by
  obtain ⟨h1, hD, f0, f1, c1, a, cap, c0, hcap, hbs, hne⟩ := h
  clear hbs hne
  cases bad with
  | true =>
    go_enter Tryz.func25, Tryz.ntmps25
    go_wp2
    go_ret
    exact ⟨rfl, rfl⟩
  | false =>
    cases l with
    | nil =>
      have HE : Hid ((!false && decide (([] : List UInt8) = [])) = true) := by show _ = _; decide
      rw [HE.out]
      simp only [List.length_nil] at c0
      go_enter Tryz.func25, Tryz.ntmps25
      go_wp2
      go_ret
      exact ⟨rfl, rfl⟩
    | cons x r =>
      have HE : Hid ((!false && decide ((x :: r : List UInt8) = [])) = false) := by show _ = _; simp
      rw [HE.out]
      have hlp : (((x :: r).length : Int) == 0) = false := by simp; omega
      obtain ⟨n, hn⟩ : ∃ n, (x :: r).length = n := ⟨_, rfl⟩
      rw [hn] at hlp c0 hcap
      go_enter Tryz.func25, Tryz.ntmps25
      go_wp2
      go_ret
      exact ⟨rfl, rfl⟩
theorem sum_leI {α : Type} (m : α → Nat) (b : Nat) (vs : List α) (h : ∀ v ∈ vs, m v ≤ b) : (vs.map m).sum ≤ vs.length * b := by
  induction vs with
  | nil => simp
  | cons v vs ih =>
    have h1 := h v (by simp)
    have h2 := ih (fun x hx => h x (by simp [hx]))
    rw [List.map_cons, List.sum_cons, List.length_cons, Nat.add_mul]
    omega
theorem szb_leI (f : Fm) (v : Vl f) (h : (en f v).2 = false) : szb f v ≤ mx f := by
  induction f with
  | num => exact Nat.le_refl _
  | tru => exact Nat.le_refl _
  | byt =>
    have h' : (if List.length (α := UInt8) v ≤ 65536 then (enc (List.length (α := UInt8) v : Int) ++ v, false) else ([], true)).2 = false := h
    show 6 + List.length (α := UInt8) v ≤ 65542
    split at h'
    · omega
    · cases h'
  | lst f ih =>
    have h' : (if List.length (α := Vl f) v ≤ 64 then (enc (List.length (α := Vl f) v : Int) ++ List.flatMap (fun v => (en f v).1) v, List.any v fun v => (en f v).2) else ([], true)).2 = false := h
    show 6 + (List.map (fun v => szb f v) v).sum ≤ 6 + 64 * mx f
    split at h'
    · next hl =>
      have h2 := sum_leI (fun v => szb f v) (mx f) v (fun x hx => ih x (by
        have := List.any_eq_false.1 h' x hx
        simpa using this))
      have h3 : List.length (α := Vl f) v * mx f ≤ 64 * mx f := Nat.mul_le_mul_right _ hl
      omega
    · cases h'
  | cat a b iha ihb =>
    have h' : ((en a v.1).2 || (en b v.2).2) = false := h
    rw [Bool.or_eq_false_iff] at h'
    show szb a v.1 + szb b v.2 ≤ mx a + mx b
    have h1 := iha v.1 h'.1
    have h2 := ihb v.2 h'.2
    omega
theorem get_iff {f : Fm} {l l1 : List UInt8} {b1 : Bool} {v : Vl f} (h : Rd f l false v l1 b1) : (b1 = false ∧ l1 = [] ∧ (en f v).1 = l) ↔ (de f (some l)).2 = some [] := by
  constructor
  · rintro ⟨_, _, e⟩
    have := de_en f v [] h.1
    rw [List.append_nil, e] at this
    rw [this]
  · intro e
    obtain ⟨e1, e2, e3⟩ := h.2 rfl [] e
    have := (en_de f l [] e).2
    rw [List.append_nil, ← e1] at this
    exact ⟨e3, e2, this.symm⟩


end Go.Proofs.YtpbokgeaolpiaabGreat
