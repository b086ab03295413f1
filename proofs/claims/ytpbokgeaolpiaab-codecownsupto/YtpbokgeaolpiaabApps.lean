/- What the functions that append bytes return: a row of their own with the bytes behind those that were there; and the head of a frame read apart. -/
import Derived.Test.YtpbokgeaolpiaabSums
import Derived.Deep.RegionWith
namespace Go.Proofs.Ytpbokgeaolpiaab
open Go.RowKit

theorem src_one (w : World) (b : UInt8) (x : Int) (hx : x = (b.toNat : Int)) (cs : Array Value) (hcs : cs = #[.int .u8 x]) : Src Try.prog 1 33 (.slice (some ⟨w.heap.size, 0, none⟩) 1 1) 1 (vals [b]) (w.alloc (.cells cs 5)) := by
  subst hx; subst hcs
  refine Src.ofSlice _ Try.underlying33 _ 1 1 (vals [b]) rfl (fun j u hu => ?_) (vals_one _)
  match j, hu with
  | 0, hu => simp [vals] at hu; subst hu; simp [Addr.add]

theorem hb_byte (n s : Nat) : ((UInt8.ofNat (n / 256 ^ s)).toNat : Int) = (n : Int) / 2 ^ (8 * s) % 256 := lob_toNat n s

set_option maxHeartbeats 400000 in
theorem appendHigh_any (v : Value) (l : List UInt8) (n size : Int) (w : World) (hn : 0 ≤ n) (hs0 : 0 ≤ size) (hs6 : size ≤ 6) (hl : l.length ≤ 281474976710) (hown : Own w v l) :
    Calls Try.prog 35 #[v, .int .i64 n, .int .i64 size] w fun e w' => ∃ v', e = .returned v' ∧ Own w' v' (l ++ hb n.toNat size.toNat) ∧ Stp w w' v.ownBlock v'.ownBlock := by
  obtain ⟨p, rfl⟩ := Int.eq_ofNat_of_zero_le hn
  obtain ⟨q, rfl⟩ := Int.eq_ofNat_of_zero_le hs0
  go_enter Try.func35, Try.ntmps35
  go_wp2
  go_loopw [0, 7] (fun v' i wr => ∃ k : Nat, ∃ pre : List UInt8, k ≤ q ∧ i = .int .i64 ((k : Int) - 1) ∧ Hid (pre.length = q - k) ∧ Hid (pre ++ hb p k = hb p q) ∧ Own wr v' (l ++ pre) ∧ Stp w wr v.ownBlock v'.ownBlock) (fun _ i _ => (intOf i + 1).toNat)
  case atStart => exact ⟨q, [], Nat.le_refl _, rfl, by show 0 = q - q; omega, rfl, by rw [List.append_nil]; exact hown, Stp.refl _ _⟩
  case round =>
    obtain ⟨k, pre, hk, rfl, hpl, hpre, hown', hstp⟩ := hrel
    by_cases hlt : 0 < k
    · obtain ⟨m, rfl⟩ : ∃ m, k = m + 1 := ⟨k - 1, by omega⟩
      go_wp2_with (at_builtin; refine wpList_append_b _ rfl (.tmp 14) (.tmp 20) rfl _ (l ++ pre) rfl (hown'.alloc _) _ [UInt8.ofNat (p / 256 ^ m)] rfl ?src ?len ?k)
      case src => exact src_one _ _ _ (hb_byte p m).symm _ rfl
      case len => have := hpl.out; simp only [List.length_append, List.length_cons, List.length_nil]; omega
      case k =>
        intro v' w1 hown1 hst1
        go_wp2
        refine ⟨⟨m, pre ++ [UInt8.ofNat (p / 256 ^ m)], by omega, by go_num, ?_, ?_, by exact hown1, ?_⟩, by simp [intOf]⟩
        · have := hpl.out; show (pre ++ [_]).length = q - m; simp only [List.length_append, List.length_cons, List.length_nil]; omega
        · have := hpre.out; show pre ++ [_] ++ hb p m = hb p q; rw [← this, List.append_assoc]; rfl
        · exact (hstp.alloc _).trans hst1
    · have hk0 : k = 0 := by omega
      subst hk0
      have hfin := hpre.out
      go_wp2
      go_ret
      refine ⟨_, rfl, ?_, hstp⟩
      have : hb p q = pre := by rw [← hfin]; simp [hb]
      simpa [this] using hown'

set_option maxHeartbeats 400000 in
theorem copyBytes_any (a : Option Addr) (n cap : Nat) (l : List UInt8) (w : World) (hn : n = l.length) (h : Bs w a l) :
    Calls Try.prog 39 #[.slice a n cap] w fun e w' => ∃ v', e = .returned v' ∧ Own w' v' l ∧ Stp w w' none v'.ownBlock := by
  subst hn
  go_enter Try.func39, Try.ntmps39
  go_wp2_with (at_builtin; refine wpList_append_b _ rfl (.const (.slice none 0 0)) (.tmp 3) rfl _ [] rfl (.inl ⟨rfl, rfl⟩) _ l rfl (h.src Try.underlying33 cap) ?len ?k)
  case len => have := h.1; simp only [List.length_nil]; omega
  case k =>
    intro v' w1 hown1 hst1
    go_wp2
    go_ret
    exact ⟨_, rfl, by simpa using hown1, hst1⟩

theorem src_four (w : World) (b0 b1 b2 b3 : UInt8) (x0 x1 x2 x3 : Int) (h0 : x0 = (b0.toNat : Int)) (h1 : x1 = (b1.toNat : Int)) (h2 : x2 = (b2.toNat : Int)) (h3 : x3 = (b3.toNat : Int)) (cs : Array Value) (hcs : cs = #[.int .u8 x0, .int .u8 x1, .int .u8 x2, .int .u8 x3]) :
    Src Try.prog 1 33 (.slice (some ⟨w.heap.size, 0, none⟩) 4 4) 4 (vals [b0, b1, b2, b3]) (w.alloc (.cells cs 5)) := by
  subst h0; subst h1; subst h2; subst h3; subst hcs
  refine Src.ofSlice _ Try.underlying33 _ 4 4 (vals [b0, b1, b2, b3]) rfl (fun j u hu => ?_) (vals_one _)
  match j, hu with
  | 0, hu => simp [vals] at hu; subst hu; simp [Addr.add]
  | 1, hu => simp [vals] at hu; subst hu; simp [Addr.add]
  | 2, hu => simp [vals] at hu; subst hu; simp [Addr.add]
  | 3, hu => simp [vals] at hu; subst hu; simp [Addr.add]

theorem lob_n0 (n : Nat) : (n : Int) % 256 = ((lob n 0).toNat : Int) := by have := lob_toNat n 0; simpa using this.symm
theorem lob_n1 (n : Nat) : (n : Int) / 256 % 256 = ((lob n 1).toNat : Int) := by have := lob_toNat n 1; simpa using this.symm
theorem lob_n2 (n : Nat) : (n : Int) / 65536 % 256 = ((lob n 2).toNat : Int) := by have := lob_toNat n 2; simpa using this.symm
theorem lob_n3 (n : Nat) (h : n < 4294967296) : (n : Int) / 16777216 = ((lob n 3).toNat : Int) := by
  have := lob_toNat n 3
  have e : (n : Int) / 16777216 = (n : Int) / 16777216 % 256 := by omega
  rw [e]; simpa using this.symm

set_option maxHeartbeats 400000 in
theorem appendSum_any (v : Value) (l : List UInt8) (w : World) (hl : l.length ≤ 281474976710) (hown : Own w v l) :
    Calls Try.prog 36 #[v] w fun e w' => ∃ v', e = .returned v' ∧ Own w' v' (l ++ lo4 (nsum l)) ∧ Stp w w' v.ownBlock v'.ownBlock := by
  obtain ⟨a, cap, rfl, hbs⟩ := hown.form
  have hs := nsum_lt l
  go_enter Try.func36, Try.ntmps36
  go_wp2_with fail
  refine (sum_any a _ cap l w rfl (hbs (by omega))).mono ?_
  rintro e w' ⟨rfl, hw⟩
  subst hw
  go_wp2_with (at_builtin; refine wpList_append_b _ rfl (.tmp 6) (.tmp 18) rfl _ l rfl (hown.alloc _) _ (lo4 (nsum l)) rfl ?src ?len ?k)
  case src => exact src_four _ _ _ _ _ _ _ _ _ (lob_n0 _) (lob_n1 _) (lob_n2 _) (lob_n3 _ hs) _ rfl
  case len => simp [lo4]; omega
  case k =>
    intro v' w1 hown1 hst1
    go_wp2
    go_ret
    exact ⟨_, rfl, hown1, ((Stp.refl _ _).alloc _).trans hst1⟩

theorem Bs.drewN {w : World} {a : Option Addr} {l : List UInt8} (h : Bs w a l) (n : Nat) : Bs (w.drewN n) a l := h
theorem Bs.part {w : World} {b off : Nat} {l : List UInt8} (h : Bs w (some ⟨b, off, none⟩) l) (p q : Nat) : Bs w (some ⟨b, off + p, none⟩) ((l.drop p).take q) := by
  refine ⟨?_, fun hne => ?_⟩
  · have := h.1; simp only [List.length_take, List.length_drop]; omega
  · obtain ⟨b', off', e, hb, hc⟩ := h.2 (by rintro rfl; simp at hne)
    cases e
    refine ⟨b, off + p, rfl, hb, fun j hj => ?_⟩
    simp only [List.length_take, List.length_drop] at hj
    have := hc (p + j) (by omega)
    rw [Nat.add_assoc, this]
    congr 2
    have hj2 : p + j < l.length := by omega
    have hj3 : j < l.length - p := by omega
    simp [bat, bn, List.getD, hj2, hj3, show j < q by omega]
theorem Bs.first {w : World} {b off : Nat} {l : List UInt8} (h : Bs w (some ⟨b, off, none⟩) l) (q : Nat) : Bs w (some ⟨b, off, none⟩) (l.take q) := by
  have := h.part 0 q
  simpa using this

set_option maxHeartbeats 400000 in
theorem readHead_any (a : Option Addr) (n cap : Nat) (l : List UInt8) (w : World) (hn : n = l.length) (h11 : 11 ≤ n) (hcap : n ≤ cap) (h : Bs w a l) :
    Calls Try.prog 37 #[.slice a n cap] w fun e w' => e = .returned (.tuple #[.int .i64 ((hi (l.take 4) : Nat) : Int), .int .i64 ((hi ((l.drop 4).take 1) : Nat) : Int), .int .i64 ((hi ((l.drop 5).take 6) : Nat) : Int)]) ∧ ∃ nq, w' = w.drewN nq := by
  obtain ⟨b, off, rfl, hb, hc⟩ := h.2 (by intro e; simp [e] at hn; omega)
  have hl11 : 11 ≤ l.length := by omega
  have h4 : (l.take 4).length = 4 := by simp; omega
  have h1 : ((l.drop 4).take 1).length = 1 := by simp; omega
  have h6 : ((l.drop 5).take 6).length = 6 := by simp; omega
  have k4 : (4 : Int) ≤ (cap : Int) := by omega
  have k5 : (5 : Int) ≤ (cap : Int) := by omega
  have k11 : (11 : Int) ≤ (cap : Int) := by omega
  have n4 : ¬ cap = 4 := by omega
  have n5 : ¬ cap = 5 := by omega
  have H4 : Hid _ := h4
  have H1 : Hid _ := h1
  have H6 : Hid _ := h6
  clear h4 h1 h6 hn hc
  go_enter Try.func37, Try.ntmps37
  go_wp2
  go_quiet (first
    | (go_at_call 88; refine Calls.quiet_of_same (readHigh_any _ _ _ (l.take 4) _ ?_ ?_ ?_); exact H4.out.symm; omega; exact (h.first 4).drewN _)
    | (go_at_call 88; refine Calls.quiet_of_same (readHigh_any _ _ _ ((l.drop 4).take 1) _ ?_ ?_ ?_); exact H1.out.symm; omega; exact (h.part 4 1).drewN _)
    | (go_at_call 88; refine Calls.quiet_of_same (readHigh_any _ _ _ ((l.drop 5).take 6) _ ?_ ?_ ?_); exact H6.out.symm; omega; exact (h.part 5 6).drewN _))
  go_wp2
  go_ret3
  exact ⟨rfl, _, rfl⟩
end Go.Proofs.Ytpbokgeaolpiaab
