/- The walk of the statement on changed frames: it returns true and changes nothing that was there. -/
import Derived.Test.YtpbokgeaolpiaaaKnow
import Derived.Test.YtpbokgeaolpiaaaFlip
import Derived.BigRegion
import Derived.OpenShut
namespace Go.Proofs.Ytpbokgeaolpiaaa
open Go.RowKit

theorem heap_setCell_same (w : World) (g k : Nat) (v : Value) (cur : Array Value) (t : TypeId) (f : Nat × Nat) (h : w.heap[g]? = some (.cells cur t f)) : (w.setCell ⟨g, k, none⟩ v).heap[g]? = some (.cells (cur.setIfInBounds k v) t f) := by
  simp [World.setCell, Array.getElem?_modify, h]
theorem vals_set (l : List UInt8) (j : Nat) (y : UInt8) : vals (l.set j y) = (vals l).set j (.int .u8 (y.toNat : Int)) := by
  unfold vals; rw [List.map_set]
/- one byte of a row is stored -/
theorem own_set {w : World} {g n cap : Nat} {l : List UInt8} (h : Own w (.slice (some ⟨g, 0, none⟩) n cap) l) (j : Nat) (hj : j < n) (y : UInt8) (v : Value) (hv : v = .int .u8 (y.toNat : Int)) : Own (w.setCell ⟨g, j, none⟩ v) (.slice (some ⟨g, 0, none⟩) n cap) (l.set j y) := by
  subst hv
  rcases h with ⟨h, _⟩ | ⟨g', c, cur, h, hg, h1, h2, h3, h4⟩
  · cases h
  · cases h
    refine .inr ⟨g, cap, cur.setIfInBounds j (.int .u8 (y.toNat : Int)), by rw [List.length_set], heap_setCell_same w g j _ cur 5 (0, 0) hg, by rw [List.length_set]; exact h1, h2, by simpa using h3, ?_⟩
    rw [List.length_set, vals_set, ← h4, Array.toList_setIfInBounds, List.take_set]
theorem own_cell {w : World} {g n cap : Nat} {l : List UInt8} (h : Own w (.slice (some ⟨g, 0, none⟩) n cap) l) (j : Nat) (hj : j < n) : w.cell? ⟨g, j, none⟩ = some (.int .u8 (bat l j)) ∧ w.frozen? ⟨g, j, none⟩ = false := by
  rcases h with ⟨h, _⟩ | ⟨g', c, cur, h, hg, h1, h2, h3, h4⟩
  · cases h
  · cases h
    refine ⟨?_, by simp [World.frozen?, hg]⟩
    rw [cell_of_row w g j cur 5 (0, 0) hg]
    have := vals_get l j hj
    rw [← h4, List.getElem?_take, if_pos hj] at this
    simpa using this

theorem flip_byte (cur : List UInt8) (q r : Nat) (hr : r < 8) : (UInt8.ofNat (bn cur q ^^^ 2 ^ r)).toNat = bn cur q ^^^ 2 ^ r := by
  have h1 : 2 ^ r < 2 ^ 8 := Nat.pow_lt_pow_right (by omega) hr
  have h2 : bn cur q ^^^ 2 ^ r < 2 ^ 8 := Nat.xor_lt_two_pow (bn_lt cur q) h1
  rw [UInt8.toNat_ofNat']
  exact Nat.mod_eq_of_lt h2
theorem flip_val (cur : List UInt8) (q r : Nat) (hr : r < 8) : Value.int .u8 (bits .xor .u8 (bat cur q) (2 ^ r % 256)) = .int .u8 ((UInt8.ofNat (bn cur q ^^^ 2 ^ r)).toNat : Int) := by
  have h1 : 2 ^ r < 2 ^ 8 := Nat.pow_lt_pow_right (by omega) hr
  have e : ((2 : Int) ^ r % 256) = ((2 ^ r : Nat) : Int) := by
    have : ((2 : Int) ^ r) = ((2 ^ r : Nat) : Int) := by simp
    rw [this]; exact Int.emod_eq_of_lt (Int.natCast_nonneg _) (Int.ofNat_lt.2 h1)
  rw [e, flip_byte cur q r hr]
  unfold bat
  rw [u8_xor_nat _ _ (bn_lt cur q) h1]
theorem flip_true (x k : Nat) : Value.bool true = .bool (decide (x + 2 ^ k ≠ 0)) := by
  have := Nat.two_pow_pos k
  rw [decide_eq_true]; omega
theorem flip_lt (x k : Nat) (h : x < 2 ^ k) : x < 2 ^ (k + 1) := by rw [Nat.pow_succ]; omega

set_option maxHeartbeats 800000 in
theorem lawErrors (w : World) (kind : Int) (_wk : (Lit.int .i64 kind).wf = true) (place : Int) (_wp : (Lit.int .i64 place).wf = true) (a : Option Addr) (n cap : Nat) (l : List UInt8) (hn : n = l.length) (_hcap : n ≤ cap) (h : Bs w a l)
    (at_ : Int) (_wa : (Lit.int .i64 at_).wf = true) (chg : Int) (wc : (Lit.int .u32 chg).wf = true) :
    Calls Try.prog 6 #[.int .i64 kind, .int .i64 place, .slice a n cap, .int .i64 at_, .int .u32 chg] w fun e w' => e = .returned (.bool true) ∧ Below w.heap.size w w' := by
  have HN : Hid (n = l.length) := hn
  have hlen := h.1
  rw [← hn] at hlen
  clear hn
  have hcb := bounds_u32 wc
  by_cases hok : okF kind place n
  · have HL : Hid ((fr kind.toNat place.toNat l).length = n + 15) := by show _ = _; rw [fr_length, ← HN.out]
    have hok2 := hok
    obtain ⟨k0, k1, p0, p1, n1⟩ := hok2
    have hp15 : (0 : Int) < 8 * ((n : Int) + 15 - 4) := by omega
    have t1 := Int.tmod_lt_of_pos at_ hp15
    have t2 := Int.lt_tmod_of_pos at_ hp15
    by_cases hs : at_.tmod (8 * ((n : Int) + 15 - 4)) < 0
    ·
      obtain ⟨t, ht⟩ : ∃ t : Nat, at_.tmod (8 * ((n : Int) + 15 - 4)) + 8 * ((n : Int) + 15 - 4) = (t : Int) := ⟨(at_.tmod (8 * ((n : Int) + 15 - 4)) + 8 * ((n : Int) + 15 - 4)).toNat, by omega⟩
      have ht0 : t < 8 * (n + 11) := by omega
      go_enter Try.func6, Try.ntmps6
      go_wp2_with fail
      refine (frame_ok kind place a n cap l w HN.out h hok).mono ?_
      rintro e w1 ⟨v1, rfl, o1, s1⟩
      have B1 := s1.belowN
      go_wp2_with fail
      refine (known_any w1).mono ?_
      rintro e w2 ⟨rfl, L2⟩
      have B2 := B1.trans (L2.mono B1.size)
      have o2 := o1.below L2
      obtain ⟨g1, c1, hv1, hc1'⟩ := o2.some (by intro e; have := HL.out; rw [e] at this; simp at this)
      rw [HL.out] at hv1 hc1'
      subst hv1
      have hg1 : w.heap.size ≤ g1 := by
        rcases s1.row with e | ⟨k, e, hk⟩
        · cases e
        · cases e; exact hk
      clear o1 s1 B1 L2 h
      go_wp2_with fail
      clear ht
      go_loopw [15, 16] (fun tr i wr => ∃ k : Nat, ∃ cur : List UInt8, ∃ x : Nat, k ≤ 32 ∧ i = .int .i64 k ∧ tr = .bool (decide (x ≠ 0)) ∧ Own wr (.slice (some ⟨g1, 0, none⟩) (n + 15) c1) cur ∧ Hid (cur.length = n + 15) ∧ Hid (cur.take 4 = (fr kind.toNat place.toNat l).take 4) ∧ Hid (x < 2 ^ k) ∧ Hid (le cur = le (fr kind.toNat place.toNat l) ^^^ (x * 2 ^ (32 + t))) ∧ Below w.heap.size w wr) (fun _ i _ => 32 - (intOf i).toNat)
      case atStart => exact ⟨0, fr kind.toNat place.toNat l, 0, Nat.zero_le _, rfl, rfl, o2, HL.out, rfl, (by show 0 < 2 ^ 0; decide), (by show _ = _; simp), B2⟩
      case round =>
        obtain ⟨k, cur, x, hk, rfl, rfl, ok, hlk, h4k, hxk, hek, Bk⟩ := hrel
        by_cases hlt : k < 32
        · by_cases hin : t + k < 8 * (n + 11)
          · by_cases hbit : ((chg / 2 ^ k).tmod 2 == 1) = true
            · obtain ⟨q, hq⟩ : ∃ q : Nat, 4 + ((t : Int) + (k : Int)) / 8 = (q : Int) := ⟨4 + (t + k) / 8, by omega⟩
              obtain ⟨r, hr⟩ : ∃ r : Nat, ((t : Int) + (k : Int)) % 8 = (r : Int) := ⟨(t + k) % 8, by omega⟩
              have hr8 : r < 8 := by omega
              have hqn : q < n + 15 := by omega
              obtain ⟨hcq, hfq⟩ := own_cell ok q hqn
              have b0 := bat_lo cur q
              have b1 := bat_hi cur q
              go_wp2
              go_region
              go_wp2
              have hqe : q = 4 + (t + k) / 8 := by omega
              have hre : r = (t + k) % 8 := by omega
              have hfs := flip_step cur (fr kind.toNat place.toNat l) t k x hxk.out hek.out (UInt8.ofNat (bn cur q ^^^ 2 ^ r)) (by rw [hlk.out]; omega) (by rw [← hqe, ← hre]; exact flip_byte cur q r hr8)
              rw [← hqe] at hfs
              exact ⟨⟨k + 1, cur.set q (UInt8.ofNat (bn cur q ^^^ 2 ^ r)), x + 2 ^ k, by omega, by go_num, flip_true x k, (own_set ok q hqn _ _ (flip_val cur q r hr8)).drew, (by show _ = _; rw [List.length_set]; exact hlk.out), (by show _ = _; rw [take_set _ _ _ _ (by omega)]; exact h4k.out), hfs.2, hfs.1, (Bk.setCell (p := ⟨g1, q, none⟩) hg1 _).drew⟩, by simp [intOf]; omega⟩
            · have hbf : ((chg / 2 ^ k).tmod 2 == 1) = false := by simpa using hbit
              go_wp2
              exact ⟨⟨k + 1, cur, x, by omega, by go_num, by simp, ok, hlk, h4k, flip_lt x k hxk.out, hek, Bk⟩, by simp [intOf]; omega⟩
          · have hinf : ¬ ((t : Int) + (k : Int) < 8 * ((n : Int) + 15 - 4)) := by omega
            go_wp2
            exact ⟨⟨k + 1, cur, x, by omega, by go_num, by simp, ok, hlk, h4k, flip_lt x k hxk.out, hek, Bk⟩, by simp [intOf]; omega⟩
        · have hk32 : k = 32 := by omega
          subst hk32
          obtain ⟨_, _, e3, hb3⟩ := ok.form
          rw [hlk.out] at e3 hb3
          cases e3
          have hb3' := hb3 (by omega)
          clear hb3
          by_cases hx0 : x = 0
          · subst hx0
            have hcur : Hid (unf cur = ⟨kind, place, l, (n : Int) + 15, 0⟩) := by
              have e1 : cur = fr kind.toNat place.toNat l := le_inj _ _ (by rw [hlk.out, HL.out]) (by rw [hek.out]; simp)
              have e2 := unf_fr kind.toNat place.toNat l [] (by omega) (by omega) (by rw [← HN.out]; omega)
              rw [List.append_nil, Int.toNat_of_nonneg k0, Int.toNat_of_nonneg p0, ← HN.out] at e2
              show _ = _
              rw [e1, e2]; rfl
            go_wp2_with fail
            refine (unframe_any _ _ c1 cur wr hlk.out.symm hc1' hb3').mono ?_
            rintro e w4 ⟨v4, he, o4, s4⟩
            rw [hcur.out] at he o4
            subst he
            have B4 := Bk.trans (s4.belowN.mono Bk.size)
            clear s4 o4
            go_wp2
            go_ret
            exact ⟨rfl, B4⟩
          · have hcur : Hid (unf cur = ⟨0, 0, [], 0, 10⟩) := unf_changed kind.toNat place.toNat l cur (by rw [← HN.out]; omega) (by rw [hlk.out, ← HN.out]) h4k.out (32 + t) x hxk.out (by rw [← HN.out]; omega) hx0 hek.out
            go_wp2_with fail
            refine (unframe_any _ _ c1 cur wr hlk.out.symm hc1' hb3').mono ?_
            rintro e w4 ⟨v4, he, o4, s4⟩
            rw [hcur.out] at he o4
            subst he
            have B4 := Bk.trans (s4.belowN.mono Bk.size)
            clear s4 o4
            go_wp2
            go_ret
            exact ⟨rfl, B4⟩
    ·
      obtain ⟨t, ht⟩ : ∃ t : Nat, at_.tmod (8 * ((n : Int) + 15 - 4)) = (t : Int) := ⟨(at_.tmod (8 * ((n : Int) + 15 - 4))).toNat, by omega⟩
      have ht0 : t < 8 * (n + 11) := by omega
      go_enter Try.func6, Try.ntmps6
      go_wp2_with fail
      refine (frame_ok kind place a n cap l w HN.out h hok).mono ?_
      rintro e w1 ⟨v1, rfl, o1, s1⟩
      have B1 := s1.belowN
      go_wp2_with fail
      refine (known_any w1).mono ?_
      rintro e w2 ⟨rfl, L2⟩
      have B2 := B1.trans (L2.mono B1.size)
      have o2 := o1.below L2
      obtain ⟨g1, c1, hv1, hc1'⟩ := o2.some (by intro e; have := HL.out; rw [e] at this; simp at this)
      rw [HL.out] at hv1 hc1'
      subst hv1
      have hg1 : w.heap.size ≤ g1 := by
        rcases s1.row with e | ⟨k, e, hk⟩
        · cases e
        · cases e; exact hk
      clear o1 s1 B1 L2 h
      go_wp2_with fail
      clear ht
      go_loopw [15, 16] (fun tr i wr => ∃ k : Nat, ∃ cur : List UInt8, ∃ x : Nat, k ≤ 32 ∧ i = .int .i64 k ∧ tr = .bool (decide (x ≠ 0)) ∧ Own wr (.slice (some ⟨g1, 0, none⟩) (n + 15) c1) cur ∧ Hid (cur.length = n + 15) ∧ Hid (cur.take 4 = (fr kind.toNat place.toNat l).take 4) ∧ Hid (x < 2 ^ k) ∧ Hid (le cur = le (fr kind.toNat place.toNat l) ^^^ (x * 2 ^ (32 + t))) ∧ Below w.heap.size w wr) (fun _ i _ => 32 - (intOf i).toNat)
      case atStart => exact ⟨0, fr kind.toNat place.toNat l, 0, Nat.zero_le _, rfl, rfl, o2, HL.out, rfl, (by show 0 < 2 ^ 0; decide), (by show _ = _; simp), B2⟩
      case round =>
        obtain ⟨k, cur, x, hk, rfl, rfl, ok, hlk, h4k, hxk, hek, Bk⟩ := hrel
        by_cases hlt : k < 32
        · by_cases hin : t + k < 8 * (n + 11)
          · by_cases hbit : ((chg / 2 ^ k).tmod 2 == 1) = true
            · obtain ⟨q, hq⟩ : ∃ q : Nat, 4 + ((t : Int) + (k : Int)) / 8 = (q : Int) := ⟨4 + (t + k) / 8, by omega⟩
              obtain ⟨r, hr⟩ : ∃ r : Nat, ((t : Int) + (k : Int)) % 8 = (r : Int) := ⟨(t + k) % 8, by omega⟩
              have hr8 : r < 8 := by omega
              have hqn : q < n + 15 := by omega
              obtain ⟨hcq, hfq⟩ := own_cell ok q hqn
              have b0 := bat_lo cur q
              have b1 := bat_hi cur q
              go_wp2
              go_region
              go_wp2
              have hqe : q = 4 + (t + k) / 8 := by omega
              have hre : r = (t + k) % 8 := by omega
              have hfs := flip_step cur (fr kind.toNat place.toNat l) t k x hxk.out hek.out (UInt8.ofNat (bn cur q ^^^ 2 ^ r)) (by rw [hlk.out]; omega) (by rw [← hqe, ← hre]; exact flip_byte cur q r hr8)
              rw [← hqe] at hfs
              exact ⟨⟨k + 1, cur.set q (UInt8.ofNat (bn cur q ^^^ 2 ^ r)), x + 2 ^ k, by omega, by go_num, flip_true x k, (own_set ok q hqn _ _ (flip_val cur q r hr8)).drew, (by show _ = _; rw [List.length_set]; exact hlk.out), (by show _ = _; rw [take_set _ _ _ _ (by omega)]; exact h4k.out), hfs.2, hfs.1, (Bk.setCell (p := ⟨g1, q, none⟩) hg1 _).drew⟩, by simp [intOf]; omega⟩
            · have hbf : ((chg / 2 ^ k).tmod 2 == 1) = false := by simpa using hbit
              go_wp2
              exact ⟨⟨k + 1, cur, x, by omega, by go_num, by simp, ok, hlk, h4k, flip_lt x k hxk.out, hek, Bk⟩, by simp [intOf]; omega⟩
          · have hinf : ¬ ((t : Int) + (k : Int) < 8 * ((n : Int) + 15 - 4)) := by omega
            go_wp2
            exact ⟨⟨k + 1, cur, x, by omega, by go_num, by simp, ok, hlk, h4k, flip_lt x k hxk.out, hek, Bk⟩, by simp [intOf]; omega⟩
        · have hk32 : k = 32 := by omega
          subst hk32
          obtain ⟨_, _, e3, hb3⟩ := ok.form
          rw [hlk.out] at e3 hb3
          cases e3
          have hb3' := hb3 (by omega)
          clear hb3
          by_cases hx0 : x = 0
          · subst hx0
            have hcur : Hid (unf cur = ⟨kind, place, l, (n : Int) + 15, 0⟩) := by
              have e1 : cur = fr kind.toNat place.toNat l := le_inj _ _ (by rw [hlk.out, HL.out]) (by rw [hek.out]; simp)
              have e2 := unf_fr kind.toNat place.toNat l [] (by omega) (by omega) (by rw [← HN.out]; omega)
              rw [List.append_nil, Int.toNat_of_nonneg k0, Int.toNat_of_nonneg p0, ← HN.out] at e2
              show _ = _
              rw [e1, e2]; rfl
            go_wp2_with fail
            refine (unframe_any _ _ c1 cur wr hlk.out.symm hc1' hb3').mono ?_
            rintro e w4 ⟨v4, he, o4, s4⟩
            rw [hcur.out] at he o4
            subst he
            have B4 := Bk.trans (s4.belowN.mono Bk.size)
            clear s4 o4
            go_wp2
            go_ret
            exact ⟨rfl, B4⟩
          · have hcur : Hid (unf cur = ⟨0, 0, [], 0, 10⟩) := unf_changed kind.toNat place.toNat l cur (by rw [← HN.out]; omega) (by rw [hlk.out, ← HN.out]) h4k.out (32 + t) x hxk.out (by rw [← HN.out]; omega) hx0 hek.out
            go_wp2_with fail
            refine (unframe_any _ _ c1 cur wr hlk.out.symm hc1' hb3').mono ?_
            rintro e w4 ⟨v4, he, o4, s4⟩
            rw [hcur.out] at he o4
            subst he
            have B4 := Bk.trans (s4.belowN.mono Bk.size)
            clear s4 o4
            go_wp2
            go_ret
            exact ⟨rfl, B4⟩
  · go_enter Try.func6, Try.ntmps6
    go_wp2_with fail
    refine (frame_no kind place a n cap w hlen hok).mono ?_
    rintro e w1 ⟨rfl, hw⟩
    subst hw
    go_wp2_with fail
    refine (known_any w1).mono ?_
    rintro e w2 ⟨rfl, L2⟩
    go_wp2
    go_ret
    exact ⟨rfl, L2⟩
end Go.Proofs.Ytpbokgeaolpiaaa
