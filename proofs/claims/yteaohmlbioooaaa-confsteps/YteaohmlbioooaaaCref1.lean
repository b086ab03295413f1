/- The document's In, same, rising, May, Majority, and the law's numbers. -/
import Derived.Test.YteaohmlbioooaaaCliv
import Derived.WalkSmall
namespace Go.Proofs.Yteaohmlbioooaaa
open Go.RowKit

set_option maxHeartbeats 1000000 in
theorem in_any (w : World) (a : Option Addr) (l : List Int) (cap : Nat) (x : Int) (h : Ints w a l) : Calls Try.prog 17 #[.slice a l.length cap, .int .i64 x] w fun e w' => e = .returned (.bool (l.contains x)) ∧ w' = w := by
  have HI := hidOf h
  have hl := h.len
  clear h
  obtain ⟨r, hr⟩ : ∃ r, r = l.contains x := ⟨_, rfl⟩
  rw [← hr]
  have HR := hidOf hr
  clear hr
  go_enter Try.func17, Try.ntmps17
  go_wp2
  go_loop [5] (fun i => ∃ k : Nat, i = .int .i64 (k : Int) ∧ k ≤ l.length ∧ Hid (r = (l.drop k).contains x)) (fun i => l.length - (intOf i).toNat)
  case atStart => exact ⟨0, rfl, Nat.zero_le _, HR⟩
  case round =>
    obtain ⟨k, rfl, hk, HE⟩ := hrel
    by_cases hlt : k < l.length
    · have hltz : (k : Int) < (l.length : Int) := by omega
      obtain ⟨b, off, rfl, _, hc⟩ := HI.out.at hlt
      have c0 := hc k hlt
      have HN := hidOf (drop_nth hlt)
      generalize nth l k = y at c0 HN
      clear hc
      by_cases hxy : y = x
      · have hxb : (y == x) = true := by rw [beq_iff_eq]; exact hxy
        have HXY := hidOf hxy
        clear hxy
        go_wp2
        go_ret
        refine ⟨?_, rfl⟩
        have : r = true := by rw [HE.out, HN.out, HXY.out]; simp
        rw [this]; rfl
      · have hxb : (y == x) = false := by rw [beq_eq_false_iff_ne]; exact hxy
        have HXY := hidOf hxy
        clear hxy
        go_wp2
        go_round
        case rel =>
          refine ⟨k + 1, by go_num, by omega, hidOf ?_⟩
          have : (x == y) = false := by rw [beq_eq_false_iff_ne]; exact fun e => HXY.out e.symm
          rw [HE.out, HN.out, List.contains_cons, this, Bool.false_or]
        case measure => simp [intOf]; omega
    · obtain rfl : k = l.length := by omega
      have hltz : ¬ (l.length : Int) < (l.length : Int) := by omega
      go_wp2
      go_ret
      refine ⟨?_, rfl⟩
      have : r = false := by rw [HE.out, List.drop_length]; rfl
      rw [this]; rfl
set_option maxHeartbeats 1000000 in
theorem same_any (w : World) (a b : Option Addr) (l m : List Int) (cap cap' : Nat) (h : Ints w a l) (h' : Ints w b m) : Calls Try.prog 39 #[.slice a l.length cap, .slice b m.length cap'] w fun e w' => e = .returned (.bool (l == m)) ∧ Below w.heap.size w w' := by
  have HI := hidOf h
  have HJ := hidOf h'
  have hl := h.len
  have hl' := h'.len
  clear h h'
  by_cases hlm : l.length = m.length
  · have hlz : (((l.length : Nat) : Int) == ((m.length : Nat) : Int)) = true := by rw [beq_iff_eq]; omega
    go_enter Try.func39, Try.ntmps39
    go_wp2
    go_loopw [5] (fun i wr => ∃ k : Nat, i = .int .i64 (k : Int) ∧ k ≤ l.length ∧ Hid (Below w.heap.size w wr) ∧ Hid (l.take k = m.take k)) (fun i _ => l.length - (intOf i).toNat)
    case atStart => exact ⟨0, rfl, Nat.zero_le _, hidOf (Below.refl _ _), hidOf rfl⟩
    case round =>
      obtain ⟨k, rfl, hk, HB, HE⟩ := hrel
      by_cases hlt : k < l.length
      · have hltz : (k : Int) < (l.length : Int) := by omega
        have hltz2 : (k : Int) < (m.length : Int) := by omega
        obtain ⟨b1, o1, rfl, _, hc1⟩ := (HI.out.grow HB.out).at hlt
        obtain ⟨b2, o2, rfl, _, hc2⟩ := (HJ.out.grow HB.out).at (k := k) (by omega)
        have c1 := hc1 k hlt
        have c2 := hc2 k (by omega)
        have HT1 := hidOf (take_nth hlt)
        have HT2 := hidOf (take_nth (l := m) (k := k) (by omega))
        have HX1 := hidOf (nth_get hlt)
        have HX2 := hidOf (nth_get (l := m) (j := k) (by omega))
        generalize nth l k = x at c1 HT1 HX1
        generalize nth m k = y at c2 HT2 HX2
        clear hc1 hc2
        by_cases hxy : x = y
        · have hxb : (x == y) = true := by rw [beq_iff_eq]; exact hxy
          have HXY := hidOf hxy
          clear hxy
          go_wp2
          go_quiet (fail)
          go_wp2
          go_roundw
          case rel => exact ⟨k + 1, by go_num, by omega, hidOf (below_drewN HB.out _), hidOf (by rw [HT1.out, HT2.out, HE.out, HXY.out])⟩
          case measure => simp [intOf]; omega
        · have hxb : (x == y) = false := by rw [beq_eq_false_iff_ne]; exact hxy
          have HXY := hidOf hxy
          clear hxy
          go_wp2
          go_quiet (fail)
          go_wp2
          go_ret
          refine ⟨?_, below_drewN HB.out _⟩
          have : (l == m) = false := by
            rw [beq_eq_false_iff_ne]
            intro e
            subst e
            exact HXY.out (HX1.out.trans HX2.out.symm)
          rw [this]; rfl
      · obtain rfl : k = l.length := by omega
        have hltz : ¬ (l.length : Int) < (l.length : Int) := by omega
        go_wp2
        go_ret
        refine ⟨?_, HB.out⟩
        have : (l == m) = true := by
          rw [beq_iff_eq]
          have := HE.out
          rw [List.take_length, List.take_of_length_le (by omega)] at this
          exact this
        rw [this]; rfl
  · have hlz : (((l.length : Nat) : Int) == ((m.length : Nat) : Int)) = false := by rw [beq_eq_false_iff_ne]; omega
    have e : (l == m) = false := by rw [beq_eq_false_iff_ne]; intro e; rw [e] at hlm; exact hlm rfl
    rw [e]
    clear e hlm
    go_enter Try.func39, Try.ntmps39
    go_wp2
    go_ret
    exact ⟨rfl, Below.refl _ _⟩
set_option maxHeartbeats 1000000 in
theorem numbers_any (w : World) (a b : Option Addr) (l m : List Int) (cap cap' : Nat) (h : Ints w a l) (h' : Ints w b m) : Calls Try.prog 9 #[.slice a l.length cap, .slice b m.length cap'] w fun e w' => e = .returned (.bool (l == m)) ∧ Below w.heap.size w w' := by
  have HI := hidOf h
  have HJ := hidOf h'
  have hl := h.len
  have hl' := h'.len
  clear h h'
  by_cases hlm : l.length = m.length
  · have hlz : (((l.length : Nat) : Int) == ((m.length : Nat) : Int)) = true := by rw [beq_iff_eq]; omega
    go_enter Try.func9, Try.ntmps9
    go_wp2
    go_loopw [5] (fun i wr => ∃ k : Nat, i = .int .i64 (k : Int) ∧ k ≤ l.length ∧ Hid (Below w.heap.size w wr) ∧ Hid (l.take k = m.take k)) (fun i _ => l.length - (intOf i).toNat)
    case atStart => exact ⟨0, rfl, Nat.zero_le _, hidOf (Below.refl _ _), hidOf rfl⟩
    case round =>
      obtain ⟨k, rfl, hk, HB, HE⟩ := hrel
      by_cases hlt : k < l.length
      · have hltz : (k : Int) < (l.length : Int) := by omega
        have hltz2 : (k : Int) < (m.length : Int) := by omega
        obtain ⟨b1, o1, rfl, _, hc1⟩ := (HI.out.grow HB.out).at hlt
        obtain ⟨b2, o2, rfl, _, hc2⟩ := (HJ.out.grow HB.out).at (k := k) (by omega)
        have c1 := hc1 k hlt
        have c2 := hc2 k (by omega)
        have HT1 := hidOf (take_nth hlt)
        have HT2 := hidOf (take_nth (l := m) (k := k) (by omega))
        have HX1 := hidOf (nth_get hlt)
        have HX2 := hidOf (nth_get (l := m) (j := k) (by omega))
        generalize nth l k = x at c1 HT1 HX1
        generalize nth m k = y at c2 HT2 HX2
        clear hc1 hc2
        by_cases hxy : x = y
        · have hxb : (x == y) = true := by rw [beq_iff_eq]; exact hxy
          have HXY := hidOf hxy
          clear hxy
          go_wp2
          go_quiet (fail)
          go_wp2
          go_roundw
          case rel => exact ⟨k + 1, by go_num, by omega, hidOf (below_drewN HB.out _), hidOf (by rw [HT1.out, HT2.out, HE.out, HXY.out])⟩
          case measure => simp [intOf]; omega
        · have hxb : (x == y) = false := by rw [beq_eq_false_iff_ne]; exact hxy
          have HXY := hidOf hxy
          clear hxy
          go_wp2
          go_quiet (fail)
          go_wp2
          go_ret
          refine ⟨?_, below_drewN HB.out _⟩
          have : (l == m) = false := by
            rw [beq_eq_false_iff_ne]
            intro e
            subst e
            exact HXY.out (HX1.out.trans HX2.out.symm)
          rw [this]; rfl
      · obtain rfl : k = l.length := by omega
        have hltz : ¬ (l.length : Int) < (l.length : Int) := by omega
        go_wp2
        go_ret
        refine ⟨?_, HB.out⟩
        have : (l == m) = true := by
          rw [beq_iff_eq]
          have := HE.out
          rw [List.take_length, List.take_of_length_le (by omega)] at this
          exact this
        rw [this]; rfl
  · have hlz : (((l.length : Nat) : Int) == ((m.length : Nat) : Int)) = false := by rw [beq_eq_false_iff_ne]; omega
    have e : (l == m) = false := by rw [beq_eq_false_iff_ne]; intro e; rw [e] at hlm; exact hlm rfl
    rw [e]
    clear e hlm
    go_enter Try.func9, Try.ntmps9
    go_wp2
    go_ret
    exact ⟨rfl, Below.refl _ _⟩
end Go.Proofs.Yteaohmlbioooaaa
