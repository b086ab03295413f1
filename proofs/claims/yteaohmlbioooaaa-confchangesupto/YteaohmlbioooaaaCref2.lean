/- The document's rising. -/
import Derived.Test.YteaohmlbioooaaaCref1
namespace Go.Proofs.Yteaohmlbioooaaa
open Go.RowKit

theorem ris_step {l : List Int} {k : Nat} {p x : Int} (hd : l.drop k = x :: l.drop (k + 1)) (he : risF 0 l = risF p (l.drop k)) (hp : p < x) (h5 : x ≤ 5) : risF 0 l = risF x (l.drop (k + 1)) := by
  rw [he, hd, risF, decide_eq_true ⟨hp, h5⟩, Bool.true_and]
theorem ris_no {l : List Int} {k : Nat} {p x : Int} (hd : l.drop k = x :: l.drop (k + 1)) (he : risF 0 l = risF p (l.drop k)) (hp : ¬ (p < x ∧ x ≤ 5)) : risF 0 l = false := by
  rw [he, hd, risF, decide_eq_false hp, Bool.false_and]
set_option maxHeartbeats 4000000 in
theorem rising_any (w : World) (a : Option Addr) (l : List Int) (cap : Nat) (h : Ints w a l) : Calls Try.prog 37 #[.slice a l.length cap] w fun e w' => e = .returned (.bool (risF 0 l)) ∧ Below w.heap.size w w' := by
  have HI := hidOf h
  have hl := h.len
  clear h
  go_enter Try.func37, Try.ntmps37
  go_wp2
  go_loopw [3] (fun i wr => ∃ (k : Nat) (p : Int), i = .int .i64 (k : Int) ∧ k ≤ l.length ∧ 0 ≤ p ∧ Hid (k = 0 → p = 0) ∧ Hid (0 < k → p = nth l (k - 1)) ∧ Hid (Below w.heap.size w wr) ∧ Hid (risF 0 l = risF p (l.drop k))) (fun i _ => l.length - (intOf i).toNat)
  case atStart => exact ⟨0, 0, rfl, Nat.zero_le _, by omega, hidOf (fun _ => rfl), hidOf (fun h => absurd h (by omega)), hidOf (Below.refl _ _), hidOf rfl⟩
  case round =>
    obtain ⟨k, p, rfl, hk, hp0, HP0, HP1, HB, HE⟩ := hrel
    by_cases hlt : k < l.length
    · have hltz : (k : Int) < (l.length : Int) := by omega
      obtain ⟨b, off, rfl, _, hc⟩ := (HI.out.grow HB.out).at hlt
      have c0 := hc k hlt
      have HN := hidOf (drop_nth hlt)
      have HX := hidOf (rfl : nth l k = nth l k)
      obtain ⟨x, hx⟩ : ∃ x, x = nth l k := ⟨_, rfl⟩
      rw [← hx] at c0 HN HX
      have HXE := hidOf hx
      clear hx HX
      by_cases h1 : x < 1
      · clear hc
        go_wp2
        go_quiet (fail)
        go_wp2
        go_ret
        exact ⟨by rw [ris_no HN.out HE.out (by omega)]; rfl, below_drewN HB.out _⟩
      · have h1d : decide (x < 1) = false := decide_eq_false h1
        by_cases h5 : 5 < x
        · clear hc
          go_wp2
          go_quiet (fail)
          go_wp2
          go_ret
          exact ⟨by rw [ris_no HN.out HE.out (by omega)]; rfl, below_drewN HB.out _⟩
        · have h5d : decide (5 < x) = false := decide_eq_false h5
          by_cases hk0 : k = 0
          · have hpz := HP0.out hk0
            subst hpz
            have hkd : decide ((0 : Int) < (k : Int)) = false := decide_eq_false (by omega)
            have hkd2 : decide (0 < k) = false := decide_eq_false (by omega)
            have HK0 := hidOf hk0
            clear hc HP1 HP0 hk0
            go_wp2
            go_quiet (fail)
            go_wp2
            go_roundw
            case rel => exact ⟨k + 1, x, by go_num, by omega, by omega, hidOf (fun h => absurd h (by omega)), hidOf (fun _ => HXE.out), hidOf (below_drewN HB.out _), hidOf (ris_step HN.out HE.out (by omega) (by omega))⟩
            case measure => simp [intOf]; omega
          · have hkp : 0 < k := by omega
            have hkz : (0 : Int) < (k : Int) := by omega
            have hkd : decide ((0 : Int) < (k : Int)) = true := decide_eq_true hkz
            have c1 := hc (k - 1) (by omega)
            have hpe := HP1.out hkp
            rw [← hpe] at c1
            obtain ⟨j, hj⟩ : ∃ j : Nat, k = j + 1 := ⟨k - 1, by omega⟩
            have hk1 : (k : Int) - 1 = (j : Int) := by omega
            rw [show k - 1 = j by omega] at c1
            have hjz : (j : Int) < (l.length : Int) := by omega
            clear hc HP0 HP1 hpe hj
            by_cases hxp : x ≤ p
            · go_wp2
              go_quiet (fail)
              go_wp2
              go_ret
              exact ⟨by rw [ris_no HN.out HE.out (by omega)]; rfl, below_drewN HB.out _⟩
            · have hxd : decide (x ≤ p) = false := decide_eq_false hxp
              go_wp2
              go_quiet (fail)
              go_wp2
              go_roundw
              case rel => exact ⟨k + 1, x, by go_num, by omega, by omega, hidOf (fun h => absurd h (by omega)), hidOf (fun _ => HXE.out), hidOf (below_drewN HB.out _), hidOf (ris_step HN.out HE.out (by omega) (by omega))⟩
              case measure => simp [intOf]; omega
    · obtain rfl : k = l.length := by omega
      have hltz : ¬ (l.length : Int) < (l.length : Int) := by omega
      go_wp2
      go_ret
      refine ⟨?_, HB.out⟩
      rw [HE.out, List.drop_length]
      rfl
end Go.Proofs.Yteaohmlbioooaaa
