/- What the functions that only read bytes return: both sums are the same sum, both ways to read a number with its highest byte first are the same number, and two slices are the same just if their bytes are. -/
import Derived.Test.YtpbokgeaolpiaabMem
import Derived.BigQuiet
import Derived.Deep.QuietTactic
namespace Go.Proofs.Ytpbokgeaolpiaab
open Go.RowKit

set_option maxHeartbeats 400000 in
theorem sum_any (a : Option Addr) (n cap : Nat) (l : List UInt8) (w : World) (hn : n = l.length) (h : Bs w a l) :
    Calls Try.prog 87 #[.slice a n cap] w fun e w' => e = .returned (.int .u32 ((nsum l : Nat) : Int)) ∧ w' = w := by
  obtain ⟨hlen, hne⟩ := h
  go_enter Try.func87, Try.ntmps87
  go_wp2
  go_loop [3, 9] (fun s i => ∃ k : Nat, k ≤ n ∧ i = .int .i64 k ∧ s = .int .u32 ((crc (l.take k) : Nat) : Int)) (fun _ i => n - (intOf i).toNat)
  case atStart => exact ⟨0, Nat.zero_le _, rfl, rfl⟩
  case round =>
    obtain ⟨k, hk, rfl, rfl⟩ := hrel
    have b0 := bat_lo l k
    have b1 := bat_hi l k
    have c1 := crc_lt (l.take k)
    by_cases hlt : k < n
    · obtain ⟨b, off, rfl, hb, hc⟩ := hne (by intro e; simp [e] at hn; omega)
      subst hn
      have hx := xor32_bat (crc (l.take k)) l k c1
      have HS : Hid (crc (l.take (k + 1)) = itS 8 (crc (l.take k) ^^^ bn l k)) := crc_take_succ l k hlt
      have hxl : crc (l.take k) ^^^ bn l k < 4294967296 := xor_lt32 _ _ c1 (by have := bn_lt l k; omega)
      go_wp2
      generalize crc (l.take k) ^^^ bn l k = x at *
      go_loop [3, 17] (fun s i => ∃ j : Nat, j ≤ 8 ∧ i = .int .i64 j ∧ s = .int .u32 ((itS j x : Nat) : Int)) (fun _ i => 8 - (intOf i).toNat)
      case atStart => exact ⟨0, Nat.zero_le _, rfl, rfl⟩
      case round =>
        obtain ⟨j, hj, rfl, rfl⟩ := hrel
        have il := itS_lt j x hxl
        have ha := and32_one (itS j x) il
        by_cases hjl : j < 8
        · go_wp2
          · exact ⟨⟨j + 1, by omega, by go_num, step_one j x il ‹_›⟩, by simp [intOf]; omega⟩
          · exact ⟨⟨j + 1, by omega, by go_num, step_none j x ‹_›⟩, by simp [intOf]; omega⟩
        · have hj8 : j = 8 := by omega
          subst hj8
          go_wp2
          exact ⟨⟨k + 1, by omega, by go_num, by rw [HS.out]⟩, by simp [intOf]; omega⟩
    · have hkn : k = l.length := by omega
      subst hkn
      have hnot := not32 (crc l) (crc_lt l)
      go_wp2
      go_ret
      exact ⟨rfl, rfl⟩

set_option maxHeartbeats 400000 in
theorem readHigh_any (a : Option Addr) (n cap : Nat) (l : List UInt8) (w : World) (hn : n = l.length) (h6 : n ≤ 6) (h : Bs w a l) :
    Calls Try.prog 88 #[.slice a n cap] w fun e w' => e = .returned (.int .i64 ((hi l : Nat) : Int)) ∧ w' = w := by
  obtain ⟨hlen, hne⟩ := h
  go_enter Try.func88, Try.ntmps88
  go_wp2
  go_loop [3, 8] (fun s i => ∃ k : Nat, k ≤ n ∧ i = .int .i64 k ∧ s = .int .i64 ((hi (l.take k) : Nat) : Int)) (fun _ i => n - (intOf i).toNat)
  case atStart => exact ⟨0, Nat.zero_le _, rfl, rfl⟩
  case round =>
    obtain ⟨k, hk, rfl, rfl⟩ := hrel
    have b0 := bat_lo l k
    have b1 := bat_hi l k
    by_cases hlt : k < n
    · obtain ⟨b, off, rfl, hb, hc⟩ := hne (by intro e; simp [e] at hn; omega)
      subst hn
      have c1 := hi_lt5 (l.take k) (by rw [List.length_take]; omega)
      have hor := or_byte (hi (l.take k)) c1 l k
      have HS : Hid (hi (l.take (k + 1)) = 256 * hi (l.take k) + bn l k) := hi_take_succ l k hlt
      go_wp2
      exact ⟨⟨k + 1, by omega, by go_num, by rw [HS.out]; go_num⟩, by simp [intOf]; omega⟩
    · have hkn : k = l.length := by omega
      subst hkn
      go_wp2
      go_ret
      exact ⟨rfl, rfl⟩

theorem same_ext (l1 l2 : List UInt8) (hl : l1.length = l2.length) (h : ∀ j, j < l1.length → bat l1 j = bat l2 j) : l1 = l2 := by
  apply List.ext_getElem hl
  intro i h1 h2
  have := h i h1
  simp [bat, bn, List.getD, h1, h2] at this
  exact UInt8.toNat.inj (by omega)

set_option maxHeartbeats 400000 in
theorem same_any (a1 a2 : Option Addr) (n1 n2 c1 c2 : Nat) (l1 l2 : List UInt8) (w : World) (hn1 : n1 = l1.length) (hn2 : n2 = l2.length) (h1 : Bs w a1 l1) (h2 : Bs w a2 l2) :
    Calls Try.prog 18 #[.slice a1 n1 c1, .slice a2 n2 c2] w fun e w' => e = .returned (.bool (decide (l1 = l2))) ∧ ∃ nq, w' = w.drewN nq := by
  obtain ⟨hlen1, hne1⟩ := h1
  obtain ⟨hlen2, hne2⟩ := h2
  have H1 : Hid (l1.length = n1) := hn1.symm
  have H2 : Hid (l2.length = n2) := hn2.symm
  rw [← hn1] at hlen1
  rw [← hn2] at hlen2
  clear hn1 hn2
  by_cases hnn : n1 = n2
  · subst hnn
    go_enter Try.func18, Try.ntmps18
    go_wp2
    go_loopw [5] (fun i wr => ∃ k : Nat, k ≤ n1 ∧ i = .int .i64 k ∧ Hid (∀ j, j < k → bat l1 j = bat l2 j) ∧ ∃ nq, wr = w.drewN nq) (fun i _ => n1 - (intOf i).toNat)
    case atStart => exact ⟨0, Nat.zero_le _, rfl, fun j hj => absurd hj (by omega), 0, rfl⟩
    case round =>
      obtain ⟨k, hk, rfl, hsame, nq, rfl⟩ := hrel
      by_cases hlt : k < n1
      · obtain ⟨b, off, rfl, hb, hc⟩ := hne1 (by intro e; have := H1.out; simp [e] at this; omega)
        obtain ⟨b', off', rfl, hb', hc'⟩ := hne2 (by intro e; have := H2.out; simp [e] at this; omega)
        have hcp := hc k (by have := H1.out; omega)
        have hcp' := hc' k (by have := H2.out; omega)
        go_wp2
        go_quiet (fail)
        go_wp2
        · rename_i hdiff
          go_ret
          refine ⟨?_, _, by simp only [World.drewN_drewN]; rfl⟩
          have : l1 ≠ l2 := fun e => by subst e; simp at hdiff
          simp [this]
        · rename_i heq
          have heq' : bat l1 k = bat l2 k := by simpa using heq
          refine ⟨⟨k + 1, by omega, by go_num, fun j hj => ?_, _, rfl⟩, by simp [intOf]; omega⟩
          by_cases hjk : j = k
          · rw [hjk]; exact heq'
          · exact hsame.out j (by omega)
      · go_wp2
        go_ret
        refine ⟨?_, _, rfl⟩
        have : l1 = l2 := same_ext l1 l2 (by rw [H1.out, H2.out]) (fun j hj => hsame.out j (by have := H1.out; omega))
        simp [this]
  · have hnb : ((n1 : Int) != (n2 : Int)) = true := by rw [bne_iff_ne]; omega
    go_enter Try.func18, Try.ntmps18
    go_wp2
    go_ret
    refine ⟨?_, 0, rfl⟩
    have : l1 ≠ l2 := fun e => hnn (by rw [← H1.out, ← H2.out, e])
    simp [this]

theorem lob_toNat (n i : Nat) : ((lob n i).toNat : Int) = (n : Int) / 2 ^ (8 * i) % 256 := by
  have h : (lob n i).toNat = n / 2 ^ (8 * i) % 256 := by
    unfold lob
    rw [show (256 : Nat) = 2 ^ 8 from rfl, ← Nat.pow_mul]
    simp
  rw [h]
  simp
theorem bat_lo4 (n j : Nat) (h : j < 4) : bat (lo4 n) j = (n : Int) / 2 ^ (8 * j) % 256 := by
  have hj : j = 0 ∨ j = 1 ∨ j = 2 ∨ j = 3 := by omega
  rw [← lob_toNat]
  rcases hj with rfl | rfl | rfl | rfl <;> rfl
theorem lo4_at (l : List UInt8) (n : Nat) (e : l = lo4 n) (k : Nat) (hk : k < 4) : bat l k = (n : Int) / 2 ^ (8 * k) % 256 := by rw [e]; exact bat_lo4 n k hk
theorem lo4_of (l : List UInt8) (n : Nat) (hl : l.length = 4) (h : ∀ j, j < 4 → bat l j = (n : Int) / 2 ^ (8 * j) % 256) : l = lo4 n :=
  same_ext l (lo4 n) (by rw [hl]; rfl) (fun j hj => by rw [h j (by omega), bat_lo4 n j (by omega)])

set_option maxHeartbeats 400000 in
set_option maxRecDepth 100000 in
/- the sum that is told is right: four bytes -/
theorem sumIsRight_any (a1 a2 : Option Addr) (n1 c1 c2 : Nat) (l1 l2 : List UInt8) (w : World) (hn1 : n1 = l1.length) (hn2 : l2.length = 4) (h1 : Bs w a1 l1) (h2 : Bs w a2 l2) :
    Calls Try.prog 38 #[.slice a1 n1 c1, .slice a2 4 c2] w fun e w' => e = .returned (.bool (decide (l2 = lo4 (nsum l1)))) ∧ w' = w := by
  subst hn1
  have hs := nsum_lt l1
  obtain ⟨b, off, rfl, hb, hc⟩ := h2.2 (by intro e; simp [e] at hn2)
  have hc0 := hc 0 (by omega)
  have hc1 := hc 1 (by omega)
  have hc2 := hc 2 (by omega)
  have hc3 := hc 3 (by omega)
  have B : ∀ j, 0 ≤ bat l2 j ∧ bat l2 j ≤ 255 := fun j => ⟨bat_lo l2 j, bat_hi l2 j⟩
  have HC : Hid (∀ j, j < 4 → w.cell? ⟨b, off + j, none⟩ = some (.int .u8 (bat l2 j))) := fun j hj => hc j (by omega)
  have HN : Hid (l2.length = 4) := hn2
  clear hc hn2 h2 hc0 hc1 hc2 hc3
  go_enter Try.func38, Try.ntmps38
  go_wp2_with fail
  refine (sum_any a1 _ c1 l1 w rfl h1).mono ?_
  rintro e w' ⟨rfl, hw⟩
  subst hw
  clear h1
  go_wp2
  go_loop [12] (fun i => ∃ k : Nat, k ≤ 4 ∧ i = .int .i64 k ∧ Hid (∀ j, j < k → bat l2 j = (nsum l1 : Int) / 2 ^ (8 * j) % 256)) (fun i => 4 - (intOf i).toNat)
  case atStart => exact ⟨0, Nat.zero_le _, rfl, fun j hj => absurd hj (by omega)⟩
  case round =>
    obtain ⟨k, hk, rfl, hsame⟩ := hrel
    by_cases hlt : k < 4
    · have hcp := HC.out k hlt
      go_wp2
      · rename_i _ hdiff _
        go_ret
        refine ⟨?_, rfl⟩
        have : l2 ≠ lo4 (nsum l1) := fun e => by
          have h2 := lo4_at l2 _ e k hlt
          rw [h2] at hdiff; simp at hdiff
        simp [this]
      · rename_i _ _ heq
        have heq' : bat l2 k = (nsum l1 : Int) / 2 ^ (8 * k) % 256 := by simpa using heq
        refine ⟨⟨k + 1, by omega, by go_num, fun j hj => ?_⟩, by simp [intOf]; omega⟩
        by_cases hjk : j = k
        · rw [hjk]; exact heq'
        · exact hsame.out j (by omega)
    · go_wp2
      go_ret
      refine ⟨?_, rfl⟩
      have : l2 = lo4 (nsum l1) := lo4_of l2 _ HN.out (fun j hj => hsame.out j (by omega))
      simp [this]
end Go.Proofs.Ytpbokgeaolpiaab
