/- BrokerKeeps, walked. -/
import Derived.Test.YtndomlbjdppckaaBkm
import Derived.Test.YtndomlbjdppckaaLone
import Derived.Test.YtndomlbjdppckaaLfi
namespace Go.Proofs.Ytndomlbjdppckaa
open Go.RowKit

def nums (G : List Int) : List Value := G.map (.int .i64)
theorem nums_len (G : List Int) : (nums G).length = G.length := by simp [nums]
theorem info3 : (Try.prog.info? 3).map (fun i => (i.zero, i.size, i.bytes)) = some (some (.int .i64 0), 1, 8) := by kernel_rfl
def fo (G : List Int) (k : Nat) (j : Int) : Bool := (G.take k).any (fun g => g == j)
theorem fo_zero (G : List Int) (j : Int) : fo G 0 j = false := by simp [fo]
theorem fo_succ {G : List Int} {k : Nat} {g : Int} (h : G[k]? = some g) (j : Int) : fo G (k + 1) j = (fo G k j || g == j) := by
  unfold fo
  rw [List.take_add_one, h]
  simp
theorem fo_all {G : List Int} {j : Int} (h : j ∈ G) : fo G G.length j = true := by
  unfold fo
  rw [List.take_length, List.any_eq_true]
  exact ⟨j, h, by simp⟩
theorem int_row {w : World} {v : Value} {n : Nat} {G : List Int} (h : w.ownsRow 0 3 1 v n (nums G)) {k : Nat} {g : Int} (hg : G[k]? = some g) (hn : G.length = n) : ∃ b cap, v = .slice (some ⟨b, 0, none⟩) n cap ∧ b < w.heap.size ∧ w.cell? ⟨b, k, none⟩ = some (.int .i64 g) := by
  have hk := (List.getElem?_eq_some_iff.1 hg).1
  rcases h.2 with ⟨rfl, e⟩ | ⟨b, cap, cur, rfl, _, h4, h1, h2, h5, h6⟩
  · omega
  · refine ⟨b, cap, rfl, heap_lt h4, ?_⟩
    rw [cell_of_row w b k cur 3 (0, 0) h4]
    have h7 : (nums G)[k]? = some (.int .i64 g) := by simp [nums, hg]
    rw [← h6, List.getElem?_take, if_pos (by omega), Array.getElem?_toList] at h7
    exact h7
theorem jb_erase {R : List Itm} {i : Nat} {x : Itm} (hi : R[i]? = some x) {j : Int} (h : ∃ y ∈ R, y.jb = j) : j = x.jb ∨ ∃ y ∈ R.eraseIdx i, y.jb = j := by
  obtain ⟨y, hy, rfl⟩ := h
  obtain ⟨k, hk⟩ := List.mem_iff_getElem?.1 hy
  by_cases e : k = i
  · subst e
    rw [hi] at hk
    exact .inl (by rw [Option.some.inj hk])
  · right
    refine ⟨y, ?_, rfl⟩
    by_cases hl : k < i
    · exact List.mem_of_getElem? (i := k) (by rw [List.getElem?_eraseIdx, if_pos hl]; exact hk)
    · exact List.mem_of_getElem? (i := k - 1) (by rw [List.getElem?_eraseIdx, if_neg (by omega), show k - 1 + 1 = k by omega]; exact hk)

set_option maxHeartbeats 16000000 in
set_option maxRecDepth 100000 in
theorem lawKeeps (a : Option Addr) (cap : Nat) (L : List Dee) (a1 : Option Addr) (cap1 : Nat) (es : List Ev) (w : World) (hO : Dees w a L) (hL : wt L ≤ 1048576) (hE : EvR w.heap.size w a1 es) (hE1 : es.length ≤ 1048576) : Calls Try.prog 5 #[.slice a L.length cap, .slice a1 es.length cap1] w fun e w' => e = .returned (.bool true) ∧ Below w.heap.size w w' := by
  have HO := hidOf hO
  have HL := hidOf hL
  have HE := hidOf hE
  have HLV := hidOf lives_any
  have HC := hidOf (s_new (D := w.heap.size) w (Nat.le_refl _))
  simp only [ptr] at HC
  have hll : L.length ≤ 1048576 := by have := wt_len L; omega
  obtain ⟨i0, hi0, hz0, hz1, hz2⟩ := info_parts info3
  have HI := hidOf hi0
  have HZ0 := hidOf hz0
  have HZ1 := hidOf hz1
  have HZ2 := hidOf hz2
  clear hO hL hE hi0 hz0 hz1 hz2
  go_enter Try.func5, Try.ntmps5
  go_wp2_with (go_at_call 7; refine HC.out.mono ?_; rintro e w1 ⟨p, rfl, h1, h2⟩; have H1 := hidOf h1; have HF1 := hidOf h2; clear h1 h2 HC)
  go_loopw [6] (fun i wr => ∃ (k : Nat) (R : List Itm), k ≤ L.length ∧ i = .int .i64 (k : Int) ∧ Hid (Sta w.heap.size wr p R (k * 1048577)) ∧ Hid (R.length ≤ pre L k) ∧ Hid (AK 0 R) ∧ Hid (FrT w.heap.size TB w wr)) (fun i _ => L.length - (intOf i).toNat)
  case atStart => exact ⟨0, [], Nat.zero_le _, rfl, H1, hidOf (Nat.zero_le _), hidOf (AK.nil 0), HF1⟩
  case round =>
    obtain ⟨k, R, hk, rfl, HS, HRL, HAK, HF⟩ := hrel
    clear H1 HF1
    by_cases hlt : k < L.length
    · have hltz : (k : Int) < (L.length : Int) := by omega
      obtain ⟨b, off, hab, hbl, c0, c1, c2, hB⟩ := HO.out.at (HF.out.below (Nat.le_refl _)) k hlt
      subst hab
      have HPS := hidOf (pre_succ L k hlt)
      obtain ⟨x, hx⟩ : ∃ x, x = dt L k := ⟨_, rfl⟩
      rw [← hx] at c0 c1 c2 hB HPS
      have hbw : b < wr.heap.size := Nat.lt_of_lt_of_le hbl HF.out.size
      have hp1 := pre_le L (k + 1)
      have hp2 := HL.out
      have hp3 := HPS.out
      have hp4 := HRL.out
      have hwl := wt_len L
      have HFA : Hid (FrT w.heap.size TB w (wr.alloc (.cells #[.int .i64 x.kd, .int .i64 x.wk, .slice x.xa x.D.length x.xc] 31))) := hidOf (HF.out.trans (FrT.of_below (below1 _ _)))
      have HSA : Hid (Sta w.heap.size (wr.alloc (.cells #[.int .i64 x.kd, .int .i64 x.wk, .slice x.xa x.D.length x.xc] 31)) p R (k * 1048577)) := hidOf (HS.out.grow (below1 _ _))
      have HEV : Hid (EvR w.heap.size (wr.alloc (.cells #[.int .i64 x.kd, .int .i64 x.wk, .slice x.xa x.D.length x.xc] 31)) x.xa x.D) := hidOf (hB.2.frt HFA.out (by decide))
      have HRG : Hid (rng x.kd ∧ rng x.wk) := hidOf hB.1
      clear hx hB hbl
      have hxl : x.D.length ≤ 1048576 := by omega
      have hRl : R.length ≤ 1048576 := by omega
      have hkl : k ≤ 1048576 := by omega
      obtain ⟨hw0, hw4⟩ := pkM_rng x.wk 4 (by omega)
      have HPW := hidOf (fun W => pick_any x.wk 4 HRG.out.2 (by omega) (by omega) W)
      have HWZ := hidOf (And.intro hw0 hw4)
      generalize pkM x.wk 4 = wz at HPW HWZ
      clear hw0 hw4
      obtain ⟨hq0, hq5⟩ := pkM_rng x.kd 5 (by omega)
      have hkk5 : pkM x.kd 5 = 0 ∨ pkM x.kd 5 = 1 ∨ pkM x.kd 5 = 2 ∨ pkM x.kd 5 = 3 ∨ pkM x.kd 5 = 4 := by omega
      clear hq0 hq5
      rcases hkk5 with hk5 | hk5 | hk5 | hk5 | hk5
      · have HPK := hidOf (fun W => (by have h9 := pick_any x.kd 5 HRG.out.1 (by omega) (by omega) W; rw [hk5] at h9; exact h9 : Calls Try.prog 8 #[.int .i64 x.kd, .int .i64 5] W fun e w' => e = .returned (.int .i64 0) ∧ w' = W))
        clear hk5
        go_wp2_with (first | (go_at_call 8; refine (HPW.out _).mono ?_; rintro e w9 ⟨rfl, h9⟩; subst w9; clear HPW) | (go_at_call 8; refine (HPK.out _).mono ?_; rintro e w9 ⟨rfl, h9⟩; subst w9) | (go_at_call 9; refine (s_upd HSA.out x.xa x.xc x.D HEV.out (by omega) (by omega)).mono ?_; rintro e w2 ⟨rfl, h1, h3, h2⟩; have HS2 := hidOf (h1.mono (N' := (k + 1) * 1048577) (by omega)); have HL2 : Hid ((upM R x.D).length ≤ pre L (k + 1)) := hidOf (by rw [HPS.out]; omega); have HA2 := hidOf (HAK.out.up x.D); have HF2 := hidOf (HFA.out.trans h2); clear h1 h2 h3))
        go_roundw
        case rel => exact ⟨k + 1, (upM R x.D), by omega, by go_num, HS2, HL2, HA2, HF2⟩
        case measure => simp [intOf]; omega
      · have HPK := hidOf (fun W => (by have h9 := pick_any x.kd 5 HRG.out.1 (by omega) (by omega) W; rw [hk5] at h9; exact h9 : Calls Try.prog 8 #[.int .i64 x.kd, .int .i64 5] W fun e w' => e = .returned (.int .i64 1) ∧ w' = W))
        clear hk5
        go_wp2_with (first | (go_at_call 8; refine (HPW.out _).mono ?_; rintro e w9 ⟨rfl, h9⟩; subst w9; clear HPW) | (go_at_call 8; refine (HPK.out _).mono ?_; rintro e w9 ⟨rfl, h9⟩; subst w9) | (go_at_call 11; refine (s_deqW HSA.out wz HAK.out HWZ.out (by omega)).mono ?_; rintro e w2 ⟨R2, v2, b2, rfl, h1, h3, h4, h2⟩; have HS2 := hidOf (h1.mono (N' := (k + 1) * 1048577) (by omega)); have HL2 : Hid (R2.length ≤ pre L (k + 1)) := hidOf (by rw [HPS.out]; omega); have HA2 := hidOf h4; have HF2 := hidOf (HFA.out.trans h2); clear h1 h2 h3 h4))
        go_roundw
        case rel => exact ⟨k + 1, R2, by omega, by go_num, HS2, HL2, HA2, HF2⟩
        case measure => simp [intOf]; omega
      · have HPK := hidOf (fun W => (by have h9 := pick_any x.kd 5 HRG.out.1 (by omega) (by omega) W; rw [hk5] at h9; exact h9 : Calls Try.prog 8 #[.int .i64 x.kd, .int .i64 5] W fun e w' => e = .returned (.int .i64 2) ∧ w' = W))
        clear hk5
        go_wp2_with (first | (go_at_call 8; refine (HPW.out _).mono ?_; rintro e w9 ⟨rfl, h9⟩; subst w9; clear HPW) | (go_at_call 8; refine (HPK.out _).mono ?_; rintro e w9 ⟨rfl, h9⟩; subst w9) | (go_at_call 13; refine (s_ack HSA.out wz).mono ?_; rintro e w2 ⟨he, h1, h2⟩; obtain ⟨rv, hrv⟩ : ∃ y : Int, (if (heldM wz R).isSome = true then (0 : Int) else 3) = y := ⟨_, rfl⟩; rw [hrv] at he; clear hrv; subst he; have HS2 := hidOf (h1.mono (N' := (k + 1) * 1048577) (by omega)); have HL2 : Hid ((ackM wz R).length ≤ pre L (k + 1)) := hidOf (by rw [HPS.out]; have := ackM_len wz R; omega); have HA2 := hidOf (HAK.out.ack wz); have HF2 := hidOf (HFA.out.trans (h2.mono (by decide))); clear h1 h2))
        go_roundw
        case rel => exact ⟨k + 1, (ackM wz R), by omega, by go_num, HS2, HL2, HA2, HF2⟩
        case measure => simp [intOf]; omega
      · have HPK := hidOf (fun W => (by have h9 := pick_any x.kd 5 HRG.out.1 (by omega) (by omega) W; rw [hk5] at h9; exact h9 : Calls Try.prog 8 #[.int .i64 x.kd, .int .i64 5] W fun e w' => e = .returned (.int .i64 3) ∧ w' = W))
        clear hk5
        go_wp2_with (first | (go_at_call 8; refine (HPW.out _).mono ?_; rintro e w9 ⟨rfl, h9⟩; subst w9; clear HPW) | (go_at_call 8; refine (HPK.out _).mono ?_; rintro e w9 ⟨rfl, h9⟩; subst w9) | (go_at_call 15; refine (s_nack HSA.out wz (by omega)).mono ?_; rintro e w2 ⟨he, h1, h2⟩; obtain ⟨rv, hrv⟩ : ∃ y : Int, (if (heldM wz R).isSome = true then (0 : Int) else 3) = y := ⟨_, rfl⟩; rw [hrv] at he; clear hrv; subst he; have HS2 := hidOf (h1.mono (N' := (k + 1) * 1048577) (by omega)); have HL2 : Hid ((nackM wz R).length ≤ pre L (k + 1)) := hidOf (by rw [HPS.out, nackM_len]; omega); have HA2 := hidOf (HAK.out.nack wz); have HF2 := hidOf (HFA.out.trans (h2.mono tp_tb)); clear h1 h2))
        go_roundw
        case rel => exact ⟨k + 1, (nackM wz R), by omega, by go_num, HS2, HL2, HA2, HF2⟩
        case measure => simp [intOf]; omega
      · have HPK := hidOf (fun W => (by have h9 := pick_any x.kd 5 HRG.out.1 (by omega) (by omega) W; rw [hk5] at h9; exact h9 : Calls Try.prog 8 #[.int .i64 x.kd, .int .i64 5] W fun e w' => e = .returned (.int .i64 4) ∧ w' = W))
        clear hk5
        go_wp2_with (first | (go_at_call 8; refine (HPW.out _).mono ?_; rintro e w9 ⟨rfl, h9⟩; subst w9; clear HPW) | (go_at_call 8; refine (HPK.out _).mono ?_; rintro e w9 ⟨rfl, h9⟩; subst w9) | (go_at_call 17; refine (s_tick HSA.out (by omega)).mono ?_; rintro e w2 ⟨rfl, h1, h2⟩; have HS2 := hidOf (h1.mono (N' := (k + 1) * 1048577) (by omega)); have HL2 : Hid ((R.map tk1).length ≤ pre L (k + 1)) := hidOf (by rw [HPS.out, List.length_map]; omega); have HA2 := hidOf HAK.out.tick; have HF2 := hidOf (HFA.out.trans (h2.mono tp_tb)); clear h1 h2))
        go_roundw
        case rel => exact ⟨k + 1, (R.map tk1), by omega, by go_num, HS2, HL2, HA2, HF2⟩
        case measure => simp [intOf]; omega
    · obtain rfl : k = L.length := by omega
      have hltz : ¬ (L.length : Int) < (L.length : Int) := by omega
      have hRl : R.length ≤ 1048576 := by have h1 := HRL.out; have h2 := pre_le L L.length; have h3 := HL.out; omega
      have HS0 := hidOf (HS.out.mono (N' := 2000000000000) (by omega))
      have hR0 : Hid (R.length ≤ 1048576) := hidOf hRl
      clear hRl HS HRL
      go_wp2
      go_loopw [9] (fun i wr => ∃ (j : Nat) (R : List Itm), j ≤ 4 ∧ i = .int .i64 (j : Int) ∧ Hid (Sta w.heap.size wr p R 2000000000000) ∧ Hid (R.length ≤ 1048576) ∧ Hid (AK j R) ∧ Hid (FrT w.heap.size TB w wr)) (fun i _ => 4 - (intOf i).toNat)
      case atStart => exact ⟨0, R, by omega, rfl, HS0, hR0, HAK, HF⟩
      case round =>
        obtain ⟨j, R, hj, rfl, HS, HRL, HAK, HF⟩ := hrel
        by_cases hj4 : j < 4
        · have hjz : (j : Int) < 4 := by omega
          go_wp2_with (go_at_call 13; refine (s_ack HS.out (j : Int)).mono ?_; rintro e w2 ⟨he, h1, h2⟩; obtain ⟨rv, hrv⟩ : ∃ y : Int, (if (heldM (j : Int) R).isSome = true then (0 : Int) else 3) = y := ⟨_, rfl⟩; rw [hrv] at he; clear hrv; subst he; have HS2 := hidOf h1; have HF2 := hidOf (HF.out.trans (h2.mono (by decide))); clear h1 h2)
          go_roundw
          case rel => exact ⟨j + 1, ackM j R, by omega, by go_num, HS2, hidOf (Nat.le_trans (ackM_len _ _) HRL.out), hidOf (by have h9 := HAK.out.step HS.out.ok.w; exact h9), HF2⟩
          case measure => simp [intOf]; omega
        · obtain rfl : j = 4 := by omega
          have hjz : ¬ ((4 : Nat) : Int) < 4 := by omega
          have hrl := HRL.out
          have hEr := HE.out.frt HF.out (by decide)
          have HU := hidOf (s_upd HS.out a1 cap1 es hEr (by omega) (by omega))
          have HN0 := hidOf (AK.none (HAK.out.up es))
          clear hEr
          go_wp2_with (go_at_call 9; refine HU.out.mono ?_; rintro e w4 ⟨rfl, h1, h3, h2⟩; have HS4 := hidOf (h1.mono (N' := 2000000000000) (by omega)); have HLE := hidOf (up_len h1.ok HN0.out); have HOF := hidOf (Off.start h1.ok HN0.out); have HF4 := hidOf (HF.out.trans h2); clear h1 h2 h3 HU)
          obtain ⟨J0, hJ0⟩ : ∃ y, y = (upM R es).map (fun x : Itm => x.jb) := ⟨_, rfl⟩
          have HJP : Hid (∀ e ∈ es, e.st = 1 → e.jb ∈ J0) := hidOf (fun e he hs => by rw [hJ0]; exact up_has he hs)
          have HJL : Hid (J0.length ≤ es.length) := hidOf (by rw [hJ0, List.length_map]; exact HLE.out)
          have HJ4 : Hid ((upM R es).map (fun x : Itm => x.jb) = J0) := hidOf hJ0.symm
          generalize upM R es = R4 at HS4 HOF HJ4 HN0
          clear hJ0 HLE HN0 hrl
          go_loopw [10] (fun i wr => ∃ (j : Nat) (R : List Itm), j ≤ 6 ∧ i = .int .i64 (j : Int) ∧ Hid (Sta w.heap.size wr p R (2000000000000 + j * 1048576)) ∧ Hid (R.map (fun x : Itm => x.jb) = J0) ∧ Hid (Off (6 - j) R) ∧ Hid (FrT w.heap.size TB w wr)) (fun i _ => 6 - (intOf i).toNat)
          case atStart => exact ⟨0, R4, by omega, rfl, HS4, HJ4, HOF, HF4⟩
          case round =>
            obtain ⟨j, R, hj, rfl, HS, HJ, HOF, HF⟩ := hrel
            have hRJ : R.length = J0.length := by rw [← HJ.out, List.length_map]
            have hJl := HJL.out
            by_cases hj6 : j < 6
            · have hjz : (j : Int) < 6 := by omega
              go_wp2_with (go_at_call 17; refine (s_tick HS.out (by omega)).mono ?_; rintro e w5 ⟨rfl, h1, h2⟩; have HS5 := hidOf (h1.mono (N' := 2000000000000 + (j + 1) * 1048576) (by omega)); have HF5 := hidOf (HF.out.trans (h2.mono tp_tb)); clear h1 h2)
              go_roundw
              case rel => exact ⟨j + 1, R.map tk1, by omega, by go_num, HS5, hidOf (by rw [tick_jb]; exact HJ.out), hidOf (by have h9 := HOF.out.tick (by omega); rw [show (6 : Int) - ((j + 1 : Nat) : Int) = 6 - (j : Int) - 1 by omega]; exact h9), HF5⟩
              case measure => simp [intOf]; omega
            · obtain rfl : j = 6 := by omega
              have hjz : ¬ ((6 : Nat) : Int) < 6 := by omega
              have HFREE : Hid (∀ x ∈ R, fr x = true) := hidOf (Off.free HOF.out)
              have HNT : Hid (∀ x ∈ R, x.tk = false) := hidOf (fun x hx => (HOF.out x hx).1)
              have HSz := hidOf (HS.out.mono (N' := 3000000000000) (by omega))
              have HRJ := hidOf hRJ
              have HF0 : Hid (FrT w.heap.size (3 :: TB) w wr) := hidOf (HF.out.mono (by decide))
              have HJE : Hid (∀ j ∈ J0, j ∈ ([] : List Int) ∨ ∃ y ∈ R, y.jb = j) := hidOf (fun j hj => .inr (by rw [← HJ.out] at hj; exact (List.mem_map.1 hj)))
              clear hRJ hJl
              go_wp2
              go_loopw [11, 12] (fun o i wr => ∃ (n : Nat) (R : List Itm) (G : List Int) (av : Option Addr) (cv : Nat), i = .int .i64 (n : Int) ∧ o = .slice av n cv ∧ Hid (Sta w.heap.size wr p R 3000000000000) ∧ Hid (R.length + n = J0.length) ∧ Hid (G.length = n) ∧ Hid (∀ x ∈ R, fr x = true) ∧ Hid (∀ x ∈ R, x.tk = false) ∧ Hid (∀ j ∈ J0, j ∈ G ∨ ∃ y ∈ R, y.jb = j) ∧ Hid (wr.ownsRow 0 3 1 (.slice av n cv) n (nums G)) ∧ Hid (∀ q, av = some q → w.heap.size ≤ q.block) ∧ Hid (FrT w.heap.size (3 :: TB) w wr)) (fun _ i _ => es.length + 1 - (intOf i).toNat)
              case atStart => exact ⟨0, R, [], none, 0, rfl, rfl, HSz, HRJ, hidOf rfl, HFREE, HNT, HJE, hidOf ⟨rfl, .inl ⟨rfl, rfl⟩⟩, hidOf (fun q h => by cases h), HF0⟩
              case round =>
                obtain ⟨n, R, G, av, cv, rfl, rfl, HS, HRN, HGN, HFREE, HNT, HJE, HOW, HD, HF⟩ := hrel
                have hnl : n ≤ es.length := by have h1 := HRN.out; have h2 := HJL.out; omega
                have hnz : (n : Int) ≤ (es.length : Int) := by omega
                by_cases hR0 : R = []
                · subst hR0
                  have HDQ := hidOf (s_deq_no HS.out 9 (.inr (fun z hz => absurd hz (by simp))))
                  simp only [zeV] at HDQ
                  have HJG : Hid (∀ j ∈ J0, j ∈ G) := hidOf (fun j hj => (HJE.out j hj).elim id (fun ⟨y, hy, _⟩ => absurd hy (by simp)))
                  go_wp2_with (go_at_call 11; refine HDQ.out.mono ?_; rintro e w6 ⟨rfl, hb6⟩; have HF6 := hidOf ((HF.out.trans (FrT.of_below hb6)).trans (FrT.of_below (below1 w6 (.cells #[.int .i64 0, .int .i64 0, .int .i64 0, .int .i64 0] 42)))); have HO6 := hidOf (own_keepT (D := 0) (T := []) HOW.out (FrT.of_below (hb6.trans ((below1 w6 (.cells #[.int .i64 0, .int .i64 0, .int .i64 0, .int .i64 0] 42)).mono hb6.size))) (by simp)); clear hb6 HDQ)
                  go_loopw [15] (fun i wr => ∃ k : Nat, k ≤ es.length ∧ i = .int .i64 (k : Int) ∧ Hid (wr.ownsRow 0 3 1 (.slice av n cv) n (nums G)) ∧ Hid (FrT w.heap.size (3 :: TB) w wr)) (fun i _ => es.length - (intOf i).toNat)
                  case atStart => exact ⟨0, Nat.zero_le _, rfl, HO6, HF6⟩
                  case round =>
                    obtain ⟨k, hk, rfl, HO7, HF7⟩ := hrel
                    clear HO6 HF6
                    by_cases hlt : k < es.length
                    · have hlz : (k : Int) < (es.length : Int) := by omega
                      obtain ⟨e, he⟩ : ∃ e, es[k]? = some e := ⟨es[k], List.getElem?_eq_getElem hlt⟩
                      have hEr := HE.out.frt HF7.out (by decide)
                      obtain ⟨b0, off, rfl, hbl, _, hcc⟩ := hEr (fun x => by subst x; simp at hlt)
                      obtain ⟨c0, _, c2, _⟩ := hcc k e he
                      have hE0 : ∀ W, FrT w.heap.size (3 :: TB) w W → W.cell? ⟨b0, off + k * 4, none⟩ = some (.int .i64 e.jb) ∧ b0 < W.heap.size := fun W hW => by
                        obtain ⟨b1, off1, h9, hbl1, _, hc1⟩ := (HE.out.frt hW (by decide)) (fun x => by subst x; simp at hlt)
                        cases h9
                        exact ⟨(hc1 k e he).1, hbl1⟩
                      have HE0 := hidOf hE0
                      have HIN := hidOf (fun h => HJG.out e.jb (HJP.out e (List.mem_of_getElem? he) h))
                      clear hcc hEr he hE0
                      by_cases hst : e.st = 1
                      · have hstb : (e.st == 1) = true := by simp [hst]
                        have HFA := hidOf (fo_all (HIN.out hst))
                        rw [HGN.out] at HFA
                        clear hst c0
                        go_wp2
                        go_loopw [16, 17] (fun f i wr => ∃ m : Nat, m ≤ n ∧ i = .int .i64 (m : Int) ∧ f = .bool (fo G m e.jb) ∧ Hid (wr.ownsRow 0 3 1 (.slice av n cv) n (nums G)) ∧ Hid (FrT w.heap.size (3 :: TB) w wr)) (fun _ i _ => n - (intOf i).toNat)
                        case atStart => exact ⟨0, Nat.zero_le _, rfl, by rw [fo_zero], HO7, HF7⟩
                        case round =>
                          obtain ⟨m, hm, rfl, rfl, HO8, HF8⟩ := hrel
                          by_cases hmn : m < n
                          · have hmz : (m : Int) < (n : Int) := by omega
                            obtain ⟨g, hg⟩ : ∃ g, G[m]? = some g := ⟨G[m]'(by have := HGN.out; omega), List.getElem?_eq_getElem (by have := HGN.out; omega)⟩
                            obtain ⟨gb, gc, hgv, hgl, g0⟩ := int_row HO8.out hg HGN.out
                            obtain ⟨rfl, rfl⟩ : av = some ⟨gb, 0, none⟩ ∧ cv = gc := by cases hgv; exact ⟨rfl, rfl⟩
                            obtain ⟨d0, hbl2⟩ := HE0.out wr HF8.out
                            have HFS := hidOf (fo_succ hg e.jb)
                            clear hgv hg
                            cases hfo : fo G m e.jb with
                            | true =>
                              rw [hfo] at HFS
                              clear hfo
                              go_wp2
                              go_region
                              all_goals (
                                go_wp2
                                go_roundw
                                case rel => exact ⟨m + 1, by omega, by go_num, by rw [HFS.out]; rfl, hidOf HO8.out, hidOf HF8.out.drew⟩
                                case measure => simp [intOf]; omega)
                            | false =>
                              rw [hfo] at HFS
                              clear hfo
                              generalize hgj : (g == e.jb) = gj at HFS
                              go_wp2
                              go_region
                              all_goals (
                                go_wp2
                                go_roundw
                                case rel => exact ⟨m + 1, by omega, by go_num, by rw [HFS.out]; simp, hidOf HO8.out, hidOf HF8.out.drew⟩
                                case measure => simp [intOf]; omega)
                          · obtain rfl : m = n := by omega
                            have hmz : ¬ (m : Int) < (m : Int) := by omega
                            rw [HFA.out]
                            go_wp2
                            go_roundw
                            case rel => exact ⟨k + 1, by omega, by go_num, HO8, HF8⟩
                            case measure => simp [intOf]; omega
                      · have hstb : (e.st == 1) = false := by simp [hst]
                        clear hst c0
                        go_wp2
                        go_roundw
                        case rel => exact ⟨k + 1, by omega, by go_num, HO7, HF7⟩
                        case measure => simp [intOf]; omega
                    · obtain rfl : k = es.length := by omega
                      have hlz : ¬ (es.length : Int) < (es.length : Int) := by omega
                      go_wp2_with (go_at_call 22; refine (HLV.out _).mono ?_; rintro e w8 ⟨rfl, hb⟩; have HB := hidOf (HF7.out.trans (FrT.of_below hb)); clear hb)
                      go_ret
                      exact ⟨rfl, HB.out.below (Nat.le_refl _)⟩
                · obtain ⟨z0, hz0⟩ := List.exists_mem_of_ne_nil R hR0
                  have HDQ := hidOf (s_deq_yes HS.out 9 (heldM_none HNT.out) hz0 (HFREE.out z0 hz0) (by omega))
                  simp only [evV] at HDQ
                  have hn1 : n + 1 ≤ 1048576 := by
                    have h1 := HRN.out
                    have h2 := HJL.out
                    have h3 := List.length_pos_iff.2 hR0
                    omega
                  clear hR0 hz0
                  go_upto_region 35 with (go_at_call 11; refine HDQ.out.mono ?_; rintro e w6 ⟨i, x, hm, rfl, h1, h2⟩; have HM := hidOf hm; have HS6 := hidOf (h1.grow (below1 w6 (.cells #[.int .i64 x.jb, .int .i64 x.pr, .int .i64 x.st, .int .i64 x.ix] 42))); have hq9 := heap_alloc_new w6 (.cells #[.int .i64 x.jb, .int .i64 x.pr, .int .i64 x.st, .int .i64 x.ix] 42); obtain ⟨g0, _⟩ := box4 hq9; have HF6 := hidOf ((h2.mono (T' := TB) tp_tb).trans (FrT.of_below (D := w.heap.size) (below1 w6 (.cells #[.int .i64 x.jb, .int .i64 x.pr, .int .i64 x.st, .int .i64 x.ix] 42)))); have HO6 : Hid (∀ o : Obj, ((w6.alloc (.cells #[.int .i64 x.jb, .int .i64 x.pr, .int .i64 x.st, .int .i64 x.ix] 42)).alloc o).ownsRow 0 3 1 (.slice av n cv) n (nums G)) := hidOf (fun o => own_keepT (D := 0) (T := []) (own_keepT HOW.out ((h2.mono (T' := TB) tp_tb).trans (FrT.of_below (below1 w6 (.cells #[.int .i64 x.jb, .int .i64 x.pr, .int .i64 x.st, .int .i64 x.ix] 42)))) (by decide)) (FrT.of_below (below1 _ o)) (by simp)); clear h1 h2 hm hq9 HDQ)
                  have hlx : w6.heap.size < (w6.alloc (.cells #[.int .i64 x.jb, .int .i64 x.pr, .int .i64 x.st, .int .i64 x.ix] 42)).heap.size := by simp
                  go_wp2_with (first
                    | (at_builtin; refine wpList_appP _ rfl _ _ 50 rfl 0 3 i0 (.int .i64 0) 1 8 Try.underlying50 HI.out HZ0.out HZ1.out HZ2.out rfl (by decide) (.slice av n cv) n (nums G) rfl (HO6.out _) ⟨w6.heap.size + 1, 0, none⟩ 1 1 [.int .i64 x.jb] rfl rfl (fun j u hj => by have h9 := cell_news (w6.alloc (.cells #[.int .i64 x.jb, .int .i64 x.pr, .int .i64 x.st, .int .i64 x.ix] 42)) #[.int .i64 x.jb] 3 j u hj; rw [World.size_alloc] at h9; exact h9) (by intro u hu; simp at hu; rw [hu]; rfl) (by unfold maxLen; omega) (by omega) (Nat.zero_le _) ?_; intro v8 w8 ho8 hg8 hv8; obtain ⟨a8, c8, rfl⟩ := own_slice ho8; have hF8 : FrT w.heap.size [3] ((w6.alloc (.cells #[.int .i64 x.jb, .int .i64 x.pr, .int .i64 x.st, .int .i64 x.ix] 42)).alloc (.cells #[.int .i64 x.jb] 3)) w8 := grown_frt (HO6.out _) (fun q hq => by
                          cases av with
                          | none => cases hq
                          | some av => cases hq; exact HD.out _ rfl) hg8; have hFN : FrT w.heap.size [3] (w6.alloc (.cells #[.int .i64 x.jb, .int .i64 x.pr, .int .i64 x.st, .int .i64 x.ix] 42)) w8 := (FrT.of_below (below1 _ _)).trans hF8; have HS8 := hidOf (HS6.out.keepT hFN (by decide)); have HF8 := hidOf ((HF.out.trans (HF6.out.mono (by decide))).trans (hFN.mono (by decide))); have HO8 := hidOf ho8; have HV8 := hidOf hv8; clear ho8 hg8 hv8 hF8 hFN HS6)
                    | (go_at_call 13; refine (s_ack HS8.out 9).mono ?_; rintro e w9 ⟨rfl, h1, h2⟩; rw [if_pos (heldM_set HNT.out HM.out.1).1]; rw [(heldM_set HNT.out HM.out.1).2] at h1; have HS9 := hidOf h1; have HF9 := hidOf (HF8.out.trans (h2.mono (by decide))); have HO9 := hidOf (own_keepT HO8.out h2 (by decide)); clear h1 h2 HS8))
                  have hwn : w.heap.size ≤ w6.heap.size + 1 := by have h1 := HF.out.size; have h2 := HF6.out.size; rw [World.size_alloc] at h2; omega
                  go_roundw
                  case rel => exact ⟨n + 1, R.eraseIdx i, G ++ [x.jb], a8, c8, by go_num, rfl, HS9, hidOf (by have h9 := HRN.out; have h8 := (List.getElem?_eq_some_iff.1 HM.out.1).1; rw [List.length_eraseIdx, if_pos h8]; omega), hidOf (by rw [List.length_append, HGN.out]; rfl), hidOf (fun z hz => HFREE.out z ((List.eraseIdx_sublist ..).mem hz)), hidOf (fun z hz => HNT.out z ((List.eraseIdx_sublist ..).mem hz)), hidOf (fun j hj => by
                      rcases HJE.out j hj with h9 | h9
                      · exact .inl (List.mem_append_left _ h9)
                      · rcases jb_erase HM.out.1 h9 with h8 | h8
                        · exact .inl (by rw [h8]; simp)
                        · exact .inr h8), hidOf (by have h9 := HO9.out; rw [show nums (G ++ [x.jb]) = nums G ++ [.int .i64 x.jb] by simp [nums]]; exact h9), hidOf (fun q hq => by
                      subst hq
                      rcases HV8.out with h9 | h9
                      · cases av with
                        | none => cases h9
                        | some av => have h8 := HD.out _ rfl; have h7 : q.block = av.block := Option.some.inj h9; omega
                      · have h7 : q.block = ((w6.alloc (.cells #[.int .i64 x.jb, .int .i64 x.pr, .int .i64 x.st, .int .i64 x.ix] 42)).alloc (.cells #[.int .i64 x.jb] 3)).heap.size := Option.some.inj h9
                        rw [World.size_alloc, World.size_alloc] at h7
                        omega), HF9⟩
                  case measure => simp [intOf]; omega
end Go.Proofs.Ytndomlbjdppckaa
