/- BrokerOne, walked. -/
import Derived.Test.YtndomlbjdppckaaBli
import Derived.Test.YtndomlbjdppckaaBop
namespace Go.Proofs.Ytndomlbjdppckaa
open Go.RowKit

theorem ackM_len (wk : Int) (R : List Itm) : (ackM wk R).length ≤ R.length := by
  unfold ackM
  split
  · exact (List.eraseIdx_sublist ..).length_le
  · exact Nat.le_refl _
theorem nackM_len (wk : Int) (R : List Itm) : (nackM wk R).length = R.length := by
  unfold nackM
  split <;> simp
theorem held_ne {R : List Itm} (h : Ok R) {a b : Int} {x y : Itm} (ha : heldM a R = some x) (hb : heldM b R = some y) (hne : a ≠ b) : ¬ x.jb = y.jb := by
  intro e
  have hx := List.find?_some ha
  have hy := List.find?_some hb
  simp [_root_.Go.Proofs.Ytndomlbjdppckaa.hb] at hx hy
  obtain ⟨i, hi⟩ := List.mem_iff_getElem?.1 (List.mem_of_find?_eq_some ha)
  obtain ⟨j, hj⟩ := List.mem_iff_getElem?.1 (List.mem_of_find?_eq_some hb)
  have hp := List.pairwise_iff_getElem.1 h.j
  obtain ⟨l1, e1⟩ := List.getElem?_eq_some_iff.1 hi
  obtain ⟨l2, e2⟩ := List.getElem?_eq_some_iff.1 hj
  rcases Nat.lt_trichotomy i j with hl | hl | hl
  · have h9 := hp i j (by simpa using l1) (by simpa using l2) hl
    simp only [List.getElem_map, e1, e2] at h9; exact h9 e
  · subst hl
    rw [hi] at hj
    have := Option.some.inj hj
    subst this
    exact hne (hx.2.symm.trans hy.2)
  · have h9 := hp j i (by simpa using l2) (by simpa using l1) hl
    simp only [List.getElem_map, e1, e2] at h9; exact h9 e.symm
theorem s_deqA {D : Nat} {pB N : Nat} {R : List Itm} {w : World} (h : Sta D w pB R N) (wk : Int) (hN : N ≤ 8796093022208) : Calls Try.prog 11 #[.pointer (some ⟨pB, 0, none⟩), .int .i64 wk] w fun e w' => ∃ R2 v b, e = .returned (.tuple #[v, .bool b]) ∧ Sta D w' pB R2 N ∧ R2.length = R.length ∧ FrT D TB w w' := by
  cases hh : heldM wk R with
  | some y =>
    refine (s_deq_no h wk (.inl (by rw [hh]; rfl))).mono ?_
    rintro e w' ⟨rfl, hb⟩
    exact ⟨R, _, _, rfl, h.grow hb, rfl, FrT.of_below hb⟩
  | none =>
    by_cases hz : ∃ z ∈ R, fr z = true
    · obtain ⟨z, hz, hf⟩ := hz
      refine (s_deq_yes h wk hh hz hf hN).mono ?_
      rintro e w' ⟨i, x, hm, rfl, h1, h2⟩
      exact ⟨_, _, _, rfl, h1, by simp, h2.mono tp_tb⟩
    · refine (s_deq_no h wk (.inr (fun z hzz => ?_))).mono ?_
      · cases hf : fr z with
        | false => rfl
        | true => exact absurd ⟨z, hzz, hf⟩ hz
      · rintro e w' ⟨rfl, hb⟩
        exact ⟨R, _, _, rfl, h.grow hb, rfl, FrT.of_below hb⟩

set_option maxHeartbeats 16000000 in
set_option maxRecDepth 100000 in
theorem lawOne (a : Option Addr) (cap : Nat) (L : List Dee) (w : World) (hO : Dees w a L) (hL : wt L ≤ 1048576) : Calls Try.prog 4 #[.slice a L.length cap] w fun e w' => e = .returned (.bool true) ∧ Below w.heap.size w w' := by
  have HO := hidOf hO
  have HL := hidOf hL
  have HLV := hidOf lives_any
  have HC := hidOf (s_new (D := w.heap.size) w (Nat.le_refl _))
  simp only [ptr] at HC
  have hll : L.length ≤ 1048576 := by have := wt_len L; omega
  clear hO hL
  go_enter Try.func4, Try.ntmps4
  go_wp2_with (go_at_call 7; refine HC.out.mono ?_; rintro e w1 ⟨p, rfl, h1, h2⟩; have H1 := hidOf h1; have HF1 := hidOf h2; clear h1 h2 HC)
  go_loopw [4] (fun i wr => ∃ (k : Nat) (R : List Itm), k ≤ L.length ∧ i = .int .i64 (k : Int) ∧ Hid (Sta w.heap.size wr p R (k * 1048577)) ∧ Hid (R.length ≤ pre L k) ∧ Hid (FrT w.heap.size TB w wr)) (fun i _ => L.length - (intOf i).toNat)
  case atStart => exact ⟨0, [], Nat.zero_le _, rfl, H1, hidOf (Nat.zero_le _), HF1⟩
  case round =>
    obtain ⟨k, R, hk, rfl, HS, HRL, HF⟩ := hrel
    clear H1 HF1
    by_cases hlt : k < L.length
    · have hltz : (k : Int) < (L.length : Int) := by omega
      obtain ⟨b, off, hab, hbl, c0, c1, c2, hB⟩ := HO.out.at (HF.out.below (Nat.le_refl _)) k hlt
      subst hab
      have HPS := hidOf (pre_succ L k hlt)
      obtain ⟨x, hx⟩ : ∃ x, x = dt L k := ⟨_, rfl⟩
      rw [← hx] at c0 c1 c2 hB HPS
      have hbw : b < wr.heap.size := Nat.lt_of_lt_of_le hbl HF.out.size
      have hp1 := pre_le L (k + 1)
      have hp2 := HL.out
      have hp3 := HPS.out
      have hp4 := HRL.out
      have hwl := wt_len L
      have HFA : Hid (FrT w.heap.size TB w (wr.alloc (.cells #[.int .i64 x.kd, .int .i64 x.wk, .slice x.xa x.D.length x.xc] 31))) := hidOf (HF.out.trans (FrT.of_below (below1 _ _)))
      have HSA : Hid (Sta w.heap.size (wr.alloc (.cells #[.int .i64 x.kd, .int .i64 x.wk, .slice x.xa x.D.length x.xc] 31)) p R (k * 1048577)) := hidOf (HS.out.grow (below1 _ _))
      have HEV : Hid (EvR w.heap.size (wr.alloc (.cells #[.int .i64 x.kd, .int .i64 x.wk, .slice x.xa x.D.length x.xc] 31)) x.xa x.D) := hidOf (hB.2.frt HFA.out (by decide))
      have HRG : Hid (rng x.kd ∧ rng x.wk) := hidOf hB.1
      clear hx hB hbl
      have hxl : x.D.length ≤ 1048576 := by omega
      have hRl : R.length ≤ 1048576 := by omega
      have hkl : k ≤ 1048576 := by omega
      obtain ⟨hw0, hw4⟩ := pkM_rng x.wk 4 (by omega)
      have HPW := hidOf (fun W => pick_any x.wk 4 HRG.out.2 (by omega) (by omega) W)
      have HWZ := hidOf (And.intro hw0 hw4)
      generalize pkM x.wk 4 = wz at HPW HWZ
      clear hw0 hw4
      obtain ⟨hq0, hq5⟩ := pkM_rng x.kd 5 (by omega)
      have hkk5 : pkM x.kd 5 = 0 ∨ pkM x.kd 5 = 1 ∨ pkM x.kd 5 = 2 ∨ pkM x.kd 5 = 3 ∨ pkM x.kd 5 = 4 := by omega
      clear hq0 hq5
      rcases hkk5 with hk5 | hk5 | hk5 | hk5 | hk5
      · have HPK := hidOf (fun W => (by have h9 := pick_any x.kd 5 HRG.out.1 (by omega) (by omega) W; rw [hk5] at h9; exact h9 : Calls Try.prog 8 #[.int .i64 x.kd, .int .i64 5] W fun e w' => e = .returned (.int .i64 0) ∧ w' = W))
        clear hk5
        go_wp2_with (first | (go_at_call 8; refine (HPW.out _).mono ?_; rintro e w9 ⟨rfl, h9⟩; subst w9; clear HPW) | (go_at_call 8; refine (HPK.out _).mono ?_; rintro e w9 ⟨rfl, h9⟩; subst w9) | (go_at_call 9; refine (s_upd HSA.out x.xa x.xc x.D HEV.out (by omega) (by omega)).mono ?_; rintro e w2 ⟨rfl, h1, h3, h2⟩; have HS2 := hidOf (h1.mono (N' := (k + 1) * 1048577) (by omega)); have HL2 : Hid ((upM R x.D).length ≤ pre L (k + 1)) := hidOf (by rw [HPS.out]; omega); have HF2 := hidOf (HFA.out.trans h2); clear h1 h2 h3))
        generalize (upM R x.D) = R2 at HS2 HL2
        go_loopw [7] (fun n wr => ∃ nn : Nat, nn ≤ 4 ∧ n = .int .i64 (nn : Int) ∧ Hid (Sta w.heap.size wr p R2 ((k + 1) * 1048577)) ∧ Hid (FrT w.heap.size TB w wr)) (fun n _ => 4 - (intOf n).toNat)
        case atStart => exact ⟨0, by omega, rfl, HS2, HF2⟩
        case round =>
          obtain ⟨nn, hnn, rfl, HS4, HF4⟩ := hrel
          by_cases hn4 : nn < 4
          · have hnz : (nn : Int) < 4 := by omega
            go_wp2
            go_loopw [8] (fun n wr => ∃ kk : Nat, kk ≤ nn ∧ n = .int .i64 (kk : Int) ∧ Hid (Sta w.heap.size wr p R2 ((k + 1) * 1048577)) ∧ Hid (FrT w.heap.size TB w wr)) (fun n _ => nn - (intOf n).toNat)
            case atStart => exact ⟨0, by omega, rfl, HS4, HF4⟩
            case round =>
              obtain ⟨kk, hkk, rfl, HS5, HF5⟩ := hrel
              by_cases hkn : kk < nn
              · have hkz : (kk : Int) < (nn : Int) := by omega
                cases ho1 : heldM (nn : Int) R2 with
                | none =>
                  have HO1 := hidOf ho1
                  clear ho1
                  cases ho2 : heldM (kk : Int) R2 with
                  | none =>
                    have HO2 := hidOf ho2
                    clear ho2
                    have HA := hidOf (fun W (h : Sta w.heap.size W p R2 ((k + 1) * 1048577)) => (by have h9 := s_held h (nn : Int); rw [HO1.out] at h9; exact h9 : Calls Try.prog 19 #[.pointer (some ⟨p, 0, none⟩), .int .i64 nn] W fun e w' => e = .returned (.tuple #[.agg #[.int .i64 0, .int .i64 0, .int .i64 0, .int .i64 0], .bool false]) ∧ Below W.heap.size W w'))
                    have HB := hidOf (fun W (h : Sta w.heap.size W p R2 ((k + 1) * 1048577)) => (by have h9 := s_held h (kk : Int); rw [HO2.out] at h9; exact h9 : Calls Try.prog 19 #[.pointer (some ⟨p, 0, none⟩), .int .i64 kk] W fun e w' => e = .returned (.tuple #[.agg #[.int .i64 0, .int .i64 0, .int .i64 0, .int .i64 0], .bool false]) ∧ Below W.heap.size W w'))
                    go_wp2_with (first | (go_at_call 19; refine (HA.out _ HS5.out).mono ?_; rintro e w6 ⟨rfl, hb6⟩; have HS6 := hidOf ((HS5.out.grow hb6).grow (below1 w6 (.cells #[.int .i64 0, .int .i64 0, .int .i64 0, .int .i64 0] 42))); have HB6 := hidOf (hb6.trans ((below1 w6 (.cells #[.int .i64 0, .int .i64 0, .int .i64 0, .int .i64 0] 42)).mono hb6.size)); have hq6 := heap_alloc_new w6 (.cells #[.int .i64 0, .int .i64 0, .int .i64 0, .int .i64 0] 42); have HQ6 := hidOf hq6; clear hb6 hq6 HS5 HA) | (go_at_call 19; refine (HB.out _ HS6.out).mono ?_; rintro e w7 ⟨rfl, hb7⟩; have hq7 := ((below1 w7 (.cells #[.int .i64 0, .int .i64 0, .int .i64 0, .int .i64 0] 42)).block _ (by have h9 := heap_lt HQ6.out; exact Nat.lt_of_lt_of_le h9 hb7.size)).trans ((hb7.block _ (heap_lt HQ6.out)).trans HQ6.out); obtain ⟨g0, _⟩ := box4 hq7; have hl7 : w6.heap.size < w7.heap.size := (Nat.lt_of_lt_of_le (heap_lt HQ6.out) hb7.size); have HS7 := hidOf ((HS6.out.grow hb7).grow (below1 w7 (.cells #[.int .i64 0, .int .i64 0, .int .i64 0, .int .i64 0] 42))); have HB7 := hidOf ((HB6.out.trans (hb7.mono HB6.out.size)).trans ((below1 w7 (.cells #[.int .i64 0, .int .i64 0, .int .i64 0, .int .i64 0] 42)).mono (Nat.le_trans HB6.out.size hb7.size))); clear hb7 hq7))
                    go_roundw
                    case rel => exact ⟨kk + 1, by omega, by go_num, HS7, hidOf (HF5.out.trans (FrT.of_below HB7.out))⟩
                    case measure => simp [intOf]; omega
                  | some x2 =>
                    have HO2 := hidOf ho2
                    clear ho2
                    have HA := hidOf (fun W (h : Sta w.heap.size W p R2 ((k + 1) * 1048577)) => (by have h9 := s_held h (nn : Int); rw [HO1.out] at h9; exact h9 : Calls Try.prog 19 #[.pointer (some ⟨p, 0, none⟩), .int .i64 nn] W fun e w' => e = .returned (.tuple #[.agg #[.int .i64 0, .int .i64 0, .int .i64 0, .int .i64 0], .bool false]) ∧ Below W.heap.size W w'))
                    have HB := hidOf (fun W (h : Sta w.heap.size W p R2 ((k + 1) * 1048577)) => (by have h9 := s_held h (kk : Int); rw [HO2.out] at h9; exact h9 : Calls Try.prog 19 #[.pointer (some ⟨p, 0, none⟩), .int .i64 kk] W fun e w' => e = .returned (.tuple #[.agg #[.int .i64 x2.jb, .int .i64 x2.pr, .int .i64 x2.st, .int .i64 x2.ix], .bool true]) ∧ Below W.heap.size W w'))
                    go_wp2_with (first | (go_at_call 19; refine (HA.out _ HS5.out).mono ?_; rintro e w6 ⟨rfl, hb6⟩; have HS6 := hidOf ((HS5.out.grow hb6).grow (below1 w6 (.cells #[.int .i64 0, .int .i64 0, .int .i64 0, .int .i64 0] 42))); have HB6 := hidOf (hb6.trans ((below1 w6 (.cells #[.int .i64 0, .int .i64 0, .int .i64 0, .int .i64 0] 42)).mono hb6.size)); have hq6 := heap_alloc_new w6 (.cells #[.int .i64 0, .int .i64 0, .int .i64 0, .int .i64 0] 42); have HQ6 := hidOf hq6; clear hb6 hq6 HS5 HA) | (go_at_call 19; refine (HB.out _ HS6.out).mono ?_; rintro e w7 ⟨rfl, hb7⟩; have hq7 := ((below1 w7 (.cells #[.int .i64 x2.jb, .int .i64 x2.pr, .int .i64 x2.st, .int .i64 x2.ix] 42)).block _ (by have h9 := heap_lt HQ6.out; exact Nat.lt_of_lt_of_le h9 hb7.size)).trans ((hb7.block _ (heap_lt HQ6.out)).trans HQ6.out); obtain ⟨g0, _⟩ := box4 hq7; have hl7 : w6.heap.size < w7.heap.size := (Nat.lt_of_lt_of_le (heap_lt HQ6.out) hb7.size); have HS7 := hidOf ((HS6.out.grow hb7).grow (below1 w7 (.cells #[.int .i64 x2.jb, .int .i64 x2.pr, .int .i64 x2.st, .int .i64 x2.ix] 42))); have HB7 := hidOf ((HB6.out.trans (hb7.mono HB6.out.size)).trans ((below1 w7 (.cells #[.int .i64 x2.jb, .int .i64 x2.pr, .int .i64 x2.st, .int .i64 x2.ix] 42)).mono (Nat.le_trans HB6.out.size hb7.size))); clear hb7 hq7))
                    go_roundw
                    case rel => exact ⟨kk + 1, by omega, by go_num, HS7, hidOf (HF5.out.trans (FrT.of_below HB7.out))⟩
                    case measure => simp [intOf]; omega
                | some x1 =>
                  have HO1 := hidOf ho1
                  clear ho1
                  cases ho2 : heldM (kk : Int) R2 with
                  | none =>
                    have HO2 := hidOf ho2
                    clear ho2
                    have HA := hidOf (fun W (h : Sta w.heap.size W p R2 ((k + 1) * 1048577)) => (by have h9 := s_held h (nn : Int); rw [HO1.out] at h9; exact h9 : Calls Try.prog 19 #[.pointer (some ⟨p, 0, none⟩), .int .i64 nn] W fun e w' => e = .returned (.tuple #[.agg #[.int .i64 x1.jb, .int .i64 x1.pr, .int .i64 x1.st, .int .i64 x1.ix], .bool true]) ∧ Below W.heap.size W w'))
                    have HB := hidOf (fun W (h : Sta w.heap.size W p R2 ((k + 1) * 1048577)) => (by have h9 := s_held h (kk : Int); rw [HO2.out] at h9; exact h9 : Calls Try.prog 19 #[.pointer (some ⟨p, 0, none⟩), .int .i64 kk] W fun e w' => e = .returned (.tuple #[.agg #[.int .i64 0, .int .i64 0, .int .i64 0, .int .i64 0], .bool false]) ∧ Below W.heap.size W w'))
                    go_wp2_with (first | (go_at_call 19; refine (HA.out _ HS5.out).mono ?_; rintro e w6 ⟨rfl, hb6⟩; have HS6 := hidOf ((HS5.out.grow hb6).grow (below1 w6 (.cells #[.int .i64 x1.jb, .int .i64 x1.pr, .int .i64 x1.st, .int .i64 x1.ix] 42))); have HB6 := hidOf (hb6.trans ((below1 w6 (.cells #[.int .i64 x1.jb, .int .i64 x1.pr, .int .i64 x1.st, .int .i64 x1.ix] 42)).mono hb6.size)); have hq6 := heap_alloc_new w6 (.cells #[.int .i64 x1.jb, .int .i64 x1.pr, .int .i64 x1.st, .int .i64 x1.ix] 42); have HQ6 := hidOf hq6; clear hb6 hq6 HS5 HA) | (go_at_call 19; refine (HB.out _ HS6.out).mono ?_; rintro e w7 ⟨rfl, hb7⟩; have hq7 := ((below1 w7 (.cells #[.int .i64 0, .int .i64 0, .int .i64 0, .int .i64 0] 42)).block _ (by have h9 := heap_lt HQ6.out; exact Nat.lt_of_lt_of_le h9 hb7.size)).trans ((hb7.block _ (heap_lt HQ6.out)).trans HQ6.out); obtain ⟨g0, _⟩ := box4 hq7; have hl7 : w6.heap.size < w7.heap.size := (Nat.lt_of_lt_of_le (heap_lt HQ6.out) hb7.size); have HS7 := hidOf ((HS6.out.grow hb7).grow (below1 w7 (.cells #[.int .i64 0, .int .i64 0, .int .i64 0, .int .i64 0] 42))); have HB7 := hidOf ((HB6.out.trans (hb7.mono HB6.out.size)).trans ((below1 w7 (.cells #[.int .i64 0, .int .i64 0, .int .i64 0, .int .i64 0] 42)).mono (Nat.le_trans HB6.out.size hb7.size))); clear hb7 hq7))
                    go_roundw
                    case rel => exact ⟨kk + 1, by omega, by go_num, HS7, hidOf (HF5.out.trans (FrT.of_below HB7.out))⟩
                    case measure => simp [intOf]; omega
                  | some x2 =>
                    have HO2 := hidOf ho2
                    clear ho2
                    have hjne : (x1.jb == x2.jb) = false := by simp; exact held_ne HS5.out.ok HO1.out HO2.out (by omega)
                    have HA := hidOf (fun W (h : Sta w.heap.size W p R2 ((k + 1) * 1048577)) => (by have h9 := s_held h (nn : Int); rw [HO1.out] at h9; exact h9 : Calls Try.prog 19 #[.pointer (some ⟨p, 0, none⟩), .int .i64 nn] W fun e w' => e = .returned (.tuple #[.agg #[.int .i64 x1.jb, .int .i64 x1.pr, .int .i64 x1.st, .int .i64 x1.ix], .bool true]) ∧ Below W.heap.size W w'))
                    have HB := hidOf (fun W (h : Sta w.heap.size W p R2 ((k + 1) * 1048577)) => (by have h9 := s_held h (kk : Int); rw [HO2.out] at h9; exact h9 : Calls Try.prog 19 #[.pointer (some ⟨p, 0, none⟩), .int .i64 kk] W fun e w' => e = .returned (.tuple #[.agg #[.int .i64 x2.jb, .int .i64 x2.pr, .int .i64 x2.st, .int .i64 x2.ix], .bool true]) ∧ Below W.heap.size W w'))
                    go_wp2_with (first | (go_at_call 19; refine (HA.out _ HS5.out).mono ?_; rintro e w6 ⟨rfl, hb6⟩; have HS6 := hidOf ((HS5.out.grow hb6).grow (below1 w6 (.cells #[.int .i64 x1.jb, .int .i64 x1.pr, .int .i64 x1.st, .int .i64 x1.ix] 42))); have HB6 := hidOf (hb6.trans ((below1 w6 (.cells #[.int .i64 x1.jb, .int .i64 x1.pr, .int .i64 x1.st, .int .i64 x1.ix] 42)).mono hb6.size)); have hq6 := heap_alloc_new w6 (.cells #[.int .i64 x1.jb, .int .i64 x1.pr, .int .i64 x1.st, .int .i64 x1.ix] 42); have HQ6 := hidOf hq6; clear hb6 hq6 HS5 HA) | (go_at_call 19; refine (HB.out _ HS6.out).mono ?_; rintro e w7 ⟨rfl, hb7⟩; have hq7 := ((below1 w7 (.cells #[.int .i64 x2.jb, .int .i64 x2.pr, .int .i64 x2.st, .int .i64 x2.ix] 42)).block _ (by have h9 := heap_lt HQ6.out; exact Nat.lt_of_lt_of_le h9 hb7.size)).trans ((hb7.block _ (heap_lt HQ6.out)).trans HQ6.out); obtain ⟨g0, _⟩ := box4 hq7; have hl7 : w6.heap.size < w7.heap.size := (Nat.lt_of_lt_of_le (heap_lt HQ6.out) hb7.size); have HS7 := hidOf ((HS6.out.grow hb7).grow (below1 w7 (.cells #[.int .i64 x2.jb, .int .i64 x2.pr, .int .i64 x2.st, .int .i64 x2.ix] 42))); have HB7 := hidOf ((HB6.out.trans (hb7.mono HB6.out.size)).trans ((below1 w7 (.cells #[.int .i64 x2.jb, .int .i64 x2.pr, .int .i64 x2.st, .int .i64 x2.ix] 42)).mono (Nat.le_trans HB6.out.size hb7.size))); clear hb7 hq7))
                    go_roundw
                    case rel => exact ⟨kk + 1, by omega, by go_num, HS7, hidOf (HF5.out.trans (FrT.of_below HB7.out))⟩
                    case measure => simp [intOf]; omega
              · obtain rfl : kk = nn := by omega
                have hkz : ¬ (kk : Int) < (kk : Int) := by omega
                go_wp2
                go_roundw
                case rel => exact ⟨kk + 1, by omega, by go_num, HS5, HF5⟩
                case measure => simp [intOf]; omega
          · obtain rfl : nn = 4 := by omega
            have hnz : ¬ ((4 : Nat) : Int) < 4 := by omega
            go_wp2
            go_roundw
            case rel => exact ⟨k + 1, R2, by omega, by go_num, HS4, HL2, HF4⟩
            case measure => simp [intOf]; omega
      · have HPK := hidOf (fun W => (by have h9 := pick_any x.kd 5 HRG.out.1 (by omega) (by omega) W; rw [hk5] at h9; exact h9 : Calls Try.prog 8 #[.int .i64 x.kd, .int .i64 5] W fun e w' => e = .returned (.int .i64 1) ∧ w' = W))
        clear hk5
        go_wp2_with (first | (go_at_call 8; refine (HPW.out _).mono ?_; rintro e w9 ⟨rfl, h9⟩; subst w9; clear HPW) | (go_at_call 8; refine (HPK.out _).mono ?_; rintro e w9 ⟨rfl, h9⟩; subst w9) | (go_at_call 11; refine (s_deqA HSA.out wz (by omega)).mono ?_; rintro e w2 ⟨R2, v2, b2, rfl, h1, h3, h2⟩; have HS2 := hidOf (h1.mono (N' := (k + 1) * 1048577) (by omega)); have HL2 : Hid (R2.length ≤ pre L (k + 1)) := hidOf (by rw [HPS.out]; omega); have HF2 := hidOf (HFA.out.trans h2); clear h1 h2 h3))
        go_loopw [7] (fun n wr => ∃ nn : Nat, nn ≤ 4 ∧ n = .int .i64 (nn : Int) ∧ Hid (Sta w.heap.size wr p R2 ((k + 1) * 1048577)) ∧ Hid (FrT w.heap.size TB w wr)) (fun n _ => 4 - (intOf n).toNat)
        case atStart => exact ⟨0, by omega, rfl, HS2, HF2⟩
        case round =>
          obtain ⟨nn, hnn, rfl, HS4, HF4⟩ := hrel
          by_cases hn4 : nn < 4
          · have hnz : (nn : Int) < 4 := by omega
            go_wp2
            go_loopw [8] (fun n wr => ∃ kk : Nat, kk ≤ nn ∧ n = .int .i64 (kk : Int) ∧ Hid (Sta w.heap.size wr p R2 ((k + 1) * 1048577)) ∧ Hid (FrT w.heap.size TB w wr)) (fun n _ => nn - (intOf n).toNat)
            case atStart => exact ⟨0, by omega, rfl, HS4, HF4⟩
            case round =>
              obtain ⟨kk, hkk, rfl, HS5, HF5⟩ := hrel
              by_cases hkn : kk < nn
              · have hkz : (kk : Int) < (nn : Int) := by omega
                cases ho1 : heldM (nn : Int) R2 with
                | none =>
                  have HO1 := hidOf ho1
                  clear ho1
                  cases ho2 : heldM (kk : Int) R2 with
                  | none =>
                    have HO2 := hidOf ho2
                    clear ho2
                    have HA := hidOf (fun W (h : Sta w.heap.size W p R2 ((k + 1) * 1048577)) => (by have h9 := s_held h (nn : Int); rw [HO1.out] at h9; exact h9 : Calls Try.prog 19 #[.pointer (some ⟨p, 0, none⟩), .int .i64 nn] W fun e w' => e = .returned (.tuple #[.agg #[.int .i64 0, .int .i64 0, .int .i64 0, .int .i64 0], .bool false]) ∧ Below W.heap.size W w'))
                    have HB := hidOf (fun W (h : Sta w.heap.size W p R2 ((k + 1) * 1048577)) => (by have h9 := s_held h (kk : Int); rw [HO2.out] at h9; exact h9 : Calls Try.prog 19 #[.pointer (some ⟨p, 0, none⟩), .int .i64 kk] W fun e w' => e = .returned (.tuple #[.agg #[.int .i64 0, .int .i64 0, .int .i64 0, .int .i64 0], .bool false]) ∧ Below W.heap.size W w'))
                    go_wp2_with (first | (go_at_call 19; refine (HA.out _ HS5.out).mono ?_; rintro e w6 ⟨rfl, hb6⟩; have HS6 := hidOf ((HS5.out.grow hb6).grow (below1 w6 (.cells #[.int .i64 0, .int .i64 0, .int .i64 0, .int .i64 0] 42))); have HB6 := hidOf (hb6.trans ((below1 w6 (.cells #[.int .i64 0, .int .i64 0, .int .i64 0, .int .i64 0] 42)).mono hb6.size)); have hq6 := heap_alloc_new w6 (.cells #[.int .i64 0, .int .i64 0, .int .i64 0, .int .i64 0] 42); have HQ6 := hidOf hq6; clear hb6 hq6 HS5 HA) | (go_at_call 19; refine (HB.out _ HS6.out).mono ?_; rintro e w7 ⟨rfl, hb7⟩; have hq7 := ((below1 w7 (.cells #[.int .i64 0, .int .i64 0, .int .i64 0, .int .i64 0] 42)).block _ (by have h9 := heap_lt HQ6.out; exact Nat.lt_of_lt_of_le h9 hb7.size)).trans ((hb7.block _ (heap_lt HQ6.out)).trans HQ6.out); obtain ⟨g0, _⟩ := box4 hq7; have hl7 : w6.heap.size < w7.heap.size := (Nat.lt_of_lt_of_le (heap_lt HQ6.out) hb7.size); have HS7 := hidOf ((HS6.out.grow hb7).grow (below1 w7 (.cells #[.int .i64 0, .int .i64 0, .int .i64 0, .int .i64 0] 42))); have HB7 := hidOf ((HB6.out.trans (hb7.mono HB6.out.size)).trans ((below1 w7 (.cells #[.int .i64 0, .int .i64 0, .int .i64 0, .int .i64 0] 42)).mono (Nat.le_trans HB6.out.size hb7.size))); clear hb7 hq7))
                    go_roundw
                    case rel => exact ⟨kk + 1, by omega, by go_num, HS7, hidOf (HF5.out.trans (FrT.of_below HB7.out))⟩
                    case measure => simp [intOf]; omega
                  | some x2 =>
                    have HO2 := hidOf ho2
                    clear ho2
                    have HA := hidOf (fun W (h : Sta w.heap.size W p R2 ((k + 1) * 1048577)) => (by have h9 := s_held h (nn : Int); rw [HO1.out] at h9; exact h9 : Calls Try.prog 19 #[.pointer (some ⟨p, 0, none⟩), .int .i64 nn] W fun e w' => e = .returned (.tuple #[.agg #[.int .i64 0, .int .i64 0, .int .i64 0, .int .i64 0], .bool false]) ∧ Below W.heap.size W w'))
                    have HB := hidOf (fun W (h : Sta w.heap.size W p R2 ((k + 1) * 1048577)) => (by have h9 := s_held h (kk : Int); rw [HO2.out] at h9; exact h9 : Calls Try.prog 19 #[.pointer (some ⟨p, 0, none⟩), .int .i64 kk] W fun e w' => e = .returned (.tuple #[.agg #[.int .i64 x2.jb, .int .i64 x2.pr, .int .i64 x2.st, .int .i64 x2.ix], .bool true]) ∧ Below W.heap.size W w'))
                    go_wp2_with (first | (go_at_call 19; refine (HA.out _ HS5.out).mono ?_; rintro e w6 ⟨rfl, hb6⟩; have HS6 := hidOf ((HS5.out.grow hb6).grow (below1 w6 (.cells #[.int .i64 0, .int .i64 0, .int .i64 0, .int .i64 0] 42))); have HB6 := hidOf (hb6.trans ((below1 w6 (.cells #[.int .i64 0, .int .i64 0, .int .i64 0, .int .i64 0] 42)).mono hb6.size)); have hq6 := heap_alloc_new w6 (.cells #[.int .i64 0, .int .i64 0, .int .i64 0, .int .i64 0] 42); have HQ6 := hidOf hq6; clear hb6 hq6 HS5 HA) | (go_at_call 19; refine (HB.out _ HS6.out).mono ?_; rintro e w7 ⟨rfl, hb7⟩; have hq7 := ((below1 w7 (.cells #[.int .i64 x2.jb, .int .i64 x2.pr, .int .i64 x2.st, .int .i64 x2.ix] 42)).block _ (by have h9 := heap_lt HQ6.out; exact Nat.lt_of_lt_of_le h9 hb7.size)).trans ((hb7.block _ (heap_lt HQ6.out)).trans HQ6.out); obtain ⟨g0, _⟩ := box4 hq7; have hl7 : w6.heap.size < w7.heap.size := (Nat.lt_of_lt_of_le (heap_lt HQ6.out) hb7.size); have HS7 := hidOf ((HS6.out.grow hb7).grow (below1 w7 (.cells #[.int .i64 x2.jb, .int .i64 x2.pr, .int .i64 x2.st, .int .i64 x2.ix] 42))); have HB7 := hidOf ((HB6.out.trans (hb7.mono HB6.out.size)).trans ((below1 w7 (.cells #[.int .i64 x2.jb, .int .i64 x2.pr, .int .i64 x2.st, .int .i64 x2.ix] 42)).mono (Nat.le_trans HB6.out.size hb7.size))); clear hb7 hq7))
                    go_roundw
                    case rel => exact ⟨kk + 1, by omega, by go_num, HS7, hidOf (HF5.out.trans (FrT.of_below HB7.out))⟩
                    case measure => simp [intOf]; omega
                | some x1 =>
                  have HO1 := hidOf ho1
                  clear ho1
                  cases ho2 : heldM (kk : Int) R2 with
                  | none =>
                    have HO2 := hidOf ho2
                    clear ho2
                    have HA := hidOf (fun W (h : Sta w.heap.size W p R2 ((k + 1) * 1048577)) => (by have h9 := s_held h (nn : Int); rw [HO1.out] at h9; exact h9 : Calls Try.prog 19 #[.pointer (some ⟨p, 0, none⟩), .int .i64 nn] W fun e w' => e = .returned (.tuple #[.agg #[.int .i64 x1.jb, .int .i64 x1.pr, .int .i64 x1.st, .int .i64 x1.ix], .bool true]) ∧ Below W.heap.size W w'))
                    have HB := hidOf (fun W (h : Sta w.heap.size W p R2 ((k + 1) * 1048577)) => (by have h9 := s_held h (kk : Int); rw [HO2.out] at h9; exact h9 : Calls Try.prog 19 #[.pointer (some ⟨p, 0, none⟩), .int .i64 kk] W fun e w' => e = .returned (.tuple #[.agg #[.int .i64 0, .int .i64 0, .int .i64 0, .int .i64 0], .bool false]) ∧ Below W.heap.size W w'))
                    go_wp2_with (first | (go_at_call 19; refine (HA.out _ HS5.out).mono ?_; rintro e w6 ⟨rfl, hb6⟩; have HS6 := hidOf ((HS5.out.grow hb6).grow (below1 w6 (.cells #[.int .i64 x1.jb, .int .i64 x1.pr, .int .i64 x1.st, .int .i64 x1.ix] 42))); have HB6 := hidOf (hb6.trans ((below1 w6 (.cells #[.int .i64 x1.jb, .int .i64 x1.pr, .int .i64 x1.st, .int .i64 x1.ix] 42)).mono hb6.size)); have hq6 := heap_alloc_new w6 (.cells #[.int .i64 x1.jb, .int .i64 x1.pr, .int .i64 x1.st, .int .i64 x1.ix] 42); have HQ6 := hidOf hq6; clear hb6 hq6 HS5 HA) | (go_at_call 19; refine (HB.out _ HS6.out).mono ?_; rintro e w7 ⟨rfl, hb7⟩; have hq7 := ((below1 w7 (.cells #[.int .i64 0, .int .i64 0, .int .i64 0, .int .i64 0] 42)).block _ (by have h9 := heap_lt HQ6.out; exact Nat.lt_of_lt_of_le h9 hb7.size)).trans ((hb7.block _ (heap_lt HQ6.out)).trans HQ6.out); obtain ⟨g0, _⟩ := box4 hq7; have hl7 : w6.heap.size < w7.heap.size := (Nat.lt_of_lt_of_le (heap_lt HQ6.out) hb7.size); have HS7 := hidOf ((HS6.out.grow hb7).grow (below1 w7 (.cells #[.int .i64 0, .int .i64 0, .int .i64 0, .int .i64 0] 42))); have HB7 := hidOf ((HB6.out.trans (hb7.mono HB6.out.size)).trans ((below1 w7 (.cells #[.int .i64 0, .int .i64 0, .int .i64 0, .int .i64 0] 42)).mono (Nat.le_trans HB6.out.size hb7.size))); clear hb7 hq7))
                    go_roundw
                    case rel => exact ⟨kk + 1, by omega, by go_num, HS7, hidOf (HF5.out.trans (FrT.of_below HB7.out))⟩
                    case measure => simp [intOf]; omega
                  | some x2 =>
                    have HO2 := hidOf ho2
                    clear ho2
                    have hjne : (x1.jb == x2.jb) = false := by simp; exact held_ne HS5.out.ok HO1.out HO2.out (by omega)
                    have HA := hidOf (fun W (h : Sta w.heap.size W p R2 ((k + 1) * 1048577)) => (by have h9 := s_held h (nn : Int); rw [HO1.out] at h9; exact h9 : Calls Try.prog 19 #[.pointer (some ⟨p, 0, none⟩), .int .i64 nn] W fun e w' => e = .returned (.tuple #[.agg #[.int .i64 x1.jb, .int .i64 x1.pr, .int .i64 x1.st, .int .i64 x1.ix], .bool true]) ∧ Below W.heap.size W w'))
                    have HB := hidOf (fun W (h : Sta w.heap.size W p R2 ((k + 1) * 1048577)) => (by have h9 := s_held h (kk : Int); rw [HO2.out] at h9; exact h9 : Calls Try.prog 19 #[.pointer (some ⟨p, 0, none⟩), .int .i64 kk] W fun e w' => e = .returned (.tuple #[.agg #[.int .i64 x2.jb, .int .i64 x2.pr, .int .i64 x2.st, .int .i64 x2.ix], .bool true]) ∧ Below W.heap.size W w'))
                    go_wp2_with (first | (go_at_call 19; refine (HA.out _ HS5.out).mono ?_; rintro e w6 ⟨rfl, hb6⟩; have HS6 := hidOf ((HS5.out.grow hb6).grow (below1 w6 (.cells #[.int .i64 x1.jb, .int .i64 x1.pr, .int .i64 x1.st, .int .i64 x1.ix] 42))); have HB6 := hidOf (hb6.trans ((below1 w6 (.cells #[.int .i64 x1.jb, .int .i64 x1.pr, .int .i64 x1.st, .int .i64 x1.ix] 42)).mono hb6.size)); have hq6 := heap_alloc_new w6 (.cells #[.int .i64 x1.jb, .int .i64 x1.pr, .int .i64 x1.st, .int .i64 x1.ix] 42); have HQ6 := hidOf hq6; clear hb6 hq6 HS5 HA) | (go_at_call 19; refine (HB.out _ HS6.out).mono ?_; rintro e w7 ⟨rfl, hb7⟩; have hq7 := ((below1 w7 (.cells #[.int .i64 x2.jb, .int .i64 x2.pr, .int .i64 x2.st, .int .i64 x2.ix] 42)).block _ (by have h9 := heap_lt HQ6.out; exact Nat.lt_of_lt_of_le h9 hb7.size)).trans ((hb7.block _ (heap_lt HQ6.out)).trans HQ6.out); obtain ⟨g0, _⟩ := box4 hq7; have hl7 : w6.heap.size < w7.heap.size := (Nat.lt_of_lt_of_le (heap_lt HQ6.out) hb7.size); have HS7 := hidOf ((HS6.out.grow hb7).grow (below1 w7 (.cells #[.int .i64 x2.jb, .int .i64 x2.pr, .int .i64 x2.st, .int .i64 x2.ix] 42))); have HB7 := hidOf ((HB6.out.trans (hb7.mono HB6.out.size)).trans ((below1 w7 (.cells #[.int .i64 x2.jb, .int .i64 x2.pr, .int .i64 x2.st, .int .i64 x2.ix] 42)).mono (Nat.le_trans HB6.out.size hb7.size))); clear hb7 hq7))
                    go_roundw
                    case rel => exact ⟨kk + 1, by omega, by go_num, HS7, hidOf (HF5.out.trans (FrT.of_below HB7.out))⟩
                    case measure => simp [intOf]; omega
              · obtain rfl : kk = nn := by omega
                have hkz : ¬ (kk : Int) < (kk : Int) := by omega
                go_wp2
                go_roundw
                case rel => exact ⟨kk + 1, by omega, by go_num, HS5, HF5⟩
                case measure => simp [intOf]; omega
          · obtain rfl : nn = 4 := by omega
            have hnz : ¬ ((4 : Nat) : Int) < 4 := by omega
            go_wp2
            go_roundw
            case rel => exact ⟨k + 1, R2, by omega, by go_num, HS4, HL2, HF4⟩
            case measure => simp [intOf]; omega
      · have HPK := hidOf (fun W => (by have h9 := pick_any x.kd 5 HRG.out.1 (by omega) (by omega) W; rw [hk5] at h9; exact h9 : Calls Try.prog 8 #[.int .i64 x.kd, .int .i64 5] W fun e w' => e = .returned (.int .i64 2) ∧ w' = W))
        clear hk5
        go_wp2_with (first | (go_at_call 8; refine (HPW.out _).mono ?_; rintro e w9 ⟨rfl, h9⟩; subst w9; clear HPW) | (go_at_call 8; refine (HPK.out _).mono ?_; rintro e w9 ⟨rfl, h9⟩; subst w9) | (go_at_call 13; refine (s_ack HSA.out wz).mono ?_; rintro e w2 ⟨he, h1, h2⟩; obtain ⟨rv, hrv⟩ : ∃ y : Int, (if (heldM wz R).isSome = true then (0 : Int) else 3) = y := ⟨_, rfl⟩; rw [hrv] at he; clear hrv; subst he; have HS2 := hidOf (h1.mono (N' := (k + 1) * 1048577) (by omega)); have HL2 : Hid ((ackM wz R).length ≤ pre L (k + 1)) := hidOf (by rw [HPS.out]; have := ackM_len wz R; omega); have HF2 := hidOf (HFA.out.trans (h2.mono (by decide))); clear h1 h2))
        generalize (ackM wz R) = R2 at HS2 HL2
        go_loopw [7] (fun n wr => ∃ nn : Nat, nn ≤ 4 ∧ n = .int .i64 (nn : Int) ∧ Hid (Sta w.heap.size wr p R2 ((k + 1) * 1048577)) ∧ Hid (FrT w.heap.size TB w wr)) (fun n _ => 4 - (intOf n).toNat)
        case atStart => exact ⟨0, by omega, rfl, HS2, HF2⟩
        case round =>
          obtain ⟨nn, hnn, rfl, HS4, HF4⟩ := hrel
          by_cases hn4 : nn < 4
          · have hnz : (nn : Int) < 4 := by omega
            go_wp2
            go_loopw [8] (fun n wr => ∃ kk : Nat, kk ≤ nn ∧ n = .int .i64 (kk : Int) ∧ Hid (Sta w.heap.size wr p R2 ((k + 1) * 1048577)) ∧ Hid (FrT w.heap.size TB w wr)) (fun n _ => nn - (intOf n).toNat)
            case atStart => exact ⟨0, by omega, rfl, HS4, HF4⟩
            case round =>
              obtain ⟨kk, hkk, rfl, HS5, HF5⟩ := hrel
              by_cases hkn : kk < nn
              · have hkz : (kk : Int) < (nn : Int) := by omega
                cases ho1 : heldM (nn : Int) R2 with
                | none =>
                  have HO1 := hidOf ho1
                  clear ho1
                  cases ho2 : heldM (kk : Int) R2 with
                  | none =>
                    have HO2 := hidOf ho2
                    clear ho2
                    have HA := hidOf (fun W (h : Sta w.heap.size W p R2 ((k + 1) * 1048577)) => (by have h9 := s_held h (nn : Int); rw [HO1.out] at h9; exact h9 : Calls Try.prog 19 #[.pointer (some ⟨p, 0, none⟩), .int .i64 nn] W fun e w' => e = .returned (.tuple #[.agg #[.int .i64 0, .int .i64 0, .int .i64 0, .int .i64 0], .bool false]) ∧ Below W.heap.size W w'))
                    have HB := hidOf (fun W (h : Sta w.heap.size W p R2 ((k + 1) * 1048577)) => (by have h9 := s_held h (kk : Int); rw [HO2.out] at h9; exact h9 : Calls Try.prog 19 #[.pointer (some ⟨p, 0, none⟩), .int .i64 kk] W fun e w' => e = .returned (.tuple #[.agg #[.int .i64 0, .int .i64 0, .int .i64 0, .int .i64 0], .bool false]) ∧ Below W.heap.size W w'))
                    go_wp2_with (first | (go_at_call 19; refine (HA.out _ HS5.out).mono ?_; rintro e w6 ⟨rfl, hb6⟩; have HS6 := hidOf ((HS5.out.grow hb6).grow (below1 w6 (.cells #[.int .i64 0, .int .i64 0, .int .i64 0, .int .i64 0] 42))); have HB6 := hidOf (hb6.trans ((below1 w6 (.cells #[.int .i64 0, .int .i64 0, .int .i64 0, .int .i64 0] 42)).mono hb6.size)); have hq6 := heap_alloc_new w6 (.cells #[.int .i64 0, .int .i64 0, .int .i64 0, .int .i64 0] 42); have HQ6 := hidOf hq6; clear hb6 hq6 HS5 HA) | (go_at_call 19; refine (HB.out _ HS6.out).mono ?_; rintro e w7 ⟨rfl, hb7⟩; have hq7 := ((below1 w7 (.cells #[.int .i64 0, .int .i64 0, .int .i64 0, .int .i64 0] 42)).block _ (by have h9 := heap_lt HQ6.out; exact Nat.lt_of_lt_of_le h9 hb7.size)).trans ((hb7.block _ (heap_lt HQ6.out)).trans HQ6.out); obtain ⟨g0, _⟩ := box4 hq7; have hl7 : w6.heap.size < w7.heap.size := (Nat.lt_of_lt_of_le (heap_lt HQ6.out) hb7.size); have HS7 := hidOf ((HS6.out.grow hb7).grow (below1 w7 (.cells #[.int .i64 0, .int .i64 0, .int .i64 0, .int .i64 0] 42))); have HB7 := hidOf ((HB6.out.trans (hb7.mono HB6.out.size)).trans ((below1 w7 (.cells #[.int .i64 0, .int .i64 0, .int .i64 0, .int .i64 0] 42)).mono (Nat.le_trans HB6.out.size hb7.size))); clear hb7 hq7))
                    go_roundw
                    case rel => exact ⟨kk + 1, by omega, by go_num, HS7, hidOf (HF5.out.trans (FrT.of_below HB7.out))⟩
                    case measure => simp [intOf]; omega
                  | some x2 =>
                    have HO2 := hidOf ho2
                    clear ho2
                    have HA := hidOf (fun W (h : Sta w.heap.size W p R2 ((k + 1) * 1048577)) => (by have h9 := s_held h (nn : Int); rw [HO1.out] at h9; exact h9 : Calls Try.prog 19 #[.pointer (some ⟨p, 0, none⟩), .int .i64 nn] W fun e w' => e = .returned (.tuple #[.agg #[.int .i64 0, .int .i64 0, .int .i64 0, .int .i64 0], .bool false]) ∧ Below W.heap.size W w'))
                    have HB := hidOf (fun W (h : Sta w.heap.size W p R2 ((k + 1) * 1048577)) => (by have h9 := s_held h (kk : Int); rw [HO2.out] at h9; exact h9 : Calls Try.prog 19 #[.pointer (some ⟨p, 0, none⟩), .int .i64 kk] W fun e w' => e = .returned (.tuple #[.agg #[.int .i64 x2.jb, .int .i64 x2.pr, .int .i64 x2.st, .int .i64 x2.ix], .bool true]) ∧ Below W.heap.size W w'))
                    go_wp2_with (first | (go_at_call 19; refine (HA.out _ HS5.out).mono ?_; rintro e w6 ⟨rfl, hb6⟩; have HS6 := hidOf ((HS5.out.grow hb6).grow (below1 w6 (.cells #[.int .i64 0, .int .i64 0, .int .i64 0, .int .i64 0] 42))); have HB6 := hidOf (hb6.trans ((below1 w6 (.cells #[.int .i64 0, .int .i64 0, .int .i64 0, .int .i64 0] 42)).mono hb6.size)); have hq6 := heap_alloc_new w6 (.cells #[.int .i64 0, .int .i64 0, .int .i64 0, .int .i64 0] 42); have HQ6 := hidOf hq6; clear hb6 hq6 HS5 HA) | (go_at_call 19; refine (HB.out _ HS6.out).mono ?_; rintro e w7 ⟨rfl, hb7⟩; have hq7 := ((below1 w7 (.cells #[.int .i64 x2.jb, .int .i64 x2.pr, .int .i64 x2.st, .int .i64 x2.ix] 42)).block _ (by have h9 := heap_lt HQ6.out; exact Nat.lt_of_lt_of_le h9 hb7.size)).trans ((hb7.block _ (heap_lt HQ6.out)).trans HQ6.out); obtain ⟨g0, _⟩ := box4 hq7; have hl7 : w6.heap.size < w7.heap.size := (Nat.lt_of_lt_of_le (heap_lt HQ6.out) hb7.size); have HS7 := hidOf ((HS6.out.grow hb7).grow (below1 w7 (.cells #[.int .i64 x2.jb, .int .i64 x2.pr, .int .i64 x2.st, .int .i64 x2.ix] 42))); have HB7 := hidOf ((HB6.out.trans (hb7.mono HB6.out.size)).trans ((below1 w7 (.cells #[.int .i64 x2.jb, .int .i64 x2.pr, .int .i64 x2.st, .int .i64 x2.ix] 42)).mono (Nat.le_trans HB6.out.size hb7.size))); clear hb7 hq7))
                    go_roundw
                    case rel => exact ⟨kk + 1, by omega, by go_num, HS7, hidOf (HF5.out.trans (FrT.of_below HB7.out))⟩
                    case measure => simp [intOf]; omega
                | some x1 =>
                  have HO1 := hidOf ho1
                  clear ho1
                  cases ho2 : heldM (kk : Int) R2 with
                  | none =>
                    have HO2 := hidOf ho2
                    clear ho2
                    have HA := hidOf (fun W (h : Sta w.heap.size W p R2 ((k + 1) * 1048577)) => (by have h9 := s_held h (nn : Int); rw [HO1.out] at h9; exact h9 : Calls Try.prog 19 #[.pointer (some ⟨p, 0, none⟩), .int .i64 nn] W fun e w' => e = .returned (.tuple #[.agg #[.int .i64 x1.jb, .int .i64 x1.pr, .int .i64 x1.st, .int .i64 x1.ix], .bool true]) ∧ Below W.heap.size W w'))
                    have HB := hidOf (fun W (h : Sta w.heap.size W p R2 ((k + 1) * 1048577)) => (by have h9 := s_held h (kk : Int); rw [HO2.out] at h9; exact h9 : Calls Try.prog 19 #[.pointer (some ⟨p, 0, none⟩), .int .i64 kk] W fun e w' => e = .returned (.tuple #[.agg #[.int .i64 0, .int .i64 0, .int .i64 0, .int .i64 0], .bool false]) ∧ Below W.heap.size W w'))
                    go_wp2_with (first | (go_at_call 19; refine (HA.out _ HS5.out).mono ?_; rintro e w6 ⟨rfl, hb6⟩; have HS6 := hidOf ((HS5.out.grow hb6).grow (below1 w6 (.cells #[.int .i64 x1.jb, .int .i64 x1.pr, .int .i64 x1.st, .int .i64 x1.ix] 42))); have HB6 := hidOf (hb6.trans ((below1 w6 (.cells #[.int .i64 x1.jb, .int .i64 x1.pr, .int .i64 x1.st, .int .i64 x1.ix] 42)).mono hb6.size)); have hq6 := heap_alloc_new w6 (.cells #[.int .i64 x1.jb, .int .i64 x1.pr, .int .i64 x1.st, .int .i64 x1.ix] 42); have HQ6 := hidOf hq6; clear hb6 hq6 HS5 HA) | (go_at_call 19; refine (HB.out _ HS6.out).mono ?_; rintro e w7 ⟨rfl, hb7⟩; have hq7 := ((below1 w7 (.cells #[.int .i64 0, .int .i64 0, .int .i64 0, .int .i64 0] 42)).block _ (by have h9 := heap_lt HQ6.out; exact Nat.lt_of_lt_of_le h9 hb7.size)).trans ((hb7.block _ (heap_lt HQ6.out)).trans HQ6.out); obtain ⟨g0, _⟩ := box4 hq7; have hl7 : w6.heap.size < w7.heap.size := (Nat.lt_of_lt_of_le (heap_lt HQ6.out) hb7.size); have HS7 := hidOf ((HS6.out.grow hb7).grow (below1 w7 (.cells #[.int .i64 0, .int .i64 0, .int .i64 0, .int .i64 0] 42))); have HB7 := hidOf ((HB6.out.trans (hb7.mono HB6.out.size)).trans ((below1 w7 (.cells #[.int .i64 0, .int .i64 0, .int .i64 0, .int .i64 0] 42)).mono (Nat.le_trans HB6.out.size hb7.size))); clear hb7 hq7))
                    go_roundw
                    case rel => exact ⟨kk + 1, by omega, by go_num, HS7, hidOf (HF5.out.trans (FrT.of_below HB7.out))⟩
                    case measure => simp [intOf]; omega
                  | some x2 =>
                    have HO2 := hidOf ho2
                    clear ho2
                    have hjne : (x1.jb == x2.jb) = false := by simp; exact held_ne HS5.out.ok HO1.out HO2.out (by omega)
                    have HA := hidOf (fun W (h : Sta w.heap.size W p R2 ((k + 1) * 1048577)) => (by have h9 := s_held h (nn : Int); rw [HO1.out] at h9; exact h9 : Calls Try.prog 19 #[.pointer (some ⟨p, 0, none⟩), .int .i64 nn] W fun e w' => e = .returned (.tuple #[.agg #[.int .i64 x1.jb, .int .i64 x1.pr, .int .i64 x1.st, .int .i64 x1.ix], .bool true]) ∧ Below W.heap.size W w'))
                    have HB := hidOf (fun W (h : Sta w.heap.size W p R2 ((k + 1) * 1048577)) => (by have h9 := s_held h (kk : Int); rw [HO2.out] at h9; exact h9 : Calls Try.prog 19 #[.pointer (some ⟨p, 0, none⟩), .int .i64 kk] W fun e w' => e = .returned (.tuple #[.agg #[.int .i64 x2.jb, .int .i64 x2.pr, .int .i64 x2.st, .int .i64 x2.ix], .bool true]) ∧ Below W.heap.size W w'))
                    go_wp2_with (first | (go_at_call 19; refine (HA.out _ HS5.out).mono ?_; rintro e w6 ⟨rfl, hb6⟩; have HS6 := hidOf ((HS5.out.grow hb6).grow (below1 w6 (.cells #[.int .i64 x1.jb, .int .i64 x1.pr, .int .i64 x1.st, .int .i64 x1.ix] 42))); have HB6 := hidOf (hb6.trans ((below1 w6 (.cells #[.int .i64 x1.jb, .int .i64 x1.pr, .int .i64 x1.st, .int .i64 x1.ix] 42)).mono hb6.size)); have hq6 := heap_alloc_new w6 (.cells #[.int .i64 x1.jb, .int .i64 x1.pr, .int .i64 x1.st, .int .i64 x1.ix] 42); have HQ6 := hidOf hq6; clear hb6 hq6 HS5 HA) | (go_at_call 19; refine (HB.out _ HS6.out).mono ?_; rintro e w7 ⟨rfl, hb7⟩; have hq7 := ((below1 w7 (.cells #[.int .i64 x2.jb, .int .i64 x2.pr, .int .i64 x2.st, .int .i64 x2.ix] 42)).block _ (by have h9 := heap_lt HQ6.out; exact Nat.lt_of_lt_of_le h9 hb7.size)).trans ((hb7.block _ (heap_lt HQ6.out)).trans HQ6.out); obtain ⟨g0, _⟩ := box4 hq7; have hl7 : w6.heap.size < w7.heap.size := (Nat.lt_of_lt_of_le (heap_lt HQ6.out) hb7.size); have HS7 := hidOf ((HS6.out.grow hb7).grow (below1 w7 (.cells #[.int .i64 x2.jb, .int .i64 x2.pr, .int .i64 x2.st, .int .i64 x2.ix] 42))); have HB7 := hidOf ((HB6.out.trans (hb7.mono HB6.out.size)).trans ((below1 w7 (.cells #[.int .i64 x2.jb, .int .i64 x2.pr, .int .i64 x2.st, .int .i64 x2.ix] 42)).mono (Nat.le_trans HB6.out.size hb7.size))); clear hb7 hq7))
                    go_roundw
                    case rel => exact ⟨kk + 1, by omega, by go_num, HS7, hidOf (HF5.out.trans (FrT.of_below HB7.out))⟩
                    case measure => simp [intOf]; omega
              · obtain rfl : kk = nn := by omega
                have hkz : ¬ (kk : Int) < (kk : Int) := by omega
                go_wp2
                go_roundw
                case rel => exact ⟨kk + 1, by omega, by go_num, HS5, HF5⟩
                case measure => simp [intOf]; omega
          · obtain rfl : nn = 4 := by omega
            have hnz : ¬ ((4 : Nat) : Int) < 4 := by omega
            go_wp2
            go_roundw
            case rel => exact ⟨k + 1, R2, by omega, by go_num, HS4, HL2, HF4⟩
            case measure => simp [intOf]; omega
      · have HPK := hidOf (fun W => (by have h9 := pick_any x.kd 5 HRG.out.1 (by omega) (by omega) W; rw [hk5] at h9; exact h9 : Calls Try.prog 8 #[.int .i64 x.kd, .int .i64 5] W fun e w' => e = .returned (.int .i64 3) ∧ w' = W))
        clear hk5
        go_wp2_with (first | (go_at_call 8; refine (HPW.out _).mono ?_; rintro e w9 ⟨rfl, h9⟩; subst w9; clear HPW) | (go_at_call 8; refine (HPK.out _).mono ?_; rintro e w9 ⟨rfl, h9⟩; subst w9) | (go_at_call 15; refine (s_nack HSA.out wz (by omega)).mono ?_; rintro e w2 ⟨he, h1, h2⟩; obtain ⟨rv, hrv⟩ : ∃ y : Int, (if (heldM wz R).isSome = true then (0 : Int) else 3) = y := ⟨_, rfl⟩; rw [hrv] at he; clear hrv; subst he; have HS2 := hidOf (h1.mono (N' := (k + 1) * 1048577) (by omega)); have HL2 : Hid ((nackM wz R).length ≤ pre L (k + 1)) := hidOf (by rw [HPS.out, nackM_len]; omega); have HF2 := hidOf (HFA.out.trans (h2.mono tp_tb)); clear h1 h2))
        generalize (nackM wz R) = R2 at HS2 HL2
        go_loopw [7] (fun n wr => ∃ nn : Nat, nn ≤ 4 ∧ n = .int .i64 (nn : Int) ∧ Hid (Sta w.heap.size wr p R2 ((k + 1) * 1048577)) ∧ Hid (FrT w.heap.size TB w wr)) (fun n _ => 4 - (intOf n).toNat)
        case atStart => exact ⟨0, by omega, rfl, HS2, HF2⟩
        case round =>
          obtain ⟨nn, hnn, rfl, HS4, HF4⟩ := hrel
          by_cases hn4 : nn < 4
          · have hnz : (nn : Int) < 4 := by omega
            go_wp2
            go_loopw [8] (fun n wr => ∃ kk : Nat, kk ≤ nn ∧ n = .int .i64 (kk : Int) ∧ Hid (Sta w.heap.size wr p R2 ((k + 1) * 1048577)) ∧ Hid (FrT w.heap.size TB w wr)) (fun n _ => nn - (intOf n).toNat)
            case atStart => exact ⟨0, by omega, rfl, HS4, HF4⟩
            case round =>
              obtain ⟨kk, hkk, rfl, HS5, HF5⟩ := hrel
              by_cases hkn : kk < nn
              · have hkz : (kk : Int) < (nn : Int) := by omega
                cases ho1 : heldM (nn : Int) R2 with
                | none =>
                  have HO1 := hidOf ho1
                  clear ho1
                  cases ho2 : heldM (kk : Int) R2 with
                  | none =>
                    have HO2 := hidOf ho2
                    clear ho2
                    have HA := hidOf (fun W (h : Sta w.heap.size W p R2 ((k + 1) * 1048577)) => (by have h9 := s_held h (nn : Int); rw [HO1.out] at h9; exact h9 : Calls Try.prog 19 #[.pointer (some ⟨p, 0, none⟩), .int .i64 nn] W fun e w' => e = .returned (.tuple #[.agg #[.int .i64 0, .int .i64 0, .int .i64 0, .int .i64 0], .bool false]) ∧ Below W.heap.size W w'))
                    have HB := hidOf (fun W (h : Sta w.heap.size W p R2 ((k + 1) * 1048577)) => (by have h9 := s_held h (kk : Int); rw [HO2.out] at h9; exact h9 : Calls Try.prog 19 #[.pointer (some ⟨p, 0, none⟩), .int .i64 kk] W fun e w' => e = .returned (.tuple #[.agg #[.int .i64 0, .int .i64 0, .int .i64 0, .int .i64 0], .bool false]) ∧ Below W.heap.size W w'))
                    go_wp2_with (first | (go_at_call 19; refine (HA.out _ HS5.out).mono ?_; rintro e w6 ⟨rfl, hb6⟩; have HS6 := hidOf ((HS5.out.grow hb6).grow (below1 w6 (.cells #[.int .i64 0, .int .i64 0, .int .i64 0, .int .i64 0] 42))); have HB6 := hidOf (hb6.trans ((below1 w6 (.cells #[.int .i64 0, .int .i64 0, .int .i64 0, .int .i64 0] 42)).mono hb6.size)); have hq6 := heap_alloc_new w6 (.cells #[.int .i64 0, .int .i64 0, .int .i64 0, .int .i64 0] 42); have HQ6 := hidOf hq6; clear hb6 hq6 HS5 HA) | (go_at_call 19; refine (HB.out _ HS6.out).mono ?_; rintro e w7 ⟨rfl, hb7⟩; have hq7 := ((below1 w7 (.cells #[.int .i64 0, .int .i64 0, .int .i64 0, .int .i64 0] 42)).block _ (by have h9 := heap_lt HQ6.out; exact Nat.lt_of_lt_of_le h9 hb7.size)).trans ((hb7.block _ (heap_lt HQ6.out)).trans HQ6.out); obtain ⟨g0, _⟩ := box4 hq7; have hl7 : w6.heap.size < w7.heap.size := (Nat.lt_of_lt_of_le (heap_lt HQ6.out) hb7.size); have HS7 := hidOf ((HS6.out.grow hb7).grow (below1 w7 (.cells #[.int .i64 0, .int .i64 0, .int .i64 0, .int .i64 0] 42))); have HB7 := hidOf ((HB6.out.trans (hb7.mono HB6.out.size)).trans ((below1 w7 (.cells #[.int .i64 0, .int .i64 0, .int .i64 0, .int .i64 0] 42)).mono (Nat.le_trans HB6.out.size hb7.size))); clear hb7 hq7))
                    go_roundw
                    case rel => exact ⟨kk + 1, by omega, by go_num, HS7, hidOf (HF5.out.trans (FrT.of_below HB7.out))⟩
                    case measure => simp [intOf]; omega
                  | some x2 =>
                    have HO2 := hidOf ho2
                    clear ho2
                    have HA := hidOf (fun W (h : Sta w.heap.size W p R2 ((k + 1) * 1048577)) => (by have h9 := s_held h (nn : Int); rw [HO1.out] at h9; exact h9 : Calls Try.prog 19 #[.pointer (some ⟨p, 0, none⟩), .int .i64 nn] W fun e w' => e = .returned (.tuple #[.agg #[.int .i64 0, .int .i64 0, .int .i64 0, .int .i64 0], .bool false]) ∧ Below W.heap.size W w'))
                    have HB := hidOf (fun W (h : Sta w.heap.size W p R2 ((k + 1) * 1048577)) => (by have h9 := s_held h (kk : Int); rw [HO2.out] at h9; exact h9 : Calls Try.prog 19 #[.pointer (some ⟨p, 0, none⟩), .int .i64 kk] W fun e w' => e = .returned (.tuple #[.agg #[.int .i64 x2.jb, .int .i64 x2.pr, .int .i64 x2.st, .int .i64 x2.ix], .bool true]) ∧ Below W.heap.size W w'))
                    go_wp2_with (first | (go_at_call 19; refine (HA.out _ HS5.out).mono ?_; rintro e w6 ⟨rfl, hb6⟩; have HS6 := hidOf ((HS5.out.grow hb6).grow (below1 w6 (.cells #[.int .i64 0, .int .i64 0, .int .i64 0, .int .i64 0] 42))); have HB6 := hidOf (hb6.trans ((below1 w6 (.cells #[.int .i64 0, .int .i64 0, .int .i64 0, .int .i64 0] 42)).mono hb6.size)); have hq6 := heap_alloc_new w6 (.cells #[.int .i64 0, .int .i64 0, .int .i64 0, .int .i64 0] 42); have HQ6 := hidOf hq6; clear hb6 hq6 HS5 HA) | (go_at_call 19; refine (HB.out _ HS6.out).mono ?_; rintro e w7 ⟨rfl, hb7⟩; have hq7 := ((below1 w7 (.cells #[.int .i64 x2.jb, .int .i64 x2.pr, .int .i64 x2.st, .int .i64 x2.ix] 42)).block _ (by have h9 := heap_lt HQ6.out; exact Nat.lt_of_lt_of_le h9 hb7.size)).trans ((hb7.block _ (heap_lt HQ6.out)).trans HQ6.out); obtain ⟨g0, _⟩ := box4 hq7; have hl7 : w6.heap.size < w7.heap.size := (Nat.lt_of_lt_of_le (heap_lt HQ6.out) hb7.size); have HS7 := hidOf ((HS6.out.grow hb7).grow (below1 w7 (.cells #[.int .i64 x2.jb, .int .i64 x2.pr, .int .i64 x2.st, .int .i64 x2.ix] 42))); have HB7 := hidOf ((HB6.out.trans (hb7.mono HB6.out.size)).trans ((below1 w7 (.cells #[.int .i64 x2.jb, .int .i64 x2.pr, .int .i64 x2.st, .int .i64 x2.ix] 42)).mono (Nat.le_trans HB6.out.size hb7.size))); clear hb7 hq7))
                    go_roundw
                    case rel => exact ⟨kk + 1, by omega, by go_num, HS7, hidOf (HF5.out.trans (FrT.of_below HB7.out))⟩
                    case measure => simp [intOf]; omega
                | some x1 =>
                  have HO1 := hidOf ho1
                  clear ho1
                  cases ho2 : heldM (kk : Int) R2 with
                  | none =>
                    have HO2 := hidOf ho2
                    clear ho2
                    have HA := hidOf (fun W (h : Sta w.heap.size W p R2 ((k + 1) * 1048577)) => (by have h9 := s_held h (nn : Int); rw [HO1.out] at h9; exact h9 : Calls Try.prog 19 #[.pointer (some ⟨p, 0, none⟩), .int .i64 nn] W fun e w' => e = .returned (.tuple #[.agg #[.int .i64 x1.jb, .int .i64 x1.pr, .int .i64 x1.st, .int .i64 x1.ix], .bool true]) ∧ Below W.heap.size W w'))
                    have HB := hidOf (fun W (h : Sta w.heap.size W p R2 ((k + 1) * 1048577)) => (by have h9 := s_held h (kk : Int); rw [HO2.out] at h9; exact h9 : Calls Try.prog 19 #[.pointer (some ⟨p, 0, none⟩), .int .i64 kk] W fun e w' => e = .returned (.tuple #[.agg #[.int .i64 0, .int .i64 0, .int .i64 0, .int .i64 0], .bool false]) ∧ Below W.heap.size W w'))
                    go_wp2_with (first | (go_at_call 19; refine (HA.out _ HS5.out).mono ?_; rintro e w6 ⟨rfl, hb6⟩; have HS6 := hidOf ((HS5.out.grow hb6).grow (below1 w6 (.cells #[.int .i64 x1.jb, .int .i64 x1.pr, .int .i64 x1.st, .int .i64 x1.ix] 42))); have HB6 := hidOf (hb6.trans ((below1 w6 (.cells #[.int .i64 x1.jb, .int .i64 x1.pr, .int .i64 x1.st, .int .i64 x1.ix] 42)).mono hb6.size)); have hq6 := heap_alloc_new w6 (.cells #[.int .i64 x1.jb, .int .i64 x1.pr, .int .i64 x1.st, .int .i64 x1.ix] 42); have HQ6 := hidOf hq6; clear hb6 hq6 HS5 HA) | (go_at_call 19; refine (HB.out _ HS6.out).mono ?_; rintro e w7 ⟨rfl, hb7⟩; have hq7 := ((below1 w7 (.cells #[.int .i64 0, .int .i64 0, .int .i64 0, .int .i64 0] 42)).block _ (by have h9 := heap_lt HQ6.out; exact Nat.lt_of_lt_of_le h9 hb7.size)).trans ((hb7.block _ (heap_lt HQ6.out)).trans HQ6.out); obtain ⟨g0, _⟩ := box4 hq7; have hl7 : w6.heap.size < w7.heap.size := (Nat.lt_of_lt_of_le (heap_lt HQ6.out) hb7.size); have HS7 := hidOf ((HS6.out.grow hb7).grow (below1 w7 (.cells #[.int .i64 0, .int .i64 0, .int .i64 0, .int .i64 0] 42))); have HB7 := hidOf ((HB6.out.trans (hb7.mono HB6.out.size)).trans ((below1 w7 (.cells #[.int .i64 0, .int .i64 0, .int .i64 0, .int .i64 0] 42)).mono (Nat.le_trans HB6.out.size hb7.size))); clear hb7 hq7))
                    go_roundw
                    case rel => exact ⟨kk + 1, by omega, by go_num, HS7, hidOf (HF5.out.trans (FrT.of_below HB7.out))⟩
                    case measure => simp [intOf]; omega
                  | some x2 =>
                    have HO2 := hidOf ho2
                    clear ho2
                    have hjne : (x1.jb == x2.jb) = false := by simp; exact held_ne HS5.out.ok HO1.out HO2.out (by omega)
                    have HA := hidOf (fun W (h : Sta w.heap.size W p R2 ((k + 1) * 1048577)) => (by have h9 := s_held h (nn : Int); rw [HO1.out] at h9; exact h9 : Calls Try.prog 19 #[.pointer (some ⟨p, 0, none⟩), .int .i64 nn] W fun e w' => e = .returned (.tuple #[.agg #[.int .i64 x1.jb, .int .i64 x1.pr, .int .i64 x1.st, .int .i64 x1.ix], .bool true]) ∧ Below W.heap.size W w'))
                    have HB := hidOf (fun W (h : Sta w.heap.size W p R2 ((k + 1) * 1048577)) => (by have h9 := s_held h (kk : Int); rw [HO2.out] at h9; exact h9 : Calls Try.prog 19 #[.pointer (some ⟨p, 0, none⟩), .int .i64 kk] W fun e w' => e = .returned (.tuple #[.agg #[.int .i64 x2.jb, .int .i64 x2.pr, .int .i64 x2.st, .int .i64 x2.ix], .bool true]) ∧ Below W.heap.size W w'))
                    go_wp2_with (first | (go_at_call 19; refine (HA.out _ HS5.out).mono ?_; rintro e w6 ⟨rfl, hb6⟩; have HS6 := hidOf ((HS5.out.grow hb6).grow (below1 w6 (.cells #[.int .i64 x1.jb, .int .i64 x1.pr, .int .i64 x1.st, .int .i64 x1.ix] 42))); have HB6 := hidOf (hb6.trans ((below1 w6 (.cells #[.int .i64 x1.jb, .int .i64 x1.pr, .int .i64 x1.st, .int .i64 x1.ix] 42)).mono hb6.size)); have hq6 := heap_alloc_new w6 (.cells #[.int .i64 x1.jb, .int .i64 x1.pr, .int .i64 x1.st, .int .i64 x1.ix] 42); have HQ6 := hidOf hq6; clear hb6 hq6 HS5 HA) | (go_at_call 19; refine (HB.out _ HS6.out).mono ?_; rintro e w7 ⟨rfl, hb7⟩; have hq7 := ((below1 w7 (.cells #[.int .i64 x2.jb, .int .i64 x2.pr, .int .i64 x2.st, .int .i64 x2.ix] 42)).block _ (by have h9 := heap_lt HQ6.out; exact Nat.lt_of_lt_of_le h9 hb7.size)).trans ((hb7.block _ (heap_lt HQ6.out)).trans HQ6.out); obtain ⟨g0, _⟩ := box4 hq7; have hl7 : w6.heap.size < w7.heap.size := (Nat.lt_of_lt_of_le (heap_lt HQ6.out) hb7.size); have HS7 := hidOf ((HS6.out.grow hb7).grow (below1 w7 (.cells #[.int .i64 x2.jb, .int .i64 x2.pr, .int .i64 x2.st, .int .i64 x2.ix] 42))); have HB7 := hidOf ((HB6.out.trans (hb7.mono HB6.out.size)).trans ((below1 w7 (.cells #[.int .i64 x2.jb, .int .i64 x2.pr, .int .i64 x2.st, .int .i64 x2.ix] 42)).mono (Nat.le_trans HB6.out.size hb7.size))); clear hb7 hq7))
                    go_roundw
                    case rel => exact ⟨kk + 1, by omega, by go_num, HS7, hidOf (HF5.out.trans (FrT.of_below HB7.out))⟩
                    case measure => simp [intOf]; omega
              · obtain rfl : kk = nn := by omega
                have hkz : ¬ (kk : Int) < (kk : Int) := by omega
                go_wp2
                go_roundw
                case rel => exact ⟨kk + 1, by omega, by go_num, HS5, HF5⟩
                case measure => simp [intOf]; omega
          · obtain rfl : nn = 4 := by omega
            have hnz : ¬ ((4 : Nat) : Int) < 4 := by omega
            go_wp2
            go_roundw
            case rel => exact ⟨k + 1, R2, by omega, by go_num, HS4, HL2, HF4⟩
            case measure => simp [intOf]; omega
      · have HPK := hidOf (fun W => (by have h9 := pick_any x.kd 5 HRG.out.1 (by omega) (by omega) W; rw [hk5] at h9; exact h9 : Calls Try.prog 8 #[.int .i64 x.kd, .int .i64 5] W fun e w' => e = .returned (.int .i64 4) ∧ w' = W))
        clear hk5
        go_wp2_with (first | (go_at_call 8; refine (HPW.out _).mono ?_; rintro e w9 ⟨rfl, h9⟩; subst w9; clear HPW) | (go_at_call 8; refine (HPK.out _).mono ?_; rintro e w9 ⟨rfl, h9⟩; subst w9) | (go_at_call 17; refine (s_tick HSA.out (by omega)).mono ?_; rintro e w2 ⟨rfl, h1, h2⟩; have HS2 := hidOf (h1.mono (N' := (k + 1) * 1048577) (by omega)); have HL2 : Hid ((R.map tk1).length ≤ pre L (k + 1)) := hidOf (by rw [HPS.out, List.length_map]; omega); have HF2 := hidOf (HFA.out.trans (h2.mono tp_tb)); clear h1 h2))
        generalize (R.map tk1) = R2 at HS2 HL2
        go_loopw [7] (fun n wr => ∃ nn : Nat, nn ≤ 4 ∧ n = .int .i64 (nn : Int) ∧ Hid (Sta w.heap.size wr p R2 ((k + 1) * 1048577)) ∧ Hid (FrT w.heap.size TB w wr)) (fun n _ => 4 - (intOf n).toNat)
        case atStart => exact ⟨0, by omega, rfl, HS2, HF2⟩
        case round =>
          obtain ⟨nn, hnn, rfl, HS4, HF4⟩ := hrel
          by_cases hn4 : nn < 4
          · have hnz : (nn : Int) < 4 := by omega
            go_wp2
            go_loopw [8] (fun n wr => ∃ kk : Nat, kk ≤ nn ∧ n = .int .i64 (kk : Int) ∧ Hid (Sta w.heap.size wr p R2 ((k + 1) * 1048577)) ∧ Hid (FrT w.heap.size TB w wr)) (fun n _ => nn - (intOf n).toNat)
            case atStart => exact ⟨0, by omega, rfl, HS4, HF4⟩
            case round =>
              obtain ⟨kk, hkk, rfl, HS5, HF5⟩ := hrel
              by_cases hkn : kk < nn
              · have hkz : (kk : Int) < (nn : Int) := by omega
                cases ho1 : heldM (nn : Int) R2 with
                | none =>
                  have HO1 := hidOf ho1
                  clear ho1
                  cases ho2 : heldM (kk : Int) R2 with
                  | none =>
                    have HO2 := hidOf ho2
                    clear ho2
                    have HA := hidOf (fun W (h : Sta w.heap.size W p R2 ((k + 1) * 1048577)) => (by have h9 := s_held h (nn : Int); rw [HO1.out] at h9; exact h9 : Calls Try.prog 19 #[.pointer (some ⟨p, 0, none⟩), .int .i64 nn] W fun e w' => e = .returned (.tuple #[.agg #[.int .i64 0, .int .i64 0, .int .i64 0, .int .i64 0], .bool false]) ∧ Below W.heap.size W w'))
                    have HB := hidOf (fun W (h : Sta w.heap.size W p R2 ((k + 1) * 1048577)) => (by have h9 := s_held h (kk : Int); rw [HO2.out] at h9; exact h9 : Calls Try.prog 19 #[.pointer (some ⟨p, 0, none⟩), .int .i64 kk] W fun e w' => e = .returned (.tuple #[.agg #[.int .i64 0, .int .i64 0, .int .i64 0, .int .i64 0], .bool false]) ∧ Below W.heap.size W w'))
                    go_wp2_with (first | (go_at_call 19; refine (HA.out _ HS5.out).mono ?_; rintro e w6 ⟨rfl, hb6⟩; have HS6 := hidOf ((HS5.out.grow hb6).grow (below1 w6 (.cells #[.int .i64 0, .int .i64 0, .int .i64 0, .int .i64 0] 42))); have HB6 := hidOf (hb6.trans ((below1 w6 (.cells #[.int .i64 0, .int .i64 0, .int .i64 0, .int .i64 0] 42)).mono hb6.size)); have hq6 := heap_alloc_new w6 (.cells #[.int .i64 0, .int .i64 0, .int .i64 0, .int .i64 0] 42); have HQ6 := hidOf hq6; clear hb6 hq6 HS5 HA) | (go_at_call 19; refine (HB.out _ HS6.out).mono ?_; rintro e w7 ⟨rfl, hb7⟩; have hq7 := ((below1 w7 (.cells #[.int .i64 0, .int .i64 0, .int .i64 0, .int .i64 0] 42)).block _ (by have h9 := heap_lt HQ6.out; exact Nat.lt_of_lt_of_le h9 hb7.size)).trans ((hb7.block _ (heap_lt HQ6.out)).trans HQ6.out); obtain ⟨g0, _⟩ := box4 hq7; have hl7 : w6.heap.size < w7.heap.size := (Nat.lt_of_lt_of_le (heap_lt HQ6.out) hb7.size); have HS7 := hidOf ((HS6.out.grow hb7).grow (below1 w7 (.cells #[.int .i64 0, .int .i64 0, .int .i64 0, .int .i64 0] 42))); have HB7 := hidOf ((HB6.out.trans (hb7.mono HB6.out.size)).trans ((below1 w7 (.cells #[.int .i64 0, .int .i64 0, .int .i64 0, .int .i64 0] 42)).mono (Nat.le_trans HB6.out.size hb7.size))); clear hb7 hq7))
                    go_roundw
                    case rel => exact ⟨kk + 1, by omega, by go_num, HS7, hidOf (HF5.out.trans (FrT.of_below HB7.out))⟩
                    case measure => simp [intOf]; omega
                  | some x2 =>
                    have HO2 := hidOf ho2
                    clear ho2
                    have HA := hidOf (fun W (h : Sta w.heap.size W p R2 ((k + 1) * 1048577)) => (by have h9 := s_held h (nn : Int); rw [HO1.out] at h9; exact h9 : Calls Try.prog 19 #[.pointer (some ⟨p, 0, none⟩), .int .i64 nn] W fun e w' => e = .returned (.tuple #[.agg #[.int .i64 0, .int .i64 0, .int .i64 0, .int .i64 0], .bool false]) ∧ Below W.heap.size W w'))
                    have HB := hidOf (fun W (h : Sta w.heap.size W p R2 ((k + 1) * 1048577)) => (by have h9 := s_held h (kk : Int); rw [HO2.out] at h9; exact h9 : Calls Try.prog 19 #[.pointer (some ⟨p, 0, none⟩), .int .i64 kk] W fun e w' => e = .returned (.tuple #[.agg #[.int .i64 x2.jb, .int .i64 x2.pr, .int .i64 x2.st, .int .i64 x2.ix], .bool true]) ∧ Below W.heap.size W w'))
                    go_wp2_with (first | (go_at_call 19; refine (HA.out _ HS5.out).mono ?_; rintro e w6 ⟨rfl, hb6⟩; have HS6 := hidOf ((HS5.out.grow hb6).grow (below1 w6 (.cells #[.int .i64 0, .int .i64 0, .int .i64 0, .int .i64 0] 42))); have HB6 := hidOf (hb6.trans ((below1 w6 (.cells #[.int .i64 0, .int .i64 0, .int .i64 0, .int .i64 0] 42)).mono hb6.size)); have hq6 := heap_alloc_new w6 (.cells #[.int .i64 0, .int .i64 0, .int .i64 0, .int .i64 0] 42); have HQ6 := hidOf hq6; clear hb6 hq6 HS5 HA) | (go_at_call 19; refine (HB.out _ HS6.out).mono ?_; rintro e w7 ⟨rfl, hb7⟩; have hq7 := ((below1 w7 (.cells #[.int .i64 x2.jb, .int .i64 x2.pr, .int .i64 x2.st, .int .i64 x2.ix] 42)).block _ (by have h9 := heap_lt HQ6.out; exact Nat.lt_of_lt_of_le h9 hb7.size)).trans ((hb7.block _ (heap_lt HQ6.out)).trans HQ6.out); obtain ⟨g0, _⟩ := box4 hq7; have hl7 : w6.heap.size < w7.heap.size := (Nat.lt_of_lt_of_le (heap_lt HQ6.out) hb7.size); have HS7 := hidOf ((HS6.out.grow hb7).grow (below1 w7 (.cells #[.int .i64 x2.jb, .int .i64 x2.pr, .int .i64 x2.st, .int .i64 x2.ix] 42))); have HB7 := hidOf ((HB6.out.trans (hb7.mono HB6.out.size)).trans ((below1 w7 (.cells #[.int .i64 x2.jb, .int .i64 x2.pr, .int .i64 x2.st, .int .i64 x2.ix] 42)).mono (Nat.le_trans HB6.out.size hb7.size))); clear hb7 hq7))
                    go_roundw
                    case rel => exact ⟨kk + 1, by omega, by go_num, HS7, hidOf (HF5.out.trans (FrT.of_below HB7.out))⟩
                    case measure => simp [intOf]; omega
                | some x1 =>
                  have HO1 := hidOf ho1
                  clear ho1
                  cases ho2 : heldM (kk : Int) R2 with
                  | none =>
                    have HO2 := hidOf ho2
                    clear ho2
                    have HA := hidOf (fun W (h : Sta w.heap.size W p R2 ((k + 1) * 1048577)) => (by have h9 := s_held h (nn : Int); rw [HO1.out] at h9; exact h9 : Calls Try.prog 19 #[.pointer (some ⟨p, 0, none⟩), .int .i64 nn] W fun e w' => e = .returned (.tuple #[.agg #[.int .i64 x1.jb, .int .i64 x1.pr, .int .i64 x1.st, .int .i64 x1.ix], .bool true]) ∧ Below W.heap.size W w'))
                    have HB := hidOf (fun W (h : Sta w.heap.size W p R2 ((k + 1) * 1048577)) => (by have h9 := s_held h (kk : Int); rw [HO2.out] at h9; exact h9 : Calls Try.prog 19 #[.pointer (some ⟨p, 0, none⟩), .int .i64 kk] W fun e w' => e = .returned (.tuple #[.agg #[.int .i64 0, .int .i64 0, .int .i64 0, .int .i64 0], .bool false]) ∧ Below W.heap.size W w'))
                    go_wp2_with (first | (go_at_call 19; refine (HA.out _ HS5.out).mono ?_; rintro e w6 ⟨rfl, hb6⟩; have HS6 := hidOf ((HS5.out.grow hb6).grow (below1 w6 (.cells #[.int .i64 x1.jb, .int .i64 x1.pr, .int .i64 x1.st, .int .i64 x1.ix] 42))); have HB6 := hidOf (hb6.trans ((below1 w6 (.cells #[.int .i64 x1.jb, .int .i64 x1.pr, .int .i64 x1.st, .int .i64 x1.ix] 42)).mono hb6.size)); have hq6 := heap_alloc_new w6 (.cells #[.int .i64 x1.jb, .int .i64 x1.pr, .int .i64 x1.st, .int .i64 x1.ix] 42); have HQ6 := hidOf hq6; clear hb6 hq6 HS5 HA) | (go_at_call 19; refine (HB.out _ HS6.out).mono ?_; rintro e w7 ⟨rfl, hb7⟩; have hq7 := ((below1 w7 (.cells #[.int .i64 0, .int .i64 0, .int .i64 0, .int .i64 0] 42)).block _ (by have h9 := heap_lt HQ6.out; exact Nat.lt_of_lt_of_le h9 hb7.size)).trans ((hb7.block _ (heap_lt HQ6.out)).trans HQ6.out); obtain ⟨g0, _⟩ := box4 hq7; have hl7 : w6.heap.size < w7.heap.size := (Nat.lt_of_lt_of_le (heap_lt HQ6.out) hb7.size); have HS7 := hidOf ((HS6.out.grow hb7).grow (below1 w7 (.cells #[.int .i64 0, .int .i64 0, .int .i64 0, .int .i64 0] 42))); have HB7 := hidOf ((HB6.out.trans (hb7.mono HB6.out.size)).trans ((below1 w7 (.cells #[.int .i64 0, .int .i64 0, .int .i64 0, .int .i64 0] 42)).mono (Nat.le_trans HB6.out.size hb7.size))); clear hb7 hq7))
                    go_roundw
                    case rel => exact ⟨kk + 1, by omega, by go_num, HS7, hidOf (HF5.out.trans (FrT.of_below HB7.out))⟩
                    case measure => simp [intOf]; omega
                  | some x2 =>
                    have HO2 := hidOf ho2
                    clear ho2
                    have hjne : (x1.jb == x2.jb) = false := by simp; exact held_ne HS5.out.ok HO1.out HO2.out (by omega)
                    have HA := hidOf (fun W (h : Sta w.heap.size W p R2 ((k + 1) * 1048577)) => (by have h9 := s_held h (nn : Int); rw [HO1.out] at h9; exact h9 : Calls Try.prog 19 #[.pointer (some ⟨p, 0, none⟩), .int .i64 nn] W fun e w' => e = .returned (.tuple #[.agg #[.int .i64 x1.jb, .int .i64 x1.pr, .int .i64 x1.st, .int .i64 x1.ix], .bool true]) ∧ Below W.heap.size W w'))
                    have HB := hidOf (fun W (h : Sta w.heap.size W p R2 ((k + 1) * 1048577)) => (by have h9 := s_held h (kk : Int); rw [HO2.out] at h9; exact h9 : Calls Try.prog 19 #[.pointer (some ⟨p, 0, none⟩), .int .i64 kk] W fun e w' => e = .returned (.tuple #[.agg #[.int .i64 x2.jb, .int .i64 x2.pr, .int .i64 x2.st, .int .i64 x2.ix], .bool true]) ∧ Below W.heap.size W w'))
                    go_wp2_with (first | (go_at_call 19; refine (HA.out _ HS5.out).mono ?_; rintro e w6 ⟨rfl, hb6⟩; have HS6 := hidOf ((HS5.out.grow hb6).grow (below1 w6 (.cells #[.int .i64 x1.jb, .int .i64 x1.pr, .int .i64 x1.st, .int .i64 x1.ix] 42))); have HB6 := hidOf (hb6.trans ((below1 w6 (.cells #[.int .i64 x1.jb, .int .i64 x1.pr, .int .i64 x1.st, .int .i64 x1.ix] 42)).mono hb6.size)); have hq6 := heap_alloc_new w6 (.cells #[.int .i64 x1.jb, .int .i64 x1.pr, .int .i64 x1.st, .int .i64 x1.ix] 42); have HQ6 := hidOf hq6; clear hb6 hq6 HS5 HA) | (go_at_call 19; refine (HB.out _ HS6.out).mono ?_; rintro e w7 ⟨rfl, hb7⟩; have hq7 := ((below1 w7 (.cells #[.int .i64 x2.jb, .int .i64 x2.pr, .int .i64 x2.st, .int .i64 x2.ix] 42)).block _ (by have h9 := heap_lt HQ6.out; exact Nat.lt_of_lt_of_le h9 hb7.size)).trans ((hb7.block _ (heap_lt HQ6.out)).trans HQ6.out); obtain ⟨g0, _⟩ := box4 hq7; have hl7 : w6.heap.size < w7.heap.size := (Nat.lt_of_lt_of_le (heap_lt HQ6.out) hb7.size); have HS7 := hidOf ((HS6.out.grow hb7).grow (below1 w7 (.cells #[.int .i64 x2.jb, .int .i64 x2.pr, .int .i64 x2.st, .int .i64 x2.ix] 42))); have HB7 := hidOf ((HB6.out.trans (hb7.mono HB6.out.size)).trans ((below1 w7 (.cells #[.int .i64 x2.jb, .int .i64 x2.pr, .int .i64 x2.st, .int .i64 x2.ix] 42)).mono (Nat.le_trans HB6.out.size hb7.size))); clear hb7 hq7))
                    go_roundw
                    case rel => exact ⟨kk + 1, by omega, by go_num, HS7, hidOf (HF5.out.trans (FrT.of_below HB7.out))⟩
                    case measure => simp [intOf]; omega
              · obtain rfl : kk = nn := by omega
                have hkz : ¬ (kk : Int) < (kk : Int) := by omega
                go_wp2
                go_roundw
                case rel => exact ⟨kk + 1, by omega, by go_num, HS5, HF5⟩
                case measure => simp [intOf]; omega
          · obtain rfl : nn = 4 := by omega
            have hnz : ¬ ((4 : Nat) : Int) < 4 := by omega
            go_wp2
            go_roundw
            case rel => exact ⟨k + 1, R2, by omega, by go_num, HS4, HL2, HF4⟩
            case measure => simp [intOf]; omega
    · have hltz : ¬ (k : Int) < (L.length : Int) := by omega
      go_wp2_with (go_at_call 22; refine (HLV.out _).mono ?_; rintro e w6 ⟨rfl, hb⟩; have HB := hidOf (HF.out.trans (FrT.of_below hb)); clear hb)
      go_ret
      exact ⟨rfl, HB.out.below (Nat.le_refl _)⟩
end Go.Proofs.Ytndomlbjdppckaa
