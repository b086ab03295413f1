/- BrokerPlays, walked. -/
import Derived.Test.YtndomlbjdppckaaRti
import Derived.Test.YtndomlbjdppckaaLone
namespace Go.Proofs.Ytndomlbjdppckaa
open Go.RowKit

theorem box31 {W : World} {q : Nat} {x : Dee} (h : W.heap[q]? = some (.cells #[.int .i64 x.kd, .int .i64 x.wk, .slice x.xa x.D.length x.xc] 31 (0, 0))) : W.cell? ⟨q, 0, none⟩ = some (.int .i64 x.kd) ∧ W.cell? ⟨q, 1, none⟩ = some (.int .i64 x.wk) ∧ W.cell? ⟨q, 2, none⟩ = some (.slice x.xa x.D.length x.xc) := by
  refine ⟨?_, ?_, ?_⟩ <;> (rw [cell_of_row W q _ _ 31 (0, 0) h]; rfl)
set_option maxRecDepth 100000 in
theorem eq42 (a b c d : Int) (w : World) : (binOp .eql 42 (.agg #[.int .i64 a, .int .i64 b, .int .i64 c, .int .i64 d]) (.agg #[.int .i64 a, .int .i64 b, .int .i64 c, .int .i64 d])).run Try.prog w = .ok (.bool true) w := by
  have hu := Try.underlying42
  have h3 := Try.underlying3
  simp only [binOp]
  unfold Op.equal Op.maxDepth
  unfold Op.equalIn
  simp [go_sem, h3]
set_option maxRecDepth 100000 in
theorem ne42 (a b c d : Int) (w : World) : (binOp .neq 42 (.agg #[.int .i64 a, .int .i64 b, .int .i64 c, .int .i64 d]) (.agg #[.int .i64 a, .int .i64 b, .int .i64 c, .int .i64 d])).run Try.prog w = .ok (.bool false) w := by
  have hu := Try.underlying42
  have h3 := Try.underlying3
  simp only [binOp]
  unfold Op.equal Op.maxDepth
  unfold Op.equalIn
  simp [go_sem, h3]
theorem rdeq_no {D : Nat} {pR : Nat} {v : Value} {R : List Itm} {wk : Int} {w : World} (h : RefR D w pR v R) (hI : IvR R) (hn : (heldM wk R).isSome = true ∨ ∀ z ∈ R, fr z = false) : Calls Try.prog 12 #[.pointer (some ⟨pR, 0, none⟩), .int .i64 wk] w fun e w' => e = .returned (.tuple #[zeV, .bool false]) ∧ Below w.heap.size w w' := by
  cases hh : heldM wk R with
  | some y => exact rdeq_has pR v R wk w h (by rw [hh]; rfl)
  | none =>
    refine (rdeq_any pR v R wk w h hh hI).mono ?_
    rintro e w' (⟨_, h1, h2⟩ | ⟨i, x, hm, _⟩)
    · exact ⟨h1, h2⟩
    · rcases hn with hn | hn
      · rw [hh] at hn; cases hn
      · have := hn x (List.mem_of_getElem? hm.1)
        rw [hm.2.1] at this; cases this
theorem rdeq_yes {D : Nat} {pR : Nat} {v : Value} {R : List Itm} {wk : Int} {w : World} {i : Nat} {x : Itm} (h : RefR D w pR v R) (hok : Ok R) (hn : heldM wk R = none) (hm : MinR R i x) : Calls Try.prog 12 #[.pointer (some ⟨pR, 0, none⟩), .int .i64 wk] w fun e w' => e = .returned (.tuple #[evV x, .bool true]) ∧ RefR D w' pR v (R.set i (tkn wk x)) ∧ FrT D [71] w w' := by
  refine (rdeq_any pR v R wk w h hn hok.i).mono ?_
  rintro e w' (⟨h1, _, _⟩ | ⟨i', x', hm', h1, h2, h3⟩)
  · have := h1 i x (List.getElem?_eq_some_iff.1 hm.1).1 hm.1
    rw [hm.2.1] at this; cases this
  · obtain ⟨rfl, rfl⟩ := hm.uniq hok.j hm'
    exact ⟨h1, h2, h3⟩
theorem tp_tt : ∀ t ∈ TP, t ∈ (28 :: 71 :: TB) := by decide
theorem tb_tt : ∀ t ∈ TB, t ∈ (28 :: 71 :: TB) := by decide
theorem tr_tt : ∀ t ∈ TR, t ∈ (28 :: 71 :: TB) := by decide

set_option maxHeartbeats 32000000 in
set_option maxRecDepth 100000 in
theorem lawPlays (a : Option Addr) (cap : Nat) (L : List Dee) (w : World) (hO : Dees w a L) (hL : wt L ≤ 1048576) : Calls Try.prog 3 #[.slice a L.length cap] w fun e w' => e = .returned (.bool true) ∧ Below w.heap.size w w' := by
  have HO := hidOf hO
  have HL := hidOf hL
  have HLV := hidOf lives_any
  have HC := hidOf (s_new (D := w.heap.size) w (Nat.le_refl _))
  simp only [ptr] at HC
  have hll : L.length ≤ 1048576 := by have := wt_len L; omega
  clear hO hL
  go_enter Try.func3, Try.ntmps3
  go_wp2_with (go_at_call 7; refine HC.out.mono ?_; rintro e w1 ⟨p, rfl, h1, h2⟩; have H1 := hidOf (h1.grow (below1 w1 (.cells #[.slice none 0 0] 28))); have HF1 := hidOf (((h2.mono tb_tt).trans (FrT.of_below (below1 w1 (.cells #[.slice none 0 0] 28))) : FrT w.heap.size (28 :: 71 :: TB) w _)); have HR1 : Hid (RefR w.heap.size (w1.alloc (.cells #[.slice none 0 0] 28)) w1.heap.size (.slice none 0 0) []) := hidOf ⟨heap_alloc_new w1 _, ⟨rfl, .inl ⟨rfl, rfl⟩⟩, h2.size, fun q hq => by cases hq⟩; clear h1 h2 HC)
  obtain ⟨pR, hpR⟩ : ∃ y, y = w1.heap.size := ⟨_, rfl⟩
  rw [← hpR] at HR1 ⊢
  clear hpR
  go_loopw [5] (fun i wr => ∃ (k : Nat) (R : List Itm) (v : Value), k ≤ L.length ∧ i = .int .i64 (k : Int) ∧ Hid (Sta w.heap.size wr p R (k * 1048577)) ∧ Hid (R.length ≤ pre L k) ∧ Hid (RefR w.heap.size wr pR v R) ∧ Hid (FrT w.heap.size (28 :: 71 :: TB) w wr)) (fun i _ => L.length - (intOf i).toNat)
  case atStart => exact ⟨0, [], _, Nat.zero_le _, rfl, H1, hidOf (Nat.zero_le _), HR1, HF1⟩
  case round =>
    obtain ⟨k, R, v, hk, rfl, HS, HRL, HRf, HF⟩ := hrel
    clear H1 HF1 HR1
    by_cases hlt : k < L.length
    · have hltz : (k : Int) < (L.length : Int) := by omega
      obtain ⟨b, off, hab, hbl, c0, c1, c2, hB⟩ := HO.out.at (HF.out.below (Nat.le_refl _)) k hlt
      subst hab
      have HPS := hidOf (pre_succ L k hlt)
      obtain ⟨x, hx⟩ : ∃ x, x = dt L k := ⟨_, rfl⟩
      rw [← hx] at c0 c1 c2 hB HPS
      have hbw : b < wr.heap.size := Nat.lt_of_lt_of_le hbl HF.out.size
      have hp1 := pre_le L (k + 1)
      have hp2 := HL.out
      have hp3 := HPS.out
      have hp4 := HRL.out
      have hwl := wt_len L
      have HFA : Hid (FrT w.heap.size (28 :: 71 :: TB) w (wr.alloc (.cells #[.int .i64 x.kd, .int .i64 x.wk, .slice x.xa x.D.length x.xc] 31))) := hidOf (HF.out.trans (FrT.of_below (below1 _ _)))
      have HSA : Hid (Sta w.heap.size (wr.alloc (.cells #[.int .i64 x.kd, .int .i64 x.wk, .slice x.xa x.D.length x.xc] 31)) p R (k * 1048577)) := hidOf (HS.out.grow (below1 _ _))
      have HRA : Hid (RefR w.heap.size (wr.alloc (.cells #[.int .i64 x.kd, .int .i64 x.wk, .slice x.xa x.D.length x.xc] 31)) pR v R) := hidOf (HRf.out.grow (below1 _ _))
      have HQA : Hid ((wr.alloc (.cells #[.int .i64 x.kd, .int .i64 x.wk, .slice x.xa x.D.length x.xc] 31)).heap[wr.heap.size]? = some (.cells #[.int .i64 x.kd, .int .i64 x.wk, .slice x.xa x.D.length x.xc] 31 (0, 0))) := hidOf (heap_alloc_new _ _)
      have HEV : Hid (EvR w.heap.size (wr.alloc (.cells #[.int .i64 x.kd, .int .i64 x.wk, .slice x.xa x.D.length x.xc] 31)) x.xa x.D) := hidOf (hB.2.frt HFA.out (by decide))
      have HRG : Hid (rng x.kd ∧ rng x.wk) := hidOf hB.1
      clear hx hB hbl
      have hxl : x.D.length ≤ 1048576 := by omega
      have hRl : R.length ≤ 1048576 := by omega
      have hkl : k ≤ 1048576 := by omega
      obtain ⟨hq0, hq5⟩ := pkM_rng x.kd 5 (by omega)
      have hkk5 : pkM x.kd 5 = 0 ∨ pkM x.kd 5 = 1 ∨ pkM x.kd 5 = 2 ∨ pkM x.kd 5 = 3 ∨ pkM x.kd 5 = 4 := by omega
      clear hq0 hq5
      rcases hkk5 with hk5 | hk5 | hk5 | hk5 | hk5
      · have HPK := hidOf (fun W => (by have h9 := pick_any x.kd 5 HRG.out.1 (by omega) (by omega) W; rw [hk5] at h9; exact h9 : Calls Try.prog 8 #[.int .i64 x.kd, .int .i64 5] W fun e w' => e = .returned (.int .i64 0) ∧ w' = W))
        clear hk5
        go_upto_region 25 with (first
          | (go_at_call 8; refine (HPK.out _).mono ?_; rintro e w9 ⟨rfl, h9⟩; subst w9; clear HPK)
          | (go_at_call 9; refine (s_upd HSA.out x.xa x.xc x.D HEV.out (by omega) (by omega)).mono ?_; rintro e w2 ⟨rfl, h1, h3, h2⟩; have HS2 := hidOf (h1.mono (N' := (k + 1) * 1048577) (by omega)); have HL2 : Hid ((upM R x.D).length ≤ pre L (k + 1)) := hidOf (by rw [HPS.out]; omega); have HF2 := hidOf (HFA.out.trans (h2.mono tb_tt)); have HR2 := hidOf (HRA.out.keepT h2 (by decide) (by decide)); have hq2 := h2.cells HQA.out (by decide); have HQ2 := hidOf hq2; have HE2 := hidOf (HEV.out.frt h2 (by decide)); obtain ⟨j0, j1, j2⟩ := box31 hq2; clear h1 h2 h3 hq2)
          | (go_at_call 10; refine (rupd_any pR v R x.xa x.xc x.D w2 HR2.out HE2.out (by omega)).mono ?_; rintro e w3 ⟨rfl, ⟨v3, h1⟩, h2⟩; have HR3 := hidOf h1; have HS3 := hidOf (HS2.out.keepT h2 (by decide)); have HF3 := hidOf (HF2.out.trans (h2.mono tr_tt)); have hq3 := h2.cells HQ2.out (by decide); have HQ3 := hidOf hq3; clear j0 j1 j2; obtain ⟨_, j0, _⟩ := box31 hq3; clear h1 h2 hq3 HS2 HR2))
        generalize upM R x.D = R2 at HS3 HL2 HR3
        obtain ⟨a3, cap3, hv3, hlm3⟩ := HR3.out.slice
        subst hv3
        cases ho1 : heldM x.wk R2 with
        | none =>
          have HO1 := hidOf ho1
          clear ho1
          have HA := hidOf (fun W (h : Sta w.heap.size W p R2 ((k + 1) * 1048577)) => (by have h9 := s_held h x.wk; rw [HO1.out] at h9; exact h9 : Calls Try.prog 19 #[.pointer (some ⟨p, 0, none⟩), .int .i64 x.wk] W fun e w' => e = .returned (.tuple #[(.agg #[.int .i64 0, .int .i64 0, .int .i64 0, .int .i64 0]), .bool false]) ∧ Below W.heap.size W w'))
          have HB := hidOf (fun W (h : RefR w.heap.size W pR (.slice a3 (R2).length cap3) R2) => (by have h9 := rheld_any pR (.slice a3 (R2).length cap3) R2 x.wk W h; rw [HO1.out] at h9; exact h9 : Calls Try.prog 20 #[.pointer (some ⟨pR, 0, none⟩), .int .i64 x.wk] W fun e w' => e = .returned (.tuple #[(.agg #[.int .i64 0, .int .i64 0, .int .i64 0, .int .i64 0]), .bool false]) ∧ Below W.heap.size W w'))
          have hne := fun W => ne42 (0) (0) (0) (0) W
          go_upto_region 27 with (first
            | (go_at_call 19; refine (HA.out _ HS3.out).mono ?_; rintro e w5 ⟨rfl, hb5⟩; have hb5a := hb5.trans ((below1 w5 (.cells #[.int .i64 0, .int .i64 0, .int .i64 0, .int .i64 0] 42)).mono hb5.size); have HS5 := hidOf (HS3.out.grow hb5a); have HR5 := hidOf (HR3.out.grow hb5a); have hq31 := (hb5a.block _ (heap_lt HQ3.out)).trans HQ3.out; have j1 : (w5.alloc (.cells #[.int .i64 0, .int .i64 0, .int .i64 0, .int .i64 0] 42)).cell? ⟨wr.heap.size, 1, none⟩ = some (.int .i64 x.wk) := (by rw [cell_of_row _ _ 1 _ 31 (0, 0) hq31]; rfl); have HQ12 := hidOf (heap_alloc_new w5 (.cells #[.int .i64 0, .int .i64 0, .int .i64 0, .int .i64 0] 42)); have HB5 := hidOf hb5a; clear hb5 hb5a hq31 HA j0)
            | (go_at_call 20; refine (HB.out _ HR5.out).mono ?_; rintro e w7 ⟨rfl, hb7⟩; have hb7a := hb7.trans ((below1 w7 (.cells #[.int .i64 0, .int .i64 0, .int .i64 0, .int .i64 0] 42)).mono hb7.size); have HS7 := hidOf (HS5.out.grow hb7a); have HR7 := hidOf (HR5.out.grow hb7a); have hq12 := (hb7a.block _ (heap_lt HQ12.out)).trans HQ12.out; obtain ⟨g0, g1, g2, g3, _⟩ := box4 hq12; obtain ⟨f0, f1, f2, f3, _⟩ := box4 (heap_alloc_new w7 (.cells #[.int .i64 0, .int .i64 0, .int .i64 0, .int .i64 0] 42)); have m0 := HR7.out.cell; have HF7 := hidOf (HF3.out.trans (FrT.of_below (HB5.out.trans (hb7a.mono HB5.out.size)))); clear hb7 hb7a hq12 HB j1))
          have HLN := hidOf (fun W (h : Sta w.heap.size W p R2 ((k + 1) * 1048577)) => (s_len h : Calls Try.prog 21 #[.pointer (some ⟨p, 0, none⟩)] W fun e w' => e = .returned (.int .i64 (R2).length) ∧ w' = W))
          go_region_held3 (fun w' => w'.cell? ⟨w5.heap.size, 0, none⟩ = some (.int .i64 0) ∧ w'.cell? ⟨w5.heap.size, 1, none⟩ = some (.int .i64 0) ∧ w'.cell? ⟨w5.heap.size, 2, none⟩ = some (.int .i64 0) ∧ w'.cell? ⟨w5.heap.size, 3, none⟩ = some (.int .i64 0) ∧ w'.cell? ⟨w7.heap.size, 0, none⟩ = some (.int .i64 0) ∧ w'.cell? ⟨w7.heap.size, 1, none⟩ = some (.int .i64 0) ∧ w'.cell? ⟨w7.heap.size, 2, none⟩ = some (.int .i64 0) ∧ w'.cell? ⟨w7.heap.size, 3, none⟩ = some (.int .i64 0) ∧ w'.cell? ⟨pR, 0, none⟩ = some (.slice a3 (R2).length cap3)) (first | go_keep | exact ⟨g0, g1, g2, g3, f0, f1, f2, f3, m0⟩) (first | (go_at_call 21; refine (HLN.out _ (HS7.out.keepT (T := []) (FrT.refl 0 [] _).drew (by decide))).mono ?_; rintro e w8 ⟨rfl, h8⟩; subst w8))
          go_wp2
          go_roundw
          case rel => exact ⟨k + 1, R2, (.slice a3 (R2).length cap3), by omega, by go_num, hidOf (HS7.out.keepT (D' := 0) (T := []) (FrT.refl 0 [] _).drew (by decide)), HL2, hidOf (HR7.out.keepT (D' := 0) (T := []) (FrT.refl 0 [] _).drew (by simp) (by simp)), hidOf HF7.out.drew⟩
          case measure => simp [intOf]; omega
        | some y =>
          have HO1 := hidOf ho1
          clear ho1
          have HA := hidOf (fun W (h : Sta w.heap.size W p R2 ((k + 1) * 1048577)) => (by have h9 := s_held h x.wk; rw [HO1.out] at h9; exact h9 : Calls Try.prog 19 #[.pointer (some ⟨p, 0, none⟩), .int .i64 x.wk] W fun e w' => e = .returned (.tuple #[(.agg #[.int .i64 y.jb, .int .i64 y.pr, .int .i64 y.st, .int .i64 y.ix]), .bool true]) ∧ Below W.heap.size W w'))
          have HB := hidOf (fun W (h : RefR w.heap.size W pR (.slice a3 (R2).length cap3) R2) => (by have h9 := rheld_any pR (.slice a3 (R2).length cap3) R2 x.wk W h; rw [HO1.out] at h9; exact h9 : Calls Try.prog 20 #[.pointer (some ⟨pR, 0, none⟩), .int .i64 x.wk] W fun e w' => e = .returned (.tuple #[(.agg #[.int .i64 y.jb, .int .i64 y.pr, .int .i64 y.st, .int .i64 y.ix]), .bool true]) ∧ Below W.heap.size W w'))
          have hne := fun W => ne42 (y.jb) (y.pr) (y.st) (y.ix) W
          go_upto_region 27 with (first
            | (go_at_call 19; refine (HA.out _ HS3.out).mono ?_; rintro e w5 ⟨rfl, hb5⟩; have hb5a := hb5.trans ((below1 w5 (.cells #[.int .i64 y.jb, .int .i64 y.pr, .int .i64 y.st, .int .i64 y.ix] 42)).mono hb5.size); have HS5 := hidOf (HS3.out.grow hb5a); have HR5 := hidOf (HR3.out.grow hb5a); have hq31 := (hb5a.block _ (heap_lt HQ3.out)).trans HQ3.out; have j1 : (w5.alloc (.cells #[.int .i64 y.jb, .int .i64 y.pr, .int .i64 y.st, .int .i64 y.ix] 42)).cell? ⟨wr.heap.size, 1, none⟩ = some (.int .i64 x.wk) := (by rw [cell_of_row _ _ 1 _ 31 (0, 0) hq31]; rfl); have HQ12 := hidOf (heap_alloc_new w5 (.cells #[.int .i64 y.jb, .int .i64 y.pr, .int .i64 y.st, .int .i64 y.ix] 42)); have HB5 := hidOf hb5a; clear hb5 hb5a hq31 HA j0)
            | (go_at_call 20; refine (HB.out _ HR5.out).mono ?_; rintro e w7 ⟨rfl, hb7⟩; have hb7a := hb7.trans ((below1 w7 (.cells #[.int .i64 y.jb, .int .i64 y.pr, .int .i64 y.st, .int .i64 y.ix] 42)).mono hb7.size); have HS7 := hidOf (HS5.out.grow hb7a); have HR7 := hidOf (HR5.out.grow hb7a); have hq12 := (hb7a.block _ (heap_lt HQ12.out)).trans HQ12.out; obtain ⟨g0, g1, g2, g3, _⟩ := box4 hq12; obtain ⟨f0, f1, f2, f3, _⟩ := box4 (heap_alloc_new w7 (.cells #[.int .i64 y.jb, .int .i64 y.pr, .int .i64 y.st, .int .i64 y.ix] 42)); have m0 := HR7.out.cell; have HF7 := hidOf (HF3.out.trans (FrT.of_below (HB5.out.trans (hb7a.mono HB5.out.size)))); clear hb7 hb7a hq12 HB j1))
          have HLN := hidOf (fun W (h : Sta w.heap.size W p R2 ((k + 1) * 1048577)) => (s_len h : Calls Try.prog 21 #[.pointer (some ⟨p, 0, none⟩)] W fun e w' => e = .returned (.int .i64 (R2).length) ∧ w' = W))
          go_region_held3 (fun w' => w'.cell? ⟨w5.heap.size, 0, none⟩ = some (.int .i64 y.jb) ∧ w'.cell? ⟨w5.heap.size, 1, none⟩ = some (.int .i64 y.pr) ∧ w'.cell? ⟨w5.heap.size, 2, none⟩ = some (.int .i64 y.st) ∧ w'.cell? ⟨w5.heap.size, 3, none⟩ = some (.int .i64 y.ix) ∧ w'.cell? ⟨w7.heap.size, 0, none⟩ = some (.int .i64 y.jb) ∧ w'.cell? ⟨w7.heap.size, 1, none⟩ = some (.int .i64 y.pr) ∧ w'.cell? ⟨w7.heap.size, 2, none⟩ = some (.int .i64 y.st) ∧ w'.cell? ⟨w7.heap.size, 3, none⟩ = some (.int .i64 y.ix) ∧ w'.cell? ⟨pR, 0, none⟩ = some (.slice a3 (R2).length cap3)) (first | go_keep | exact ⟨g0, g1, g2, g3, f0, f1, f2, f3, m0⟩) (first | (go_at_call 21; refine (HLN.out _ (HS7.out.keepT (T := []) (FrT.refl 0 [] _).drew (by decide))).mono ?_; rintro e w8 ⟨rfl, h8⟩; subst w8))
          go_wp2
          go_roundw
          case rel => exact ⟨k + 1, R2, (.slice a3 (R2).length cap3), by omega, by go_num, hidOf (HS7.out.keepT (D' := 0) (T := []) (FrT.refl 0 [] _).drew (by decide)), HL2, hidOf (HR7.out.keepT (D' := 0) (T := []) (FrT.refl 0 [] _).drew (by simp) (by simp)), hidOf HF7.out.drew⟩
          case measure => simp [intOf]; omega
      · have HPK := hidOf (fun W => (by have h9 := pick_any x.kd 5 HRG.out.1 (by omega) (by omega) W; rw [hk5] at h9; exact h9 : Calls Try.prog 8 #[.int .i64 x.kd, .int .i64 5] W fun e w' => e = .returned (.int .i64 1) ∧ w' = W))
        clear hk5
        by_cases hno : (heldM x.wk R).isSome = true ∨ ∀ z ∈ R, fr z = false
        · have HDA := hidOf (s_deq_no HSA.out x.wk hno)
          have HDB := hidOf (fun W (h : RefR w.heap.size W pR v R) => rdeq_no (wk := x.wk) h HSA.out.ok.i hno)
          simp only [zeV] at HDA HDB
          clear hno
          go_upto_region 17 with (first
            | (go_at_call 8; refine (HPK.out _).mono ?_; rintro e w9 ⟨rfl, h9⟩; subst w9; clear HPK)
            | (go_at_call 11; refine (HDA.out).mono ?_; rintro e w2 ⟨rfl, hb2⟩; have HS2 := hidOf (((HSA.out.mono (N' := (k + 1) * 1048577) (by omega)).grow hb2).grow (below1 w2 (.cells #[.int .i64 0, .int .i64 0, .int .i64 0, .int .i64 0] 42))); have hf2 : FrT w.heap.size TB (wr.alloc (.cells #[.int .i64 x.kd, .int .i64 x.wk, .slice x.xa x.D.length x.xc] 31)) (w2.alloc (.cells #[.int .i64 0, .int .i64 0, .int .i64 0, .int .i64 0] 42)) := ((FrT.of_below hb2).trans (FrT.of_below (below1 w2 (.cells #[.int .i64 0, .int .i64 0, .int .i64 0, .int .i64 0] 42)))); clear hb2; have HF2 := hidOf (HFA.out.trans (hf2.mono tb_tt)); have HR2 := hidOf (HRA.out.keepT hf2 (by decide) (by decide)); have hq2 := hf2.cells HQA.out (by decide); have HQ2 := hidOf hq2; have HQ8 := hidOf (heap_alloc_new w2 (.cells #[.int .i64 0, .int .i64 0, .int .i64 0, .int .i64 0] 42)); obtain ⟨_, i1, _⟩ := box31 hq2; clear hf2 hq2 HDA)
            | (go_at_call 12; refine (HDB.out _ HR2.out).mono ?_; rintro e w4 ⟨rfl, hb4⟩; have hf3 : FrT w.heap.size TR (w2.alloc (.cells #[.int .i64 0, .int .i64 0, .int .i64 0, .int .i64 0] 42)) (w4.alloc (.cells #[.int .i64 0, .int .i64 0, .int .i64 0, .int .i64 0] 42)) := ((FrT.of_below hb4).trans (FrT.of_below (below1 w4 (.cells #[.int .i64 0, .int .i64 0, .int .i64 0, .int .i64 0] 42)))); have HR3 := hidOf ((HR2.out.grow hb4).grow (below1 w4 (.cells #[.int .i64 0, .int .i64 0, .int .i64 0, .int .i64 0] 42))); clear hb4; have HS3 := hidOf (HS2.out.keepT hf3 (by decide)); have HF3 := hidOf (HF2.out.trans (hf3.mono tr_tt)); have hq3 := hf3.cells HQ2.out (by decide); have HQ3 := hidOf hq3; obtain ⟨_, j0, _⟩ := box31 hq3; have hq8 := hf3.cells HQ8.out (by decide); obtain ⟨g0, g1, g2, g3, _⟩ := box4 hq8; obtain ⟨f0, f1, f2, f3, _⟩ := box4 (heap_alloc_new w4 (.cells #[.int .i64 0, .int .i64 0, .int .i64 0, .int .i64 0] 42)); clear hf3 hq3 hq8 HS2 HR2))
          have HL2 : Hid (R.length ≤ pre L (k + 1)) := hidOf (by rw [HPS.out]; omega)
          have heq := fun W => eq42 (0) (0) (0) (0) W
          go_upto_region 25 with (fail)
          clear heq g0 g1 g2 g3 f0 f1 f2 f3
          obtain ⟨v3, hv3⟩ : ∃ y, y = v := ⟨_, rfl⟩
          rw [← hv3] at HR3
          clear hv3
          obtain ⟨a3, cap3, hv3, hlm3⟩ := HR3.out.slice
          subst hv3
          cases ho1 : heldM x.wk R with
          | none =>
            have HO1 := hidOf ho1
            clear ho1
            have HA := hidOf (fun W (h : Sta w.heap.size W p R ((k + 1) * 1048577)) => (by have h9 := s_held h x.wk; rw [HO1.out] at h9; exact h9 : Calls Try.prog 19 #[.pointer (some ⟨p, 0, none⟩), .int .i64 x.wk] W fun e w' => e = .returned (.tuple #[(.agg #[.int .i64 0, .int .i64 0, .int .i64 0, .int .i64 0]), .bool false]) ∧ Below W.heap.size W w'))
            have HB := hidOf (fun W (h : RefR w.heap.size W pR (.slice a3 (R).length cap3) R) => (by have h9 := rheld_any pR (.slice a3 (R).length cap3) R x.wk W h; rw [HO1.out] at h9; exact h9 : Calls Try.prog 20 #[.pointer (some ⟨pR, 0, none⟩), .int .i64 x.wk] W fun e w' => e = .returned (.tuple #[(.agg #[.int .i64 0, .int .i64 0, .int .i64 0, .int .i64 0]), .bool false]) ∧ Below W.heap.size W w'))
            have hne := fun W => ne42 (0) (0) (0) (0) W
            go_upto_region 27 with (first
              | (go_at_call 19; refine (HA.out _ HS3.out).mono ?_; rintro e w5 ⟨rfl, hb5⟩; have hb5a := hb5.trans ((below1 w5 (.cells #[.int .i64 0, .int .i64 0, .int .i64 0, .int .i64 0] 42)).mono hb5.size); have HS5 := hidOf (HS3.out.grow hb5a); have HR5 := hidOf (HR3.out.grow hb5a); have hq31 := (hb5a.block _ (heap_lt HQ3.out)).trans HQ3.out; have j1 : (w5.alloc (.cells #[.int .i64 0, .int .i64 0, .int .i64 0, .int .i64 0] 42)).cell? ⟨wr.heap.size, 1, none⟩ = some (.int .i64 x.wk) := (by rw [cell_of_row _ _ 1 _ 31 (0, 0) hq31]; rfl); have HQ12 := hidOf (heap_alloc_new w5 (.cells #[.int .i64 0, .int .i64 0, .int .i64 0, .int .i64 0] 42)); have HB5 := hidOf hb5a; clear hb5 hb5a hq31 HA j0)
              | (go_at_call 20; refine (HB.out _ HR5.out).mono ?_; rintro e w7 ⟨rfl, hb7⟩; have hb7a := hb7.trans ((below1 w7 (.cells #[.int .i64 0, .int .i64 0, .int .i64 0, .int .i64 0] 42)).mono hb7.size); have HS7 := hidOf (HS5.out.grow hb7a); have HR7 := hidOf (HR5.out.grow hb7a); have hq12 := (hb7a.block _ (heap_lt HQ12.out)).trans HQ12.out; obtain ⟨g0, g1, g2, g3, _⟩ := box4 hq12; obtain ⟨f0, f1, f2, f3, _⟩ := box4 (heap_alloc_new w7 (.cells #[.int .i64 0, .int .i64 0, .int .i64 0, .int .i64 0] 42)); have m0 := HR7.out.cell; have HF7 := hidOf (HF3.out.trans (FrT.of_below (HB5.out.trans (hb7a.mono HB5.out.size)))); clear hb7 hb7a hq12 HB j1))
            have HLN := hidOf (fun W (h : Sta w.heap.size W p R ((k + 1) * 1048577)) => (s_len h : Calls Try.prog 21 #[.pointer (some ⟨p, 0, none⟩)] W fun e w' => e = .returned (.int .i64 (R).length) ∧ w' = W))
            go_region_held3 (fun w' => w'.cell? ⟨w5.heap.size, 0, none⟩ = some (.int .i64 0) ∧ w'.cell? ⟨w5.heap.size, 1, none⟩ = some (.int .i64 0) ∧ w'.cell? ⟨w5.heap.size, 2, none⟩ = some (.int .i64 0) ∧ w'.cell? ⟨w5.heap.size, 3, none⟩ = some (.int .i64 0) ∧ w'.cell? ⟨w7.heap.size, 0, none⟩ = some (.int .i64 0) ∧ w'.cell? ⟨w7.heap.size, 1, none⟩ = some (.int .i64 0) ∧ w'.cell? ⟨w7.heap.size, 2, none⟩ = some (.int .i64 0) ∧ w'.cell? ⟨w7.heap.size, 3, none⟩ = some (.int .i64 0) ∧ w'.cell? ⟨pR, 0, none⟩ = some (.slice a3 (R).length cap3)) (first | go_keep | exact ⟨g0, g1, g2, g3, f0, f1, f2, f3, m0⟩) (first | (go_at_call 21; refine (HLN.out _ (HS7.out.keepT (T := []) (FrT.refl 0 [] _).drew (by decide))).mono ?_; rintro e w8 ⟨rfl, h8⟩; subst w8))
            go_wp2
            go_roundw
            case rel => exact ⟨k + 1, R, (.slice a3 (R).length cap3), by omega, by go_num, hidOf (HS7.out.keepT (D' := 0) (T := []) (FrT.refl 0 [] _).drew (by decide)), HL2, hidOf (HR7.out.keepT (D' := 0) (T := []) (FrT.refl 0 [] _).drew (by simp) (by simp)), hidOf HF7.out.drew⟩
            case measure => simp [intOf]; omega
          | some y =>
            have HO1 := hidOf ho1
            clear ho1
            have HA := hidOf (fun W (h : Sta w.heap.size W p R ((k + 1) * 1048577)) => (by have h9 := s_held h x.wk; rw [HO1.out] at h9; exact h9 : Calls Try.prog 19 #[.pointer (some ⟨p, 0, none⟩), .int .i64 x.wk] W fun e w' => e = .returned (.tuple #[(.agg #[.int .i64 y.jb, .int .i64 y.pr, .int .i64 y.st, .int .i64 y.ix]), .bool true]) ∧ Below W.heap.size W w'))
            have HB := hidOf (fun W (h : RefR w.heap.size W pR (.slice a3 (R).length cap3) R) => (by have h9 := rheld_any pR (.slice a3 (R).length cap3) R x.wk W h; rw [HO1.out] at h9; exact h9 : Calls Try.prog 20 #[.pointer (some ⟨pR, 0, none⟩), .int .i64 x.wk] W fun e w' => e = .returned (.tuple #[(.agg #[.int .i64 y.jb, .int .i64 y.pr, .int .i64 y.st, .int .i64 y.ix]), .bool true]) ∧ Below W.heap.size W w'))
            have hne := fun W => ne42 (y.jb) (y.pr) (y.st) (y.ix) W
            go_upto_region 27 with (first
              | (go_at_call 19; refine (HA.out _ HS3.out).mono ?_; rintro e w5 ⟨rfl, hb5⟩; have hb5a := hb5.trans ((below1 w5 (.cells #[.int .i64 y.jb, .int .i64 y.pr, .int .i64 y.st, .int .i64 y.ix] 42)).mono hb5.size); have HS5 := hidOf (HS3.out.grow hb5a); have HR5 := hidOf (HR3.out.grow hb5a); have hq31 := (hb5a.block _ (heap_lt HQ3.out)).trans HQ3.out; have j1 : (w5.alloc (.cells #[.int .i64 y.jb, .int .i64 y.pr, .int .i64 y.st, .int .i64 y.ix] 42)).cell? ⟨wr.heap.size, 1, none⟩ = some (.int .i64 x.wk) := (by rw [cell_of_row _ _ 1 _ 31 (0, 0) hq31]; rfl); have HQ12 := hidOf (heap_alloc_new w5 (.cells #[.int .i64 y.jb, .int .i64 y.pr, .int .i64 y.st, .int .i64 y.ix] 42)); have HB5 := hidOf hb5a; clear hb5 hb5a hq31 HA j0)
              | (go_at_call 20; refine (HB.out _ HR5.out).mono ?_; rintro e w7 ⟨rfl, hb7⟩; have hb7a := hb7.trans ((below1 w7 (.cells #[.int .i64 y.jb, .int .i64 y.pr, .int .i64 y.st, .int .i64 y.ix] 42)).mono hb7.size); have HS7 := hidOf (HS5.out.grow hb7a); have HR7 := hidOf (HR5.out.grow hb7a); have hq12 := (hb7a.block _ (heap_lt HQ12.out)).trans HQ12.out; obtain ⟨g0, g1, g2, g3, _⟩ := box4 hq12; obtain ⟨f0, f1, f2, f3, _⟩ := box4 (heap_alloc_new w7 (.cells #[.int .i64 y.jb, .int .i64 y.pr, .int .i64 y.st, .int .i64 y.ix] 42)); have m0 := HR7.out.cell; have HF7 := hidOf (HF3.out.trans (FrT.of_below (HB5.out.trans (hb7a.mono HB5.out.size)))); clear hb7 hb7a hq12 HB j1))
            have HLN := hidOf (fun W (h : Sta w.heap.size W p R ((k + 1) * 1048577)) => (s_len h : Calls Try.prog 21 #[.pointer (some ⟨p, 0, none⟩)] W fun e w' => e = .returned (.int .i64 (R).length) ∧ w' = W))
            go_region_held3 (fun w' => w'.cell? ⟨w5.heap.size, 0, none⟩ = some (.int .i64 y.jb) ∧ w'.cell? ⟨w5.heap.size, 1, none⟩ = some (.int .i64 y.pr) ∧ w'.cell? ⟨w5.heap.size, 2, none⟩ = some (.int .i64 y.st) ∧ w'.cell? ⟨w5.heap.size, 3, none⟩ = some (.int .i64 y.ix) ∧ w'.cell? ⟨w7.heap.size, 0, none⟩ = some (.int .i64 y.jb) ∧ w'.cell? ⟨w7.heap.size, 1, none⟩ = some (.int .i64 y.pr) ∧ w'.cell? ⟨w7.heap.size, 2, none⟩ = some (.int .i64 y.st) ∧ w'.cell? ⟨w7.heap.size, 3, none⟩ = some (.int .i64 y.ix) ∧ w'.cell? ⟨pR, 0, none⟩ = some (.slice a3 (R).length cap3)) (first | go_keep | exact ⟨g0, g1, g2, g3, f0, f1, f2, f3, m0⟩) (first | (go_at_call 21; refine (HLN.out _ (HS7.out.keepT (T := []) (FrT.refl 0 [] _).drew (by decide))).mono ?_; rintro e w8 ⟨rfl, h8⟩; subst w8))
            go_wp2
            go_roundw
            case rel => exact ⟨k + 1, R, (.slice a3 (R).length cap3), by omega, by go_num, hidOf (HS7.out.keepT (D' := 0) (T := []) (FrT.refl 0 [] _).drew (by decide)), HL2, hidOf (HR7.out.keepT (D' := 0) (T := []) (FrT.refl 0 [] _).drew (by simp) (by simp)), hidOf HF7.out.drew⟩
            case measure => simp [intOf]; omega
        · have hhn : heldM x.wk R = none := by
            cases hh : heldM x.wk R with
            | none => rfl
            | some y => exact absurd (.inl (by rw [hh]; rfl)) hno
          have hz : ∃ z ∈ R, fr z = true := by
            refine Classical.byContradiction fun hc => hno (.inr fun z hz => ?_)
            cases hf : fr z with
            | false => rfl
            | true => exact absurd ⟨z, hz, hf⟩ hc
          obtain ⟨z, hz, hzf⟩ := hz
          have HDA := hidOf (s_deq_yes HSA.out x.wk hhn hz hzf (by omega))
          have HHN := hidOf hhn
          have HDB := hidOf (fun W (h : RefR w.heap.size W pR v R) i y1 (hm : MinR R i y1) => rdeq_yes h HSA.out.ok HHN.out hm)
          simp only [evV] at HDA HDB
          clear hno hhn hz hzf
          go_upto_region 17 with (first
            | (go_at_call 8; refine (HPK.out _).mono ?_; rintro e w9 ⟨rfl, h9⟩; subst w9; clear HPK)
            | (go_at_call 11; refine (HDA.out).mono ?_; rintro e w2 ⟨i, y1, hm, rfl, h1, h2⟩; have HM := hidOf hm; have HS2 := hidOf ((h1.mono (N' := (k + 1) * 1048577) (by omega)).grow (below1 w2 (.cells #[.int .i64 y1.jb, .int .i64 y1.pr, .int .i64 y1.st, .int .i64 y1.ix] 42))); have hf2 : FrT w.heap.size TB (wr.alloc (.cells #[.int .i64 x.kd, .int .i64 x.wk, .slice x.xa x.D.length x.xc] 31)) (w2.alloc (.cells #[.int .i64 y1.jb, .int .i64 y1.pr, .int .i64 y1.st, .int .i64 y1.ix] 42)) := ((h2.mono tp_tb).trans (FrT.of_below (below1 w2 (.cells #[.int .i64 y1.jb, .int .i64 y1.pr, .int .i64 y1.st, .int .i64 y1.ix] 42)))); clear h1 h2 hm; have HF2 := hidOf (HFA.out.trans (hf2.mono tb_tt)); have HR2 := hidOf (HRA.out.keepT hf2 (by decide) (by decide)); have hq2 := hf2.cells HQA.out (by decide); have HQ2 := hidOf hq2; have HQ8 := hidOf (heap_alloc_new w2 (.cells #[.int .i64 y1.jb, .int .i64 y1.pr, .int .i64 y1.st, .int .i64 y1.ix] 42)); obtain ⟨_, i1, _⟩ := box31 hq2; clear hf2 hq2 HDA)
            | (go_at_call 12; refine (HDB.out _ HR2.out _ _ HM.out).mono ?_; rintro e w4 ⟨rfl, h1, h2⟩; have hf3 : FrT w.heap.size TR (w2.alloc (.cells #[.int .i64 y1.jb, .int .i64 y1.pr, .int .i64 y1.st, .int .i64 y1.ix] 42)) (w4.alloc (.cells #[.int .i64 y1.jb, .int .i64 y1.pr, .int .i64 y1.st, .int .i64 y1.ix] 42)) := ((h2.mono (by decide)).trans (FrT.of_below (below1 w4 (.cells #[.int .i64 y1.jb, .int .i64 y1.pr, .int .i64 y1.st, .int .i64 y1.ix] 42)))); have HR3 := hidOf (h1.grow (below1 w4 (.cells #[.int .i64 y1.jb, .int .i64 y1.pr, .int .i64 y1.st, .int .i64 y1.ix] 42))); clear h1 h2; have HS3 := hidOf (HS2.out.keepT hf3 (by decide)); have HF3 := hidOf (HF2.out.trans (hf3.mono tr_tt)); have hq3 := hf3.cells HQ2.out (by decide); have HQ3 := hidOf hq3; obtain ⟨_, j0, _⟩ := box31 hq3; have hq8 := hf3.cells HQ8.out (by decide); obtain ⟨g0, g1, g2, g3, _⟩ := box4 hq8; obtain ⟨f0, f1, f2, f3, _⟩ := box4 (heap_alloc_new w4 (.cells #[.int .i64 y1.jb, .int .i64 y1.pr, .int .i64 y1.st, .int .i64 y1.ix] 42)); clear hf3 hq3 hq8 HS2 HR2))
          have HL2 : Hid ((R.set i (tkn x.wk y1)).length ≤ pre L (k + 1)) := hidOf (by rw [HPS.out, List.length_set]; omega)
          have heq := fun W => eq42 (y1.jb) (y1.pr) (y1.st) (y1.ix) W
          go_upto_region 25 with (fail)
          clear heq g0 g1 g2 g3 f0 f1 f2 f3
          generalize R.set i (tkn x.wk y1) = R2 at HS3 HL2 HR3
          obtain ⟨a3, cap3, hv3, hlm3⟩ := HR3.out.slice
          subst hv3
          cases ho1 : heldM x.wk R2 with
          | none =>
            have HO1 := hidOf ho1
            clear ho1
            have HA := hidOf (fun W (h : Sta w.heap.size W p R2 ((k + 1) * 1048577)) => (by have h9 := s_held h x.wk; rw [HO1.out] at h9; exact h9 : Calls Try.prog 19 #[.pointer (some ⟨p, 0, none⟩), .int .i64 x.wk] W fun e w' => e = .returned (.tuple #[(.agg #[.int .i64 0, .int .i64 0, .int .i64 0, .int .i64 0]), .bool false]) ∧ Below W.heap.size W w'))
            have HB := hidOf (fun W (h : RefR w.heap.size W pR (.slice a3 (R2).length cap3) R2) => (by have h9 := rheld_any pR (.slice a3 (R2).length cap3) R2 x.wk W h; rw [HO1.out] at h9; exact h9 : Calls Try.prog 20 #[.pointer (some ⟨pR, 0, none⟩), .int .i64 x.wk] W fun e w' => e = .returned (.tuple #[(.agg #[.int .i64 0, .int .i64 0, .int .i64 0, .int .i64 0]), .bool false]) ∧ Below W.heap.size W w'))
            have hne := fun W => ne42 (0) (0) (0) (0) W
            go_upto_region 27 with (first
              | (go_at_call 19; refine (HA.out _ HS3.out).mono ?_; rintro e w5 ⟨rfl, hb5⟩; have hb5a := hb5.trans ((below1 w5 (.cells #[.int .i64 0, .int .i64 0, .int .i64 0, .int .i64 0] 42)).mono hb5.size); have HS5 := hidOf (HS3.out.grow hb5a); have HR5 := hidOf (HR3.out.grow hb5a); have hq31 := (hb5a.block _ (heap_lt HQ3.out)).trans HQ3.out; have j1 : (w5.alloc (.cells #[.int .i64 0, .int .i64 0, .int .i64 0, .int .i64 0] 42)).cell? ⟨wr.heap.size, 1, none⟩ = some (.int .i64 x.wk) := (by rw [cell_of_row _ _ 1 _ 31 (0, 0) hq31]; rfl); have HQ12 := hidOf (heap_alloc_new w5 (.cells #[.int .i64 0, .int .i64 0, .int .i64 0, .int .i64 0] 42)); have HB5 := hidOf hb5a; clear hb5 hb5a hq31 HA j0)
              | (go_at_call 20; refine (HB.out _ HR5.out).mono ?_; rintro e w7 ⟨rfl, hb7⟩; have hb7a := hb7.trans ((below1 w7 (.cells #[.int .i64 0, .int .i64 0, .int .i64 0, .int .i64 0] 42)).mono hb7.size); have HS7 := hidOf (HS5.out.grow hb7a); have HR7 := hidOf (HR5.out.grow hb7a); have hq12 := (hb7a.block _ (heap_lt HQ12.out)).trans HQ12.out; obtain ⟨g0, g1, g2, g3, _⟩ := box4 hq12; obtain ⟨f0, f1, f2, f3, _⟩ := box4 (heap_alloc_new w7 (.cells #[.int .i64 0, .int .i64 0, .int .i64 0, .int .i64 0] 42)); have m0 := HR7.out.cell; have HF7 := hidOf (HF3.out.trans (FrT.of_below (HB5.out.trans (hb7a.mono HB5.out.size)))); clear hb7 hb7a hq12 HB j1))
            have HLN := hidOf (fun W (h : Sta w.heap.size W p R2 ((k + 1) * 1048577)) => (s_len h : Calls Try.prog 21 #[.pointer (some ⟨p, 0, none⟩)] W fun e w' => e = .returned (.int .i64 (R2).length) ∧ w' = W))
            go_region_held3 (fun w' => w'.cell? ⟨w5.heap.size, 0, none⟩ = some (.int .i64 0) ∧ w'.cell? ⟨w5.heap.size, 1, none⟩ = some (.int .i64 0) ∧ w'.cell? ⟨w5.heap.size, 2, none⟩ = some (.int .i64 0) ∧ w'.cell? ⟨w5.heap.size, 3, none⟩ = some (.int .i64 0) ∧ w'.cell? ⟨w7.heap.size, 0, none⟩ = some (.int .i64 0) ∧ w'.cell? ⟨w7.heap.size, 1, none⟩ = some (.int .i64 0) ∧ w'.cell? ⟨w7.heap.size, 2, none⟩ = some (.int .i64 0) ∧ w'.cell? ⟨w7.heap.size, 3, none⟩ = some (.int .i64 0) ∧ w'.cell? ⟨pR, 0, none⟩ = some (.slice a3 (R2).length cap3)) (first | go_keep | exact ⟨g0, g1, g2, g3, f0, f1, f2, f3, m0⟩) (first | (go_at_call 21; refine (HLN.out _ (HS7.out.keepT (T := []) (FrT.refl 0 [] _).drew (by decide))).mono ?_; rintro e w8 ⟨rfl, h8⟩; subst w8))
            go_wp2
            go_roundw
            case rel => exact ⟨k + 1, R2, (.slice a3 (R2).length cap3), by omega, by go_num, hidOf (HS7.out.keepT (D' := 0) (T := []) (FrT.refl 0 [] _).drew (by decide)), HL2, hidOf (HR7.out.keepT (D' := 0) (T := []) (FrT.refl 0 [] _).drew (by simp) (by simp)), hidOf HF7.out.drew⟩
            case measure => simp [intOf]; omega
          | some y =>
            have HO1 := hidOf ho1
            clear ho1
            have HA := hidOf (fun W (h : Sta w.heap.size W p R2 ((k + 1) * 1048577)) => (by have h9 := s_held h x.wk; rw [HO1.out] at h9; exact h9 : Calls Try.prog 19 #[.pointer (some ⟨p, 0, none⟩), .int .i64 x.wk] W fun e w' => e = .returned (.tuple #[(.agg #[.int .i64 y.jb, .int .i64 y.pr, .int .i64 y.st, .int .i64 y.ix]), .bool true]) ∧ Below W.heap.size W w'))
            have HB := hidOf (fun W (h : RefR w.heap.size W pR (.slice a3 (R2).length cap3) R2) => (by have h9 := rheld_any pR (.slice a3 (R2).length cap3) R2 x.wk W h; rw [HO1.out] at h9; exact h9 : Calls Try.prog 20 #[.pointer (some ⟨pR, 0, none⟩), .int .i64 x.wk] W fun e w' => e = .returned (.tuple #[(.agg #[.int .i64 y.jb, .int .i64 y.pr, .int .i64 y.st, .int .i64 y.ix]), .bool true]) ∧ Below W.heap.size W w'))
            have hne := fun W => ne42 (y.jb) (y.pr) (y.st) (y.ix) W
            go_upto_region 27 with (first
              | (go_at_call 19; refine (HA.out _ HS3.out).mono ?_; rintro e w5 ⟨rfl, hb5⟩; have hb5a := hb5.trans ((below1 w5 (.cells #[.int .i64 y.jb, .int .i64 y.pr, .int .i64 y.st, .int .i64 y.ix] 42)).mono hb5.size); have HS5 := hidOf (HS3.out.grow hb5a); have HR5 := hidOf (HR3.out.grow hb5a); have hq31 := (hb5a.block _ (heap_lt HQ3.out)).trans HQ3.out; have j1 : (w5.alloc (.cells #[.int .i64 y.jb, .int .i64 y.pr, .int .i64 y.st, .int .i64 y.ix] 42)).cell? ⟨wr.heap.size, 1, none⟩ = some (.int .i64 x.wk) := (by rw [cell_of_row _ _ 1 _ 31 (0, 0) hq31]; rfl); have HQ12 := hidOf (heap_alloc_new w5 (.cells #[.int .i64 y.jb, .int .i64 y.pr, .int .i64 y.st, .int .i64 y.ix] 42)); have HB5 := hidOf hb5a; clear hb5 hb5a hq31 HA j0)
              | (go_at_call 20; refine (HB.out _ HR5.out).mono ?_; rintro e w7 ⟨rfl, hb7⟩; have hb7a := hb7.trans ((below1 w7 (.cells #[.int .i64 y.jb, .int .i64 y.pr, .int .i64 y.st, .int .i64 y.ix] 42)).mono hb7.size); have HS7 := hidOf (HS5.out.grow hb7a); have HR7 := hidOf (HR5.out.grow hb7a); have hq12 := (hb7a.block _ (heap_lt HQ12.out)).trans HQ12.out; obtain ⟨g0, g1, g2, g3, _⟩ := box4 hq12; obtain ⟨f0, f1, f2, f3, _⟩ := box4 (heap_alloc_new w7 (.cells #[.int .i64 y.jb, .int .i64 y.pr, .int .i64 y.st, .int .i64 y.ix] 42)); have m0 := HR7.out.cell; have HF7 := hidOf (HF3.out.trans (FrT.of_below (HB5.out.trans (hb7a.mono HB5.out.size)))); clear hb7 hb7a hq12 HB j1))
            have HLN := hidOf (fun W (h : Sta w.heap.size W p R2 ((k + 1) * 1048577)) => (s_len h : Calls Try.prog 21 #[.pointer (some ⟨p, 0, none⟩)] W fun e w' => e = .returned (.int .i64 (R2).length) ∧ w' = W))
            go_region_held3 (fun w' => w'.cell? ⟨w5.heap.size, 0, none⟩ = some (.int .i64 y.jb) ∧ w'.cell? ⟨w5.heap.size, 1, none⟩ = some (.int .i64 y.pr) ∧ w'.cell? ⟨w5.heap.size, 2, none⟩ = some (.int .i64 y.st) ∧ w'.cell? ⟨w5.heap.size, 3, none⟩ = some (.int .i64 y.ix) ∧ w'.cell? ⟨w7.heap.size, 0, none⟩ = some (.int .i64 y.jb) ∧ w'.cell? ⟨w7.heap.size, 1, none⟩ = some (.int .i64 y.pr) ∧ w'.cell? ⟨w7.heap.size, 2, none⟩ = some (.int .i64 y.st) ∧ w'.cell? ⟨w7.heap.size, 3, none⟩ = some (.int .i64 y.ix) ∧ w'.cell? ⟨pR, 0, none⟩ = some (.slice a3 (R2).length cap3)) (first | go_keep | exact ⟨g0, g1, g2, g3, f0, f1, f2, f3, m0⟩) (first | (go_at_call 21; refine (HLN.out _ (HS7.out.keepT (T := []) (FrT.refl 0 [] _).drew (by decide))).mono ?_; rintro e w8 ⟨rfl, h8⟩; subst w8))
            go_wp2
            go_roundw
            case rel => exact ⟨k + 1, R2, (.slice a3 (R2).length cap3), by omega, by go_num, hidOf (HS7.out.keepT (D' := 0) (T := []) (FrT.refl 0 [] _).drew (by decide)), HL2, hidOf (HR7.out.keepT (D' := 0) (T := []) (FrT.refl 0 [] _).drew (by simp) (by simp)), hidOf HF7.out.drew⟩
            case measure => simp [intOf]; omega
      · have HPK := hidOf (fun W => (by have h9 := pick_any x.kd 5 HRG.out.1 (by omega) (by omega) W; rw [hk5] at h9; exact h9 : Calls Try.prog 8 #[.int .i64 x.kd, .int .i64 5] W fun e w' => e = .returned (.int .i64 2) ∧ w' = W))
        clear hk5
        obtain ⟨_, k1a, _⟩ := box31 HQA.out
        obtain ⟨rv, hrv⟩ : ∃ y : Int, (if (heldM x.wk R).isSome = true then (0 : Int) else 3) = y := ⟨_, rfl⟩
        have HL2 : Hid ((ackM x.wk R).length ≤ pre L (k + 1)) := hidOf (by rw [HPS.out]; have := ackM_len x.wk R; omega)
        go_upto_region 19 with (go_at_call 8; refine (HPK.out _).mono ?_; rintro e w9 ⟨rfl, h9⟩; subst w9; clear HPK)
        refine wp_region_held_drew (S := (fun wz : World => wz.cell? ⟨wr.heap.size, 1, none⟩ = some (.int .i64 x.wk))) (by kernel_rfl) k1a (fun hHeld => ?_)
        refine wpAnyH_take (i := 0) (oi := { dst := some 72, op := Op.move (Operand.tmp 3), type := 23, pos := "law.go:66", after := #[], guard := none }) (v := .pointer (some ⟨p, 0, none⟩)) rfl (by kernel_rfl) (by kernel_rfl) (by kernel_rfl) (fun _ _ _ h => h) (Or.inl ⟨by rfl, ?_⟩) hHeld ?_
        · (intro w hSw; (try dsimp only at hSw); go_simp)
        try simp only [Act.put, List.setIfInBounds_toArray, List.set_cons_zero, List.set_cons_succ]
        refine wpAnyH_take (i := 1) (oi := { dst := some 73, op := Op.fieldAddr 31 (Operand.tmp 6) 1, type := 0, pos := "law.go:66", after := #[], guard := none }) (v := .pointer (some ⟨wr.heap.size, 1, none⟩)) rfl (by kernel_rfl) (by kernel_rfl) (by kernel_rfl) (fun _ _ _ h => h) (Or.inl ⟨by rfl, ?_⟩) hHeld ?_
        · (intro w hSw; (try dsimp only at hSw); go_simp)
        try simp only [Act.put, List.setIfInBounds_toArray, List.set_cons_zero, List.set_cons_succ]
        refine wpAnyH_take (i := 2) (oi := { dst := some 74, op := Op.load 3 (Operand.tmp 73), type := 3, pos := "law.go:66", after := #[{ on := 1, ground := Ground.data }], guard := none }) (v := .int .i64 x.wk) rfl (by kernel_rfl) (by kernel_rfl) (by kernel_rfl) (fun _ _ _ h => h) (Or.inl ⟨by rfl, ?_⟩) hHeld ?_
        · (intro w hSw; (try dsimp only at hSw); go_simp)
        try simp only [Act.put, List.setIfInBounds_toArray, List.set_cons_zero, List.set_cons_succ]
        refine wpAnyH_take (i := 4) (oi := { dst := some 76, op := Op.move (Operand.tmp 4), type := 25, pos := "law.go:66", after := #[], guard := none }) (v := .pointer (some ⟨pR, 0, none⟩)) rfl (by kernel_rfl) (by kernel_rfl) (by kernel_rfl) (fun _ _ _ h => h) (Or.inl ⟨by rfl, ?_⟩) hHeld ?_
        · (intro w hSw; (try dsimp only at hSw); go_simp)
        try simp only [Act.put, List.setIfInBounds_toArray, List.set_cons_zero, List.set_cons_succ]
        refine wpAnyH_take (i := 5) (oi := { dst := some 77, op := Op.fieldAddr 31 (Operand.tmp 6) 1, type := 0, pos := "law.go:66", after := #[], guard := none }) (v := .pointer (some ⟨wr.heap.size, 1, none⟩)) rfl (by kernel_rfl) (by kernel_rfl) (by kernel_rfl) (fun _ _ _ h => h) (Or.inl ⟨by rfl, ?_⟩) hHeld ?_
        · (intro w hSw; (try dsimp only at hSw); go_simp)
        try simp only [Act.put, List.setIfInBounds_toArray, List.set_cons_zero, List.set_cons_succ]
        refine wpAnyH_take (i := 6) (oi := { dst := some 78, op := Op.load 3 (Operand.tmp 77), type := 3, pos := "law.go:66", after := #[{ on := 5, ground := Ground.data }], guard := none }) (v := .int .i64 x.wk) rfl (by kernel_rfl) (by kernel_rfl) (by kernel_rfl) (fun _ _ _ h => h) (Or.inl ⟨by rfl, ?_⟩) hHeld ?_
        · (intro w hSw; (try dsimp only at hSw); go_simp)
        try simp only [Act.put, List.setIfInBounds_toArray, List.set_cons_zero, List.set_cons_succ]
        refine wpAnyH_ready (rs := [3]) (by kernel_rfl) (by simp) ?_
        refine AllReadyH.cons (o := { dst := some 75, op := Op.call { callee := Callee.value (Operand.func 13), args := #[Operand.tmp 72, Operand.tmp 74], argTypes := #[23, 3] }, type := 45, pos := "law.go:66", after := #[{ on := 0, ground := Ground.data }, { on := 2, ground := Ground.data }], guard := none }) rfl (fun K hK => ?_) AllReadyH.nil
        go_simp
        go_at_call 13
        refine (s_ack (HSA.out.keepT (T := []) (FrT.refl 0 [] _).drew (by decide)) x.wk).mono ?_
        rintro e w2 ⟨he, h1, h2⟩
        have h2 := (FrT.refl w.heap.size [55, 58] _).drew.trans h2
        rw [hrv] at he
        subst he
        have HS2 := hidOf (h1.mono (N' := (k + 1) * 1048577) (by omega))
        have HF2 := hidOf (HFA.out.trans (h2.mono (T' := (28 :: 71 :: TB)) (by decide)))
        have HR2 := hidOf (HRA.out.keepT h2 (by decide) (by decide))
        have hq2 := h2.cells HQA.out (by decide)
        have HQ2 := hidOf hq2
        obtain ⟨_, i1, _⟩ := box31 hq2
        clear h1 h2 hq2
        refine hK.out _ _ i1 (fun hHeld1 => ?_)
        clear hK K
        try simp only [Act.put, List.setIfInBounds_toArray, List.set_cons_zero, List.set_cons_succ]
        refine wpAnyH_ready (rs := [7]) (by kernel_rfl) (by simp) ?_
        refine AllReadyH.cons (o := { dst := some 79, op := Op.call { callee := Callee.value (Operand.func 14), args := #[Operand.tmp 76, Operand.tmp 78], argTypes := #[25, 3] }, type := 45, pos := "law.go:66", after := #[{ on := 4, ground := Ground.data }, { on := 6, ground := Ground.data }, { on := 3, ground := Ground.chain }], guard := none }) rfl (fun K hK => ?_) AllReadyH.nil
        go_simp
        go_at_call 14
        refine (rack_any pR v R x.wk w2 HR2.out (by omega)).mono ?_
        rintro e w3 ⟨he, ⟨v3, h1⟩, h2⟩
        rw [hrv] at he
        subst he
        have HR3 := hidOf h1
        have HS3 := hidOf (HS2.out.keepT h2 (by decide))
        have HF3 := hidOf (HF2.out.trans (h2.mono (T' := (28 :: 71 :: TB)) (tr_tt)))
        have hq3 := h2.cells HQ2.out (by decide)
        have HQ3 := hidOf hq3
        obtain ⟨_, j0, _⟩ := box31 hq3
        clear h1 h2 hq3 HS2 HR2
        refine hK.out _ _ j0 (fun hHeld2 => ?_)
        clear hK K
        try simp only [Act.put, List.setIfInBounds_toArray, List.set_cons_zero, List.set_cons_succ]
        refine wpAnyH_take (i := 8) (oi := { dst := some 80, op := Op.binOp BinOp.eql 45 (Operand.tmp 75) (Operand.tmp 79) 45, type := 4, pos := "law.go:66", after := #[{ on := 3, ground := Ground.data }, { on := 7, ground := Ground.data }], guard := none }) (v := .bool true) rfl (by kernel_rfl) (by kernel_rfl) (by kernel_rfl) (fun _ _ _ h => h) (Or.inl ⟨by rfl, ?_⟩) hHeld2 ?_
        · (intro w hSw; (try dsimp only at hSw); go_simp)
        try simp only [Act.put, List.setIfInBounds_toArray, List.set_cons_zero, List.set_cons_succ]
        refine wpAnyH_take (i := 9) (oi := { dst := some 7, op := Op.assign (Operand.tmp 80), type := 4, pos := "law.go:66", after := #[{ on := 8, ground := Ground.data }, { on := 7, ground := Ground.chain }, { on := 0, ground := Ground.phase }, { on := 1, ground := Ground.phase }, { on := 2, ground := Ground.phase }, { on := 3, ground := Ground.phase }, { on := 4, ground := Ground.phase }, { on := 5, ground := Ground.phase }, { on := 6, ground := Ground.phase }, { on := 7, ground := Ground.phase }, { on := 8, ground := Ground.phase }], guard := none }) (v := .bool true) rfl (by kernel_rfl) (by kernel_rfl) (by kernel_rfl) (fun _ _ _ h => h) (Or.inl ⟨by rfl, ?_⟩) hHeld2 ?_
        · (intro w hSw; (try dsimp only at hSw); go_simp)
        try simp only [Act.put, List.setIfInBounds_toArray, List.set_cons_zero, List.set_cons_succ]
        refine wpAnyH_done (by kernel_rfl) ?_ _
        generalize ackM x.wk R = R2 at HS3 HL2 HR3
        clear hrv k1a
        go_upto_region 25 with (fail)
        obtain ⟨a3, cap3, hv3, hlm3⟩ := HR3.out.slice
        subst hv3
        cases ho1 : heldM x.wk R2 with
        | none =>
          have HO1 := hidOf ho1
          clear ho1
          have HA := hidOf (fun W (h : Sta w.heap.size W p R2 ((k + 1) * 1048577)) => (by have h9 := s_held h x.wk; rw [HO1.out] at h9; exact h9 : Calls Try.prog 19 #[.pointer (some ⟨p, 0, none⟩), .int .i64 x.wk] W fun e w' => e = .returned (.tuple #[(.agg #[.int .i64 0, .int .i64 0, .int .i64 0, .int .i64 0]), .bool false]) ∧ Below W.heap.size W w'))
          have HB := hidOf (fun W (h : RefR w.heap.size W pR (.slice a3 (R2).length cap3) R2) => (by have h9 := rheld_any pR (.slice a3 (R2).length cap3) R2 x.wk W h; rw [HO1.out] at h9; exact h9 : Calls Try.prog 20 #[.pointer (some ⟨pR, 0, none⟩), .int .i64 x.wk] W fun e w' => e = .returned (.tuple #[(.agg #[.int .i64 0, .int .i64 0, .int .i64 0, .int .i64 0]), .bool false]) ∧ Below W.heap.size W w'))
          have hne := fun W => ne42 (0) (0) (0) (0) W
          go_upto_region 27 with (first
            | (go_at_call 19; refine (HA.out _ HS3.out).mono ?_; rintro e w5 ⟨rfl, hb5⟩; have hb5a := hb5.trans ((below1 w5 (.cells #[.int .i64 0, .int .i64 0, .int .i64 0, .int .i64 0] 42)).mono hb5.size); have HS5 := hidOf (HS3.out.grow hb5a); have HR5 := hidOf (HR3.out.grow hb5a); have hq31 := (hb5a.block _ (heap_lt HQ3.out)).trans HQ3.out; have j1 : (w5.alloc (.cells #[.int .i64 0, .int .i64 0, .int .i64 0, .int .i64 0] 42)).cell? ⟨wr.heap.size, 1, none⟩ = some (.int .i64 x.wk) := (by rw [cell_of_row _ _ 1 _ 31 (0, 0) hq31]; rfl); have HQ12 := hidOf (heap_alloc_new w5 (.cells #[.int .i64 0, .int .i64 0, .int .i64 0, .int .i64 0] 42)); have HB5 := hidOf hb5a; clear hb5 hb5a hq31 HA j0)
            | (go_at_call 20; refine (HB.out _ HR5.out).mono ?_; rintro e w7 ⟨rfl, hb7⟩; have hb7a := hb7.trans ((below1 w7 (.cells #[.int .i64 0, .int .i64 0, .int .i64 0, .int .i64 0] 42)).mono hb7.size); have HS7 := hidOf (HS5.out.grow hb7a); have HR7 := hidOf (HR5.out.grow hb7a); have hq12 := (hb7a.block _ (heap_lt HQ12.out)).trans HQ12.out; obtain ⟨g0, g1, g2, g3, _⟩ := box4 hq12; obtain ⟨f0, f1, f2, f3, _⟩ := box4 (heap_alloc_new w7 (.cells #[.int .i64 0, .int .i64 0, .int .i64 0, .int .i64 0] 42)); have m0 := HR7.out.cell; have HF7 := hidOf (HF3.out.trans (FrT.of_below (HB5.out.trans (hb7a.mono HB5.out.size)))); clear hb7 hb7a hq12 HB j1))
          have HLN := hidOf (fun W (h : Sta w.heap.size W p R2 ((k + 1) * 1048577)) => (s_len h : Calls Try.prog 21 #[.pointer (some ⟨p, 0, none⟩)] W fun e w' => e = .returned (.int .i64 (R2).length) ∧ w' = W))
          go_region_held3 (fun w' => w'.cell? ⟨w5.heap.size, 0, none⟩ = some (.int .i64 0) ∧ w'.cell? ⟨w5.heap.size, 1, none⟩ = some (.int .i64 0) ∧ w'.cell? ⟨w5.heap.size, 2, none⟩ = some (.int .i64 0) ∧ w'.cell? ⟨w5.heap.size, 3, none⟩ = some (.int .i64 0) ∧ w'.cell? ⟨w7.heap.size, 0, none⟩ = some (.int .i64 0) ∧ w'.cell? ⟨w7.heap.size, 1, none⟩ = some (.int .i64 0) ∧ w'.cell? ⟨w7.heap.size, 2, none⟩ = some (.int .i64 0) ∧ w'.cell? ⟨w7.heap.size, 3, none⟩ = some (.int .i64 0) ∧ w'.cell? ⟨pR, 0, none⟩ = some (.slice a3 (R2).length cap3)) (first | go_keep | exact ⟨g0, g1, g2, g3, f0, f1, f2, f3, m0⟩) (first | (go_at_call 21; refine (HLN.out _ (HS7.out.keepT (T := []) (FrT.refl 0 [] _).drew (by decide))).mono ?_; rintro e w8 ⟨rfl, h8⟩; subst w8))
          go_wp2
          go_roundw
          case rel => exact ⟨k + 1, R2, (.slice a3 (R2).length cap3), by omega, by go_num, hidOf (HS7.out.keepT (D' := 0) (T := []) (FrT.refl 0 [] _).drew (by decide)), HL2, hidOf (HR7.out.keepT (D' := 0) (T := []) (FrT.refl 0 [] _).drew (by simp) (by simp)), hidOf HF7.out.drew⟩
          case measure => simp [intOf]; omega
        | some y =>
          have HO1 := hidOf ho1
          clear ho1
          have HA := hidOf (fun W (h : Sta w.heap.size W p R2 ((k + 1) * 1048577)) => (by have h9 := s_held h x.wk; rw [HO1.out] at h9; exact h9 : Calls Try.prog 19 #[.pointer (some ⟨p, 0, none⟩), .int .i64 x.wk] W fun e w' => e = .returned (.tuple #[(.agg #[.int .i64 y.jb, .int .i64 y.pr, .int .i64 y.st, .int .i64 y.ix]), .bool true]) ∧ Below W.heap.size W w'))
          have HB := hidOf (fun W (h : RefR w.heap.size W pR (.slice a3 (R2).length cap3) R2) => (by have h9 := rheld_any pR (.slice a3 (R2).length cap3) R2 x.wk W h; rw [HO1.out] at h9; exact h9 : Calls Try.prog 20 #[.pointer (some ⟨pR, 0, none⟩), .int .i64 x.wk] W fun e w' => e = .returned (.tuple #[(.agg #[.int .i64 y.jb, .int .i64 y.pr, .int .i64 y.st, .int .i64 y.ix]), .bool true]) ∧ Below W.heap.size W w'))
          have hne := fun W => ne42 (y.jb) (y.pr) (y.st) (y.ix) W
          go_upto_region 27 with (first
            | (go_at_call 19; refine (HA.out _ HS3.out).mono ?_; rintro e w5 ⟨rfl, hb5⟩; have hb5a := hb5.trans ((below1 w5 (.cells #[.int .i64 y.jb, .int .i64 y.pr, .int .i64 y.st, .int .i64 y.ix] 42)).mono hb5.size); have HS5 := hidOf (HS3.out.grow hb5a); have HR5 := hidOf (HR3.out.grow hb5a); have hq31 := (hb5a.block _ (heap_lt HQ3.out)).trans HQ3.out; have j1 : (w5.alloc (.cells #[.int .i64 y.jb, .int .i64 y.pr, .int .i64 y.st, .int .i64 y.ix] 42)).cell? ⟨wr.heap.size, 1, none⟩ = some (.int .i64 x.wk) := (by rw [cell_of_row _ _ 1 _ 31 (0, 0) hq31]; rfl); have HQ12 := hidOf (heap_alloc_new w5 (.cells #[.int .i64 y.jb, .int .i64 y.pr, .int .i64 y.st, .int .i64 y.ix] 42)); have HB5 := hidOf hb5a; clear hb5 hb5a hq31 HA j0)
            | (go_at_call 20; refine (HB.out _ HR5.out).mono ?_; rintro e w7 ⟨rfl, hb7⟩; have hb7a := hb7.trans ((below1 w7 (.cells #[.int .i64 y.jb, .int .i64 y.pr, .int .i64 y.st, .int .i64 y.ix] 42)).mono hb7.size); have HS7 := hidOf (HS5.out.grow hb7a); have HR7 := hidOf (HR5.out.grow hb7a); have hq12 := (hb7a.block _ (heap_lt HQ12.out)).trans HQ12.out; obtain ⟨g0, g1, g2, g3, _⟩ := box4 hq12; obtain ⟨f0, f1, f2, f3, _⟩ := box4 (heap_alloc_new w7 (.cells #[.int .i64 y.jb, .int .i64 y.pr, .int .i64 y.st, .int .i64 y.ix] 42)); have m0 := HR7.out.cell; have HF7 := hidOf (HF3.out.trans (FrT.of_below (HB5.out.trans (hb7a.mono HB5.out.size)))); clear hb7 hb7a hq12 HB j1))
          have HLN := hidOf (fun W (h : Sta w.heap.size W p R2 ((k + 1) * 1048577)) => (s_len h : Calls Try.prog 21 #[.pointer (some ⟨p, 0, none⟩)] W fun e w' => e = .returned (.int .i64 (R2).length) ∧ w' = W))
          go_region_held3 (fun w' => w'.cell? ⟨w5.heap.size, 0, none⟩ = some (.int .i64 y.jb) ∧ w'.cell? ⟨w5.heap.size, 1, none⟩ = some (.int .i64 y.pr) ∧ w'.cell? ⟨w5.heap.size, 2, none⟩ = some (.int .i64 y.st) ∧ w'.cell? ⟨w5.heap.size, 3, none⟩ = some (.int .i64 y.ix) ∧ w'.cell? ⟨w7.heap.size, 0, none⟩ = some (.int .i64 y.jb) ∧ w'.cell? ⟨w7.heap.size, 1, none⟩ = some (.int .i64 y.pr) ∧ w'.cell? ⟨w7.heap.size, 2, none⟩ = some (.int .i64 y.st) ∧ w'.cell? ⟨w7.heap.size, 3, none⟩ = some (.int .i64 y.ix) ∧ w'.cell? ⟨pR, 0, none⟩ = some (.slice a3 (R2).length cap3)) (first | go_keep | exact ⟨g0, g1, g2, g3, f0, f1, f2, f3, m0⟩) (first | (go_at_call 21; refine (HLN.out _ (HS7.out.keepT (T := []) (FrT.refl 0 [] _).drew (by decide))).mono ?_; rintro e w8 ⟨rfl, h8⟩; subst w8))
          go_wp2
          go_roundw
          case rel => exact ⟨k + 1, R2, (.slice a3 (R2).length cap3), by omega, by go_num, hidOf (HS7.out.keepT (D' := 0) (T := []) (FrT.refl 0 [] _).drew (by decide)), HL2, hidOf (HR7.out.keepT (D' := 0) (T := []) (FrT.refl 0 [] _).drew (by simp) (by simp)), hidOf HF7.out.drew⟩
          case measure => simp [intOf]; omega
      · have HPK := hidOf (fun W => (by have h9 := pick_any x.kd 5 HRG.out.1 (by omega) (by omega) W; rw [hk5] at h9; exact h9 : Calls Try.prog 8 #[.int .i64 x.kd, .int .i64 5] W fun e w' => e = .returned (.int .i64 3) ∧ w' = W))
        clear hk5
        obtain ⟨_, k1a, _⟩ := box31 HQA.out
        obtain ⟨rv, hrv⟩ : ∃ y : Int, (if (heldM x.wk R).isSome = true then (0 : Int) else 3) = y := ⟨_, rfl⟩
        have HL2 : Hid ((nackM x.wk R).length ≤ pre L (k + 1)) := hidOf (by rw [HPS.out, nackM_len]; omega)
        go_upto_region 21 with (go_at_call 8; refine (HPK.out _).mono ?_; rintro e w9 ⟨rfl, h9⟩; subst w9; clear HPK)
        refine wp_region_held_drew (S := (fun wz : World => wz.cell? ⟨wr.heap.size, 1, none⟩ = some (.int .i64 x.wk))) (by kernel_rfl) k1a (fun hHeld => ?_)
        refine wpAnyH_take (i := 0) (oi := { dst := some 83, op := Op.move (Operand.tmp 3), type := 23, pos := "law.go:68", after := #[], guard := none }) (v := .pointer (some ⟨p, 0, none⟩)) rfl (by kernel_rfl) (by kernel_rfl) (by kernel_rfl) (fun _ _ _ h => h) (Or.inl ⟨by rfl, ?_⟩) hHeld ?_
        · (intro w hSw; (try dsimp only at hSw); go_simp)
        try simp only [Act.put, List.setIfInBounds_toArray, List.set_cons_zero, List.set_cons_succ]
        refine wpAnyH_take (i := 1) (oi := { dst := some 84, op := Op.fieldAddr 31 (Operand.tmp 6) 1, type := 0, pos := "law.go:68", after := #[], guard := none }) (v := .pointer (some ⟨wr.heap.size, 1, none⟩)) rfl (by kernel_rfl) (by kernel_rfl) (by kernel_rfl) (fun _ _ _ h => h) (Or.inl ⟨by rfl, ?_⟩) hHeld ?_
        · (intro w hSw; (try dsimp only at hSw); go_simp)
        try simp only [Act.put, List.setIfInBounds_toArray, List.set_cons_zero, List.set_cons_succ]
        refine wpAnyH_take (i := 2) (oi := { dst := some 85, op := Op.load 3 (Operand.tmp 84), type := 3, pos := "law.go:68", after := #[{ on := 1, ground := Ground.data }], guard := none }) (v := .int .i64 x.wk) rfl (by kernel_rfl) (by kernel_rfl) (by kernel_rfl) (fun _ _ _ h => h) (Or.inl ⟨by rfl, ?_⟩) hHeld ?_
        · (intro w hSw; (try dsimp only at hSw); go_simp)
        try simp only [Act.put, List.setIfInBounds_toArray, List.set_cons_zero, List.set_cons_succ]
        refine wpAnyH_take (i := 4) (oi := { dst := some 87, op := Op.move (Operand.tmp 4), type := 25, pos := "law.go:68", after := #[], guard := none }) (v := .pointer (some ⟨pR, 0, none⟩)) rfl (by kernel_rfl) (by kernel_rfl) (by kernel_rfl) (fun _ _ _ h => h) (Or.inl ⟨by rfl, ?_⟩) hHeld ?_
        · (intro w hSw; (try dsimp only at hSw); go_simp)
        try simp only [Act.put, List.setIfInBounds_toArray, List.set_cons_zero, List.set_cons_succ]
        refine wpAnyH_take (i := 5) (oi := { dst := some 88, op := Op.fieldAddr 31 (Operand.tmp 6) 1, type := 0, pos := "law.go:68", after := #[], guard := none }) (v := .pointer (some ⟨wr.heap.size, 1, none⟩)) rfl (by kernel_rfl) (by kernel_rfl) (by kernel_rfl) (fun _ _ _ h => h) (Or.inl ⟨by rfl, ?_⟩) hHeld ?_
        · (intro w hSw; (try dsimp only at hSw); go_simp)
        try simp only [Act.put, List.setIfInBounds_toArray, List.set_cons_zero, List.set_cons_succ]
        refine wpAnyH_take (i := 6) (oi := { dst := some 89, op := Op.load 3 (Operand.tmp 88), type := 3, pos := "law.go:68", after := #[{ on := 5, ground := Ground.data }], guard := none }) (v := .int .i64 x.wk) rfl (by kernel_rfl) (by kernel_rfl) (by kernel_rfl) (fun _ _ _ h => h) (Or.inl ⟨by rfl, ?_⟩) hHeld ?_
        · (intro w hSw; (try dsimp only at hSw); go_simp)
        try simp only [Act.put, List.setIfInBounds_toArray, List.set_cons_zero, List.set_cons_succ]
        refine wpAnyH_ready (rs := [3]) (by kernel_rfl) (by simp) ?_
        refine AllReadyH.cons (o := { dst := some 86, op := Op.call { callee := Callee.value (Operand.func 15), args := #[Operand.tmp 83, Operand.tmp 85], argTypes := #[23, 3] }, type := 45, pos := "law.go:68", after := #[{ on := 0, ground := Ground.data }, { on := 2, ground := Ground.data }], guard := none }) rfl (fun K hK => ?_) AllReadyH.nil
        go_simp
        go_at_call 15
        refine (s_nack (HSA.out.keepT (T := []) (FrT.refl 0 [] _).drew (by decide)) x.wk (by omega)).mono ?_
        rintro e w2 ⟨he, h1, h2⟩
        have h2 := (FrT.refl w.heap.size TP _).drew.trans h2
        rw [hrv] at he
        subst he
        have HS2 := hidOf (h1.mono (N' := (k + 1) * 1048577) (by omega))
        have HF2 := hidOf (HFA.out.trans (h2.mono (T' := (28 :: 71 :: TB)) (tp_tt)))
        have HR2 := hidOf (HRA.out.keepT h2 (by decide) (by decide))
        have hq2 := h2.cells HQA.out (by decide)
        have HQ2 := hidOf hq2
        obtain ⟨_, i1, _⟩ := box31 hq2
        clear h1 h2 hq2
        refine hK.out _ _ i1 (fun hHeld1 => ?_)
        clear hK K
        try simp only [Act.put, List.setIfInBounds_toArray, List.set_cons_zero, List.set_cons_succ]
        refine wpAnyH_ready (rs := [7]) (by kernel_rfl) (by simp) ?_
        refine AllReadyH.cons (o := { dst := some 90, op := Op.call { callee := Callee.value (Operand.func 16), args := #[Operand.tmp 87, Operand.tmp 89], argTypes := #[25, 3] }, type := 45, pos := "law.go:68", after := #[{ on := 4, ground := Ground.data }, { on := 6, ground := Ground.data }, { on := 3, ground := Ground.chain }], guard := none }) rfl (fun K hK => ?_) AllReadyH.nil
        go_simp
        go_at_call 16
        refine (rnack_any pR v R x.wk w2 HR2.out (fun y hy => (HSA.out.ok.i y hy).c3)).mono ?_
        rintro e w3 ⟨he, h1, h2⟩
        rw [hrv] at he
        subst he
        have HR3 := hidOf h1
        have HS3 := hidOf (HS2.out.keepT h2 (by decide))
        have HF3 := hidOf (HF2.out.trans (h2.mono (T' := (28 :: 71 :: TB)) (by decide)))
        have hq3 := h2.cells HQ2.out (by decide)
        have HQ3 := hidOf hq3
        obtain ⟨_, j0, _⟩ := box31 hq3
        clear h1 h2 hq3 HS2 HR2
        refine hK.out _ _ j0 (fun hHeld2 => ?_)
        clear hK K
        try simp only [Act.put, List.setIfInBounds_toArray, List.set_cons_zero, List.set_cons_succ]
        refine wpAnyH_take (i := 8) (oi := { dst := some 91, op := Op.binOp BinOp.eql 45 (Operand.tmp 86) (Operand.tmp 90) 45, type := 4, pos := "law.go:68", after := #[{ on := 3, ground := Ground.data }, { on := 7, ground := Ground.data }], guard := none }) (v := .bool true) rfl (by kernel_rfl) (by kernel_rfl) (by kernel_rfl) (fun _ _ _ h => h) (Or.inl ⟨by rfl, ?_⟩) hHeld2 ?_
        · (intro w hSw; (try dsimp only at hSw); go_simp)
        try simp only [Act.put, List.setIfInBounds_toArray, List.set_cons_zero, List.set_cons_succ]
        refine wpAnyH_take (i := 9) (oi := { dst := some 7, op := Op.assign (Operand.tmp 91), type := 4, pos := "law.go:68", after := #[{ on := 8, ground := Ground.data }, { on := 7, ground := Ground.chain }, { on := 0, ground := Ground.phase }, { on := 1, ground := Ground.phase }, { on := 2, ground := Ground.phase }, { on := 3, ground := Ground.phase }, { on := 4, ground := Ground.phase }, { on := 5, ground := Ground.phase }, { on := 6, ground := Ground.phase }, { on := 7, ground := Ground.phase }, { on := 8, ground := Ground.phase }], guard := none }) (v := .bool true) rfl (by kernel_rfl) (by kernel_rfl) (by kernel_rfl) (fun _ _ _ h => h) (Or.inl ⟨by rfl, ?_⟩) hHeld2 ?_
        · (intro w hSw; (try dsimp only at hSw); go_simp)
        try simp only [Act.put, List.setIfInBounds_toArray, List.set_cons_zero, List.set_cons_succ]
        refine wpAnyH_done (by kernel_rfl) ?_ _
        have HR3 : Hid (∃ v3, RefR w.heap.size w3 pR v3 (nackM x.wk R)) := hidOf ⟨v, HR3.out⟩
        obtain ⟨v3, HR3⟩ := HR3.out
        have HR3 := hidOf HR3
        generalize nackM x.wk R = R2 at HS3 HL2 HR3
        clear hrv k1a
        go_upto_region 25 with (fail)
        obtain ⟨a3, cap3, hv3, hlm3⟩ := HR3.out.slice
        subst hv3
        cases ho1 : heldM x.wk R2 with
        | none =>
          have HO1 := hidOf ho1
          clear ho1
          have HA := hidOf (fun W (h : Sta w.heap.size W p R2 ((k + 1) * 1048577)) => (by have h9 := s_held h x.wk; rw [HO1.out] at h9; exact h9 : Calls Try.prog 19 #[.pointer (some ⟨p, 0, none⟩), .int .i64 x.wk] W fun e w' => e = .returned (.tuple #[(.agg #[.int .i64 0, .int .i64 0, .int .i64 0, .int .i64 0]), .bool false]) ∧ Below W.heap.size W w'))
          have HB := hidOf (fun W (h : RefR w.heap.size W pR (.slice a3 (R2).length cap3) R2) => (by have h9 := rheld_any pR (.slice a3 (R2).length cap3) R2 x.wk W h; rw [HO1.out] at h9; exact h9 : Calls Try.prog 20 #[.pointer (some ⟨pR, 0, none⟩), .int .i64 x.wk] W fun e w' => e = .returned (.tuple #[(.agg #[.int .i64 0, .int .i64 0, .int .i64 0, .int .i64 0]), .bool false]) ∧ Below W.heap.size W w'))
          have hne := fun W => ne42 (0) (0) (0) (0) W
          go_upto_region 27 with (first
            | (go_at_call 19; refine (HA.out _ HS3.out).mono ?_; rintro e w5 ⟨rfl, hb5⟩; have hb5a := hb5.trans ((below1 w5 (.cells #[.int .i64 0, .int .i64 0, .int .i64 0, .int .i64 0] 42)).mono hb5.size); have HS5 := hidOf (HS3.out.grow hb5a); have HR5 := hidOf (HR3.out.grow hb5a); have hq31 := (hb5a.block _ (heap_lt HQ3.out)).trans HQ3.out; have j1 : (w5.alloc (.cells #[.int .i64 0, .int .i64 0, .int .i64 0, .int .i64 0] 42)).cell? ⟨wr.heap.size, 1, none⟩ = some (.int .i64 x.wk) := (by rw [cell_of_row _ _ 1 _ 31 (0, 0) hq31]; rfl); have HQ12 := hidOf (heap_alloc_new w5 (.cells #[.int .i64 0, .int .i64 0, .int .i64 0, .int .i64 0] 42)); have HB5 := hidOf hb5a; clear hb5 hb5a hq31 HA j0)
            | (go_at_call 20; refine (HB.out _ HR5.out).mono ?_; rintro e w7 ⟨rfl, hb7⟩; have hb7a := hb7.trans ((below1 w7 (.cells #[.int .i64 0, .int .i64 0, .int .i64 0, .int .i64 0] 42)).mono hb7.size); have HS7 := hidOf (HS5.out.grow hb7a); have HR7 := hidOf (HR5.out.grow hb7a); have hq12 := (hb7a.block _ (heap_lt HQ12.out)).trans HQ12.out; obtain ⟨g0, g1, g2, g3, _⟩ := box4 hq12; obtain ⟨f0, f1, f2, f3, _⟩ := box4 (heap_alloc_new w7 (.cells #[.int .i64 0, .int .i64 0, .int .i64 0, .int .i64 0] 42)); have m0 := HR7.out.cell; have HF7 := hidOf (HF3.out.trans (FrT.of_below (HB5.out.trans (hb7a.mono HB5.out.size)))); clear hb7 hb7a hq12 HB j1))
          have HLN := hidOf (fun W (h : Sta w.heap.size W p R2 ((k + 1) * 1048577)) => (s_len h : Calls Try.prog 21 #[.pointer (some ⟨p, 0, none⟩)] W fun e w' => e = .returned (.int .i64 (R2).length) ∧ w' = W))
          go_region_held3 (fun w' => w'.cell? ⟨w5.heap.size, 0, none⟩ = some (.int .i64 0) ∧ w'.cell? ⟨w5.heap.size, 1, none⟩ = some (.int .i64 0) ∧ w'.cell? ⟨w5.heap.size, 2, none⟩ = some (.int .i64 0) ∧ w'.cell? ⟨w5.heap.size, 3, none⟩ = some (.int .i64 0) ∧ w'.cell? ⟨w7.heap.size, 0, none⟩ = some (.int .i64 0) ∧ w'.cell? ⟨w7.heap.size, 1, none⟩ = some (.int .i64 0) ∧ w'.cell? ⟨w7.heap.size, 2, none⟩ = some (.int .i64 0) ∧ w'.cell? ⟨w7.heap.size, 3, none⟩ = some (.int .i64 0) ∧ w'.cell? ⟨pR, 0, none⟩ = some (.slice a3 (R2).length cap3)) (first | go_keep | exact ⟨g0, g1, g2, g3, f0, f1, f2, f3, m0⟩) (first | (go_at_call 21; refine (HLN.out _ (HS7.out.keepT (T := []) (FrT.refl 0 [] _).drew (by decide))).mono ?_; rintro e w8 ⟨rfl, h8⟩; subst w8))
          go_wp2
          go_roundw
          case rel => exact ⟨k + 1, R2, (.slice a3 (R2).length cap3), by omega, by go_num, hidOf (HS7.out.keepT (D' := 0) (T := []) (FrT.refl 0 [] _).drew (by decide)), HL2, hidOf (HR7.out.keepT (D' := 0) (T := []) (FrT.refl 0 [] _).drew (by simp) (by simp)), hidOf HF7.out.drew⟩
          case measure => simp [intOf]; omega
        | some y =>
          have HO1 := hidOf ho1
          clear ho1
          have HA := hidOf (fun W (h : Sta w.heap.size W p R2 ((k + 1) * 1048577)) => (by have h9 := s_held h x.wk; rw [HO1.out] at h9; exact h9 : Calls Try.prog 19 #[.pointer (some ⟨p, 0, none⟩), .int .i64 x.wk] W fun e w' => e = .returned (.tuple #[(.agg #[.int .i64 y.jb, .int .i64 y.pr, .int .i64 y.st, .int .i64 y.ix]), .bool true]) ∧ Below W.heap.size W w'))
          have HB := hidOf (fun W (h : RefR w.heap.size W pR (.slice a3 (R2).length cap3) R2) => (by have h9 := rheld_any pR (.slice a3 (R2).length cap3) R2 x.wk W h; rw [HO1.out] at h9; exact h9 : Calls Try.prog 20 #[.pointer (some ⟨pR, 0, none⟩), .int .i64 x.wk] W fun e w' => e = .returned (.tuple #[(.agg #[.int .i64 y.jb, .int .i64 y.pr, .int .i64 y.st, .int .i64 y.ix]), .bool true]) ∧ Below W.heap.size W w'))
          have hne := fun W => ne42 (y.jb) (y.pr) (y.st) (y.ix) W
          go_upto_region 27 with (first
            | (go_at_call 19; refine (HA.out _ HS3.out).mono ?_; rintro e w5 ⟨rfl, hb5⟩; have hb5a := hb5.trans ((below1 w5 (.cells #[.int .i64 y.jb, .int .i64 y.pr, .int .i64 y.st, .int .i64 y.ix] 42)).mono hb5.size); have HS5 := hidOf (HS3.out.grow hb5a); have HR5 := hidOf (HR3.out.grow hb5a); have hq31 := (hb5a.block _ (heap_lt HQ3.out)).trans HQ3.out; have j1 : (w5.alloc (.cells #[.int .i64 y.jb, .int .i64 y.pr, .int .i64 y.st, .int .i64 y.ix] 42)).cell? ⟨wr.heap.size, 1, none⟩ = some (.int .i64 x.wk) := (by rw [cell_of_row _ _ 1 _ 31 (0, 0) hq31]; rfl); have HQ12 := hidOf (heap_alloc_new w5 (.cells #[.int .i64 y.jb, .int .i64 y.pr, .int .i64 y.st, .int .i64 y.ix] 42)); have HB5 := hidOf hb5a; clear hb5 hb5a hq31 HA j0)
            | (go_at_call 20; refine (HB.out _ HR5.out).mono ?_; rintro e w7 ⟨rfl, hb7⟩; have hb7a := hb7.trans ((below1 w7 (.cells #[.int .i64 y.jb, .int .i64 y.pr, .int .i64 y.st, .int .i64 y.ix] 42)).mono hb7.size); have HS7 := hidOf (HS5.out.grow hb7a); have HR7 := hidOf (HR5.out.grow hb7a); have hq12 := (hb7a.block _ (heap_lt HQ12.out)).trans HQ12.out; obtain ⟨g0, g1, g2, g3, _⟩ := box4 hq12; obtain ⟨f0, f1, f2, f3, _⟩ := box4 (heap_alloc_new w7 (.cells #[.int .i64 y.jb, .int .i64 y.pr, .int .i64 y.st, .int .i64 y.ix] 42)); have m0 := HR7.out.cell; have HF7 := hidOf (HF3.out.trans (FrT.of_below (HB5.out.trans (hb7a.mono HB5.out.size)))); clear hb7 hb7a hq12 HB j1))
          have HLN := hidOf (fun W (h : Sta w.heap.size W p R2 ((k + 1) * 1048577)) => (s_len h : Calls Try.prog 21 #[.pointer (some ⟨p, 0, none⟩)] W fun e w' => e = .returned (.int .i64 (R2).length) ∧ w' = W))
          go_region_held3 (fun w' => w'.cell? ⟨w5.heap.size, 0, none⟩ = some (.int .i64 y.jb) ∧ w'.cell? ⟨w5.heap.size, 1, none⟩ = some (.int .i64 y.pr) ∧ w'.cell? ⟨w5.heap.size, 2, none⟩ = some (.int .i64 y.st) ∧ w'.cell? ⟨w5.heap.size, 3, none⟩ = some (.int .i64 y.ix) ∧ w'.cell? ⟨w7.heap.size, 0, none⟩ = some (.int .i64 y.jb) ∧ w'.cell? ⟨w7.heap.size, 1, none⟩ = some (.int .i64 y.pr) ∧ w'.cell? ⟨w7.heap.size, 2, none⟩ = some (.int .i64 y.st) ∧ w'.cell? ⟨w7.heap.size, 3, none⟩ = some (.int .i64 y.ix) ∧ w'.cell? ⟨pR, 0, none⟩ = some (.slice a3 (R2).length cap3)) (first | go_keep | exact ⟨g0, g1, g2, g3, f0, f1, f2, f3, m0⟩) (first | (go_at_call 21; refine (HLN.out _ (HS7.out.keepT (T := []) (FrT.refl 0 [] _).drew (by decide))).mono ?_; rintro e w8 ⟨rfl, h8⟩; subst w8))
          go_wp2
          go_roundw
          case rel => exact ⟨k + 1, R2, (.slice a3 (R2).length cap3), by omega, by go_num, hidOf (HS7.out.keepT (D' := 0) (T := []) (FrT.refl 0 [] _).drew (by decide)), HL2, hidOf (HR7.out.keepT (D' := 0) (T := []) (FrT.refl 0 [] _).drew (by simp) (by simp)), hidOf HF7.out.drew⟩
          case measure => simp [intOf]; omega
      · have HPK := hidOf (fun W => (by have h9 := pick_any x.kd 5 HRG.out.1 (by omega) (by omega) W; rw [hk5] at h9; exact h9 : Calls Try.prog 8 #[.int .i64 x.kd, .int .i64 5] W fun e w' => e = .returned (.int .i64 4) ∧ w' = W))
        clear hk5
        go_upto_region 25 with (first
          | (go_at_call 8; refine (HPK.out _).mono ?_; rintro e w9 ⟨rfl, h9⟩; subst w9; clear HPK)
          | (go_at_call 17; refine (s_tick HSA.out (by omega)).mono ?_; rintro e w2 ⟨rfl, h1, h2⟩; have HS2 := hidOf (h1.mono (N' := (k + 1) * 1048577) (by omega)); have HL2 : Hid ((R.map tk1).length ≤ pre L (k + 1)) := hidOf (by rw [HPS.out, List.length_map]; omega); have HF2 := hidOf (HFA.out.trans (h2.mono tp_tt)); have HR2 := hidOf (HRA.out.keepT h2 (by decide) (by decide)); have hq2 := h2.cells HQA.out (by decide); have HQ2 := hidOf hq2; clear h1 h2 hq2)
          | (go_at_call 18; refine (rtick_any pR v R w2 HR2.out HSA.out.ok (by omega)).mono ?_; rintro e w3 ⟨rfl, h1, h2⟩; have HR3 := hidOf h1; have HS3 := hidOf (HS2.out.keepT h2 (by decide)); have HF3 := hidOf (HF2.out.trans (h2.mono (by decide))); have hq3 := h2.cells HQ2.out (by decide); have HQ3 := hidOf hq3; obtain ⟨_, j0, _⟩ := box31 hq3; clear h1 h2 hq3 HS2 HR2))
        generalize R.map tk1 = R2 at HS3 HL2 HR3
        obtain ⟨a3, cap3, hv3, hlm3⟩ := HR3.out.slice
        subst hv3
        cases ho1 : heldM x.wk R2 with
        | none =>
          have HO1 := hidOf ho1
          clear ho1
          have HA := hidOf (fun W (h : Sta w.heap.size W p R2 ((k + 1) * 1048577)) => (by have h9 := s_held h x.wk; rw [HO1.out] at h9; exact h9 : Calls Try.prog 19 #[.pointer (some ⟨p, 0, none⟩), .int .i64 x.wk] W fun e w' => e = .returned (.tuple #[(.agg #[.int .i64 0, .int .i64 0, .int .i64 0, .int .i64 0]), .bool false]) ∧ Below W.heap.size W w'))
          have HB := hidOf (fun W (h : RefR w.heap.size W pR (.slice a3 (R2).length cap3) R2) => (by have h9 := rheld_any pR (.slice a3 (R2).length cap3) R2 x.wk W h; rw [HO1.out] at h9; exact h9 : Calls Try.prog 20 #[.pointer (some ⟨pR, 0, none⟩), .int .i64 x.wk] W fun e w' => e = .returned (.tuple #[(.agg #[.int .i64 0, .int .i64 0, .int .i64 0, .int .i64 0]), .bool false]) ∧ Below W.heap.size W w'))
          have hne := fun W => ne42 (0) (0) (0) (0) W
          go_upto_region 27 with (first
            | (go_at_call 19; refine (HA.out _ HS3.out).mono ?_; rintro e w5 ⟨rfl, hb5⟩; have hb5a := hb5.trans ((below1 w5 (.cells #[.int .i64 0, .int .i64 0, .int .i64 0, .int .i64 0] 42)).mono hb5.size); have HS5 := hidOf (HS3.out.grow hb5a); have HR5 := hidOf (HR3.out.grow hb5a); have hq31 := (hb5a.block _ (heap_lt HQ3.out)).trans HQ3.out; have j1 : (w5.alloc (.cells #[.int .i64 0, .int .i64 0, .int .i64 0, .int .i64 0] 42)).cell? ⟨wr.heap.size, 1, none⟩ = some (.int .i64 x.wk) := (by rw [cell_of_row _ _ 1 _ 31 (0, 0) hq31]; rfl); have HQ12 := hidOf (heap_alloc_new w5 (.cells #[.int .i64 0, .int .i64 0, .int .i64 0, .int .i64 0] 42)); have HB5 := hidOf hb5a; clear hb5 hb5a hq31 HA j0)
            | (go_at_call 20; refine (HB.out _ HR5.out).mono ?_; rintro e w7 ⟨rfl, hb7⟩; have hb7a := hb7.trans ((below1 w7 (.cells #[.int .i64 0, .int .i64 0, .int .i64 0, .int .i64 0] 42)).mono hb7.size); have HS7 := hidOf (HS5.out.grow hb7a); have HR7 := hidOf (HR5.out.grow hb7a); have hq12 := (hb7a.block _ (heap_lt HQ12.out)).trans HQ12.out; obtain ⟨g0, g1, g2, g3, _⟩ := box4 hq12; obtain ⟨f0, f1, f2, f3, _⟩ := box4 (heap_alloc_new w7 (.cells #[.int .i64 0, .int .i64 0, .int .i64 0, .int .i64 0] 42)); have m0 := HR7.out.cell; have HF7 := hidOf (HF3.out.trans (FrT.of_below (HB5.out.trans (hb7a.mono HB5.out.size)))); clear hb7 hb7a hq12 HB j1))
          have HLN := hidOf (fun W (h : Sta w.heap.size W p R2 ((k + 1) * 1048577)) => (s_len h : Calls Try.prog 21 #[.pointer (some ⟨p, 0, none⟩)] W fun e w' => e = .returned (.int .i64 (R2).length) ∧ w' = W))
          go_region_held3 (fun w' => w'.cell? ⟨w5.heap.size, 0, none⟩ = some (.int .i64 0) ∧ w'.cell? ⟨w5.heap.size, 1, none⟩ = some (.int .i64 0) ∧ w'.cell? ⟨w5.heap.size, 2, none⟩ = some (.int .i64 0) ∧ w'.cell? ⟨w5.heap.size, 3, none⟩ = some (.int .i64 0) ∧ w'.cell? ⟨w7.heap.size, 0, none⟩ = some (.int .i64 0) ∧ w'.cell? ⟨w7.heap.size, 1, none⟩ = some (.int .i64 0) ∧ w'.cell? ⟨w7.heap.size, 2, none⟩ = some (.int .i64 0) ∧ w'.cell? ⟨w7.heap.size, 3, none⟩ = some (.int .i64 0) ∧ w'.cell? ⟨pR, 0, none⟩ = some (.slice a3 (R2).length cap3)) (first | go_keep | exact ⟨g0, g1, g2, g3, f0, f1, f2, f3, m0⟩) (first | (go_at_call 21; refine (HLN.out _ (HS7.out.keepT (T := []) (FrT.refl 0 [] _).drew (by decide))).mono ?_; rintro e w8 ⟨rfl, h8⟩; subst w8))
          go_wp2
          go_roundw
          case rel => exact ⟨k + 1, R2, (.slice a3 (R2).length cap3), by omega, by go_num, hidOf (HS7.out.keepT (D' := 0) (T := []) (FrT.refl 0 [] _).drew (by decide)), HL2, hidOf (HR7.out.keepT (D' := 0) (T := []) (FrT.refl 0 [] _).drew (by simp) (by simp)), hidOf HF7.out.drew⟩
          case measure => simp [intOf]; omega
        | some y =>
          have HO1 := hidOf ho1
          clear ho1
          have HA := hidOf (fun W (h : Sta w.heap.size W p R2 ((k + 1) * 1048577)) => (by have h9 := s_held h x.wk; rw [HO1.out] at h9; exact h9 : Calls Try.prog 19 #[.pointer (some ⟨p, 0, none⟩), .int .i64 x.wk] W fun e w' => e = .returned (.tuple #[(.agg #[.int .i64 y.jb, .int .i64 y.pr, .int .i64 y.st, .int .i64 y.ix]), .bool true]) ∧ Below W.heap.size W w'))
          have HB := hidOf (fun W (h : RefR w.heap.size W pR (.slice a3 (R2).length cap3) R2) => (by have h9 := rheld_any pR (.slice a3 (R2).length cap3) R2 x.wk W h; rw [HO1.out] at h9; exact h9 : Calls Try.prog 20 #[.pointer (some ⟨pR, 0, none⟩), .int .i64 x.wk] W fun e w' => e = .returned (.tuple #[(.agg #[.int .i64 y.jb, .int .i64 y.pr, .int .i64 y.st, .int .i64 y.ix]), .bool true]) ∧ Below W.heap.size W w'))
          have hne := fun W => ne42 (y.jb) (y.pr) (y.st) (y.ix) W
          go_upto_region 27 with (first
            | (go_at_call 19; refine (HA.out _ HS3.out).mono ?_; rintro e w5 ⟨rfl, hb5⟩; have hb5a := hb5.trans ((below1 w5 (.cells #[.int .i64 y.jb, .int .i64 y.pr, .int .i64 y.st, .int .i64 y.ix] 42)).mono hb5.size); have HS5 := hidOf (HS3.out.grow hb5a); have HR5 := hidOf (HR3.out.grow hb5a); have hq31 := (hb5a.block _ (heap_lt HQ3.out)).trans HQ3.out; have j1 : (w5.alloc (.cells #[.int .i64 y.jb, .int .i64 y.pr, .int .i64 y.st, .int .i64 y.ix] 42)).cell? ⟨wr.heap.size, 1, none⟩ = some (.int .i64 x.wk) := (by rw [cell_of_row _ _ 1 _ 31 (0, 0) hq31]; rfl); have HQ12 := hidOf (heap_alloc_new w5 (.cells #[.int .i64 y.jb, .int .i64 y.pr, .int .i64 y.st, .int .i64 y.ix] 42)); have HB5 := hidOf hb5a; clear hb5 hb5a hq31 HA j0)
            | (go_at_call 20; refine (HB.out _ HR5.out).mono ?_; rintro e w7 ⟨rfl, hb7⟩; have hb7a := hb7.trans ((below1 w7 (.cells #[.int .i64 y.jb, .int .i64 y.pr, .int .i64 y.st, .int .i64 y.ix] 42)).mono hb7.size); have HS7 := hidOf (HS5.out.grow hb7a); have HR7 := hidOf (HR5.out.grow hb7a); have hq12 := (hb7a.block _ (heap_lt HQ12.out)).trans HQ12.out; obtain ⟨g0, g1, g2, g3, _⟩ := box4 hq12; obtain ⟨f0, f1, f2, f3, _⟩ := box4 (heap_alloc_new w7 (.cells #[.int .i64 y.jb, .int .i64 y.pr, .int .i64 y.st, .int .i64 y.ix] 42)); have m0 := HR7.out.cell; have HF7 := hidOf (HF3.out.trans (FrT.of_below (HB5.out.trans (hb7a.mono HB5.out.size)))); clear hb7 hb7a hq12 HB j1))
          have HLN := hidOf (fun W (h : Sta w.heap.size W p R2 ((k + 1) * 1048577)) => (s_len h : Calls Try.prog 21 #[.pointer (some ⟨p, 0, none⟩)] W fun e w' => e = .returned (.int .i64 (R2).length) ∧ w' = W))
          go_region_held3 (fun w' => w'.cell? ⟨w5.heap.size, 0, none⟩ = some (.int .i64 y.jb) ∧ w'.cell? ⟨w5.heap.size, 1, none⟩ = some (.int .i64 y.pr) ∧ w'.cell? ⟨w5.heap.size, 2, none⟩ = some (.int .i64 y.st) ∧ w'.cell? ⟨w5.heap.size, 3, none⟩ = some (.int .i64 y.ix) ∧ w'.cell? ⟨w7.heap.size, 0, none⟩ = some (.int .i64 y.jb) ∧ w'.cell? ⟨w7.heap.size, 1, none⟩ = some (.int .i64 y.pr) ∧ w'.cell? ⟨w7.heap.size, 2, none⟩ = some (.int .i64 y.st) ∧ w'.cell? ⟨w7.heap.size, 3, none⟩ = some (.int .i64 y.ix) ∧ w'.cell? ⟨pR, 0, none⟩ = some (.slice a3 (R2).length cap3)) (first | go_keep | exact ⟨g0, g1, g2, g3, f0, f1, f2, f3, m0⟩) (first | (go_at_call 21; refine (HLN.out _ (HS7.out.keepT (T := []) (FrT.refl 0 [] _).drew (by decide))).mono ?_; rintro e w8 ⟨rfl, h8⟩; subst w8))
          go_wp2
          go_roundw
          case rel => exact ⟨k + 1, R2, (.slice a3 (R2).length cap3), by omega, by go_num, hidOf (HS7.out.keepT (D' := 0) (T := []) (FrT.refl 0 [] _).drew (by decide)), HL2, hidOf (HR7.out.keepT (D' := 0) (T := []) (FrT.refl 0 [] _).drew (by simp) (by simp)), hidOf HF7.out.drew⟩
          case measure => simp [intOf]; omega
    · have hltz : ¬ (k : Int) < (L.length : Int) := by omega
      go_wp2_with (go_at_call 22; refine (HLV.out _).mono ?_; rintro e w6 ⟨rfl, hb⟩; have HB := hidOf (HF.out.trans (FrT.of_below hb)); clear hb)
      go_ret
      exact ⟨rfl, HB.out.below (Nat.le_refl _)⟩
end Go.Proofs.Ytndomlbjdppckaa
