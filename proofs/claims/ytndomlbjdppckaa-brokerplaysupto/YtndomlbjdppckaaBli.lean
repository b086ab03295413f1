/- The laws' example; pick. -/
import Derived.Test.YtndomlbjdppckaaBsta
namespace Go.Proofs.Ytndomlbjdppckaa
open Go.RowKit
variable {D : Nat}

def E1 : Ev := ⟨1, 50, 1, 4⟩
def E2 : Ev := ⟨2, 70, 1, 9⟩
def LR1 : List Itm := [newI E1, newI E2]
def LR2 : List Itm := [newI E1, tkn 1 (newI E2)]
def LR3 : List Itm := [tkn 2 (newI E1), tkn 1 (newI E2)]
def LR4 : List Itm := [tkn 2 (newI E1)]
theorem lr1 : upM [] [E1, E2] = LR1 := by decide
theorem min1 {i : Nat} {x : Itm} (h : MinR LR1 i x) : i = 1 ∧ x = newI E2 := by
  obtain ⟨h1, h2, h3⟩ := h
  match i, h1 with
  | 0, h1 =>
    have e : x = newI E1 := (Option.some.inj h1).symm
    subst e
    have := h3 (newI E2) (by simp [LR1]) (by decide)
    exact absurd this (by decide)
  | 1, h1 => exact ⟨rfl, (Option.some.inj h1).symm⟩
  | n + 2, h1 => simp [LR1] at h1
theorem min2 {i : Nat} {x : Itm} (h : MinR LR2 i x) : i = 0 ∧ x = newI E1 := by
  obtain ⟨h1, h2, h3⟩ := h
  match i, h1 with
  | 0, h1 => exact ⟨rfl, (Option.some.inj h1).symm⟩
  | 1, h1 =>
    have e : x = tkn 1 (newI E2) := (Option.some.inj h1).symm
    subst e
    exact absurd h2 (by decide)
  | n + 2, h1 => simp [LR2] at h1

theorem s_new (w : World) (hD : D ≤ w.heap.size) : Calls Try.prog 7 #[] w fun e w' => ∃ p, e = .returned (ptr p) ∧ Sta D w' p [] 0 ∧ FrT D TB w w' := by
  refine (bnew_any (D := D) w hD).mono ?_
  rintro e w' ⟨p, rfl, _, h2, h3⟩
  exact ⟨p, rfl, ⟨⟨[], h2, rfl⟩, Ok.nil⟩, FrT.of_below h3⟩
theorem tp_tb : ∀ t ∈ TP, t ∈ TB := by decide
theorem liv1 {w : World} {p : Nat} (h : Sta D w p [] 0) (a : Option Addr) (c : Nat) (hE : EvR D w a [E1, E2]) : Calls Try.prog 9 #[.pointer (some ⟨p, 0, none⟩), .agg #[.int .i64 0, .int .i64 0, .slice none 0 0, .slice none 0 0, .slice none 0 0, .slice none 0 0, .slice a 2 c, .slice none 0 0, .slice none 0 0]] w fun e w' => e = .returned (.tuple #[]) ∧ Sta D w' p LR1 2 ∧ FrT D TB w w' := by
  refine (s_upd h a c [E1, E2] hE (by decide) (by decide)).mono ?_
  rintro e w' ⟨rfl, h1, _, h2⟩
  rw [lr1] at h1
  exact ⟨rfl, h1, h2⟩
theorem liv2 {w : World} {p : Nat} (h : Sta D w p LR1 2) : Calls Try.prog 11 #[.pointer (some ⟨p, 0, none⟩), .int .i64 1] w fun e w' => e = .returned (.tuple #[.agg #[.int .i64 2, .int .i64 70, .int .i64 1, .int .i64 9], .bool true]) ∧ Sta D w' p LR2 2 ∧ FrT D TB w w' := by
  refine (s_deq_yes h 1 (by decide) (z := newI E1) (by simp [LR1]) (by decide) (by decide)).mono ?_
  rintro e w' ⟨i, x, hm, rfl, h1, h2⟩
  obtain ⟨rfl, rfl⟩ := min1 hm
  exact ⟨rfl, h1, h2.mono tp_tb⟩
theorem liv3 {w : World} {p : Nat} (h : Sta D w p LR2 2) : Calls Try.prog 11 #[.pointer (some ⟨p, 0, none⟩), .int .i64 1] w fun e w' => e = .returned (.tuple #[.agg #[.int .i64 0, .int .i64 0, .int .i64 0, .int .i64 0], .bool false]) ∧ Sta D w' p LR2 2 ∧ FrT D TB w w' := by
  refine (s_deq_no h 1 (.inl (by decide))).mono ?_
  rintro e w' ⟨rfl, hb⟩
  exact ⟨rfl, h.grow hb, FrT.of_below hb⟩
theorem liv4 {w : World} {p : Nat} (h : Sta D w p LR2 2) : Calls Try.prog 11 #[.pointer (some ⟨p, 0, none⟩), .int .i64 2] w fun e w' => e = .returned (.tuple #[.agg #[.int .i64 1, .int .i64 50, .int .i64 1, .int .i64 4], .bool true]) ∧ Sta D w' p LR3 2 ∧ FrT D TB w w' := by
  refine (s_deq_yes h 2 (by decide) (z := newI E1) (by simp [LR2]) (by decide) (by decide)).mono ?_
  rintro e w' ⟨i, x, hm, rfl, h1, h2⟩
  obtain ⟨rfl, rfl⟩ := min2 hm
  exact ⟨rfl, h1, h2.mono tp_tb⟩
theorem liv5 {w : World} {p : Nat} (h : Sta D w p LR3 2) : Calls Try.prog 13 #[.pointer (some ⟨p, 0, none⟩), .int .i64 1] w fun e w' => e = .returned (.int .i64 0) ∧ Sta D w' p LR4 2 ∧ FrT D TB w w' := by
  refine (s_ack h 1).mono ?_
  rintro e w' ⟨rfl, h1, h2⟩
  exact ⟨by rw [if_pos (by decide)], h1, h2.mono (by decide)⟩
theorem liv6 {w : World} {p : Nat} (h : Sta D w p LR4 2) : Calls Try.prog 13 #[.pointer (some ⟨p, 0, none⟩), .int .i64 1] w fun e w' => e = .returned (.int .i64 3) ∧ Sta D w' p LR4 2 ∧ FrT D TB w w' := by
  refine (s_ack h 1).mono ?_
  rintro e w' ⟨rfl, h1, h2⟩
  exact ⟨by rw [if_neg (by decide)], h1, h2.mono (by decide)⟩
theorem liv7 {w : World} {p : Nat} (h : Sta D w p LR4 2) : Calls Try.prog 21 #[.pointer (some ⟨p, 0, none⟩)] w fun e w' => e = .returned (.int .i64 1) ∧ w' = w := s_len h
theorem evs_two (D : Nat) (w : World) : EvR D (w.alloc (.cells #[.int .i64 1, .int .i64 50, .int .i64 1, .int .i64 4, .int .i64 2, .int .i64 70, .int .i64 1, .int .i64 9] 42)) (some ⟨w.heap.size, 0, none⟩) [E1, E2] := by
  intro _
  have hq := heap_alloc_new w (.cells #[.int .i64 1, .int .i64 50, .int .i64 1, .int .i64 4, .int .i64 2, .int .i64 70, .int .i64 1, .int .i64 9] 42)
  refine ⟨w.heap.size, 0, rfl, heap_lt hq, .inr ⟨_, hq⟩, fun i e he => ?_⟩
  match i, he with
  | 0, he =>
    cases he
    refine ⟨?_, ?_, ?_, ?_⟩ <;> (rw [cell_of_row _ _ _ _ 42 (0, 0) hq]; rfl)
  | 1, he =>
    cases he
    refine ⟨?_, ?_, ?_, ?_⟩ <;> (rw [cell_of_row _ _ _ _ 42 (0, 0) hq]; rfl)
  | n + 2, he => simp at he

set_option maxHeartbeats 8000000 in
set_option maxRecDepth 100000 in
theorem lives_any (w : World) : Calls Try.prog 22 #[] w fun e w' => e = .returned (.bool true) ∧ Below w.heap.size w w' := by
  have HC := hidOf (s_new (D := w.heap.size) w (Nat.le_refl _))
  simp only [ptr] at HC
  go_enter Try.func22, Try.ntmps22
  go_wp2_with (first
    | (go_at_call 7; refine HC.out.mono ?_; rintro e w1 ⟨p, rfl, h1, h2⟩; have H1 := hidOf h1; have HF1 := hidOf h2; have HE1 := hidOf (evs_two w.heap.size w1); clear h1 h2 HC)
    | (go_at_call 9; refine (liv1 (H1.out.grow (below1 _ _)) _ _ HE1.out).mono ?_; rintro e w2 ⟨rfl, h1, h2⟩; have H2 := hidOf h1; have HF2 := hidOf (HF1.out.trans ((FrT.of_below (below1 _ _)).trans h2)); clear h1 h2 H1 HF1 HE1)
    | (go_at_call 11; refine (liv2 H2.out).mono ?_; rintro e w3 ⟨rfl, h1, h2⟩; have H3 := hidOf (h1.grow (below1 w3 (.cells #[.int .i64 2, .int .i64 70, .int .i64 1, .int .i64 9] 42))); have hq3 := heap_alloc_new w3 (.cells #[.int .i64 2, .int .i64 70, .int .i64 1, .int .i64 9] 42); have HQ3 := hidOf hq3; have HF3 := hidOf ((HF2.out.trans h2).trans (FrT.of_below (below1 w3 (.cells #[.int .i64 2, .int .i64 70, .int .i64 1, .int .i64 9] 42)))); clear h1 h2 H2 HF2 hq3)
    | (go_at_call 11; refine (liv3 H3.out).mono ?_; rintro e w4 ⟨rfl, h1, h2⟩; have H4 := hidOf (h1.grow (below1 w4 (.cells #[.int .i64 0, .int .i64 0, .int .i64 0, .int .i64 0] 42))); have hq4 := (FrT.of_below (D := w.heap.size) (T := TB) (below1 w4 (.cells #[.int .i64 0, .int .i64 0, .int .i64 0, .int .i64 0] 42))).cells (h2.cells HQ3.out (by decide)) (by decide); have HQ4 := hidOf hq4; have HF4 := hidOf ((HF3.out.trans h2).trans (FrT.of_below (below1 w4 (.cells #[.int .i64 0, .int .i64 0, .int .i64 0, .int .i64 0] 42)))); clear h1 h2 H3 HF3 HQ3 hq4)
    | (go_at_call 11; refine (liv4 H4.out).mono ?_; rintro e w5 ⟨rfl, h1, h2⟩; have H5 := hidOf (h1.grow (below1 w5 (.cells #[.int .i64 1, .int .i64 50, .int .i64 1, .int .i64 4] 42))); have hq5 := (FrT.of_below (D := w.heap.size) (T := TB) (below1 w5 (.cells #[.int .i64 1, .int .i64 50, .int .i64 1, .int .i64 4] 42))).cells (h2.cells HQ4.out (by decide)) (by decide); have k0 := (box4 hq5).1; have hl5 := heap_lt hq5; have HF5 := hidOf ((HF4.out.trans h2).trans (FrT.of_below (below1 w5 (.cells #[.int .i64 1, .int .i64 50, .int .i64 1, .int .i64 4] 42)))); clear h1 h2 H4 HF4 HQ4 hq5)
    | (go_at_call 13; refine (liv5 H5.out).mono ?_; rintro e w6 ⟨rfl, h1, h2⟩; have H6 := hidOf h1; have HF6 := hidOf (HF5.out.trans h2); clear h1 h2 H5 HF5 k0 hl5)
    | (go_at_call 13; refine (liv6 H6.out).mono ?_; rintro e w7 ⟨rfl, h1, h2⟩; have H7 := hidOf h1; have HF7 := hidOf (HF6.out.trans h2); clear h1 h2 H6 HF6)
    | (go_at_call 21; refine (liv7 H7.out).mono ?_; rintro e w8 ⟨rfl, h1⟩; subst w8))
  go_ret
  exact ⟨rfl, HF7.out.below (Nat.le_refl _)⟩

/- pick -/
def pkM (c n : Int) : Int := if c < 0 then (-(c + 1)).tmod n else c.tmod n
set_option maxHeartbeats 1000000 in
theorem pick_any (c n : Int) (hc : -9223372036854775808 ≤ c ∧ c ≤ 9223372036854775807) (hn : 0 < n) (hn2 : n ≤ 100) (w : World) : Calls Try.prog 8 #[.int .i64 c, .int .i64 n] w fun e w' => e = .returned (.int .i64 (pkM c n)) ∧ w' = w := by
  have hnz : (n == 0) = false := by simp; omega
  have hn1 : (n == -1) = false := by simp; omega
  by_cases h : c < 0
  · have he : pkM c n = (-(c + 1)).tmod n := by unfold pkM; rw [if_pos h]
    have h2 : -(c + 1) ≤ 9223372036854775807 := by omega
    have h3 : 0 ≤ -(c + 1) := by omega
    have h4 : 0 ≤ (-(c + 1)).tmod n := Int.tmod_nonneg _ h3
    have h5 : (-(c + 1)).tmod n < n := Int.tmod_lt_of_pos _ hn
    rw [he]
    go_enter Try.func8, Try.ntmps8
    go_wp2
    go_ret
    exact ⟨by simp, rfl⟩
  · have h6 : c.tmod n = c % n := Int.tmod_eq_emod_of_nonneg (by omega)
    have he : pkM c n = c % n := by unfold pkM; rw [if_neg h, h6]
    have h4 : 0 ≤ c % n := Int.emod_nonneg _ (by omega)
    have h5 : c % n < n := Int.emod_lt_of_pos _ hn
    rw [he]
    clear he
    go_enter Try.func8, Try.ntmps8
    go_wp2
    go_ret
    exact ⟨by simp, rfl⟩
theorem pkM_rng (c n : Int) (hn : 0 < n) : 0 ≤ pkM c n ∧ pkM c n < n := by
  unfold pkM
  split
  · exact ⟨Int.tmod_nonneg _ (by omega), Int.tmod_lt_of_pos _ hn⟩
  · exact ⟨Int.tmod_nonneg _ (by omega), Int.tmod_lt_of_pos _ hn⟩
end Go.Proofs.Ytndomlbjdppckaa
