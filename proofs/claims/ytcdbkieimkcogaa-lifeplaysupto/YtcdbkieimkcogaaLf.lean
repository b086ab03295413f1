/- pick; the laws' example. -/
import Derived.Test.YtcdbkieimkcogaaLe
namespace Go.Proofs.Ytcdbkieimkcogaa
open Go.RowKit
variable {D : Nat}
/- pick -/
def pkM (c n : Int) : Int := if c < 0 then (-(c + 1)).tmod n else c.tmod n
set_option maxHeartbeats 1000000 in
theorem pick_any (c n : Int) (hc : -9223372036854775808 ≤ c ∧ c ≤ 9223372036854775807) (hn : 0 < n) (hn2 : n ≤ 100) (w : World) : Calls Try.prog 9 #[.int .i64 c, .int .i64 n] w fun e w' => e = .returned (.int .i64 (pkM c n)) ∧ w' = w := by
  have hnz : (n == 0) = false := by simp; omega
  have hn1 : (n == -1) = false := by simp; omega
  by_cases h : c < 0
  · have he : pkM c n = (-(c + 1)).tmod n := by unfold pkM; rw [if_pos h]
    have h2 : -(c + 1) ≤ 9223372036854775807 := by omega
    have h3 : 0 ≤ -(c + 1) := by omega
    have h4 : 0 ≤ (-(c + 1)).tmod n := Int.tmod_nonneg _ h3
    have h5 : (-(c + 1)).tmod n < n := Int.tmod_lt_of_pos _ hn
    rw [he]
    go_enter Try.func9, Try.ntmps9
    go_wp2
    go_ret
    exact ⟨by simp, rfl⟩
  · have h6 : c.tmod n = c % n := Int.tmod_eq_emod_of_nonneg (by omega)
    have he : pkM c n = c % n := by unfold pkM; rw [if_neg h, h6]
    have h4 : 0 ≤ c % n := Int.emod_nonneg _ (by omega)
    have h5 : c % n < n := Int.emod_lt_of_pos _ hn
    rw [he]
    clear he
    go_enter Try.func9, Try.ntmps9
    go_wp2
    go_ret
    exact ⟨by simp, rfl⟩
theorem pkM_rng (c n : Int) (hn : 0 < n) : 0 ≤ pkM c n ∧ pkM c n < n := by
  unfold pkM
  split
  · exact ⟨Int.tmod_nonneg _ (by omega), Int.tmod_lt_of_pos _ hn⟩
  · exact ⟨Int.tmod_nonneg _ (by omega), Int.tmod_lt_of_pos _ hn⟩
theorem cm_at {lo : Nat} {w : World} {v : Value} {C : List Cm} (h : OwR lo 60 27 cmC w v C) {i : Nat} {c : Cm} (hc : C[i]? = some c) : ∃ g cap, v = .slice (some ⟨g, 0, none⟩) C.length cap ∧ lo ≤ g ∧ (∃ cur, w.heap[g]? = some (.cells cur 60 (0, 0))) ∧ ∀ j u, (cmC c)[j]? = some u → w.cell? ⟨g, i * 27 + j, none⟩ = some u := by
  have hi := (List.getElem?_eq_some_iff.1 hc).1
  rcases h.2 with ⟨rfl, e⟩ | ⟨g, cap, cur, rfl, h3, h4, h5, h6, h7, h8⟩
  · omega
  · refine ⟨g, cap, rfl, h3, ⟨cur, h4⟩, fun j u hu => ?_⟩
    have hj : j < 27 := (Array.getElem?_eq_some_iff.1 hu).1
    rw [cell_of_row w g _ cur 60 (0, 0) h4]
    have h9 := rows_get cm_size C i c hc j hj
    rw [← h8, List.getElem?_take, hu] at h9
    have h10 : i * 27 + j < C.length * 27 := by omega
    rw [if_pos h10, Array.getElem?_toList] at h9
    exact h9

def n0 : Nd := ⟨1, 0, 0, true, false, 0, 2, 5⟩
def stV (a7 : Option Addr) (n7 c7 : Nat) (a8 : Option Addr) (n8 c8 : Nat) : Array Value := #[.int .i64 0, .int .i64 0, .slice none 0 0, .slice none 0 0, .slice a7 n7 c7, .slice none 0 0, .slice none 0 0, .slice a8 n8 c8, .slice none 0 0]
theorem DpR.nil (D : Nat) (w : World) (a : Option Addr) : DpR D w a [] := fun h => absurd rfl h
theorem hd0 : ([n0].map (·.id)).Nodup := by decide
theorem lf_first (w : World) (D p mb : Nat) (a : Option Addr) (c : Nat) (t : Nat) (ht : t < 20) (h : LfR D w p mb (mU [n0] (csT t))) (hn : NdR D w a [n0]) :
    Calls Try.prog 11 #[.pointer (some ⟨p, 0, none⟩), .agg #[.int .i64 0, .int .i64 0, .slice none 0 0, .slice none 0 0, .slice a 1 c, .slice none 0 0, .slice none 0 0, .slice none 0 0, .slice none 0 0]] w fun e w' => ∃ mb' a' c', e = .returned (.slice a' 0 c') ∧ LfR D w' p mb' (mU [n0] (csT (t + 1))) ∧ FrT D [65] w w' := by
  refine (tick_any p mb _ [n0] [] a c none 0 w h (mU_okm (by omega)) hn (DpR.nil _ _ _) (by unfold maxLen; simp) (by unfold maxLen; simp) (by decide)).mono ?_
  rintro e w' ⟨v, mb', rfl, h1, h2, h3⟩
  rw [uni_step hd0 (by omega)] at h1 h2
  have ha : ask (t + 1) = false := by unfold ask; simp; omega
  rw [ha] at h2
  obtain ⟨a', cap, rfl, -⟩ := h2.slice
  exact ⟨mb', a', cap, rfl, h1, h3⟩
theorem lf_last (w : World) (D p mb : Nat) (a : Option Addr) (c : Nat) (h : LfR D w p mb (mU [n0] (csT 20))) (hn : NdR D w a [n0]) :
    Calls Try.prog 11 #[.pointer (some ⟨p, 0, none⟩), .agg #[.int .i64 0, .int .i64 0, .slice none 0 0, .slice none 0 0, .slice a 1 c, .slice none 0 0, .slice none 0 0, .slice none 0 0, .slice none 0 0]] w fun e w' => ∃ g c', e = .returned (.slice (some ⟨g, 0, none⟩) 1 c') ∧ FrT D [65] w w' ∧ w'.cell? ⟨g, 0, none⟩ = some (.int .i64 7) ∧ w'.cell? ⟨g, 16, none⟩ = some (.int .i64 2) ∧ w'.cell? ⟨g, 17, none⟩ = some (.int .i64 5) := by
  refine (tick_any p mb _ [n0] [] a c none 0 w h (mU_okm (by omega)) hn (DpR.nil _ _ _) (by unfold maxLen; simp) (by unfold maxLen; simp) (by decide)).mono ?_
  rintro e w' ⟨v, mb', rfl, h1, h2, h3⟩
  rw [uni_step hd0 (by omega)] at h1 h2
  have h4 : OwR w.heap.size 60 27 cmC w' v [dnC n0] := h2
  obtain ⟨g, cap, rfl, _, _, hc⟩ := cm_at h4 (i := 0) rfl
  have c0 := hc 0 _ rfl
  have c16 := hc 16 _ rfl
  have c17 := hc 17 _ rfl
  simp only [Nat.zero_mul, Nat.zero_add] at c0 c16 c17
  exact ⟨g, cap, rfl, h3, c0, c16, c17⟩
theorem nd_alloc (D : Nat) (w : World) : NdR D (w.alloc (.cells #[.int .i64 1, .int .i64 0, .int .i64 0, .bool true, .bool false, .int .i64 0, .int .i64 2, .int .i64 5] 52)) (some ⟨w.heap.size, 0, none⟩) [n0] := by
  intro _
  have hq := heap_alloc_new w (.cells #[.int .i64 1, .int .i64 0, .int .i64 0, .bool true, .bool false, .int .i64 0, .int .i64 2, .int .i64 5] 52)
  refine ⟨w.heap.size, 0, rfl, heap_lt hq, .inr ⟨_, hq⟩, fun i x hx j u hu => ?_⟩
  match i, hx with
  | 0, hx =>
    cases hx
    rw [cell_of_row _ _ _ _ 52 (0, 0) hq, Nat.zero_mul, Nat.add_zero, Nat.zero_add]
    exact hu
  | n + 1, hx => simp at hx
set_option maxHeartbeats 8000000 in
set_option maxRecDepth 100000 in
theorem lives_any (w : World) : Calls Try.prog 13 #[] w fun e w' => e = .returned (.bool true) ∧ Below w.heap.size w w' := by
  have HC := hidOf (new_any (D := w.heap.size) w (Nat.le_refl _))
  simp only [ptr] at HC
  have HND := hidOf (nd_alloc w.heap.size)
  go_enter Try.func13, Try.ntmps13
  go_wp2_with (go_at_call 6; refine HC.out.mono ?_; rintro e w1 ⟨p, mb, rfl, hp, hmb, h1, hb1⟩; have H1 := hidOf h1; have HB1 := hidOf hb1; clear h1 hb1 HC)
  have HQ := hidOf (heap_alloc_new (w1.alloc (.cells #[.int .i64 1, .int .i64 0, .int .i64 0, .bool true, .bool false, .int .i64 0, .int .i64 2, .int .i64 5] 52)) (.cells #[.int .i64 0, .int .i64 0, .slice none 0 0, .slice none 0 0, .slice (some ⟨w1.heap.size, 0, none⟩) 1 1, .slice none 0 0, .slice none 0 0, .slice none 0 0, .slice none 0 0] 38))
  have HBx := hidOf (below1 (w1.alloc (.cells #[.int .i64 1, .int .i64 0, .int .i64 0, .bool true, .bool false, .int .i64 0, .int .i64 2, .int .i64 5] 52)) (.cells #[.int .i64 0, .int .i64 0, .slice none 0 0, .slice none 0 0, .slice (some ⟨w1.heap.size, 0, none⟩) 1 1, .slice none 0 0, .slice none 0 0, .slice none 0 0, .slice none 0 0] 38))
  have HN2 := hidOf ((HND.out w1).grow HBx.out)
  have HB2 := hidOf ((HB1.out.trans ((below1 w1 (.cells #[.int .i64 1, .int .i64 0, .int .i64 0, .bool true, .bool false, .int .i64 0, .int .i64 2, .int .i64 5] 52)).mono HB1.out.size)).trans (HBx.out.mono (by have := HB1.out.size; simp; omega)))
  have HL2 := hidOf ((H1.out.grow (below1 w1 (.cells #[.int .i64 1, .int .i64 0, .int .i64 0, .bool true, .bool false, .int .i64 0, .int .i64 2, .int .i64 5] 52))).grow HBx.out)
  obtain ⟨W, hW⟩ : ∃ y, y = (w1.alloc (.cells #[.int .i64 1, .int .i64 0, .int .i64 0, .bool true, .bool false, .int .i64 0, .int .i64 2, .int .i64 5] 52)).alloc (.cells #[.int .i64 0, .int .i64 0, .slice none 0 0, .slice none 0 0, .slice (some ⟨w1.heap.size, 0, none⟩) 1 1, .slice none 0 0, .slice none 0 0, .slice none 0 0, .slice none 0 0] 38) := ⟨_, rfl⟩
  rw [World.size_alloc] at HQ
  rw [← hW] at HQ HN2 HB2 HL2 ⊢
  clear HBx hW HND H1 HB1
  go_loopw [3] (fun i wr => ∃ (t mb : Nat), t ≤ 20 ∧ i = .int .i64 (t : Int) ∧ Hid (LfR w.heap.size wr p mb (mU [n0] (csT t))) ∧ Hid (NdR w.heap.size wr (some ⟨w1.heap.size, 0, none⟩) [n0]) ∧ Hid (wr.heap[w1.heap.size + 1]? = some (.cells #[.int .i64 0, .int .i64 0, .slice none 0 0, .slice none 0 0, .slice (some ⟨w1.heap.size, 0, none⟩) 1 1, .slice none 0 0, .slice none 0 0, .slice none 0 0, .slice none 0 0] 38 (0, 0))) ∧ Hid (Below w.heap.size w wr)) (fun i _ => 20 - (intOf i).toNat)
  case atStart => exact ⟨0, _, by omega, rfl, hidOf (by rw [mU_zero]; exact HL2.out), HN2, HQ, HB2⟩
  case round =>
    obtain ⟨t, mb, ht, rfl, HL, HN, HX, HB⟩ := hrel
    by_cases hlt : t < 20
    · have hltz : (t : Int) < 20 := by omega
      go_wp2_with (first
        | (refine wpList_load_row rfl 38 (.tmp 2) rfl (w1.heap.size + 1) rfl 38 #[.int .i64 0, .int .i64 0, .slice none 0 0, .slice none 0 0, .slice (some ⟨w1.heap.size, 0, none⟩) 1 1, .slice none 0 0, .slice none 0 0, .slice none 0 0, .slice none 0 0] (0, 0) _ HX.out Try.underlying38 rfl (by kernel_rfl) ?_)
        | (go_at_call 11; refine (lf_first _ w.heap.size p mb _ _ t hlt HL.out HN.out).mono ?_; rintro e w2 ⟨mb', a', c', rfl, h1, h2⟩; have H1 := hidOf h1; have H2 := hidOf h2; clear h1 h2))
      go_roundw
      case rel => exact ⟨t + 1, mb', by omega, by go_num, H1, hidOf (RdR.frt HN.out H2.out (by decide)), hidOf (H2.out.cells HX.out (by decide)), hidOf (HB.out.trans (H2.out.below HB.out.size))⟩
      case measure => simp [intOf]; omega
    · obtain rfl : t = 20 := by omega
      have hltz : ¬ (((20 : Nat) : Int) < 20) := by omega
      go_wp2_with (first
        | (refine wpList_load_row rfl 38 (.tmp 2) rfl (w1.heap.size + 1) rfl 38 #[.int .i64 0, .int .i64 0, .slice none 0 0, .slice none 0 0, .slice (some ⟨w1.heap.size, 0, none⟩) 1 1, .slice none 0 0, .slice none 0 0, .slice none 0 0, .slice none 0 0] (0, 0) _ HX.out Try.underlying38 rfl (by kernel_rfl) ?_)
        | (go_at_call 11; refine (lf_last _ w.heap.size p mb _ _ HL.out HN.out).mono ?_; rintro e w2 ⟨g, c', rfl, h2, y0, y16, y17⟩; have H2 := hidOf h2; clear h2))
      go_ret
      exact ⟨rfl, HB.out.trans (H2.out.below HB.out.size)⟩
end Go.Proofs.Ytcdbkieimkcogaa
