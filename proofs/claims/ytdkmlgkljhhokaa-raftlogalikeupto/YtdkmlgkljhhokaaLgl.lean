/- lives: two entries are put, and told. -/
import Derived.Test.YtdkmlgkljhhokaaLgq
namespace Go.Proofs.Ytdkmlgkljhhokaa
open Go.RowKit

theorem lg_new {w0 w : World} (h0 : w0.heap.size ≤ w.heap.size) (ty : TypeId) {i t : Int} (h : newB i t = true) : LgR w0 (w.alloc (.cells #[.int .i64 i, .int .i64 t, .slice none 0 0] ty)) ty w.heap.size ⟨i, t, []⟩ (.slice none 0 0) := by
  unfold newB isN at h
  simp only [Bool.and_eq_true, decide_eq_true_eq] at h
  exact ⟨heap_alloc_new w _, h0, OwR.nil _ _, ⟨h.1.1.1, h.1.1.2, h.1.2.1, h.1.2.2, rfl⟩, by simp⟩
theorem box_new (w : World) : (w.alloc (.cells Zc.toArray 51)).heap[w.heap.size]? = some (.cells Zc.toArray 51 (0, 0)) := heap_alloc_new w _
/- an entry that was laid in a box -/
structure Bx (w : World) (b : Nat) (c : List Value) : Prop where
  blk : w.heap[b]? = some (.cells c.toArray 51 (0, 0))
theorem Bx.c0 {w0 w1 w : World} {b : Nat} {c : List Value} {e : En} (h : Bx w b c) (he : EnR w0 w1 c e) : w.cell? ⟨b, 0, none⟩ = some (.int .i64 e.ix) ∧ b < w.heap.size := by
  refine ⟨?_, heap_lt h.blk⟩
  rw [cell_of_row _ _ _ _ 51 (0, 0) h.blk]
  exact (en_q he).1
theorem box_set {w w2 : World} {c : List Value} (h : w2 = (w.alloc (.cells Zc.toArray 51)).setRow w.heap.size c.toArray) : Below w.heap.size w w2 ∧ Bx w2 w.heap.size c := by
  rw [h]
  refine ⟨⟨rfl, rfl, rfl, by simp [World.setRow], fun k hk => (setRow_other _ _ _ _ (by omega)).trans ((below1 w _).block k hk)⟩, ⟨setRow_heap _ _ _ _ 51 _ (heap_alloc_new w _)⟩⟩
set_option maxHeartbeats 4000000 in
set_option maxRecDepth 100000 in
theorem lives_any (w : World) : Calls Try.prog 13 #[] w fun e w' => e = .returned (.bool true) ∧ Below w.heap.size w w' := by
  have HP1 : Hid (putE ⟨0, 0, []⟩ 1 = 0 ∧ putX ⟨0, 0, []⟩ 1 1 0 = ⟨1, 1, 1, 0⟩ ∧ putM ⟨0, 0, []⟩ 1 1 0 = ⟨0, 0, [⟨1, 1, 1, 0⟩]⟩) := hidOf ⟨by decide, by decide, rfl⟩
  have HP2 : Hid (putE ⟨0, 0, [⟨1, 1, 1, 0⟩]⟩ 2 = 0 ∧ putX ⟨0, 0, [⟨1, 1, 1, 0⟩]⟩ 2 3 0 = ⟨2, 2, 3, 0⟩ ∧ putM ⟨0, 0, [⟨1, 1, 1, 0⟩]⟩ 2 3 0 = ⟨0, 0, [⟨1, 1, 1, 0⟩, ⟨2, 2, 3, 0⟩]⟩) := hidOf ⟨by decide, by decide, rfl⟩
  have HQ : Hid (lastI ⟨0, 0, [⟨1, 1, 1, 0⟩, ⟨2, 2, 3, 0⟩]⟩ = 2 ∧ lastT ⟨0, 0, [⟨1, 1, 1, 0⟩, ⟨2, 2, 3, 0⟩]⟩ = 2 ∧ sliceM ⟨0, 0, [⟨1, 1, 1, 0⟩, ⟨2, 2, 3, 0⟩]⟩ 1 9 = [⟨1, 1, 1, 0⟩, ⟨2, 2, 3, 0⟩] ∧ newerB ⟨0, 0, [⟨1, 1, 1, 0⟩, ⟨2, 2, 3, 0⟩]⟩ 9 1 = false) := hidOf ⟨by decide, by decide, by decide, by decide⟩
  go_enter Try.func13, Try.ntmps13
  go_wp2_with (first
    | (go_at_call 9; refine (new_yes 0 0 _ (by decide)).mono ?_; rintro e w1 ⟨rfl, hw1⟩; have H1 := hidOf (lg_new (w0 := w) (w := w) (Nat.le_refl _) 72 (show newB 0 0 = true by decide)); rw [← hw1] at H1; have HB1 := hidOf (below1 w (.cells #[.int .i64 0, .int .i64 0, .slice none 0 0] 72)); rw [← hw1] at HB1; clear hw1)
    | (go_at_call 14; refine (put_any H1.out 1 1 (by simp)).mono ?_; rintro e w2 ⟨c2, v2, he, e2, l2, g2, _⟩; rw [HP1.out.1] at he; rw [HP1.out.2.1] at e2; rw [HP1.out.2.2] at l2; subst he; have HE2 := hidOf e2; have HL2 := hidOf l2; have HB2 := hidOf (HB1.out.trans (g2.below HB1.out.size (fun k e => (by rcases e with e | e; exact e ▸ Nat.le_refl _; cases e)))); have HS2 : Hid (w.heap.size < w2.heap.size) := hidOf (heap_lt l2.blk); clear e2 l2 g2 H1 HB1)
    | (refine wpList_store_rowF rfl 51 (.tmp 2) (.tmp 15) rfl w2.heap.size c2.toArray rfl rfl 51 Zc.toArray (box_new w2) (by simpa using en_info HE2.out) (by have := HE2.out.len; simp [Zc, this]) (all_oneCell_toArray HE2.out.one) ?_; intro w3 hw3; have hq := box_set hw3.out; have HL3 := hidOf (HL2.out.below hq.1); have HX3 := hidOf hq.2; have HB3 := hidOf (HB2.out.trans (hq.1.mono HB2.out.size)); clear hq hw3)
    | (go_at_call 14; refine (put_any HL3.out 2 3 (by simp)).mono ?_; rintro e w4 ⟨c4, v4, he, e4, l4, g4, _⟩; rw [HP2.out.1] at he; rw [HP2.out.2.1] at e4; rw [HP2.out.2.2] at l4; subst he; have HE4 := hidOf e4; have HL4 := hidOf l4; have HX4 : Hid (Bx w4 w2.heap.size c2) := hidOf ⟨(g4.block _ (heap_lt HX3.out.blk) (fun e => (by rcases e with e | e; have := HS2.out; omega; obtain ⟨_, cur, hc⟩ := HL2.out.own.blk e; have := heap_lt hc; omega))).trans HX3.out.blk⟩; have HB4 := hidOf (HB3.out.trans (g4.below HB3.out.size (fun k e => (by rcases e with e | e; exact e ▸ Nat.le_refl _; exact (HL3.out.own.blk e).1)))); clear e4 l4 g4 HL3 HX3 HB3)
    | (refine wpList_store_rowF rfl 51 (.tmp 4) (.tmp 21) rfl w4.heap.size c4.toArray rfl rfl 51 Zc.toArray (box_new w4) (by simpa using en_info HE4.out) (by have := HE4.out.len; simp [Zc, this]) (all_oneCell_toArray HE4.out.one) ?_; intro w5 hw5; have hq := box_set hw5.out; have HL5 := hidOf (HL4.out.below hq.1); have HX5 := hidOf hq.2; have HX6 : Hid (Bx w5 w2.heap.size c2) := hidOf ⟨(hq.1.block _ (heap_lt HX4.out.blk)).trans HX4.out.blk⟩; have HB5 := hidOf (HB4.out.trans (hq.1.mono HB4.out.size)); clear hq hw5)
    | (go_at_call 16; refine (last_any HL5.out).mono ?_; rintro e w6 ⟨he, nq, hw⟩; rw [HQ.out.1, HQ.out.2.1] at he; subst he; subst hw; obtain ⟨x0, xl⟩ := HX6.out.c0 HE2.out; obtain ⟨y0, yl⟩ := HX5.out.c0 HE4.out)
    | (go_at_call 19; refine (slice_any (HL5.out.below (bdrewN _ _)) 1 9).mono ?_; rintro e w7 ⟨v7, he, o7, b7, _⟩; rw [HQ.out.2.2.1] at o7; subst he; obtain ⟨a7, k7, hv7⟩ := o7.es.form; subst hv7; have HL7 := hidOf ((HL5.out.below (bdrewN _ _)).below b7); have HB7 := hidOf (HB5.out.trans (((bdrewN w5 _).mono HB5.out.size).trans (b7.mono HB5.out.size))); clear o7 b7)
    | (go_at_call 30; refine (newer_any HL7.out 9 1).mono ?_; rintro e w8 ⟨he, nq8, hw⟩; rw [HQ.out.2.2.2] at he; subst he; subst hw))
  go_ret
  exact ⟨rfl, HB7.out.trans ((bdrewN w7 _).mono HB7.out.size)⟩
end Go.Proofs.Ytdkmlgkljhhokaa
