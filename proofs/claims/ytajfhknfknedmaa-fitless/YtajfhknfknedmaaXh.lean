/- The example. -/
import Derived.Test.YtajfhknfknedmaaXg
namespace Go.Proofs.Ytajfhknfknedmaa
open Go.RowKit Go.Shelf
attribute [local go_sem] Oper.semAt_some
def kN : List Nd := [⟨1, 100, 50, true, false, 0, 0, 0⟩, ⟨2, 60, 50, true, false, 0, 0, 0⟩]
theorem k1 : bV kN [] [] 50 1 = some (2, 59) := by decide
theorem k2 : bV kN [] [] 80 1 = some (1, 69) := by decide
theorem k3 : bV kN [] [] 101 1 = none := by decide
theorem kFl {w : World} {p : Nat} (hp : p < w.heap.size) (h : w.heap[p]? = some (.cells #[.int .i64 1, .int .i64 100, .int .i64 50, .bool true, .bool false, .int .i64 0, .int .i64 0, .int .i64 0, .int .i64 2, .int .i64 60, .int .i64 50, .bool true, .bool false, .int .i64 0, .int .i64 0, .int .i64 0] 44 (0, 0))) : Fl w (fun b => b < w.heap.size) 8 56 Nd.cs (some ⟨p, 0, none⟩) kN := by
  refine ⟨by decide, fun _ => ⟨p, 0, rfl, hp, fun i hi => ?_⟩⟩
  have hl : kN.length = 2 := rfl
  match i, hi with
  | 0, _ =>
    intro j v hj
    rw [cell_of_row w p _ _ 44 (0, 0) h, Nat.zero_add]
    have hj8 : j < 8 := by have := (List.getElem?_eq_some_iff.1 hj).1; simpa [Nd.cs, kN] using this
    match j, hj8 with
    | 0, _ | 1, _ | 2, _ | 3, _ | 4, _ | 5, _ | 6, _ | 7, _ => exact hj
  | 1, _ =>
    intro j v hj
    rw [cell_of_row w p _ _ 44 (0, 0) h, Nat.zero_add]
    have hj8 : j < 8 := by have := (List.getElem?_eq_some_iff.1 hj).1; simpa [Nd.cs, kN] using this
    match j, hj8 with
    | 0, _ | 1, _ | 2, _ | 3, _ | 4, _ | 5, _ | 6, _ | 7, _ => exact hj
  | i + 2, h => exact absurd h (by rw [hl]; omega)
set_option maxRecDepth 100000 in
set_option maxHeartbeats 800000 in
theorem lives_any (w : World) : Calls Try.prog 7 #[] w fun e w' => e = .returned (.bool true) ∧ Below w.heap.size w w' := by
  obtain ⟨W4, hW4⟩ : ∃ y, y = (((w.alloc (.cells #[.int .i64 1, .int .i64 100, .int .i64 50, .bool true, .bool false, .int .i64 0, .int .i64 0, .int .i64 0] 44)).alloc (.cells #[.int .i64 2, .int .i64 60, .int .i64 50, .bool true, .bool false, .int .i64 0, .int .i64 0, .int .i64 0] 44)).alloc (.cells #[.int .i64 1, .int .i64 100, .int .i64 50, .bool true, .bool false, .int .i64 0, .int .i64 0, .int .i64 0, .int .i64 2, .int .i64 60, .int .i64 50, .bool true, .bool false, .int .i64 0, .int .i64 0, .int .i64 0] 44)).alloc (.cells #[.int .i64 0, .int .i64 0, .slice none 0 0, .slice none 0 0, .slice (some ⟨w.heap.size + 1 + 1, 0, none⟩) 2 2, .slice none 0 0, .slice none 0 0, .slice none 0 0, .slice none 0 0] 29) := ⟨_, rfl⟩
  have hB0 : Below w.heap.size w (((w.alloc (.cells #[.int .i64 1, .int .i64 100, .int .i64 50, .bool true, .bool false, .int .i64 0, .int .i64 0, .int .i64 0] 44)).alloc (.cells #[.int .i64 2, .int .i64 60, .int .i64 50, .bool true, .bool false, .int .i64 0, .int .i64 0, .int .i64 0] 44)).alloc (.cells #[.int .i64 1, .int .i64 100, .int .i64 50, .bool true, .bool false, .int .i64 0, .int .i64 0, .int .i64 0, .int .i64 2, .int .i64 60, .int .i64 50, .bool true, .bool false, .int .i64 0, .int .i64 0, .int .i64 0] 44)) := (below2 w _ _).alloc (by simp; omega) _
  have HB4 : Hid (Below w.heap.size w W4) := hidOf (by rw [hW4]; exact hB0.alloc (by simp; omega) _)
  have hS4 : W4.rangeAt (w.heap.size + 1 + 1 + 1) 0 [.int .i64 0, .int .i64 0, .slice none 0 0, .slice none 0 0, .slice (some ⟨w.heap.size + 1 + 1, 0, none⟩) 2 2, .slice none 0 0, .slice none 0 0, .slice none 0 0, .slice none 0 0] := by
    have := box_new (wr := ((w.alloc (.cells #[.int .i64 1, .int .i64 100, .int .i64 50, .bool true, .bool false, .int .i64 0, .int .i64 0, .int .i64 0] 44)).alloc (.cells #[.int .i64 2, .int .i64 60, .int .i64 50, .bool true, .bool false, .int .i64 0, .int .i64 0, .int .i64 0] 44)).alloc (.cells #[.int .i64 1, .int .i64 100, .int .i64 50, .bool true, .bool false, .int .i64 0, .int .i64 0, .int .i64 0, .int .i64 2, .int .i64 60, .int .i64 50, .bool true, .bool false, .int .i64 0, .int .i64 0, .int .i64 0] 44)) (cs := [.int .i64 0, .int .i64 0, .slice none 0 0, .slice none 0 0, .slice (some ⟨w.heap.size + 1 + 1, 0, none⟩) 2 2, .slice none 0 0, .slice none 0 0, .slice none 0 0, .slice none 0 0]) (t := 29) (Below.refl _ _)
    simp only [World.size_alloc] at this
    rw [hW4]
    exact this
  have hz : W4.heap.size = w.heap.size + 4 := by rw [hW4]; simp
  have HL4 : Hid (w.heap.size + 1 + 1 + 1 < W4.heap.size) := hidOf (by omega)
  have hN : W4.heap[w.heap.size + 1 + 1]? = some (.cells #[.int .i64 1, .int .i64 100, .int .i64 50, .bool true, .bool false, .int .i64 0, .int .i64 0, .int .i64 0, .int .i64 2, .int .i64 60, .int .i64 50, .bool true, .bool false, .int .i64 0, .int .i64 0, .int .i64 0] 44 (0, 0)) := by
    have h1 := heap_alloc_new ((w.alloc (.cells #[.int .i64 1, .int .i64 100, .int .i64 50, .bool true, .bool false, .int .i64 0, .int .i64 0, .int .i64 0] 44)).alloc (.cells #[.int .i64 2, .int .i64 60, .int .i64 50, .bool true, .bool false, .int .i64 0, .int .i64 0, .int .i64 0] 44)) (.cells #[.int .i64 1, .int .i64 100, .int .i64 50, .bool true, .bool false, .int .i64 0, .int .i64 0, .int .i64 0, .int .i64 2, .int .i64 60, .int .i64 50, .bool true, .bool false, .int .i64 0, .int .i64 0, .int .i64 0] 44)
    simp only [World.size_alloc] at h1
    rw [hW4]
    exact ((below1 _ _).block _ (by simp)).trans h1
  have hSg : Sg W4 ⟨0, 0, none, 0, 0, none, 0, 0, some ⟨w.heap.size + 1 + 1, 0, none⟩, 2, 2, none, 0, 0, none, 0, 0, none, 0, 0, none, 0, 0⟩ kN [] := ⟨rfl, rfl, kFl (by omega) hN, Fl.nil _ _ _ _ _ _⟩
  have HBE := hidOf (fun (a : Int) (W : World) (hW : Below W4.heap.size W4 W) => best_any ⟨0, 0, none, 0, 0, none, 0, 0, some ⟨w.heap.size + 1 + 1, 0, none⟩, 2, 2, none, 0, 0, none, 0, 0, none, 0, 0, none, 0, 0⟩ a 1 kN [] [] none 0 W (hSg.up hW) (Fl.nil _ _ _ _ _ _) (by decide))
  dsimp only [List.length_nil] at HBE
  have H50 := hidOf (HBE.out 50)
  have H80 := hidOf (HBE.out 80)
  have H101 := hidOf (HBE.out 101)
  rw [k1] at H50
  rw [k2] at H80
  rw [k3] at H101
  dsimp only [bI, Option.isSome] at H50 H80 H101
  clear HBE
  have HS4 := hidOf hS4
  have s0 : W4.cell? ⟨w.heap.size + 1 + 1 + 1, 0, none⟩ = some (.int .i64 0) := hS4 0 _ rfl
  have s1 : W4.cell? ⟨w.heap.size + 1 + 1 + 1, 1, none⟩ = some (.int .i64 0) := hS4 1 _ rfl
  have s2 : W4.cell? ⟨w.heap.size + 1 + 1 + 1, 2, none⟩ = some (.slice none 0 0) := hS4 2 _ rfl
  have s3 : W4.cell? ⟨w.heap.size + 1 + 1 + 1, 3, none⟩ = some (.slice none 0 0) := hS4 3 _ rfl
  have s4 : W4.cell? ⟨w.heap.size + 1 + 1 + 1, 4, none⟩ = some (.slice (some ⟨w.heap.size + 1 + 1, 0, none⟩) 2 2) := hS4 4 _ rfl
  have s5 : W4.cell? ⟨w.heap.size + 1 + 1 + 1, 5, none⟩ = some (.slice none 0 0) := hS4 5 _ rfl
  have s6 : W4.cell? ⟨w.heap.size + 1 + 1 + 1, 6, none⟩ = some (.slice none 0 0) := hS4 6 _ rfl
  have s7 : W4.cell? ⟨w.heap.size + 1 + 1 + 1, 7, none⟩ = some (.slice none 0 0) := hS4 7 _ rfl
  have s8 : W4.cell? ⟨w.heap.size + 1 + 1 + 1, 8, none⟩ = some (.slice none 0 0) := hS4 8 _ rfl
  have lw : w.heap.size + 1 + 1 + 1 < W4.heap.size := HL4.out
  clear hSg hN hS4 hz hB0
  go_enter Try.func7, Try.ntmps7
  go_upto_region 4 with (fail)
  rw [← hW4]
  clear hW4
  go_upto_region 5 with (go_at_call 10; refine (H50.out _ (Below.refl W4.heap.size W4)).mono ?_; rintro e w5 ⟨rfl, hb⟩; have HBw5 : Hid (Below W4.heap.size W4 w5) := hidOf ((Below.refl W4.heap.size W4).trans (hb.mono (Below.refl W4.heap.size W4).size)); have hr := range_of HS4.out (HBw5.out.block _ HL4.out); clear hb s0 s1 s2 s3 s4 s5 s6 s7 s8 lw; have s0 : w5.cell? ⟨w.heap.size + 1 + 1 + 1, 0, none⟩ = some (.int .i64 0) := hr 0 _ rfl; have s1 : w5.cell? ⟨w.heap.size + 1 + 1 + 1, 1, none⟩ = some (.int .i64 0) := hr 1 _ rfl; have s2 : w5.cell? ⟨w.heap.size + 1 + 1 + 1, 2, none⟩ = some (.slice none 0 0) := hr 2 _ rfl; have s3 : w5.cell? ⟨w.heap.size + 1 + 1 + 1, 3, none⟩ = some (.slice none 0 0) := hr 3 _ rfl; have s4 : w5.cell? ⟨w.heap.size + 1 + 1 + 1, 4, none⟩ = some (.slice (some ⟨w.heap.size + 1 + 1, 0, none⟩) 2 2) := hr 4 _ rfl; have s5 : w5.cell? ⟨w.heap.size + 1 + 1 + 1, 5, none⟩ = some (.slice none 0 0) := hr 5 _ rfl; have s6 : w5.cell? ⟨w.heap.size + 1 + 1 + 1, 6, none⟩ = some (.slice none 0 0) := hr 6 _ rfl; have s7 : w5.cell? ⟨w.heap.size + 1 + 1 + 1, 7, none⟩ = some (.slice none 0 0) := hr 7 _ rfl; have s8 : w5.cell? ⟨w.heap.size + 1 + 1 + 1, 8, none⟩ = some (.slice none 0 0) := hr 8 _ rfl; have lw : w.heap.size + 1 + 1 + 1 < w5.heap.size := Nat.lt_of_lt_of_le HL4.out HBw5.out.size; clear hr)
  go_upto_region 6 with (go_at_call 10; refine (H80.out _ HBw5.out).mono ?_; rintro e w6 ⟨rfl, hb⟩; have HBw6 : Hid (Below W4.heap.size W4 w6) := hidOf (HBw5.out.trans (hb.mono HBw5.out.size)); have hr := range_of HS4.out (HBw6.out.block _ HL4.out); clear hb s0 s1 s2 s3 s4 s5 s6 s7 s8 lw; have s0 : w6.cell? ⟨w.heap.size + 1 + 1 + 1, 0, none⟩ = some (.int .i64 0) := hr 0 _ rfl; have s1 : w6.cell? ⟨w.heap.size + 1 + 1 + 1, 1, none⟩ = some (.int .i64 0) := hr 1 _ rfl; have s2 : w6.cell? ⟨w.heap.size + 1 + 1 + 1, 2, none⟩ = some (.slice none 0 0) := hr 2 _ rfl; have s3 : w6.cell? ⟨w.heap.size + 1 + 1 + 1, 3, none⟩ = some (.slice none 0 0) := hr 3 _ rfl; have s4 : w6.cell? ⟨w.heap.size + 1 + 1 + 1, 4, none⟩ = some (.slice (some ⟨w.heap.size + 1 + 1, 0, none⟩) 2 2) := hr 4 _ rfl; have s5 : w6.cell? ⟨w.heap.size + 1 + 1 + 1, 5, none⟩ = some (.slice none 0 0) := hr 5 _ rfl; have s6 : w6.cell? ⟨w.heap.size + 1 + 1 + 1, 6, none⟩ = some (.slice none 0 0) := hr 6 _ rfl; have s7 : w6.cell? ⟨w.heap.size + 1 + 1 + 1, 7, none⟩ = some (.slice none 0 0) := hr 7 _ rfl; have s8 : w6.cell? ⟨w.heap.size + 1 + 1 + 1, 8, none⟩ = some (.slice none 0 0) := hr 8 _ rfl; have lw : w.heap.size + 1 + 1 + 1 < w6.heap.size := Nat.lt_of_lt_of_le HL4.out HBw6.out.size; clear hr)
  go_wp2_with (go_at_call 10; refine (H101.out _ HBw6.out).mono ?_; rintro e w7 ⟨rfl, hb⟩; have HBw7 : Hid (Below W4.heap.size W4 w7) := hidOf (HBw6.out.trans (hb.mono HBw6.out.size)); have hr := range_of HS4.out (HBw7.out.block _ HL4.out); clear hb s0 s1 s2 s3 s4 s5 s6 s7 s8 lw; have s0 : w7.cell? ⟨w.heap.size + 1 + 1 + 1, 0, none⟩ = some (.int .i64 0) := hr 0 _ rfl; have s1 : w7.cell? ⟨w.heap.size + 1 + 1 + 1, 1, none⟩ = some (.int .i64 0) := hr 1 _ rfl; have s2 : w7.cell? ⟨w.heap.size + 1 + 1 + 1, 2, none⟩ = some (.slice none 0 0) := hr 2 _ rfl; have s3 : w7.cell? ⟨w.heap.size + 1 + 1 + 1, 3, none⟩ = some (.slice none 0 0) := hr 3 _ rfl; have s4 : w7.cell? ⟨w.heap.size + 1 + 1 + 1, 4, none⟩ = some (.slice (some ⟨w.heap.size + 1 + 1, 0, none⟩) 2 2) := hr 4 _ rfl; have s5 : w7.cell? ⟨w.heap.size + 1 + 1 + 1, 5, none⟩ = some (.slice none 0 0) := hr 5 _ rfl; have s6 : w7.cell? ⟨w.heap.size + 1 + 1 + 1, 6, none⟩ = some (.slice none 0 0) := hr 6 _ rfl; have s7 : w7.cell? ⟨w.heap.size + 1 + 1 + 1, 7, none⟩ = some (.slice none 0 0) := hr 7 _ rfl; have s8 : w7.cell? ⟨w.heap.size + 1 + 1 + 1, 8, none⟩ = some (.slice none 0 0) := hr 8 _ rfl; have lw : w.heap.size + 1 + 1 + 1 < w7.heap.size := Nat.lt_of_lt_of_le HL4.out HBw7.out.size; clear hr)
  go_ret
  exact ⟨rfl, HB4.out.trans (HBw7.out.mono HB4.out.size)⟩
end Go.Proofs.Ytajfhknfknedmaa
