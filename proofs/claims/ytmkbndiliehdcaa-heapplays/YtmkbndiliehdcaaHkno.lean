/- The example that each law asks first. -/
import Derived.Test.YtmkbndiliehdcaaHbox
namespace Go.Proofs.Ytmkbndiliehdcaa
open Go.RowKit Go.Conc

set_option maxHeartbeats 4000000 in
set_option maxRecDepth 100000 in
theorem known_any (w : World) : Calls Try.prog 9 #[] w fun e w' => e = .returned (.bool true) ∧ Below w.heap.size w w' := by
  obtain ⟨w2, hw2⟩ : ∃ x, x = ((w.alloc (.cells #[.slice none 0 0, .int .i64 0] 53)).alloc (.chan 2 #[] false 0 0 false)).alloc (.cells #[.chan (some (w.heap.size + 1))] 62) := ⟨_, rfl⟩
  have hBw : Below (w.alloc (.cells #[.slice none 0 0, .int .i64 0] 53)).heap.size (w.alloc (.cells #[.slice none 0 0, .int .i64 0] 53)) w2 := by rw [hw2]; exact below2 _ _ _
  have HR0 : Hid (HeapR w2 w.heap.size [] 0 none) := hidOf ((heapR_new w).grow hBw)
  have HB0 : Hid (BoxR w2 (w.heap.size + 1) (w.heap.size + 2) (w.heap.size + 1) 2 []) := by
    have h := boxR_new (w.alloc (.cells #[.slice none 0 0, .int .i64 0] 53)) 2
    rw [World.size_alloc] at h
    rw [hw2]
    exact h
  have hs2 : w.heap.size + 3 ≤ w2.heap.size := by rw [hw2]; simp
  have HW2 : Hid (Below w.heap.size w w2) := hidOf (((Below.refl _ w).alloc (Nat.le_refl _) _).trans (hBw.mono (by simp)))
  have HE2 := hidOf hw2
  clear hBw hw2
  go_enter Try.func9, Try.ntmps9
  go_wp2_with (first
    | (go_at_call 8; refine (new_any _).mono ?_; rintro e w1 ⟨rfl, rfl⟩)
    | (go_at_call 19; refine (newbox2 _).mono ?_; rintro e w1 ⟨rfl, hw1⟩; rw [World.size_alloc] at hw1; have hw1' := hw1.trans HE2.out.symm; subst hw1'; clear hw1)
    | (go_at_call 10; refine (push_any w.heap.size 0 [] none 2 0 _ HR0.out (by decide)).mono ?_; rintro e w3 ⟨rfl, r3, h3, n3⟩; have HR1 : Hid (HeapR w3 w.heap.size [⟨2, 0, 0⟩] 1 r3) := h3; have HB1 := hidOf (HB0.out.ns HR0.out n3); have HW3 : Hid (Below w.heap.size w w3 ∧ ∀ k, r3 = some k → w.heap.size ≤ k) := hidOf ⟨HW2.out.trans (n3.below (HW2.out.size) (Nat.le_refl _) (fun k hk => by cases hk)), n3.rowD HW2.out.size (fun k hk => by cases hk)⟩; have hs3 := Nat.le_trans hs2 n3.size; clear h3 n3 HR0)
    | (go_at_call 10; refine (push_any w.heap.size 1 [⟨2, 0, 0⟩] r3 1 0 _ HR1.out (by decide)).mono ?_; rintro e w4 ⟨rfl, r4, h4, n4⟩; have HR2 : Hid (HeapR w4 w.heap.size [⟨2, 0, 0⟩, ⟨1, 0, 1⟩] 2 r4) := h4; have HB2 := hidOf (HB1.out.ns HR1.out n4); have HW4 : Hid (Below w.heap.size w w4 ∧ ∀ k, r4 = some k → w.heap.size ≤ k) := hidOf ⟨HW3.out.1.trans (n4.below HW3.out.1.size (Nat.le_refl _) HW3.out.2), n4.rowD HW3.out.1.size HW3.out.2⟩; have hs4 := Nat.le_trans hs3 n4.size; clear h4 n4 HR1)
    | (go_at_call 12; refine (pop_min w.heap.size 2 [⟨2, 0, 0⟩, ⟨1, 0, 1⟩] ⟨1, 0, 1⟩ r4 _ HR2.out (by simp [MinOf, le]) (by decide)).mono ?_; rintro e w5 ⟨rfl, h5, n5⟩; have HR3 : Hid (HeapR w5 w.heap.size [⟨2, 0, 0⟩] 2 r4) := h5; have HB3 := hidOf (HB2.out.ns HR2.out n5); have HW5 : Hid (Below w.heap.size w w5) := hidOf (HW4.out.1.trans (n5.below HW4.out.1.size (Nat.le_refl _) HW4.out.2)); have hs5 := Nat.le_trans hs4 n5.size; clear h5 n5 HR2)
    | (go_at_call 20; refine (put_ok (w.heap.size + 1) (w.heap.size + 2) (w.heap.size + 1) 2 [] 7 _ (HB3.out.grow ((Below.refl _ _).alloc (Nat.le_refl _) _)) (by simp; omega) (by decide)).mono ?_; rintro e w6 ⟨rfl, h6, n6⟩; have hx6 : w6.heap[w5.heap.size]? = some (.cells #[.int .i64 1, .int .i64 0] 26 (0, 0)) := (n6.block _ (by simp) (by omega)).trans (heap_alloc_new w5 _); have HR4 := hidOf ((HR3.out.grow ((Below.refl _ _).alloc (Nat.le_refl _) _)).rsc (HB3.out.grow ((Below.refl _ _).alloc (Nat.le_refl _) _)) n6); have HB4 : Hid (BoxR w6 (w.heap.size + 1) (w.heap.size + 2) (w.heap.size + 1) 2 [7]) := h6; have HW6 : Hid (Below w.heap.size w w6) := hidOf ((HW5.out.alloc HW5.out.size _).trans (n6.below (by simp; omega) (by omega))); have hs6 : w5.heap.size < w6.heap.size := Nat.lt_of_lt_of_le (by simp) n6.size; have HX6 := hidOf hx6; clear h6 n6 hx6)
    | (go_at_call 21; refine (take_ok (w.heap.size + 1) (w.heap.size + 2) (w.heap.size + 1) 2 7 [] _ HB4.out).mono ?_; rintro e w7 ⟨rfl, h7, n7⟩; obtain ⟨x0, x1, _, _⟩ := res_cells ((n7.block w5.heap.size hs6 (by omega)).trans HX6.out); have HR5 := hidOf (HR4.out.rsc HB4.out n7); have HB5 := hidOf h7; have HW7 : Hid (Below w.heap.size w w7) := hidOf (HW6.out.trans (n7.below HW6.out.size (by omega))); clear h7 n7)
    | (go_at_call 18; refine (len_any w.heap.size 2 [⟨2, 0, 0⟩] r4 _ HR5.out).mono ?_; rintro e w8 ⟨rfl, rfl⟩)
    | (go_at_call 22; refine (boxlen_any (w.heap.size + 1) (w.heap.size + 2) (w.heap.size + 1) 2 [] _ HB5.out).mono ?_; rintro e w8 ⟨rfl, rfl⟩))
  trace_state
  go_ret
  exact ⟨rfl, HW7.out⟩

end Go.Proofs.Ytmkbndiliehdcaa
