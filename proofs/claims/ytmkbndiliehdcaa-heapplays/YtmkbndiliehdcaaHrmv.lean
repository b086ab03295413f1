/- Remove. -/
import Derived.Test.YtmkbndiliehdcaaHrem
namespace Go.Proofs.Ytmkbndiliehdcaa
open Go.RowKit

theorem rem_end {w9 : World} {p g n c : Nat} {L C M : List It} {key : Int} (hp : w9.heap[p]? = some (.cells #[.slice (some ⟨g, 0, none⟩) (L.filter (kp key)).length c, .int .i64 n] 53 (0, 0))) (hpg : p ≠ g) (hC : C.Perm (L.filter (kp key))) (hh : HeapFrom 0 C) (hr : RowR w9 g c C)
    (hM : L.Perm M ∧ HeapFrom 0 L ∧ Came M ∧ (∀ a ∈ M, 0 ≤ a.c ∧ a.c < n) ∧ M.length ≤ n) : HeapR w9 p (M.filter (kp key)) n (some g) := by
  obtain ⟨h1, _, h3, h4, h5⟩ := hM
  rw [← hC.length_eq] at hp
  exact ⟨_, C, heapL_of hr hp hpg, rfl, hC.trans (h1.filter _), hh, h3.filter _, fun a ha => h4 a (List.mem_filter.1 ha).1, Nat.le_trans (List.length_filter_le _ _) h5⟩

set_option maxHeartbeats 4000000 in
set_option maxRecDepth 100000 in
theorem remove_any (p n : Nat) (M : List It) (r : Option Nat) (key t : Int) (w : World) (h : HeapR w p M n r) (hn : n ≤ 5864062014805) : Calls Try.prog 14 #[.pointer (some ⟨p, 0, none⟩), .agg #[.int .i64 key, .int .i64 t]] w fun e w' => e = .returned (.int .i64 ((M.length : Int) - ((M.filter (kp key)).length : Int))) ∧ HeapR w' p (M.filter (kp key)) n r ∧ NS w w' p r r := by
  have hmf : ∀ (fn : Fn) (first cap : Array Value) (w : World), (Instr.makeFunc fn first cap).run Try.prog w = .ok (.func fn first cap) w := fun _ _ _ _ => rfl
  obtain ⟨v, L, h1, rfl, hp, hh, hc, hcn, hln⟩ := h
  have hB : ∀ o : Obj, Below w.heap.size w (w.alloc o) := fun o => (Below.refl w.heap.size w).alloc (Nat.le_refl _) o
  have hpw : p < w.heap.size := (Array.getElem?_eq_some_iff.1 h1.1).1
  have hlM : L.length = M.length := hp.length_eq
  have hlF : (L.filter (kp key)).length = (M.filter (kp key)).length := (hp.filter _).length_eq
  have hlFL : (L.filter (kp key)).length ≤ L.length := List.length_filter_le _ _
  rw [← hlM, ← hlF]
  have hLn : L.length ≤ n := by rw [hlM]; exact hln
  have HH := hidOf (And.intro hp (And.intro hh (And.intro hc (And.intro hcn hln))))
  have H1 := hidOf h1
  rcases h1.2.2.2 with ⟨rfl, e⟩ | ⟨g, cap, cur, e, _⟩
  · have hL : L = [] := List.eq_nil_of_length_eq_zero e
    subst hL
    have hM : M = [] := List.eq_nil_of_length_eq_zero (by rw [← hlM]; rfl)
    subst hM
    have c0 : ∀ o : Obj, (w.alloc o).cell? ⟨p, 0, none⟩ = some (.slice none 0 0) := fun o => ((hB o).cell (p := ⟨p, 0, none⟩) hpw).trans h1.cells.1
    have z0 : ∀ o : Obj, (w.alloc o).frozen? ⟨p, 0, none⟩ = false := fun o => ((hB o).frozen (p := ⟨p, 0, none⟩) hpw).trans h1.cells.2.2.1
    have cw := h1.cells.1
    have zw := h1.cells.2.2.1
    clear h1 hp hh hc hcn hln hlM hlF hlFL hLn e
    go_enter Try.func14, Try.ntmps14
    go_wp2_with (go_at_call 26; refine (delete_nil _ _).mono ?_; rintro e w2 ⟨rfl, rfl⟩)
    obtain ⟨W, hW⟩ : ∃ x, x = (w.setCell ⟨p, 0, none⟩ (.slice none 0 0)).alloc (.cells #[.int .i64 key, .int .i64 t] 26) := ⟨_, rfl⟩
    have hWp : W.heap[p]? = some (.cells #[.slice none 0 0, .int .i64 n] 53 (0, 0)) := by
      rw [hW, Below.heap_alloc _ _ p (by simpa using hpw), heap_setCell_same w p 0 _ 53 _ H1.out.1]; rfl
    have HWP := hidOf hWp
    have HWN : Hid (NS w W p (Value.slice none 0 0).ownBlock (Value.slice none 0 0).ownBlock) := by
      rw [hW]
      exact hidOf (((NS.refl w p _).setp 0 _).trans (NS.of_below ((Below.refl _ _).alloc (Nat.le_refl _) _)))
    have cW : W.cell? ⟨p, 0, none⟩ = some (.slice none 0 0) := by rw [cell_of_row W p 0 _ 53 (0, 0) hWp]; rfl
    rw [← hW]
    clear hW hWp c0 z0 cw zw
    go_loopw [6] (fun s wr => s = .int .i64 (-1) ∧ wr = W) (fun _ _ => 0)
    case atStart => exact ⟨rfl, rfl⟩
    case round =>
      obtain ⟨rfl, rfl⟩ := hrel
      go_wp2
      go_ret
      refine ⟨rfl, ⟨.slice none 0 0, [], ⟨HWP.out, by simp [Value.ownBlock], rfl, .inl ⟨rfl, rfl⟩⟩, rfl, .refl _, fun i j _ hj => by simp at hj, List.Pairwise.nil, (fun a ha => absurd ha (by simp)), Nat.zero_le _⟩, HWN.out⟩
  · subst e
    obtain ⟨hR, hpg⟩ := rowR_of h1
    have hgw : g < w.heap.size := hR.lt
    obtain ⟨X, hX⟩ : ∃ X, X = Obj.cells #[.int .i64 key, .int .i64 t] 26 := ⟨_, rfl⟩
    have hdel := delete_any g cap w.heap.size key t L (w.alloc X) (hR.kept (Below.heap_alloc w X g hgw)) (by rw [hX]; exact heap_alloc_new w _) (by omega)
    have c0 : (w.alloc X).cell? ⟨p, 0, none⟩ = some (.slice (some ⟨g, 0, none⟩) L.length cap) := ((hB X).cell (p := ⟨p, 0, none⟩) hpw).trans h1.cells.1
    rw [hX] at hdel c0
    clear hX
    have HD := hidOf hdel
    have hF : L.filter (kp key) = L.filter (kp key) := rfl
    obtain ⟨F, hF⟩ : ∃ F, F = L.filter (kp key) := ⟨_, rfl⟩
    rw [← hF] at HD hlFL hlF
    rw [← hF]
    have HF := hidOf hF
    clear h1 hp hh hc hcn hln hlM hlF hR hdel
    have hFb : F.length ≤ 5864062014805 := by omega
    have hdv : ((F.length : Int)).tdiv 2 = ((F.length / 2 : Nat) : Int) := by rw [Int.tdiv_eq_ediv_of_nonneg (by omega)]; omega
    clear hF
    go_enter Try.func14, Try.ntmps14
    go_wp2_with (go_at_call 26; refine HD.out.mono ?_; rintro e w2 ⟨rfl, hr2, hs2⟩; have hp2 : w2.heap[p]? = some (.cells #[.slice (some ⟨g, 0, none⟩) L.length cap, .int .i64 n] 53 (0, 0)) := ((hs2.block p (Nat.lt_of_lt_of_le hpw (hB _).size) hpg).trans (Below.heap_alloc w _ p hpw)).trans H1.out.1; have d0 : w2.cell? ⟨p, 0, none⟩ = some (.slice (some ⟨g, 0, none⟩) L.length cap) := (by rw [cell_of_row w2 p 0 _ 53 (0, 0) hp2]; rfl); have z0 : w2.frozen? ⟨p, 0, none⟩ = false := (by simp [World.frozen?, hp2]); have HP2 := hidOf hp2; have HR2 := hidOf hr2; have HN2 : Hid (NS w w2 p (some g) (some g)) := hidOf ((NS.of_below (hB _)).trans (NS.of_rs hs2)); clear hp2 hr2 hs2)
    obtain ⟨w3, hw3⟩ : ∃ x, x = w2.setCell ⟨p, 0, none⟩ (.slice (some ⟨g, 0, none⟩) F.length cap) := ⟨_, rfl⟩
    have H3 : Hid (w3.heap[p]? = some (.cells #[.slice (some ⟨g, 0, none⟩) F.length cap, .int .i64 n] 53 (0, 0)) ∧ RowR w3 g cap F ∧ NS w w3 p (some g) (some g)) := by
      rw [hw3]
      refine hidOf ⟨by rw [heap_setCell_same w2 p 0 _ 53 _ HP2.out]; rfl, HR2.out.kept (Below.heap_setCell w2 ⟨p, 0, none⟩ _ g (fun e => hpg e.symm)), HN2.out.setp 0 _⟩
    rw [← hw3]
    clear hw3 HP2 HR2 HN2 d0 z0 c0

    go_loopw [6] (fun s wr => ∃ (k : Nat) (C : List It), s = .int .i64 ((k : Int) - 1) ∧ k ≤ F.length ∧ Hid (C.Perm F ∧ HeapFrom k C ∧ RowR wr g cap C ∧ wr.heap[p]? = some (.cells #[.slice (some ⟨g, 0, none⟩) F.length cap, .int .i64 n] 53 (0, 0)) ∧ NS w wr p (some g) (some g))) (fun s _ => (intOf s + 1).toNat)
    case atStart => exact ⟨F.length / 2, F, by first | rfl | go_num, by omega, hidOf ⟨.refl _, HeapFrom.half F, H3.out.2.1, H3.out.1, H3.out.2.2⟩⟩
    case round =>
      obtain ⟨k, C, rfl, hk, H⟩ := hrel
      have hCl : C.length = F.length := H.out.1.length_eq
      have HCL := hidOf hCl
      clear hCl
      cases k with
      | zero =>
        have hz : ¬ (0 : Int) ≤ ((0 : Nat) : Int) - 1 := by omega
        have f0 : wr.cell? ⟨p, 0, none⟩ = some (.slice (some ⟨g, 0, none⟩) F.length cap) := by rw [cell_of_row wr p 0 _ 53 (0, 0) H.out.2.2.2.1]; rfl
        go_wp2
        go_ret
        have hend := H.out.2.2.2.1
        rw [HF.out] at hend
        exact ⟨rfl, rem_end hend hpg (by rw [← HF.out]; exact H.out.1) H.out.2.1 H.out.2.2.1 HH.out, H.out.2.2.2.2⟩
      | succ k =>
        have e1 : (((k + 1 : Nat) : Int) - 1) = (k : Int) := by omega
        simp only [e1]
        have hz : (0 : Int) ≤ (k : Int) := by omega
        have hsk := sink_any p g cap n k C wr (by rw [HCL.out]; exact H.out.2.2.2.1) hpg H.out.2.2.1 H.out.2.1 (by rw [HCL.out]; omega) (by rw [HCL.out]; omega)
        have HSK := hidOf hsk
        clear hsk
        go_wp2_with (go_at_call 24; refine HSK.out.mono ?_; rintro e w4 ⟨rfl, C4, hp4, hh4, hr4, hs4⟩; have H4 := hidOf (And.intro hp4 (And.intro hh4 (And.intro hr4 hs4))); clear hp4 hh4 hr4 hs4)
        go_roundw
        case rel => exact ⟨k, C4, by first | rfl | go_num, by omega, hidOf ⟨H4.out.1.trans H.out.1, H4.out.2.1, H4.out.2.2.1, (H4.out.2.2.2.block p (heap_lt H.out.2.2.2.1) hpg).trans H.out.2.2.2.1, H.out.2.2.2.2.trans (NS.of_rs H4.out.2.2.2)⟩⟩
        case measure => simp [intOf] <;> omega

end Go.Proofs.Ytmkbndiliehdcaa
