/- The document's heap: Pop and Remove. -/
import Derived.Test.YtmkbndiliehdcaaHref
namespace Go.Proofs.Ytmkbndiliehdcaa
open Go.RowKit

theorem enP_one (L : List It) : ∀ u ∈ enP L, u.oneCell' = true := by
  intro u hu
  simp only [enP, List.mem_flatMap] at hu
  obtain ⟨a, _, hu⟩ := hu
  simp only [enP1, List.mem_cons, List.not_mem_nil, or_false] at hu
  rcases hu with rfl | rfl <;> rfl
theorem enP_part (M : List It) (a b : Nat) (j : Nat) (u : Value) (h : (enP ((M.drop a).take b))[j]? = some u) : (enP M)[a * 2 + j]? = some u := by
  have e : enP M = enP (M.take a) ++ (enP ((M.drop a).take b) ++ enP ((M.drop a).drop b)) := by
    rw [← enP_append, ← enP_append, List.take_append_drop, List.take_append_drop]
  have hj := (List.getElem?_eq_some_iff.1 h).1
  by_cases ha : a ≤ M.length
  · have hl : (enP (M.take a)).length = a * 2 := by rw [enP_length]; simp; omega
    rw [e, List.getElem?_append_right (by omega), hl, Nat.add_sub_cancel_left, List.getElem?_append_left hj]
    exact h
  · have : (M.drop a).take b = [] := by rw [List.drop_eq_nil_of_le (by omega)]; simp
    rw [this] at h
    simp [enP] at h
theorem erase_gt {M : List It} (hc : Came M) : ∀ a, a < M.length → M.erase (gt M a) = M.take a ++ M.drop (a + 1) := by
  induction M with
  | nil => intro a ha; simp at ha
  | cons x T ih =>
    intro a ha
    cases a with
    | zero => simp [gt]
    | succ a =>
      have hx := List.pairwise_cons.1 hc
      have e : gt (x :: T) (a + 1) = gt T a := by simp [gt]
      have hT : a < T.length := by simpa using ha
      have hne : x ≠ gt T a := fun e2 => by
        have := hx.1 _ (gt_mem hT)
        rw [← e2] at this
        omega
      rw [e, List.erase_cons_tail (by simpa using hne), ih hx.2 a hT]
      rfl
theorem RefR.row {w : World} {q : Nat} {M : List It} {r : Option Nat} (h : RefR w q M r) (hM : M ≠ []) : ∃ g cap, w.cell? ⟨q, 0, none⟩ = some (.slice (some ⟨g, 0, none⟩) M.length cap) ∧ w.frozen? ⟨q, 0, none⟩ = false ∧ M.length ≤ cap ∧ cap ≤ maxLen ∧ r = some g ∧ g ≠ q ∧ g < w.heap.size ∧ ∀ j u, (enP M)[j]? = some u → w.cell? ⟨g, j, none⟩ = some u := by
  obtain ⟨v, h1, rfl, h2, h3⟩ := h
  rcases h3.2 with ⟨rfl, e⟩ | ⟨g, cap, cur, rfl, _, h4, h5, h6, h7, h8⟩
  · exact absurd (List.eq_nil_of_length_eq_zero e) hM
  · refine ⟨g, cap, by rw [cell_of_row w q 0 _ 30 (0, 0) h1]; rfl, by simp [World.frozen?, h1], h5, h6, rfl, fun e => h2 (by rw [← e]; rfl), heap_lt h4, fun j u hj => ?_⟩
    rw [cell_of_row w g j cur 26 (0, 0) h4]
    have hjl := (List.getElem?_eq_some_iff.1 hj).1
    rw [enP_length] at hjl
    rw [← h8, List.getElem?_take, if_pos hjl, Array.getElem?_toList] at hj
    exact hj

set_option maxHeartbeats 4000000 in
set_option maxRecDepth 100000 in
theorem rpop_nil (q : Nat) (r : Option Nat) (w : World) (h : RefR w q [] r) : Calls Try.prog 13 #[.pointer (some ⟨q, 0, none⟩)] w fun e w' => e = .returned (.tuple #[.agg #[.int .i64 0, .int .i64 0], .bool false]) ∧ Below w.heap.size w w' := by
  have hB : ∀ o : Obj, Below w.heap.size w (w.alloc o) := fun o => (Below.refl w.heap.size w).alloc (Nat.le_refl _) o
  have HLS := hidOf (fun o : Obj => least_nil q r (w.alloc o) (h.grow (hB o)))
  clear h
  go_enter Try.func13, Try.ntmps13
  go_wp2_with (go_at_call 25; refine (HLS.out _).mono ?_; rintro e w1 ⟨rfl, rfl⟩)
  refine bodyPost_ret (results_pair Try.results13 _ _ w.heap.size (.int .i64 0) (.int .i64 0) (.bool false) rfl rfl (by simp [go_sem]) (by simp [go_sem])) rfl ?_
  exact ⟨rfl, hB _⟩

set_option maxHeartbeats 4000000 in
set_option maxRecDepth 100000 in
theorem rremove_any (q : Nat) (M : List It) (r : Option Nat) (key : Int) (w : World) (h : RefR w q M r) (hn : M.length ≤ 5864062014805) : Calls Try.prog 15 #[.pointer (some ⟨q, 0, none⟩), .int .i64 key] w fun e w' => e = .returned (.int .i64 ((M.length : Int) - ((M.filter (kp key)).length : Int))) ∧ ∃ r', RefR w' q (M.filter (kp key)) r' ∧ RS w w' q ∧ ∀ k, r' = some k → w.heap.size ≤ k := by
  have H := hidOf h
  obtain ⟨i0, hi0, hz0, hz1, hz2⟩ := info_parts info26
  have HI := hidOf hi0
  have HZ0 := hidOf hz0
  have HZ1 := hidOf hz1
  have HZ2 := hidOf hz2
  clear h hi0 hz0 hz1 hz2
  go_enter Try.func15, Try.ntmps15
  go_wp2
  go_loopw [5, 6, 7] (fun v s6 i wr => ∃ (k cnt : Nat), i = .int .i64 (k : Int) ∧ s6 = .int .i64 (cnt : Int) ∧ k ≤ M.length ∧ cnt ≤ k ∧ Hid (cnt + ((M.take k).filter (kp key)).length = k) ∧ Hid (wr.ownsRow 0 26 2 v ((M.take k).filter (kp key)).length (enP ((M.take k).filter (kp key))) ∧ Below w.heap.size w wr ∧ ∀ b, v.ownBlock = some b → w.heap.size ≤ b)) (fun _ _ i _ => M.length - (intOf i).toNat)
  case atStart => exact ⟨0, 0, rfl, rfl, Nat.zero_le _, Nat.le_refl _, hidOf (by simp), hidOf ⟨⟨by simp [enP], .inl ⟨rfl, by simp⟩⟩, Below.refl _ _, fun b hb => by cases hb⟩⟩
  case round =>
    obtain ⟨k, cnt, rfl, rfl, hk, hck, HCT, HW⟩ := hrel
    have HRr := hidOf (H.out.grow HW.out.2.1)
    by_cases hlt : k < M.length
    · have hltz : (k : Int) < (M.length : Int) := by omega
      have hM0 : M ≠ [] := fun e => by subst e; simp at hlt
      obtain ⟨g, cap, c0, _, _, _, _, _, hgl, hcell⟩ := HRr.out.row hM0
      obtain ⟨x, hx⟩ : ∃ x, x = gt M k := ⟨_, rfl⟩
      obtain ⟨e0, e1⟩ := enP_get M k hlt
      have x0 := hcell _ _ e0
      have x1 := hcell _ _ e1
      rw [← hx] at x0 x1
      have htk := take_succ_gt hlt
      rw [← hx] at htk
      have HX := hidOf hx
      have HTK := hidOf htk
      clear hx htk hcell e0 e1
      have hfn : ((M.take k).filter (kp key)).length ≤ k := by have := HCT.out; omega
      by_cases hkk : x.k = key
      · have hb : (x.k == key) = true := beq_iff_eq.2 hkk
        have hfe : (M.take (k + 1)).filter (kp key) = (M.take k).filter (kp key) := by
          rw [HTK.out, List.filter_append]
          simp [kp, hkk]
        have HFE := hidOf hfe
        clear hkk hfe
        go_wp2
        go_roundw
        case rel => exact ⟨k + 1, cnt + 1, by go_num, by go_num, by omega, by omega, by rw [HFE.out]; exact hidOf (by have := HCT.out; omega), by rw [HFE.out]; exact HW⟩
        case measure => simp [intOf]; omega
      · have hb : (x.k == key) = false := beq_eq_false_iff_ne.2 hkk
        have hfe : (M.take (k + 1)).filter (kp key) = (M.take k).filter (kp key) ++ [x] := by
          rw [HTK.out, List.filter_append]
          simp [kp, hkk]
        have HFE := hidOf hfe
        clear hkk hfe
        go_wp2_with (at_builtin; refine wpList_append_own_at _ rfl (.tmp 29) (.tmp 37) 28 rfl 0 26 i0 (.agg #[.int .i64 0, .int .i64 0]) 2 16 Try.underlying28 HI.out HZ0.out HZ1.out HZ2.out rfl (by decide) u5 _ _ rfl (ownsRow_kept HW.out.1 (fun k hk => Below.heap_alloc wr _ k (ownsRow_lt HW.out.1 hk))) ⟨wr.heap.size, 0, none⟩ 1 1 [.int .i64 x.k, .int .i64 x.t] rfl rfl (fun j u hj => cell_news wr _ _ j u hj) (by intro u hu; simp at hu; rcases hu with rfl | rfl <;> rfl) (by unfold maxLen; omega) (by omega) (Nat.zero_le _) ?_; intro v3 w3 ho3 hg3 _ hat3; have H3 := hidOf (And.intro ho3 (And.intro hg3 hat3)); clear ho3 hg3 hat3)
        go_roundw
        case rel =>
          refine ⟨k + 1, cnt, by go_num, rfl, by omega, by omega, by rw [HFE.out, List.length_append]; exact hidOf (by have := HCT.out; simp; omega), ?_⟩
          rw [HFE.out, List.length_append, enP_append]
          refine hidOf ⟨H3.out.1, (HW.out.2.1.alloc HW.out.2.1.size _).grown H3.out.2.1 (Nat.le_trans HW.out.2.1.size (by simp)) HW.out.2.2, fun b hb => ?_⟩
          rcases H3.out.2.2 with e | e
          · exact HW.out.2.2 b (e ▸ hb)
          · rw [e] at hb; cases hb; exact Nat.le_trans HW.out.2.1.size (by simp)
        case measure => simp [intOf]; omega
    · obtain rfl : k = M.length := by omega
      have hltz : ¬ (M.length : Int) < (M.length : Int) := by omega
      obtain ⟨av, cv, c0, z0, _, _⟩ := HRr.out.cells
      have hres : (cnt : Int) = (M.length : Int) - ((M.filter (kp key)).length : Int) := by
        have := HCT.out
        rw [List.take_length] at this
        omega
      have HRS := hidOf hres
      have h5 := HW.out.1
      rw [List.take_length] at h5
      have H5 := hidOf h5
      obtain ⟨a5, c5, hv5⟩ : ∃ a5 c5, u5 = Value.slice a5 (M.filter (kp key)).length c5 := by
        rcases h5.2 with ⟨e, e2⟩ | ⟨g, cap, cur, e, _⟩
        · exact ⟨none, 0, by rw [e, e2]⟩
        · exact ⟨_, cap, e⟩
      clear h5
      subst hv5
      clear hres
      go_wp2
      go_ret
      rw [← HRS.out]
      have hq := H.out.lt.1
      obtain ⟨v0, hv0, _⟩ := HRr.out
      refine ⟨rfl, _, ⟨_, by rw [heap_setCell_same wr q 0 _ 30 _ hv0]; rfl, rfl, fun e => by have := HW.out.2.2 q e; omega, ?_⟩, ?_, HW.out.2.2⟩
      · exact ownsRow_kept H5.out (fun b hb => Below.heap_setCell wr ⟨q, 0, none⟩ _ b (by show b ≠ q; have := HW.out.2.2 b hb; omega))
      · exact ⟨HW.out.2.1.os, HW.out.2.1.tape, HW.out.2.1.output, by simpa using HW.out.2.1.size, fun b hb hbq => (Below.heap_setCell wr ⟨q, 0, none⟩ _ b hbq).trans (HW.out.2.1.block b hb)⟩

theorem row_drop {w W : World} {g : Nat} {M : List It} (hc : ∀ j u, (enP M)[j]? = some u → w.cell? ⟨g, j, none⟩ = some u) (hb : Below w.heap.size w W) (hg : g < w.heap.size) (a : Nat) : ∀ j u, (enP (M.drop a))[j]? = some u → W.cell? ((⟨g, a * 2, none⟩ : Addr).add j) = some u := by
  intro j u h
  rw [Addr.add_lit, hb.cell (p := ⟨g, a * 2 + j, none⟩) hg]
  refine hc _ _ (enP_part M a (M.drop a).length j u ?_)
  rw [List.take_length]
  exact h
theorem row_take {w W : World} {g : Nat} {M : List It} (hc : ∀ j u, (enP M)[j]? = some u → w.cell? ⟨g, j, none⟩ = some u) (hb : Below w.heap.size w W) (hg : g < w.heap.size) (a : Nat) : ∀ j u, (enP (M.take a))[j]? = some u → W.cell? ((⟨g, 0, none⟩ : Addr).add j) = some u := by
  intro j u h
  rw [Addr.add_lit, hb.cell (p := ⟨g, 0 + j, none⟩) hg]
  exact hc _ _ (enP_part M 0 a j u (by rw [List.drop_zero]; exact h))
theorem grown_none {D : Nat} {w W W2 : World} (h : Below D w W) (hg : W.grownBy W2 none) (hD : D ≤ W.heap.size) : Below D w W2 := h.grown hg hD (fun k hk => by cases hk)

theorem own_slice {w : World} {v : Value} {e n s : Nat} {xs : List Value} (h : w.ownsRow 0 e s v n xs) : ∃ a c, v = .slice a n c := by
  rcases h.2 with ⟨rfl, e⟩ | ⟨g, cap, cur, rfl, _⟩
  · exact ⟨none, 0, by rw [e]⟩
  · exact ⟨_, cap, rfl⟩
theorem rpop_end {w w2 w3 : World} {q s1 N : Nat} {M : List It} {m : It} {r : Option Nat} {v1 v2 : Value} {xs : List Value} (H : RefR w q M r) (HBx : Below w.heap.size w w2) (hs1 : w.heap.size < s1) (hs2 : s1 + 1 ≤ w2.heap.size) (hnw : ∀ k, v1.ownBlock = some k → s1 + 1 ≤ k) (hg : w2.grownBy w3 v1.ownBlock) (hat : v2.ownBlock = v1.ownBlock ∨ v2.ownBlock = some w2.heap.size)
    (ho : w3.ownsRow 0 26 2 v2 N xs) (hN : N = (M.erase m).length) (hxs : xs = enP (M.erase m)) (x y : Value) :
    RefR (((w3.setCell ⟨q, 0, none⟩ v2).setCell ⟨w.heap.size, 0, none⟩ x).setCell ⟨w.heap.size, 1, none⟩ y) q (M.erase m) v2.ownBlock ∧ RS w (((w3.setCell ⟨q, 0, none⟩ v2).setCell ⟨w.heap.size, 0, none⟩ x).setCell ⟨w.heap.size, 1, none⟩ y) q ∧ ∀ k, v2.ownBlock = some k → w.heap.size ≤ k := by
  obtain ⟨v0, hv0, _⟩ := H
  have hq := heap_lt hv0
  have e3 : ∀ k, k < s1 + 1 → w3.heap[k]? = w2.heap[k]? := fun k hk => hg.block k (Nat.lt_of_lt_of_le hk hs2) (fun e => by have := hnw k e.symm; omega)
  have hown : ∀ k, v2.ownBlock = some k → s1 + 1 ≤ k := fun k hk => by
    rcases hat with e | e
    · exact hnw k (e ▸ hk)
    · rw [e] at hk; cases hk; exact hs2
  have f3 : w3.heap[q]? = some (.cells #[v0] 30 (0, 0)) := (e3 q (by omega)).trans ((HBx.block q hq).trans hv0)
  have hoth : ∀ k, k ≠ q → k ≠ w.heap.size → (((w3.setCell ⟨q, 0, none⟩ v2).setCell ⟨w.heap.size, 0, none⟩ x).setCell ⟨w.heap.size, 1, none⟩ y).heap[k]? = w3.heap[k]? := fun k h1 h2 => by
    rw [Below.heap_setCell _ ⟨w.heap.size, 1, none⟩ _ k h2, Below.heap_setCell _ ⟨w.heap.size, 0, none⟩ _ k h2, Below.heap_setCell _ ⟨q, 0, none⟩ _ k h1]
  have hqn : q ≠ w.heap.size := by omega
  subst hN
  subst hxs
  refine ⟨⟨v2, ?_, rfl, fun e => by have := hown q e; omega, ownsRow_kept ho (fun k hk => hoth k (by have := hown k hk; omega) (by have := hown k hk; omega))⟩, ⟨hg.os.trans HBx.os, hg.tape.trans HBx.tape, hg.output.trans HBx.output, ?_, fun k hk hkq => (hoth k hkq (by omega)).trans ((e3 k (by omega)).trans (HBx.block k hk))⟩, fun k hk => by have := hown k hk; omega⟩
  · rw [Below.heap_setCell _ ⟨w.heap.size, 1, none⟩ _ q hqn, Below.heap_setCell _ ⟨w.heap.size, 0, none⟩ _ q hqn, heap_setCell_same w3 q 0 _ 30 _ f3]; rfl
  · have := hg.size
    have := HBx.size
    simp
    omega

end Go.Proofs.Ytmkbndiliehdcaa
