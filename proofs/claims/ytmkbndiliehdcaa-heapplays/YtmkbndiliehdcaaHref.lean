/- The document's heap: a list of pairs in the order in which they came. -/
import Derived.Test.YtmkbndiliehdcaaHrmv
namespace Go.Proofs.Ytmkbndiliehdcaa
open Go.RowKit

def enP1 (a : It) : List Value := [.int .i64 a.k, .int .i64 a.t]
def enP (L : List It) : List Value := L.flatMap enP1
theorem enP_length (L : List It) : (enP L).length = L.length * 2 := by
  induction L with
  | nil => rfl
  | cons a L ih => simp only [enP, List.flatMap_cons, List.length_append, List.length_cons] at ih ⊢; rw [ih]; simp [enP1]; omega
theorem enP_append (L L2 : List It) : enP (L ++ L2) = enP L ++ enP L2 := by simp [enP]
theorem enP_get (L : List It) : ∀ i, i < L.length → (enP L)[i * 2]? = some (.int .i64 (gt L i).k) ∧ (enP L)[i * 2 + 1]? = some (.int .i64 (gt L i).t) := by
  induction L with
  | nil => intro i h; simp at h
  | cons a L ih =>
    intro i h
    cases i with
    | zero => simp [enP, enP1, gt]
    | succ i =>
      have := ih i (by simpa using h)
      have e : enP (a :: L) = enP1 a ++ enP L := by simp [enP]
      have e2 : gt (a :: L) (i + 1) = gt L i := by simp [gt]
      have l3 : (enP1 a).length = 2 := rfl
      rw [e, e2, List.getElem?_append_right (by rw [l3]; omega), List.getElem?_append_right (by rw [l3]; omega), l3, show (i + 1) * 2 - 2 = i * 2 by omega, show (i + 1) * 2 + 1 - 2 = i * 2 + 1 by omega]
      exact this
/- the document's heap in block q -/
def RefR (w : World) (q : Nat) (M : List It) (r : Option Nat) : Prop :=
  ∃ v, w.heap[q]? = some (.cells #[v] 30 (0, 0)) ∧ v.ownBlock = r ∧ r ≠ some q ∧ w.ownsRow 0 26 2 v M.length (enP M)
theorem RefR.kept {w w' : World} {q : Nat} {M : List It} {r : Option Nat} (h : RefR w q M r) (hq : w'.heap[q]? = w.heap[q]?) (hb : ∀ k, r = some k → w'.heap[k]? = w.heap[k]?) : RefR w' q M r := by
  obtain ⟨v, h1, rfl, h2, h3⟩ := h
  exact ⟨v, hq.trans h1, rfl, h2, ownsRow_kept h3 hb⟩
theorem RefR.lt {w : World} {q : Nat} {M : List It} {r : Option Nat} (h : RefR w q M r) : q < w.heap.size ∧ ∀ k, r = some k → k < w.heap.size := by
  obtain ⟨v, h1, rfl, _, h3⟩ := h
  exact ⟨heap_lt h1, fun k hk => ownsRow_lt h3 hk⟩
theorem RefR.grow {w w' : World} {q : Nat} {M : List It} {r : Option Nat} (h : RefR w q M r) (hb : Below w.heap.size w w') : RefR w' q M r :=
  h.kept (hb.block q h.lt.1) (fun k hk => hb.block k (h.lt.2 k hk))
theorem RefR.cells {w : World} {q : Nat} {M : List It} {r : Option Nat} (h : RefR w q M r) : ∃ a cap, w.cell? ⟨q, 0, none⟩ = some (.slice a M.length cap) ∧ w.frozen? ⟨q, 0, none⟩ = false ∧ M.length ≤ cap ∧ (M ≠ [] → ∃ g, a = some ⟨g, 0, none⟩ ∧ r = some g ∧ ∀ i, i < M.length → w.cell? ⟨g, i * 2, none⟩ = some (.int .i64 (gt M i).k) ∧ w.cell? ⟨g, i * 2 + 1, none⟩ = some (.int .i64 (gt M i).t)) := by
  obtain ⟨v, h1, rfl, h2, h3⟩ := h
  have c0 : w.cell? ⟨q, 0, none⟩ = some v := by rw [cell_of_row w q 0 _ 30 (0, 0) h1]; rfl
  have z0 : w.frozen? ⟨q, 0, none⟩ = false := by simp [World.frozen?, h1]
  rcases h3.2 with ⟨rfl, e⟩ | ⟨g, cap, cur, rfl, _, h4, h5, h6, h7, h8⟩
  · exact ⟨none, 0, by rw [c0, e], z0, by omega, fun hne => absurd (List.eq_nil_of_length_eq_zero e) hne⟩
  · refine ⟨_, cap, c0, z0, h5, fun _ => ⟨g, rfl, rfl, fun i hi => ?_⟩⟩
    obtain ⟨g0, g1⟩ := enP_get M i hi
    rw [cell_of_row w g _ cur 26 (0, 0) h4, cell_of_row w g _ cur 26 (0, 0) h4]
    rw [← h8, List.getElem?_take, if_pos (by omega), Array.getElem?_toList] at g0 g1
    exact ⟨g0, g1⟩
theorem refR_new (w : World) : RefR (w.alloc (.cells #[.slice none 0 0] 30)) w.heap.size [] none :=
  ⟨.slice none 0 0, heap_alloc_new w _, rfl, by simp, rfl, .inl ⟨rfl, rfl⟩⟩

/- the first least one among the first i -/
structure LI (M : List It) (i a : Nat) : Prop where
  lt : a < i
  le : ∀ j, j < i → (gt M a).k ≤ (gt M j).k
  ne : ∀ j, j < a → (gt M a).k < (gt M j).k
theorem LI.one (M : List It) : LI M 1 0 := ⟨by omega, fun j hj => by have : j = 0 := by omega
                                                                     subst this; exact Int.le_refl _, fun j hj => by omega⟩
theorem LI.turn {M : List It} {i a : Nat} (h : LI M i a) (hk : (gt M i).k < (gt M a).k) : LI M (i + 1) i := by
  refine ⟨by omega, fun j hj => ?_, fun j hj => ?_⟩
  · by_cases e : j = i
    · subst e; exact Int.le_refl _
    · have := h.le j (by omega); omega
  · have := h.le j hj; omega
theorem LI.keep {M : List It} {i a : Nat} (h : LI M i a) (hk : ¬ (gt M i).k < (gt M a).k) : LI M (i + 1) a := by
  refine ⟨by have := h.lt; omega, fun j hj => ?_, h.ne⟩
  by_cases e : j = i
  · subst e; omega
  · exact h.le j (by omega)
theorem Came.idx {M : List It} (h : Came M) {i j : Nat} (hij : i < j) (hj : j < M.length) : (gt M i).c < (gt M j).c := by
  rw [gt_eq (by omega), gt_eq hj]
  exact List.pairwise_iff_getElem.1 h i j (by omega) hj hij
theorem LI.min {M : List It} {a : Nat} (h : LI M M.length a) (hc : Came M) : MinOf M (gt M a) := by
  refine ⟨gt_mem h.lt, fun y hy => ?_⟩
  obtain ⟨j, hj, rfl⟩ := mem_gt hy
  have h1 := h.le j hj
  by_cases e : (gt M a).k < (gt M j).k
  · exact .inl e
  · refine .inr ⟨by omega, ?_⟩
    have hja : ¬ j < a := fun hja => by have := h.ne j hja; omega
    by_cases e2 : a = j
    · subst e2; exact Int.le_refl _
    · exact Int.le_of_lt (hc.idx (by omega) hj)
theorem Came.pos {M : List It} (h : Came M) {i j : Nat} (hi : i < M.length) (hj : j < M.length) (e : gt M i = gt M j) : i = j := by
  by_cases h1 : i < j
  · have := h.idx h1 hj; rw [e] at this; omega
  · by_cases h2 : j < i
    · have := h.idx h2 hi; rw [e] at this; omega
    · omega

set_option maxHeartbeats 4000000 in
set_option maxRecDepth 100000 in
theorem least_min (q : Nat) (M : List It) (r : Option Nat) (a : Nat) (w : World) (h : RefR w q M r) (hc : Came M) (ha : a < M.length) (hm : MinOf M (gt M a)) (hlm : M.length ≤ 1000000000000000) : Calls Try.prog 25 #[.pointer (some ⟨q, 0, none⟩)] w fun e w' => e = .returned (.int .i64 (a : Int)) ∧ Below w.heap.size w w' := by
  have H := hidOf h
  have HC := hidOf hc
  have HM := hidOf hm
  have hM0 : M ≠ [] := fun e => by subst e; simp at ha
  clear h hc hm
  go_enter Try.func25, Try.ntmps25
  go_wp2
  go_loopw [3, 4] (fun s i wr => ∃ (k : Nat), i = .int .i64 (k : Int) ∧ k ≤ M.length ∧ Hid (Below w.heap.size w wr) ∧ ((k = 0 ∧ s = .int .i64 (-1)) ∨ ∃ b : Nat, s = .int .i64 (b : Int) ∧ b < k ∧ Hid (LI M k b))) (fun _ i _ => M.length - (intOf i).toNat)
  case atStart => exact ⟨0, rfl, Nat.zero_le _, hidOf (Below.refl _ _), .inl ⟨rfl, rfl⟩⟩
  case round =>
    obtain ⟨k, rfl, hk, HB, hs⟩ := hrel
    obtain ⟨av, cv, c0, _, _, hcs⟩ := (H.out.grow HB.out).cells
    obtain ⟨g, rfl, _, hcell⟩ := hcs hM0
    by_cases hlt : k < M.length
    · have hltz : (k : Int) < (M.length : Int) := by omega
      obtain ⟨x0, _⟩ := hcell k hlt
      rcases hs with ⟨rfl, rfl⟩ | ⟨b, rfl, hbk, HL⟩
      · clear hcell
        go_wp2
        go_quiet (fail)
        go_wp2
        go_roundw
        case rel => exact ⟨0 + 1, by go_num, by omega, hidOf (HB.out.trans ⟨rfl, rfl, rfl, Nat.le_refl _, fun _ _ => rfl⟩), .inr ⟨0, by go_num, by omega, hidOf (LI.one M)⟩⟩
        case measure => simp [intOf]; omega
      · obtain ⟨y0, _⟩ := hcell b (by omega)
        have hbz : (b : Int) < (M.length : Int) := by omega
        have hd : decide ((b : Int) < 0) = false := decide_eq_false (by omega)
        obtain ⟨xk, hxk⟩ : ∃ x, x = (gt M k).k := ⟨_, rfl⟩
        obtain ⟨yk, hyk⟩ : ∃ y, y = (gt M b).k := ⟨_, rfl⟩
        rw [← hxk] at x0
        rw [← hyk] at y0
        have HX := hidOf hxk
        have HY := hidOf hyk
        clear hcell hxk hyk
        by_cases hxy : xk < yk
        · go_wp2
          go_quiet (fail)
          go_wp2
          go_roundw
          case rel => exact ⟨k + 1, by go_num, by omega, hidOf (HB.out.trans ⟨rfl, rfl, rfl, Nat.le_refl _, fun _ _ => rfl⟩), .inr ⟨k, by go_num, by omega, hidOf (HL.out.turn (by rw [← HX.out, ← HY.out]; exact hxy))⟩⟩
          case measure => simp [intOf]; omega
        · go_wp2
          go_quiet (fail)
          go_wp2
          go_roundw
          case rel => exact ⟨k + 1, by go_num, by omega, hidOf (HB.out.trans ⟨rfl, rfl, rfl, Nat.le_refl _, fun _ _ => rfl⟩), .inr ⟨b, by go_num, by omega, hidOf (HL.out.keep (by rw [← HX.out, ← HY.out]; omega))⟩⟩
          case measure => simp [intOf]; omega
    · have hltz : ¬ (k : Int) < (M.length : Int) := by omega
      obtain rfl : k = M.length := by omega
      rcases hs with ⟨e, _⟩ | ⟨b, rfl, hbk, HL⟩
      · omega
      · have hba : b = a := HC.out.pos HL.out.lt ha (MinOf.unique HC.out (HL.out.min HC.out) HM.out)
        subst hba
        clear hcell
        go_wp2
        go_ret
        exact ⟨rfl, HB.out⟩

set_option maxHeartbeats 4000000 in
theorem least_nil (q : Nat) (r : Option Nat) (w : World) (h : RefR w q [] r) : Calls Try.prog 25 #[.pointer (some ⟨q, 0, none⟩)] w fun e w' => e = .returned (.int .i64 (-1)) ∧ w' = w := by
  obtain ⟨av, cv, c0, _⟩ := h.cells
  simp only [List.length_nil] at c0
  clear h
  go_enter Try.func25, Try.ntmps25
  go_wp2
  go_loopw [3, 4] (fun s i wr => s = .int .i64 (-1) ∧ i = .int .i64 0 ∧ wr = w) (fun _ _ _ => 0)
  case atStart => exact ⟨rfl, rfl, rfl⟩
  case round =>
    obtain ⟨rfl, rfl, rfl⟩ := hrel
    go_wp2
    go_ret
    exact ⟨rfl, rfl⟩

set_option maxHeartbeats 4000000 in
set_option maxRecDepth 100000 in
theorem rpeek_min (q : Nat) (M : List It) (r : Option Nat) (m : It) (w : World) (h : RefR w q M r) (hc : Came M) (hm : MinOf M m) (hlm : M.length ≤ 1000000000000000) : Calls Try.prog 17 #[.pointer (some ⟨q, 0, none⟩)] w fun e w' => e = .returned (.tuple #[.agg #[.int .i64 m.k, .int .i64 m.t], .bool true]) ∧ Below w.heap.size w w' := by
  obtain ⟨a, ha, rfl⟩ := mem_gt hm.1
  have hB : ∀ o : Obj, Below w.heap.size w (w.alloc o) := fun o => (Below.refl w.heap.size w).alloc (Nat.le_refl _) o
  have hls := fun o : Obj => least_min q M r a (w.alloc o) (h.grow (hB o)) hc ha hm hlm
  have HLS := hidOf hls
  have H := hidOf h
  have hM0 : M ≠ [] := fun e => by subst e; simp at ha
  have haz : (a : Int) < (M.length : Int) := by omega
  have hnz : ¬ (a : Int) < 0 := by omega
  obtain ⟨m, hm2⟩ : ∃ m, m = gt M a := ⟨_, rfl⟩
  rw [← hm2]
  have HM2 := hidOf hm2
  clear hls h hc hm hm2
  go_enter Try.func17, Try.ntmps17
  go_wp2_with (go_at_call 25; refine (HLS.out _).mono ?_; rintro e w1 ⟨rfl, hb1⟩; obtain ⟨av, cv, c0, _, _, hcs⟩ := ((H.out.grow (hB _)).grow hb1).cells; obtain ⟨g, rfl, _, hcell⟩ := hcs hM0; obtain ⟨x0, x1⟩ := hcell a ha; rw [← HM2.out] at x0 x1; obtain ⟨y0, y1, y2, y3⟩ := res_cells (res_keep hb1).1; have HB1 := hidOf hb1; clear hb1 hcs hcell)
  refine bodyPost_ret (results_pair Try.results17 _ _ w.heap.size (.int .i64 m.k) (.int .i64 m.t) (.bool true) rfl rfl ?_ ?_) rfl ?_
  · simp [go_sem, y0]
  · simp [go_sem, y1]
  refine ⟨rfl, ?_⟩
  exact Below.setCell (Below.setCell ((hB _).trans (HB1.out.mono (by simp))) (p := ⟨w.heap.size, 0, none⟩) (Nat.le_refl _) _) (p := ⟨w.heap.size, 1, none⟩) (Nat.le_refl _) _
set_option maxHeartbeats 4000000 in
set_option maxRecDepth 100000 in
theorem rpeek_nil (q : Nat) (r : Option Nat) (w : World) (h : RefR w q [] r) : Calls Try.prog 17 #[.pointer (some ⟨q, 0, none⟩)] w fun e w' => e = .returned (.tuple #[.agg #[.int .i64 0, .int .i64 0], .bool false]) ∧ Below w.heap.size w w' := by
  have hB : ∀ o : Obj, Below w.heap.size w (w.alloc o) := fun o => (Below.refl w.heap.size w).alloc (Nat.le_refl _) o
  have HLS := hidOf (fun o : Obj => least_nil q r (w.alloc o) (h.grow (hB o)))
  clear h
  go_enter Try.func17, Try.ntmps17
  go_wp2_with (go_at_call 25; refine (HLS.out _).mono ?_; rintro e w1 ⟨rfl, rfl⟩)
  refine bodyPost_ret (results_pair Try.results17 _ _ w.heap.size (.int .i64 0) (.int .i64 0) (.bool false) rfl rfl (by simp [go_sem]) (by simp [go_sem])) rfl ?_
  exact ⟨rfl, hB _⟩

theorem info26 : (Try.prog.info? 26).map (fun i => (i.zero, i.size, i.bytes)) = some (some (.agg #[.int .i64 0, .int .i64 0]), 2, 16) := by kernel_rfl
/- what a call of the document's heap leaves -/
theorem ref_push_end {w w2 w3 : World} {q g3 c3 : Nat} {M : List It} {v : Value} {k t c : Int} (hB : Below w.heap.size w w2) (hG : w2.grownBy w3 v.ownBlock) (hw : (Value.slice (some ⟨g3, 0, none⟩) (M.length + 1) c3).ownBlock = v.ownBlock ∨ (Value.slice (some ⟨g3, 0, none⟩) (M.length + 1) c3).ownBlock = some w2.heap.size) (h1 : w.heap[q]? = some (.cells #[v] 30 (0, 0))) (h2 : v.ownBlock ≠ some q)
    (ho : w3.ownsRow 0 26 2 (.slice (some ⟨g3, 0, none⟩) (M.length + 1) c3) (M.length + 1) (enP M ++ [.int .i64 k, .int .i64 t])) : RefR (w3.setCell ⟨q, 0, none⟩ (.slice (some ⟨g3, 0, none⟩) (M.length + 1) c3)) q (M ++ [⟨k, t, c⟩]) (some g3) ∧ NS w (w3.setCell ⟨q, 0, none⟩ (.slice (some ⟨g3, 0, none⟩) (M.length + 1) c3)) q v.ownBlock (some g3) := by
  have hl := heap_lt h1
  have hqg : q ≠ g3 := by
    intro e
    rcases hw with e2 | e2
    · exact h2 (by rw [← e2, e]; rfl)
    · have e3 : g3 = w2.heap.size := by cases e2; rfl
      have := hB.size
      omega
  have f3 : w3.heap[q]? = some (.cells #[v] 30 (0, 0)) := ((hG.block q (Nat.lt_of_lt_of_le hl hB.size) (fun e => h2 e.symm)).trans (hB.block q hl)).trans h1
  refine ⟨⟨_, by rw [heap_setCell_same w3 q 0 _ 30 _ f3]; rfl, rfl, fun e => hqg (Option.some.inj e).symm, ?_⟩, ?_⟩
  · have e1 : (M ++ [(⟨k, t, c⟩ : It)]).length = M.length + 1 := by simp
    rw [e1, enP_append]
    exact ownsRow_kept ho (fun k hk => Below.heap_setCell w3 ⟨q, 0, none⟩ _ k (fun e => hqg (by cases hk; exact e.symm)))
  · refine NS.setp ⟨hG.os.trans hB.os, hG.tape.trans hB.tape, hG.output.trans hB.output, Nat.le_trans hB.size hG.size, fun k hk _ hr => (hG.block k (Nat.lt_of_lt_of_le hk hB.size) hr).trans (hB.block k hk), ?_⟩ 0 _
    rcases hw with e | e
    · exact .inl e
    · exact .inr ⟨g3, rfl, by cases e; exact hB.size⟩

set_option maxHeartbeats 4000000 in
set_option maxRecDepth 100000 in
theorem rpush_any (q : Nat) (M : List It) (r : Option Nat) (k t c : Int) (w : World) (h : RefR w q M r) (hn : M.length < 5864062014805) : Calls Try.prog 11 #[.pointer (some ⟨q, 0, none⟩), .agg #[.int .i64 k, .int .i64 t]] w fun e w' => e = .returned (.tuple #[]) ∧ ∃ r', RefR w' q (M ++ [⟨k, t, c⟩]) r' ∧ NS w w' q r r' := by
  obtain ⟨v, h1, rfl, h2, h3⟩ := h
  have c0 : w.cell? ⟨q, 0, none⟩ = some v := by rw [cell_of_row w q 0 _ 30 (0, 0) h1]; rfl
  have hl := heap_lt h1
  obtain ⟨i0, hi0, hz0, hz1, hz2⟩ := info_parts info26
  have HI := hidOf hi0
  have HZ0 := hidOf hz0
  have HZ1 := hidOf hz1
  have HZ2 := hidOf hz2
  have H1 := hidOf h1
  have H3 := hidOf h3
  have hB2 : ∀ o o2 : Obj, Below w.heap.size w ((w.alloc o).alloc o2) := fun o o2 => below2 w o o2
  have d0 : ∀ o : Obj, (w.alloc o).cell? ⟨q, 0, none⟩ = some v := fun o => (((Below.refl w.heap.size w).alloc (Nat.le_refl _) o).cell (p := ⟨q, 0, none⟩) hl).trans c0
  clear hi0 hz0 hz1 hz2 h1 h3 c0
  go_enter Try.func11, Try.ntmps11
  go_wp2
  go_region_law (first | (refine step_app _ rfl (.tmp 8) (.tmp 10) 28 rfl 0 26 i0 (.agg #[.int .i64 0, .int .i64 0]) 2 16 Try.underlying28 HI.out HZ0.out HZ1.out HZ2.out rfl (by decide) v M.length (enP M) rfl (ownsRow_kept H3.out (fun k hk => (hB2 _ _).block k (ownsRow_lt H3.out hk))) ⟨w.heap.size + 1, 0, none⟩ 1 1 [.int .i64 k, .int .i64 t] rfl rfl (fun j u hj => news2 w _ _ _ j u hj) (by intro u hu; simp at hu; rcases hu with rfl | rfl <;> rfl) (by unfold maxLen; omega) (by omega) (Nat.zero_le _) ?_; intro v3 w3 ho3 hg3 hw3; obtain ⟨g3, c3, rfl⟩ := row_slice ho3; have HO3 := hidOf ho3; have HG3 := hidOf hg3; have HW3 := hidOf hw3; clear ho3 hg3 hw3; have f3 : w3.heap[q]? = some (.cells #[v] 30 (0, 0)) := ((HG3.out.block q (Nat.lt_of_lt_of_le hl (hB2 _ _).size) (fun e => h2 e.symm)).trans ((hB2 _ _).block q hl)).trans H1.out; have d3 : w3.cell? ⟨q, 0, none⟩ = some v := (by rw [cell_of_row w3 q 0 _ 30 (0, 0) f3]; rfl); have z3 : w3.frozen? ⟨q, 0, none⟩ = false := (by simp [World.frozen?, f3]); clear f3))
  all_goals (
    have HE := hidOf (ref_push_end (c := c) (hB2 _ _).drew HG3.out HW3.out H1.out h2 HO3.out)
    go_wp2
    go_end0
    exact ⟨rfl, some g3, HE.out.1, HE.out.2⟩)

end Go.Proofs.Ytmkbndiliehdcaa
