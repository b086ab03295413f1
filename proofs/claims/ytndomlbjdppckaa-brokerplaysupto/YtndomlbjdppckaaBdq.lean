/- Dequeue. -/
import Derived.Test.YtndomlbjdppckaaBack
namespace Go.Proofs.Ytndomlbjdppckaa
open Go.RowKit
variable {D : Nat}

/- a worker has it -/
def tkn (wk : Int) (x : Itm) : Itm := { x with tk := true, wk := wk, tc := 0, cn := x.cn + 1 }
def Min (L : List (Nat × Itm)) (i b : Nat) (x : Itm) : Prop := L[i]? = some (b, x) ∧ fr x = true ∧ ∀ z ∈ L, fr z.2 = true → klt z.2 x = false

theorem le_klt {a b : It} (h : le a b) : klt b.x a.x = false := by
  rw [klt_false]
  unfold le at h
  rw [klt_iff] at h
  omega
theorem HM.minOf {M : List It} {L : List (Nat × Itm)} (h : HM M L) (hn : (L.map (·.1)).Nodup) {m : It} (hm : MinOf M m) : ∃ i, Min L i m.p m.x := by
  obtain ⟨i, hi⟩ := List.mem_iff_getElem?.1 (h.sub m hm.1).1
  refine ⟨i, hi, (h.sub m hm.1).2, fun z hz hf => ?_⟩
  obtain ⟨a, ha, e⟩ := h.all z hz hf
  have h1 := le_klt (hm.2 a ha)
  obtain ⟨j, hj⟩ := List.mem_iff_getElem?.1 hz
  have := h.mem hn (b := z.1) (x := z.2) (i := j) hj ha e
  rw [this] at h1; exact h1
theorem HM.empty {M : List It} {L : List (Nat × Itm)} (h : HM M L) (hL : ∀ z ∈ L, fr z.2 = false) : M = [] := by
  cases M with
  | nil => rfl
  | cons a M =>
    have h1 := h.sub a (List.mem_cons_self ..)
    have h2 := hL _ h1.1
    rw [h1.2] at h2; cases h2
theorem HM.full {M : List It} {L : List (Nat × Itm)} (h : HM M L) {z : Nat × Itm} (hz : z ∈ L) (hf : fr z.2 = true) : M ≠ [] := by
  obtain ⟨a, ha, _⟩ := h.all z hz hf
  intro e; rw [e] at ha; cases ha

set_option maxHeartbeats 2000000 in
theorem deq_has (pB N K b : Nat) (x : Itm) (L : List (Nat × Itm)) (wk : Int) (w : World) (hB : Bk D w pB L N) (hF : FI (hbP wk) L K) (hx : L[K]? = some (b, x)) :
    Calls Try.prog 11 #[.pointer (some ⟨pB, 0, none⟩), .int .i64 wk] w fun e w' => e = .returned (.tuple #[zeV, .bool false]) ∧ Below w.heap.size w w' := by
  obtain ⟨v, pH, M, n, r, hL, hH, hM, hn⟩ := hB.ex
  have HC := hidOf (fun o => heldBy_any pB pH v L wk K (ptr b) (w.alloc o) (hL.grow (below1 w o)) hF (by rw [hx]; rfl))
  simp only [ptr] at HC
  have HB0 : Hid (∀ o : Obj, Below w.heap.size w (w.alloc o)) := hidOf (below1 w)
  clear hB hL hH hM hF hx
  go_enter Try.func11, Try.ntmps11
  go_wp2_with (go_at_call 29; refine (HC.out _).mono ?_; rintro e w1 ⟨rfl, hb1⟩; obtain ⟨hq, hql⟩ := box_keep hb1; obtain ⟨q0, q1, q2, q3, q4⟩ := box4 hq; have HB := hidOf ((HB0.out _).trans (hb1.mono (by simp))); clear hb1 hq)
  refine bodyPost_ret (results_cell4 Try.results11 _ _ w.heap.size (.int .i64 0) (.int .i64 0) (.int .i64 0) (.int .i64 0) (.bool false) rfl rfl ?_ ?_ ?_ ?_) rfl ?_
  all_goals (try (simp [go_sem, q0, q1, q2, q3]; done))
  refine ⟨rfl, ?_⟩
  exact (((HB.out.setCell (p := ⟨w.heap.size, 0, none⟩) (Nat.le_refl _) _).setCell (p := ⟨w.heap.size, 1, none⟩) (Nat.le_refl _) _).setCell (p := ⟨w.heap.size, 2, none⟩) (Nat.le_refl _) _).setCell (p := ⟨w.heap.size, 3, none⟩) (Nat.le_refl _) _

set_option maxHeartbeats 2000000 in
theorem deq_empty (pB N : Nat) (L : List (Nat × Itm)) (wk : Int) (w : World) (hB : Bk D w pB L N) (hF : FI (hbP wk) L L.length) (hE : ∀ z ∈ L, fr z.2 = false) :
    Calls Try.prog 11 #[.pointer (some ⟨pB, 0, none⟩), .int .i64 wk] w fun e w' => e = .returned (.tuple #[zeV, .bool false]) ∧ Below w.heap.size w w' := by
  obtain ⟨v, pH, M, n, r, hL, hH, hM, hn⟩ := hB.ex
  have hM0 := hM.empty hE
  subst hM0
  have HC := hidOf (fun o => heldBy_any pB pH v L wk L.length (.pointer none) (w.alloc o) (hL.grow (below1 w o)) hF (by simp))
  have HB0 : Hid (∀ o : Obj, Below w.heap.size w (w.alloc o)) := hidOf (below1 w)
  have HP := hidOf (fun (w1 : World) (hb : Below w.heap.size w w1) => pop_nil pH n r w1 (hH.h.grow hb))
  obtain ⟨-, c1, -, -⟩ := hL.cells
  simp only [ptr] at c1
  have hpl := heap_lt hL.blk
  clear hB hL hH hM hF
  go_enter Try.func11, Try.ntmps11
  go_wp2_with (first | (go_at_call 29; refine (HC.out _).mono ?_; rintro e w1 ⟨rfl, hb1⟩; obtain ⟨hq, hql⟩ := box_keep hb1; obtain ⟨q0, q1, q2, q3, q4⟩ := box4 hq; have hb2 : Below w.heap.size w w1 := (HB0.out _).trans (hb1.mono (by simp)); have d1 := (hb2.cell (p := ⟨pB, 1, none⟩) hpl).trans c1; have HB := hidOf hb2; clear hb1 hb2 hq c1) | (go_at_call 30; refine (HP.out _ HB.out).mono ?_; rintro e w2 ⟨rfl, h2⟩; subst w2))
  refine bodyPost_ret (results_cell4 Try.results11 _ _ w.heap.size (.int .i64 0) (.int .i64 0) (.int .i64 0) (.int .i64 0) (.bool false) rfl rfl ?_ ?_ ?_ ?_) rfl ?_
  all_goals (try (simp [go_sem, q0, q1, q2, q3]; done))
  refine ⟨rfl, ?_⟩
  exact (((HB.out.setCell (p := ⟨w.heap.size, 0, none⟩) (Nat.le_refl _) _).setCell (p := ⟨w.heap.size, 1, none⟩) (Nat.le_refl _) _).setCell (p := ⟨w.heap.size, 2, none⟩) (Nat.le_refl _) _).setCell (p := ⟨w.heap.size, 3, none⟩) (Nat.le_refl _) _

theorem FrT.setnew {T : List Nat} {a b : World} {q : Nat} (h : FrT D T a b) (hq : a.heap.size ≤ q) (j : Nat) (u : Value) : FrT D T a (b.setCell ⟨q, j, none⟩ u) :=
  ⟨h.os, h.tape, h.output, by simpa using h.size, fun k o hk ho => (Below.heap_setCell b ⟨q, j, none⟩ u k (by show k ≠ q; have := heap_lt hk; omega)).trans (h.block k o hk ho)⟩
theorem Bk.setnew {w : World} {pB N q : Nat} {L : List (Nat × Itm)} (h : Bk D w pB L N) {cs : Array Value} (hq : w.heap[q]? = some (.cells cs 42 (0, 0))) (j : Nat) (u : Value) : Bk D (w.setCell ⟨q, j, none⟩ u) pB L N :=
  h.keep (D' := 0) (T := [42]) (FrT.set (FrT.refl 0 _ w) hq (by decide) (Nat.zero_le _) j u) (by decide)

set_option maxHeartbeats 4000000 in
set_option maxRecDepth 100000 in
theorem deq_min (pB N : Nat) (L : List (Nat × Itm)) (wk : Int) (z : Nat × Itm) (w : World) (hB : Bk D w pB L N) (hF : FI (hbP wk) L L.length) (hz : z ∈ L) (hzf : fr z.2 = true) (hIv : Iv L) (hN : N ≤ 8796093022208) :
    Calls Try.prog 11 #[.pointer (some ⟨pB, 0, none⟩), .int .i64 wk] w fun e w' => ∃ i b x, Min L i b x ∧ e = .returned (.tuple #[evV x, .bool true]) ∧ Bk D w' pB (L.set i (b, tkn wk x)) N ∧ FrT D TP w w' := by
  obtain ⟨v, pH, M, n, r, hL, hH, hM, hn⟩ := hB.ex
  obtain ⟨m, hm⟩ := hH.h.min (hM.full hz hzf)
  obtain ⟨i, hmin⟩ := hM.minOf hL.nd hm
  obtain ⟨mp, x, mc⟩ := m
  have hi : L[i]? = some (mp, x) := hmin.1
  have HC := hidOf (fun o => heldBy_any pB pH v L wk L.length (.pointer none) (w.alloc o) (hL.grow (below1 w o)) hF (by simp))
  have HB0 : Hid (∀ o : Obj, Below w.heap.size w (w.alloc o)) := hidOf (below1 w)
  have HP := hidOf (fun (w1 : World) (hb : Below w.heap.size w w1) => hpop_min pH n M ⟨mp, x, mc⟩ r w1 (hH.grow hb) hm (hM.kn (hL.grow hb)) (by omega))
  obtain ⟨-, c1, -, -⟩ := hL.cells
  simp only [ptr] at c1
  have hpl := heap_lt hL.blk
  have hmpl : mp < w.heap.size := ItR.lt (hL.its _ (List.mem_of_getElem? hi))
  have hcn := (hIv _ (List.mem_of_getElem? hi)).c0
  have hcn3 := (hIv _ (List.mem_of_getElem? hi)).c3
  simp only at hcn hcn3
  have HL := hidOf hL
  have HHH := hidOf hH
  have HI := hidOf hi
  have HMIN := hidOf hmin
  have HHM := hidOf (hM.pop hL.nd hm.1 hi (y := tkn wk x) (by simp [fr, tkn]))
  clear hB hL hH hM hF hz hzf hi hmin hm hIv
  go_enter Try.func11, Try.ntmps11
  go_wp2_with (first | (go_at_call 29; refine (HC.out _).mono ?_; rintro e w1 ⟨rfl, hb1⟩; obtain ⟨hq, hql⟩ := box_keep hb1; have hb2 : Below w.heap.size w w1 := (HB0.out _).trans (hb1.mono (by simp)); have d1 := (hb2.cell (p := ⟨pB, 1, none⟩) hpl).trans c1; have HB := hidOf hb2; have HQ := hidOf hq; clear hb1 hb2 hq c1) | (go_at_call 30; refine (HP.out _ HB.out).mono ?_; rintro e w2 ⟨rfl, h21, h22⟩; have hf2 : FrT D [78, 82] w1 w2 := h22; have hL2 := (HL.out.grow HB.out).keepT hf2 (by decide) (by decide) (by decide); have hx2 := hL2.its _ (List.mem_of_getElem? HI.out); obtain ⟨x0, x1, x2, x3, x4, x5, x6, x7, x8⟩ := ItR.cells hx2; have zx := ItR.frozen hx2; have hq2 := hf2.cells HQ.out (by decide); obtain ⟨q0, q1, q2, q3, q4⟩ := box4 hq2; have hml2 := ItR.lt hx2; have hql2 := heap_lt hq2; have hne : mp ≠ w.heap.size := (by omega); have hne2 : w.heap.size ≠ mp := (by omega); have HL2 := hidOf hL2; have HF2 := hidOf hf2; have HR2 := hidOf h21; have HQ2 := hidOf hq2; have HX2 := hidOf hx2; clear h21 h22 hf2 hL2 hx2 hq2))
  have L1 := HL2.out.setc HI.out 6 (.bool true) (y := { x with tk := true }) rfl
  have L2 := L1.setc (get_set HI.out) 7 (.int .i64 wk) (y := { x with tk := true, wk := wk }) rfl
  have L3 := L2.setc (get_set (get_set HI.out)) 8 (.int .i64 0) (y := { x with tk := true, wk := wk, tc := 0 }) rfl
  have L4 := L3.setc (get_set (get_set (get_set HI.out))) 4 (.int .i64 (x.cn + 1)) (y := tkn wk x) rfl
  have F1 := HL2.out.frt (T := TP) (by decide) (FrT.refl _ _ _) HI.out 6 (.bool true)
  have F2 := L1.frt (by decide) F1 (get_set HI.out) 7 (.int .i64 wk)
  have F3 := L2.frt (by decide) F2 (get_set (get_set HI.out)) 8 (.int .i64 0)
  have F4 := L3.frt (by decide) F3 (get_set (get_set (get_set HI.out))) 4 (.int .i64 (x.cn + 1))
  have H1 := HR2.out.setc HX2.out 6 (.bool true)
  have H2 := H1.setc (L1.its _ (List.mem_of_getElem? (get_set HI.out))) 7 (.int .i64 wk)
  have H3 := H2.setc (L2.its _ (List.mem_of_getElem? (get_set (get_set HI.out)))) 8 (.int .i64 0)
  have H4 := H3.setc (L3.its _ (List.mem_of_getElem? (get_set (get_set (get_set HI.out))))) 4 (.int .i64 (x.cn + 1))
  simp only [set_set] at L4
  have F5 := (FrT.of_below (T := TP) HB.out).trans ((HF2.out.mono (T' := TP) (by decide)).trans F4)
  have Q4 := F4.cells HQ2.out (by decide)
  refine bodyPost_ret (results_cell4 Try.results11 _ _ w.heap.size (.int .i64 x.jb) (.int .i64 x.pr) (.int .i64 x.st) (.int .i64 x.ix) (.bool true) rfl rfl ?_ ?_ ?_ ?_) rfl ?_
  all_goals (try (simp [go_sem, q0, q1, q2, q3]; done))
  have B4 : Bk D _ pB (L.set i (mp, tkn wk x)) N := ⟨v, pH, _, n, r, L4, H4, HHM.out, hn⟩
  refine ⟨i, mp, x, HMIN.out, rfl, ?_, ?_⟩
  · exact (((B4.setnew Q4 0 _).setnew (heap_setCell_same _ _ 0 _ 42 _ Q4) 1 _).setnew (heap_setCell_same _ _ 1 _ 42 _ (heap_setCell_same _ _ 0 _ 42 _ Q4)) 2 _).setnew (heap_setCell_same _ _ 2 _ 42 _ (heap_setCell_same _ _ 1 _ 42 _ (heap_setCell_same _ _ 0 _ 42 _ Q4))) 3 _
  · exact (((F5.setnew (Nat.le_refl _) 0 _).setnew (Nat.le_refl _) 1 _).setnew (Nat.le_refl _) 2 _).setnew (Nat.le_refl _) 3 _

end Go.Proofs.Ytndomlbjdppckaa
