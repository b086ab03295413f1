/- Held, Len. -/
import Derived.Test.YtndomlbjdppckaaBfn
namespace Go.Proofs.Ytndomlbjdppckaa
open Go.RowKit
variable {D : Nat}

theorem results_cell4 {fn : Func} {p u : Tmp} (h : fn.results = #[.cell p 42, .tmp u]) (tmps : Array Value) (w : World) (b : Nat) (c0 c1 c2 c3 v : Value) (hp : tmps.getD p undef = .pointer (some ⟨b, 0, none⟩)) (hu : tmps.getD u undef = v) (h0 : w.cell? ⟨b, 0, none⟩ = some c0) (h1 : w.cell? ⟨b, 1, none⟩ = some c1) (h2 : w.cell? ⟨b, 2, none⟩ = some c2) (h3 : w.cell? ⟨b, 3, none⟩ = some c3) :
    (results fn tmps).run Try.prog w = .ok (.tuple #[.agg #[c0, c1, c2, c3], v]) w := by
  rw [results_cell_tmp h, hp, hu]
  have e0 : (⟨b, 0, none⟩ : Addr).add 0 = ⟨b, 0, none⟩ := rfl
  have e1 : (⟨b, 0, none⟩ : Addr).add 1 = ⟨b, 1, none⟩ := rfl
  have e2 : (⟨b, 0, none⟩ : Addr).add 2 = ⟨b, 2, none⟩ := rfl
  have e3 : (⟨b, 0, none⟩ : Addr).add 3 = ⟨b, 3, none⟩ := rfl
  simp [go_sem, loadVar, Try.isAgg42, Try.sizeOf42, loadCellsFrom, h0, h1, h2, h3]

theorem below1 (w : World) (o : Obj) : Below w.heap.size w (w.alloc o) := (Below.refl _ w).alloc (Nat.le_refl _) _
/- the box of a result, behind calls that made blocks -/
theorem box_keep {w w1 : World} {cs : Array Value} {t : Nat} (hb : Below (w.alloc (.cells cs t)).heap.size (w.alloc (.cells cs t)) w1) : w1.heap[w.heap.size]? = some (.cells cs t (0, 0)) ∧ w.heap.size < w1.heap.size := by
  have hs := hb.size
  rw [World.size_alloc] at hs
  exact ⟨(hb.block _ (by simp)).trans (heap_alloc_new w _), by omega⟩
theorem box4 {w : World} {q : Nat} {a b c d : Value} (h : w.heap[q]? = some (.cells #[a, b, c, d] 42 (0, 0))) : w.cell? ⟨q, 0, none⟩ = some a ∧ w.cell? ⟨q, 1, none⟩ = some b ∧ w.cell? ⟨q, 2, none⟩ = some c ∧ w.cell? ⟨q, 3, none⟩ = some d ∧ ∀ j, w.frozen? ⟨q, j, none⟩ = false := by
  refine ⟨?_, ?_, ?_, ?_, fun j => ?_⟩
  · rw [cell_of_row w q 0 _ 42 (0, 0) h]; rfl
  · rw [cell_of_row w q 1 _ 42 (0, 0) h]; rfl
  · rw [cell_of_row w q 2 _ 42 (0, 0) h]; rfl
  · rw [cell_of_row w q 3 _ 42 (0, 0) h]; rfl
  · simp [World.frozen?, h]

set_option maxHeartbeats 2000000 in
theorem held_none (pB pH : Nat) (v : Value) (L : List (Nat × Itm)) (wk : Int) (w : World) (hL : Lst D w pB pH v L) (hF : FI (hbP wk) L L.length) :
    Calls Try.prog 19 #[.pointer (some ⟨pB, 0, none⟩), .int .i64 wk] w fun e w' => e = .returned (.tuple #[zeV, .bool false]) ∧ Below w.heap.size w w' := by
  have HB0 : Hid (∀ o : Obj, Below w.heap.size w (w.alloc o)) := hidOf (below1 w)
  have HC := hidOf (fun o => heldBy_any pB pH v L wk L.length (.pointer none) (w.alloc o) (hL.grow (HB0.out o)) hF (by simp))
  clear hL hF
  go_enter Try.func19, Try.ntmps19
  go_wp2_with (go_at_call 29; refine (HC.out _).mono ?_; rintro e w1 ⟨rfl, hb1⟩; obtain ⟨hq, hql⟩ := box_keep hb1; obtain ⟨q0, q1, q2, q3, q4⟩ := box4 hq; have HB := hidOf ((HB0.out _).trans (hb1.mono (by simp))); clear hb1 hq)
  refine bodyPost_ret (results_cell4 Try.results19 _ _ w.heap.size (.int .i64 0) (.int .i64 0) (.int .i64 0) (.int .i64 0) (.bool false) rfl rfl ?_ ?_ ?_ ?_) rfl ?_
  all_goals (try (simp [go_sem, q0, q1, q2, q3]; done))
  refine ⟨rfl, ?_⟩
  exact (((HB.out.setCell (p := ⟨w.heap.size, 0, none⟩) (Nat.le_refl _) _).setCell (p := ⟨w.heap.size, 1, none⟩) (Nat.le_refl _) _).setCell (p := ⟨w.heap.size, 2, none⟩) (Nat.le_refl _) _).setCell (p := ⟨w.heap.size, 3, none⟩) (Nat.le_refl _) _

set_option maxHeartbeats 2000000 in
theorem held_some (pB pH : Nat) (v : Value) (L : List (Nat × Itm)) (wk : Int) (K b : Nat) (x : Itm) (w : World) (hL : Lst D w pB pH v L) (hF : FI (hbP wk) L K) (hx : L[K]? = some (b, x)) :
    Calls Try.prog 19 #[.pointer (some ⟨pB, 0, none⟩), .int .i64 wk] w fun e w' => e = .returned (.tuple #[evV x, .bool true]) ∧ Below w.heap.size w w' := by
  have HB0 : Hid (∀ o : Obj, Below w.heap.size w (w.alloc o)) := hidOf (below1 w)
  have hi := hL.its _ (List.mem_of_getElem? hx)
  have hbl : b < w.heap.size := ItR.lt hi
  obtain ⟨x0, x1, x2, x3, -⟩ := ItR.cells hi
  have HC := hidOf (fun o => heldBy_any pB pH v L wk K (ptr b) (w.alloc o) (hL.grow (HB0.out o)) hF (by rw [hx]; rfl))
  simp only [ptr] at HC
  clear hL hF hx hi
  go_enter Try.func19, Try.ntmps19
  go_wp2_with (go_at_call 29; refine (HC.out _).mono ?_; rintro e w1 ⟨rfl, hb1⟩; obtain ⟨hq, hql⟩ := box_keep hb1; obtain ⟨q0, q1, q2, q3, q4⟩ := box4 hq; have hb2 : Below w.heap.size w w1 := (HB0.out _).trans (hb1.mono (by simp)); have y0 := (hb2.cell (p := ⟨b, 0, none⟩) hbl).trans x0; have y1 := (hb2.cell (p := ⟨b, 1, none⟩) hbl).trans x1; have y2 := (hb2.cell (p := ⟨b, 2, none⟩) hbl).trans x2; have y3 := (hb2.cell (p := ⟨b, 3, none⟩) hbl).trans x3; have HB := hidOf hb2; clear hb1 hb2 hq x0 x1 x2 x3)
  refine bodyPost_ret (results_cell4 Try.results19 _ _ w.heap.size (.int .i64 x.jb) (.int .i64 x.pr) (.int .i64 x.st) (.int .i64 x.ix) (.bool true) rfl rfl ?_ ?_ ?_ ?_) rfl ?_
  all_goals (try (simp [go_sem, q0, q1, q2, q3]; done))
  refine ⟨rfl, ?_⟩
  exact (((HB.out.setCell (p := ⟨w.heap.size, 0, none⟩) (Nat.le_refl _) _).setCell (p := ⟨w.heap.size, 1, none⟩) (Nat.le_refl _) _).setCell (p := ⟨w.heap.size, 2, none⟩) (Nat.le_refl _) _).setCell (p := ⟨w.heap.size, 3, none⟩) (Nat.le_refl _) _

set_option maxHeartbeats 400000 in
theorem len_any (pB pH : Nat) (v : Value) (L : List (Nat × Itm)) (w : World) (hL : Lst D w pB pH v L) :
    Calls Try.prog 21 #[.pointer (some ⟨pB, 0, none⟩)] w fun e w' => e = .returned (.int .i64 L.length) ∧ w' = w := by
  obtain ⟨c0, -⟩ := hL.cells
  obtain ⟨a, cap, rfl, -⟩ := hL.slice
  clear hL
  go_enter Try.func21, Try.ntmps21
  go_wp2
  go_ret
  exact ⟨rfl, rfl⟩

set_option maxHeartbeats 400000 in
theorem hnew_any (w : World) : Calls Try.prog 23 #[] w fun e w' => e = .returned (ptr w.heap.size) ∧ w' = w.alloc (.cells #[.slice none 0 0, .int .i64 0] 78) := new_any w
theorem HM.nil : HM [] [] := ⟨(fun a ha => absurd ha (by simp)), (fun a ha => absurd ha (by simp)), List.nodup_nil⟩
set_option maxHeartbeats 400000 in
theorem bnew_any (w : World) (hD : D ≤ w.heap.size) : Calls Try.prog 7 #[] w fun e w' => ∃ p, e = .returned (ptr p) ∧ w.heap.size ≤ p ∧ Bk D w' p [] 0 ∧ Below w.heap.size w w' := by
  have HC := hidOf (hnew_any w)
  simp only [ptr] at HC
  go_enter Try.func7, Try.ntmps7
  go_wp2_with (go_at_call 23; refine HC.out.mono ?_; rintro e w1 ⟨rfl, h1⟩; subst w1)
  go_ret
  have hb : Below (w.alloc (.cells #[.slice none 0 0, .int .i64 0] 78)).heap.size (w.alloc (.cells #[.slice none 0 0, .int .i64 0] 78)) ((w.alloc (.cells #[.slice none 0 0, .int .i64 0] 78)).alloc (.cells #[.slice none 0 0, ptr w.heap.size] 58)) := below1 _ _
  have h2 := heap_alloc_new (w.alloc (.cells #[.slice none 0 0, .int .i64 0] 78)) (.cells #[.slice none 0 0, ptr w.heap.size] 58)
  rw [World.size_alloc] at h2
  exact ⟨w.heap.size + 1, rfl, by omega, ⟨.slice none 0 0, w.heap.size, [], 0, none, ⟨h2, ⟨rfl, .inl ⟨rfl, rfl⟩⟩, (fun a ha => absurd ha (by simp)), List.nodup_nil, by omega, (fun k hk => by cases hk), (fun a ha => absurd ha (by simp))⟩, ⟨(heapR_new w).grow hb, hD, fun k hk => by cases hk⟩, HM.nil, Nat.le_refl _⟩, (below1 w _).trans (hb.mono (by simp))⟩

end Go.Proofs.Ytndomlbjdppckaa
