/- Pop. -/
import Derived.Test.YtmkbndiliehdcaaHops
namespace Go.Proofs.Ytmkbndiliehdcaa
open Go.RowKit

theorem RowR.take {w : World} {g cap : Nat} {L : List It} (h : RowR w g cap L) (m : Nat) : RowR w g cap (L.take m) := by
  obtain ⟨cur, hc, hs, h2⟩ := h.at_
  have hl := h.lec
  refine ⟨by simp; omega, h.capm, cur, hc, hs, fun i hi => ?_⟩
  have hi' : i < m ∧ i < L.length := by simp at hi; omega
  have : gt (L.take m) i = gt L i := by rw [gt_eq hi, gt_eq hi'.2, List.getElem_take]
  rw [this]
  exact h2 i hi'.2

theorem HeapR.came {w : World} {p n : Nat} {M : List It} {r : Option Nat} (h : HeapR w p M n r) : Came M ∧ M.length ≤ n := by
  obtain ⟨v, L, h1, rfl, hp, hh, hc, _, hl⟩ := h
  exact ⟨hc, hl⟩
theorem HeapR.min {w : World} {p n : Nat} {M : List It} {r : Option Nat} (h : HeapR w p M n r) (hM : M ≠ []) : ∃ m, MinOf M m := by
  obtain ⟨v, L, h1, rfl, hp, hh, _⟩ := h
  exact ⟨_, hh.minOf hp (fun e => hM (by subst e; exact hp.symm.eq_nil))⟩
theorem peek_nil (p n : Nat) (r : Option Nat) (w : World) (h : HeapR w p [] n r) : Calls Try.prog 16 #[.pointer (some ⟨p, 0, none⟩)] w fun e w' => e = .returned (.tuple #[.agg #[.int .i64 0, .int .i64 0], .bool false]) ∧ Below w.heap.size w w' := by
  refine (peek_any p n [] r w h).mono ?_
  rintro e w' ⟨⟨_, he⟩ | ⟨m, hm, _⟩, hb⟩
  · exact ⟨he, hb⟩
  · exact absurd hm.1 (by simp)
theorem peek_min (p n : Nat) (M : List It) (m : It) (r : Option Nat) (w : World) (h : HeapR w p M n r) (hm : MinOf M m) : Calls Try.prog 16 #[.pointer (some ⟨p, 0, none⟩)] w fun e w' => e = .returned (.tuple #[.agg #[.int .i64 m.k, .int .i64 m.t], .bool true]) ∧ Below w.heap.size w w' := by
  refine (peek_any p n M r w h).mono ?_
  rintro e w' ⟨⟨e1, he⟩ | ⟨m', hm', he⟩, hb⟩
  · subst e1; exact absurd hm.1 (by simp)
  · rw [MinOf.unique h.came.1 hm hm']; exact ⟨he, hb⟩

/- the block of a result, behind calls that made blocks -/
theorem res_keep {w w1 : World} {x y : Value} (hb : Below (w.alloc (.cells #[x, y] 26)).heap.size (w.alloc (.cells #[x, y] 26)) w1) : w1.heap[w.heap.size]? = some (.cells #[x, y] 26 (0, 0)) ∧ w.heap.size < w1.heap.size := by
  have hs := hb.size
  rw [World.size_alloc] at hs
  exact ⟨(hb.block _ (by simp)).trans (heap_alloc_new w _), by omega⟩
theorem res_cells {w : World} {q : Nat} {x y : Value} (h : w.heap[q]? = some (.cells #[x, y] 26 (0, 0))) : w.cell? ⟨q, 0, none⟩ = some x ∧ w.cell? ⟨q, 1, none⟩ = some y ∧ w.frozen? ⟨q, 0, none⟩ = false ∧ w.frozen? ⟨q, 1, none⟩ = false := by
  refine ⟨?_, ?_, ?_, ?_⟩
  · rw [cell_of_row w q 0 _ 26 (0, 0) h]; rfl
  · rw [cell_of_row w q 1 _ 26 (0, 0) h]; rfl
  · simp [World.frozen?, h]
  · simp [World.frozen?, h]
theorem res_all {w w1 : World} {x y : Value} (hb : Below (w.alloc (.cells #[x, y] 26)).heap.size (w.alloc (.cells #[x, y] 26)) w1) : ∀ o : Obj, (w1.alloc o).cell? ⟨w.heap.size, 0, none⟩ = some x ∧ (w1.alloc o).cell? ⟨w.heap.size, 1, none⟩ = some y ∧ (w1.alloc o).frozen? ⟨w.heap.size, 0, none⟩ = false ∧ (w1.alloc o).frozen? ⟨w.heap.size, 1, none⟩ = false := by
  intro o
  obtain ⟨h1, h2⟩ := res_keep hb
  exact res_cells ((Below.heap_alloc w1 o _ h2).trans h1)

set_option maxHeartbeats 4000000 in
set_option maxRecDepth 100000 in
theorem pop_nil (p n : Nat) (r : Option Nat) (w : World) (h : HeapR w p [] n r) : Calls Try.prog 12 #[.pointer (some ⟨p, 0, none⟩)] w fun e w' =>
    e = .returned (.tuple #[.agg #[.int .i64 0, .int .i64 0], .bool false]) ∧ Below w.heap.size w w' := by
  have hB : ∀ o : Obj, Below w.heap.size w (w.alloc o) := fun o => (Below.refl w.heap.size w).alloc (Nat.le_refl _) o
  have hpk := fun o : Obj => peek_nil p n r (w.alloc o) (h.grow (hB o))
  have HPK := hidOf hpk
  clear h hpk
  go_enter Try.func12, Try.ntmps12
  go_wp2_with (go_at_call 16; refine (HPK.out _).mono ?_; rintro e w1 ⟨rfl, hb1⟩; obtain ⟨y0, y1, y2, y3⟩ := res_cells (res_keep hb1).1; have hs1 := (res_keep hb1).2)
  refine bodyPost_ret (results_pair Try.results12 _ _ w.heap.size (.int .i64 0) (.int .i64 0) (.bool false) rfl rfl ?_ ?_) rfl ?_
  · rw [((Below.refl _ _).alloc (Nat.le_refl _) _).cell (p := ⟨w.heap.size, 0, none⟩) (by simpa using hs1)]
    simp [go_sem, y0]
  · rw [((Below.refl _ _).alloc (Nat.le_refl _) _).cell (p := ⟨w.heap.size, 1, none⟩) (by simpa using hs1)]
    simp [go_sem, y1]
  refine ⟨rfl, ?_⟩
  refine Below.alloc (Below.setCell (Below.setCell ?_ (p := ⟨w.heap.size, 0, none⟩) (Nat.le_refl _) _) (p := ⟨w.heap.size, 1, none⟩) (Nat.le_refl _) _) (by simpa using Nat.le_of_lt hs1) _
  exact (hB _).trans (hb1.mono (by simp))

theorem pop_w {wz : World} {p g cap n l : Nat} {L : List It} (hR : RowR wz g cap (L.set 0 (gt L l))) (hp : wz.heap[p]? = some (.cells #[.slice (some ⟨g, 0, none⟩) L.length cap, .int .i64 n] 53 (0, 0))) (hpg : p ≠ g) (hl : L.length = l + 1) :
    ((set3 wz g l ⟨0, 0, 0⟩).setCell ⟨p, 0, none⟩ (.slice (some ⟨g, 0, none⟩) l cap)).heap[p]? = some (.cells #[.slice (some ⟨g, 0, none⟩) (cutL L).length cap, .int .i64 n] 53 (0, 0)) ∧
    RowR ((set3 wz g l ⟨0, 0, 0⟩).setCell ⟨p, 0, none⟩ (.slice (some ⟨g, 0, none⟩) l cap)) g cap (cutL L) ∧
    NS wz ((set3 wz g l ⟨0, 0, 0⟩).setCell ⟨p, 0, none⟩ (.slice (some ⟨g, 0, none⟩) l cap)) p (some g) (some g) := by
  have e1 : (cutL L).length = l := by rw [cutL_length, hl]; rfl
  have hr := (hR.set3 l (by simp; omega) ⟨0, 0, 0⟩).take l
  have e2 : ((L.set 0 (gt L l)).set l ⟨0, 0, 0⟩).take l = cutL L := by
    unfold cutL
    rw [hl, Nat.add_sub_cancel]
    apply List.ext_getElem?
    intro j
    by_cases hj : j < l
    · rw [List.getElem?_take, List.getElem?_take, if_pos hj, if_pos hj, List.getElem?_set_ne (by omega)]
    · rw [List.getElem?_take, List.getElem?_take, if_neg hj, if_neg hj]
  rw [e2] at hr
  refine ⟨?_, hr.kept (Below.heap_setCell _ ⟨p, 0, none⟩ _ g (fun e => hpg e.symm)), ((NS.of_rs ((RS.refl wz g).set3 l ⟨0, 0, 0⟩)).setp 0 _)⟩
  rw [e1, heap_setCell_same _ p 0 _ 53 _ ((set3_other _ g l p _ hpg).trans hp)]
  rfl
theorem pop_end {W w9 : World} {p g n c : Nat} {L L9 M : List It} {m : It} (hW : W.heap[p]? = some (.cells #[.slice (some ⟨g, 0, none⟩) (cutL L).length c, .int .i64 n] 53 (0, 0))) (hpg : p ≠ g) (hp9 : L9.Perm (cutL L)) (hh9 : HeapFrom 0 L9) (hr9 : RowR w9 g c L9) (hs9 : RS W w9 g) (hne : L ≠ []) (hm : m = gt L 0)
    (hM : L.Perm M ∧ HeapFrom 0 L ∧ Came M ∧ (∀ a ∈ M, 0 ≤ a.c ∧ a.c < n) ∧ M.length ≤ n) : HeapR w9 p (M.erase m) n (some g) := by
  obtain ⟨h1, h2, h3, h4, h5⟩ := hM
  rw [← hp9.length_eq] at hW
  refine ⟨_, L9, heapL_of hr9 ((hs9.block p (Array.getElem?_eq_some_iff.1 hW).1 hpg).trans hW) hpg, rfl, ?_, hh9, h3.erase m, fun a ha => h4 a (List.mem_of_mem_erase ha), Nat.le_trans (List.length_erase_le) h5⟩
  rw [hm]
  exact hp9.trans (cutL_erase hne h1)
theorem NS.setnew {a b : World} {p q : Nat} {r r' : Option Nat} (h : NS a b p r r') (hq : a.heap.size ≤ q) (j : Nat) (u : Value) : NS a (b.setCell ⟨q, j, none⟩ u) p r r' :=
  ⟨h.os, h.tape, h.output, by simpa using h.size, fun k hk hp hr => (Below.heap_setCell b ⟨q, j, none⟩ u k (by show k ≠ q; omega)).trans (h.block k hk hp hr), h.row⟩

set_option maxHeartbeats 4000000 in
set_option maxRecDepth 100000 in
theorem pop_min (p n : Nat) (M : List It) (m : It) (r : Option Nat) (w : World) (h : HeapR w p M n r) (hm : MinOf M m) (hn : n ≤ 5864062014805) : Calls Try.prog 12 #[.pointer (some ⟨p, 0, none⟩)] w fun e w' =>
    e = .returned (.tuple #[.agg #[.int .i64 m.k, .int .i64 m.t], .bool true]) ∧ HeapR w' p (M.erase m) n r ∧ NS w w' p r r := by
  have hB : ∀ o : Obj, Below w.heap.size w (w.alloc o) := fun o => (Below.refl w.heap.size w).alloc (Nat.le_refl _) o
  have hpk := fun o : Obj => peek_min p n M m r (w.alloc o) (h.grow (hB o)) hm
  have HPK := hidOf hpk
  clear hpk
  obtain ⟨v, L, h1, rfl, hp, hh, hc, hcn, hln⟩ := h
  have hLne : L ≠ [] := fun e => by subst e; have e2 := hp.symm.eq_nil; subst e2; exact absurd hm.1 (by simp)
  obtain ⟨l, hl⟩ : ∃ l, L.length = l + 1 := ⟨L.length - 1, by have := List.length_pos_iff.2 hLne; omega⟩
  obtain ⟨g, cap, rfl⟩ : ∃ g cap, v = .slice (some ⟨g, 0, none⟩) L.length cap := by
    rcases h1.2.2.2 with ⟨_, e⟩ | ⟨g, cap, cur, e, _⟩
    · omega
    · exact ⟨g, cap, e⟩
  have hm0 : m = gt L 0 := MinOf.unique hc hm (hh.minOf hp hLne)
  have hlM : L.length ≤ n := by rw [hp.length_eq]; exact hln
  have hpw : p < w.heap.size := (Array.getElem?_eq_some_iff.1 h1.1).1
  obtain ⟨hR, hpg⟩ := rowR_of h1
  have hgw : g < w.heap.size := hR.lt
  have H1 := hidOf h1
  have HH := hidOf (And.intro hp (And.intro hh (And.intro hc (And.intro hcn hln))))
  have HM := hidOf hm
  have HM0 := hidOf hm0
  have HLN := hidOf hLne
  have HL := hidOf hl
  have hlz : (0 : Int) < (L.length : Int) := by omega
  have hll : l < 9000000000000 := by omega
  clear h1 hp hh hc hcn hln hm hm0 hLne hR
  go_enter Try.func12, Try.ntmps12
  go_wp2_with (go_at_call 16; refine (HPK.out _).mono ?_; rintro e w1 ⟨rfl, hb1⟩; have d0 : ∀ o, (w1.alloc o).cell? ⟨p, 0, none⟩ = some (.slice (some ⟨g, 0, none⟩) L.length cap) := (fun o => (((Below.refl w1.heap.size w1).alloc (Nat.le_refl _) o).cell (p := ⟨p, 0, none⟩) (Nat.lt_of_lt_of_le (Nat.lt_of_lt_of_le hpw (hB _).size) hb1.size)).trans ((hb1.cell (p := ⟨p, 0, none⟩) (Nat.lt_of_lt_of_le hpw (hB _).size)).trans (((hB _).cell (p := ⟨p, 0, none⟩) hpw).trans H1.out.cells.1))))
  obtain ⟨hrb, hs1⟩ := res_keep hb1
  obtain ⟨wq, hwq⟩ : ∃ x, x = w1.alloc (.cells #[.int .i64 m.k, .int .i64 m.t] 26) := ⟨_, rfl⟩
  have hBq : Below w.heap.size w wq := by
    rw [hwq]
    exact ((hB _).trans (hb1.mono (by simp))).alloc (Nat.le_of_lt hs1) _
  have hb4 : wq.heap[w1.heap.size]? = some (.cells #[.int .i64 m.k, .int .i64 m.t] 26 (0, 0)) := by rw [hwq]; exact heap_alloc_new w1 _
  have hrq : wq.heap[w.heap.size]? = some (.cells #[.int .i64 0, .int .i64 0] 26 (0, 0)) := by rw [hwq]; exact (Below.heap_alloc w1 _ _ hs1).trans hrb
  have hsq : w1.heap.size < wq.heap.size := by rw [hwq]; simp
  have HQ := hidOf (H1.out.kept (hBq.block p hpw) (fun k hk => hBq.block k (ownsRow_lt H1.out.2.2 hk)))
  obtain ⟨hRq, _⟩ := rowR_of HQ.out
  obtain ⟨b0, b1, b2⟩ := hRq.cells 0 (by omega)
  obtain ⟨x, hx⟩ : ∃ x, x = gt L l := ⟨_, rfl⟩
  obtain ⟨a0, a1, a2⟩ := hRq.cells l (by omega)
  rw [← hx] at a0 a1 a2
  have HX := hidOf hx
  have hz0 : ∀ j, wq.frozen? ⟨g, j, none⟩ = false := fun j => hRq.frozen j
  obtain ⟨c0, c1, zp0, zp1⟩ := HQ.out.cells
  have HB4 := hidOf hb4
  have HRQ := hidOf hrq
  have HBQ := hidOf hBq
  have ez : ((L.length : Int) - 1) = (l : Int) := by omega
  have hlz2 : (l : Int) < (L.length : Int) := by omega
  simp only [ez] at *
  rw [← hwq]
  clear hwq hRq hx hb4 hrq hBq d0 hb1 hrb
  go_region
  obtain ⟨wz, hwz⟩ : ∃ y, y = (set3 wq g 0 x).drew := ⟨_, rfl⟩
  rw [show (((wq.setCell ⟨g, 0, none⟩ (.int .i64 x.k)).setCell ⟨g, 1, none⟩ (.int .i64 x.t)).setCell ⟨g, 2, none⟩ (.int .i64 x.c)).drew = wz from hwz.symm]
  have HZR : Hid (RowR wz g cap (L.set 0 (gt L l))) := by
    show RowR wz g cap (L.set 0 (gt L l))
    rw [hwz, ← HX.out]
    exact ((rowR_of HQ.out).1.set3 0 (by omega) x).drew
  have HZN : Hid (NS wq wz p (some g) (some g)) := by
    show NS wq wz p (some g) (some g)
    rw [hwz]
    exact (NS.of_rs ((RS.refl wq g).set3 0 x)).drew
  have HZP : Hid (wz.heap[p]? = some (.cells #[.slice (some ⟨g, 0, none⟩) L.length cap, .int .i64 n] 53 (0, 0))) := by
    show wz.heap[p]? = _
    rw [hwz]
    exact (set3_other wq g 0 p x hpg).trans HQ.out.1
  clear hwz a0 a1 a2 b0 b1 b2 hz0 c0 c1 zp0 zp1
  obtain ⟨a0, a1, a2⟩ := HZR.out.cells l (by simp; omega)
  generalize gt (L.set 0 (gt L l)) l = y at a0 a1 a2
  have hz0 : ∀ j, wz.frozen? ⟨g, j, none⟩ = false := fun j => HZR.out.frozen j
  have c0 : wz.cell? ⟨p, 0, none⟩ = some (.slice (some ⟨g, 0, none⟩) L.length cap) := by rw [cell_of_row wz p 0 _ 53 (0, 0) HZP.out]; rfl
  have zp0 : wz.frozen? ⟨p, 0, none⟩ = false := by simp [World.frozen?, HZP.out]
  obtain ⟨P1, P3, P4⟩ := pop_w HZR.out HZP.out hpg HL.out
  have HP1 := hidOf P1
  have HP3 := hidOf P3
  have HP4 := hidOf P4
  clear P1 P3 P4
  have hcl : (l : Int) ≤ (cap : Int) := by have := HZR.out.lec; simp at this; omega
  have hkeep : ∀ (W : World) (w9 : World) (q : Nat), NS wz W p (some g) (some g) → RS W w9 g → w.heap.size ≤ q → q < wq.heap.size → w9.heap[q]? = wq.heap[q]? := by
    intro W w9 q h1 h2 h3 h4
    have hqp : q ≠ p := by omega
    have hqg : q ≠ g := by omega
    have hqg2 : some q ≠ some g := fun e => hqg (Option.some.inj e)
    exact ((h2.block q (Nat.lt_of_lt_of_le h4 (Nat.le_trans HZN.out.size h1.size)) hqg).trans (h1.block q (Nat.lt_of_lt_of_le h4 HZN.out.size) hqp hqg2)).trans (HZN.out.block q h4 hqp hqg2)
  have HK := hidOf hkeep
  clear hkeep
  go_wp2_with (go_at_call 24; refine (sink_any p g cap n 0 (cutL L) _ HP1.out hpg HP3.out (cutL_heap HH.out.2.1) (Nat.zero_le _) (by rw [cutL_length]; omega)).mono ?_; rintro e w9 ⟨rfl, L9, hp9, hh9, hr9, hs9⟩; obtain ⟨y0, y1, y2, y3⟩ := res_cells ((HK.out _ w9 w.heap.size HP4.out hs9 (Nat.le_refl _) (Nat.lt_trans hs1 hsq)).trans HRQ.out); obtain ⟨x0, x1, _, _⟩ := res_cells ((HK.out _ w9 w1.heap.size HP4.out hs9 (Nat.le_of_lt hs1) hsq).trans HB4.out); have HS9 := hidOf (And.intro hp9 (And.intro hh9 (And.intro hr9 hs9))); clear hp9 hh9 hr9 hs9)
  have hpn : p ≠ w.heap.size := by omega
  have hgn : g ≠ w.heap.size := by omega
  refine bodyPost_ret (results_pair Try.results12 _ _ w.heap.size (.int .i64 m.k) (.int .i64 m.t) (.bool true) rfl rfl ?_ ?_) rfl ?_
  · simp [go_sem, y0]
  · simp [go_sem, y1]
  refine ⟨rfl, ?_, ?_⟩
  · have h9 := pop_end HP1.out hpg HS9.out.1 HS9.out.2.1 HS9.out.2.2.1 HS9.out.2.2.2 HLN.out HM0.out HH.out
    exact h9.kept ((Below.heap_setCell _ ⟨w.heap.size, 1, none⟩ _ p hpn).trans (Below.heap_setCell _ ⟨w.heap.size, 0, none⟩ _ p hpn)) (fun k hk => by cases hk; exact (Below.heap_setCell _ ⟨w.heap.size, 1, none⟩ _ g hgn).trans (Below.heap_setCell _ ⟨w.heap.size, 0, none⟩ _ g hgn))
  · have h10 : NS w _ p (some g) (some g) := (((NS.of_below HBQ.out).trans HZN.out).trans HP4.out).trans (NS.of_rs HS9.out.2.2.2)
    exact (h10.setnew (Nat.le_refl _) 0 _).setnew (Nat.le_refl _) 1 _

end Go.Proofs.Ytmkbndiliehdcaa
