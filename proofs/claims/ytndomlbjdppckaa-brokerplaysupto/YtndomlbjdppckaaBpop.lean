/- Pop. -/
import Derived.Test.YtndomlbjdppckaaBops
namespace Go.Proofs.Ytndomlbjdppckaa
open Go.RowKit

theorem RowR.take {w : World} {g cap : Nat} {L : List It} (h : RowR w g cap L) (m : Nat) : RowR w g cap (L.take m) := by
  obtain ⟨cur, hc, hs, h2⟩ := h.at_
  have hl := h.lec
  refine ⟨by simp; omega, h.capm, cur, hc, hs, fun i hi => ?_⟩
  have hi' : i < m ∧ i < L.length := by simp at hi; omega
  have : gt (L.take m) i = gt L i := by rw [gt_eq hi, gt_eq hi'.2, List.getElem_take]
  rw [this]
  exact h2 i hi'.2

theorem HeapR.came {w : World} {p n : Nat} {M : List It} {r : Option Nat} (h : HeapR w p M n r) : Came M ∧ M.length ≤ n := by
  obtain ⟨v, L, h1, rfl, hp, hh, hc, _, hl⟩ := h
  exact ⟨hc, hl⟩
theorem HeapR.min {w : World} {p n : Nat} {M : List It} {r : Option Nat} (h : HeapR w p M n r) (hM : M ≠ []) : ∃ m, MinOf M m := by
  obtain ⟨v, L, h1, rfl, hp, hh, _⟩ := h
  exact ⟨_, hh.minOf hp (fun e => hM (by subst e; exact hp.symm.eq_nil))⟩
theorem peek_nil (p n : Nat) (r : Option Nat) (w : World) (h : HeapR w p [] n r) : Calls Try.prog 40 #[.pointer (some ⟨p, 0, none⟩)] w fun e w' => e = .returned (.tuple #[.pointer none, .bool false]) ∧ w' = w := by
  refine (peek_any p n [] r w h).mono ?_
  rintro e w' ⟨⟨_, he⟩ | ⟨m, hm, _⟩, hb⟩
  · exact ⟨he, hb⟩
  · exact absurd hm.1 (by simp)
theorem peek_min (p n : Nat) (M : List It) (m : It) (r : Option Nat) (w : World) (h : HeapR w p M n r) (hm : MinOf M m) : Calls Try.prog 40 #[.pointer (some ⟨p, 0, none⟩)] w fun e w' => e = .returned (.tuple #[.pointer (some ⟨m.p, 0, none⟩), .bool true]) ∧ w' = w := by
  refine (peek_any p n M r w h).mono ?_
  rintro e w' ⟨⟨e1, he⟩ | ⟨m', hm', he⟩, hb⟩
  · subst e1; exact absurd hm.1 (by simp)
  · rw [MinOf.unique h.came.1 hm hm']; exact ⟨he, hb⟩

set_option maxHeartbeats 1000000 in
theorem pop_nil (p n : Nat) (r : Option Nat) (w : World) (h : HeapR w p [] n r) : Calls Try.prog 30 #[.pointer (some ⟨p, 0, none⟩)] w fun e w' =>
    e = .returned (.tuple #[.pointer none, .bool false]) ∧ w' = w := by
  have HPK := hidOf (peek_nil p n r w h)
  clear h
  go_enter Try.func30, Try.ntmps30
  go_wp2_with (go_at_call 40; refine HPK.out.mono ?_; rintro e w1 ⟨rfl, h1⟩; subst w1)
  go_ret2
  exact ⟨rfl, rfl⟩

def setZ (w : World) (g i : Nat) : World := (w.setCell ⟨g, i * 2, none⟩ (.pointer none)).setCell ⟨g, i * 2 + 1, none⟩ (.int .i64 0)
theorem setZ_other (w : World) (g i k : Nat) (h : k ≠ g) : (setZ w g i).heap[k]? = w.heap[k]? := by
  unfold setZ
  rw [Below.heap_setCell _ ⟨g, i * 2 + 1, none⟩ _ k h, Below.heap_setCell _ ⟨g, i * 2, none⟩ _ k h]
theorem RowR.setZ {w : World} {g cap l : Nat} {L : List It} (h : RowR w g cap L) (hl : L.length = l + 1) : RowR (setZ w g l) g cap (L.take l) := by
  have h0 := (h.take l)
  obtain ⟨cur, hc, hs, h2⟩ := h0.at_
  refine ⟨h0.lec, h0.capm, (cur.setIfInBounds (l * 2) (.pointer none)).setIfInBounds (l * 2 + 1) (.int .i64 0), ?_, ?_, fun j hj => ?_⟩
  · unfold _root_.Go.Proofs.Ytndomlbjdppckaa.setZ
    rw [heap_setCell_same _ g _ _ 82 _ (heap_setCell_same w g _ _ 82 _ hc)]
  · simpa using hs
  · have hjl : j < l := by simp at hj; omega
    obtain ⟨h3, h4⟩ := h2 j hj
    refine ⟨?_, ?_⟩
    · rw [Array.getElem?_setIfInBounds_ne (by omega), Array.getElem?_setIfInBounds_ne (by omega)]; exact h3
    · rw [Array.getElem?_setIfInBounds_ne (by omega), Array.getElem?_setIfInBounds_ne (by omega)]; exact h4
theorem RS.setZ {w w' : World} {g : Nat} (h : RS w w' g) (i : Nat) : RS w (setZ w' g i) g :=
  h.trans ⟨rfl, rfl, rfl, by simp [_root_.Go.Proofs.Ytndomlbjdppckaa.setZ], fun k _ hk => setZ_other w' g i k hk⟩

theorem pop_w {wz : World} {p g cap n l : Nat} {L : List It} (hR : RowR wz g cap (L.set 0 (gt L l))) (hp : wz.heap[p]? = some (.cells #[.slice (some ⟨g, 0, none⟩) L.length cap, .int .i64 n] 78 (0, 0))) (hpg : p ≠ g) (hl : L.length = l + 1) :
    ((setZ wz g l).setCell ⟨p, 0, none⟩ (.slice (some ⟨g, 0, none⟩) l cap)).heap[p]? = some (.cells #[.slice (some ⟨g, 0, none⟩) (cutL L).length cap, .int .i64 n] 78 (0, 0)) ∧
    RowR ((setZ wz g l).setCell ⟨p, 0, none⟩ (.slice (some ⟨g, 0, none⟩) l cap)) g cap (cutL L) ∧
    NS wz ((setZ wz g l).setCell ⟨p, 0, none⟩ (.slice (some ⟨g, 0, none⟩) l cap)) p (some g) (some g) := by
  have e1 : (cutL L).length = l := by rw [cutL_length, hl]; rfl
  have hr := hR.setZ (l := l) (by simpa using hl)
  have e2 : (L.set 0 (gt L l)).take l = cutL L := by
    unfold cutL
    rw [hl, Nat.add_sub_cancel]
  rw [e2] at hr
  refine ⟨?_, hr.kept (Below.heap_setCell _ ⟨p, 0, none⟩ _ g (fun e => hpg e.symm)), ((NS.of_rs ((RS.refl wz g).setZ l)).setp 0 _)⟩
  rw [e1, heap_setCell_same _ p 0 _ 78 _ ((setZ_other _ g l p hpg).trans hp)]
  rfl
theorem pop_end {W w9 : World} {p g n c : Nat} {L L9 M : List It} {m : It} (hW : W.heap[p]? = some (.cells #[.slice (some ⟨g, 0, none⟩) (cutL L).length c, .int .i64 n] 78 (0, 0))) (hpg : p ≠ g) (hp9 : L9.Perm (cutL L)) (hh9 : HeapFrom 0 L9) (hr9 : RowR w9 g c L9) (hs9 : RS W w9 g) (hne : L ≠ []) (hm : m = gt L 0)
    (hM : L.Perm M ∧ HeapFrom 0 L ∧ Came M ∧ (∀ a ∈ M, 0 ≤ a.c ∧ a.c < n) ∧ M.length ≤ n) : HeapR w9 p (M.erase m) n (some g) := by
  obtain ⟨h1, h2, h3, h4, h5⟩ := hM
  rw [← hp9.length_eq] at hW
  refine ⟨_, L9, heapL_of hr9 ((hs9.block p (Array.getElem?_eq_some_iff.1 hW).1 hpg).trans hW) hpg, rfl, ?_, hh9, h3.erase m, fun a ha => h4 a (List.mem_of_mem_erase ha), Nat.le_trans (List.length_erase_le) h5⟩
  rw [hm]
  exact hp9.trans (cutL_erase hne h1)
theorem cutL_mem {L : List It} {a : It} (h : a ∈ cutL L) : a ∈ L := by
  have hne : L ≠ [] := by intro e; subst e; simp [cutL] at h
  exact (cutL_perm hne).mem_iff.1 (List.mem_cons_of_mem _ h)

set_option maxHeartbeats 4000000 in
set_option maxRecDepth 100000 in
theorem pop_min (p n : Nat) (M : List It) (m : It) (r : Option Nat) (w : World) (h : HeapR w p M n r) (hm : MinOf M m) (hK : ∀ a ∈ M, Kn w a) (hn : n ≤ 8796093022208) : Calls Try.prog 30 #[.pointer (some ⟨p, 0, none⟩)] w fun e w' =>
    e = .returned (.tuple #[.pointer (some ⟨m.p, 0, none⟩), .bool true]) ∧ HeapR w' p (M.erase m) n r ∧ NS w w' p r r := by
  have HPK := hidOf (peek_min p n M m r w h hm)
  obtain ⟨v, L, h1, rfl, hp, hh, hc, hcn, hln⟩ := h
  have hLne : L ≠ [] := fun e => by subst e; have e2 := hp.symm.eq_nil; subst e2; exact absurd hm.1 (by simp)
  obtain ⟨l, hl⟩ : ∃ l, L.length = l + 1 := ⟨L.length - 1, by have := List.length_pos_iff.2 hLne; omega⟩
  obtain ⟨g, cap, rfl⟩ : ∃ g cap, v = .slice (some ⟨g, 0, none⟩) L.length cap := by
    rcases h1.2.2.2 with ⟨_, e⟩ | ⟨g, cap, cur, e, _⟩
    · omega
    · exact ⟨g, cap, e⟩
  have hm0 : m = gt L 0 := MinOf.unique hc hm (hh.minOf hp hLne)
  have hlM : L.length ≤ n := by rw [hp.length_eq]; exact hln
  have hpw : p < w.heap.size := (Array.getElem?_eq_some_iff.1 h1.1).1
  obtain ⟨hR, hpg⟩ := rowR_of h1
  have hgw : g < w.heap.size := hR.lt
  have HKN : Hid (∀ a ∈ cutL L, Kn w a ∧ a.p ≠ g ∧ a.p ≠ p) := hidOf (fun a ha => by
    have h3 := hK a (hp.mem_iff.1 (cutL_mem ha))
    exact ⟨h3, h3.ne hR, h3.ne2 h1.1⟩)
  obtain ⟨b0, b2⟩ := hR.cells 0 (by omega)
  obtain ⟨x, hx⟩ : ∃ x, x = gt L l := ⟨_, rfl⟩
  obtain ⟨a0, a2⟩ := hR.cells l (by omega)
  rw [← hx] at a0 a2
  have HX := hidOf hx
  have hz0 : ∀ j, w.frozen? ⟨g, j, none⟩ = false := fun j => hR.frozen j
  obtain ⟨c0, c1, zp0, zp1⟩ := h1.cells
  have H1 := hidOf h1
  have HH := hidOf (And.intro hp (And.intro hh (And.intro hc (And.intro hcn hln))))
  have HM := hidOf hm
  have HM0 := hidOf hm0
  have HLN := hidOf hLne
  have HL := hidOf hl
  have hlz : (0 : Int) < (L.length : Int) := by omega
  have hll : l < 9000000000000 := by omega
  have ez : ((L.length : Int) - 1) = (l : Int) := by omega
  have hlz2 : (l : Int) < (L.length : Int) := by omega
  clear h1 hp hh hc hcn hln hm hm0 hLne hR hK hx hl
  go_enter Try.func30, Try.ntmps30
  go_wp2_with (go_at_call 40; refine HPK.out.mono ?_; rintro e w1 ⟨rfl, h1⟩; subst w1)
  go_region
  obtain ⟨wz, hwz⟩ : ∃ y, y = (set3 w g 0 x).drew := ⟨_, rfl⟩
  rw [show ((w.setCell ⟨g, 0, none⟩ (.pointer (some ⟨x.p, 0, none⟩))).setCell ⟨g, 1, none⟩ (.int .i64 x.c)).drew = wz from hwz.symm]
  have HZR : Hid (RowR wz g cap (L.set 0 (gt L l))) := by
    show RowR wz g cap (L.set 0 (gt L l))
    rw [hwz, ← HX.out]
    exact ((rowR_of H1.out).1.set3 0 (by omega) x).drew
  have HZN : Hid (NS w wz p (some g) (some g)) := by
    show NS w wz p (some g) (some g)
    rw [hwz]
    exact (NS.of_rs ((RS.refl w g).set3 0 x)).drew
  have HZP : Hid (wz.heap[p]? = some (.cells #[.slice (some ⟨g, 0, none⟩) L.length cap, .int .i64 n] 78 (0, 0))) := by
    show wz.heap[p]? = _
    rw [hwz]
    exact (set3_other w g 0 p x hpg).trans H1.out.1
  clear hwz a0 a2 b0 b2 hz0 c0 c1 zp0 zp1
  have hz0 : ∀ j, wz.frozen? ⟨g, j, none⟩ = false := fun j => HZR.out.frozen j
  have c0 : wz.cell? ⟨p, 0, none⟩ = some (.slice (some ⟨g, 0, none⟩) L.length cap) := by rw [cell_of_row wz p 0 _ 78 (0, 0) HZP.out]; rfl
  have zp0 : wz.frozen? ⟨p, 0, none⟩ = false := by simp [World.frozen?, HZP.out]
  have hlc : Hid (∃ y : Value × Value, wz.cell? ⟨g, l * 2, none⟩ = some y.1 ∧ wz.cell? ⟨g, l * 2 + 1, none⟩ = some y.2) := by
    obtain ⟨u, v⟩ := HZR.out.cells l (by simp; omega)
    exact hidOf ⟨(_, _), u, v⟩
  obtain ⟨⟨y0, y1⟩, a0, a1⟩ := hlc.out
  obtain ⟨P1, P3, P4⟩ := pop_w HZR.out HZP.out hpg HL.out
  have HKZ : Hid (∀ a ∈ cutL L, Kn ((setZ wz g l).setCell ⟨p, 0, none⟩ (.slice (some ⟨g, 0, none⟩) l cap)) a) := hidOf (fun a ha => by
    obtain ⟨h1, h2, h3⟩ := HKN.out a ha
    have h4 : some a.p ≠ some g := fun e => h2 (Option.some.inj e)
    exact ItR.kept h1 ((P4.block a.p (Nat.lt_of_lt_of_le (ItR.lt h1) HZN.out.size) h3 h4).trans (HZN.out.block a.p (ItR.lt h1) h3 h4)))
  have HP1 := hidOf P1
  have HP3 := hidOf P3
  have HP4 := hidOf P4
  clear P1 P3 P4
  have hcl : (l : Int) ≤ (cap : Int) := by have := HZR.out.lec; simp at this; omega
  go_wp2_with (go_at_call 41; refine (sink_any p g cap n 0 (cutL L) _ HP1.out hpg HP3.out (cutL_heap HH.out.2.1) (Nat.zero_le _) HKZ.out (by rw [cutL_length]; omega)).mono ?_; rintro e w9 ⟨rfl, L9, hp9, hh9, hr9, hs9⟩; have HS9 := hidOf (And.intro hp9 (And.intro hh9 (And.intro hr9 hs9))); clear hp9 hh9 hr9 hs9)
  go_ret2
  refine ⟨rfl, pop_end HP1.out hpg HS9.out.1 HS9.out.2.1 HS9.out.2.2.1 HS9.out.2.2.2 HLN.out HM0.out HH.out, ?_⟩
  exact (HZN.out.trans HP4.out).trans (NS.of_rs HS9.out.2.2.2)

end Go.Proofs.Ytndomlbjdppckaa
