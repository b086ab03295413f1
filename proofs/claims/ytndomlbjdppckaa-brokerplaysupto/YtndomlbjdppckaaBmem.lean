/- A heap in memory: its items stand in a row that it owns, two cells each. -/
import Derived.Test.YtndomlbjdppckaaBmat
import Derived.Maps.AppendAt
import Derived.BigRegion
import Derived.BigQuiet
import Derived.Deep.QuietTactic
import Derived.Deep.RegionHeld3
namespace Go.Proofs.Ytndomlbjdppckaa
open Go.RowKit

def enI (a : It) : List Value := [.pointer (some ⟨a.p, 0, none⟩), .int .i64 a.c]
def enL (L : List It) : List Value := L.flatMap enI
theorem enL_length (L : List It) : (enL L).length = L.length * 2 := by
  induction L with
  | nil => rfl
  | cons a L ih => simp only [enL, List.flatMap_cons, List.length_append, List.length_cons] at ih ⊢; rw [ih]; simp [enI]; omega
theorem enL_append (L : List It) (a : It) : enL (L ++ [a]) = enL L ++ enI a := by simp [enL]
theorem enL_get (L : List It) : ∀ i, i < L.length → (enL L)[i * 2]? = some (.pointer (some ⟨(gt L i).p, 0, none⟩)) ∧ (enL L)[i * 2 + 1]? = some (.int .i64 (gt L i).c) := by
  induction L with
  | nil => intro i h; simp at h
  | cons a L ih =>
    intro i h
    cases i with
    | zero => simp [enL, enI, gt]
    | succ i =>
      have := ih i (by simpa using h)
      have e : enL (a :: L) = enI a ++ enL L := by simp [enL]
      have e2 : gt (a :: L) (i + 1) = gt L i := by simp [gt]
      have l3 : (enI a).length = 2 := rfl
      rw [e, e2, List.getElem?_append_right (by rw [l3]; omega), List.getElem?_append_right (by rw [l3]; omega), l3, show (i + 1) * 2 - 2 = i * 2 by omega, show (i + 1) * 2 + 1 - 2 = i * 2 + 1 by omega]
      exact this

/- an item stands in a row's cells -/
def ItAt (cur : Array Value) (i : Nat) (a : It) : Prop := cur[i * 2]? = some (.pointer (some ⟨a.p, 0, none⟩)) ∧ cur[i * 2 + 1]? = some (.int .i64 a.c)
theorem itAt_of {cur : Array Value} {L : List It} (h : cur.toList.take (L.length * 2) = enL L) (i : Nat) (hi : i < L.length) : ItAt cur i (gt L i) := by
  obtain ⟨h0, h1⟩ := enL_get L i hi
  rw [← h, List.getElem?_take, if_pos (by omega), Array.getElem?_toList] at h0 h1
  exact ⟨h0, h1⟩
theorem of_itAt {cur : Array Value} {L : List It} (hs : L.length * 2 ≤ cur.size) (h : ∀ i, i < L.length → ItAt cur i (gt L i)) : cur.toList.take (L.length * 2) = enL L := by
  apply List.ext_getElem?
  intro j
  by_cases hj : j < L.length * 2
  · rw [List.getElem?_take, if_pos hj, Array.getElem?_toList]
    obtain ⟨h0, h1⟩ := h (j / 2) (by omega)
    obtain ⟨g0, g1⟩ := enL_get L (j / 2) (by omega)
    have : j = j / 2 * 2 ∨ j = j / 2 * 2 + 1 := by omega
    rcases this with e | e
    · rw [e, h0, g0]
    · rw [e, h1, g1]
  · rw [List.getElem?_eq_none (by simp; omega), List.getElem?_eq_none (by rw [enL_length]; omega)]

/- the items L stand in block g, which has room for cap -/
structure RowR (w : World) (g cap : Nat) (L : List It) : Prop where
  lec : L.length ≤ cap
  capm : cap ≤ maxLen
  at_ : ∃ cur, w.heap[g]? = some (.cells cur 82 (0, 0)) ∧ cur.size = cap * 2 ∧ ∀ i, i < L.length → ItAt cur i (gt L i)
theorem RowR.lt {w : World} {g cap : Nat} {L : List It} (h : RowR w g cap L) : g < w.heap.size := by
  obtain ⟨cur, hc, _⟩ := h.at_
  exact (Array.getElem?_eq_some_iff.1 hc).1
theorem RowR.kept {w w' : World} {g cap : Nat} {L : List It} (h : RowR w g cap L) (e : w'.heap[g]? = w.heap[g]?) : RowR w' g cap L := by
  obtain ⟨cur, hc, h2⟩ := h.at_
  exact ⟨h.lec, h.capm, cur, e.trans hc, h2⟩
theorem RowR.cells {w : World} {g cap : Nat} {L : List It} (h : RowR w g cap L) (i : Nat) (hi : i < L.length) : w.cell? ⟨g, i * 2, none⟩ = some (.pointer (some ⟨(gt L i).p, 0, none⟩)) ∧ w.cell? ⟨g, i * 2 + 1, none⟩ = some (.int .i64 (gt L i).c) := by
  obtain ⟨cur, hc, _, h2⟩ := h.at_
  rw [cell_of_row w g _ cur 82 (0, 0) hc, cell_of_row w g _ cur 82 (0, 0) hc]
  exact h2 i hi
theorem RowR.frozen {w : World} {g cap : Nat} {L : List It} (h : RowR w g cap L) (j : Nat) : w.frozen? ⟨g, j, none⟩ = false := by
  obtain ⟨cur, hc, _, h2⟩ := h.at_
  simp [World.frozen?, hc]
theorem Kn.ne {w : World} {g cap : Nat} {L : List It} {a : It} (h : Kn w a) (hR : RowR w g cap L) : a.p ≠ g := by
  intro e
  obtain ⟨cur, hc, _⟩ := hR.at_
  have h' : w.heap[a.p]? = some (.cells (itC a.x) 65 (0, 0)) := h
  rw [e, hc] at h'
  cases h'
theorem Kn.ne2 {w : World} {p : Nat} {a : It} {cs : Array Value} (h : Kn w a) (hp : w.heap[p]? = some (.cells cs 78 (0, 0))) : a.p ≠ p := by
  intro e
  have h' : w.heap[a.p]? = some (.cells (itC a.x) 65 (0, 0)) := h
  rw [e, hp] at h'
  cases h'

/- w' is w with new blocks and with writes to block g alone -/
structure RS (w w' : World) (g : Nat) : Prop where
  os : w'.os = w.os
  tape : w'.tape = w.tape
  output : w'.output = w.output
  size : w.heap.size ≤ w'.heap.size
  block : ∀ k, k < w.heap.size → k ≠ g → w'.heap[k]? = w.heap[k]?
theorem RS.refl (w : World) (g : Nat) : RS w w g := ⟨rfl, rfl, rfl, Nat.le_refl _, fun _ _ _ => rfl⟩
theorem RS.trans {a b c : World} {g : Nat} (h : RS a b g) (k : RS b c g) : RS a c g :=
  ⟨k.os.trans h.os, k.tape.trans h.tape, k.output.trans h.output, Nat.le_trans h.size k.size, fun i hi hg => (k.block i (Nat.lt_of_lt_of_le hi h.size) hg).trans (h.block i hi hg)⟩
theorem RS.of_below {a b : World} {g : Nat} (h : Below a.heap.size a b) : RS a b g := ⟨h.os, h.tape, h.output, h.size, fun k hk _ => h.block k hk⟩
theorem RS.drew {a b : World} {g : Nat} (h : RS a b g) : RS a b.drew g := ⟨h.os, h.tape, h.output, h.size, h.block⟩

theorem Kn.rs {w w' : World} {g : Nat} {a : It} (h : Kn w a) (hr : RS w w' g) (hg : a.p ≠ g) : Kn w' a := ItR.kept h (hr.block a.p (ItR.lt h) hg)

/- two cells are laid anew -/
def set3 (w : World) (g i : Nat) (a : It) : World := (w.setCell ⟨g, i * 2, none⟩ (.pointer (some ⟨a.p, 0, none⟩))).setCell ⟨g, i * 2 + 1, none⟩ (.int .i64 a.c)
theorem set3_heap {w : World} {g : Nat} {cur : Array Value} (h : w.heap[g]? = some (.cells cur 82 (0, 0))) (i : Nat) (a : It) : (set3 w g i a).heap[g]? = some (.cells ((cur.setIfInBounds (i * 2) (.pointer (some ⟨a.p, 0, none⟩))).setIfInBounds (i * 2 + 1) (.int .i64 a.c)) 82 (0, 0)) := by
  unfold set3
  rw [heap_setCell_same _ g _ _ 82 _ (heap_setCell_same w g _ _ 82 _ h)]
theorem set3_other (w : World) (g i k : Nat) (a : It) (h : k ≠ g) : (set3 w g i a).heap[k]? = w.heap[k]? := by
  unfold set3
  rw [Below.heap_setCell _ ⟨g, i * 2 + 1, none⟩ _ k h, Below.heap_setCell _ ⟨g, i * 2, none⟩ _ k h]
theorem set3_size (w : World) (g i : Nat) (a : It) : (set3 w g i a).heap.size = w.heap.size := by simp [set3]
theorem RS.set3 {w w' : World} {g : Nat} (h : RS w w' g) (i : Nat) (a : It) : RS w (set3 w' g i a) g :=
  h.trans ⟨rfl, rfl, rfl, by rw [set3_size]; exact Nat.le_refl _, fun k _ hk => set3_other w' g i k a hk⟩
theorem itAt_set3 {cur : Array Value} {i j : Nat} {a b : It} (hi : i * 2 + 1 < cur.size) (h : j ≠ i → ItAt cur j b) (hb : j = i → b = a) : ItAt ((cur.setIfInBounds (i * 2) (.pointer (some ⟨a.p, 0, none⟩))).setIfInBounds (i * 2 + 1) (.int .i64 a.c)) j b := by
  by_cases e : j = i
  · subst e
    rw [hb rfl]
    refine ⟨?_, ?_⟩
    · rw [Array.getElem?_setIfInBounds_ne (by omega), Array.getElem?_setIfInBounds_self_of_lt (by omega)]
    · rw [Array.getElem?_setIfInBounds_self_of_lt (by simp; omega)]
  · obtain ⟨h0, h1⟩ := h e
    refine ⟨?_, ?_⟩
    · rw [Array.getElem?_setIfInBounds_ne (by omega), Array.getElem?_setIfInBounds_ne (by omega)]; exact h0
    · rw [Array.getElem?_setIfInBounds_ne (by omega), Array.getElem?_setIfInBounds_ne (by omega)]; exact h1
theorem RowR.set3 {w : World} {g cap : Nat} {L : List It} (h : RowR w g cap L) (i : Nat) (hi : i < L.length) (a : It) : RowR (set3 w g i a) g cap (L.set i a) := by
  obtain ⟨cur, hc, hs, h2⟩ := h.at_
  refine ⟨by simpa using h.lec, h.capm, _, set3_heap hc i a, by simpa using hs, fun j hj => ?_⟩
  have hl := h.lec
  simp at hj
  exact itAt_set3 (by omega) (fun hne => by rw [gt_set L i j a hi, if_neg hne]; exact h2 j hj) (fun e => by rw [gt_set L i j a hi, if_pos e])
theorem RowR.drew {w : World} {g cap : Nat} {L : List It} (h : RowR w g cap L) : RowR w.drew g cap L := ⟨h.lec, h.capm, h.at_⟩

set_option maxHeartbeats 2000000 in
set_option maxRecDepth 100000 in
theorem rise_any (p g cap n i0 : Nat) (L0 : List It) (w : World) (hp : w.heap[p]? = some (.cells #[.slice (some ⟨g, 0, none⟩) L0.length cap, .int .i64 n] 78 (0, 0))) (hpg : p ≠ g) (hR : RowR w g cap L0) (hI : RInv L0 L0 i0) (hK : ∀ a ∈ L0, Kn w a) :
   Calls Try.prog 42 #[.pointer (some ⟨p, 0, none⟩), .int .i64 i0] w fun e w' => e = .returned (.tuple #[]) ∧ ∃ L, L.Perm L0 ∧ HeapFrom 0 L ∧ RowR w' g cap L ∧ RS w w' g := by
  have hlm : L0.length ≤ maxLen := Nat.le_trans hR.lec hR.capm
  unfold maxLen at hlm
  have HP := hidOf hp
  have HR0 := hidOf hR
  have HI0 := hidOf hI
  have HK0 : Hid (∀ a ∈ L0, Kn w a ∧ a.p ≠ g) := hidOf (fun a ha => ⟨hK a ha, (hK a ha).ne hR⟩)
  clear hp hR hI hK
  go_enter Try.func42, Try.ntmps42
  go_wp2
  go_loopw [1] (fun i wr => ∃ (k : Nat) (L : List It), i = .int .i64 (k : Int) ∧ Hid (RInv L0 L k ∧ RowR wr g cap L ∧ RS w wr g)) (fun i _ => (intOf i).toNat)
  case atStart => exact ⟨i0, L0, rfl, hidOf ⟨HI0.out, HR0.out, RS.refl _ _⟩⟩
  case round =>
    obtain ⟨k, L, rfl, H⟩ := hrel
    have hlen : L.length = L0.length := H.out.1.perm.length_eq
    have hkl : k < L0.length := by rw [← hlen]; exact H.out.1.lt
    have hpw : wr.heap[p]? = some (.cells #[.slice (some ⟨g, 0, none⟩) L0.length cap, .int .i64 n] 78 (0, 0)) := (H.out.2.2.block p (Array.getElem?_eq_some_iff.1 HP.out).1 hpg).trans HP.out
    have f0 : wr.cell? ⟨p, 0, none⟩ = some (.slice (some ⟨g, 0, none⟩) L0.length cap) := by rw [cell_of_row wr p 0 _ 78 (0, 0) hpw]; rfl
    have hpl : p < wr.heap.size := (Array.getElem?_eq_some_iff.1 hpw).1
    have hgl : g < wr.heap.size := H.out.2.1.lt
    have HPW := hidOf hpw
    clear hpw
    by_cases h0 : k = 0
    · subst h0
      go_wp2
      go_end0
      exact ⟨rfl, L, H.out.1.perm, H.out.1.stop (.inl rfl), H.out.2.1, H.out.2.2⟩
    · have hkz : (0 : Int) < (k : Int) := by omega
      have eq1 : ((k : Int) - 1).tdiv 2 = (((k - 1) / 2 : Nat) : Int) := by
        rw [show (k : Int) - 1 = ((k - 1 : Nat) : Int) by omega, Int.tdiv_eq_ediv_of_nonneg (by omega)]; omega
      obtain ⟨q, hq⟩ : ∃ q, q = (k - 1) / 2 := ⟨_, rfl⟩
      rw [← hq] at eq1
      have hqk : q < k := by omega
      have hqz : (q : Int) < (L0.length : Int) := by omega
      have hkz2 : (k : Int) < (L0.length : Int) := by omega
      obtain ⟨a, ha⟩ : ∃ a, a = gt L k := ⟨_, rfl⟩
      obtain ⟨b, hb⟩ : ∃ b, b = gt L q := ⟨_, rfl⟩
      obtain ⟨a0, a2⟩ := H.out.2.1.cells k (by omega)
      obtain ⟨b0, b2⟩ := H.out.2.1.cells q (by omega)
      rw [← ha] at a0 a2
      rw [← hb] at b0 b2
      have HKA : Hid (Kn wr.drew a) := hidOf (by have h1 := HK0.out a (H.out.1.perm.mem_iff.1 (by rw [ha]; exact gt_mem (by omega))); exact (h1.1.rs H.out.2.2 h1.2 : Kn wr _))
      have HKB : Hid (Kn wr.drew b) := hidOf (by have h1 := HK0.out b (H.out.1.perm.mem_iff.1 (by rw [hb]; exact gt_mem (by omega))); exact (h1.1.rs H.out.2.2 h1.2 : Kn wr _))
      have HA := hidOf ha
      have HB := hidOf hb
      have HQ := hidOf hq
      have HLEN := hidOf hlen
      clear ha hb hq hlen h0
      cases hbb : bef a b with
      | false =>
        have HBB := hidOf hbb
        have HC := fun w ha hb => before_any a b w ha hb
        rw [hbb] at HC
        clear hbb
        go_wp2
        go_region_held3 (fun w' => w'.cell? ⟨p, 0, none⟩ = some (.slice (some ⟨g, 0, none⟩) L0.length cap) ∧ w'.cell? ⟨g, k * 2, none⟩ = some (.pointer (some ⟨a.p, 0, none⟩)) ∧ w'.cell? ⟨g, k * 2 + 1, none⟩ = some (.int .i64 a.c) ∧ w'.cell? ⟨g, q * 2, none⟩ = some (.pointer (some ⟨b.p, 0, none⟩)) ∧ w'.cell? ⟨g, q * 2 + 1, none⟩ = some (.int .i64 b.c)) (first | go_keep | exact ⟨k0, k1, k3, k4, k6⟩) (first | (go_at_call 43; refine (HC _ HKA.out HKB.out).mono ?_; rintro e w1 ⟨rfl, hb1⟩; have k0 := (hb1.cell (p := ⟨p, 0, none⟩) hpl).trans f0; have k1 := (hb1.cell (p := ⟨g, k * 2, none⟩) hgl).trans a0; have k3 := (hb1.cell (p := ⟨g, k * 2 + 1, none⟩) hgl).trans a2; have k4 := (hb1.cell (p := ⟨g, q * 2, none⟩) hgl).trans b0; have k6 := (hb1.cell (p := ⟨g, q * 2 + 1, none⟩) hgl).trans b2))
        go_wp2
        refine bodyPost_ret (results_none rfl _ _ _) rfl ?_
        refine ⟨rfl, L, H.out.1.perm, H.out.1.stop (.inr ?_), H.out.2.1.kept (hb1.block g hgl), H.out.2.2.drew.trans (RS.of_below hb1)⟩
        rw [← HQ.out, ← HA.out, ← HB.out]
        exact HBB.out
      | true =>
        have HBB := hidOf hbb
        have HC := fun w ha hb => before_any a b w ha hb
        rw [hbb] at HC
        clear hbb
        go_wp2
        go_region_held3 (fun w' => w'.cell? ⟨p, 0, none⟩ = some (.slice (some ⟨g, 0, none⟩) L0.length cap) ∧ w'.cell? ⟨g, k * 2, none⟩ = some (.pointer (some ⟨a.p, 0, none⟩)) ∧ w'.cell? ⟨g, k * 2 + 1, none⟩ = some (.int .i64 a.c) ∧ w'.cell? ⟨g, q * 2, none⟩ = some (.pointer (some ⟨b.p, 0, none⟩)) ∧ w'.cell? ⟨g, q * 2 + 1, none⟩ = some (.int .i64 b.c)) (first | go_keep | exact ⟨k0, k1, k3, k4, k6⟩) (first | (go_at_call 43; refine (HC _ HKA.out HKB.out).mono ?_; rintro e w1 ⟨rfl, hb1⟩; have k0 := (hb1.cell (p := ⟨p, 0, none⟩) hpl).trans f0; have k1 := (hb1.cell (p := ⟨g, k * 2, none⟩) hgl).trans a0; have k3 := (hb1.cell (p := ⟨g, k * 2 + 1, none⟩) hgl).trans a2; have k4 := (hb1.cell (p := ⟨g, q * 2, none⟩) hgl).trans b0; have k6 := (hb1.cell (p := ⟨g, q * 2 + 1, none⟩) hgl).trans b2))
        have hz0 : ∀ j, w1.frozen? ⟨g, j, none⟩ = false := fun j => (hb1.frozen (p := ⟨g, j, none⟩) hgl).trans (H.out.2.1.frozen j)
        clear f0 a0 a2 b0 b2
        have HW1 : Hid (RowR w1 g cap L ∧ RS w w1 g) := hidOf ⟨H.out.2.1.kept (hb1.block g hgl), H.out.2.2.drew.trans (RS.of_below hb1)⟩
        clear hb1
        go_wp2
        go_region
        go_wp2
        go_roundw
        case rel =>
          have hkL : k < L.length := by rw [HLEN.out]; exact hkl
          have hqL : q < L.length := Nat.lt_trans hqk hkL
          refine ⟨q, sw L k q, by go_num, hidOf ⟨H.out.1.step (by omega) HQ.out (by rw [← HA.out, ← HB.out]; exact HBB.out), ?_, ?_⟩⟩
          · have h1 := ((HW1.out.1.set3 k hkL b).set3 q (by simpa using hqL) a).drew
            unfold sw
            rw [← HA.out, ← HB.out]
            exact h1
          · exact ((HW1.out.2.set3 k b).set3 q a).drew
        case measure => simp [intOf]; omega

end Go.Proofs.Ytndomlbjdppckaa
