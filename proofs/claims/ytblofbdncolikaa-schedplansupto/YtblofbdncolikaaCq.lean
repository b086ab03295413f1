/- A copy that is being made: what it has so far, and what it keeps. -/
import Derived.Test.YtblofbdncolikaaJc
namespace Go.Proofs.Ytblofbdncolikaa
open Go.RowKit

theorem Kq.set {Q : Nat → Prop} {w : World} {j o : Nat} (h : ¬ Q j) (v : Value) : Kq Q w (w.setCell ⟨j, o, none⟩ v) := ⟨by simp, fun k hk => heap_setCell_other w ⟨j, o, none⟩ k v (fun e => by have e2 : k = j := e; subst e2; exact h hk)⟩
def Qr (lo hi : Nat) : Nat → Prop := fun b => lo ≤ b ∧ b < hi
theorem Kq.sub {Q Q' : Nat → Prop} {w w' : World} (h : Kq Q w w') (hq : ∀ b, Q' b → Q b) : Kq Q' w w' := ⟨h.size, fun b hb => h.block b (hq b hb)⟩
/- a row of records of one's own, each with a row of its own -/
structure CpR {α β γ : Type} (e k : Nat) (cs : α → List Value) (t k' y : Nat) (cs' : γ → List Value) (ne : β → List γ) (sh : β → Option Addr → Nat → α) (lo : Nat) (w : World) (av : Option Addr) (cv : Nat) (J : List α) (D : List β) : Prop where
 own : w.ownsRow lo e k (.slice av J.length cv) J.length (fl cs J)
 dp : ∀ j (h1 : j < J.length) (h2 : j < D.length), ∃ ga gc, J[j] = sh D[j] ga gc ∧ Fl w (NB lo t w) k' y cs' ga (ne D[j])
section
variable {α β γ : Type} {e k : Nat} {cs : α → List Value} {t k' y : Nat} {cs' : γ → List Value} {ne : β → List γ} {sh : β → Option Addr → Nat → α} {lo : Nat}
theorem CpR.kept {w w' : World} {av : Option Addr} {cv : Nat} {J : List α} {D : List β} (h : CpR e k cs t k' y cs' ne sh lo w av cv J D) (hk : Kq (Qr lo w.heap.size) w w') : CpR e k cs t k' y cs' ne sh lo w' av cv J D :=
 ⟨own_kept h.own (fun b h1 h2 => hk.block b ⟨h1, h2⟩), fun j h1 h2 => by
  obtain ⟨ga, gc, e1, f⟩ := h.dp j h1 h2
  exact ⟨ga, gc, e1, f.kept (fun b hb => hk.block b ⟨hb.1, hb.lt⟩) (fun b hb => hb.to (hk.block b ⟨hb.1, hb.lt⟩) hb.1)⟩⟩
theorem CpR.nil (w : World) (D : List β) : CpR e k cs t k' y cs' ne sh lo w none 0 [] D := ⟨⟨by simp [fl], .inl ⟨rfl, rfl⟩⟩, fun j h1 => by simp at h1⟩
theorem CpR.step {wr w1 w2 w3 W : World} {av a' ga' : Option Addr} {cv c' gc' : Nat} {J : List α} {D : List β} {q : β} (h : CpR e k cs t k' y cs' ne sh lo wr av cv J D) (het : e ≠ t) (hq : D[J.length]? = some q)
  (hb : Below wr.heap.size wr w1) (hfl : Fl w1 (NB lo t w1) k' y cs' ga' (ne q))
  (hk2 : ∀ b, (b < wr.heap.size ∨ ∃ c, w1.heap[b]? = some (.cells c t (0, 0))) → w2.heap[b]? = w1.heap[b]?)
  (hown : w3.ownsRow lo e k (.slice a' (J.length + 1) c') (J.length + 1) (fl cs J ++ cs (sh q ga' gc')))
  (hg : w2.grownBy w3 (Value.slice av J.length cv).ownBlock) (hW : ∀ b, lo ≤ b → W.heap[b]? = w3.heap[b]?) :
  CpR e k cs t k' y cs' ne sh lo W a' c' (J ++ [sh q ga' gc']) D := by
 have hty : ∀ b c, w2.heap[b]? = some (.cells c t (0, 0)) → (b < wr.heap.size → wr.heap[b]? = w2.heap[b]?) → w3.heap[b]? = w2.heap[b]? := fun b c hc hwr => by
  refine hg.block b (heap_lt hc) (fun eq => ?_)
  rcases h.own.2 with ⟨e1, _⟩ | ⟨g, cap, cur, e1, hl, hgg, _⟩
  ·rw [e1] at eq; cases eq
  ·rw [e1] at eq
   have e2 : b = g := by simpa [Value.ownBlock] using eq
   subst e2
   have h2 := hwr (heap_lt hgg)
   rw [hgg, hc] at h2
   cases h2
   exact het rfl
 have hold : ∀ b, NB lo t wr b → W.heap[b]? = wr.heap[b]? := fun b hb2 => by
  have hlt := hb2.lt
  have e1 : w2.heap[b]? = wr.heap[b]? := (hk2 b (.inl hlt)).trans (hb.block b hlt)
  obtain ⟨c, hc⟩ := hb2.2
  exact (hW b hb2.1).trans ((hty b c (e1.trans hc) (fun _ => e1.symm)).trans e1)
 have hnew : ∀ b, NB lo t w1 b → W.heap[b]? = w1.heap[b]? := fun b hb2 => by
  obtain ⟨c, hc⟩ := hb2.2
  have e1 : w2.heap[b]? = w1.heap[b]? := hk2 b (.inr ⟨c, hc⟩)
  exact (hW b hb2.1).trans ((hty b c (e1.trans hc) (fun hlt => (hb.block b hlt).symm.trans e1.symm)).trans e1)
 refine ⟨?_, fun j h1 h2 => ?_⟩
 ·rw [List.length_append, List.length_singleton, fl_snoc]
  exact own_kept hown (fun b hl _ => hW b hl)
 ·by_cases hj : j < J.length
  ·obtain ⟨ga, gc, e1, f⟩ := h.dp j hj h2
   exact ⟨ga, gc, by rw [List.getElem_append_left hj]; exact e1, f.kept hold (fun b hb2 => hb2.to (hold b hb2) hb2.1)⟩
  ·have : j = J.length := by simp at h1; omega
   subst this
   rw [List.getElem?_eq_getElem h2] at hq
   cases hq
   exact ⟨ga', gc', by simp, hfl.kept hnew (fun b hb2 => hb2.to (hnew b hb2) hb2.1)⟩
end
/- the boxes: what is copied, the result, what there is so far -/
structure CpS (w W : World) (st cur : List Value) : Prop where
 s : W.heap[w.heap.size]? = some (.cells st.toArray 29 (0, 0))
 r : W.heap[w.heap.size + 1]? = some (.cells #[.int .i64 0, .int .i64 0, .slice none 0 0, .slice none 0 0, .slice none 0 0, .slice none 0 0, .slice none 0 0, .slice none 0 0, .slice none 0 0] 29 (0, 0))
 o : W.heap[w.heap.size + 1 + 1]? = some (.cells cur.toArray 29 (0, 0))
 b : Below w.heap.size w W
theorem CpS.z {w W : World} {st cur : List Value} (h : CpS w W st cur) : w.heap.size + 3 ≤ W.heap.size := heap_lt h.o
theorem CpS.grow {w W W' : World} {st cur : List Value} (h : CpS w W st cur) (hb : Below W.heap.size W W') : CpS w W' st cur :=
 ⟨(hb.block _ (heap_lt h.s)).trans h.s, (hb.block _ (heap_lt h.r)).trans h.r, (hb.block _ (heap_lt h.o)).trans h.o, h.b.trans (hb.mono h.b.size)⟩
theorem CpS.grown {w W W' : World} {st cur : List Value} {row : Option Nat} (h : CpS w W st cur) (hg : W.grownBy W' row) (hr : ∀ k, row = some k → w.heap.size + 3 ≤ k) : CpS w W' st cur := by
 have hz := h.z
 have keep : ∀ b, b < w.heap.size + 3 → W'.heap[b]? = W.heap[b]? := fun b hb => hg.block b (by omega) (fun e => by have := hr b e.symm; omega)
 exact ⟨(keep _ (by omega)).trans h.s, (keep _ (by omega)).trans h.r, (keep _ (by omega)).trans h.o, h.b.trans ⟨hg.os, hg.tape, hg.output, hg.size, fun b hb => keep b (by omega)⟩⟩
theorem CpS.set {w W : World} {st cur : List Value} (h : CpS w W st cur) (j : Nat) (v : Value) : CpS w (W.setCell ⟨w.heap.size + 1 + 1, j, none⟩ v) st (cur.set j v) := by
 refine ⟨(heap_setCell_other W ⟨w.heap.size + 1 + 1, j, none⟩ _ v (by show w.heap.size ≠ w.heap.size + 1 + 1; omega)).trans h.s, (heap_setCell_other W ⟨w.heap.size + 1 + 1, j, none⟩ _ v (by show w.heap.size + 1 ≠ w.heap.size + 1 + 1; omega)).trans h.r, ?_, h.b.setCell (p := ⟨w.heap.size + 1 + 1, j, none⟩) (by show w.heap.size ≤ w.heap.size + 1 + 1; omega) v⟩
 have := heap_setCell_same W (w.heap.size + 1 + 1) j cur.toArray 29 v h.o
 rw [List.setIfInBounds_toArray] at this
 exact this
theorem CpS.cs {w W : World} {st cur : List Value} (h : CpS w W st cur) : W.rangeAt w.heap.size 0 st := fun j v hj => by
 rw [cell_of_row W _ _ _ 29 (0, 0) h.s, Nat.zero_add]; simpa using hj
theorem CpS.co {w W : World} {st cur : List Value} (h : CpS w W st cur) : W.rangeAt (w.heap.size + 1 + 1) 0 cur := fun j v hj => by
 rw [cell_of_row W _ _ _ 29 (0, 0) h.o, Nat.zero_add]; simpa using hj
theorem CpS.fo {w W : World} {st cur : List Value} (h : CpS w W st cur) (j : Nat) : W.frozen? ⟨w.heap.size + 1 + 1, j, none⟩ = false := frozen_of_row W _ j _ 29 h.o
theorem CpS.fr {w W : World} {st cur : List Value} (h : CpS w W st cur) (j : Nat) : W.frozen? ⟨w.heap.size + 1, j, none⟩ = false := frozen_of_row W _ j _ 29 h.r
theorem kq_set {lo hi ob j : Nat} {W : World} (h : ob < lo) (v : Value) : Kq (Qr lo hi) W (W.setCell ⟨ob, j, none⟩ v) := Kq.set (fun hq => by have := hq.1; omega) v
theorem kq_grown {lo : Nat} {W W' : World} {row : Option Nat} {hi : Nat} (hhi : hi ≤ W.heap.size) (hg : W.grownBy W' row) (hr : ∀ k, row = some k → hi ≤ k) : Kq (Qr lo hi) W W' := ⟨hg.size, fun b hb => hg.block b (Nat.lt_of_lt_of_le hb.2 hhi) (fun e => by have := hr b e.symm; have := hb.2; omega)⟩
end Go.Proofs.Ytblofbdncolikaa
