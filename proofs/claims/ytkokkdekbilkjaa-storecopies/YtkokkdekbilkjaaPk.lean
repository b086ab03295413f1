/- Numbers written over numbers: a store in memory stays one. -/
import Derived.Test.YtkokkdekbilkjaaRc
namespace Go.Proofs.Ytkokkdekbilkjaa
open Go.RowKit Go.Shelf
attribute [local go_sem] Oper.semAt_some
def lik (v v' : Value) : Prop := v' = v ∨ (∃ i j, v = .int .i64 i ∧ v' = .int .i64 j) ∨ ∃ i j, v = .bool i ∧ v' = .bool j
theorem lik.int {i : Int} {v' : Value} (h : lik (.int .i64 i) v') : ∃ j, v' = .int .i64 j := by
  rcases h with h | ⟨a, b, _, h⟩ | ⟨a, b, h, _⟩
  · exact ⟨i, h⟩
  · exact ⟨b, h⟩
  · cases h
theorem lik.bool {i : Bool} {v' : Value} (h : lik (.bool i) v') : ∃ j, v' = .bool j := by
  rcases h with h | ⟨a, b, h, _⟩ | ⟨a, b, _, h⟩
  · exact ⟨i, h⟩
  · cases h
  · exact ⟨b, h⟩
theorem lik.sl {a : Option Addr} {n c : Nat} {v' : Value} (h : lik (.slice a n c) v') : v' = .slice a n c := by
  rcases h with h | ⟨a, b, h, _⟩ | ⟨a, b, h, _⟩
  · exact h
  · cases h
  · cases h
/- numbers and truths may have become others, nothing else -/
structure Pk (w W : World) : Prop where
  size : w.heap.size ≤ W.heap.size
  cell : ∀ b o v, w.cell? ⟨b, o, none⟩ = some v → ∃ v', W.cell? ⟨b, o, none⟩ = some v' ∧ lik v v'
  uf : ∀ b, Uf w b → Uf W b
theorem Pk.refl (w : World) : Pk w w := ⟨Nat.le_refl _, fun _ _ v h => ⟨v, h, .inl rfl⟩, fun _ h => h⟩
theorem Pk.trans {a b c : World} (h : Pk a b) (k : Pk b c) : Pk a c := by
  refine ⟨Nat.le_trans h.size k.size, fun x o v hv => ?_, fun x hx => k.uf x (h.uf x hx)⟩
  obtain ⟨v1, h1, l1⟩ := h.cell x o v hv
  obtain ⟨v2, h2, l2⟩ := k.cell x o v1 h1
  refine ⟨v2, h2, ?_⟩
  rcases l1 with rfl | ⟨i, j, rfl, rfl⟩ | ⟨i, j, rfl, rfl⟩
  · exact l2
  · obtain ⟨j2, rfl⟩ := l2.int
    exact .inr (.inl ⟨i, j2, rfl, rfl⟩)
  · obtain ⟨j2, rfl⟩ := l2.bool
    exact .inr (.inr ⟨i, j2, rfl, rfl⟩)
theorem cell_lt {w : World} {b o : Nat} {v : Value} (h : w.cell? ⟨b, o, none⟩ = some v) : b < w.heap.size := by
  rcases Nat.lt_or_ge b w.heap.size with h1 | h1
  · exact h1
  · rw [World.cell?_of_block (w := {w with heap := #[]}) (w' := w) (show w.heap[b]? = (#[] : Array Obj)[b]? by rw [Array.getElem?_eq_none h1]; simp)] at h
    have : ({w with heap := #[]} : World).cell? ⟨b, o, none⟩ = none := by simp [World.cell?]
    rw [this] at h; cases h
theorem Pk.bel {w W : World} (h : Below w.heap.size w W) : Pk w W :=
  ⟨h.size, fun b o v hv => ⟨v, (hb_cell h (cell_lt hv)).trans hv, .inl rfl⟩, fun b hb => hb.to (h.block b (by obtain ⟨cs, t, hc⟩ := hb; exact heap_lt hc))⟩
theorem Pk.set {w : World} {b o : Nat} {u v : Value} (h : w.cell? ⟨b, o, none⟩ = some u) (hl : lik u v) : Pk w (w.setCell ⟨b, o, none⟩ v) := by
  refine ⟨by simp, fun x q z hz => ?_, fun x hx => ?_⟩
  · by_cases e : (⟨b, o, none⟩ : Addr) = ⟨x, q, none⟩
    · cases e
      rw [h] at hz
      cases hz
      exact ⟨v, World.cell?_setCell_same _ _ _ h, hl⟩
    · exact ⟨z, (World.cell?_setCell_other _ _ _ _ e).trans hz, .inl rfl⟩
  · by_cases e : x = b
    · subst e
      obtain ⟨cs, t, hc⟩ := hx
      exact ⟨_, t, heap_setCell_same w x o cs t v hc⟩
    · exact hx.to (heap_setCell_other w ⟨b, o, none⟩ x v e)
theorem list_of {α : Type} (n : Nat) (P : Nat → α → Prop) (h : ∀ i, i < n → ∃ x, P i x) : ∃ L : List α, L.length = n ∧ ∀ i (hi : i < L.length), P i L[i] := by
  induction n with
  | zero => exact ⟨[], rfl, fun i hi => by simp at hi⟩
  | succ n ih =>
    obtain ⟨L, hl, hp⟩ := ih (fun i hi => h i (by omega))
    obtain ⟨x, hx⟩ := h n (by omega)
    refine ⟨L ++ [x], by simp [hl], fun i hi => ?_⟩
    by_cases h1 : i < L.length
    · rw [List.getElem_append_left h1]; exact hp i h1
    · have : i = L.length := by simp at hi; omega
      subst this
      rw [List.getElem_concat_length rfl]
      rw [hl]; exact hx
/- a list of records stays one; R: what is kept of each -/
theorem Fl.poke {α : Type} {cs : α → List Value} {R : α → α → Prop} (hR : ∀ {w W : World}, Pk w W → ∀ b o x, w.rangeAt b o (cs x) → ∃ x', W.rangeAt b o (cs x') ∧ R x x') {w W : World} (hp : Pk w W) {S S' : Nat → Prop} (hm : ∀ b, S b → S' b) {k y : Nat} {a : Option Addr} {L : List α} (h : Fl w S k y cs a L) :
    ∃ L', Fl W S' k y cs a L' ∧ L'.length = L.length ∧ ∀ i (h1 : i < L.length) (h2 : i < L'.length), R L[i] L'[i] := by
  by_cases hne : L = []
  · subst hne
    exact ⟨[], Fl.nil W S' k y cs a, rfl, fun i h1 => by simp at h1⟩
  · obtain ⟨b, off, rfl, hS, hc⟩ := h.pl hne
    obtain ⟨L', hl, hL⟩ := list_of L.length (fun i x' => ∀ hi : i < L.length, W.rangeAt b (off + i * k) (cs x') ∧ R L[i] x') (fun i hi => by
      obtain ⟨x', h1, h2⟩ := hR hp b _ _ (hc i hi)
      exact ⟨x', fun _ => ⟨h1, h2⟩⟩)
    exact ⟨L', ⟨by rw [hl]; exact h.bd, fun _ => ⟨b, off, rfl, hm b hS, fun i hi => (hL i hi (by omega)).1⟩⟩, hl, fun i h1 h2 => (hL i h2 h1).2⟩
theorem range_cons {w : World} {b o : Nat} {v : Value} {l : List Value} (h : w.cell? ⟨b, o, none⟩ = some v) (hl : w.rangeAt b (o + 1) l) : w.rangeAt b o (v :: l) := by
  intro j u hj
  cases j with
  | zero => simp at hj; subst hj; exact h
  | succ j => have := hl j u (by simpa using hj); rw [show o + (j + 1) = o + 1 + j by omega]; exact this
theorem range_nil {w : World} {b o : Nat} : w.rangeAt b o [] := by intro j u hj; simp at hj
theorem range_un {w : World} {b o : Nat} {v : Value} {l : List Value} (h : w.rangeAt b o (v :: l)) : w.cell? ⟨b, o, none⟩ = some v ∧ w.rangeAt b (o + 1) l :=
  ⟨h 0 v rfl, fun j u hj => by have := h (j + 1) u (by simpa using hj); rw [show o + 1 + j = o + (j + 1) by omega]; exact this⟩
theorem Gp.poke {w W : World} (hp : Pk w W) (b o : Nat) (x : Gp) (h : w.rangeAt b o x.cs) : ∃ x', W.rangeAt b o (Gp.cs x') ∧ (fun _ _ => True) x x' := by
  obtain ⟨c0, r0⟩ := range_un h
  obtain ⟨v0, d0, l0⟩ := hp.cell _ _ _ c0
  obtain ⟨j0, rfl⟩ := l0.int
  obtain ⟨c1, r1⟩ := range_un r0
  obtain ⟨v1, d1, l1⟩ := hp.cell _ _ _ c1
  obtain ⟨j1, rfl⟩ := l1.int
  obtain ⟨c2, r2⟩ := range_un r1
  obtain ⟨v2, d2, l2⟩ := hp.cell _ _ _ c2
  obtain ⟨j2, rfl⟩ := l2.int
  exact ⟨⟨j0, j1, j2⟩, range_cons d0 (range_cons d1 (range_cons d2 (range_nil))), trivial⟩
theorem Js.poke {w W : World} (hp : Pk w W) (b o : Nat) (x : Js) (h : w.rangeAt b o x.cs) : ∃ x', W.rangeAt b o (Js.cs x') ∧ (fun x x' => x'.ga = x.ga ∧ x'.gl = x.gl ∧ x'.gc = x.gc) x x' := by
  obtain ⟨c0, r0⟩ := range_un h
  obtain ⟨v0, d0, l0⟩ := hp.cell _ _ _ c0
  obtain ⟨j0, rfl⟩ := l0.int
  obtain ⟨c1, r1⟩ := range_un r0
  obtain ⟨v1, d1, l1⟩ := hp.cell _ _ _ c1
  obtain ⟨j1, rfl⟩ := l1.int
  obtain ⟨c2, r2⟩ := range_un r1
  obtain ⟨v2, d2, l2⟩ := hp.cell _ _ _ c2
  obtain ⟨j2, rfl⟩ := l2.int
  obtain ⟨c3, r3⟩ := range_un r2
  obtain ⟨v3, d3, l3⟩ := hp.cell _ _ _ c3
  obtain ⟨j3, rfl⟩ := l3.int
  obtain ⟨c4, r4⟩ := range_un r3
  obtain ⟨v4, d4, l4⟩ := hp.cell _ _ _ c4
  have e4 := l4.sl
  subst e4
  obtain ⟨c5, r5⟩ := range_un r4
  obtain ⟨v5, d5, l5⟩ := hp.cell _ _ _ c5
  obtain ⟨j5, rfl⟩ := l5.int
  obtain ⟨c6, r6⟩ := range_un r5
  obtain ⟨v6, d6, l6⟩ := hp.cell _ _ _ c6
  obtain ⟨j6, rfl⟩ := l6.bool
  exact ⟨⟨j0, j1, j2, j3, x.ga, x.gl, x.gc, j5, j6⟩, range_cons d0 (range_cons d1 (range_cons d2 (range_cons d3 (range_cons d4 (range_cons d5 (range_cons d6 (range_nil))))))), ⟨rfl, rfl, rfl⟩⟩
theorem Nd.poke {w W : World} (hp : Pk w W) (b o : Nat) (x : Nd) (h : w.rangeAt b o x.cs) : ∃ x', W.rangeAt b o (Nd.cs x') ∧ (fun _ _ => True) x x' := by
  obtain ⟨c0, r0⟩ := range_un h
  obtain ⟨v0, d0, l0⟩ := hp.cell _ _ _ c0
  obtain ⟨j0, rfl⟩ := l0.int
  obtain ⟨c1, r1⟩ := range_un r0
  obtain ⟨v1, d1, l1⟩ := hp.cell _ _ _ c1
  obtain ⟨j1, rfl⟩ := l1.int
  obtain ⟨c2, r2⟩ := range_un r1
  obtain ⟨v2, d2, l2⟩ := hp.cell _ _ _ c2
  obtain ⟨j2, rfl⟩ := l2.int
  obtain ⟨c3, r3⟩ := range_un r2
  obtain ⟨v3, d3, l3⟩ := hp.cell _ _ _ c3
  obtain ⟨j3, rfl⟩ := l3.bool
  obtain ⟨c4, r4⟩ := range_un r3
  obtain ⟨v4, d4, l4⟩ := hp.cell _ _ _ c4
  obtain ⟨j4, rfl⟩ := l4.bool
  obtain ⟨c5, r5⟩ := range_un r4
  obtain ⟨v5, d5, l5⟩ := hp.cell _ _ _ c5
  obtain ⟨j5, rfl⟩ := l5.int
  obtain ⟨c6, r6⟩ := range_un r5
  obtain ⟨v6, d6, l6⟩ := hp.cell _ _ _ c6
  obtain ⟨j6, rfl⟩ := l6.int
  obtain ⟨c7, r7⟩ := range_un r6
  obtain ⟨v7, d7, l7⟩ := hp.cell _ _ _ c7
  obtain ⟨j7, rfl⟩ := l7.int
  exact ⟨⟨j0, j1, j2, j3, j4, j5, j6, j7⟩, range_cons d0 (range_cons d1 (range_cons d2 (range_cons d3 (range_cons d4 (range_cons d5 (range_cons d6 (range_cons d7 (range_nil)))))))), trivial⟩
theorem Al.poke {w W : World} (hp : Pk w W) (b o : Nat) (x : Al) (h : w.rangeAt b o x.cs) : ∃ x', W.rangeAt b o (Al.cs x') ∧ (fun _ _ => True) x x' := by
  obtain ⟨c0, r0⟩ := range_un h
  obtain ⟨v0, d0, l0⟩ := hp.cell _ _ _ c0
  obtain ⟨j0, rfl⟩ := l0.int
  obtain ⟨c1, r1⟩ := range_un r0
  obtain ⟨v1, d1, l1⟩ := hp.cell _ _ _ c1
  obtain ⟨j1, rfl⟩ := l1.int
  obtain ⟨c2, r2⟩ := range_un r1
  obtain ⟨v2, d2, l2⟩ := hp.cell _ _ _ c2
  obtain ⟨j2, rfl⟩ := l2.int
  obtain ⟨c3, r3⟩ := range_un r2
  obtain ⟨v3, d3, l3⟩ := hp.cell _ _ _ c3
  obtain ⟨j3, rfl⟩ := l3.int
  obtain ⟨c4, r4⟩ := range_un r3
  obtain ⟨v4, d4, l4⟩ := hp.cell _ _ _ c4
  obtain ⟨j4, rfl⟩ := l4.int
  obtain ⟨c5, r5⟩ := range_un r4
  obtain ⟨v5, d5, l5⟩ := hp.cell _ _ _ c5
  obtain ⟨j5, rfl⟩ := l5.int
  obtain ⟨c6, r6⟩ := range_un r5
  obtain ⟨v6, d6, l6⟩ := hp.cell _ _ _ c6
  obtain ⟨j6, rfl⟩ := l6.int
  obtain ⟨c7, r7⟩ := range_un r6
  obtain ⟨v7, d7, l7⟩ := hp.cell _ _ _ c7
  obtain ⟨j7, rfl⟩ := l7.int
  obtain ⟨c8, r8⟩ := range_un r7
  obtain ⟨v8, d8, l8⟩ := hp.cell _ _ _ c8
  obtain ⟨j8, rfl⟩ := l8.int
  obtain ⟨c9, r9⟩ := range_un r8
  obtain ⟨v9, d9, l9⟩ := hp.cell _ _ _ c9
  obtain ⟨j9, rfl⟩ := l9.bool
  obtain ⟨c10, r10⟩ := range_un r9
  obtain ⟨v10, d10, l10⟩ := hp.cell _ _ _ c10
  obtain ⟨j10, rfl⟩ := l10.int
  exact ⟨⟨j0, j1, j2, j3, j4, j5, j6, j7, j8, j9, j10⟩, range_cons d0 (range_cons d1 (range_cons d2 (range_cons d3 (range_cons d4 (range_cons d5 (range_cons d6 (range_cons d7 (range_cons d8 (range_cons d9 (range_cons d10 (range_nil))))))))))), trivial⟩
theorem Qd.poke {w W : World} (hp : Pk w W) (b o : Nat) (x : Qd) (h : w.rangeAt b o x.cs) : ∃ x', W.rangeAt b o (Qd.cs x') ∧ (fun _ _ => True) x x' := by
  obtain ⟨c0, r0⟩ := range_un h
  obtain ⟨v0, d0, l0⟩ := hp.cell _ _ _ c0
  obtain ⟨j0, rfl⟩ := l0.int
  obtain ⟨c1, r1⟩ := range_un r0
  obtain ⟨v1, d1, l1⟩ := hp.cell _ _ _ c1
  obtain ⟨j1, rfl⟩ := l1.int
  obtain ⟨c2, r2⟩ := range_un r1
  obtain ⟨v2, d2, l2⟩ := hp.cell _ _ _ c2
  obtain ⟨j2, rfl⟩ := l2.int
  obtain ⟨c3, r3⟩ := range_un r2
  obtain ⟨v3, d3, l3⟩ := hp.cell _ _ _ c3
  obtain ⟨j3, rfl⟩ := l3.int
  exact ⟨⟨j0, j1, j2, j3⟩, range_cons d0 (range_cons d1 (range_cons d2 (range_cons d3 (range_nil)))), trivial⟩
theorem Ss.poke {w W : World} (hp : Pk w W) (b o : Nat) (x : Ss) (h : w.rangeAt b o x.cs) : ∃ x', W.rangeAt b o (Ss.cs x') ∧ (fun x x' => x'.aa = x.aa ∧ x'.al = x.al ∧ x'.ac = x.ac) x x' := by
  obtain ⟨c0, r0⟩ := range_un h
  obtain ⟨v0, d0, l0⟩ := hp.cell _ _ _ c0
  obtain ⟨j0, rfl⟩ := l0.int
  obtain ⟨c1, r1⟩ := range_un r0
  obtain ⟨v1, d1, l1⟩ := hp.cell _ _ _ c1
  obtain ⟨j1, rfl⟩ := l1.int
  obtain ⟨c2, r2⟩ := range_un r1
  obtain ⟨v2, d2, l2⟩ := hp.cell _ _ _ c2
  obtain ⟨j2, rfl⟩ := l2.int
  obtain ⟨c3, r3⟩ := range_un r2
  obtain ⟨v3, d3, l3⟩ := hp.cell _ _ _ c3
  obtain ⟨j3, rfl⟩ := l3.int
  obtain ⟨c4, r4⟩ := range_un r3
  obtain ⟨v4, d4, l4⟩ := hp.cell _ _ _ c4
  have e4 := l4.sl
  subst e4
  exact ⟨⟨j0, j1, j2, j3, x.aa, x.al, x.ac⟩, range_cons d0 (range_cons d1 (range_cons d2 (range_cons d3 (range_cons d4 (range_nil))))), ⟨rfl, rfl, rfl⟩⟩
theorem JbR.poke {w W : World} (hp : Pk w W) {S S' : Nat → Prop} (hm : ∀ b, S b → S' b) {a : Option Addr} {Ls : List Js} {L : List Jb} (h : JbR w S a Ls L) : ∃ Ls' L', JbR W S' a Ls' L' ∧ Ls'.length = Ls.length := by
  obtain ⟨Ls', hf, hl, hr⟩ := h.row.poke (R := _) (fun hp b o x hx => Js.poke hp b o x hx) hp hm
  obtain ⟨L', hl2, hL⟩ := list_of Ls'.length (fun i (x : Jb) => ∀ hi : i < Ls'.length, ∃ ga gc, Ls'[i] = x.sh ga gc ∧ Fl W S' 3 24 Gp.cs ga x.gs) (fun i hi => by
    have hi1 : i < Ls.length := by omega
    have hi2 : i < L.length := by rw [← h.len]; exact hi1
    obtain ⟨ga, gc, e1, f⟩ := h.dp i hi1 hi2
    obtain ⟨G, f2, g2, _⟩ := f.poke (R := fun _ _ => True) (fun hp b o x hx => Gp.poke hp b o x hx) hp hm
    obtain ⟨q1, q2, q3⟩ := hr i hi1 hi
    refine ⟨⟨Ls'[i].id, Ls'[i].ty, Ls'[i].pr, Ls'[i].pa, G, Ls'[i].ve, Ls'[i].sd⟩, fun _ => ⟨ga, gc, ?_, f2⟩⟩
    rw [e1] at q1 q2 q3
    generalize Ls'[i] = z at *
    cases z
    simp only [Jb.sh] at *
    subst q1 q2 q3
    rw [g2])
  exact ⟨Ls', L', ⟨hl2.symm, hf, fun i h1 h2 => hL i h2 h1⟩, hl⟩
theorem SnR.poke {w W : World} (hp : Pk w W) {S S' : Nat → Prop} (hm : ∀ b, S b → S' b) {a : Option Addr} {Ls : List Ss} {L : List Sn} (h : SnR w S a Ls L) : ∃ Ls' L', SnR W S' a Ls' L' ∧ Ls'.length = Ls.length := by
  obtain ⟨Ls', hf, hl, hr⟩ := h.row.poke (R := _) (fun hp b o x hx => Ss.poke hp b o x hx) hp hm
  obtain ⟨L', hl2, hL⟩ := list_of Ls'.length (fun i (x : Sn) => ∀ hi : i < Ls'.length, ∃ ga gc, Ls'[i] = x.sh ga gc ∧ Fl W S' 11 88 Al.cs ga x.al) (fun i hi => by
    have hi1 : i < Ls.length := by omega
    have hi2 : i < L.length := by rw [← h.len]; exact hi1
    obtain ⟨ga, gc, e1, f⟩ := h.dp i hi1 hi2
    obtain ⟨G, f2, g2, _⟩ := f.poke (R := fun _ _ => True) (fun hp b o x hx => Al.poke hp b o x hx) hp hm
    obtain ⟨q1, q2, q3⟩ := hr i hi1 hi
    refine ⟨⟨Ls'[i].cl, Ls'[i].rq, Ls'[i].co, Ls'[i].va, G⟩, fun _ => ⟨ga, gc, ?_, f2⟩⟩
    rw [e1] at q1 q2 q3
    generalize Ls'[i] = z at *
    cases z
    simp only [Sn.sh] at *
    subst q1 q2 q3
    rw [g2])
  exact ⟨Ls', L', ⟨hl2.symm, hf, fun i h1 h2 => hL i h2 h1⟩, hl⟩
theorem StR.poke {w W : World} (hp : Pk w W) {S S' : Nat → Prop} (hm : ∀ b, S b → S' b) {s : Sc} {J B : List Js} {X : List Ss} {d : St} (h : StR w S s J B X d) : ∃ J' B' X' d', StR W S' s J' B' X' d' ∧ d'.ix = d.ix ∧ d'.nx = d.nx := by
  obtain ⟨J', jd, hj, lj⟩ := h.j.poke hp hm
  obtain ⟨B', bd, hb, lb⟩ := h.b.poke hp hm
  obtain ⟨X', xd, hx, lx⟩ := h.x.poke hp hm
  obtain ⟨n', hn, ln, _⟩ := h.f.f4.poke (R := fun _ _ => True) (fun hp b o x hx => Nd.poke hp b o x hx) hp hm
  obtain ⟨a', ha, la, _⟩ := h.f.f5.poke (R := fun _ _ => True) (fun hp b o x hx => Al.poke hp b o x hx) hp hm
  obtain ⟨e', he, le, _⟩ := h.f.f6.poke (R := fun _ _ => True) (fun hp b o x hx => Qd.poke hp b o x hx) hp hm
  obtain ⟨p', hpp, lp, _⟩ := h.f.f7.poke (R := fun _ _ => True) (fun hp b o x hx => Qd.poke hp b o x hx) hp hm
  exact ⟨J', B', X', ⟨d.ix, d.nx, jd, bd, n', a', e', p', xd⟩, ⟨h.ix, h.nx, ⟨h.f.n2.trans lj.symm, h.f.n3.trans lb.symm, h.f.n4.trans ln.symm, h.f.n5.trans la.symm, h.f.n6.trans le.symm, h.f.n7.trans lp.symm, h.f.n8.trans lx.symm, hj.row, hb.row, hn, ha, he, hpp, hx.row⟩, hj, hb, hx⟩, rfl, rfl⟩
theorem StR.ixnx {w : World} {S : Nat → Prop} {s : Sc} {J B : List Js} {X : List Ss} {d : St} (h : StR w S s J B X d) (i n : Int) : StR w S { s with ix := i, nx := n } J B X { d with ix := i, nx := n } := ⟨rfl, rfl, ⟨h.f.n2, h.f.n3, h.f.n4, h.f.n5, h.f.n6, h.f.n7, h.f.n8, h.f.f2, h.f.f3, h.f.f4, h.f.f5, h.f.f6, h.f.f7, h.f.f8⟩, h.j, h.b, h.x⟩
/- what a change of one place leaves: a store in the same new blocks -/
theorem nbr_poke {lo : Nat} {w W : World} (hp : Pk w W) : ∀ b, NBr lo w b → NBr lo W b := fun b hb => ⟨hb.1, Nat.lt_of_lt_of_le hb.2.1 hp.size, hp.uf b hb.2.2⟩
end Go.Proofs.Ytkokkdekbilkjaa
