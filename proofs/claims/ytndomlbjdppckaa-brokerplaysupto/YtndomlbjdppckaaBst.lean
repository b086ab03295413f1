/- The broker in memory: its items as a list of blocks and what they say, its heap; what a call leaves alone, told by the types of blocks. -/
import Derived.Test.YtndomlbjdppckaaBmap
namespace Go.Proofs.Ytndomlbjdppckaa
open Go.RowKit
variable {D : Nat}

/- w' is w with new blocks, and with writes to blocks of the types T alone -/
def isT (T : List Nat) : Obj → Bool
  | .cells _ t _ => T.contains t
  | .map _ _ => T.contains 9999
  | _ => false
structure FrT (D : Nat) (T : List Nat) (w w' : World) : Prop where
  os : w'.os = w.os
  tape : w'.tape = w.tape
  output : w'.output = w.output
  size : w.heap.size ≤ w'.heap.size
  block : ∀ (k : Nat) (o : Obj), w.heap[k]? = some o → (isT T o = false ∨ k < D) → w'.heap[k]? = some o
theorem FrT.refl (D : Nat) (T : List Nat) (w : World) : FrT D T w w := ⟨rfl, rfl, rfl, Nat.le_refl _, fun _ _ h _ => h⟩
theorem FrT.trans {T : List Nat} {a b c : World} (h : FrT D T a b) (k : FrT D T b c) : FrT D T a c :=
  ⟨k.os.trans h.os, k.tape.trans h.tape, k.output.trans h.output, Nat.le_trans h.size k.size, fun i o hi ho => k.block i o (h.block i o hi ho) ho⟩
theorem FrT.mono {T T' : List Nat} {a b : World} (h : FrT D T a b) (hs : ∀ t ∈ T, t ∈ T') : FrT D T' a b :=
  ⟨h.os, h.tape, h.output, h.size, fun i o hi ho => h.block i o hi (by
    rcases ho with ho | ho
    · left
      cases o with
      | cells c t z =>
        simp only [isT] at ho ⊢
        cases hc : T.contains t with
        | false => rfl
        | true =>
          have h1 : t ∈ T := by simpa using hc
          have h2 := hs t h1
          have h3 : T'.contains t = true := by simpa using h2
          rw [h3] at ho; cases ho
      | map e c =>
        simp only [isT] at ho ⊢
        cases hc : T.contains 9999 with
        | false => rfl
        | true =>
          have h1 : 9999 ∈ T := by simpa using hc
          have h2 := hs 9999 h1
          have h3 : T'.contains 9999 = true := by simpa using h2
          rw [h3] at ho; cases ho
      | _ => rfl
    · exact .inr ho)⟩
theorem FrT.below {T : List Nat} {a b : World} (h : FrT D T a b) (hD : D ≤ a.heap.size) : Below D a b :=
  ⟨h.os, h.tape, h.output, h.size, fun k hk => by
    have h1 := Array.getElem?_eq_getElem (xs := a.heap) (i := k) (by omega)
    rw [h1]; exact h.block k _ h1 (.inr hk)⟩
theorem FrT.of_below {T : List Nat} {a b : World} (h : Below a.heap.size a b) : FrT D T a b := ⟨h.os, h.tape, h.output, h.size, fun k _o hk _ => (h.block k (heap_lt hk)).trans hk⟩
theorem FrT.drew {T : List Nat} {a b : World} (h : FrT D T a b) : FrT D T a b.drew := ⟨h.os, h.tape, h.output, h.size, h.block⟩
theorem FrT.alloc {T : List Nat} {a b : World} (h : FrT D T a b) (o : Obj) : FrT D T a (b.alloc o) := h.trans (FrT.of_below ((Below.refl _ b).alloc (Nat.le_refl _) o))
theorem FrT.set {T : List Nat} {a b : World} {p : Nat} {cs : Array Value} {t : Nat} (h : FrT D T a b) (hp : b.heap[p]? = some (.cells cs t (0, 0))) (ht : t ∈ T) (hD : D ≤ p) (j : Nat) (u : Value) : FrT D T a (b.setCell ⟨p, j, none⟩ u) :=
  h.trans ⟨rfl, rfl, rfl, by simp, fun k o hk ho => by
    by_cases e : k = p
    · subst e
      rw [hp] at hk; cases hk
      have h3 : T.contains t = true := by simpa using ht
      rcases ho with ho | ho
      · have ho' : T.contains t = false := ho
        rw [h3] at ho'; cases ho'
      · omega
    · exact (Below.heap_setCell b ⟨p, j, none⟩ u k e).trans hk⟩
theorem FrT.cells {T : List Nat} {w w' : World} (h : FrT D T w w') {k : Nat} {cs : Array Value} {t : Nat} (hk : w.heap[k]? = some (.cells cs t (0, 0))) (ht : t ∉ T) : w'.heap[k]? = some (.cells cs t (0, 0)) :=
  h.block k _ hk (.inl (by simpa [isT] using ht))
theorem FrT.item {T : List Nat} {w w' : World} (h : FrT D T w w') {b : Nat} {x : Itm} (hx : ItR w b x) (ht : 65 ∉ T) : ItR w' b x := h.cells hx ht
theorem FrT.of_one {T : List Nat} {w w' : World} {p : Nat} {cs : Array Value} {t : Nat} (hp : w.heap[p]? = some (.cells cs t (0, 0))) (ht : t ∈ T) (hD : D ≤ p) (ho : w'.os = w.os) (hta : w'.tape = w.tape) (hou : w'.output = w.output) (hs : w.heap.size ≤ w'.heap.size) (hb : ∀ k, k < w.heap.size → k ≠ p → w'.heap[k]? = w.heap[k]?) : FrT D T w w' :=
  ⟨ho, hta, hou, hs, fun k o hk hko => by
    by_cases e : k = p
    · subst e
      rw [hp] at hk; cases hk
      have h3 : T.contains t = true := by simpa using ht
      rcases hko with hko | hko
      · have ho' : T.contains t = false := hko
        rw [h3] at ho'; cases ho'
      · omega
    · exact (hb k (heap_lt hk) e).trans hk⟩
/- a heap whose blocks stand at D or above -/
structure HpR (D : Nat) (w : World) (p : Nat) (M : List It) (n : Nat) (r : Option Nat) : Prop where
  h : HeapR w p M n r
  lo : D ≤ p
  lr : ∀ k, r = some k → D ≤ k
theorem HpR.frt {w w' : World} {p n : Nat} {M : List It} {r r' : Option Nat} (h : HpR D w p M n r) (hn : NS w w' p r r') : FrT D [78, 82] w w' := by
  obtain ⟨⟨v, L, h1, rfl, _⟩, hlo, hlr⟩ := h
  refine ⟨hn.os, hn.tape, hn.output, hn.size, fun k o hk ho => ?_⟩
  refine (hn.block k (heap_lt hk) (fun e => ?_) (fun e => ?_)).trans hk
  · rcases ho with ho | ho
    · subst e; rw [h1.1] at hk; cases hk; simp [isT] at ho
    · omega
  · rcases ho with ho | ho
    · rcases h1.2.2.2 with ⟨rfl, _⟩ | ⟨g, cap, cur, rfl, h3, h4, h5⟩
      · cases e
      · cases e; rw [h4] at hk; cases hk; simp [isT] at ho
    · have := hlr k e.symm; omega
theorem HpR.keepT {D' : Nat} {T : List Nat} {w w' : World} {p n : Nat} {M : List It} {r : Option Nat} (h : HpR D w p M n r) (hf : FrT D' T w w') (h1 : 78 ∉ T) (h2 : 82 ∉ T) : HpR D w' p M n r := by
  refine ⟨h.h.kept ?_ ?_, h.lo, h.lr⟩
  · obtain ⟨v, L, g1, rfl, _⟩ := h.h
    rw [g1.1]; exact hf.cells g1.1 h1
  · intro k hk
    obtain ⟨v, L, g1, rfl, _⟩ := h.h
    rcases g1.2.2.2 with ⟨rfl, _⟩ | ⟨g, cap, cur, rfl, h3, h4, h5⟩
    · cases hk
    · cases hk; rw [h4]; exact hf.cells h4 h2
theorem HpR.grow {w w' : World} {p n : Nat} {M : List It} {r : Option Nat} (h : HpR D w p M n r) (hb : Below w.heap.size w w') : HpR D w' p M n r := ⟨h.h.grow hb, h.lo, h.lr⟩

/- items -/
def ptr (b : Nat) : Value := .pointer (some ⟨b, 0, none⟩)
def fr (x : Itm) : Bool := !x.tk && x.dl == 0
def ptrs (L : List (Nat × Itm)) : List Value := L.map fun x => ptr x.1
structure Lst D (w : World) (pB pH : Nat) (v : Value) (L : List (Nat × Itm)) : Prop where
  blk : w.heap[pB]? = some (.cells #[v, ptr pH] 58 (0, 0))
  row : w.ownsRow 0 55 1 v L.length (ptrs L)
  its : ∀ x ∈ L, ItR w x.1 x.2
  nd : (L.map (·.1)).Nodup
  lo : D ≤ pB
  lr : ∀ k, v.ownBlock = some k → D ≤ k
  li : ∀ x ∈ L, D ≤ x.1
structure HM (M : List It) (L : List (Nat × Itm)) : Prop where
  sub : ∀ a ∈ M, (a.p, a.x) ∈ L ∧ fr a.x = true
  all : ∀ x ∈ L, fr x.2 = true → ∃ a ∈ M, a.p = x.1
  nd : (M.map (·.p)).Nodup
structure Bk D (w : World) (pB : Nat) (L : List (Nat × Itm)) (N : Nat) : Prop where
  ex : ∃ v pH M n r, Lst D w pB pH v L ∧ HpR D w pH M n r ∧ HM M L ∧ n ≤ N
/- the types that the broker's calls write -/
def TB : List Nat := [55, 58, 65, 78, 82, 9999]

theorem ptrs_length (L : List (Nat × Itm)) : (ptrs L).length = L.length := by simp [ptrs]
theorem own_keepT {T : List Nat} {w w' : World} {e s n : Nat} {v : Value} {xs : List Value} (h : w.ownsRow 0 e s v n xs) (hf : FrT D T w w') (ht : e ∉ T) : w'.ownsRow 0 e s v n xs := by
  refine ⟨h.1, ?_⟩
  rcases h.2 with h2 | ⟨g, cap, cur, rfl, h3, h4, h5⟩
  · exact .inl h2
  · exact .inr ⟨g, cap, cur, rfl, h3, hf.cells h4 ht, h5⟩
theorem Lst.keepT {D' : Nat} {T : List Nat} {w w' : World} {pB pH : Nat} {v : Value} {L : List (Nat × Itm)} (h : Lst D w pB pH v L) (hf : FrT D' T w w') (h1 : 55 ∉ T) (h2 : 58 ∉ T) (h3 : 65 ∉ T) : Lst D w' pB pH v L :=
  ⟨hf.cells h.blk h2, own_keepT h.row hf h1, fun x hx => hf.item (h.its x hx) h3, h.nd, h.lo, h.lr, h.li⟩
theorem Lst.grow {w w' : World} {pB pH : Nat} {v : Value} {L : List (Nat × Itm)} (h : Lst D w pB pH v L) (hb : Below w.heap.size w w') : Lst D w' pB pH v L :=
  h.keepT (D' := 0) (T := []) (FrT.of_below hb) (by simp) (by simp) (by simp)
theorem Bk.grow {w w' : World} {pB N : Nat} {L : List (Nat × Itm)} (h : Bk D w pB L N) (hb : Below w.heap.size w w') : Bk D w' pB L N := by
  obtain ⟨v, pH, M, n, r, h1, h2, h3, h4⟩ := h.ex
  exact ⟨v, pH, M, n, r, h1.grow hb, h2.grow hb, h3, h4⟩
theorem Bk.keep {D' : Nat} {T : List Nat} {w w' : World} {pB N : Nat} {L : List (Nat × Itm)} (h : Bk D w pB L N) (hf : FrT D' T w w') (hT : ∀ t ∈ TB, t ∉ T) : Bk D w' pB L N := by
  obtain ⟨v, pH, M, n, r, h1, h2, h3, h4⟩ := h.ex
  have e : ∀ t, t ∈ TB → t ∉ T := hT
  exact ⟨v, pH, M, n, r, h1.keepT hf (e 55 (by decide)) (e 58 (by decide)) (e 65 (by decide)), h2.keepT hf (e 78 (by decide)) (e 82 (by decide)), h3, h4⟩
theorem Bk.mono {w : World} {pB N N' : Nat} {L : List (Nat × Itm)} (h : Bk D w pB L N) (hN : N ≤ N') : Bk D w pB L N' := by
  obtain ⟨v, pH, M, n, r, h1, h2, h3, h4⟩ := h.ex
  exact ⟨v, pH, M, n, r, h1, h2, h3, Nat.le_trans h4 hN⟩
/- what walks read -/
theorem Lst.cells {w : World} {pB pH : Nat} {v : Value} {L : List (Nat × Itm)} (h : Lst D w pB pH v L) : w.cell? ⟨pB, 0, none⟩ = some v ∧ w.cell? ⟨pB, 1, none⟩ = some (ptr pH) ∧ w.frozen? ⟨pB, 0, none⟩ = false ∧ w.frozen? ⟨pB, 1, none⟩ = false := by
  refine ⟨?_, ?_, ?_, ?_⟩
  · rw [cell_of_row w pB 0 _ 58 (0, 0) h.blk]; rfl
  · rw [cell_of_row w pB 1 _ 58 (0, 0) h.blk]; rfl
  · simp [World.frozen?, h.blk]
  · simp [World.frozen?, h.blk]
theorem Lst.slice {w : World} {pB pH : Nat} {v : Value} {L : List (Nat × Itm)} (h : Lst D w pB pH v L) : ∃ a cap, v = .slice a L.length cap ∧ L.length ≤ maxLen := by
  rcases h.row.2 with ⟨rfl, e⟩ | ⟨g, cap, cur, rfl, _, _, h1, h2, _⟩
  · exact ⟨none, 0, by rw [e], by rw [e]; unfold maxLen; omega⟩
  · exact ⟨_, cap, rfl, Nat.le_trans h1 h2⟩
theorem row_at {w : World} {v : Value} {n : Nat} {xs : List Value} (h : w.ownsRow 0 55 1 v n xs) (i : Nat) (hi : i < n) : ∃ g cap, v = .slice (some ⟨g, 0, none⟩) n cap ∧ g < w.heap.size ∧ ∀ u, xs[i]? = some u → w.cell? ⟨g, i, none⟩ = some u := by
  rcases h.2 with ⟨rfl, e⟩ | ⟨g, cap, cur, rfl, _, h4, h1, h2, h5, h6⟩
  · omega
  · refine ⟨g, cap, rfl, heap_lt h4, fun u hu => ?_⟩
    rw [cell_of_row w g i cur 55 (0, 0) h4]
    rw [← h6, List.getElem?_take, if_pos (by omega), Array.getElem?_toList] at hu
    exact hu
theorem ptrs_get {L : List (Nat × Itm)} {i : Nat} {x : Nat × Itm} (h : L[i]? = some x) : (ptrs L)[i]? = some (ptr x.1) := by simp [ptrs, h]

/- an item's cell is laid anew -/
theorem nd_inj {L : List (Nat × Itm)} (h : (L.map (·.1)).Nodup) {i j : Nat} {x y : Nat × Itm} (hi : L[i]? = some x) (hj : L[j]? = some y) (e : x.1 = y.1) : i = j := by
  have e1 : (L.map (·.1))[i]? = some x.1 := by simp [hi]
  have e2 : (L.map (·.1))[j]? = some y.1 := by simp [hj]
  obtain ⟨l1, e1'⟩ := List.getElem?_eq_some_iff.1 e1
  obtain ⟨l2, e2'⟩ := List.getElem?_eq_some_iff.1 e2
  have hp := List.pairwise_iff_getElem.1 h
  rcases Nat.lt_trichotomy i j with hl | hl | hl
  · exact absurd (e1'.trans (e.trans e2'.symm)) (hp i j l1 l2 hl)
  · exact hl
  · exact absurd (e2'.trans (e.symm.trans e1'.symm)) (hp j i l2 l1 hl)
theorem ptrs_set {L : List (Nat × Itm)} {i b : Nat} {x y : Itm} (h : L[i]? = some (b, x)) : ptrs (L.set i (b, y)) = ptrs L := by
  unfold ptrs
  rw [List.map_set]
  apply List.ext_getElem?
  intro j
  by_cases hj : i = j
  · subst hj
    have hlt := (List.getElem?_eq_some_iff.1 h).1
    rw [List.getElem?_set_self (by simpa using hlt)]
    simp [h]
  · rw [List.getElem?_set_ne hj]
theorem fst_set {L : List (Nat × Itm)} {i b : Nat} {x y : Itm} (h : L[i]? = some (b, x)) : (L.set i (b, y)).map (·.1) = L.map (·.1) := by
  rw [List.map_set]
  apply List.ext_getElem?
  intro j
  by_cases hj : i = j
  · subst hj
    have hlt := (List.getElem?_eq_some_iff.1 h).1
    rw [List.getElem?_set_self (by simpa using hlt)]
    simp [h]
  · rw [List.getElem?_set_ne hj]
theorem mem_set {L : List (Nat × Itm)} {i b : Nat} {x y : Itm} (hn : (L.map (·.1)).Nodup) (h : L[i]? = some (b, x)) {z : Nat × Itm} (hz : z ∈ L.set i (b, y)) : z = (b, y) ∨ (z ∈ L ∧ z.1 ≠ b) := by
  obtain ⟨j, hj⟩ := List.mem_iff_getElem?.1 hz
  by_cases e : i = j
  · subst e
    have hlt := (List.getElem?_eq_some_iff.1 h).1
    rw [List.getElem?_set_self hlt] at hj
    exact .inl (Option.some.inj hj).symm
  · rw [List.getElem?_set_ne e] at hj
    exact .inr ⟨List.mem_of_getElem? hj, fun e2 => e (nd_inj hn h hj e2.symm)⟩
theorem set_mem {L : List (Nat × Itm)} {i b : Nat} {x y : Itm} (h : L[i]? = some (b, x)) {z : Nat × Itm} (hz : z ∈ L) (hb : z.1 ≠ b) : z ∈ L.set i (b, y) := by
  obtain ⟨j, hj⟩ := List.mem_iff_getElem?.1 hz
  have e : i ≠ j := fun e => by subst e; rw [h] at hj; exact hb (by rw [← Option.some.inj hj])
  exact List.mem_of_getElem? (by rw [List.getElem?_set_ne e]; exact hj)
theorem set_self {L : List (Nat × Itm)} {i b : Nat} {x y : Itm} (h : L[i]? = some (b, x)) : (b, y) ∈ L.set i (b, y) :=
  List.mem_of_getElem? (i := i) (by rw [List.getElem?_set_self (List.getElem?_eq_some_iff.1 h).1])
theorem Lst.set {w w' : World} {pB pH : Nat} {v : Value} {L : List (Nat × Itm)} (h : Lst D w pB pH v L) {i b : Nat} {x y : Itm} (hi : L[i]? = some (b, x)) (hy : ItR w' b y) (hb : ∀ k, k < w.heap.size → k ≠ b → w'.heap[k]? = w.heap[k]?) : Lst D w' pB pH v (L.set i (b, y)) := by
  have hx := h.its _ (List.mem_of_getElem? hi)
  have hx' : w.heap[b]? = some (.cells (itC x) 65 (0, 0)) := hx
  have hne : ∀ (k : Nat) (cs : Array Value) (t : Nat), w.heap[k]? = some (.cells cs t (0, 0)) → t ≠ 65 → w'.heap[k]? = some (.cells cs t (0, 0)) := fun k cs t hk ht => by
    refine (hb k (heap_lt hk) (fun e => ?_)).trans hk
    subst e; rw [hx'] at hk; cases hk; exact ht rfl
  refine ⟨hne _ _ _ h.blk (by decide), ?_, fun z hz => ?_, by rw [fst_set hi]; exact h.nd, h.lo, h.lr, fun z hz => ?_⟩
  · rw [List.length_set, ptrs_set hi]
    refine ⟨h.row.1, ?_⟩
    rcases h.row.2 with h2 | ⟨g, cap, cur, rfl, h3, h4, h5⟩
    · exact .inl h2
    · exact .inr ⟨g, cap, cur, rfl, h3, hne _ _ _ h4 (by decide), h5⟩
  · rcases mem_set h.nd hi hz with rfl | ⟨h1, h2⟩
    · exact hy
    · exact ItR.kept (h.its z h1) (hb z.1 (ItR.lt (h.its z h1)) h2)
  · rcases mem_set h.nd hi hz with rfl | ⟨h1, h2⟩
    · exact (h.li (b, x) (List.mem_of_getElem? hi) : D ≤ b)
    · exact h.li z h1

end Go.Proofs.Ytndomlbjdppckaa
