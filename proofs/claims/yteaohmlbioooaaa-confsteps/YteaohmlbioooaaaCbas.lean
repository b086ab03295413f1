/- Lists of numbers in memory; what package slices does with them; rises, Voter, learner, sorted. -/
import Derived.Test.YteaohmlbioooaaaCmat
import Derived.Test.YteaohmlbioooaaaShelf
import Derived.Sort.OwnSortedInts
import Derived.WalkLawsBesides
import Derived.KernelRfl
import Derived.ProofKit
import Derived.WalkKit
namespace Go.Proofs.Yteaohmlbioooaaa
open Go.RowKit

theorem hidOf {p : Prop} (h : p) : Hid p := h
theorem below1 (w : World) (a : Obj) : Below w.heap.size w (w.alloc a) := (Below.refl _ w).alloc (Nat.le_refl _) _
theorem below2 (w : World) (a b : Obj) : Below w.heap.size w ((w.alloc a).alloc b) := ((Below.refl _ w).alloc (Nat.le_refl _) _).alloc (by simp) _
theorem heap_lt {w : World} {k : Nat} {o : Obj} (h : w.heap[k]? = some o) : k < w.heap.size := (Array.getElem?_eq_some_iff.1 h).1
theorem below_then {w a b : World} (h : Below w.heap.size w a) (k : Below a.heap.size a b) : Below w.heap.size w b := h.trans (k.mono h.size)

/- the numbers l lie behind the address a -/
structure Ints (w : World) (a : Option Addr) (l : List Int) : Prop where
  len : l.length ≤ 17592186044416
  cells : l ≠ [] → ∃ b off, a = some ⟨b, off, none⟩ ∧ b < w.heap.size ∧ ∀ j, j < l.length → w.cell? ⟨b, off + j, none⟩ = some (.int .i64 (nth l j))
theorem Ints.grow {w w' : World} {a : Option Addr} {l : List Int} (h : Ints w a l) (hb : Below w.heap.size w w') : Ints w' a l := by
  refine ⟨h.len, fun hne => ?_⟩
  obtain ⟨b, off, h1, h2, h3⟩ := h.cells hne
  exact ⟨b, off, h1, Nat.lt_of_lt_of_le h2 hb.size, fun j hj => (hb.cell (p := ⟨b, off + j, none⟩) h2).trans (h3 j hj)⟩
theorem Ints.at {w : World} {a : Option Addr} {l : List Int} (h : Ints w a l) {k : Nat} (hk : k < l.length) : ∃ b off, a = some ⟨b, off, none⟩ ∧ b < w.heap.size ∧ ∀ j, j < l.length → w.cell? ⟨b, off + j, none⟩ = some (.int .i64 (nth l j)) :=
  h.cells (fun e => by subst e; simp at hk)
theorem Ints.nil (w : World) (a : Option Addr) : Ints w a [] := ⟨by simp, fun h => absurd rfl h⟩

/- a list of the call's own, in blocks from D on -/
structure Row (w : World) (D : Nat) (v : Value) (l : List Int) : Prop where
  own : w.ownsRow D 3 1 v l.length (l.map (Value.int .i64))
  len : l.length ≤ 17592186044416
theorem Row.nil (w : World) (D : Nat) : Row w D (.slice none 0 0) [] := ⟨⟨rfl, .inl ⟨rfl, rfl⟩⟩, by simp⟩
theorem Row.slice {w : World} {D : Nat} {v : Value} {l : List Int} (h : Row w D v l) : ∃ a cap, v = .slice a l.length cap ∧ Ints w a l ∧ l.length ≤ cap ∧ (∀ x, a = some x → D ≤ x.block ∧ x.block < w.heap.size) ∧ (a = none → cap = 0) := by
  rcases h.own.2 with ⟨rfl, e⟩ | ⟨g, cap, cur, rfl, h3, h4, h5, h6, h7, h8⟩
  · refine ⟨none, 0, by rw [e], ⟨h.len, fun hne => absurd (List.eq_nil_of_length_eq_zero e) hne⟩, by omega, fun x hx => (by cases hx), fun _ => rfl⟩
  · refine ⟨_, cap, rfl, ⟨h.len, fun hne => ⟨g, 0, rfl, heap_lt h4, fun j hj => ?_⟩⟩, h5, fun x hx => by cases hx; exact ⟨h3, heap_lt h4⟩, fun e => by cases e⟩
    have h9 : (cur.toList.take (l.length * 1))[j]? = (l.map (Value.int .i64))[j]? := by rw [h8]
    rw [List.getElem?_take_of_lt (by omega)] at h9
    rw [cell_of_row w g (0 + j) cur 3 (0, 0) h4, Nat.zero_add, ← Array.getElem?_toList, h9, nth_get hj]
    simp [hj]
theorem Row.grow {w w' : World} {D : Nat} {v : Value} {l : List Int} (h : Row w D v l) (hb : Below w.heap.size w w') : Row w' D v l := by
  refine ⟨⟨h.own.1, ?_⟩, h.len⟩
  rcases h.own.2 with h2 | ⟨g, cap, cur, rfl, h3, h4, h5⟩
  · exact .inl h2
  · exact .inr ⟨g, cap, cur, rfl, h3, (hb.block g (heap_lt h4)).trans h4, h5⟩
theorem Row.down {w : World} {D D' : Nat} {v : Value} {l : List Int} (h : Row w D v l) (hD : D' ≤ D) : Row w D' v l := by
  refine ⟨⟨h.own.1, ?_⟩, h.len⟩
  rcases h.own.2 with h2 | ⟨g, cap, cur, rfl, h3, h4, h5⟩
  · exact .inl h2
  · exact .inr ⟨g, cap, cur, rfl, Nat.le_trans hD h3, h4, h5⟩

theorem contains_any (w : World) (a : Option Addr) (l : List Int) (cap : Nat) (x : Int) (h : Ints w a l) : Calls Try.prog 40 #[.slice a l.length cap, .int .i64 x] w fun e w' => e = .returned (.bool (l.contains x)) ∧ w' = w := by
  by_cases e : l = []
  · subst e
    exact Try.slices_Contains_int_empty a cap x w
  · obtain ⟨b, off, rfl, hb, hc⟩ := h.cells e
    have hl := h.len
    have := Try.slices_Contains_int b off l.length cap l x w (Nat.le_refl _) (by omega) hc
    rw [List.take_length] at this
    exact this
theorem search_any (w : World) (a : Option Addr) (l : List Int) (cap : Nat) (x : Int) (h : Ints w a l) (hs : l.Pairwise (· ≤ ·)) : Calls Try.prog 41 #[.slice a l.length cap, .int .i64 x] w fun e w' => e = .returned (.tuple #[.int .i64 (l.countP (· < x) : Nat), .bool (l.contains x)]) ∧ Below w.heap.size w w' := by
  by_cases e : l = []
  · subst e
    exact (Try.slices_BinarySearch_int_empty a cap x w).mono fun e w' ⟨h1, h2⟩ => ⟨h1, by rw [h2]; exact Below.refl _ _⟩
  · obtain ⟨b, off, rfl, hb, hc⟩ := h.cells e
    have hl := h.len
    have := Try.slices_BinarySearch_int b off l.length cap l x w (Nat.le_refl _) (by omega) hc (by rw [List.take_length]; exact hs)
    rw [List.take_length] at this
    exact this.mono fun e w' ⟨h1, q, h2⟩ => ⟨h1, by rw [h2]; exact ⟨rfl, rfl, rfl, Nat.le_refl _, fun _ _ => rfl⟩⟩
theorem clone_any (w : World) (a : Option Addr) (l : List Int) (cap : Nat) (h : Ints w a l) : Calls Try.prog 43 #[.slice a l.length cap] w fun e w' => ∃ v, e = .returned v ∧ Row w' w.heap.size v l ∧ Below w.heap.size w w' := by
  by_cases e : l = []
  · subst e
    cases a with
    | none => exact (Try.slices_Clone_int_nil 0 cap w).mono fun e w' ⟨h1, h2⟩ => ⟨_, h1, Row.nil _ _, by rw [h2]; exact Below.refl _ _⟩
    | some a => exact (Try.slices_Clone_int_zero a cap w).mono fun e w' ⟨v, h1, h2, _, h3⟩ => ⟨v, h1, ⟨h2, by simp⟩, h3⟩
  · obtain ⟨b, off, rfl, hb, hc⟩ := h.cells e
    have hl := h.len
    have := Try.slices_Clone_int b off l.length cap l w (Nat.le_refl _) (by omega) hc
    rw [List.take_length] at this
    exact this.mono fun e w' ⟨v, h1, h2, _, h3⟩ => ⟨v, h1, ⟨h2, hl⟩, h3⟩
theorem sort_any (w : World) (D : Nat) (v : Value) (l : List Int) (h : Row w D v l) (hD : D ≤ w.heap.size) : Calls Try.prog 48 #[v] w fun e w' => e = .returned (.tuple #[]) ∧ Row w' D v (srt l) ∧ Below D w w' := by
  rcases h.own.2 with ⟨rfl, e⟩ | ⟨g, cap, cur, rfl, h3, h4, h5, h6, h7, h8⟩
  · obtain rfl := List.eq_nil_of_length_eq_zero e
    exact (Try.slices_Sort_int_none none 0 w).mono fun e w' ⟨h1, h2⟩ => ⟨h1, by rw [h2, show srt [] = [] by simp [srt]]; exact Row.nil _ _, by rw [h2]; exact Below.refl _ _⟩
  · have hl := h.len
    have := Try.slices_Sort_int g 0 cap l w (Go.holds_of_blockI h4 (by simpa using h8)) (heap_lt h4) (by omega)
    refine this.mono fun e w' ⟨h1, n, os, h2⟩ => ⟨h1, ?_, ?_⟩
    · refine ⟨?_, by rw [srt_length]; exact hl⟩
      rw [h2, srt_length]
      exact Go.ownsRow_sortedI (ts := srt l) (srt_length l) h3 h4 h5 h6 h7
    · rw [h2]
      exact (Below.refl D w).grown (Go.grownBy_sortedI _) hD (fun k hk => by cases hk; exact h3)

/- a pair of lists in block k -/
def Bx (w : World) (k : Nat) (x y : Value) : Prop := w.heap[k]? = some (.cells #[x, y] 24 (0, 0))
theorem Bx.c0 {w : World} {k : Nat} {x y : Value} (h : Bx w k x y) : w.cell? ⟨k, 0, none⟩ = some x := by rw [cell_of_row w k 0 _ 24 (0, 0) h]; rfl
theorem Bx.c1 {w : World} {k : Nat} {x y : Value} (h : Bx w k x y) : w.cell? ⟨k, 1, none⟩ = some y := by rw [cell_of_row w k 1 _ 24 (0, 0) h]; rfl
theorem Bx.fr {w : World} {k : Nat} {x y : Value} (h : Bx w k x y) (j : Nat) : w.frozen? ⟨k, j, none⟩ = false := by
  have h' : w.heap[k]? = _ := h
  simp [World.frozen?, h']
theorem Bx.lt {w : World} {k : Nat} {x y : Value} (h : Bx w k x y) : k < w.heap.size := heap_lt h
theorem Bx.grow {w w' : World} {k : Nat} {x y : Value} (h : Bx w k x y) (hb : Below w.heap.size w w') : Bx w' k x y := (hb.block k h.lt).trans h
theorem bx_new (w : World) (x y : Value) : Bx (w.alloc (.cells #[x, y] 24)) w.heap.size x y := heap_alloc_new w _
theorem Bx.set {w : World} {k : Nat} {x y : Value} (h : Bx w k x y) (x' y' : Value) : Bx ((w.setCell ⟨k, 0, none⟩ x').setCell ⟨k, 1, none⟩ y') k x' y' := by
  show _ = _
  rw [heap_setCell_same _ k 1 _ 24 _ (heap_setCell_same w k 0 _ 24 _ h)]
  rfl

set_option maxHeartbeats 400000 in
theorem voter_any (w : World) (av al : Option Addr) (V L : List Int) (cv cl : Nat) (s : Int) (h : Ints w av V) : Calls Try.prog 16 #[.agg #[.slice av V.length cv, .slice al L.length cl], .int .i64 s] w fun e w' => e = .returned (.bool (V.contains s)) ∧ Below w.heap.size w w' := by
  have hc := fun o : Obj => contains_any (w.alloc o) av V cv s (h.grow (below1 w o))
  have HC := hidOf hc
  clear hc h
  generalize V.contains s = b at HC ⊢
  go_enter Try.func16, Try.ntmps16
  go_wp2_with (go_at_call 40; refine (HC.out _).mono ?_; rintro e w' ⟨rfl, rfl⟩)
  go_ret
  exact ⟨rfl, below1 w _⟩
set_option maxHeartbeats 400000 in
theorem learner_any (w : World) (av al : Option Addr) (V L : List Int) (cv cl : Nat) (s : Int) (h : Ints w al L) : Calls Try.prog 36 #[.agg #[.slice av V.length cv, .slice al L.length cl], .int .i64 s] w fun e w' => e = .returned (.bool (L.contains s)) ∧ Below w.heap.size w w' := by
  have hc := fun o : Obj => contains_any (w.alloc o) al L cl s (h.grow (below1 w o))
  have HC := hidOf hc
  clear hc h
  generalize L.contains s = b at HC ⊢
  go_enter Try.func36, Try.ntmps36
  go_wp2_with (go_at_call 40; refine (HC.out _).mono ?_; rintro e w' ⟨rfl, rfl⟩)
  go_ret
  exact ⟨rfl, below1 w _⟩
set_option maxHeartbeats 400000 in
theorem sorted_any (w : World) (a : Option Addr) (l : List Int) (cap : Nat) (h : Ints w a l) : Calls Try.prog 32 #[.slice a l.length cap] w fun e w' => ∃ v, e = .returned v ∧ Row w' w.heap.size v (srt l) ∧ Below w.heap.size w w' := by
  have HI := hidOf h
  clear h
  go_enter Try.func32, Try.ntmps32
  go_wp2_with (first
    | (go_at_call 43; refine (clone_any w a l cap HI.out).mono ?_; rintro e w1 ⟨v, rfl, hr, hb⟩; have HR := hidOf hr; have HB := hidOf hb; clear hr hb)
    | (go_at_call 48; refine (sort_any w1 w.heap.size v l HR.out HB.out.size).mono ?_; rintro e w2 ⟨rfl, hr2, hb2⟩))
  go_ret
  exact ⟨v, rfl, hr2, HB.out.trans hb2⟩
set_option maxHeartbeats 1000000 in
theorem rises_any (w : World) (a : Option Addr) (l : List Int) (cap : Nat) (h : Ints w a l) : Calls Try.prog 35 #[.slice a l.length cap] w fun e w' => e = .returned (.bool (risF 0 l)) ∧ w' = w := by
  have HI := hidOf h
  have hl := h.len
  clear h
  go_enter Try.func35, Try.ntmps35
  go_wp2
  go_loop [3, 7] (fun p i => ∃ (k : Nat) (q : Int), p = .int .i64 q ∧ i = .int .i64 (k : Int) ∧ k ≤ l.length ∧ Hid (risF 0 l = risF q (l.drop k))) (fun _ i => l.length - (intOf i).toNat)
  case atStart => exact ⟨0, 0, rfl, rfl, Nat.zero_le _, hidOf rfl⟩
  case round =>
    obtain ⟨k, q, rfl, rfl, hk, HE⟩ := hrel
    by_cases hlt : k < l.length
    · have hltz : (k : Int) < (l.length : Int) := by omega
      obtain ⟨b, off, rfl, hb, hc⟩ := HI.out.at hlt
      have c0 := hc k hlt
      have HN := hidOf (drop_nth hlt)
      generalize nth l k = x at c0 HN
      clear hc
      by_cases h1 : x ≤ q
      · go_wp2
        go_ret
        refine ⟨?_, rfl⟩
        rw [HE.out, HN.out]
        have e : decide (q < x ∧ x ≤ 5) = false := decide_eq_false (by omega)
        rw [risF, e, Bool.false_and]; rfl
      · by_cases h2 : 5 < x
        · go_wp2
          go_ret
          refine ⟨?_, rfl⟩
          rw [HE.out, HN.out]
          have e : decide (q < x ∧ x ≤ 5) = false := decide_eq_false (by omega)
          rw [risF, e, Bool.false_and]; rfl
        · go_wp2
          go_round
          case rel =>
            refine ⟨k + 1, x, rfl, by go_num, by omega, hidOf ?_⟩
            rw [HE.out, HN.out]
            have e : decide (q < x ∧ x ≤ 5) = true := decide_eq_true (by omega)
            simp only [risF, e, Bool.true_and]
          case measure => simp [intOf]; omega
    · obtain rfl : k = l.length := by omega
      go_wp2
      go_ret
      refine ⟨?_, rfl⟩
      rw [HE.out, List.drop_length]
      rfl
end Go.Proofs.Yteaohmlbioooaaa
