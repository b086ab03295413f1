/- Same, of the code and of the document. -/
import Derived.Test.YteaohmlbioooaaaCref1
namespace Go.Proofs.Yteaohmlbioooaaa
open Go.RowKit

theorem equal_any (w : World) (a b : Option Addr) (l m : List Int) (cap cap' : Nat) (h : Ints w a l) (h' : Ints w b m) : Calls Try.prog 38 #[.slice a l.length cap, .slice b m.length cap'] w fun e w' => e = .returned (.bool (l == m)) ∧ Below w.heap.size w w' := by
  have hl := h.len
  have hl' := h'.len
  by_cases hlm : l.length = m.length
  · by_cases hne : l = []
    · subst hne
      have : m = [] := List.eq_nil_of_length_eq_zero (by simpa using hlm.symm)
      subst this
      exact (Try.slices_Equal_int_empty a b cap 0 cap' w (by omega)).mono fun e w' ⟨h1, h2⟩ => ⟨h1, by rw [h2]; exact Below.refl _ _⟩
    · have hne' : m ≠ [] := fun e => hne (List.eq_nil_of_length_eq_zero (by rw [hlm, e]; rfl))
      obtain ⟨b1, o1, rfl, _, hc1⟩ := h.cells hne
      obtain ⟨b2, o2, rfl, _, hc2⟩ := h'.cells hne'
      have := Try.slices_Equal_int b1 o1 l.length cap b2 o2 m.length cap' l m w (Nat.le_refl _) (Nat.le_refl _) (by omega) (by omega) hc1 hc2
      rw [List.take_length, List.take_length] at this
      exact this.mono fun e w' ⟨h1, q, h2⟩ => ⟨h1, by rw [h2]; exact ⟨rfl, rfl, rfl, Nat.le_refl _, fun _ _ => rfl⟩⟩
  · have e : (l == m) = false := by rw [beq_eq_false_iff_ne]; intro e; rw [e] at hlm; exact hlm rfl
    rw [e]
    exact (Try.slices_Equal_int_lens a b l.length cap m.length cap' w hlm).mono fun e w' ⟨h1, h2⟩ => ⟨h1, by rw [h2]; exact Below.refl _ _⟩

/- two servers in the first new blocks -/
structure Db (w z : World) (av al bv bl : Option Addr) (V L V' L' : List Int) (cv cl dv dl : Nat) : Prop where
  cs : Cs w z w.heap.size av al V L cv cl
  ds : Cs (w.alloc (.cells #[.slice av V.length cv, .slice al L.length cl] 24)) z (w.heap.size + 1) bv bl V' L' dv dl
theorem Db.grow {w z z' : World} {av al bv bl : Option Addr} {V L V' L' : List Int} {cv cl dv dl : Nat} (h : Db w z av al bv bl V L V' L' cv cl dv dl) (hb : Below z.heap.size z z') : Db w z' av al bv bl V L V' L' cv cl dv dl := ⟨h.cs.grow hb, h.ds.grow hb⟩
theorem Db.begin {w : World} {av al bv bl : Option Addr} {V L V' L' : List Int} (cv cl dv dl : Nat) (h : Cf w av al V L) (h' : Cf w bv bl V' L') : Db w ((w.alloc (.cells #[.slice av V.length cv, .slice al L.length cl] 24)).alloc (.cells #[.slice bv V'.length dv, .slice bl L'.length dl] 24)) av al bv bl V L V' L' cv cl dv dl := by
  have hK := Cs.begin (w := w.alloc (.cells #[.slice av V.length cv, .slice al L.length cl] 24)) dv dl (h'.grow (below1 w _))
  rw [World.size_alloc] at hK
  exact ⟨(Cs.begin cv cl h).grow (below1 _ _), hK⟩
def sameB (V L V' L' : List Int) : Bool := (V == V') && (L == L')
set_option maxHeartbeats 2000000 in
theorem csame_any (w : World) (av al : Option Addr) (V L : List Int) (cv cl : Nat) (bv bl : Option Addr) (V' L' : List Int) (dv dl : Nat) (h : Cf w av al V L) (h' : Cf w bv bl V' L') : Calls Try.prog 14 #[.agg #[.slice av V.length cv, .slice al L.length cl], .agg #[.slice bv V'.length dv, .slice bl L'.length dl]] w fun e w' => e = .returned (.bool (sameB V L V' L')) ∧ Below w.heap.size w w' := by
  have H0 := hidOf (Db.begin cv cl dv dl h h')
  have h1 := equal_any _ av bv V V' cv dv H0.out.cs.cf.v H0.out.ds.cf.v
  have h2 := fun z h h' => equal_any z al bl L L' cl dl h h'
  unfold sameB
  generalize (V == V') = b1 at h1 ⊢
  generalize (L == L') = b2 at h2 ⊢
  have HE1 := hidOf h1
  have HE2 := hidOf h2
  clear h h' h1 h2
  cases b1
  · go_enter Try.func14, Try.ntmps14
    go_wp2_with (go_at_call 38; refine HE1.out.mono ?_; rintro e w1 ⟨rfl, hb⟩; have H1 := hidOf (H0.out.grow hb); clear hb)
    go_ret
    exact ⟨rfl, H1.out.cs.bel⟩
  · go_enter Try.func14, Try.ntmps14
    go_wp2_with (first
      | (go_at_call 38; refine HE1.out.mono ?_; rintro e w1 ⟨rfl, hb⟩; have H1 := hidOf (H0.out.grow hb); clear hb HE1; have c1 := H1.out.cs.bx.c1; have lt0 := H1.out.cs.bx.lt; have d1 : w1.cell? ⟨w.heap.size + 1, 1, none⟩ = _ := H1.out.ds.bx.c1; have lt1 : w.heap.size + 1 < w1.heap.size := H1.out.ds.bx.lt)
      | (go_at_call 38; refine (HE2.out w1 H1.out.cs.cf.l H1.out.ds.cf.l).mono ?_; rintro e w2 ⟨rfl, hb⟩; have H2 := hidOf (H1.out.grow hb); clear hb))
    go_ret
    exact ⟨by simp, H2.out.cs.bel⟩
set_option maxHeartbeats 2000000 in
theorem rsame_any (w : World) (av al : Option Addr) (V L : List Int) (cv cl : Nat) (bv bl : Option Addr) (V' L' : List Int) (dv dl : Nat) (h : Cf w av al V L) (h' : Cf w bv bl V' L') : Calls Try.prog 15 #[.agg #[.slice av V.length cv, .slice al L.length cl], .agg #[.slice bv V'.length dv, .slice bl L'.length dl]] w fun e w' => e = .returned (.bool (sameB V L V' L')) ∧ Below w.heap.size w w' := by
  have H0 := hidOf (Db.begin cv cl dv dl h h')
  have h1 := same_any _ av bv V V' cv dv H0.out.cs.cf.v H0.out.ds.cf.v
  have h2 := fun z h h' => same_any z al bl L L' cl dl h h'
  unfold sameB
  generalize (V == V') = b1 at h1 ⊢
  generalize (L == L') = b2 at h2 ⊢
  have HE1 := hidOf h1
  have HE2 := hidOf h2
  clear h h' h1 h2
  cases b1
  · go_enter Try.func15, Try.ntmps15
    go_wp2_with (first
      | (go_at_call 39; refine HE1.out.mono ?_; rintro e w1 ⟨rfl, hb⟩; have H1 := hidOf (H0.out.grow hb); clear hb HE1; have c1 := H1.out.cs.bx.c1; have lt0 := H1.out.cs.bx.lt; have d1 : w1.cell? ⟨w.heap.size + 1, 1, none⟩ = _ := H1.out.ds.bx.c1; have lt1 : w.heap.size + 1 < w1.heap.size := H1.out.ds.bx.lt)
      | (go_at_call 39; refine (HE2.out w1 H1.out.cs.cf.l H1.out.ds.cf.l).mono ?_; rintro e w2 ⟨rfl, hb⟩; have H2 := hidOf (H1.out.grow hb); clear hb))
    go_ret
    exact ⟨rfl, H2.out.cs.bel⟩
  · go_enter Try.func15, Try.ntmps15
    go_wp2_with (first
      | (go_at_call 39; refine HE1.out.mono ?_; rintro e w1 ⟨rfl, hb⟩; have H1 := hidOf (H0.out.grow hb); clear hb HE1; have c1 := H1.out.cs.bx.c1; have lt0 := H1.out.cs.bx.lt; have d1 : w1.cell? ⟨w.heap.size + 1, 1, none⟩ = _ := H1.out.ds.bx.c1; have lt1 : w.heap.size + 1 < w1.heap.size := H1.out.ds.bx.lt)
      | (go_at_call 39; refine (HE2.out w1 H1.out.cs.cf.l H1.out.ds.cf.l).mono ?_; rintro e w2 ⟨rfl, hb⟩; have H2 := hidOf (H1.out.grow hb); clear hb))
    go_ret
    exact ⟨by simp, H2.out.cs.bel⟩
end Go.Proofs.Yteaohmlbioooaaa
