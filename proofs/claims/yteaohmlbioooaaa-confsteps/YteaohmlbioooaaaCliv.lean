/- The law's example: three voters. -/
import Derived.Test.YteaohmlbioooaaaCcoh
namespace Go.Proofs.Yteaohmlbioooaaa
open Go.RowKit

theorem ints_lit (w : World) (l : List Int) (h : l.length ≤ 17592186044416) : Ints (w.alloc (.cells (l.map (Value.int .i64)).toArray 3)) (some ⟨w.heap.size, 0, none⟩) l := by
  refine ⟨h, fun _ => ⟨w.heap.size, 0, rfl, by simp, fun j hj => ?_⟩⟩
  rw [cell_of_row _ w.heap.size (0 + j) _ 3 (0, 0) (heap_alloc_new w _), Nat.zero_add, nth_get hj]
  simp [hj]
theorem maj13 : majB [1, 2, 3] [1, 3] = true := by decide
theorem maj14 : majB [1, 2, 3] [1, 4] = false := by decide
theorem may123 : mayB [1, 2, 3] [] = true := by decide
theorem add1234 : addB [1, 2, 3] [] 4 = true := by decide
theorem agr539 : agr [1, 2, 3] [5, 3, 9] = 5 := by
  refine agr_eq ⟨by decide, Or.inr (by decide), fun t ht => ?_⟩
  have e : cut [1, 2, 3] [5, 3, 9] t ≤ 1 := by
    have h1 : rea [5, 3, 9] 1 = 5 := by decide
    have h2 : rea [5, 3, 9] 2 = 3 := by decide
    have n1 : decide (t ≤ 5) = false := decide_eq_false (by omega)
    have n2 : decide (t ≤ 3) = false := decide_eq_false (by omega)
    unfold cut
    simp only [List.countP_cons, List.countP_nil, h1, h2, n1, n2, Bool.false_eq_true, if_false]
    split <;> omega
  simp only [List.length_cons, List.length_nil]
  omega
theorem wth4 : wth [] 4 = [4] := by unfold wth srt; simp
theorem add_lives (w : World) (a : Option Addr) (h : Cf w a none [1, 2, 3] []) : Calls Try.prog 25 #[.agg #[.slice a 3 3, .slice none 0 0], .int .i64 4] w fun e w' => ∃ a1 k1 a2 k2, e = .returned (.tuple #[.agg #[.slice a1 3 k1, .slice a2 1 k2], .int .i64 0]) ∧ Below w.heap.size w w' := by
  have := add_yes w a none [1, 2, 3] [] 3 0 4 h add1234
  rw [wth4] at this
  exact this.mono fun e w' ⟨a1, k1, a2, k2, h1, _, _, h2⟩ => ⟨a1, k1, a2, k2, h1, h2⟩
/- the example's servers in one block, what Add answered in another -/
structure Lv (w wk : World) (p : Nat) (x y : Value) : Prop where
  cs : Cs (w.alloc (.cells #[.int .i64 1, .int .i64 2, .int .i64 3] 3)) wk (w.heap.size + 1) (some ⟨w.heap.size, 0, none⟩) none [1, 2, 3] [] 3 0
  bx : Bx wk p x y
theorem Lv.grow {w wk w' : World} {p : Nat} {x y : Value} (h : Lv w wk p x y) (hb : Below wk.heap.size wk w') : Lv w w' p x y := ⟨h.cs.grow hb, h.bx.grow hb⟩
theorem Lv.bel {w wk : World} {p : Nat} {x y : Value} (h : Lv w wk p x y) : Below w.heap.size w wk := below_then (below1 w _) h.cs.bel
set_option maxHeartbeats 4000000 in
theorem lives_any (w : World) : Calls Try.prog 18 #[] w fun e w' => e = .returned (.bool true) ∧ Below w.heap.size w w' := by
  have hC := Cs.begin (w := w.alloc (.cells #[.int .i64 1, .int .i64 2, .int .i64 3] 3)) (al := none) (L := []) 3 0 ⟨ints_lit w [1, 2, 3] (by simp), Ints.nil _ _⟩
  rw [World.size_alloc] at hC
  have H0 := hidOf hC
  clear hC
  go_enter Try.func18, Try.ntmps18
  go_wp2_with (first
    | (go_at_call 25; refine (add_lives _ _ H0.out.cf).mono ?_; rintro e w1 ⟨a1, k1, a2, k2, rfl, hb⟩; have H1 : Hid (Lv w (w1.alloc (.cells #[.slice a1 3 k1, .slice a2 1 k2] 24)) w1.heap.size (.slice a1 3 k1) (.slice a2 1 k2)) := hidOf ⟨(H0.out.grow hb).grow (below1 _ _), bx_new _ _ _⟩; clear hb; have c0 : (w1.alloc (.cells #[.slice a1 3 k1, .slice a2 1 k2] 24)).cell? ⟨w.heap.size + 1, 0, none⟩ = _ := H1.out.cs.bx.c0; have c1 : (w1.alloc (.cells #[.slice a1 3 k1, .slice a2 1 k2] 24)).cell? ⟨w.heap.size + 1, 1, none⟩ = _ := H1.out.cs.bx.c1; have lt0 := H1.out.cs.bx.lt)
    | (go_at_call 12; have hm := may_any _ _ none [1, 2, 3] [] 3 0 H1.out.cs.cf; rw [may123] at hm; refine hm.mono ?_; clear hm; rintro e w2 ⟨rfl, hb⟩; have H2 := hidOf (H1.out.grow hb); clear hb c0 c1 lt0; have c0 : w2.cell? ⟨w.heap.size + 1, 0, none⟩ = _ := H2.out.cs.bx.c0; have c1 : w2.cell? ⟨w.heap.size + 1, 1, none⟩ = _ := H2.out.cs.bx.c1; have lt0 : w.heap.size + 1 < w2.heap.size := H2.out.cs.bx.lt)
    | (go_at_call 19; have hm := majority_any _ _ none [1, 2, 3] [] 3 0 _ [1, 3] 2 (H2.out.grow (below1 w2 _)).cs.cf (ints_lit w2 [1, 3] (by simp)); rw [maj13] at hm; refine hm.mono ?_; clear hm; rintro e w3 ⟨rfl, hb⟩; have H3 := hidOf ((H2.out.grow (below1 w2 _)).grow hb); clear hb c0 c1 lt0 H2; have c0 : w3.cell? ⟨w.heap.size + 1, 0, none⟩ = _ := H3.out.cs.bx.c0; have c1 : w3.cell? ⟨w.heap.size + 1, 1, none⟩ = _ := H3.out.cs.bx.c1; have lt0 : w.heap.size + 1 < w3.heap.size := H3.out.cs.bx.lt)
    | (go_at_call 19; have hm := majority_any _ _ none [1, 2, 3] [] 3 0 _ [1, 4] 2 (H3.out.grow (below1 w3 _)).cs.cf (ints_lit w3 [1, 4] (by simp)); rw [maj14] at hm; refine hm.mono ?_; clear hm; rintro e w4 ⟨rfl, hb⟩; have H4 := hidOf ((H3.out.grow (below1 w3 _)).grow hb); clear hb c0 c1 lt0; have c0 : w4.cell? ⟨w.heap.size + 1, 0, none⟩ = _ := H4.out.cs.bx.c0; have c1 : w4.cell? ⟨w.heap.size + 1, 1, none⟩ = _ := H4.out.cs.bx.c1; have lt0 : w.heap.size + 1 < w4.heap.size := H4.out.cs.bx.lt; have d1 := H4.out.bx.c1; have lt1 := H4.out.bx.lt)
    | (go_at_call 21; have hm := agreed_any _ _ none [1, 2, 3] [] 3 0 _ [5, 3, 9] 3 (H4.out.grow (below1 w4 _)).cs.cf (ints_lit w4 [5, 3, 9] (by simp)); rw [agr539] at hm; refine hm.mono ?_; clear hm; rintro e w5 ⟨rfl, hb⟩; have H5 := hidOf ((H4.out.grow (below1 w4 _)).grow hb)))
  go_ret
  exact ⟨rfl, H5.out.bel⟩
end Go.Proofs.Yteaohmlbioooaaa
