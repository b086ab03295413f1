/- Nodes: Node, of the code and of the document. -/
import Derived.Test.YtnkdchajgpkmpaaSjob
namespace Go.Proofs.Ytnkdchajgpkmpaa
open Go.RowKit

def nodB (id c m bo : Int) : Bool := inB 1 4 id && ((inB 0 1099511627776 c && inB 0 1099511627776 m) && inB 1 1099511627776 bo)
def errN (b : Bool) : Int := if b = true then 0 else 31
structure NdS (w wk : World) (cs : Array Value) : Prop where
  j : wk.heap[w.heap.size]? = some (.cells cs 28 (0, 0))
  bel : Below w.heap.size w wk
theorem NdS.grow {w wk w' : World} {cs : Array Value} (h : NdS w wk cs) (hb : Below wk.heap.size wk w') : NdS w w' cs :=
  ⟨(hb.block _ (heap_lt h.j)).trans h.j, h.bel.trans (hb.mono h.bel.size)⟩
theorem NdS.begin (w : World) (cs : Array Value) : NdS w (w.alloc (.cells cs 28)) cs :=
  ⟨heap_alloc_new w _, below1 _ _⟩
theorem NdS.c {w wk : World} {cs : Array Value} (h : NdS w wk cs) (k : Nat) : wk.cell? ⟨w.heap.size, k, none⟩ = cs[k]? := cell_of_row wk _ k cs 28 (0, 0) h.j
theorem NdS.cells {w wk : World} {id c m bo ep se : Int} {up dr : Bool} (h : NdS w wk #[.int .i64 id, .int .i64 c, .int .i64 m, .bool up, .bool dr, .int .i64 bo, .int .i64 ep, .int .i64 se]) : wk.cell? ⟨w.heap.size, 0, none⟩ = some (.int .i64 id) ∧ wk.cell? ⟨w.heap.size, 1, none⟩ = some (.int .i64 c) ∧ wk.cell? ⟨w.heap.size, 2, none⟩ = some (.int .i64 m) ∧ wk.cell? ⟨w.heap.size, 5, none⟩ = some (.int .i64 bo) :=
  ⟨h.c 0, h.c 1, h.c 2, h.c 5⟩

set_option maxHeartbeats 4000000 in
theorem node_is (d1 d2 d3 : Bool) (id c m bo ep se : Int) (up dr : Bool) (w : World) (D1 : Hid (inB 1 4 id = d1)) (D2 : Hid ((inB 0 1099511627776 c && inB 0 1099511627776 m) = d2)) (D3 : Hid (inB 1 1099511627776 bo = d3)) :
    Calls Try.prog 10 #[.agg #[.int .i64 id, .int .i64 c, .int .i64 m, .bool up, .bool dr, .int .i64 bo, .int .i64 ep, .int .i64 se]] w fun e w' => e = .returned (.int .i64 (errN (d1 && (d2 && d3)))) ∧ Below w.heap.size w w' := by
  have H0 := hidOf (NdS.begin w #[.int .i64 id, .int .i64 c, .int .i64 m, .bool up, .bool dr, .int .i64 bo, .int .i64 ep, .int .i64 se])
  cases d1
  · go_enter Try.func10, Try.ntmps10
    go_wp2_with (first
      | (go_at_call 17; have hh := H0; clear H0; refine (between_any 1 4 _).mono ?_; rintro e w1 ⟨p1, q1, rfl, hq, hb⟩; have H1 := hidOf (hh.out.grow hb); clear hh; have Q1 := hidOf hq; clear hb hq)
      | (go_at_call 17; have hh := H1; clear H1; refine (between_any 0 1099511627776 _).mono ?_; rintro e w2 ⟨p2, q2, rfl, hq, hb⟩; have H2 := hidOf (hh.out.grow hb); clear hh; have Q2 := hidOf hq; replace Q1 := hidOf (Q1.out.grow hb); clear hb hq)
      | (go_at_call 17; have hh := H2; clear H2; refine (between_any 1 1099511627776 _).mono ?_; rintro e w3 ⟨p3, q3, rfl, hq, hb⟩; have H3 := hidOf (hh.out.grow hb); clear hh; have Q3 := hidOf hq; replace Q1 := hidOf (Q1.out.grow hb); replace Q2 := hidOf (Q2.out.grow hb); clear hb hq; obtain ⟨c0, c1, c2, c5⟩ := H3.out.cells; have lj := heap_lt H3.out.j)
      | (go_at_call 21; have hh := Q1; clear Q1; refine (clo_is D1.out hh.out).mono ?_; rintro e w' ⟨rfl, rfl⟩; clear hh)
      | (go_at_call 19; have hh := Q2; clear Q2; refine (both_is D2.out hh.out).mono ?_; rintro e w4 ⟨rfl, hb⟩; replace H3 := hidOf (H3.out.grow hb); replace Q3 := hidOf (Q3.out.grow hb); clear hh hb c0 c1 c2 c5 lj; obtain ⟨c0, c1, c2, c5⟩ := H3.out.cells; have lj := heap_lt H3.out.j)
      | (go_at_call 21; have hh := Q3; clear Q3; refine (clo_is D3.out hh.out).mono ?_; rintro e w' ⟨rfl, rfl⟩; clear hh))
    go_ret
    exact ⟨rfl, H3.out.bel⟩
  · cases d2
    · go_enter Try.func10, Try.ntmps10
      go_wp2_with (first
      | (go_at_call 17; have hh := H0; clear H0; refine (between_any 1 4 _).mono ?_; rintro e w1 ⟨p1, q1, rfl, hq, hb⟩; have H1 := hidOf (hh.out.grow hb); clear hh; have Q1 := hidOf hq; clear hb hq)
      | (go_at_call 17; have hh := H1; clear H1; refine (between_any 0 1099511627776 _).mono ?_; rintro e w2 ⟨p2, q2, rfl, hq, hb⟩; have H2 := hidOf (hh.out.grow hb); clear hh; have Q2 := hidOf hq; replace Q1 := hidOf (Q1.out.grow hb); clear hb hq)
      | (go_at_call 17; have hh := H2; clear H2; refine (between_any 1 1099511627776 _).mono ?_; rintro e w3 ⟨p3, q3, rfl, hq, hb⟩; have H3 := hidOf (hh.out.grow hb); clear hh; have Q3 := hidOf hq; replace Q1 := hidOf (Q1.out.grow hb); replace Q2 := hidOf (Q2.out.grow hb); clear hb hq; obtain ⟨c0, c1, c2, c5⟩ := H3.out.cells; have lj := heap_lt H3.out.j)
      | (go_at_call 21; have hh := Q1; clear Q1; refine (clo_is D1.out hh.out).mono ?_; rintro e w' ⟨rfl, rfl⟩; clear hh)
      | (go_at_call 19; have hh := Q2; clear Q2; refine (both_is D2.out hh.out).mono ?_; rintro e w4 ⟨rfl, hb⟩; replace H3 := hidOf (H3.out.grow hb); replace Q3 := hidOf (Q3.out.grow hb); clear hh hb c0 c1 c2 c5 lj; obtain ⟨c0, c1, c2, c5⟩ := H3.out.cells; have lj := heap_lt H3.out.j)
      | (go_at_call 21; have hh := Q3; clear Q3; refine (clo_is D3.out hh.out).mono ?_; rintro e w' ⟨rfl, rfl⟩; clear hh))
      go_ret
      exact ⟨rfl, H3.out.bel⟩
    · cases d3
      · go_enter Try.func10, Try.ntmps10
        go_wp2_with (first
      | (go_at_call 17; have hh := H0; clear H0; refine (between_any 1 4 _).mono ?_; rintro e w1 ⟨p1, q1, rfl, hq, hb⟩; have H1 := hidOf (hh.out.grow hb); clear hh; have Q1 := hidOf hq; clear hb hq)
      | (go_at_call 17; have hh := H1; clear H1; refine (between_any 0 1099511627776 _).mono ?_; rintro e w2 ⟨p2, q2, rfl, hq, hb⟩; have H2 := hidOf (hh.out.grow hb); clear hh; have Q2 := hidOf hq; replace Q1 := hidOf (Q1.out.grow hb); clear hb hq)
      | (go_at_call 17; have hh := H2; clear H2; refine (between_any 1 1099511627776 _).mono ?_; rintro e w3 ⟨p3, q3, rfl, hq, hb⟩; have H3 := hidOf (hh.out.grow hb); clear hh; have Q3 := hidOf hq; replace Q1 := hidOf (Q1.out.grow hb); replace Q2 := hidOf (Q2.out.grow hb); clear hb hq; obtain ⟨c0, c1, c2, c5⟩ := H3.out.cells; have lj := heap_lt H3.out.j)
      | (go_at_call 21; have hh := Q1; clear Q1; refine (clo_is D1.out hh.out).mono ?_; rintro e w' ⟨rfl, rfl⟩; clear hh)
      | (go_at_call 19; have hh := Q2; clear Q2; refine (both_is D2.out hh.out).mono ?_; rintro e w4 ⟨rfl, hb⟩; replace H3 := hidOf (H3.out.grow hb); replace Q3 := hidOf (Q3.out.grow hb); clear hh hb c0 c1 c2 c5 lj; obtain ⟨c0, c1, c2, c5⟩ := H3.out.cells; have lj := heap_lt H3.out.j)
      | (go_at_call 21; have hh := Q3; clear Q3; refine (clo_is D3.out hh.out).mono ?_; rintro e w' ⟨rfl, rfl⟩; clear hh))
        go_ret
        exact ⟨rfl, H3.out.bel⟩
      · go_enter Try.func10, Try.ntmps10
        go_wp2_with (first
      | (go_at_call 17; have hh := H0; clear H0; refine (between_any 1 4 _).mono ?_; rintro e w1 ⟨p1, q1, rfl, hq, hb⟩; have H1 := hidOf (hh.out.grow hb); clear hh; have Q1 := hidOf hq; clear hb hq)
      | (go_at_call 17; have hh := H1; clear H1; refine (between_any 0 1099511627776 _).mono ?_; rintro e w2 ⟨p2, q2, rfl, hq, hb⟩; have H2 := hidOf (hh.out.grow hb); clear hh; have Q2 := hidOf hq; replace Q1 := hidOf (Q1.out.grow hb); clear hb hq)
      | (go_at_call 17; have hh := H2; clear H2; refine (between_any 1 1099511627776 _).mono ?_; rintro e w3 ⟨p3, q3, rfl, hq, hb⟩; have H3 := hidOf (hh.out.grow hb); clear hh; have Q3 := hidOf hq; replace Q1 := hidOf (Q1.out.grow hb); replace Q2 := hidOf (Q2.out.grow hb); clear hb hq; obtain ⟨c0, c1, c2, c5⟩ := H3.out.cells; have lj := heap_lt H3.out.j)
      | (go_at_call 21; have hh := Q1; clear Q1; refine (clo_is D1.out hh.out).mono ?_; rintro e w' ⟨rfl, rfl⟩; clear hh)
      | (go_at_call 19; have hh := Q2; clear Q2; refine (both_is D2.out hh.out).mono ?_; rintro e w4 ⟨rfl, hb⟩; replace H3 := hidOf (H3.out.grow hb); replace Q3 := hidOf (Q3.out.grow hb); clear hh hb c0 c1 c2 c5 lj; obtain ⟨c0, c1, c2, c5⟩ := H3.out.cells; have lj := heap_lt H3.out.j)
      | (go_at_call 21; have hh := Q3; clear Q3; refine (clo_is D3.out hh.out).mono ?_; rintro e w' ⟨rfl, rfl⟩; clear hh))
        go_ret
        exact ⟨rfl, H3.out.bel⟩
theorem node_any (id c m bo ep se : Int) (up dr : Bool) (w : World) : Calls Try.prog 10 #[.agg #[.int .i64 id, .int .i64 c, .int .i64 m, .bool up, .bool dr, .int .i64 bo, .int .i64 ep, .int .i64 se]] w fun e w' => e = .returned (.int .i64 (errN (nodB id c m bo))) ∧ Below w.heap.size w w' :=
  node_is _ _ _ id c m bo ep se up dr w (hidOf rfl) (hidOf rfl) (hidOf rfl)

theorem nodB_false {id c m bo : Int} (h : id < 1 ∨ 4 < id ∨ c < 0 ∨ 1099511627776 < c ∨ m < 0 ∨ 1099511627776 < m ∨ bo < 1 ∨ 1099511627776 < bo) : nodB id c m bo = false := by
  cases e : nodB id c m bo with
  | false => rfl
  | true =>
    unfold nodB at e
    simp only [Bool.and_eq_true, inB_true] at e
    omega
theorem nodB_true {id c m bo : Int} (h1 : ¬ id < 1) (h2 : ¬ 4 < id) (h3 : ¬ c < 0) (h4 : ¬ 1099511627776 < c) (h5 : ¬ m < 0) (h6 : ¬ 1099511627776 < m) (h7 : ¬ bo < 1) (h8 : ¬ 1099511627776 < bo) : nodB id c m bo = true := by
  unfold nodB
  simp only [Bool.and_eq_true, inB_true]
  omega
set_option maxHeartbeats 4000000 in
theorem refNode_any (id c m bo ep se : Int) (up dr : Bool) (w : World) : Calls Try.prog 11 #[.agg #[.int .i64 id, .int .i64 c, .int .i64 m, .bool up, .bool dr, .int .i64 bo, .int .i64 ep, .int .i64 se]] w fun e w' => e = .returned (.int .i64 (errN (nodB id c m bo))) ∧ Below w.heap.size w w' := by
  by_cases h1 : id < 1
  · rw [nodB_false (by omega)]
    go_enter Try.func11, Try.ntmps11
    go_wp2
    go_ret
    exact ⟨rfl, below1 w _⟩
  · skip
    by_cases h2 : 4 < id
    · rw [nodB_false (by omega)]
      go_enter Try.func11, Try.ntmps11
      go_wp2
      go_ret
      exact ⟨rfl, below1 w _⟩
    · skip
      by_cases h3 : c < 0
      · rw [nodB_false (by omega)]
        go_enter Try.func11, Try.ntmps11
        go_wp2
        go_ret
        exact ⟨rfl, below1 w _⟩
      · skip
        by_cases h4 : 1099511627776 < c
        · rw [nodB_false (by omega)]
          go_enter Try.func11, Try.ntmps11
          go_wp2
          go_ret
          exact ⟨rfl, below1 w _⟩
        · skip
          by_cases h5 : m < 0
          · rw [nodB_false (by omega)]
            go_enter Try.func11, Try.ntmps11
            go_wp2
            go_ret
            exact ⟨rfl, below1 w _⟩
          · skip
            by_cases h6 : 1099511627776 < m
            · rw [nodB_false (by omega)]
              go_enter Try.func11, Try.ntmps11
              go_wp2
              go_ret
              exact ⟨rfl, below1 w _⟩
            · skip
              by_cases h7 : bo < 1
              · rw [nodB_false (by omega)]
                go_enter Try.func11, Try.ntmps11
                go_wp2
                go_ret
                exact ⟨rfl, below1 w _⟩
              · skip
                by_cases h8 : 1099511627776 < bo
                · rw [nodB_false (by omega)]
                  go_enter Try.func11, Try.ntmps11
                  go_wp2
                  go_ret
                  exact ⟨rfl, below1 w _⟩
                · skip
                  rw [nodB_true h1 h2 h3 h4 h5 h6 h7 h8]
                  go_enter Try.func11, Try.ntmps11
                  go_wp2
                  go_ret
                  exact ⟨rfl, below1 w _⟩
end Go.Proofs.Ytnkdchajgpkmpaa
