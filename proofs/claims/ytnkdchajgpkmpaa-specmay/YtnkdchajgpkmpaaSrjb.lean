/- Job, of the document. -/
import Derived.Test.YtnkdchajgpkmpaaSjob
namespace Go.Proofs.Ytnkdchajgpkmpaa
open Go.RowKit

theorem jobB_false {id ty pr pa : Int} {L : List Gp} (h : id < 1 ∨ 1099511627776 < id ∨ ty < 1 ∨ 3 < ty ∨ pr < 1 ∨ 100 < pr ∨ pa < 1 ∨ 8 < pa ∨ (L.length : Int) < 1 ∨ 2 < (L.length : Int)) : jobB id ty pr pa L = false := by
  cases e : jobB id ty pr pa L with
  | false => rfl
  | true =>
    unfold jobB at e
    simp only [Bool.and_eq_true, inB_true] at e
    omega
theorem jobB_true {id ty pr pa : Int} {L : List Gp} (h1 : ¬ id < 1) (h2 : ¬ 1099511627776 < id) (h3 : ¬ ty < 1) (h4 : ¬ 3 < ty) (h5 : ¬ pr < 1) (h6 : ¬ 100 < pr) (h7 : ¬ pa < 1) (h8 : ¬ 8 < pa) (h9 : ¬ (L.length : Int) < 1) (h10 : ¬ 2 < (L.length : Int)) : jobB id ty pr pa L = L.all (grpB ty) := by
  unfold jobB
  rw [inB_true.2 (by omega), inB_true.2 (by omega), inB_true.2 (by omega), inB_true.2 (by omega), inB_true.2 (by omega)]
  rfl
theorem grpB_false {ty : Int} {g : Gp} (h : g.n < 0 ∨ 4 < g.n ∨ g.c < 0 ∨ 1099511627776 < g.c ∨ g.m < 0 ∨ 1099511627776 < g.m ∨ (ty = 3 ∧ g.n ≠ 1)) : grpB ty g = false := by
  cases e : grpB ty g with
  | false => rfl
  | true =>
    unfold grpB loN hiN at e
    simp only [Bool.and_eq_true, inB_true] at e
    by_cases h3 : ty = 3
    · rw [if_pos h3, if_pos h3] at e; omega
    · rw [if_neg h3, if_neg h3] at e; omega
theorem grpB_true {ty : Int} {g : Gp} (h1 : ¬ g.n < 0) (h2 : ¬ 4 < g.n) (h3 : ¬ g.c < 0) (h4 : ¬ 1099511627776 < g.c) (h5 : ¬ g.m < 0) (h6 : ¬ 1099511627776 < g.m) (h7 : ty = 3 → g.n = 1) : grpB ty g = true := by
  unfold grpB loN hiN
  simp only [Bool.and_eq_true, inB_true]
  by_cases h3 : ty = 3
  · have := h7 h3
    rw [if_pos h3, if_pos h3]; omega
  · rw [if_neg h3, if_neg h3]; omega

set_option maxHeartbeats 8000000 in
set_option maxRecDepth 100000 in
theorem refJob_any (id ty pr pa ve : Int) (st : Bool) (a : Option Addr) (cap : Nat) (L : List Gp) (w : World) (hg : Grs w a L) (hlm : L.length ≤ maxLen) :
    Calls Try.prog 9 #[.agg #[.int .i64 id, .int .i64 ty, .int .i64 pr, .int .i64 pa, .slice a L.length cap, .int .i64 ve, .bool st]] w fun e w' => e = .returned (.int .i64 (errJ (jobB id ty pr pa L))) ∧ Below w.heap.size w w' := by
  have H0 := hidOf (JbS.begin w #[.int .i64 id, .int .i64 ty, .int .i64 pr, .int .i64 pa, .slice a L.length cap, .int .i64 ve, .bool st] a L hg)
  unfold maxLen at hlm
  clear hg
  by_cases h1 : id < 1
  · rw [jobB_false (by omega)]
    go_enter Try.func9, Try.ntmps9
    go_wp2
    go_ret
    exact ⟨rfl, below1 w _⟩
  · skip
    by_cases h2 : 1099511627776 < id
    · rw [jobB_false (by omega)]
      go_enter Try.func9, Try.ntmps9
      go_wp2
      go_ret
      exact ⟨rfl, below1 w _⟩
    · skip
      by_cases h3 : ty < 1
      · rw [jobB_false (by omega)]
        go_enter Try.func9, Try.ntmps9
        go_wp2
        go_ret
        exact ⟨rfl, below1 w _⟩
      · skip
        by_cases h4 : 3 < ty
        · rw [jobB_false (by omega)]
          go_enter Try.func9, Try.ntmps9
          go_wp2
          go_ret
          exact ⟨rfl, below1 w _⟩
        · skip
          by_cases h5 : pr < 1
          · rw [jobB_false (by omega)]
            go_enter Try.func9, Try.ntmps9
            go_wp2
            go_ret
            exact ⟨rfl, below1 w _⟩
          · skip
            by_cases h6 : 100 < pr
            · rw [jobB_false (by omega)]
              go_enter Try.func9, Try.ntmps9
              go_wp2
              go_ret
              exact ⟨rfl, below1 w _⟩
            · skip
              by_cases h7 : pa < 1
              · rw [jobB_false (by omega)]
                go_enter Try.func9, Try.ntmps9
                go_wp2
                go_ret
                exact ⟨rfl, below1 w _⟩
              · skip
                by_cases h8 : 8 < pa
                · rw [jobB_false (by omega)]
                  go_enter Try.func9, Try.ntmps9
                  go_wp2
                  go_ret
                  exact ⟨rfl, below1 w _⟩
                · skip
                  by_cases h9 : (L.length : Int) < 1
                  · rw [jobB_false (by omega)]
                    go_enter Try.func9, Try.ntmps9
                    go_wp2
                    go_ret
                    exact ⟨rfl, below1 w _⟩
                  · skip
                    by_cases h10 : 2 < (L.length : Int)
                    · rw [jobB_false (by omega)]
                      go_enter Try.func9, Try.ntmps9
                      go_wp2
                      go_ret
                      exact ⟨rfl, below1 w _⟩
                    · skip
                      rw [jobB_true h1 h2 h3 h4 h5 h6 h7 h8 h9 h10]
                      go_enter Try.func9, Try.ntmps9
                      go_wp2
                      go_loopw [3] (fun i wr => ∃ k : Nat, i = .int .i64 (k : Int) ∧ k ≤ L.length ∧ Hid ((∀ j, j < k → grpB ty (gt L j) = true) ∧ JbS w wr #[.int .i64 id, .int .i64 ty, .int .i64 pr, .int .i64 pa, .slice a L.length cap, .int .i64 ve, .bool st] a L)) (fun i _ => L.length - (intOf i).toNat)
                      case atStart => exact ⟨0, rfl, Nat.zero_le _, hidOf ⟨fun j hj => by omega, H0.out⟩⟩
                      case round =>
                        clear H0
                        obtain ⟨k, rfl, hk, H⟩ := hrel
                        obtain ⟨c0, c1, c2, c3, c4⟩ := H.out.2.cells
                        have lj := heap_lt H.out.2.j
                        by_cases hlt : k < L.length
                        · have hltz : (k : Int) < (L.length : Int) := by omega
                          obtain ⟨b, off, hab, hbl, g0, g1, g2⟩ := H.out.2.g.at k hlt
                          subst hab
                          obtain ⟨g, hge⟩ : ∃ g, g = gt L k := ⟨_, rfl⟩
                          rw [← hge] at g0 g1 g2
                          have HG := hidOf hge
                          clear hge h1 h2 h3 h4 h5 h6 h7 h8 h9 h10
                          by_cases t1 : g.n < 0
                          · go_wp2
                            go_ret
                            refine ⟨?_, (H.out.2.grow (below1 _ _)).bel⟩
                            rw [all_no hlt (by rw [← HG.out]; exact grpB_false (by omega))]
                            rfl
                          · skip
                            by_cases t2 : 4 < g.n
                            · go_wp2
                              go_ret
                              refine ⟨?_, (H.out.2.grow (below1 _ _)).bel⟩
                              rw [all_no hlt (by rw [← HG.out]; exact grpB_false (by omega))]
                              rfl
                            · skip
                              by_cases t3 : g.c < 0
                              · go_wp2
                                go_ret
                                refine ⟨?_, (H.out.2.grow (below1 _ _)).bel⟩
                                rw [all_no hlt (by rw [← HG.out]; exact grpB_false (by omega))]
                                rfl
                              · skip
                                by_cases t4 : 1099511627776 < g.c
                                · go_wp2
                                  go_ret
                                  refine ⟨?_, (H.out.2.grow (below1 _ _)).bel⟩
                                  rw [all_no hlt (by rw [← HG.out]; exact grpB_false (by omega))]
                                  rfl
                                · skip
                                  by_cases t5 : g.m < 0
                                  · go_wp2
                                    go_ret
                                    refine ⟨?_, (H.out.2.grow (below1 _ _)).bel⟩
                                    rw [all_no hlt (by rw [← HG.out]; exact grpB_false (by omega))]
                                    rfl
                                  · skip
                                    by_cases t6 : 1099511627776 < g.m
                                    · go_wp2
                                      go_ret
                                      refine ⟨?_, (H.out.2.grow (below1 _ _)).bel⟩
                                      rw [all_no hlt (by rw [← HG.out]; exact grpB_false (by omega))]
                                      rfl
                                    · skip
                                      by_cases t7 : ty = 3
                                      · subst t7
                                        by_cases t8 : g.n = 1
                                        · have HT := hidOf t8
                                          have tb : (g.n != 1) = false := by simp [t8]
                                          clear t8
                                          go_wp2
                                          go_roundw
                                          case rel =>
                                            refine ⟨k + 1, by go_num, by omega, hidOf ⟨fun j hj => ?_, H.out.2.grow (below1 _ _)⟩⟩
                                            by_cases hjk : j < k
                                            · exact H.out.1 j hjk
                                            · have : j = k := by omega
                                              subst this
                                              rw [← HG.out]
                                              exact grpB_true t1 t2 t3 t4 t5 t6 (fun _ => HT.out)
                                          case measure => simp [intOf]; omega
                                        · have HT := hidOf t8
                                          have tb : (g.n != 1) = true := by simp [t8]
                                          clear t8
                                          go_wp2
                                          go_ret
                                          refine ⟨?_, (H.out.2.grow (below1 _ _)).bel⟩
                                          rw [all_no hlt (by rw [← HG.out]; exact grpB_false (.inr (.inr (.inr (.inr (.inr (.inr ⟨rfl, HT.out⟩)))))))]
                                          rfl
                                      · have HT := hidOf t7
                                        have tb : (ty == 3) = false := by simp [t7]
                                        clear t7
                                        go_wp2
                                        go_roundw
                                        case rel =>
                                          refine ⟨k + 1, by go_num, by omega, hidOf ⟨fun j hj => ?_, H.out.2.grow (below1 _ _)⟩⟩
                                          by_cases hjk : j < k
                                          · exact H.out.1 j hjk
                                          · have : j = k := by omega
                                            subst this
                                            rw [← HG.out]
                                            exact grpB_true t1 t2 t3 t4 t5 t6 (fun e => absurd e HT.out)
                                        case measure => simp [intOf]; omega
                        · have hltz : ¬ (k : Int) < (L.length : Int) := by omega
                          go_wp2
                          go_ret
                          refine ⟨?_, H.out.2.bel⟩
                          rw [all_yes (fun j hj => H.out.1 j (by omega))]
                          rfl
end Go.Proofs.Ytnkdchajgpkmpaa
