/- What the reader does with records on whatever bytes: what is left, and what was read. Made by program (wip/gen/rdv.py). -/
import Derived.Test.YtpbokgeaolpiaabGreatVrb
namespace Go.Proofs.YtpbokgeaolpiaabGreat
open Go.RowKit

theorem de_entry (s : Option (List UInt8)) : de F_entry s = ((numV s, numV (numS s), (de F_cmd (numS (numS s))).1), ((de F_cmd (numS (numS s))).2)) := (de_c (de_n s) (de_c (de_n (numS s)) (de_e F_cmd (numS (numS s)))))
set_option maxHeartbeats 1000000 in
set_option maxRecDepth 100000 in
theorem entry_v {D : Nat} (p : Nat) (s : Option (List UInt8)) (w : World) (h : RG D w p s) :
    Calls Tryz.prog 31 #[.pointer (some ⟨p, 0, none⟩)] w fun e w' => ∃ cs : List Value, e = .returned (.agg cs.toArray) ∧ Rep w' (NB w w') F_entry cs (de F_entry s).1 ∧ RG D w' p (de F_entry s).2 ∧ RS w w' p := by
  rw [de_entry]
  have hmf : ∀ (fn : Fn) (first cap : Array Value) (w : World), (Instr.makeFunc fn first cap).run Tryz.prog w = .ok (.func fn first cap) w := fun _ _ _ _ => rfl
  have hB0 : Below w.heap.size w (w.alloc (.cells #[.int .i64 0, .int .i64 0, .int .i64 0, .int .i64 0, .int .i64 0, .int .i64 0, .int .i64 0, .int .i64 0, .int .i64 0, .slice none 0 0, .int .i64 0, .bool false, .int .i64 0, .int .i64 0, .int .i64 0, .bool false, .bool false, .int .i64 0, .int .i64 0, .int .i64 0, .slice none 0 0, .int .i64 0, .int .i64 0, .int .i64 0, .slice none 0 0, .slice none 0 0, .bool false, .slice none 0 0, .slice none 0 0] 47)) := (Below.refl _ _).alloc (Nat.le_refl _) _
  have h0 : RG D (w.alloc (.cells #[.int .i64 0, .int .i64 0, .int .i64 0, .int .i64 0, .int .i64 0, .int .i64 0, .int .i64 0, .int .i64 0, .int .i64 0, .slice none 0 0, .int .i64 0, .bool false, .int .i64 0, .int .i64 0, .int .i64 0, .bool false, .bool false, .int .i64 0, .int .i64 0, .int .i64 0, .slice none 0 0, .int .i64 0, .int .i64 0, .int .i64 0, .slice none 0 0, .slice none 0 0, .bool false, .slice none 0 0, .slice none 0 0] 47)) p s := h.ext hB0 h.1 h.2.1
  have s0 : RS w (w.alloc (.cells #[.int .i64 0, .int .i64 0, .int .i64 0, .int .i64 0, .int .i64 0, .int .i64 0, .int .i64 0, .int .i64 0, .int .i64 0, .slice none 0 0, .int .i64 0, .bool false, .int .i64 0, .int .i64 0, .int .i64 0, .bool false, .bool false, .int .i64 0, .int .i64 0, .int .i64 0, .slice none 0 0, .int .i64 0, .int .i64 0, .int .i64 0, .slice none 0 0, .slice none 0 0, .bool false, .slice none 0 0, .slice none 0 0] 47)) p := (RS.refl _ _).alloc _
  have g0 : Hid ((w.alloc (.cells #[.int .i64 0, .int .i64 0, .int .i64 0, .int .i64 0, .int .i64 0, .int .i64 0, .int .i64 0, .int .i64 0, .int .i64 0, .slice none 0 0, .int .i64 0, .bool false, .int .i64 0, .int .i64 0, .int .i64 0, .bool false, .bool false, .int .i64 0, .int .i64 0, .int .i64 0, .slice none 0 0, .int .i64 0, .int .i64 0, .int .i64 0, .slice none 0 0, .slice none 0 0, .bool false, .slice none 0 0, .slice none 0 0] 47)).heap[w.heap.size]? = some (.cells #[.int .i64 0, .int .i64 0, .int .i64 0, .int .i64 0, .int .i64 0, .int .i64 0, .int .i64 0, .int .i64 0, .int .i64 0, .slice none 0 0, .int .i64 0, .bool false, .int .i64 0, .int .i64 0, .int .i64 0, .bool false, .bool false, .int .i64 0, .int .i64 0, .int .i64 0, .slice none 0 0, .int .i64 0, .int .i64 0, .int .i64 0, .slice none 0 0, .slice none 0 0, .bool false, .slice none 0 0, .slice none 0 0] 47 (0, 0))) := heap_alloc_new w _
  have z0 : w.heap.size < (w.alloc (.cells #[.int .i64 0, .int .i64 0, .int .i64 0, .int .i64 0, .int .i64 0, .int .i64 0, .int .i64 0, .int .i64 0, .int .i64 0, .slice none 0 0, .int .i64 0, .bool false, .int .i64 0, .int .i64 0, .int .i64 0, .bool false, .bool false, .int .i64 0, .int .i64 0, .int .i64 0, .slice none 0 0, .int .i64 0, .int .i64 0, .int .i64 0, .slice none 0 0, .slice none 0 0, .bool false, .slice none 0 0, .slice none 0 0] 47)).heap.size := by rw [World.size_alloc]; omega
  have hpq : Hid (p ≠ w.heap.size) := by have := h.1; show p ≠ _; omega
  have hDq : Hid (p < w.heap.size ∧ D ≤ w.heap.size) := ⟨h.1, h.2.1⟩
  clear h hB0
  go_enter Tryz.func31, Tryz.ntmps31
  go_wp2_with fail
  refine (num_g p s _ h0).mono ?_
  rintro e w1 ⟨rfl, h1, t1⟩
  have s1 := s0.trans t1
  have g1 : Hid (w1.heap[w.heap.size]? = some (.cells #[.int .i64 0, .int .i64 0, .int .i64 0, .int .i64 0, .int .i64 0, .int .i64 0, .int .i64 0, .int .i64 0, .int .i64 0, .slice none 0 0, .int .i64 0, .bool false, .int .i64 0, .int .i64 0, .int .i64 0, .bool false, .bool false, .int .i64 0, .int .i64 0, .int .i64 0, .slice none 0 0, .int .i64 0, .int .i64 0, .int .i64 0, .slice none 0 0, .slice none 0 0, .bool false, .slice none 0 0, .slice none 0 0] 47 (0, 0))) := (t1.block _ z0 hpq.out.symm).trans g0.out
  have z1 : w.heap.size < w1.heap.size := Nat.lt_of_lt_of_le z0 t1.size
  clear h0 t1 s0 g0 z0
  go_wp2_with fail
  refine (num_g p (numS s) _ h1).mono ?_
  rintro e w2 ⟨rfl, h2, t2⟩
  have s2 := s1.trans t2
  have g2 : Hid (w2.heap[w.heap.size]? = some (.cells #[.int .i64 0, .int .i64 0, .int .i64 0, .int .i64 0, .int .i64 0, .int .i64 0, .int .i64 0, .int .i64 0, .int .i64 0, .slice none 0 0, .int .i64 0, .bool false, .int .i64 0, .int .i64 0, .int .i64 0, .bool false, .bool false, .int .i64 0, .int .i64 0, .int .i64 0, .slice none 0 0, .int .i64 0, .int .i64 0, .int .i64 0, .slice none 0 0, .slice none 0 0, .bool false, .slice none 0 0, .slice none 0 0] 47 (0, 0))) := (t2.block _ z1 hpq.out.symm).trans g1.out
  have z2 : w.heap.size < w2.heap.size := Nat.lt_of_lt_of_le z1 t2.size
  clear h1 t2 s1 g1 z1
  go_wp2_with fail
  refine (cmd_v p (numS (numS s)) _ h2).mono ?_
  rintro e w3 ⟨cs2, rfl, q2, h3, t3⟩
  obtain ⟨y2_0, y2_1, y2_2, y2_3, y2_4, y2_5, y2_6, y2_7, y2_8, y2_9, y2_10, y2_11, y2_12, y2_13, y2_14, y2_15, y2_16, y2_17, y2_18, y2_19, y2_20, y2_21, y2_22, y2_23, y2_24, y2_25, y2_26, rfl⟩ := list_len27 cs2 q2.len
  have Q2 := hid_intro (q2.keptN (lo' := w.heap.size + 1) (Nat.le_refl _) (fun _ _ _ => rfl) z2)
  clear q2
  have s3 := s2.trans t3
  have g3 : Hid (w3.heap[w.heap.size]? = some (.cells #[.int .i64 0, .int .i64 0, .int .i64 0, .int .i64 0, .int .i64 0, .int .i64 0, .int .i64 0, .int .i64 0, .int .i64 0, .slice none 0 0, .int .i64 0, .bool false, .int .i64 0, .int .i64 0, .int .i64 0, .bool false, .bool false, .int .i64 0, .int .i64 0, .int .i64 0, .slice none 0 0, .int .i64 0, .int .i64 0, .int .i64 0, .slice none 0 0, .slice none 0 0, .bool false, .slice none 0 0, .slice none 0 0] 47 (0, 0))) := (t3.block _ z2 hpq.out.symm).trans g2.out
  have z3 : w.heap.size < w3.heap.size := Nat.lt_of_lt_of_le z2 t3.size
  clear h2 t3 s2 g2 z2
  have I0 : Hid ((Tryz.prog.info? 47).map (·.size) = some (#[.int .i64 (numV s), .int .i64 (numV (numS s)), y2_0, y2_1, y2_2, y2_3, y2_4, y2_5, y2_6, y2_7, y2_8, y2_9, y2_10, y2_11, y2_12, y2_13, y2_14, y2_15, y2_16, y2_17, y2_18, y2_19, y2_20, y2_21, y2_22, y2_23, y2_24, y2_25, y2_26] : Array Value).size) := by show _ = _; kernel_rfl
  have REP : Hid (Rep w3 (NBr (w.heap.size + 1) w3) F_entry [.int .i64 (numV s), .int .i64 (numV (numS s)), y2_0, y2_1, y2_2, y2_3, y2_4, y2_5, y2_6, y2_7, y2_8, y2_9, y2_10, y2_11, y2_12, y2_13, y2_14, y2_15, y2_16, y2_17, y2_18, y2_19, y2_20, y2_21, y2_22, y2_23, y2_24, y2_25, y2_26] (numV s, numV (numS s), (de F_cmd (numS (numS s))).1)) := by
    exact mk_entry (numV s) (numV (numS s)) y2_0 y2_1 y2_2 y2_3 y2_4 y2_5 y2_6 y2_7 y2_8 y2_9 y2_10 y2_11 y2_12 y2_13 y2_14 y2_15 y2_16 y2_17 y2_18 y2_19 y2_20 y2_21 y2_22 y2_23 y2_24 y2_25 y2_26 ((de F_cmd (numS (numS s))).1) Q2.out
  have O0 : Hid ((#[.int .i64 (numV s), .int .i64 (numV (numS s)), y2_0, y2_1, y2_2, y2_3, y2_4, y2_5, y2_6, y2_7, y2_8, y2_9, y2_10, y2_11, y2_12, y2_13, y2_14, y2_15, y2_16, y2_17, y2_18, y2_19, y2_20, y2_21, y2_22, y2_23, y2_24, y2_25, y2_26] : Array Value).all (·.oneCell') = true) := REP.out.all
  go_wp2_with (refine wpList_store_row rfl 47 (.tmp 2) (.tmp 9) rfl w.heap.size #[.int .i64 (numV s), .int .i64 (numV (numS s)), y2_0, y2_1, y2_2, y2_3, y2_4, y2_5, y2_6, y2_7, y2_8, y2_9, y2_10, y2_11, y2_12, y2_13, y2_14, y2_15, y2_16, y2_17, y2_18, y2_19, y2_20, y2_21, y2_22, y2_23, y2_24, y2_25, y2_26] rfl rfl 47 #[.int .i64 0, .int .i64 0, .int .i64 0, .int .i64 0, .int .i64 0, .int .i64 0, .int .i64 0, .int .i64 0, .int .i64 0, .slice none 0 0, .int .i64 0, .bool false, .int .i64 0, .int .i64 0, .int .i64 0, .bool false, .bool false, .int .i64 0, .int .i64 0, .int .i64 0, .slice none 0 0, .int .i64 0, .int .i64 0, .int .i64 0, .slice none 0 0, .slice none 0 0, .bool false, .slice none 0 0, .slice none 0 0] g3.out I0.out rfl O0.out ?_)
  refine bodyPost_ret (v := .agg #[.int .i64 (numV s), .int .i64 (numV (numS s)), y2_0, y2_1, y2_2, y2_3, y2_4, y2_5, y2_6, y2_7, y2_8, y2_9, y2_10, y2_11, y2_12, y2_13, y2_14, y2_15, y2_16, y2_17, y2_18, y2_19, y2_20, y2_21, y2_22, y2_23, y2_24, y2_25, y2_26]) ?_ rfl ⟨[.int .i64 (numV s), .int .i64 (numV (numS s)), y2_0, y2_1, y2_2, y2_3, y2_4, y2_5, y2_6, y2_7, y2_8, y2_9, y2_10, y2_11, y2_12, y2_13, y2_14, y2_15, y2_16, y2_17, y2_18, y2_19, y2_20, y2_21, y2_22, y2_23, y2_24, y2_25, y2_26], rfl, ?_, ?_, ?_⟩
  · refine results_cell_row Tryz.results31 _ _ w.heap.size 47 _ (0, 0) _ ?_ (setRow_heap w3 w.heap.size _ _ 47 _ g3.out) Tryz.underlying47 rfl I0.out
    rfl
  · exact REP.out.keptN (by simp [World.setRow]) (fun b h1 h2 => setRow_other _ _ _ _ (by omega)) (Nat.le_succ _)
  · exact h3.ext ⟨rfl, rfl, rfl, by simp [World.setRow], fun k hk => setRow_other _ _ _ _ (by omega)⟩ hDq.out.1 hDq.out.2
  · exact s3.setRow (Nat.le_refl _) _


theorem listEntry_vi : (Tryz.prog.info? 47).map (fun i => (i.zero, i.size, i.bytes)) = some (some (.agg #[.int .i64 0, .int .i64 0, .int .i64 0, .int .i64 0, .int .i64 0, .int .i64 0, .int .i64 0, .int .i64 0, .int .i64 0, .slice none 0 0, .int .i64 0, .bool false, .int .i64 0, .int .i64 0, .int .i64 0, .bool false, .bool false, .int .i64 0, .int .i64 0, .int .i64 0, .slice none 0 0, .int .i64 0, .int .i64 0, .int .i64 0, .slice none 0 0, .slice none 0 0, .bool false, .slice none 0 0, .slice none 0 0]), 29, 320) := by kernel_rfl
set_option maxHeartbeats 800000 in
set_option maxRecDepth 100000 in
theorem listEntry_v {D : Nat} (p : Nat) (s : Option (List UInt8)) (w : World) (h : RG D w p s) :
    Calls Tryz.prog 79 #[.pointer (some ⟨p, 0, none⟩), .func (.func 31) #[.pointer (some ⟨p, 0, none⟩)] #[]] w fun e w' => ∃ (a : Option Addr) (c : Nat), e = .returned (.slice a (de (.lst F_entry) s).1.length c) ∧ RepL w' (NB w w') F_entry a (de (.lst F_entry) s).1 ∧ RG D w' p (de (.lst F_entry) s).2 ∧ RS w w' p := by
  obtain ⟨i0, hi, hz0, hz1, hz2⟩ := info_parts listEntry_vi
  have hp0 := h.1
  have hD0 := h.2.1
  go_enter Tryz.func79, Tryz.ntmps79
  go_wp2_with fail
  refine (count_g p s _ w (by omega) (by omega) h).mono ?_
  rintro e w1 ⟨rfl, r1, s1, hn⟩
  have HNO : Hid (∀ k, k ≤ cntV 64 s → (deN (de F_entry) k (cntS 64 s)).2 = none → de (.lst F_entry) s = ([], none)) := fun k hk h => de_lst_none F_entry s k hk h
  have HYE : Hid (¬ (deN (de F_entry) (cntV 64 s) (cntS 64 s)).2 = none → de (.lst F_entry) s = deN (de F_entry) (cntV 64 s) (cntS 64 s)) := fun h => by rw [de, if_neg h]
  generalize cntV 64 s = N at *
  go_wp2
  go_loopw [5, 8] (fun v i wr => ∃ k : Nat, ∃ xs : List Value, k ≤ N ∧ i = .int .i64 k ∧ RG D wr p (deN (de F_entry) k (cntS 64 s)).2 ∧ RS w wr p ∧ wr.ownsRow w.heap.size 47 29 v k xs ∧ Hid (0 < k → (deN (de F_entry) k (cntS 64 s)).2 ≠ none) ∧ Hid (Elems w wr F_entry v xs (deN (de F_entry) k (cntS 64 s)).1)) (fun _ i _ => N - (intOf i).toNat)
  case atStart => exact ⟨0, [], Nat.zero_le _, rfl, r1, s1, World.ownsRow_nil _ _ _ _, (fun h => absurd h (by omega)), Elems.nil _ _ _ _⟩
  case round =>
    obtain ⟨k, xs, hk, rfl, rk, sk, ok, hnn, hel⟩ := hrel
    by_cases hlt : k < N
    · go_wp2_with fail
      refine (entry_v p _ wr rk).mono ?_
      rintro e w2 ⟨es, rfl, hx, r2, t2⟩
      obtain ⟨y0, y1, y2, y3, y4, y5, y6, y7, y8, y9, y10, y11, y12, y13, y14, y15, y16, y17, y18, y19, y20, y21, y22, y23, y24, y25, y26, y27, y28, rfl⟩ := list_len29 es hx.len
      have sk2 := sk.trans t2
      have ok2 := ownsRow_rs ok t2 hp0
      have HEL2 : Hid (Elems w w2 F_entry u5 xs (deN (de F_entry) k (cntS 64 s)).1) := hel.out.rs t2 hp0
      have HVL : Hid (∀ q, u5.ownBlock = some q → q < wr.heap.size) := fun q hq => (ok.lt q hq).2
      have HWR : Hid (w.heap.size ≤ wr.heap.size) := sk.size
      have HX : Hid (Rep w2 (NB wr w2) F_entry [y0, y1, y2, y3, y4, y5, y6, y7, y8, y9, y10, y11, y12, y13, y14, y15, y16, y17, y18, y19, y20, y21, y22, y23, y24, y25, y26, y27, y28] (de F_entry (deN (de F_entry) k (cntS 64 s)).2).1) := hx
      have O1 : Hid (∀ u ∈ (#[y0, y1, y2, y3, y4, y5, y6, y7, y8, y9, y10, y11, y12, y13, y14, y15, y16, y17, y18, y19, y20, y21, y22, y23, y24, y25, y26, y27, y28] : Array Value).toList, u.oneCell' = true) := hx.one
      have HB2 : Hid (Below w2.heap.size w2 (w2.alloc (.cells #[y0, y1, y2, y3, y4, y5, y6, y7, y8, y9, y10, y11, y12, y13, y14, y15, y16, y17, y18, y19, y20, y21, y22, y23, y24, y25, y26, y27, y28] 47))) := (Below.refl _ _).alloc (Nat.le_refl _) _
      clear t2 rk ok sk hx hel
      go_wp2_with (at_builtin; refine wpList_append_own2 _ rfl (.tmp 10) (.tmp 13) 51 rfl w.heap.size 47 i0 (.agg #[.int .i64 0, .int .i64 0, .int .i64 0, .int .i64 0, .int .i64 0, .int .i64 0, .int .i64 0, .int .i64 0, .int .i64 0, .slice none 0 0, .int .i64 0, .bool false, .int .i64 0, .int .i64 0, .int .i64 0, .bool false, .bool false, .int .i64 0, .int .i64 0, .int .i64 0, .slice none 0 0, .int .i64 0, .int .i64 0, .int .i64 0, .slice none 0 0, .slice none 0 0, .bool false, .slice none 0 0, .slice none 0 0]) 29 320 Tryz.underlying51 hi hz0 hz1 hz2 rfl (by decide) _ _ _ rfl (ok2.alloc _) ⟨w2.heap.size, 0, none⟩ 1 1 (#[y0, y1, y2, y3, y4, y5, y6, y7, y8, y9, y10, y11, y12, y13, y14, y15, y16, y17, y18, y19, y20, y21, y22, y23, y24, y25, y26, y27, y28] : Array Value).toList rfl rfl (fun j u hj => cell_news w2 _ _ j u hj) O1.out ?c3 ?c4 ?c5 ?next)
      case c3 => unfold maxLen; omega
      case c4 => omega
      case c5 => have := sk2.size; rw [World.size_alloc]; omega
      case next =>
        intro v3 w3 ho3 hg3 hw3
        have HEL3 : Hid (Elems w w3 F_entry v3 (xs ++ [y0, y1, y2, y3, y4, y5, y6, y7, y8, y9, y10, y11, y12, y13, y14, y15, y16, y17, y18, y19, y20, y21, y22, y23, y24, y25, y26, y27, y28]) ((deN (de F_entry) k (cntS 64 s)).1 ++ [(de F_entry (deN (de F_entry) k (cntS 64 s)).2).1])) := HEL2.out.more HX.out HWR.out HVL.out HB2.out hg3 (by rw [World.size_alloc]; exact hw3)
        have hB3 : Below w.heap.size w2 w3 := ((Below.refl _ _).alloc sk2.size _).grown hg3 (by have := sk2.size; rw [World.size_alloc]; omega) (fun j hj => (ok2.lt j hj).1)
        have r3 : RG D w3 p (de F_entry (deN (de F_entry) k (cntS 64 s)).2).2 := r2.ext hB3 hp0 hD0
        have s3 := sk2.ext hB3
        clear hg3 r2 sk2 ok2 hB3 hw3
        cases hst : (de F_entry (deN (de F_entry) k (cntS 64 s)).2).2 with
        | none =>
          have r4 := r3
          rw [hst] at r4
          have HN : Hid (de (.lst F_entry) s = ([], none)) := HNO.out (k + 1) (by omega) hst
          clear hst r3
          obtain ⟨q1, q2, q3, q4, q5, q6⟩ := r4
          have r5 : Hid (RG D w3 p none) := ⟨q1, q2, q3, q4, q5, q6⟩
          go_wp2
          go_ret
          rw [HN.out]
          exact ⟨none, 0, rfl, ⟨by simp, fun h => absurd rfl h⟩, r5.out, s3⟩
        | some l3 =>
          have r4 := r3
          rw [hst] at r4
          have HNN : Hid (0 < k + 1 → (deN (de F_entry) (k + 1) (cntS 64 s)).2 ≠ none) := fun _ h => by
            have h' : (de F_entry (deN (de F_entry) k (cntS 64 s)).2).2 = none := h
            rw [hst] at h'; cases h'
          clear hst
          obtain ⟨_, _, _, _, _, _, _, q6, _⟩ := r4
          have R3 : Hid (RG D w3 p (deN (de F_entry) (k + 1) (cntS 64 s)).2) := r3
          clear r3
          go_wp2
          exact ⟨⟨k + 1, _, by omega, by go_num, R3.out, s3, ho3, HNN, HEL3⟩, by simp [intOf]; omega⟩
    · have hkN : k = N := by omega
      subst hkN
      obtain ⟨va, vc, hv, hrl⟩ : ∃ va vc, u5 = Value.slice va k vc ∧ RepL wr (NB w wr) F_entry va (deN (de F_entry) k (cntS 64 s)).1 := by
        have hl := deN_length (de F_entry) k (cntS 64 s)
        have := Elems.done (e := 47) hel.out (by rw [hl]; exact ok) (by rw [hl]; omega)
        rwa [hl] at this
      subst hv
      have FIN : Hid (RepL wr (NB w wr) F_entry va (de (.lst F_entry) s).1 ∧ RG D wr p (de (.lst F_entry) s).2 ∧ (de (.lst F_entry) s).1.length = k) := by
        by_cases hst : (deN (de F_entry) k (cntS 64 s)).2 = none
        · have hk0 : k = 0 := by
            rcases Nat.eq_zero_or_pos k with h0 | h0
            · exact h0
            · exact absurd hst (hnn.out h0)
          have e := HNO.out k (Nat.le_refl _) hst
          rw [hst] at rk
          refine ⟨?_, ?_, ?_⟩
          · rw [e]; exact ⟨by simp, fun h => absurd rfl h⟩
          · rw [e]; exact rk
          · rw [e, hk0]; rfl
        · have e := HYE.out hst
          refine ⟨?_, ?_, ?_⟩
          · rw [e]; exact hrl
          · rw [e]; exact rk
          · rw [e]; exact deN_length _ _ _
      clear rk ok hrl hel hnn
      go_wp2
      go_ret
      rw [FIN.out.2.2]
      exact ⟨_, _, rfl, FIN.out.1, FIN.out.2.1, sk⟩

end Go.Proofs.YtpbokgeaolpiaabGreat
