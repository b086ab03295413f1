/- What the reader does with a truth, numbers and records on whatever bytes: what is left, and what was read. Made by program (wip/gen/rdv.py). -/
import Derived.Test.YtpbokgeaolpiaabGreatVapp
import Derived.Test.YtpbokgeaolpiaabGreatVfm
namespace Go.Proofs.YtpbokgeaolpiaabGreat
open Go.RowKit

set_option maxHeartbeats 400000 in
theorem truth_v {D : Nat} (p : Nat) (s : Option (List UInt8)) (w : World) (h : RG D w p s) : Calls Tryz.prog 78 #[.pointer (some ⟨p, 0, none⟩)] w fun e w' => e = .returned (.bool (decide (numV s = 1))) ∧ RG D w' p (truS s) ∧ RS w w' p := by
  have HT : Hid (truS s = if numV s = 0 ∨ numV s = 1 then numS s else none) := rfl
  go_enter Tryz.func78, Tryz.ntmps78
  go_wp2_with fail
  refine (num_g p s w h).mono ?_
  rintro e w1 ⟨rfl, r1, s1⟩
  obtain ⟨V, HVV⟩ : ∃ V, Hid (numV s = V) := ⟨_, rfl⟩
  rw [HVV.out]
  by_cases hV : V = 0 ∨ V = 1
  · have ht := HT.out
    rw [HVV.out, if_pos hV] at ht
    have HT2 : Hid (truS s = numS s) := ht
    clear ht HT
    rcases hV with rfl | rfl
    · go_wp2
      go_ret
      exact ⟨by rw [HVV.out]; rfl, by rw [HT2.out]; exact r1, s1⟩
    · go_wp2
      go_ret
      exact ⟨by rw [HVV.out]; rfl, by rw [HT2.out]; exact r1, s1⟩
  · have ht := HT.out
    rw [HVV.out, if_neg hV] at ht
    have HT2 : Hid (truS s = none) := ht
    clear ht HT
    have hb0 : (V != 0) = true := by rw [bne_iff_ne]; omega
    have hb1 : (V != 1) = true := by rw [bne_iff_ne]; omega
    have hb2 : (V == 1) = false := by simp; omega
    have HB3 : Hid (decide (V = 1) = false) := by show _ = _; simp; omega
    obtain ⟨cv, cb, c0, c1, hp, hD, f0, f1⟩ := r1.cells
    go_wp2_with fail
    refine (fail_any p w1 _ _ hp hD c0 c1 f0 f1).mono ?_
    rintro e w2 ⟨rfl, r2, s2⟩
    go_wp2
    go_ret
    exact ⟨by rw [HVV.out, HB3.out]; rfl, by rw [HT2.out]; exact r2, s1.trans s2⟩

theorem list_len4 {α : Type} (l : List α) (h : l.length = 4) : ∃ y0 y1 y2 y3, l = [y0, y1, y2, y3] := by
  match l, h with
  | [y0, y1, y2, y3], _ => exact ⟨_, _, _, _, rfl⟩
theorem list_len5 {α : Type} (l : List α) (h : l.length = 5) : ∃ y0 y1 y2 y3 y4, l = [y0, y1, y2, y3, y4] := by
  match l, h with
  | [y0, y1, y2, y3, y4], _ => exact ⟨_, _, _, _, _, rfl⟩
theorem list_len11 {α : Type} (l : List α) (h : l.length = 11) : ∃ y0 y1 y2 y3 y4 y5 y6 y7 y8 y9 y10, l = [y0, y1, y2, y3, y4, y5, y6, y7, y8, y9, y10] := by
  match l, h with
  | [y0, y1, y2, y3, y4, y5, y6, y7, y8, y9, y10], _ => exact ⟨_, _, _, _, _, _, _, _, _, _, _, rfl⟩
theorem list_len29 {α : Type} (l : List α) (h : l.length = 29) : ∃ y0 y1 y2 y3 y4 y5 y6 y7 y8 y9 y10 y11 y12 y13 y14 y15 y16 y17 y18 y19 y20 y21 y22 y23 y24 y25 y26 y27 y28, l = [y0, y1, y2, y3, y4, y5, y6, y7, y8, y9, y10, y11, y12, y13, y14, y15, y16, y17, y18, y19, y20, y21, y22, y23, y24, y25, y26, y27, y28] := by
  match l, h with
  | [y0, y1, y2, y3, y4, y5, y6, y7, y8, y9, y10, y11, y12, y13, y14, y15, y16, y17, y18, y19, y20, y21, y22, y23, y24, y25, y26, y27, y28], _ => exact ⟨_, _, _, _, _, _, _, _, _, _, _, _, _, _, _, _, _, _, _, _, _, _, _, _, _, _, _, _, _, rfl⟩
theorem de_n (s : Option (List UInt8)) : de .num s = (numV s, numS s) := rfl
theorem de_t (s : Option (List UInt8)) : de .tru s = (decide (numV s = 1), truS s) := rfl
theorem de_e (f : Fm) (s : Option (List UInt8)) : de f s = ((de f s).1, (de f s).2) := rfl
theorem de_c {a b : Fm} {s t u : Option (List UInt8)} {x : Vl a} {y : Vl b} (h1 : de a s = (x, t)) (h2 : de b t = (y, u)) : de (.cat a b) s = ((x, y), u) := by rw [de, h1]; simp only [h2]
theorem hid_intro {P : Prop} (h : P) : Hid P := h

theorem de_res (s : Option (List UInt8)) : de F_res s = ((numV s, numV (numS s)), (numS (numS s))) := (de_c (de_n s) (de_n (numS s)))
set_option maxHeartbeats 1000000 in
set_option maxRecDepth 100000 in
theorem res_v {D : Nat} (p : Nat) (s : Option (List UInt8)) (w : World) (h : RG D w p s) :
    Calls Tryz.prog 119 #[.pointer (some ⟨p, 0, none⟩)] w fun e w' => ∃ cs : List Value, e = .returned (.agg cs.toArray) ∧ Rep w' (NB w w') F_res cs (de F_res s).1 ∧ RG D w' p (de F_res s).2 ∧ RS w w' p := by
  rw [de_res]
  have hmf : ∀ (fn : Fn) (first cap : Array Value) (w : World), (Instr.makeFunc fn first cap).run Tryz.prog w = .ok (.func fn first cap) w := fun _ _ _ _ => rfl
  have hB0 : Below w.heap.size w (w.alloc (.cells #[.int .i64 0, .int .i64 0] 27)) := (Below.refl _ _).alloc (Nat.le_refl _) _
  have h0 : RG D (w.alloc (.cells #[.int .i64 0, .int .i64 0] 27)) p s := h.ext hB0 h.1 h.2.1
  have s0 : RS w (w.alloc (.cells #[.int .i64 0, .int .i64 0] 27)) p := (RS.refl _ _).alloc _
  have g0 : Hid ((w.alloc (.cells #[.int .i64 0, .int .i64 0] 27)).heap[w.heap.size]? = some (.cells #[.int .i64 0, .int .i64 0] 27 (0, 0))) := heap_alloc_new w _
  have z0 : w.heap.size < (w.alloc (.cells #[.int .i64 0, .int .i64 0] 27)).heap.size := by rw [World.size_alloc]; omega
  have hpq : Hid (p ≠ w.heap.size) := by have := h.1; show p ≠ _; omega
  have hDq : Hid (p < w.heap.size ∧ D ≤ w.heap.size) := ⟨h.1, h.2.1⟩
  clear h hB0
  go_enter Tryz.func119, Tryz.ntmps119
  go_wp2_with fail
  refine (num_g p s _ h0).mono ?_
  rintro e w1 ⟨rfl, h1, t1⟩
  have s1 := s0.trans t1
  have g1 : Hid (w1.heap[w.heap.size]? = some (.cells #[.int .i64 0, .int .i64 0] 27 (0, 0))) := (t1.block _ z0 hpq.out.symm).trans g0.out
  have z1 : w.heap.size < w1.heap.size := Nat.lt_of_lt_of_le z0 t1.size
  clear h0 t1 s0 g0 z0
  go_wp2_with fail
  refine (num_g p (numS s) _ h1).mono ?_
  rintro e w2 ⟨rfl, h2, t2⟩
  have s2 := s1.trans t2
  have g2 : Hid (w2.heap[w.heap.size]? = some (.cells #[.int .i64 0, .int .i64 0] 27 (0, 0))) := (t2.block _ z1 hpq.out.symm).trans g1.out
  have z2 : w.heap.size < w2.heap.size := Nat.lt_of_lt_of_le z1 t2.size
  clear h1 t2 s1 g1 z1
  have I0 : Hid ((Tryz.prog.info? 27).map (·.size) = some (#[.int .i64 (numV s), .int .i64 (numV (numS s))] : Array Value).size) := by show _ = _; kernel_rfl
  have REP : Hid (Rep w2 (NBr (w.heap.size + 1) w2) F_res [.int .i64 (numV s), .int .i64 (numV (numS s))] (numV s, numV (numS s))) := by
    exact mk_res (numV s) (numV (numS s))
  have O0 : Hid ((#[.int .i64 (numV s), .int .i64 (numV (numS s))] : Array Value).all (·.oneCell') = true) := REP.out.all
  go_wp2_with (refine wpList_store_row rfl 27 (.tmp 2) (.tmp 7) rfl w.heap.size #[.int .i64 (numV s), .int .i64 (numV (numS s))] rfl rfl 27 #[.int .i64 0, .int .i64 0] g2.out I0.out rfl O0.out ?_)
  refine bodyPost_ret (v := .agg #[.int .i64 (numV s), .int .i64 (numV (numS s))]) ?_ rfl ⟨[.int .i64 (numV s), .int .i64 (numV (numS s))], rfl, ?_, ?_, ?_⟩
  · refine results_cell_row Tryz.results119 _ _ w.heap.size 27 _ (0, 0) _ ?_ (setRow_heap w2 w.heap.size _ _ 27 _ g2.out) Tryz.underlying27 rfl I0.out
    rfl
  · exact REP.out.keptN (by simp [World.setRow]) (fun b h1 h2 => setRow_other _ _ _ _ (by omega)) (Nat.le_succ _)
  · exact h2.ext ⟨rfl, rfl, rfl, by simp [World.setRow], fun k hk => setRow_other _ _ _ _ (by omega)⟩ hDq.out.1 hDq.out.2
  · exact s2.setRow (Nat.le_refl _) _


theorem listInt_vi : (Tryz.prog.info? 3).map (fun i => (i.zero, i.size, i.bytes)) = some (some (.int .i64 0), 1, 8) := by kernel_rfl
set_option maxHeartbeats 800000 in
set_option maxRecDepth 100000 in
theorem listInt_v {D : Nat} (p : Nat) (s : Option (List UInt8)) (w : World) (h : RG D w p s) :
    Calls Tryz.prog 121 #[.pointer (some ⟨p, 0, none⟩), .func (.func 50) #[.pointer (some ⟨p, 0, none⟩)] #[]] w fun e w' => ∃ (a : Option Addr) (c : Nat), e = .returned (.slice a (de (.lst .num) s).1.length c) ∧ RepL w' (NB w w') .num a (de (.lst .num) s).1 ∧ RG D w' p (de (.lst .num) s).2 ∧ RS w w' p := by
  obtain ⟨i0, hi, hz0, hz1, hz2⟩ := info_parts listInt_vi
  have hp0 := h.1
  have hD0 := h.2.1
  go_enter Tryz.func121, Tryz.ntmps121
  go_wp2_with fail
  refine (count_g p s _ w (by omega) (by omega) h).mono ?_
  rintro e w1 ⟨rfl, r1, s1, hn⟩
  have HNO : Hid (∀ k, k ≤ cntV 64 s → (deN (de .num) k (cntS 64 s)).2 = none → de (.lst .num) s = ([], none)) := fun k hk h => de_lst_none .num s k hk h
  have HYE : Hid (¬ (deN (de .num) (cntV 64 s) (cntS 64 s)).2 = none → de (.lst .num) s = deN (de .num) (cntV 64 s) (cntS 64 s)) := fun h => by rw [de, if_neg h]
  generalize cntV 64 s = N at *
  go_wp2
  go_loopw [5, 8] (fun v i wr => ∃ k : Nat, ∃ xs : List Value, k ≤ N ∧ i = .int .i64 k ∧ RG D wr p (deN (de .num) k (cntS 64 s)).2 ∧ RS w wr p ∧ wr.ownsRow w.heap.size 3 1 v k xs ∧ Hid (0 < k → (deN (de .num) k (cntS 64 s)).2 ≠ none) ∧ Hid (Elems w wr .num v xs (deN (de .num) k (cntS 64 s)).1)) (fun _ i _ => N - (intOf i).toNat)
  case atStart => exact ⟨0, [], Nat.zero_le _, rfl, r1, s1, World.ownsRow_nil _ _ _ _, (fun h => absurd h (by omega)), Elems.nil _ _ _ _⟩
  case round =>
    obtain ⟨k, xs, hk, rfl, rk, sk, ok, hnn, hel⟩ := hrel
    by_cases hlt : k < N
    · go_wp2_with fail
      refine (num_g p _ wr rk).mono ?_
      rintro e w2 ⟨rfl, r2, t2⟩
      have hx : Rep w2 (NB wr w2) .num [.int .i64 (numV (deN (de .num) k (cntS 64 s)).2)] (de .num (deN (de .num) k (cntS 64 s)).2).1 := rfl
      have sk2 := sk.trans t2
      have ok2 := ownsRow_rs ok t2 hp0
      have HEL2 : Hid (Elems w w2 .num u5 xs (deN (de .num) k (cntS 64 s)).1) := hel.out.rs t2 hp0
      have HVL : Hid (∀ q, u5.ownBlock = some q → q < wr.heap.size) := fun q hq => (ok.lt q hq).2
      have HWR : Hid (w.heap.size ≤ wr.heap.size) := sk.size
      have HX : Hid (Rep w2 (NB wr w2) .num [.int .i64 (numV (deN (de .num) k (cntS 64 s)).2)] (de .num (deN (de .num) k (cntS 64 s)).2).1) := hx
      have O1 : Hid (∀ u ∈ (#[.int .i64 (numV (deN (de .num) k (cntS 64 s)).2)] : Array Value).toList, u.oneCell' = true) := hx.one
      have HB2 : Hid (Below w2.heap.size w2 (w2.alloc (.cells #[.int .i64 (numV (deN (de .num) k (cntS 64 s)).2)] 3))) := (Below.refl _ _).alloc (Nat.le_refl _) _
      clear t2 rk ok sk hx hel
      go_wp2_with (at_builtin; refine wpList_append_own2 _ rfl (.tmp 10) (.tmp 13) 31 rfl w.heap.size 3 i0 (.int .i64 0) 1 8 Tryz.underlying31 hi hz0 hz1 hz2 rfl (by decide) _ _ _ rfl (ok2.alloc _) ⟨w2.heap.size, 0, none⟩ 1 1 (#[.int .i64 (numV (deN (de .num) k (cntS 64 s)).2)] : Array Value).toList rfl rfl (fun j u hj => cell_news w2 _ _ j u hj) O1.out ?c3 ?c4 ?c5 ?next)
      case c3 => unfold maxLen; omega
      case c4 => omega
      case c5 => have := sk2.size; rw [World.size_alloc]; omega
      case next =>
        intro v3 w3 ho3 hg3 hw3
        have HEL3 : Hid (Elems w w3 .num v3 (xs ++ [.int .i64 (numV (deN (de .num) k (cntS 64 s)).2)]) ((deN (de .num) k (cntS 64 s)).1 ++ [(de .num (deN (de .num) k (cntS 64 s)).2).1])) := HEL2.out.more HX.out HWR.out HVL.out HB2.out hg3 (by rw [World.size_alloc]; exact hw3)
        have hB3 : Below w.heap.size w2 w3 := ((Below.refl _ _).alloc sk2.size _).grown hg3 (by have := sk2.size; rw [World.size_alloc]; omega) (fun j hj => (ok2.lt j hj).1)
        have r3 : RG D w3 p (de .num (deN (de .num) k (cntS 64 s)).2).2 := r2.ext hB3 hp0 hD0
        have s3 := sk2.ext hB3
        clear hg3 r2 sk2 ok2 hB3 hw3
        cases hst : (de .num (deN (de .num) k (cntS 64 s)).2).2 with
        | none =>
          have r4 := r3
          rw [hst] at r4
          have HN : Hid (de (.lst .num) s = ([], none)) := HNO.out (k + 1) (by omega) hst
          clear hst r3
          obtain ⟨q1, q2, q3, q4, q5, q6⟩ := r4
          have r5 : Hid (RG D w3 p none) := ⟨q1, q2, q3, q4, q5, q6⟩
          go_wp2
          go_ret
          rw [HN.out]
          exact ⟨none, 0, rfl, ⟨by simp, fun h => absurd rfl h⟩, r5.out, s3⟩
        | some l3 =>
          have r4 := r3
          rw [hst] at r4
          have HNN : Hid (0 < k + 1 → (deN (de .num) (k + 1) (cntS 64 s)).2 ≠ none) := fun _ h => by
            have h' : (de .num (deN (de .num) k (cntS 64 s)).2).2 = none := h
            rw [hst] at h'; cases h'
          clear hst
          obtain ⟨_, _, _, _, _, _, _, q6, _⟩ := r4
          have R3 : Hid (RG D w3 p (deN (de .num) (k + 1) (cntS 64 s)).2) := r3
          clear r3
          go_wp2
          exact ⟨⟨k + 1, _, by omega, by go_num, R3.out, s3, ho3, HNN, HEL3⟩, by simp [intOf]; omega⟩
    · have hkN : k = N := by omega
      subst hkN
      obtain ⟨va, vc, hv, hrl⟩ : ∃ va vc, u5 = Value.slice va k vc ∧ RepL wr (NB w wr) .num va (deN (de .num) k (cntS 64 s)).1 := by
        have hl := deN_length (de .num) k (cntS 64 s)
        have := Elems.done (e := 3) hel.out (by rw [hl]; exact ok) (by rw [hl]; omega)
        rwa [hl] at this
      subst hv
      have FIN : Hid (RepL wr (NB w wr) .num va (de (.lst .num) s).1 ∧ RG D wr p (de (.lst .num) s).2 ∧ (de (.lst .num) s).1.length = k) := by
        by_cases hst : (deN (de .num) k (cntS 64 s)).2 = none
        · have hk0 : k = 0 := by
            rcases Nat.eq_zero_or_pos k with h0 | h0
            · exact h0
            · exact absurd hst (hnn.out h0)
          have e := HNO.out k (Nat.le_refl _) hst
          rw [hst] at rk
          refine ⟨?_, ?_, ?_⟩
          · rw [e]; exact ⟨by simp, fun h => absurd rfl h⟩
          · rw [e]; exact rk
          · rw [e, hk0]; rfl
        · have e := HYE.out hst
          refine ⟨?_, ?_, ?_⟩
          · rw [e]; exact hrl
          · rw [e]; exact rk
          · rw [e]; exact deN_length _ _ _
      clear rk ok hrl hel hnn
      go_wp2
      go_ret
      rw [FIN.out.2.2]
      exact ⟨_, _, rfl, FIN.out.1, FIN.out.2.1, sk⟩


theorem de_conf (s : Option (List UInt8)) : de F_conf s = (((de (.lst .num) s).1, (de (.lst .num) ((de (.lst .num) s).2)).1), ((de (.lst .num) ((de (.lst .num) s).2)).2)) := (de_c (de_e (.lst .num) s) (de_e (.lst .num) ((de (.lst .num) s).2)))
set_option maxHeartbeats 1000000 in
set_option maxRecDepth 100000 in
theorem conf_v {D : Nat} (p : Nat) (s : Option (List UInt8)) (w : World) (h : RG D w p s) :
    Calls Tryz.prog 56 #[.pointer (some ⟨p, 0, none⟩)] w fun e w' => ∃ cs : List Value, e = .returned (.agg cs.toArray) ∧ Rep w' (NB w w') F_conf cs (de F_conf s).1 ∧ RG D w' p (de F_conf s).2 ∧ RS w w' p := by
  rw [de_conf]
  have hmf : ∀ (fn : Fn) (first cap : Array Value) (w : World), (Instr.makeFunc fn first cap).run Tryz.prog w = .ok (.func fn first cap) w := fun _ _ _ _ => rfl
  have hB0 : Below w.heap.size w (w.alloc (.cells #[.slice none 0 0, .slice none 0 0] 36)) := (Below.refl _ _).alloc (Nat.le_refl _) _
  have h0 : RG D (w.alloc (.cells #[.slice none 0 0, .slice none 0 0] 36)) p s := h.ext hB0 h.1 h.2.1
  have s0 : RS w (w.alloc (.cells #[.slice none 0 0, .slice none 0 0] 36)) p := (RS.refl _ _).alloc _
  have g0 : Hid ((w.alloc (.cells #[.slice none 0 0, .slice none 0 0] 36)).heap[w.heap.size]? = some (.cells #[.slice none 0 0, .slice none 0 0] 36 (0, 0))) := heap_alloc_new w _
  have z0 : w.heap.size < (w.alloc (.cells #[.slice none 0 0, .slice none 0 0] 36)).heap.size := by rw [World.size_alloc]; omega
  have hpq : Hid (p ≠ w.heap.size) := by have := h.1; show p ≠ _; omega
  have hDq : Hid (p < w.heap.size ∧ D ≤ w.heap.size) := ⟨h.1, h.2.1⟩
  clear h hB0
  go_enter Tryz.func56, Tryz.ntmps56
  go_wp2_with fail
  refine (listInt_v p s _ h0).mono ?_
  rintro e w1 ⟨a0, c0, rfl, q0, h1, t1⟩
  have Q0 := hid_intro (q0.keptN (lo' := w.heap.size + 1) (Nat.le_refl _) (fun _ _ _ => rfl) z0)
  clear q0
  have s1 := s0.trans t1
  have g1 : Hid (w1.heap[w.heap.size]? = some (.cells #[.slice none 0 0, .slice none 0 0] 36 (0, 0))) := (t1.block _ z0 hpq.out.symm).trans g0.out
  have z1 : w.heap.size < w1.heap.size := Nat.lt_of_lt_of_le z0 t1.size
  clear h0 t1 s0 g0 z0
  go_wp2_with fail
  refine (listInt_v p ((de (.lst .num) s).2) _ h1).mono ?_
  rintro e w2 ⟨a1, c1, rfl, q1, h2, t2⟩
  replace Q0 := hid_intro (Q0.out.keptN (lo' := w.heap.size + 1) t2.size (fun b h1 h2 => t2.block b h2 (by have := hDq.out.1; omega)) (Nat.le_refl _))
  have Q1 := hid_intro (q1.keptN (lo' := w.heap.size + 1) (Nat.le_refl _) (fun _ _ _ => rfl) z1)
  clear q1
  have s2 := s1.trans t2
  have g2 : Hid (w2.heap[w.heap.size]? = some (.cells #[.slice none 0 0, .slice none 0 0] 36 (0, 0))) := (t2.block _ z1 hpq.out.symm).trans g1.out
  have z2 : w.heap.size < w2.heap.size := Nat.lt_of_lt_of_le z1 t2.size
  clear h1 t2 s1 g1 z1
  have I0 : Hid ((Tryz.prog.info? 36).map (·.size) = some (#[.slice a0 (de (.lst .num) s).1.length c0, .slice a1 (de (.lst .num) ((de (.lst .num) s).2)).1.length c1] : Array Value).size) := by show _ = _; kernel_rfl
  have REP : Hid (Rep w2 (NBr (w.heap.size + 1) w2) F_conf [.slice a0 (de (.lst .num) s).1.length c0, .slice a1 (de (.lst .num) ((de (.lst .num) s).2)).1.length c1] ((de (.lst .num) s).1, (de (.lst .num) ((de (.lst .num) s).2)).1)) := by
    exact mk_conf a0 c0 ((de (.lst .num) s).1) a1 c1 ((de (.lst .num) ((de (.lst .num) s).2)).1) Q0.out Q1.out
  have O0 : Hid ((#[.slice a0 (de (.lst .num) s).1.length c0, .slice a1 (de (.lst .num) ((de (.lst .num) s).2)).1.length c1] : Array Value).all (·.oneCell') = true) := REP.out.all
  go_wp2_with (refine wpList_store_row rfl 36 (.tmp 2) (.tmp 11) rfl w.heap.size #[.slice a0 (de (.lst .num) s).1.length c0, .slice a1 (de (.lst .num) ((de (.lst .num) s).2)).1.length c1] rfl rfl 36 #[.slice none 0 0, .slice none 0 0] g2.out I0.out rfl O0.out ?_)
  refine bodyPost_ret (v := .agg #[.slice a0 (de (.lst .num) s).1.length c0, .slice a1 (de (.lst .num) ((de (.lst .num) s).2)).1.length c1]) ?_ rfl ⟨[.slice a0 (de (.lst .num) s).1.length c0, .slice a1 (de (.lst .num) ((de (.lst .num) s).2)).1.length c1], rfl, ?_, ?_, ?_⟩
  · refine results_cell_row Tryz.results56 _ _ w.heap.size 36 _ (0, 0) _ ?_ (setRow_heap w2 w.heap.size _ _ 36 _ g2.out) Tryz.underlying36 rfl I0.out
    rfl
  · exact REP.out.keptN (by simp [World.setRow]) (fun b h1 h2 => setRow_other _ _ _ _ (by omega)) (Nat.le_succ _)
  · exact h2.ext ⟨rfl, rfl, rfl, by simp [World.setRow], fun k hk => setRow_other _ _ _ _ (by omega)⟩ hDq.out.1 hDq.out.2
  · exact s2.setRow (Nat.le_refl _) _


theorem de_alloc (s : Option (List UInt8)) : de F_alloc s = ((numV s, numV (numS s), numV (numS (numS s)), numV (numS (numS (numS s))), numV (numS (numS (numS (numS s)))), numV (numS (numS (numS (numS (numS s))))), numV (numS (numS (numS (numS (numS (numS s)))))), (de F_res (numS (numS (numS (numS (numS (numS (numS s)))))))).1, decide (numV ((de F_res (numS (numS (numS (numS (numS (numS (numS s)))))))).2) = 1), numV (truS ((de F_res (numS (numS (numS (numS (numS (numS (numS s)))))))).2))), (numS (truS ((de F_res (numS (numS (numS (numS (numS (numS (numS s)))))))).2)))) := (de_c (de_n s) (de_c (de_n (numS s)) (de_c (de_n (numS (numS s))) (de_c (de_n (numS (numS (numS s)))) (de_c (de_n (numS (numS (numS (numS s))))) (de_c (de_n (numS (numS (numS (numS (numS s)))))) (de_c (de_n (numS (numS (numS (numS (numS (numS s))))))) (de_c (de_e F_res (numS (numS (numS (numS (numS (numS (numS s)))))))) (de_c (de_t ((de F_res (numS (numS (numS (numS (numS (numS (numS s)))))))).2)) (de_n (truS ((de F_res (numS (numS (numS (numS (numS (numS (numS s)))))))).2))))))))))))
set_option maxHeartbeats 1000000 in
set_option maxRecDepth 100000 in
theorem alloc_v {D : Nat} (p : Nat) (s : Option (List UInt8)) (w : World) (h : RG D w p s) :
    Calls Tryz.prog 94 #[.pointer (some ⟨p, 0, none⟩)] w fun e w' => ∃ cs : List Value, e = .returned (.agg cs.toArray) ∧ Rep w' (NB w w') F_alloc cs (de F_alloc s).1 ∧ RG D w' p (de F_alloc s).2 ∧ RS w w' p := by
  rw [de_alloc]
  have hmf : ∀ (fn : Fn) (first cap : Array Value) (w : World), (Instr.makeFunc fn first cap).run Tryz.prog w = .ok (.func fn first cap) w := fun _ _ _ _ => rfl
  have hB0 : Below w.heap.size w (w.alloc (.cells #[.int .i64 0, .int .i64 0, .int .i64 0, .int .i64 0, .int .i64 0, .int .i64 0, .int .i64 0, .int .i64 0, .int .i64 0, .bool false, .int .i64 0] 136)) := (Below.refl _ _).alloc (Nat.le_refl _) _
  have h0 : RG D (w.alloc (.cells #[.int .i64 0, .int .i64 0, .int .i64 0, .int .i64 0, .int .i64 0, .int .i64 0, .int .i64 0, .int .i64 0, .int .i64 0, .bool false, .int .i64 0] 136)) p s := h.ext hB0 h.1 h.2.1
  have s0 : RS w (w.alloc (.cells #[.int .i64 0, .int .i64 0, .int .i64 0, .int .i64 0, .int .i64 0, .int .i64 0, .int .i64 0, .int .i64 0, .int .i64 0, .bool false, .int .i64 0] 136)) p := (RS.refl _ _).alloc _
  have g0 : Hid ((w.alloc (.cells #[.int .i64 0, .int .i64 0, .int .i64 0, .int .i64 0, .int .i64 0, .int .i64 0, .int .i64 0, .int .i64 0, .int .i64 0, .bool false, .int .i64 0] 136)).heap[w.heap.size]? = some (.cells #[.int .i64 0, .int .i64 0, .int .i64 0, .int .i64 0, .int .i64 0, .int .i64 0, .int .i64 0, .int .i64 0, .int .i64 0, .bool false, .int .i64 0] 136 (0, 0))) := heap_alloc_new w _
  have z0 : w.heap.size < (w.alloc (.cells #[.int .i64 0, .int .i64 0, .int .i64 0, .int .i64 0, .int .i64 0, .int .i64 0, .int .i64 0, .int .i64 0, .int .i64 0, .bool false, .int .i64 0] 136)).heap.size := by rw [World.size_alloc]; omega
  have hpq : Hid (p ≠ w.heap.size) := by have := h.1; show p ≠ _; omega
  have hDq : Hid (p < w.heap.size ∧ D ≤ w.heap.size) := ⟨h.1, h.2.1⟩
  clear h hB0
  go_enter Tryz.func94, Tryz.ntmps94
  go_wp2_with fail
  refine (num_g p s _ h0).mono ?_
  rintro e w1 ⟨rfl, h1, t1⟩
  have s1 := s0.trans t1
  have g1 : Hid (w1.heap[w.heap.size]? = some (.cells #[.int .i64 0, .int .i64 0, .int .i64 0, .int .i64 0, .int .i64 0, .int .i64 0, .int .i64 0, .int .i64 0, .int .i64 0, .bool false, .int .i64 0] 136 (0, 0))) := (t1.block _ z0 hpq.out.symm).trans g0.out
  have z1 : w.heap.size < w1.heap.size := Nat.lt_of_lt_of_le z0 t1.size
  clear h0 t1 s0 g0 z0
  go_wp2_with fail
  refine (num_g p (numS s) _ h1).mono ?_
  rintro e w2 ⟨rfl, h2, t2⟩
  have s2 := s1.trans t2
  have g2 : Hid (w2.heap[w.heap.size]? = some (.cells #[.int .i64 0, .int .i64 0, .int .i64 0, .int .i64 0, .int .i64 0, .int .i64 0, .int .i64 0, .int .i64 0, .int .i64 0, .bool false, .int .i64 0] 136 (0, 0))) := (t2.block _ z1 hpq.out.symm).trans g1.out
  have z2 : w.heap.size < w2.heap.size := Nat.lt_of_lt_of_le z1 t2.size
  clear h1 t2 s1 g1 z1
  go_wp2_with fail
  refine (num_g p (numS (numS s)) _ h2).mono ?_
  rintro e w3 ⟨rfl, h3, t3⟩
  have s3 := s2.trans t3
  have g3 : Hid (w3.heap[w.heap.size]? = some (.cells #[.int .i64 0, .int .i64 0, .int .i64 0, .int .i64 0, .int .i64 0, .int .i64 0, .int .i64 0, .int .i64 0, .int .i64 0, .bool false, .int .i64 0] 136 (0, 0))) := (t3.block _ z2 hpq.out.symm).trans g2.out
  have z3 : w.heap.size < w3.heap.size := Nat.lt_of_lt_of_le z2 t3.size
  clear h2 t3 s2 g2 z2
  go_wp2_with fail
  refine (num_g p (numS (numS (numS s))) _ h3).mono ?_
  rintro e w4 ⟨rfl, h4, t4⟩
  have s4 := s3.trans t4
  have g4 : Hid (w4.heap[w.heap.size]? = some (.cells #[.int .i64 0, .int .i64 0, .int .i64 0, .int .i64 0, .int .i64 0, .int .i64 0, .int .i64 0, .int .i64 0, .int .i64 0, .bool false, .int .i64 0] 136 (0, 0))) := (t4.block _ z3 hpq.out.symm).trans g3.out
  have z4 : w.heap.size < w4.heap.size := Nat.lt_of_lt_of_le z3 t4.size
  clear h3 t4 s3 g3 z3
  go_wp2_with fail
  refine (num_g p (numS (numS (numS (numS s)))) _ h4).mono ?_
  rintro e w5 ⟨rfl, h5, t5⟩
  have s5 := s4.trans t5
  have g5 : Hid (w5.heap[w.heap.size]? = some (.cells #[.int .i64 0, .int .i64 0, .int .i64 0, .int .i64 0, .int .i64 0, .int .i64 0, .int .i64 0, .int .i64 0, .int .i64 0, .bool false, .int .i64 0] 136 (0, 0))) := (t5.block _ z4 hpq.out.symm).trans g4.out
  have z5 : w.heap.size < w5.heap.size := Nat.lt_of_lt_of_le z4 t5.size
  clear h4 t5 s4 g4 z4
  go_wp2_with fail
  refine (num_g p (numS (numS (numS (numS (numS s))))) _ h5).mono ?_
  rintro e w6 ⟨rfl, h6, t6⟩
  have s6 := s5.trans t6
  have g6 : Hid (w6.heap[w.heap.size]? = some (.cells #[.int .i64 0, .int .i64 0, .int .i64 0, .int .i64 0, .int .i64 0, .int .i64 0, .int .i64 0, .int .i64 0, .int .i64 0, .bool false, .int .i64 0] 136 (0, 0))) := (t6.block _ z5 hpq.out.symm).trans g5.out
  have z6 : w.heap.size < w6.heap.size := Nat.lt_of_lt_of_le z5 t6.size
  clear h5 t6 s5 g5 z5
  go_wp2_with fail
  refine (num_g p (numS (numS (numS (numS (numS (numS s)))))) _ h6).mono ?_
  rintro e w7 ⟨rfl, h7, t7⟩
  have s7 := s6.trans t7
  have g7 : Hid (w7.heap[w.heap.size]? = some (.cells #[.int .i64 0, .int .i64 0, .int .i64 0, .int .i64 0, .int .i64 0, .int .i64 0, .int .i64 0, .int .i64 0, .int .i64 0, .bool false, .int .i64 0] 136 (0, 0))) := (t7.block _ z6 hpq.out.symm).trans g6.out
  have z7 : w.heap.size < w7.heap.size := Nat.lt_of_lt_of_le z6 t7.size
  clear h6 t7 s6 g6 z6
  go_wp2_with fail
  refine (res_v p (numS (numS (numS (numS (numS (numS (numS s))))))) _ h7).mono ?_
  rintro e w8 ⟨cs7, rfl, q7, h8, t8⟩
  obtain ⟨y7_0, y7_1, rfl⟩ := list_len2 cs7 q7.len
  have Q7 := hid_intro (q7.keptN (lo' := w.heap.size + 1) (Nat.le_refl _) (fun _ _ _ => rfl) z7)
  clear q7
  have s8 := s7.trans t8
  have g8 : Hid (w8.heap[w.heap.size]? = some (.cells #[.int .i64 0, .int .i64 0, .int .i64 0, .int .i64 0, .int .i64 0, .int .i64 0, .int .i64 0, .int .i64 0, .int .i64 0, .bool false, .int .i64 0] 136 (0, 0))) := (t8.block _ z7 hpq.out.symm).trans g7.out
  have z8 : w.heap.size < w8.heap.size := Nat.lt_of_lt_of_le z7 t8.size
  clear h7 t8 s7 g7 z7
  go_wp2_with fail
  refine (truth_v p ((de F_res (numS (numS (numS (numS (numS (numS (numS s)))))))).2) _ h8).mono ?_
  rintro e w9 ⟨rfl, h9, t9⟩
  replace Q7 := hid_intro (Q7.out.keptN (lo' := w.heap.size + 1) t9.size (fun b h1 h2 => t9.block b h2 (by have := hDq.out.1; omega)) (Nat.le_refl _))
  have s9 := s8.trans t9
  have g9 : Hid (w9.heap[w.heap.size]? = some (.cells #[.int .i64 0, .int .i64 0, .int .i64 0, .int .i64 0, .int .i64 0, .int .i64 0, .int .i64 0, .int .i64 0, .int .i64 0, .bool false, .int .i64 0] 136 (0, 0))) := (t9.block _ z8 hpq.out.symm).trans g8.out
  have z9 : w.heap.size < w9.heap.size := Nat.lt_of_lt_of_le z8 t9.size
  clear h8 t9 s8 g8 z8
  go_wp2_with fail
  refine (num_g p (truS ((de F_res (numS (numS (numS (numS (numS (numS (numS s)))))))).2)) _ h9).mono ?_
  rintro e w10 ⟨rfl, h10, t10⟩
  replace Q7 := hid_intro (Q7.out.keptN (lo' := w.heap.size + 1) t10.size (fun b h1 h2 => t10.block b h2 (by have := hDq.out.1; omega)) (Nat.le_refl _))
  have s10 := s9.trans t10
  have g10 : Hid (w10.heap[w.heap.size]? = some (.cells #[.int .i64 0, .int .i64 0, .int .i64 0, .int .i64 0, .int .i64 0, .int .i64 0, .int .i64 0, .int .i64 0, .int .i64 0, .bool false, .int .i64 0] 136 (0, 0))) := (t10.block _ z9 hpq.out.symm).trans g9.out
  have z10 : w.heap.size < w10.heap.size := Nat.lt_of_lt_of_le z9 t10.size
  clear h9 t10 s9 g9 z9
  have I0 : Hid ((Tryz.prog.info? 136).map (·.size) = some (#[.int .i64 (numV s), .int .i64 (numV (numS s)), .int .i64 (numV (numS (numS s))), .int .i64 (numV (numS (numS (numS s)))), .int .i64 (numV (numS (numS (numS (numS s))))), .int .i64 (numV (numS (numS (numS (numS (numS s)))))), .int .i64 (numV (numS (numS (numS (numS (numS (numS s))))))), y7_0, y7_1, .bool (decide (numV ((de F_res (numS (numS (numS (numS (numS (numS (numS s)))))))).2) = 1)), .int .i64 (numV (truS ((de F_res (numS (numS (numS (numS (numS (numS (numS s)))))))).2)))] : Array Value).size) := by show _ = _; kernel_rfl
  have REP : Hid (Rep w10 (NBr (w.heap.size + 1) w10) F_alloc [.int .i64 (numV s), .int .i64 (numV (numS s)), .int .i64 (numV (numS (numS s))), .int .i64 (numV (numS (numS (numS s)))), .int .i64 (numV (numS (numS (numS (numS s))))), .int .i64 (numV (numS (numS (numS (numS (numS s)))))), .int .i64 (numV (numS (numS (numS (numS (numS (numS s))))))), y7_0, y7_1, .bool (decide (numV ((de F_res (numS (numS (numS (numS (numS (numS (numS s)))))))).2) = 1)), .int .i64 (numV (truS ((de F_res (numS (numS (numS (numS (numS (numS (numS s)))))))).2)))] (numV s, numV (numS s), numV (numS (numS s)), numV (numS (numS (numS s))), numV (numS (numS (numS (numS s)))), numV (numS (numS (numS (numS (numS s))))), numV (numS (numS (numS (numS (numS (numS s)))))), (de F_res (numS (numS (numS (numS (numS (numS (numS s)))))))).1, decide (numV ((de F_res (numS (numS (numS (numS (numS (numS (numS s)))))))).2) = 1), numV (truS ((de F_res (numS (numS (numS (numS (numS (numS (numS s)))))))).2)))) := by
    exact mk_alloc (numV s) (numV (numS s)) (numV (numS (numS s))) (numV (numS (numS (numS s)))) (numV (numS (numS (numS (numS s))))) (numV (numS (numS (numS (numS (numS s)))))) (numV (numS (numS (numS (numS (numS (numS s))))))) y7_0 y7_1 ((de F_res (numS (numS (numS (numS (numS (numS (numS s)))))))).1) (decide (numV ((de F_res (numS (numS (numS (numS (numS (numS (numS s)))))))).2) = 1)) (numV (truS ((de F_res (numS (numS (numS (numS (numS (numS (numS s)))))))).2))) Q7.out
  have O0 : Hid ((#[.int .i64 (numV s), .int .i64 (numV (numS s)), .int .i64 (numV (numS (numS s))), .int .i64 (numV (numS (numS (numS s)))), .int .i64 (numV (numS (numS (numS (numS s))))), .int .i64 (numV (numS (numS (numS (numS (numS s)))))), .int .i64 (numV (numS (numS (numS (numS (numS (numS s))))))), y7_0, y7_1, .bool (decide (numV ((de F_res (numS (numS (numS (numS (numS (numS (numS s)))))))).2) = 1)), .int .i64 (numV (truS ((de F_res (numS (numS (numS (numS (numS (numS (numS s)))))))).2)))] : Array Value).all (·.oneCell') = true) := REP.out.all
  go_wp2_with (refine wpList_store_row rfl 136 (.tmp 2) (.tmp 23) rfl w.heap.size #[.int .i64 (numV s), .int .i64 (numV (numS s)), .int .i64 (numV (numS (numS s))), .int .i64 (numV (numS (numS (numS s)))), .int .i64 (numV (numS (numS (numS (numS s))))), .int .i64 (numV (numS (numS (numS (numS (numS s)))))), .int .i64 (numV (numS (numS (numS (numS (numS (numS s))))))), y7_0, y7_1, .bool (decide (numV ((de F_res (numS (numS (numS (numS (numS (numS (numS s)))))))).2) = 1)), .int .i64 (numV (truS ((de F_res (numS (numS (numS (numS (numS (numS (numS s)))))))).2)))] rfl rfl 136 #[.int .i64 0, .int .i64 0, .int .i64 0, .int .i64 0, .int .i64 0, .int .i64 0, .int .i64 0, .int .i64 0, .int .i64 0, .bool false, .int .i64 0] g10.out I0.out rfl O0.out ?_)
  refine bodyPost_ret (v := .agg #[.int .i64 (numV s), .int .i64 (numV (numS s)), .int .i64 (numV (numS (numS s))), .int .i64 (numV (numS (numS (numS s)))), .int .i64 (numV (numS (numS (numS (numS s))))), .int .i64 (numV (numS (numS (numS (numS (numS s)))))), .int .i64 (numV (numS (numS (numS (numS (numS (numS s))))))), y7_0, y7_1, .bool (decide (numV ((de F_res (numS (numS (numS (numS (numS (numS (numS s)))))))).2) = 1)), .int .i64 (numV (truS ((de F_res (numS (numS (numS (numS (numS (numS (numS s)))))))).2)))]) ?_ rfl ⟨[.int .i64 (numV s), .int .i64 (numV (numS s)), .int .i64 (numV (numS (numS s))), .int .i64 (numV (numS (numS (numS s)))), .int .i64 (numV (numS (numS (numS (numS s))))), .int .i64 (numV (numS (numS (numS (numS (numS s)))))), .int .i64 (numV (numS (numS (numS (numS (numS (numS s))))))), y7_0, y7_1, .bool (decide (numV ((de F_res (numS (numS (numS (numS (numS (numS (numS s)))))))).2) = 1)), .int .i64 (numV (truS ((de F_res (numS (numS (numS (numS (numS (numS (numS s)))))))).2)))], rfl, ?_, ?_, ?_⟩
  · refine results_cell_row Tryz.results94 _ _ w.heap.size 136 _ (0, 0) _ ?_ (setRow_heap w10 w.heap.size _ _ 136 _ g10.out) Tryz.underlying136 rfl I0.out
    rfl
  · exact REP.out.keptN (by simp [World.setRow]) (fun b h1 h2 => setRow_other _ _ _ _ (by omega)) (Nat.le_succ _)
  · exact h10.ext ⟨rfl, rfl, rfl, by simp [World.setRow], fun k hk => setRow_other _ _ _ _ (by omega)⟩ hDq.out.1 hDq.out.2
  · exact s10.setRow (Nat.le_refl _) _


theorem listAlloc_vi : (Tryz.prog.info? 136).map (fun i => (i.zero, i.size, i.bytes)) = some (some (.agg #[.int .i64 0, .int .i64 0, .int .i64 0, .int .i64 0, .int .i64 0, .int .i64 0, .int .i64 0, .int .i64 0, .int .i64 0, .bool false, .int .i64 0]), 11, 88) := by kernel_rfl
set_option maxHeartbeats 800000 in
set_option maxRecDepth 100000 in
theorem listAlloc_v {D : Nat} (p : Nat) (s : Option (List UInt8)) (w : World) (h : RG D w p s) :
    Calls Tryz.prog 93 #[.pointer (some ⟨p, 0, none⟩), .func (.func 94) #[.pointer (some ⟨p, 0, none⟩)] #[]] w fun e w' => ∃ (a : Option Addr) (c : Nat), e = .returned (.slice a (de (.lst F_alloc) s).1.length c) ∧ RepL w' (NB w w') F_alloc a (de (.lst F_alloc) s).1 ∧ RG D w' p (de (.lst F_alloc) s).2 ∧ RS w w' p := by
  obtain ⟨i0, hi, hz0, hz1, hz2⟩ := info_parts listAlloc_vi
  have hp0 := h.1
  have hD0 := h.2.1
  go_enter Tryz.func93, Tryz.ntmps93
  go_wp2_with fail
  refine (count_g p s _ w (by omega) (by omega) h).mono ?_
  rintro e w1 ⟨rfl, r1, s1, hn⟩
  have HNO : Hid (∀ k, k ≤ cntV 64 s → (deN (de F_alloc) k (cntS 64 s)).2 = none → de (.lst F_alloc) s = ([], none)) := fun k hk h => de_lst_none F_alloc s k hk h
  have HYE : Hid (¬ (deN (de F_alloc) (cntV 64 s) (cntS 64 s)).2 = none → de (.lst F_alloc) s = deN (de F_alloc) (cntV 64 s) (cntS 64 s)) := fun h => by rw [de, if_neg h]
  generalize cntV 64 s = N at *
  go_wp2
  go_loopw [5, 8] (fun v i wr => ∃ k : Nat, ∃ xs : List Value, k ≤ N ∧ i = .int .i64 k ∧ RG D wr p (deN (de F_alloc) k (cntS 64 s)).2 ∧ RS w wr p ∧ wr.ownsRow w.heap.size 136 11 v k xs ∧ Hid (0 < k → (deN (de F_alloc) k (cntS 64 s)).2 ≠ none) ∧ Hid (Elems w wr F_alloc v xs (deN (de F_alloc) k (cntS 64 s)).1)) (fun _ i _ => N - (intOf i).toNat)
  case atStart => exact ⟨0, [], Nat.zero_le _, rfl, r1, s1, World.ownsRow_nil _ _ _ _, (fun h => absurd h (by omega)), Elems.nil _ _ _ _⟩
  case round =>
    obtain ⟨k, xs, hk, rfl, rk, sk, ok, hnn, hel⟩ := hrel
    by_cases hlt : k < N
    · go_wp2_with fail
      refine (alloc_v p _ wr rk).mono ?_
      rintro e w2 ⟨es, rfl, hx, r2, t2⟩
      obtain ⟨y0, y1, y2, y3, y4, y5, y6, y7, y8, y9, y10, rfl⟩ := list_len11 es hx.len
      have sk2 := sk.trans t2
      have ok2 := ownsRow_rs ok t2 hp0
      have HEL2 : Hid (Elems w w2 F_alloc u5 xs (deN (de F_alloc) k (cntS 64 s)).1) := hel.out.rs t2 hp0
      have HVL : Hid (∀ q, u5.ownBlock = some q → q < wr.heap.size) := fun q hq => (ok.lt q hq).2
      have HWR : Hid (w.heap.size ≤ wr.heap.size) := sk.size
      have HX : Hid (Rep w2 (NB wr w2) F_alloc [y0, y1, y2, y3, y4, y5, y6, y7, y8, y9, y10] (de F_alloc (deN (de F_alloc) k (cntS 64 s)).2).1) := hx
      have O1 : Hid (∀ u ∈ (#[y0, y1, y2, y3, y4, y5, y6, y7, y8, y9, y10] : Array Value).toList, u.oneCell' = true) := hx.one
      have HB2 : Hid (Below w2.heap.size w2 (w2.alloc (.cells #[y0, y1, y2, y3, y4, y5, y6, y7, y8, y9, y10] 136))) := (Below.refl _ _).alloc (Nat.le_refl _) _
      clear t2 rk ok sk hx hel
      go_wp2_with (at_builtin; refine wpList_append_own2 _ rfl (.tmp 10) (.tmp 13) 32 rfl w.heap.size 136 i0 (.agg #[.int .i64 0, .int .i64 0, .int .i64 0, .int .i64 0, .int .i64 0, .int .i64 0, .int .i64 0, .int .i64 0, .int .i64 0, .bool false, .int .i64 0]) 11 88 Tryz.underlying32 hi hz0 hz1 hz2 rfl (by decide) _ _ _ rfl (ok2.alloc _) ⟨w2.heap.size, 0, none⟩ 1 1 (#[y0, y1, y2, y3, y4, y5, y6, y7, y8, y9, y10] : Array Value).toList rfl rfl (fun j u hj => cell_news w2 _ _ j u hj) O1.out ?c3 ?c4 ?c5 ?next)
      case c3 => unfold maxLen; omega
      case c4 => omega
      case c5 => have := sk2.size; rw [World.size_alloc]; omega
      case next =>
        intro v3 w3 ho3 hg3 hw3
        have HEL3 : Hid (Elems w w3 F_alloc v3 (xs ++ [y0, y1, y2, y3, y4, y5, y6, y7, y8, y9, y10]) ((deN (de F_alloc) k (cntS 64 s)).1 ++ [(de F_alloc (deN (de F_alloc) k (cntS 64 s)).2).1])) := HEL2.out.more HX.out HWR.out HVL.out HB2.out hg3 (by rw [World.size_alloc]; exact hw3)
        have hB3 : Below w.heap.size w2 w3 := ((Below.refl _ _).alloc sk2.size _).grown hg3 (by have := sk2.size; rw [World.size_alloc]; omega) (fun j hj => (ok2.lt j hj).1)
        have r3 : RG D w3 p (de F_alloc (deN (de F_alloc) k (cntS 64 s)).2).2 := r2.ext hB3 hp0 hD0
        have s3 := sk2.ext hB3
        clear hg3 r2 sk2 ok2 hB3 hw3
        cases hst : (de F_alloc (deN (de F_alloc) k (cntS 64 s)).2).2 with
        | none =>
          have r4 := r3
          rw [hst] at r4
          have HN : Hid (de (.lst F_alloc) s = ([], none)) := HNO.out (k + 1) (by omega) hst
          clear hst r3
          obtain ⟨q1, q2, q3, q4, q5, q6⟩ := r4
          have r5 : Hid (RG D w3 p none) := ⟨q1, q2, q3, q4, q5, q6⟩
          go_wp2
          go_ret
          rw [HN.out]
          exact ⟨none, 0, rfl, ⟨by simp, fun h => absurd rfl h⟩, r5.out, s3⟩
        | some l3 =>
          have r4 := r3
          rw [hst] at r4
          have HNN : Hid (0 < k + 1 → (deN (de F_alloc) (k + 1) (cntS 64 s)).2 ≠ none) := fun _ h => by
            have h' : (de F_alloc (deN (de F_alloc) k (cntS 64 s)).2).2 = none := h
            rw [hst] at h'; cases h'
          clear hst
          obtain ⟨_, _, _, _, _, _, _, q6, _⟩ := r4
          have R3 : Hid (RG D w3 p (deN (de F_alloc) (k + 1) (cntS 64 s)).2) := r3
          clear r3
          go_wp2
          exact ⟨⟨k + 1, _, by omega, by go_num, R3.out, s3, ho3, HNN, HEL3⟩, by simp [intOf]; omega⟩
    · have hkN : k = N := by omega
      subst hkN
      obtain ⟨va, vc, hv, hrl⟩ : ∃ va vc, u5 = Value.slice va k vc ∧ RepL wr (NB w wr) F_alloc va (deN (de F_alloc) k (cntS 64 s)).1 := by
        have hl := deN_length (de F_alloc) k (cntS 64 s)
        have := Elems.done (e := 136) hel.out (by rw [hl]; exact ok) (by rw [hl]; omega)
        rwa [hl] at this
      subst hv
      have FIN : Hid (RepL wr (NB w wr) F_alloc va (de (.lst F_alloc) s).1 ∧ RG D wr p (de (.lst F_alloc) s).2 ∧ (de (.lst F_alloc) s).1.length = k) := by
        by_cases hst : (deN (de F_alloc) k (cntS 64 s)).2 = none
        · have hk0 : k = 0 := by
            rcases Nat.eq_zero_or_pos k with h0 | h0
            · exact h0
            · exact absurd hst (hnn.out h0)
          have e := HNO.out k (Nat.le_refl _) hst
          rw [hst] at rk
          refine ⟨?_, ?_, ?_⟩
          · rw [e]; exact ⟨by simp, fun h => absurd rfl h⟩
          · rw [e]; exact rk
          · rw [e, hk0]; rfl
        · have e := HYE.out hst
          refine ⟨?_, ?_, ?_⟩
          · rw [e]; exact hrl
          · rw [e]; exact rk
          · rw [e]; exact deN_length _ _ _
      clear rk ok hrl hel hnn
      go_wp2
      go_ret
      rw [FIN.out.2.2]
      exact ⟨_, _, rfl, FIN.out.1, FIN.out.2.1, sk⟩


theorem de_report (s : Option (List UInt8)) : de F_report s = ((numV s, numV (numS s)), (numS (numS s))) := (de_c (de_n s) (de_n (numS s)))
set_option maxHeartbeats 1000000 in
set_option maxRecDepth 100000 in
theorem report_v {D : Nat} (p : Nat) (s : Option (List UInt8)) (w : World) (h : RG D w p s) :
    Calls Tryz.prog 54 #[.pointer (some ⟨p, 0, none⟩)] w fun e w' => ∃ cs : List Value, e = .returned (.agg cs.toArray) ∧ Rep w' (NB w w') F_report cs (de F_report s).1 ∧ RG D w' p (de F_report s).2 ∧ RS w w' p := by
  rw [de_report]
  have hmf : ∀ (fn : Fn) (first cap : Array Value) (w : World), (Instr.makeFunc fn first cap).run Tryz.prog w = .ok (.func fn first cap) w := fun _ _ _ _ => rfl
  have hB0 : Below w.heap.size w (w.alloc (.cells #[.int .i64 0, .int .i64 0] 108)) := (Below.refl _ _).alloc (Nat.le_refl _) _
  have h0 : RG D (w.alloc (.cells #[.int .i64 0, .int .i64 0] 108)) p s := h.ext hB0 h.1 h.2.1
  have s0 : RS w (w.alloc (.cells #[.int .i64 0, .int .i64 0] 108)) p := (RS.refl _ _).alloc _
  have g0 : Hid ((w.alloc (.cells #[.int .i64 0, .int .i64 0] 108)).heap[w.heap.size]? = some (.cells #[.int .i64 0, .int .i64 0] 108 (0, 0))) := heap_alloc_new w _
  have z0 : w.heap.size < (w.alloc (.cells #[.int .i64 0, .int .i64 0] 108)).heap.size := by rw [World.size_alloc]; omega
  have hpq : Hid (p ≠ w.heap.size) := by have := h.1; show p ≠ _; omega
  have hDq : Hid (p < w.heap.size ∧ D ≤ w.heap.size) := ⟨h.1, h.2.1⟩
  clear h hB0
  go_enter Tryz.func54, Tryz.ntmps54
  go_wp2_with fail
  refine (num_g p s _ h0).mono ?_
  rintro e w1 ⟨rfl, h1, t1⟩
  have s1 := s0.trans t1
  have g1 : Hid (w1.heap[w.heap.size]? = some (.cells #[.int .i64 0, .int .i64 0] 108 (0, 0))) := (t1.block _ z0 hpq.out.symm).trans g0.out
  have z1 : w.heap.size < w1.heap.size := Nat.lt_of_lt_of_le z0 t1.size
  clear h0 t1 s0 g0 z0
  go_wp2_with fail
  refine (num_g p (numS s) _ h1).mono ?_
  rintro e w2 ⟨rfl, h2, t2⟩
  have s2 := s1.trans t2
  have g2 : Hid (w2.heap[w.heap.size]? = some (.cells #[.int .i64 0, .int .i64 0] 108 (0, 0))) := (t2.block _ z1 hpq.out.symm).trans g1.out
  have z2 : w.heap.size < w2.heap.size := Nat.lt_of_lt_of_le z1 t2.size
  clear h1 t2 s1 g1 z1
  have I0 : Hid ((Tryz.prog.info? 108).map (·.size) = some (#[.int .i64 (numV s), .int .i64 (numV (numS s))] : Array Value).size) := by show _ = _; kernel_rfl
  have REP : Hid (Rep w2 (NBr (w.heap.size + 1) w2) F_report [.int .i64 (numV s), .int .i64 (numV (numS s))] (numV s, numV (numS s))) := by
    exact mk_report (numV s) (numV (numS s))
  have O0 : Hid ((#[.int .i64 (numV s), .int .i64 (numV (numS s))] : Array Value).all (·.oneCell') = true) := REP.out.all
  go_wp2_with (refine wpList_store_row rfl 108 (.tmp 2) (.tmp 7) rfl w.heap.size #[.int .i64 (numV s), .int .i64 (numV (numS s))] rfl rfl 108 #[.int .i64 0, .int .i64 0] g2.out I0.out rfl O0.out ?_)
  refine bodyPost_ret (v := .agg #[.int .i64 (numV s), .int .i64 (numV (numS s))]) ?_ rfl ⟨[.int .i64 (numV s), .int .i64 (numV (numS s))], rfl, ?_, ?_, ?_⟩
  · refine results_cell_row Tryz.results54 _ _ w.heap.size 108 _ (0, 0) _ ?_ (setRow_heap w2 w.heap.size _ _ 108 _ g2.out) Tryz.underlying108 rfl I0.out
    rfl
  · exact REP.out.keptN (by simp [World.setRow]) (fun b h1 h2 => setRow_other _ _ _ _ (by omega)) (Nat.le_succ _)
  · exact h2.ext ⟨rfl, rfl, rfl, by simp [World.setRow], fun k hk => setRow_other _ _ _ _ (by omega)⟩ hDq.out.1 hDq.out.2
  · exact s2.setRow (Nat.le_refl _) _


theorem listReport_vi : (Tryz.prog.info? 108).map (fun i => (i.zero, i.size, i.bytes)) = some (some (.agg #[.int .i64 0, .int .i64 0]), 2, 16) := by kernel_rfl
set_option maxHeartbeats 800000 in
set_option maxRecDepth 100000 in
theorem listReport_v {D : Nat} (p : Nat) (s : Option (List UInt8)) (w : World) (h : RG D w p s) :
    Calls Tryz.prog 53 #[.pointer (some ⟨p, 0, none⟩), .func (.func 54) #[.pointer (some ⟨p, 0, none⟩)] #[]] w fun e w' => ∃ (a : Option Addr) (c : Nat), e = .returned (.slice a (de (.lst F_report) s).1.length c) ∧ RepL w' (NB w w') F_report a (de (.lst F_report) s).1 ∧ RG D w' p (de (.lst F_report) s).2 ∧ RS w w' p := by
  obtain ⟨i0, hi, hz0, hz1, hz2⟩ := info_parts listReport_vi
  have hp0 := h.1
  have hD0 := h.2.1
  go_enter Tryz.func53, Tryz.ntmps53
  go_wp2_with fail
  refine (count_g p s _ w (by omega) (by omega) h).mono ?_
  rintro e w1 ⟨rfl, r1, s1, hn⟩
  have HNO : Hid (∀ k, k ≤ cntV 64 s → (deN (de F_report) k (cntS 64 s)).2 = none → de (.lst F_report) s = ([], none)) := fun k hk h => de_lst_none F_report s k hk h
  have HYE : Hid (¬ (deN (de F_report) (cntV 64 s) (cntS 64 s)).2 = none → de (.lst F_report) s = deN (de F_report) (cntV 64 s) (cntS 64 s)) := fun h => by rw [de, if_neg h]
  generalize cntV 64 s = N at *
  go_wp2
  go_loopw [5, 8] (fun v i wr => ∃ k : Nat, ∃ xs : List Value, k ≤ N ∧ i = .int .i64 k ∧ RG D wr p (deN (de F_report) k (cntS 64 s)).2 ∧ RS w wr p ∧ wr.ownsRow w.heap.size 108 2 v k xs ∧ Hid (0 < k → (deN (de F_report) k (cntS 64 s)).2 ≠ none) ∧ Hid (Elems w wr F_report v xs (deN (de F_report) k (cntS 64 s)).1)) (fun _ i _ => N - (intOf i).toNat)
  case atStart => exact ⟨0, [], Nat.zero_le _, rfl, r1, s1, World.ownsRow_nil _ _ _ _, (fun h => absurd h (by omega)), Elems.nil _ _ _ _⟩
  case round =>
    obtain ⟨k, xs, hk, rfl, rk, sk, ok, hnn, hel⟩ := hrel
    by_cases hlt : k < N
    · go_wp2_with fail
      refine (report_v p _ wr rk).mono ?_
      rintro e w2 ⟨es, rfl, hx, r2, t2⟩
      obtain ⟨y0, y1, rfl⟩ := list_len2 es hx.len
      have sk2 := sk.trans t2
      have ok2 := ownsRow_rs ok t2 hp0
      have HEL2 : Hid (Elems w w2 F_report u5 xs (deN (de F_report) k (cntS 64 s)).1) := hel.out.rs t2 hp0
      have HVL : Hid (∀ q, u5.ownBlock = some q → q < wr.heap.size) := fun q hq => (ok.lt q hq).2
      have HWR : Hid (w.heap.size ≤ wr.heap.size) := sk.size
      have HX : Hid (Rep w2 (NB wr w2) F_report [y0, y1] (de F_report (deN (de F_report) k (cntS 64 s)).2).1) := hx
      have O1 : Hid (∀ u ∈ (#[y0, y1] : Array Value).toList, u.oneCell' = true) := hx.one
      have HB2 : Hid (Below w2.heap.size w2 (w2.alloc (.cells #[y0, y1] 108))) := (Below.refl _ _).alloc (Nat.le_refl _) _
      clear t2 rk ok sk hx hel
      go_wp2_with (at_builtin; refine wpList_append_own2 _ rfl (.tmp 10) (.tmp 13) 30 rfl w.heap.size 108 i0 (.agg #[.int .i64 0, .int .i64 0]) 2 16 Tryz.underlying30 hi hz0 hz1 hz2 rfl (by decide) _ _ _ rfl (ok2.alloc _) ⟨w2.heap.size, 0, none⟩ 1 1 (#[y0, y1] : Array Value).toList rfl rfl (fun j u hj => cell_news w2 _ _ j u hj) O1.out ?c3 ?c4 ?c5 ?next)
      case c3 => unfold maxLen; omega
      case c4 => omega
      case c5 => have := sk2.size; rw [World.size_alloc]; omega
      case next =>
        intro v3 w3 ho3 hg3 hw3
        have HEL3 : Hid (Elems w w3 F_report v3 (xs ++ [y0, y1]) ((deN (de F_report) k (cntS 64 s)).1 ++ [(de F_report (deN (de F_report) k (cntS 64 s)).2).1])) := HEL2.out.more HX.out HWR.out HVL.out HB2.out hg3 (by rw [World.size_alloc]; exact hw3)
        have hB3 : Below w.heap.size w2 w3 := ((Below.refl _ _).alloc sk2.size _).grown hg3 (by have := sk2.size; rw [World.size_alloc]; omega) (fun j hj => (ok2.lt j hj).1)
        have r3 : RG D w3 p (de F_report (deN (de F_report) k (cntS 64 s)).2).2 := r2.ext hB3 hp0 hD0
        have s3 := sk2.ext hB3
        clear hg3 r2 sk2 ok2 hB3 hw3
        cases hst : (de F_report (deN (de F_report) k (cntS 64 s)).2).2 with
        | none =>
          have r4 := r3
          rw [hst] at r4
          have HN : Hid (de (.lst F_report) s = ([], none)) := HNO.out (k + 1) (by omega) hst
          clear hst r3
          obtain ⟨q1, q2, q3, q4, q5, q6⟩ := r4
          have r5 : Hid (RG D w3 p none) := ⟨q1, q2, q3, q4, q5, q6⟩
          go_wp2
          go_ret
          rw [HN.out]
          exact ⟨none, 0, rfl, ⟨by simp, fun h => absurd rfl h⟩, r5.out, s3⟩
        | some l3 =>
          have r4 := r3
          rw [hst] at r4
          have HNN : Hid (0 < k + 1 → (deN (de F_report) (k + 1) (cntS 64 s)).2 ≠ none) := fun _ h => by
            have h' : (de F_report (deN (de F_report) k (cntS 64 s)).2).2 = none := h
            rw [hst] at h'; cases h'
          clear hst
          obtain ⟨_, _, _, _, _, _, _, q6, _⟩ := r4
          have R3 : Hid (RG D w3 p (deN (de F_report) (k + 1) (cntS 64 s)).2) := r3
          clear r3
          go_wp2
          exact ⟨⟨k + 1, _, by omega, by go_num, R3.out, s3, ho3, HNN, HEL3⟩, by simp [intOf]; omega⟩
    · have hkN : k = N := by omega
      subst hkN
      obtain ⟨va, vc, hv, hrl⟩ : ∃ va vc, u5 = Value.slice va k vc ∧ RepL wr (NB w wr) F_report va (deN (de F_report) k (cntS 64 s)).1 := by
        have hl := deN_length (de F_report) k (cntS 64 s)
        have := Elems.done (e := 108) hel.out (by rw [hl]; exact ok) (by rw [hl]; omega)
        rwa [hl] at this
      subst hv
      have FIN : Hid (RepL wr (NB w wr) F_report va (de (.lst F_report) s).1 ∧ RG D wr p (de (.lst F_report) s).2 ∧ (de (.lst F_report) s).1.length = k) := by
        by_cases hst : (deN (de F_report) k (cntS 64 s)).2 = none
        · have hk0 : k = 0 := by
            rcases Nat.eq_zero_or_pos k with h0 | h0
            · exact h0
            · exact absurd hst (hnn.out h0)
          have e := HNO.out k (Nat.le_refl _) hst
          rw [hst] at rk
          refine ⟨?_, ?_, ?_⟩
          · rw [e]; exact ⟨by simp, fun h => absurd rfl h⟩
          · rw [e]; exact rk
          · rw [e, hk0]; rfl
        · have e := HYE.out hst
          refine ⟨?_, ?_, ?_⟩
          · rw [e]; exact hrl
          · rw [e]; exact rk
          · rw [e]; exact deN_length _ _ _
      clear rk ok hrl hel hnn
      go_wp2
      go_ret
      rw [FIN.out.2.2]
      exact ⟨_, _, rfl, FIN.out.1, FIN.out.2.1, sk⟩


theorem de_group (s : Option (List UInt8)) : de F_group s = ((numV s, (de F_res (numS s)).1), ((de F_res (numS s)).2)) := (de_c (de_n s) (de_e F_res (numS s)))
set_option maxHeartbeats 1000000 in
set_option maxRecDepth 100000 in
theorem group_v {D : Nat} (p : Nat) (s : Option (List UInt8)) (w : World) (h : RG D w p s) :
    Calls Tryz.prog 118 #[.pointer (some ⟨p, 0, none⟩)] w fun e w' => ∃ cs : List Value, e = .returned (.agg cs.toArray) ∧ Rep w' (NB w w') F_group cs (de F_group s).1 ∧ RG D w' p (de F_group s).2 ∧ RS w w' p := by
  rw [de_group]
  have hmf : ∀ (fn : Fn) (first cap : Array Value) (w : World), (Instr.makeFunc fn first cap).run Tryz.prog w = .ok (.func fn first cap) w := fun _ _ _ _ => rfl
  have hB0 : Below w.heap.size w (w.alloc (.cells #[.int .i64 0, .int .i64 0, .int .i64 0] 165)) := (Below.refl _ _).alloc (Nat.le_refl _) _
  have h0 : RG D (w.alloc (.cells #[.int .i64 0, .int .i64 0, .int .i64 0] 165)) p s := h.ext hB0 h.1 h.2.1
  have s0 : RS w (w.alloc (.cells #[.int .i64 0, .int .i64 0, .int .i64 0] 165)) p := (RS.refl _ _).alloc _
  have g0 : Hid ((w.alloc (.cells #[.int .i64 0, .int .i64 0, .int .i64 0] 165)).heap[w.heap.size]? = some (.cells #[.int .i64 0, .int .i64 0, .int .i64 0] 165 (0, 0))) := heap_alloc_new w _
  have z0 : w.heap.size < (w.alloc (.cells #[.int .i64 0, .int .i64 0, .int .i64 0] 165)).heap.size := by rw [World.size_alloc]; omega
  have hpq : Hid (p ≠ w.heap.size) := by have := h.1; show p ≠ _; omega
  have hDq : Hid (p < w.heap.size ∧ D ≤ w.heap.size) := ⟨h.1, h.2.1⟩
  clear h hB0
  go_enter Tryz.func118, Tryz.ntmps118
  go_wp2_with fail
  refine (num_g p s _ h0).mono ?_
  rintro e w1 ⟨rfl, h1, t1⟩
  have s1 := s0.trans t1
  have g1 : Hid (w1.heap[w.heap.size]? = some (.cells #[.int .i64 0, .int .i64 0, .int .i64 0] 165 (0, 0))) := (t1.block _ z0 hpq.out.symm).trans g0.out
  have z1 : w.heap.size < w1.heap.size := Nat.lt_of_lt_of_le z0 t1.size
  clear h0 t1 s0 g0 z0
  go_wp2_with fail
  refine (res_v p (numS s) _ h1).mono ?_
  rintro e w2 ⟨cs1, rfl, q1, h2, t2⟩
  obtain ⟨y1_0, y1_1, rfl⟩ := list_len2 cs1 q1.len
  have Q1 := hid_intro (q1.keptN (lo' := w.heap.size + 1) (Nat.le_refl _) (fun _ _ _ => rfl) z1)
  clear q1
  have s2 := s1.trans t2
  have g2 : Hid (w2.heap[w.heap.size]? = some (.cells #[.int .i64 0, .int .i64 0, .int .i64 0] 165 (0, 0))) := (t2.block _ z1 hpq.out.symm).trans g1.out
  have z2 : w.heap.size < w2.heap.size := Nat.lt_of_lt_of_le z1 t2.size
  clear h1 t2 s1 g1 z1
  have I0 : Hid ((Tryz.prog.info? 165).map (·.size) = some (#[.int .i64 (numV s), y1_0, y1_1] : Array Value).size) := by show _ = _; kernel_rfl
  have REP : Hid (Rep w2 (NBr (w.heap.size + 1) w2) F_group [.int .i64 (numV s), y1_0, y1_1] (numV s, (de F_res (numS s)).1)) := by
    exact mk_group (numV s) y1_0 y1_1 ((de F_res (numS s)).1) Q1.out
  have O0 : Hid ((#[.int .i64 (numV s), y1_0, y1_1] : Array Value).all (·.oneCell') = true) := REP.out.all
  go_wp2_with (refine wpList_store_row rfl 165 (.tmp 2) (.tmp 7) rfl w.heap.size #[.int .i64 (numV s), y1_0, y1_1] rfl rfl 165 #[.int .i64 0, .int .i64 0, .int .i64 0] g2.out I0.out rfl O0.out ?_)
  refine bodyPost_ret (v := .agg #[.int .i64 (numV s), y1_0, y1_1]) ?_ rfl ⟨[.int .i64 (numV s), y1_0, y1_1], rfl, ?_, ?_, ?_⟩
  · refine results_cell_row Tryz.results118 _ _ w.heap.size 165 _ (0, 0) _ ?_ (setRow_heap w2 w.heap.size _ _ 165 _ g2.out) Tryz.underlying165 rfl I0.out
    rfl
  · exact REP.out.keptN (by simp [World.setRow]) (fun b h1 h2 => setRow_other _ _ _ _ (by omega)) (Nat.le_succ _)
  · exact h2.ext ⟨rfl, rfl, rfl, by simp [World.setRow], fun k hk => setRow_other _ _ _ _ (by omega)⟩ hDq.out.1 hDq.out.2
  · exact s2.setRow (Nat.le_refl _) _


theorem listGroup_vi : (Tryz.prog.info? 165).map (fun i => (i.zero, i.size, i.bytes)) = some (some (.agg #[.int .i64 0, .int .i64 0, .int .i64 0]), 3, 24) := by kernel_rfl
set_option maxHeartbeats 800000 in
set_option maxRecDepth 100000 in
theorem listGroup_v {D : Nat} (p : Nat) (s : Option (List UInt8)) (w : World) (h : RG D w p s) :
    Calls Tryz.prog 117 #[.pointer (some ⟨p, 0, none⟩), .func (.func 118) #[.pointer (some ⟨p, 0, none⟩)] #[]] w fun e w' => ∃ (a : Option Addr) (c : Nat), e = .returned (.slice a (de (.lst F_group) s).1.length c) ∧ RepL w' (NB w w') F_group a (de (.lst F_group) s).1 ∧ RG D w' p (de (.lst F_group) s).2 ∧ RS w w' p := by
  obtain ⟨i0, hi, hz0, hz1, hz2⟩ := info_parts listGroup_vi
  have hp0 := h.1
  have hD0 := h.2.1
  go_enter Tryz.func117, Tryz.ntmps117
  go_wp2_with fail
  refine (count_g p s _ w (by omega) (by omega) h).mono ?_
  rintro e w1 ⟨rfl, r1, s1, hn⟩
  have HNO : Hid (∀ k, k ≤ cntV 64 s → (deN (de F_group) k (cntS 64 s)).2 = none → de (.lst F_group) s = ([], none)) := fun k hk h => de_lst_none F_group s k hk h
  have HYE : Hid (¬ (deN (de F_group) (cntV 64 s) (cntS 64 s)).2 = none → de (.lst F_group) s = deN (de F_group) (cntV 64 s) (cntS 64 s)) := fun h => by rw [de, if_neg h]
  generalize cntV 64 s = N at *
  go_wp2
  go_loopw [5, 8] (fun v i wr => ∃ k : Nat, ∃ xs : List Value, k ≤ N ∧ i = .int .i64 k ∧ RG D wr p (deN (de F_group) k (cntS 64 s)).2 ∧ RS w wr p ∧ wr.ownsRow w.heap.size 165 3 v k xs ∧ Hid (0 < k → (deN (de F_group) k (cntS 64 s)).2 ≠ none) ∧ Hid (Elems w wr F_group v xs (deN (de F_group) k (cntS 64 s)).1)) (fun _ i _ => N - (intOf i).toNat)
  case atStart => exact ⟨0, [], Nat.zero_le _, rfl, r1, s1, World.ownsRow_nil _ _ _ _, (fun h => absurd h (by omega)), Elems.nil _ _ _ _⟩
  case round =>
    obtain ⟨k, xs, hk, rfl, rk, sk, ok, hnn, hel⟩ := hrel
    by_cases hlt : k < N
    · go_wp2_with fail
      refine (group_v p _ wr rk).mono ?_
      rintro e w2 ⟨es, rfl, hx, r2, t2⟩
      obtain ⟨y0, y1, y2, rfl⟩ := list_len3 es hx.len
      have sk2 := sk.trans t2
      have ok2 := ownsRow_rs ok t2 hp0
      have HEL2 : Hid (Elems w w2 F_group u5 xs (deN (de F_group) k (cntS 64 s)).1) := hel.out.rs t2 hp0
      have HVL : Hid (∀ q, u5.ownBlock = some q → q < wr.heap.size) := fun q hq => (ok.lt q hq).2
      have HWR : Hid (w.heap.size ≤ wr.heap.size) := sk.size
      have HX : Hid (Rep w2 (NB wr w2) F_group [y0, y1, y2] (de F_group (deN (de F_group) k (cntS 64 s)).2).1) := hx
      have O1 : Hid (∀ u ∈ (#[y0, y1, y2] : Array Value).toList, u.oneCell' = true) := hx.one
      have HB2 : Hid (Below w2.heap.size w2 (w2.alloc (.cells #[y0, y1, y2] 165))) := (Below.refl _ _).alloc (Nat.le_refl _) _
      clear t2 rk ok sk hx hel
      go_wp2_with (at_builtin; refine wpList_append_own2 _ rfl (.tmp 10) (.tmp 13) 23 rfl w.heap.size 165 i0 (.agg #[.int .i64 0, .int .i64 0, .int .i64 0]) 3 24 Tryz.underlying23 hi hz0 hz1 hz2 rfl (by decide) _ _ _ rfl (ok2.alloc _) ⟨w2.heap.size, 0, none⟩ 1 1 (#[y0, y1, y2] : Array Value).toList rfl rfl (fun j u hj => cell_news w2 _ _ j u hj) O1.out ?c3 ?c4 ?c5 ?next)
      case c3 => unfold maxLen; omega
      case c4 => omega
      case c5 => have := sk2.size; rw [World.size_alloc]; omega
      case next =>
        intro v3 w3 ho3 hg3 hw3
        have HEL3 : Hid (Elems w w3 F_group v3 (xs ++ [y0, y1, y2]) ((deN (de F_group) k (cntS 64 s)).1 ++ [(de F_group (deN (de F_group) k (cntS 64 s)).2).1])) := HEL2.out.more HX.out HWR.out HVL.out HB2.out hg3 (by rw [World.size_alloc]; exact hw3)
        have hB3 : Below w.heap.size w2 w3 := ((Below.refl _ _).alloc sk2.size _).grown hg3 (by have := sk2.size; rw [World.size_alloc]; omega) (fun j hj => (ok2.lt j hj).1)
        have r3 : RG D w3 p (de F_group (deN (de F_group) k (cntS 64 s)).2).2 := r2.ext hB3 hp0 hD0
        have s3 := sk2.ext hB3
        clear hg3 r2 sk2 ok2 hB3 hw3
        cases hst : (de F_group (deN (de F_group) k (cntS 64 s)).2).2 with
        | none =>
          have r4 := r3
          rw [hst] at r4
          have HN : Hid (de (.lst F_group) s = ([], none)) := HNO.out (k + 1) (by omega) hst
          clear hst r3
          obtain ⟨q1, q2, q3, q4, q5, q6⟩ := r4
          have r5 : Hid (RG D w3 p none) := ⟨q1, q2, q3, q4, q5, q6⟩
          go_wp2
          go_ret
          rw [HN.out]
          exact ⟨none, 0, rfl, ⟨by simp, fun h => absurd rfl h⟩, r5.out, s3⟩
        | some l3 =>
          have r4 := r3
          rw [hst] at r4
          have HNN : Hid (0 < k + 1 → (deN (de F_group) (k + 1) (cntS 64 s)).2 ≠ none) := fun _ h => by
            have h' : (de F_group (deN (de F_group) k (cntS 64 s)).2).2 = none := h
            rw [hst] at h'; cases h'
          clear hst
          obtain ⟨_, _, _, _, _, _, _, q6, _⟩ := r4
          have R3 : Hid (RG D w3 p (deN (de F_group) (k + 1) (cntS 64 s)).2) := r3
          clear r3
          go_wp2
          exact ⟨⟨k + 1, _, by omega, by go_num, R3.out, s3, ho3, HNN, HEL3⟩, by simp [intOf]; omega⟩
    · have hkN : k = N := by omega
      subst hkN
      obtain ⟨va, vc, hv, hrl⟩ : ∃ va vc, u5 = Value.slice va k vc ∧ RepL wr (NB w wr) F_group va (deN (de F_group) k (cntS 64 s)).1 := by
        have hl := deN_length (de F_group) k (cntS 64 s)
        have := Elems.done (e := 165) hel.out (by rw [hl]; exact ok) (by rw [hl]; omega)
        rwa [hl] at this
      subst hv
      have FIN : Hid (RepL wr (NB w wr) F_group va (de (.lst F_group) s).1 ∧ RG D wr p (de (.lst F_group) s).2 ∧ (de (.lst F_group) s).1.length = k) := by
        by_cases hst : (deN (de F_group) k (cntS 64 s)).2 = none
        · have hk0 : k = 0 := by
            rcases Nat.eq_zero_or_pos k with h0 | h0
            · exact h0
            · exact absurd hst (hnn.out h0)
          have e := HNO.out k (Nat.le_refl _) hst
          rw [hst] at rk
          refine ⟨?_, ?_, ?_⟩
          · rw [e]; exact ⟨by simp, fun h => absurd rfl h⟩
          · rw [e]; exact rk
          · rw [e, hk0]; rfl
        · have e := HYE.out hst
          refine ⟨?_, ?_, ?_⟩
          · rw [e]; exact hrl
          · rw [e]; exact rk
          · rw [e]; exact deN_length _ _ _
      clear rk ok hrl hel hnn
      go_wp2
      go_ret
      rw [FIN.out.2.2]
      exact ⟨_, _, rfl, FIN.out.1, FIN.out.2.1, sk⟩

end Go.Proofs.YtpbokgeaolpiaabGreat
