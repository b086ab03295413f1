/- The document's reader of a record with several lists. Made by program (wip/gen/inr.py). -/
import Derived.Test.YtpbokgeaolpiaabGreatJs
namespace Go.Proofs.YtpbokgeaolpiaabGreat
open Go.RowKit

set_option maxHeartbeats 40000000 in
set_option maxRecDepth 100000 in
theorem store_i {D : Nat} (p : Nat) (l : List UInt8) (bad : Bool) (w : World) (h : RI D w p l bad) : Calls Tryz.prog 47 #[.pointer (some ⟨p, 0, none⟩)] w fun e w' => RecO D w p F_store l bad e w' := by
  obtain ⟨i0_4, hi0, hz00, hz10, hz20⟩ := info_parts listNode_vi
  have HI_4 := hidI hi0
  have HZ0_4 := hidI hz00
  have HZ1_4 := hidI hz10
  have HZ2_4 := hidI hz20
  clear hi0 hz00 hz10 hz20
  obtain ⟨i0_6, hi0, hz00, hz10, hz20⟩ := info_parts listEval_vi
  have HI_6 := hidI hi0
  have HZ0_6 := hidI hz00
  have HZ1_6 := hidI hz10
  have HZ2_6 := hidI hz20
  clear hi0 hz00 hz10 hz20
  obtain ⟨i0_7, hi0, hz00, hz10, hz20⟩ := info_parts listDeploy_vi
  have HI_7 := hidI hi0
  have HZ0_7 := hidI hz00
  have HZ1_7 := hidI hz10
  have HZ2_7 := hidI hz20
  clear hi0 hz00 hz10 hz20
  obtain ⟨i0_8, hi0, hz00, hz10, hz20⟩ := info_parts listSeen_vi
  have HI_8 := hidI hi0
  have HZ0_8 := hidI hz00
  have HZ1_8 := hidI hz10
  have HZ2_8 := hidI hz20
  clear hi0 hz00 hz10 hz20
  have hB0 : Below w.heap.size w (w.alloc (.cells #[.int .i64 0, .int .i64 0, .slice none 0 0, .slice none 0 0, .slice none 0 0, .slice none 0 0, .slice none 0 0, .slice none 0 0, .slice none 0 0] 70)) := (Below.refl _ _).alloc (Nat.le_refl _) _
  have h0 : RI D (w.alloc (.cells #[.int .i64 0, .int .i64 0, .slice none 0 0, .slice none 0 0, .slice none 0 0, .slice none 0 0, .slice none 0 0, .slice none 0 0, .slice none 0 0] 70)) p l bad := h.ext hB0 h.1 h.2.1
  have s0 : RS w (w.alloc (.cells #[.int .i64 0, .int .i64 0, .slice none 0 0, .slice none 0 0, .slice none 0 0, .slice none 0 0, .slice none 0 0, .slice none 0 0, .slice none 0 0] 70)) p := (RS.refl _ _).alloc _
  have g0 : Hid ((w.alloc (.cells #[.int .i64 0, .int .i64 0, .slice none 0 0, .slice none 0 0, .slice none 0 0, .slice none 0 0, .slice none 0 0, .slice none 0 0, .slice none 0 0] 70)).heap[w.heap.size]? = some (.cells #[.int .i64 0, .int .i64 0, .slice none 0 0, .slice none 0 0, .slice none 0 0, .slice none 0 0, .slice none 0 0, .slice none 0 0, .slice none 0 0] 70 (0, 0))) := heap_alloc_new w _
  have z0 : w.heap.size < (w.alloc (.cells #[.int .i64 0, .int .i64 0, .slice none 0 0, .slice none 0 0, .slice none 0 0, .slice none 0 0, .slice none 0 0, .slice none 0 0, .slice none 0 0] 70)).heap.size := by rw [World.size_alloc]; omega
  have hpq : Hid (p ≠ w.heap.size) := by have := h.1; show p ≠ _; omega
  have hDq : Hid (p < w.heap.size ∧ D ≤ w.heap.size) := ⟨h.1, h.2.1⟩
  clear h hB0
  go_enter Tryz.func47, Tryz.ntmps47
  go_wp2_with fail
  refine (num_i p _ _ _ h0).mono ?_
  rintro e w1 ⟨m0, rfl, _, l1, b1, rd1, h1, t1⟩
  have RD1 := hidI rd1
  clear rd1
  have s1 := s0.trans t1
  have g1 : Hid (w1.heap[w.heap.size]? = some (.cells #[.int .i64 0, .int .i64 0, .slice none 0 0, .slice none 0 0, .slice none 0 0, .slice none 0 0, .slice none 0 0, .slice none 0 0, .slice none 0 0] 70 (0, 0))) := (t1.block _ z0 hpq.out.symm).trans g0.out
  have z1 : w.heap.size < w1.heap.size := Nat.lt_of_lt_of_le z0 t1.size
  clear h0 t1 s0 g0 z0
  go_wp2_with fail
  refine (num_i p _ _ _ h1).mono ?_
  rintro e w2 ⟨m1, rfl, _, l2, b2, rd2, h2, t2⟩
  have RD2 := hidI rd2
  clear rd2
  have s2 := s1.trans t2
  have g2 : Hid (w2.heap[w.heap.size]? = some (.cells #[.int .i64 0, .int .i64 0, .slice none 0 0, .slice none 0 0, .slice none 0 0, .slice none 0 0, .slice none 0 0, .slice none 0 0, .slice none 0 0] 70 (0, 0))) := (t2.block _ z1 hpq.out.symm).trans g1.out
  have z2 : w.heap.size < w2.heap.size := Nat.lt_of_lt_of_le z1 t2.size
  clear h1 t2 s1 g1 z1
  go_wp2_with fail
  refine (jobs_i p _ _ _ h2).mono ?_
  rintro e w3 ⟨a2, c2, v2, rfl, q2, l3, b3, rd3, h3, t3⟩
  have RD3 := hidI rd3
  clear rd3
  have Q2 := hidI (q2.keptN (lo' := w.heap.size + 1) (Nat.le_refl _) (fun _ _ _ => rfl) z2)
  clear q2
  have s3 := s2.trans t3
  have g3 : Hid (w3.heap[w.heap.size]? = some (.cells #[.int .i64 0, .int .i64 0, .slice none 0 0, .slice none 0 0, .slice none 0 0, .slice none 0 0, .slice none 0 0, .slice none 0 0, .slice none 0 0] 70 (0, 0))) := (t3.block _ z2 hpq.out.symm).trans g2.out
  have z3 : w.heap.size < w3.heap.size := Nat.lt_of_lt_of_le z2 t3.size
  clear h2 t3 s2 g2 z2
  go_wp2_with fail
  refine (jobs_i p _ _ _ h3).mono ?_
  rintro e w4 ⟨a3, c3, v3, rfl, q3, l4, b4, rd4, h4, t4⟩
  have RD4 := hidI rd4
  clear rd4
  replace Q2 := hidI (Q2.out.keptN (lo' := w.heap.size + 1) t4.size (fun b h1 h2 => t4.block b h2 (by have := hDq.out.1; omega)) (Nat.le_refl _))
  have Q3 := hidI (q3.keptN (lo' := w.heap.size + 1) (Nat.le_refl _) (fun _ _ _ => rfl) z3)
  clear q3
  have s4 := s3.trans t4
  have g4 : Hid (w4.heap[w.heap.size]? = some (.cells #[.int .i64 0, .int .i64 0, .slice none 0 0, .slice none 0 0, .slice none 0 0, .slice none 0 0, .slice none 0 0, .slice none 0 0, .slice none 0 0] 70 (0, 0))) := (t4.block _ z3 hpq.out.symm).trans g3.out
  have z4 : w.heap.size < w4.heap.size := Nat.lt_of_lt_of_le z3 t4.size
  clear h3 t4 s3 g3 z3
  obtain ⟨q1, hq1⟩ : ∃ q1, Hid (w4.heap.size = q1) := ⟨_, hidI rfl⟩
  have I0 : Hid ((Tryz.prog.info? 70).map (·.size) = some (#[.int .i64 m0, .int .i64 m1, .slice a2 v2.length c2, .slice a3 v3.length c3, .slice none 0 0, .slice none 0 0, .slice none 0 0, .slice none 0 0, .slice none 0 0] : Array Value).size) := by show _ = _; kernel_rfl
  have OP : Hid (∀ c ∈ ([.int .i64 m0, .int .i64 m1, .slice a2 v2.length c2, .slice a3 v3.length c3] : List Value), c.oneCell' = true) := by
    intro c hc
    simp only [List.mem_cons, List.not_mem_nil, or_false] at hc
    rcases hc with rfl | rfl | rfl | rfl
    · exact rfl
    · exact rfl
    · exact rfl
    · exact rfl
  have O0 : Hid ((#[.int .i64 m0, .int .i64 m1, .slice a2 v2.length c2, .slice a3 v3.length c3, .slice none 0 0, .slice none 0 0, .slice none 0 0, .slice none 0 0, .slice none 0 0] : Array Value).all (·.oneCell') = true) := by
    refine all_oneCell_toArray (cs := [.int .i64 m0, .int .i64 m1, .slice a2 v2.length c2, .slice a3 v3.length c3, .slice none 0 0, .slice none 0 0, .slice none 0 0, .slice none 0 0, .slice none 0 0]) (fun c hc => ?_)
    rcases List.mem_append.1 (show c ∈ [.int .i64 m0, .int .i64 m1, .slice a2 v2.length c2, .slice a3 v3.length c3] ++ [.slice none 0 0, .slice none 0 0, .slice none 0 0, .slice none 0 0, .slice none 0 0] from hc) with h1 | h1
    · exact OP.out c h1
    · simp only [List.mem_cons, List.not_mem_nil, or_false] at h1
      rcases h1 with rfl | rfl | rfl | rfl | rfl <;> rfl
  go_wp2_with (refine wpList_store_rowF rfl 70 (.tmp 3) (.tmp 17) rfl w4.heap.size #[.int .i64 m0, .int .i64 m1, .slice a2 v2.length c2, .slice a3 v3.length c3, .slice none 0 0, .slice none 0 0, .slice none 0 0, .slice none 0 0, .slice none 0 0] rfl rfl 70 #[.int .i64 0, .int .i64 0, .slice none 0 0, .slice none 0 0, .slice none 0 0, .slice none 0 0, .slice none 0 0, .slice none 0 0, .slice none 0 0] (heap_alloc_new w4 (.cells #[.int .i64 0, .int .i64 0, .slice none 0 0, .slice none 0 0, .slice none 0 0, .slice none 0 0, .slice none 0 0, .slice none 0 0, .slice none 0 0] 70)) I0.out rfl O0.out ?nexA)
  case nexA =>
    intro wA hwAh
    have hwA := hwAh.out
    have hBA : Below w4.heap.size w4 wA := by rw [hwA]; exact ((Below.refl _ _).alloc (Nat.le_refl _) _).trans ⟨rfl, rfl, rfl, by simp [World.setRow], fun k hk => setRow_other _ _ _ _ (by omega)⟩
    have gA0 : wA.heap[w4.heap.size]? = some (.cells ([.int .i64 m0, .int .i64 m1, .slice a2 v2.length c2, .slice a3 v3.length c3, .slice none 0 0, .slice none 0 0, .slice none 0 0, .slice none 0 0, .slice none 0 0] : List Value).toArray 70 (0, 0)) := by rw [hwA]; exact setRow_heap _ _ _ _ 70 _ (heap_alloc_new w4 _)
    have zA : w4.heap.size < wA.heap.size := (Array.getElem?_eq_some_iff.1 gA0).1
    have hA := h4.ext hBA h4.1 h4.2.1
    have GA := hidI ((hBA.block _ z4).trans g4.out)
    have SA := hidI (s4.ext (hBA.mono s4.size))
    replace Q2 := hidI ((Q2.out.toX (lo' := w.heap.size + 1) (q := w4.heap.size) (Nat.le_refl _) (.inr (Nat.le_refl _))).keptX hBA.size (fun b h1 h2 h3 => hBA.block b h3))
    replace Q3 := hidI ((Q3.out.toX (lo' := w.heap.size + 1) (q := w4.heap.size) (Nat.le_refl _) (.inr (Nat.le_refl _))).keptX hBA.size (fun b h1 h2 h3 => hBA.block b h3))
    have zq : w.heap.size < q1 := by have := hq1.out; omega
    rw [hq1.out] at gA0 zA
    simp only [hq1.out]
    rw [hq1.out] at Q2
    rw [hq1.out] at Q3
    have G1A := hidI gA0
    have hcur := hA
    have GQ := GA
    have SQ := SA
    have hDB : D ≤ q1 := by have := hDq.out.2; omega
    have hpq1 : p < q1 := by have := hDq.out.1; omega
    clear hwA hwAh hBA gA0 zA h4 s4 g4 z4 hA GA SA
    go_wp2_with fail
    refine (count_i p _ _ _ hcur).mono ?_
    rintro e wB4 ⟨N4, l1_4, b1_4, rfl, hN4, hcn, hB4, tB⟩
    have HC4 := hidI hcn
    have hq1u : q1 < wA.heap.size := (Array.getElem?_eq_some_iff.1 G1A.out).1
    have GB4 := hidI ((tB.block _ (by omega) hpq.out.symm).trans GQ.out)
    have G1B4 := hidI ((tB.block q1 hq1u (by omega)).trans G1A.out)
    have ZB4 := hidI (Nat.lt_of_lt_of_le hq1u tB.size)
    have SB4 := hidI (SQ.out.trans tB)
    replace Q2 := hidI (Q2.out.keptX tB.size (fun b h1 h2 h3 => tB.block b h3 (by have := hDq.out.1; omega)))
    replace Q3 := hidI (Q3.out.keptX tB.size (fun b h1 h2 h3 => tB.block b h3 (by have := hDq.out.1; omega)))
    have hpB4 : p < wB4.heap.size := hB4.1
    clear hcn tB hcur hq1u GQ SQ G1A
    go_wp2
    go_loopw [5] (fun i wr => ∃ (k : Nat) (v : Value), k ≤ N4 ∧ i = .int .i64 k ∧ Hid (wr.heap[q1]? = some (.cells ([.int .i64 m0, .int .i64 m1, .slice a2 v2.length c2, .slice a3 v3.length c3, v, .slice none 0 0, .slice none 0 0, .slice none 0 0, .slice none 0 0] : List Value).toArray 70 (0, 0))) ∧ LoopJ D wB4 p q1 F_node 29 8 k l1_4 b1_4 v wr) (fun i _ => N4 - (intOf i).toNat)
    case atStart => exact ⟨0, .slice none 0 0, Nat.zero_le _, rfl, G1B4, [], [], l1_4, b1_4, World.ownsRow_nil _ _ _ _, ⟨rfl, rfl, rfl, Nat.le_refl _, fun _ _ _ _ => rfl⟩, hB4, RdN.zero _ _ _, Elems.nil _ _ _ _⟩
    case round =>
      obtain ⟨wr4, hwr⟩ : ∃ x, x = wr := ⟨_, rfl⟩
      subst hwr
      obtain ⟨k, v, hk, rfl, G1, xs, vsL4, lk4, bk4, ok, sk, rk, rdk, hel⟩ := hrel
      have RDK := hidI rdk
      have HEL := hidI hel
      have SK := hidI sk
      have OK := hidI ok
      have hq1r : q1 < wr4.heap.size := (Array.getElem?_eq_some_iff.1 G1.out).1
      have HQR := hidI hq1r
      clear rdk hel sk ok
      by_cases hlt : k < N4
      · have hcF : wr4.cell? ⟨q1, 4, none⟩ = some v := by rw [cell_of_row wr4 q1 4 _ 70 (0, 0) G1.out]; rfl
        have hBd : Below wr4.heap.size wr4 wr4.drew := (Below.refl _ _).drew
        have RK := hidI (rk.ext hBd rk.1 rk.2.1)
        clear rk
        go_wp2
        go_region_law (first | (refine step_append_own _ rfl (.tmp 26) (.tmp 29) 65 rfl wB4.heap.size 29 i0_4 (.agg #[.int .i64 0, .int .i64 0, .int .i64 0, .bool false, .bool false, .int .i64 0, .int .i64 0, .int .i64 0]) 8 56 Tryz.underlying65 HI_4.out HZ0_4.out HZ1_4.out HZ2_4.out rfl (by decide) v k xs rfl OKL.out ⟨wa.heap.size, 0, none⟩ 1 1 (#[z0_0, z0_1, z0_2, z0_3, z0_4, z0_5, z0_6, z0_7] : Array Value).toList rfl rfl (fun j u hj => cell_news wa _ _ j u hj) OE.out (by unfold maxLen; omega) (by omega) HSL.out ?_; intro vq wq ho3 hg3 hw3; have G3 := hidI (loop_g3 (es := [z0_0, z0_1, z0_2, z0_3, z0_4, z0_5, z0_6, z0_7]) OK.out G1.out (by decide) hpq1 TL.out hg3); have hcG : wq.cell? ⟨q1, 4, none⟩ = some v := (by rw [cell_of_row wq q1 4 _ 70 (0, 0) G3.out]; rfl); have hfG : wq.frozen? ⟨q1, 4, none⟩ = false := (by simp [World.frozen?, G3.out]); obtain ⟨gq, cq, rfl⟩ := row_slice ho3; have HO3 := hidI ho3; have HG3 := hidI hg3; have HW3 := hidI hw3; clear ho3 hg3 hw3) | (go_simp; refine (node_i p _ _ _ RK.out).mono ?_; rintro e wa ⟨cs0e, v0e, rfl, q0e, l0e, b0e, rd0e, r0e, t0e⟩; have R0e := hidI r0e; have T0e := hidI t0e; have RD0e := hidI rd0e; have hcF0 : wa.cell? ⟨q1, 4, none⟩ = some v := (World.cell?_of_block (a := ⟨q1, 4, none⟩) (t0e.block q1 HQR.out (by omega))).trans hcF; have QE0 := hidI q0e; obtain ⟨z0_0, z0_1, z0_2, z0_3, z0_4, z0_5, z0_6, z0_7, rfl⟩ := list_len8 cs0e q0e.len; clear q0e; clear r0e t0e rd0e; have TL : Hid (RS wr4 wa p) := ((rs_drew wr4 p).trans T0e.out); have HXE : Hid (Rep wa (NBr wr4.heap.size wa) F_node [z0_0, z0_1, z0_2, z0_3, z0_4, z0_5, z0_6, z0_7] v0e) := QE0.out; have RDX : Hid (Rd F_node lk4 bk4 v0e l0e b0e) := RD0e.out; have OKL := hidI ((ownsRow_rs OK.out TL.out hpB4).alloc (.cells #[z0_0, z0_1, z0_2, z0_3, z0_4, z0_5, z0_6, z0_7] 29)); have HSL : Hid (wB4.heap.size ≤ (wa.alloc (.cells #[z0_0, z0_1, z0_2, z0_3, z0_4, z0_5, z0_6, z0_7] 29)).heap.size) := (by show _ ≤ _; rw [World.size_alloc]; have := SK.out.size; have := TL.out.size; omega); have OE : Hid (∀ u ∈ (#[z0_0, z0_1, z0_2, z0_3, z0_4, z0_5, z0_6, z0_7] : Array Value).toList, u.oneCell' = true) := HXE.out.one; have hcL : (wa.alloc (.cells #[z0_0, z0_1, z0_2, z0_3, z0_4, z0_5, z0_6, z0_7] 29)).cell? ⟨q1, 4, none⟩ = some v := (World.cell?_of_block (a := ⟨q1, 4, none⟩) (Below.heap_alloc wa _ q1 (Nat.lt_of_lt_of_le HQR.out TL.out.size))).trans hcF0))
        all_goals (
          have LM := loop_more (lf := 4) (es := [z0_0, z0_1, z0_2, z0_3, z0_4, z0_5, z0_6, z0_7]) OK.out SK.out RDK.out HEL.out G1.out (by decide) ZB4.out hpB4 hpq1 hDB TL.out HXE.out RDX.out R0e.out HO3.out HG3.out (by first | exact HW3.out | (have := HW3.out; rw [World.size_alloc] at this; exact this))
          have LJ := hidI LM.1
          have GJ : Hid ((wq.setCell ⟨q1, 4, none⟩ (.slice (some ⟨gq, 0, none⟩) (k + 1) cq)).heap[q1]? = some (.cells ([.int .i64 m0, .int .i64 m1, .slice a2 v2.length c2, .slice a3 v3.length c3, .slice (some ⟨gq, 0, none⟩) (k + 1) cq, .slice none 0 0, .slice none 0 0, .slice none 0 0, .slice none 0 0] : List Value).toArray 70 (0, 0))) := LM.2
          clear LM
          go_wp2
          exact ⟨⟨k + 1, .slice (some ⟨gq, 0, none⟩) (k + 1) cq, by omega, by go_num, GJ, LJ.out⟩, by simp [intOf]; omega⟩)
      · have hkN : k = N4 := by omega
        subst hkN
        have hvl := RDK.out.1
        obtain ⟨va4, vc4, hv, hrl⟩ : ∃ va vc, v = Value.slice va k vc ∧ RepL wr4 (NB wB4 wr4) F_node va vsL4 := by
          have := Elems.done (e := 29) HEL.out (by rw [hvl]; exact OK.out) (by rw [hvl]; omega)
          rwa [hvl] at this
        subst hv
        have hvl2 : k = vsL4.length := hvl.symm
        subst hvl2
        have QL4 := hidI (hrl.toX (lo' := w.heap.size + 1) (q := q1) (by have := ZB4.out; have := SB4.out.size; omega) (.inl ZB4.out))
        have RDL4 := hidI (RdN.lst hN4 HC4.out RDK.out)
        have GQ := hidI ((SK.out.block _ (by have := ZB4.out; omega) hpq.out.symm (by omega)).trans GB4.out)
        have SQ : Hid (RS w wr4 p) := ⟨SK.out.os.trans SB4.out.os, SK.out.tape.trans SB4.out.tape, SK.out.output.trans SB4.out.output, Nat.le_trans SB4.out.size SK.out.size, fun j hj hp => (SK.out.block j (by have := SB4.out.size; omega) hp (by omega)).trans (SB4.out.block j hj hp)⟩
        replace Q2 := hidI (Q2.out.keptX SK.out.size (fun b h1 h2 h3 => SK.out.block b h3 (by have := hDq.out.1; omega) h2))
        replace Q3 := hidI (Q3.out.keptX SK.out.size (fun b h1 h2 h3 => SK.out.block b h3 (by have := hDq.out.1; omega) h2))
        have hcur := rk
        have G4y := G1
        clear hvl hrl rk HEL RDK SK OK G1 GB4 G1B4 ZB4 SB4 hpB4 hB4 HC4 HQR hq1r hk hlt
        go_wp2_with fail
        refine (allocs_i p _ _ _ hcur).mono ?_
        rintro e x5 ⟨a5, c5, v5, rfl, q5, l6, b6, rd6, r6, t6⟩
        have RD6 := hidI rd6
        clear rd6 hcur
        replace Q2 := hidI (Q2.out.keptX t6.size (fun b h1 h2 h3 => t6.block b h3 (by have := hDq.out.1; omega)))
        replace Q3 := hidI (Q3.out.keptX t6.size (fun b h1 h2 h3 => t6.block b h3 (by have := hDq.out.1; omega)))
        replace QL4 := hidI (QL4.out.keptX t6.size (fun b h1 h2 h3 => t6.block b h3 (by have := hDq.out.1; omega)))
        have hq1u : q1 < wr4.heap.size := (Array.getElem?_eq_some_iff.1 G4y.out).1
        have Q5 := hidI (q5.toX (lo' := w.heap.size + 1) (q := q1) (by omega) (.inl hq1u))
        clear q5
        have G5x := hidI ((t6.block q1 hq1u (by omega)).trans G4y.out)
        replace GQ := hidI ((t6.block _ (by omega) hpq.out.symm).trans GQ.out)
        replace SQ := hidI (SQ.out.trans t6)
        clear t6 hq1u
        have hc5 : x5.cell? ⟨q1, 5, none⟩ = some (.slice none 0 0) := by rw [cell_of_row x5 q1 5 _ 70 (0, 0) G5x.out]; rfl
        have hf5 : x5.frozen? ⟨q1, 5, none⟩ = false := by simp [World.frozen?, G5x.out]
        have LA5 := laid_cell (o := 5) G5x.out (.slice a5 v5.length c5)
        have hcur := r6.laid LA5 hpq1 hDB
        have G5y : Hid ((x5.setCell ⟨q1, 5, none⟩ (.slice a5 v5.length c5)).heap[q1]? = some (.cells ([.int .i64 m0, .int .i64 m1, .slice a2 v2.length c2, .slice a3 v3.length c3, .slice va4 vsL4.length vc4, .slice a5 v5.length c5, .slice none 0 0, .slice none 0 0, .slice none 0 0] : List Value).toArray 70 (0, 0))) := LA5.at_
        replace Q2 := hidI (Q2.out.keptX (by rw [LA5.size]; exact Nat.le_refl _) (fun b h1 h2 h3 => LA5.block b h2))
        replace Q3 := hidI (Q3.out.keptX (by rw [LA5.size]; exact Nat.le_refl _) (fun b h1 h2 h3 => LA5.block b h2))
        replace QL4 := hidI (QL4.out.keptX (by rw [LA5.size]; exact Nat.le_refl _) (fun b h1 h2 h3 => LA5.block b h2))
        replace Q5 := hidI (Q5.out.keptX (by rw [LA5.size]; exact Nat.le_refl _) (fun b h1 h2 h3 => LA5.block b h2))
        replace GQ := hidI ((LA5.block _ (by omega)).trans GQ.out)
        replace SQ : Hid (RS w (x5.setCell ⟨q1, 5, none⟩ (.slice a5 v5.length c5)) p) := ⟨LA5.os.trans SQ.out.os, LA5.tape.trans SQ.out.tape, LA5.output.trans SQ.out.output, by rw [LA5.size]; exact SQ.out.size, fun j hj hp => (LA5.block j (by omega)).trans (SQ.out.block j hj hp)⟩
        clear LA5 G5x r6
        go_wp2_with fail
        refine (count_i p _ _ _ hcur).mono ?_
        rintro e wB6 ⟨N6, l1_6, b1_6, rfl, hN6, hcn, hB6, tB⟩
        have HC6 := hidI hcn
        have hq1u : q1 < (x5.setCell ⟨q1, 5, none⟩ (.slice a5 v5.length c5)).heap.size := (Array.getElem?_eq_some_iff.1 G5y.out).1
        have GB6 := hidI ((tB.block _ (by omega) hpq.out.symm).trans GQ.out)
        have G1B6 := hidI ((tB.block q1 hq1u (by omega)).trans G5y.out)
        have ZB6 := hidI (Nat.lt_of_lt_of_le hq1u tB.size)
        have SB6 := hidI (SQ.out.trans tB)
        replace Q2 := hidI (Q2.out.keptX tB.size (fun b h1 h2 h3 => tB.block b h3 (by have := hDq.out.1; omega)))
        replace Q3 := hidI (Q3.out.keptX tB.size (fun b h1 h2 h3 => tB.block b h3 (by have := hDq.out.1; omega)))
        replace QL4 := hidI (QL4.out.keptX tB.size (fun b h1 h2 h3 => tB.block b h3 (by have := hDq.out.1; omega)))
        replace Q5 := hidI (Q5.out.keptX tB.size (fun b h1 h2 h3 => tB.block b h3 (by have := hDq.out.1; omega)))
        have hpB6 : p < wB6.heap.size := hB6.1
        clear hcn tB hcur hq1u GQ SQ G5y
        go_wp2
        go_loopw [6] (fun i wr => ∃ (k : Nat) (v : Value), k ≤ N6 ∧ i = .int .i64 k ∧ Hid (wr.heap[q1]? = some (.cells ([.int .i64 m0, .int .i64 m1, .slice a2 v2.length c2, .slice a3 v3.length c3, .slice va4 vsL4.length vc4, .slice a5 v5.length c5, v, .slice none 0 0, .slice none 0 0] : List Value).toArray 70 (0, 0))) ∧ LoopJ D wB6 p q1 F_eval 140 4 k l1_6 b1_6 v wr) (fun i _ => N6 - (intOf i).toNat)
        case atStart => exact ⟨0, .slice none 0 0, Nat.zero_le _, rfl, G1B6, [], [], l1_6, b1_6, World.ownsRow_nil _ _ _ _, ⟨rfl, rfl, rfl, Nat.le_refl _, fun _ _ _ _ => rfl⟩, hB6, RdN.zero _ _ _, Elems.nil _ _ _ _⟩
        case round =>
          obtain ⟨wr6, hwr⟩ : ∃ x, x = wr := ⟨_, rfl⟩
          subst hwr
          obtain ⟨k, v, hk, rfl, G1, xs, vsL6, lk6, bk6, ok, sk, rk, rdk, hel⟩ := hrel
          have RDK := hidI rdk
          have HEL := hidI hel
          have SK := hidI sk
          have OK := hidI ok
          have hq1r : q1 < wr6.heap.size := (Array.getElem?_eq_some_iff.1 G1.out).1
          have HQR := hidI hq1r
          clear rdk hel sk ok
          by_cases hlt : k < N6
          · have hcF : wr6.cell? ⟨q1, 6, none⟩ = some v := by rw [cell_of_row wr6 q1 6 _ 70 (0, 0) G1.out]; rfl
            have hBd : Below wr6.heap.size wr6 wr6.drew := (Below.refl _ _).drew
            have RK := hidI (rk.ext hBd rk.1 rk.2.1)
            clear rk
            go_wp2
            go_region_law (first | (refine step_append_own _ rfl (.tmp 43) (.tmp 53) 66 rfl wB6.heap.size 140 i0_6 (.agg #[.int .i64 0, .int .i64 0, .int .i64 0, .int .i64 0]) 4 32 Tryz.underlying66 HI_6.out HZ0_6.out HZ1_6.out HZ2_6.out rfl (by decide) v k xs rfl OKL.out ⟨wd.heap.size, 0, none⟩ 1 1 (#[.int .i64 m0e, .int .i64 m1e, .int .i64 m2e, .int .i64 m3e] : Array Value).toList rfl rfl (fun j u hj => cell_news wd _ _ j u hj) OE.out (by unfold maxLen; omega) (by omega) HSL.out ?_; intro vq wq ho3 hg3 hw3; have G3 := hidI (loop_g3 (es := [.int .i64 m0e, .int .i64 m1e, .int .i64 m2e, .int .i64 m3e]) OK.out G1.out (by decide) hpq1 TL.out hg3); have hcG : wq.cell? ⟨q1, 6, none⟩ = some v := (by rw [cell_of_row wq q1 6 _ 70 (0, 0) G3.out]; rfl); have hfG : wq.frozen? ⟨q1, 6, none⟩ = false := (by simp [World.frozen?, G3.out]); obtain ⟨gq, cq, rfl⟩ := row_slice ho3; have HO3 := hidI ho3; have HG3 := hidI hg3; have HW3 := hidI hw3; clear ho3 hg3 hw3) | (go_simp; refine (num_i p _ _ _ R2e.out).mono ?_; rintro e wd ⟨m3e, rfl, _, l3e, b3e, rd3e, r3e, t3e⟩; have R3e := hidI r3e; have T3e := hidI t3e; have RD3e := hidI rd3e; have hcF3 : wd.cell? ⟨q1, 6, none⟩ = some v := (World.cell?_of_block (a := ⟨q1, 6, none⟩) (t3e.block q1 (Nat.lt_of_lt_of_le (Nat.lt_of_lt_of_le (Nat.lt_of_lt_of_le HQR.out T0e.out.size) T1e.out.size) T2e.out.size) (by omega))).trans hcF2; clear r3e t3e rd3e; have TL : Hid (RS wr6 wd p) := (((((rs_drew wr6 p).trans T0e.out).trans T1e.out).trans T2e.out).trans T3e.out); have HXE : Hid (Rep wd (NBr wr6.heap.size wd) F_eval [.int .i64 m0e, .int .i64 m1e, .int .i64 m2e, .int .i64 m3e] (m0e, m1e, m2e, m3e)) := mk_eval m0e m1e m2e m3e; have RDX : Hid (Rd F_eval lk6 bk6 (m0e, m1e, m2e, m3e) l3e b3e) := (Rd.cat RD0e.out (Rd.cat RD1e.out (Rd.cat RD2e.out RD3e.out))); have OKL := hidI ((ownsRow_rs OK.out TL.out hpB6).alloc (.cells #[.int .i64 m0e, .int .i64 m1e, .int .i64 m2e, .int .i64 m3e] 140)); have HSL : Hid (wB6.heap.size ≤ (wd.alloc (.cells #[.int .i64 m0e, .int .i64 m1e, .int .i64 m2e, .int .i64 m3e] 140)).heap.size) := (by show _ ≤ _; rw [World.size_alloc]; have := SK.out.size; have := TL.out.size; omega); have OE : Hid (∀ u ∈ (#[.int .i64 m0e, .int .i64 m1e, .int .i64 m2e, .int .i64 m3e] : Array Value).toList, u.oneCell' = true) := HXE.out.one; have hcL : (wd.alloc (.cells #[.int .i64 m0e, .int .i64 m1e, .int .i64 m2e, .int .i64 m3e] 140)).cell? ⟨q1, 6, none⟩ = some v := (World.cell?_of_block (a := ⟨q1, 6, none⟩) (Below.heap_alloc wd _ q1 (Nat.lt_of_lt_of_le HQR.out TL.out.size))).trans hcF3) | (go_simp; refine (num_i p _ _ _ R1e.out).mono ?_; rintro e wc ⟨m2e, rfl, _, l2e, b2e, rd2e, r2e, t2e⟩; have R2e := hidI r2e; have T2e := hidI t2e; have RD2e := hidI rd2e; have hcF2 : wc.cell? ⟨q1, 6, none⟩ = some v := (World.cell?_of_block (a := ⟨q1, 6, none⟩) (t2e.block q1 (Nat.lt_of_lt_of_le (Nat.lt_of_lt_of_le HQR.out T0e.out.size) T1e.out.size) (by omega))).trans hcF1; clear r2e t2e rd2e) | (go_simp; refine (num_i p _ _ _ R0e.out).mono ?_; rintro e wb ⟨m1e, rfl, _, l1e, b1e, rd1e, r1e, t1e⟩; have R1e := hidI r1e; have T1e := hidI t1e; have RD1e := hidI rd1e; have hcF1 : wb.cell? ⟨q1, 6, none⟩ = some v := (World.cell?_of_block (a := ⟨q1, 6, none⟩) (t1e.block q1 (Nat.lt_of_lt_of_le HQR.out T0e.out.size) (by omega))).trans hcF0; clear r1e t1e rd1e) | (go_simp; refine (num_i p _ _ _ RK.out).mono ?_; rintro e wa ⟨m0e, rfl, _, l0e, b0e, rd0e, r0e, t0e⟩; have R0e := hidI r0e; have T0e := hidI t0e; have RD0e := hidI rd0e; have hcF0 : wa.cell? ⟨q1, 6, none⟩ = some v := (World.cell?_of_block (a := ⟨q1, 6, none⟩) (t0e.block q1 HQR.out (by omega))).trans hcF; clear r0e t0e rd0e))
            all_goals (
              have LM := loop_more (lf := 6) (es := [.int .i64 m0e, .int .i64 m1e, .int .i64 m2e, .int .i64 m3e]) OK.out SK.out RDK.out HEL.out G1.out (by decide) ZB6.out hpB6 hpq1 hDB TL.out HXE.out RDX.out R3e.out HO3.out HG3.out (by first | exact HW3.out | (have := HW3.out; rw [World.size_alloc] at this; exact this))
              have LJ := hidI LM.1
              have GJ : Hid ((wq.setCell ⟨q1, 6, none⟩ (.slice (some ⟨gq, 0, none⟩) (k + 1) cq)).heap[q1]? = some (.cells ([.int .i64 m0, .int .i64 m1, .slice a2 v2.length c2, .slice a3 v3.length c3, .slice va4 vsL4.length vc4, .slice a5 v5.length c5, .slice (some ⟨gq, 0, none⟩) (k + 1) cq, .slice none 0 0, .slice none 0 0] : List Value).toArray 70 (0, 0))) := LM.2
              clear LM
              go_wp2
              exact ⟨⟨k + 1, .slice (some ⟨gq, 0, none⟩) (k + 1) cq, by omega, by go_num, GJ, LJ.out⟩, by simp [intOf]; omega⟩)
          · have hkN : k = N6 := by omega
            subst hkN
            have hvl := RDK.out.1
            obtain ⟨va6, vc6, hv, hrl⟩ : ∃ va vc, v = Value.slice va k vc ∧ RepL wr6 (NB wB6 wr6) F_eval va vsL6 := by
              have := Elems.done (e := 140) HEL.out (by rw [hvl]; exact OK.out) (by rw [hvl]; omega)
              rwa [hvl] at this
            subst hv
            have hvl2 : k = vsL6.length := hvl.symm
            subst hvl2
            have QL6 := hidI (hrl.toX (lo' := w.heap.size + 1) (q := q1) (by have := ZB6.out; have := SB6.out.size; omega) (.inl ZB6.out))
            have RDL6 := hidI (RdN.lst hN6 HC6.out RDK.out)
            have GQ := hidI ((SK.out.block _ (by have := ZB6.out; omega) hpq.out.symm (by omega)).trans GB6.out)
            have SQ : Hid (RS w wr6 p) := ⟨SK.out.os.trans SB6.out.os, SK.out.tape.trans SB6.out.tape, SK.out.output.trans SB6.out.output, Nat.le_trans SB6.out.size SK.out.size, fun j hj hp => (SK.out.block j (by have := SB6.out.size; omega) hp (by omega)).trans (SB6.out.block j hj hp)⟩
            replace Q2 := hidI (Q2.out.keptX SK.out.size (fun b h1 h2 h3 => SK.out.block b h3 (by have := hDq.out.1; omega) h2))
            replace Q3 := hidI (Q3.out.keptX SK.out.size (fun b h1 h2 h3 => SK.out.block b h3 (by have := hDq.out.1; omega) h2))
            replace QL4 := hidI (QL4.out.keptX SK.out.size (fun b h1 h2 h3 => SK.out.block b h3 (by have := hDq.out.1; omega) h2))
            replace Q5 := hidI (Q5.out.keptX SK.out.size (fun b h1 h2 h3 => SK.out.block b h3 (by have := hDq.out.1; omega) h2))
            have hcur := rk
            have G6y := G1
            clear hvl hrl rk HEL RDK SK OK G1 GB6 G1B6 ZB6 SB6 hpB6 hB6 HC6 HQR hq1r hk hlt
            go_wp2_with fail
            refine (count_i p _ _ _ hcur).mono ?_
            rintro e wB7 ⟨N7, l1_7, b1_7, rfl, hN7, hcn, hB7, tB⟩
            have HC7 := hidI hcn
            have hq1u : q1 < wr6.heap.size := (Array.getElem?_eq_some_iff.1 G6y.out).1
            have GB7 := hidI ((tB.block _ (by omega) hpq.out.symm).trans GQ.out)
            have G1B7 := hidI ((tB.block q1 hq1u (by omega)).trans G6y.out)
            have ZB7 := hidI (Nat.lt_of_lt_of_le hq1u tB.size)
            have SB7 := hidI (SQ.out.trans tB)
            replace Q2 := hidI (Q2.out.keptX tB.size (fun b h1 h2 h3 => tB.block b h3 (by have := hDq.out.1; omega)))
            replace Q3 := hidI (Q3.out.keptX tB.size (fun b h1 h2 h3 => tB.block b h3 (by have := hDq.out.1; omega)))
            replace QL4 := hidI (QL4.out.keptX tB.size (fun b h1 h2 h3 => tB.block b h3 (by have := hDq.out.1; omega)))
            replace Q5 := hidI (Q5.out.keptX tB.size (fun b h1 h2 h3 => tB.block b h3 (by have := hDq.out.1; omega)))
            replace QL6 := hidI (QL6.out.keptX tB.size (fun b h1 h2 h3 => tB.block b h3 (by have := hDq.out.1; omega)))
            have hpB7 : p < wB7.heap.size := hB7.1
            clear hcn tB hcur hq1u GQ SQ G6y
            go_wp2
            go_loopw [7] (fun i wr => ∃ (k : Nat) (v : Value), k ≤ N7 ∧ i = .int .i64 k ∧ Hid (wr.heap[q1]? = some (.cells ([.int .i64 m0, .int .i64 m1, .slice a2 v2.length c2, .slice a3 v3.length c3, .slice va4 vsL4.length vc4, .slice a5 v5.length c5, .slice va6 vsL6.length vc6, v, .slice none 0 0] : List Value).toArray 70 (0, 0))) ∧ LoopJ D wB7 p q1 F_deploy 144 4 k l1_7 b1_7 v wr) (fun i _ => N7 - (intOf i).toNat)
            case atStart => exact ⟨0, .slice none 0 0, Nat.zero_le _, rfl, G1B7, [], [], l1_7, b1_7, World.ownsRow_nil _ _ _ _, ⟨rfl, rfl, rfl, Nat.le_refl _, fun _ _ _ _ => rfl⟩, hB7, RdN.zero _ _ _, Elems.nil _ _ _ _⟩
            case round =>
              obtain ⟨wr7, hwr⟩ : ∃ x, x = wr := ⟨_, rfl⟩
              subst hwr
              obtain ⟨k, v, hk, rfl, G1, xs, vsL7, lk7, bk7, ok, sk, rk, rdk, hel⟩ := hrel
              have RDK := hidI rdk
              have HEL := hidI hel
              have SK := hidI sk
              have OK := hidI ok
              have hq1r : q1 < wr7.heap.size := (Array.getElem?_eq_some_iff.1 G1.out).1
              have HQR := hidI hq1r
              clear rdk hel sk ok
              by_cases hlt : k < N7
              · have hcF : wr7.cell? ⟨q1, 7, none⟩ = some v := by rw [cell_of_row wr7 q1 7 _ 70 (0, 0) G1.out]; rfl
                have hBd : Below wr7.heap.size wr7 wr7.drew := (Below.refl _ _).drew
                have RK := hidI (rk.ext hBd rk.1 rk.2.1)
                clear rk
                go_wp2
                go_region_law (first | (refine step_append_own _ rfl (.tmp 64) (.tmp 74) 67 rfl wB7.heap.size 144 i0_7 (.agg #[.int .i64 0, .int .i64 0, .int .i64 0, .int .i64 0]) 4 32 Tryz.underlying67 HI_7.out HZ0_7.out HZ1_7.out HZ2_7.out rfl (by decide) v k xs rfl OKL.out ⟨wd.heap.size, 0, none⟩ 1 1 (#[.int .i64 m0e, .int .i64 m1e, .int .i64 m2e, .int .i64 m3e] : Array Value).toList rfl rfl (fun j u hj => cell_news wd _ _ j u hj) OE.out (by unfold maxLen; omega) (by omega) HSL.out ?_; intro vq wq ho3 hg3 hw3; have G3 := hidI (loop_g3 (es := [.int .i64 m0e, .int .i64 m1e, .int .i64 m2e, .int .i64 m3e]) OK.out G1.out (by decide) hpq1 TL.out hg3); have hcG : wq.cell? ⟨q1, 7, none⟩ = some v := (by rw [cell_of_row wq q1 7 _ 70 (0, 0) G3.out]; rfl); have hfG : wq.frozen? ⟨q1, 7, none⟩ = false := (by simp [World.frozen?, G3.out]); obtain ⟨gq, cq, rfl⟩ := row_slice ho3; have HO3 := hidI ho3; have HG3 := hidI hg3; have HW3 := hidI hw3; clear ho3 hg3 hw3) | (go_simp; refine (num_i p _ _ _ R2e.out).mono ?_; rintro e wd ⟨m3e, rfl, _, l3e, b3e, rd3e, r3e, t3e⟩; have R3e := hidI r3e; have T3e := hidI t3e; have RD3e := hidI rd3e; have hcF3 : wd.cell? ⟨q1, 7, none⟩ = some v := (World.cell?_of_block (a := ⟨q1, 7, none⟩) (t3e.block q1 (Nat.lt_of_lt_of_le (Nat.lt_of_lt_of_le (Nat.lt_of_lt_of_le HQR.out T0e.out.size) T1e.out.size) T2e.out.size) (by omega))).trans hcF2; clear r3e t3e rd3e; have TL : Hid (RS wr7 wd p) := (((((rs_drew wr7 p).trans T0e.out).trans T1e.out).trans T2e.out).trans T3e.out); have HXE : Hid (Rep wd (NBr wr7.heap.size wd) F_deploy [.int .i64 m0e, .int .i64 m1e, .int .i64 m2e, .int .i64 m3e] (m0e, m1e, m2e, m3e)) := mk_deploy m0e m1e m2e m3e; have RDX : Hid (Rd F_deploy lk7 bk7 (m0e, m1e, m2e, m3e) l3e b3e) := (Rd.cat RD0e.out (Rd.cat RD1e.out (Rd.cat RD2e.out RD3e.out))); have OKL := hidI ((ownsRow_rs OK.out TL.out hpB7).alloc (.cells #[.int .i64 m0e, .int .i64 m1e, .int .i64 m2e, .int .i64 m3e] 144)); have HSL : Hid (wB7.heap.size ≤ (wd.alloc (.cells #[.int .i64 m0e, .int .i64 m1e, .int .i64 m2e, .int .i64 m3e] 144)).heap.size) := (by show _ ≤ _; rw [World.size_alloc]; have := SK.out.size; have := TL.out.size; omega); have OE : Hid (∀ u ∈ (#[.int .i64 m0e, .int .i64 m1e, .int .i64 m2e, .int .i64 m3e] : Array Value).toList, u.oneCell' = true) := HXE.out.one; have hcL : (wd.alloc (.cells #[.int .i64 m0e, .int .i64 m1e, .int .i64 m2e, .int .i64 m3e] 144)).cell? ⟨q1, 7, none⟩ = some v := (World.cell?_of_block (a := ⟨q1, 7, none⟩) (Below.heap_alloc wd _ q1 (Nat.lt_of_lt_of_le HQR.out TL.out.size))).trans hcF3) | (go_simp; refine (num_i p _ _ _ R1e.out).mono ?_; rintro e wc ⟨m2e, rfl, _, l2e, b2e, rd2e, r2e, t2e⟩; have R2e := hidI r2e; have T2e := hidI t2e; have RD2e := hidI rd2e; have hcF2 : wc.cell? ⟨q1, 7, none⟩ = some v := (World.cell?_of_block (a := ⟨q1, 7, none⟩) (t2e.block q1 (Nat.lt_of_lt_of_le (Nat.lt_of_lt_of_le HQR.out T0e.out.size) T1e.out.size) (by omega))).trans hcF1; clear r2e t2e rd2e) | (go_simp; refine (num_i p _ _ _ R0e.out).mono ?_; rintro e wb ⟨m1e, rfl, _, l1e, b1e, rd1e, r1e, t1e⟩; have R1e := hidI r1e; have T1e := hidI t1e; have RD1e := hidI rd1e; have hcF1 : wb.cell? ⟨q1, 7, none⟩ = some v := (World.cell?_of_block (a := ⟨q1, 7, none⟩) (t1e.block q1 (Nat.lt_of_lt_of_le HQR.out T0e.out.size) (by omega))).trans hcF0; clear r1e t1e rd1e) | (go_simp; refine (num_i p _ _ _ RK.out).mono ?_; rintro e wa ⟨m0e, rfl, _, l0e, b0e, rd0e, r0e, t0e⟩; have R0e := hidI r0e; have T0e := hidI t0e; have RD0e := hidI rd0e; have hcF0 : wa.cell? ⟨q1, 7, none⟩ = some v := (World.cell?_of_block (a := ⟨q1, 7, none⟩) (t0e.block q1 HQR.out (by omega))).trans hcF; clear r0e t0e rd0e))
                all_goals (
                  have LM := loop_more (lf := 7) (es := [.int .i64 m0e, .int .i64 m1e, .int .i64 m2e, .int .i64 m3e]) OK.out SK.out RDK.out HEL.out G1.out (by decide) ZB7.out hpB7 hpq1 hDB TL.out HXE.out RDX.out R3e.out HO3.out HG3.out (by first | exact HW3.out | (have := HW3.out; rw [World.size_alloc] at this; exact this))
                  have LJ := hidI LM.1
                  have GJ : Hid ((wq.setCell ⟨q1, 7, none⟩ (.slice (some ⟨gq, 0, none⟩) (k + 1) cq)).heap[q1]? = some (.cells ([.int .i64 m0, .int .i64 m1, .slice a2 v2.length c2, .slice a3 v3.length c3, .slice va4 vsL4.length vc4, .slice a5 v5.length c5, .slice va6 vsL6.length vc6, .slice (some ⟨gq, 0, none⟩) (k + 1) cq, .slice none 0 0] : List Value).toArray 70 (0, 0))) := LM.2
                  clear LM
                  go_wp2
                  exact ⟨⟨k + 1, .slice (some ⟨gq, 0, none⟩) (k + 1) cq, by omega, by go_num, GJ, LJ.out⟩, by simp [intOf]; omega⟩)
              · have hkN : k = N7 := by omega
                subst hkN
                have hvl := RDK.out.1
                obtain ⟨va7, vc7, hv, hrl⟩ : ∃ va vc, v = Value.slice va k vc ∧ RepL wr7 (NB wB7 wr7) F_deploy va vsL7 := by
                  have := Elems.done (e := 144) HEL.out (by rw [hvl]; exact OK.out) (by rw [hvl]; omega)
                  rwa [hvl] at this
                subst hv
                have hvl2 : k = vsL7.length := hvl.symm
                subst hvl2
                have QL7 := hidI (hrl.toX (lo' := w.heap.size + 1) (q := q1) (by have := ZB7.out; have := SB7.out.size; omega) (.inl ZB7.out))
                have RDL7 := hidI (RdN.lst hN7 HC7.out RDK.out)
                have GQ := hidI ((SK.out.block _ (by have := ZB7.out; omega) hpq.out.symm (by omega)).trans GB7.out)
                have SQ : Hid (RS w wr7 p) := ⟨SK.out.os.trans SB7.out.os, SK.out.tape.trans SB7.out.tape, SK.out.output.trans SB7.out.output, Nat.le_trans SB7.out.size SK.out.size, fun j hj hp => (SK.out.block j (by have := SB7.out.size; omega) hp (by omega)).trans (SB7.out.block j hj hp)⟩
                replace Q2 := hidI (Q2.out.keptX SK.out.size (fun b h1 h2 h3 => SK.out.block b h3 (by have := hDq.out.1; omega) h2))
                replace Q3 := hidI (Q3.out.keptX SK.out.size (fun b h1 h2 h3 => SK.out.block b h3 (by have := hDq.out.1; omega) h2))
                replace QL4 := hidI (QL4.out.keptX SK.out.size (fun b h1 h2 h3 => SK.out.block b h3 (by have := hDq.out.1; omega) h2))
                replace Q5 := hidI (Q5.out.keptX SK.out.size (fun b h1 h2 h3 => SK.out.block b h3 (by have := hDq.out.1; omega) h2))
                replace QL6 := hidI (QL6.out.keptX SK.out.size (fun b h1 h2 h3 => SK.out.block b h3 (by have := hDq.out.1; omega) h2))
                have hcur := rk
                have G7y := G1
                clear hvl hrl rk HEL RDK SK OK G1 GB7 G1B7 ZB7 SB7 hpB7 hB7 HC7 HQR hq1r hk hlt
                go_wp2_with fail
                refine (count_i p _ _ _ hcur).mono ?_
                rintro e wB8 ⟨N8, l1_8, b1_8, rfl, hN8, hcn, hB8, tB⟩
                have HC8 := hidI hcn
                have hq1u : q1 < wr7.heap.size := (Array.getElem?_eq_some_iff.1 G7y.out).1
                have GB8 := hidI ((tB.block _ (by omega) hpq.out.symm).trans GQ.out)
                have G1B8 := hidI ((tB.block q1 hq1u (by omega)).trans G7y.out)
                have ZB8 := hidI (Nat.lt_of_lt_of_le hq1u tB.size)
                have SB8 := hidI (SQ.out.trans tB)
                replace Q2 := hidI (Q2.out.keptX tB.size (fun b h1 h2 h3 => tB.block b h3 (by have := hDq.out.1; omega)))
                replace Q3 := hidI (Q3.out.keptX tB.size (fun b h1 h2 h3 => tB.block b h3 (by have := hDq.out.1; omega)))
                replace QL4 := hidI (QL4.out.keptX tB.size (fun b h1 h2 h3 => tB.block b h3 (by have := hDq.out.1; omega)))
                replace Q5 := hidI (Q5.out.keptX tB.size (fun b h1 h2 h3 => tB.block b h3 (by have := hDq.out.1; omega)))
                replace QL6 := hidI (QL6.out.keptX tB.size (fun b h1 h2 h3 => tB.block b h3 (by have := hDq.out.1; omega)))
                replace QL7 := hidI (QL7.out.keptX tB.size (fun b h1 h2 h3 => tB.block b h3 (by have := hDq.out.1; omega)))
                have hpB8 : p < wB8.heap.size := hB8.1
                clear hcn tB hcur hq1u GQ SQ G7y
                go_wp2
                go_loopw [8] (fun i wr => ∃ (k : Nat) (v : Value), k ≤ N8 ∧ i = .int .i64 k ∧ Hid (wr.heap[q1]? = some (.cells ([.int .i64 m0, .int .i64 m1, .slice a2 v2.length c2, .slice a3 v3.length c3, .slice va4 vsL4.length vc4, .slice a5 v5.length c5, .slice va6 vsL6.length vc6, .slice va7 vsL7.length vc7, v] : List Value).toArray 70 (0, 0))) ∧ LoopJ D wB8 p q1 F_seen 148 5 k l1_8 b1_8 v wr) (fun i _ => N8 - (intOf i).toNat)
                case atStart => exact ⟨0, .slice none 0 0, Nat.zero_le _, rfl, G1B8, [], [], l1_8, b1_8, World.ownsRow_nil _ _ _ _, ⟨rfl, rfl, rfl, Nat.le_refl _, fun _ _ _ _ => rfl⟩, hB8, RdN.zero _ _ _, Elems.nil _ _ _ _⟩
                case round =>
                  obtain ⟨wr8, hwr⟩ : ∃ x, x = wr := ⟨_, rfl⟩
                  subst hwr
                  obtain ⟨k, v, hk, rfl, G1, xs, vsL8, lk8, bk8, ok, sk, rk, rdk, hel⟩ := hrel
                  have RDK := hidI rdk
                  have HEL := hidI hel
                  have SK := hidI sk
                  have OK := hidI ok
                  have hq1r : q1 < wr8.heap.size := (Array.getElem?_eq_some_iff.1 G1.out).1
                  have HQR := hidI hq1r
                  clear rdk hel sk ok
                  by_cases hlt : k < N8
                  · have hcF : wr8.cell? ⟨q1, 8, none⟩ = some v := by rw [cell_of_row wr8 q1 8 _ 70 (0, 0) G1.out]; rfl
                    have hBd : Below wr8.heap.size wr8 wr8.drew := (Below.refl _ _).drew
                    have RK := hidI (rk.ext hBd rk.1 rk.2.1)
                    clear rk
                    go_wp2
                    go_region_law (first | (refine step_append_own _ rfl (.tmp 85) (.tmp 93) 68 rfl wB8.heap.size 148 i0_8 (.agg #[.int .i64 0, .int .i64 0, .int .i64 0, .int .i64 0, .slice none 0 0]) 5 56 Tryz.underlying68 HI_8.out HZ0_8.out HZ1_8.out HZ2_8.out rfl (by decide) v k xs rfl OKL.out ⟨wc.heap.size, 0, none⟩ 1 1 (#[.int .i64 m0e, .int .i64 m1e, z2_0, z2_1, z2_2] : Array Value).toList rfl rfl (fun j u hj => cell_news wc _ _ j u hj) OE.out (by unfold maxLen; omega) (by omega) HSL.out ?_; intro vq wq ho3 hg3 hw3; have G3 := hidI (loop_g3 (es := [.int .i64 m0e, .int .i64 m1e, z2_0, z2_1, z2_2]) OK.out G1.out (by decide) hpq1 TL.out hg3); have hcG : wq.cell? ⟨q1, 8, none⟩ = some v := (by rw [cell_of_row wq q1 8 _ 70 (0, 0) G3.out]; rfl); have hfG : wq.frozen? ⟨q1, 8, none⟩ = false := (by simp [World.frozen?, G3.out]); obtain ⟨gq, cq, rfl⟩ := row_slice ho3; have HO3 := hidI ho3; have HG3 := hidI hg3; have HW3 := hidI hw3; clear ho3 hg3 hw3) | (go_simp; refine (result_i p _ _ _ R1e.out).mono ?_; rintro e wc ⟨cs2e, v2e, rfl, q2e, l2e, b2e, rd2e, r2e, t2e⟩; have R2e := hidI r2e; have T2e := hidI t2e; have RD2e := hidI rd2e; have hcF2 : wc.cell? ⟨q1, 8, none⟩ = some v := (World.cell?_of_block (a := ⟨q1, 8, none⟩) (t2e.block q1 (Nat.lt_of_lt_of_le (Nat.lt_of_lt_of_le HQR.out T0e.out.size) T1e.out.size) (by omega))).trans hcF1; have QE2 := hidI q2e; obtain ⟨z2_0, z2_1, z2_2, rfl⟩ := list_len3 cs2e q2e.len; clear q2e; clear r2e t2e rd2e; have TL : Hid (RS wr8 wc p) := ((((rs_drew wr8 p).trans T0e.out).trans T1e.out).trans T2e.out); have HXE : Hid (Rep wc (NBr wr8.heap.size wc) F_seen [.int .i64 m0e, .int .i64 m1e, z2_0, z2_1, z2_2] (m0e, m1e, v2e)) := mk_seen m0e m1e z2_0 z2_1 z2_2 v2e (QE2.out.keptN (lo' := wr8.heap.size) (Nat.le_refl _) (fun _ _ _ => rfl) (Nat.le_trans T0e.out.size T1e.out.size)); have RDX : Hid (Rd F_seen lk8 bk8 (m0e, m1e, v2e) l2e b2e) := (Rd.cat RD0e.out (Rd.cat RD1e.out RD2e.out)); have OKL := hidI ((ownsRow_rs OK.out TL.out hpB8).alloc (.cells #[.int .i64 m0e, .int .i64 m1e, z2_0, z2_1, z2_2] 148)); have HSL : Hid (wB8.heap.size ≤ (wc.alloc (.cells #[.int .i64 m0e, .int .i64 m1e, z2_0, z2_1, z2_2] 148)).heap.size) := (by show _ ≤ _; rw [World.size_alloc]; have := SK.out.size; have := TL.out.size; omega); have OE : Hid (∀ u ∈ (#[.int .i64 m0e, .int .i64 m1e, z2_0, z2_1, z2_2] : Array Value).toList, u.oneCell' = true) := HXE.out.one; have hcL : (wc.alloc (.cells #[.int .i64 m0e, .int .i64 m1e, z2_0, z2_1, z2_2] 148)).cell? ⟨q1, 8, none⟩ = some v := (World.cell?_of_block (a := ⟨q1, 8, none⟩) (Below.heap_alloc wc _ q1 (Nat.lt_of_lt_of_le HQR.out TL.out.size))).trans hcF2) | (go_simp; refine (num_i p _ _ _ R0e.out).mono ?_; rintro e wb ⟨m1e, rfl, _, l1e, b1e, rd1e, r1e, t1e⟩; have R1e := hidI r1e; have T1e := hidI t1e; have RD1e := hidI rd1e; have hcF1 : wb.cell? ⟨q1, 8, none⟩ = some v := (World.cell?_of_block (a := ⟨q1, 8, none⟩) (t1e.block q1 (Nat.lt_of_lt_of_le HQR.out T0e.out.size) (by omega))).trans hcF0; clear r1e t1e rd1e) | (go_simp; refine (num_i p _ _ _ RK.out).mono ?_; rintro e wa ⟨m0e, rfl, _, l0e, b0e, rd0e, r0e, t0e⟩; have R0e := hidI r0e; have T0e := hidI t0e; have RD0e := hidI rd0e; have hcF0 : wa.cell? ⟨q1, 8, none⟩ = some v := (World.cell?_of_block (a := ⟨q1, 8, none⟩) (t0e.block q1 HQR.out (by omega))).trans hcF; clear r0e t0e rd0e))
                    all_goals (
                      have LM := loop_more (lf := 8) (es := [.int .i64 m0e, .int .i64 m1e, z2_0, z2_1, z2_2]) OK.out SK.out RDK.out HEL.out G1.out (by decide) ZB8.out hpB8 hpq1 hDB TL.out HXE.out RDX.out R2e.out HO3.out HG3.out (by first | exact HW3.out | (have := HW3.out; rw [World.size_alloc] at this; exact this))
                      have LJ := hidI LM.1
                      have GJ : Hid ((wq.setCell ⟨q1, 8, none⟩ (.slice (some ⟨gq, 0, none⟩) (k + 1) cq)).heap[q1]? = some (.cells ([.int .i64 m0, .int .i64 m1, .slice a2 v2.length c2, .slice a3 v3.length c3, .slice va4 vsL4.length vc4, .slice a5 v5.length c5, .slice va6 vsL6.length vc6, .slice va7 vsL7.length vc7, .slice (some ⟨gq, 0, none⟩) (k + 1) cq] : List Value).toArray 70 (0, 0))) := LM.2
                      clear LM
                      go_wp2
                      exact ⟨⟨k + 1, .slice (some ⟨gq, 0, none⟩) (k + 1) cq, by omega, by go_num, GJ, LJ.out⟩, by simp [intOf]; omega⟩)
                  · have hkN : k = N8 := by omega
                    subst hkN
                    have hvl := RDK.out.1
                    obtain ⟨va8, vc8, hv, hrl⟩ : ∃ va vc, v = Value.slice va k vc ∧ RepL wr8 (NB wB8 wr8) F_seen va vsL8 := by
                      have := Elems.done (e := 148) HEL.out (by rw [hvl]; exact OK.out) (by rw [hvl]; omega)
                      rwa [hvl] at this
                    subst hv
                    have hvl2 : k = vsL8.length := hvl.symm
                    subst hvl2
                    have QL8 := hidI (hrl.toX (lo' := w.heap.size + 1) (q := q1) (by have := ZB8.out; have := SB8.out.size; omega) (.inl ZB8.out))
                    have RDL8 := hidI (RdN.lst hN8 HC8.out RDK.out)
                    have GQ := hidI ((SK.out.block _ (by have := ZB8.out; omega) hpq.out.symm (by omega)).trans GB8.out)
                    have SQ : Hid (RS w wr8 p) := ⟨SK.out.os.trans SB8.out.os, SK.out.tape.trans SB8.out.tape, SK.out.output.trans SB8.out.output, Nat.le_trans SB8.out.size SK.out.size, fun j hj hp => (SK.out.block j (by have := SB8.out.size; omega) hp (by omega)).trans (SB8.out.block j hj hp)⟩
                    replace Q2 := hidI (Q2.out.keptX SK.out.size (fun b h1 h2 h3 => SK.out.block b h3 (by have := hDq.out.1; omega) h2))
                    replace Q3 := hidI (Q3.out.keptX SK.out.size (fun b h1 h2 h3 => SK.out.block b h3 (by have := hDq.out.1; omega) h2))
                    replace QL4 := hidI (QL4.out.keptX SK.out.size (fun b h1 h2 h3 => SK.out.block b h3 (by have := hDq.out.1; omega) h2))
                    replace Q5 := hidI (Q5.out.keptX SK.out.size (fun b h1 h2 h3 => SK.out.block b h3 (by have := hDq.out.1; omega) h2))
                    replace QL6 := hidI (QL6.out.keptX SK.out.size (fun b h1 h2 h3 => SK.out.block b h3 (by have := hDq.out.1; omega) h2))
                    replace QL7 := hidI (QL7.out.keptX SK.out.size (fun b h1 h2 h3 => SK.out.block b h3 (by have := hDq.out.1; omega) h2))
                    have hcur := rk
                    have G8y := G1
                    clear hvl hrl rk HEL RDK SK OK G1 GB8 G1B8 ZB8 SB8 hpB8 hB8 HC8 HQR hq1r hk hlt
                    have REP : Hid (Rep wr8 (NX (w.heap.size + 1) q1 wr8) F_store [.int .i64 m0, .int .i64 m1, .slice a2 v2.length c2, .slice a3 v3.length c3, .slice va4 vsL4.length vc4, .slice a5 v5.length c5, .slice va6 vsL6.length vc6, .slice va7 vsL7.length vc7, .slice va8 vsL8.length vc8] (m0, m1, v2, v3, vsL4, v5, vsL6, vsL7, vsL8)) := by
                      exact mk_store m0 m1 a2 c2 v2 a3 c3 v3 va4 vc4 vsL4 a5 c5 v5 va6 vc6 vsL6 va7 vc7 vsL7 va8 vc8 vsL8 Q2.out Q3.out QL4.out Q5.out QL6.out QL7.out QL8.out
                    have RDA : Hid (Rd F_store l bad (m0, m1, v2, v3, vsL4, v5, vsL6, vsL7, vsL8) lk8 bk8) := (Rd.cat RD1.out (Rd.cat RD2.out (Rd.cat RD3.out (Rd.cat RD4.out (Rd.cat RDL4.out (Rd.cat RD6.out (Rd.cat RDL6.out (Rd.cat RDL7.out RDL8.out))))))))
                    have IF : Hid ((Tryz.prog.info? 70).map (·.size) = some (#[.int .i64 m0, .int .i64 m1, .slice a2 v2.length c2, .slice a3 v3.length c3, .slice va4 vsL4.length vc4, .slice a5 v5.length c5, .slice va6 vsL6.length vc6, .slice va7 vsL7.length vc7, .slice va8 vsL8.length vc8] : Array Value).size) := by show _ = _; kernel_rfl
                    have OF : Hid ((#[.int .i64 m0, .int .i64 m1, .slice a2 v2.length c2, .slice a3 v3.length c3, .slice va4 vsL4.length vc4, .slice a5 v5.length c5, .slice va6 vsL6.length vc6, .slice va7 vsL7.length vc7, .slice va8 vsL8.length vc8] : Array Value).all (·.oneCell') = true) := REP.out.all
                    have HCUR := hidI hcur
                    clear hcur
                    go_wp2_with (first
                      | (refine wpList_load_row rfl 70 (.tmp 3) rfl q1 rfl 70 #[.int .i64 m0, .int .i64 m1, .slice a2 v2.length c2, .slice a3 v3.length c3, .slice va4 vsL4.length vc4, .slice a5 v5.length c5, .slice va6 vsL6.length vc6, .slice va7 vsL7.length vc7, .slice va8 vsL8.length vc8] (0, 0) _ G8y.out Tryz.underlying70 rfl IF.out ?_)
                      | (refine wpList_store_row rfl 70 (.tmp 2) (.tmp 96) rfl w.heap.size #[.int .i64 m0, .int .i64 m1, .slice a2 v2.length c2, .slice a3 v3.length c3, .slice va4 vsL4.length vc4, .slice a5 v5.length c5, .slice va6 vsL6.length vc6, .slice va7 vsL7.length vc7, .slice va8 vsL8.length vc8] rfl rfl 70 #[.int .i64 0, .int .i64 0, .slice none 0 0, .slice none 0 0, .slice none 0 0, .slice none 0 0, .slice none 0 0, .slice none 0 0, .slice none 0 0] GQ.out IF.out rfl OF.out ?_))
                    refine bodyPost_ret (v := .agg #[.int .i64 m0, .int .i64 m1, .slice a2 v2.length c2, .slice a3 v3.length c3, .slice va4 vsL4.length vc4, .slice a5 v5.length c5, .slice va6 vsL6.length vc6, .slice va7 vsL7.length vc7, .slice va8 vsL8.length vc8]) ?_ rfl ⟨[.int .i64 m0, .int .i64 m1, .slice a2 v2.length c2, .slice a3 v3.length c3, .slice va4 vsL4.length vc4, .slice a5 v5.length c5, .slice va6 vsL6.length vc6, .slice va7 vsL7.length vc7, .slice va8 vsL8.length vc8], _, rfl, ?_, lk8, bk8, RDA.out, ?_, ?_⟩
                    · refine results_cell_row Tryz.results47 _ _ w.heap.size 70 _ (0, 0) _ ?_ (setRow_heap wr8 w.heap.size _ _ 70 _ GQ.out) Tryz.underlying70 rfl IF.out
                      rfl
                    · exact (REP.out.keptX (by simp [World.setRow]) (fun b h1 h2 h3 => setRow_other _ _ _ _ (by omega))).unX (Nat.le_succ _)
                    · exact HCUR.out.ext ⟨rfl, rfl, rfl, by simp [World.setRow], fun k hk => setRow_other _ _ _ _ (by omega)⟩ hDq.out.1 hDq.out.2
                    · exact SQ.out.setRow (Nat.le_refl _) _
end Go.Proofs.YtpbokgeaolpiaabGreat
