/- The document's reader of a record with a list. Made by program (wip/gen/inr.py). -/
import Derived.Test.YtpbokgeaolpiaabGreatKB
namespace Go.Proofs.YtpbokgeaolpiaabGreat
open Go.RowKit

set_option maxHeartbeats 4000000 in
set_option maxRecDepth 100000 in
theorem job_i {D : Nat} (p : Nat) (l : List UInt8) (bad : Bool) (w : World) (h : RI D w p l bad) : Calls Tryz.prog 58 #[.pointer (some ⟨p, 0, none⟩)] w fun e w' => RecO D w p F_job l bad e w' := by
  obtain ⟨i0, hi0, hz00, hz10, hz20⟩ := info_parts listGroup_vi
  have HI := hidI hi0
  have HZ0 := hidI hz00
  have HZ1 := hidI hz10
  have HZ2 := hidI hz20
  clear hi0 hz00 hz10 hz20
  have hB0 : Below w.heap.size w (w.alloc (.cells #[.int .i64 0, .int .i64 0, .int .i64 0, .int .i64 0, .slice none 0 0, .int .i64 0, .bool false] 25)) := (Below.refl _ _).alloc (Nat.le_refl _) _
  have h0 : RI D (w.alloc (.cells #[.int .i64 0, .int .i64 0, .int .i64 0, .int .i64 0, .slice none 0 0, .int .i64 0, .bool false] 25)) p l bad := h.ext hB0 h.1 h.2.1
  have s0 : RS w (w.alloc (.cells #[.int .i64 0, .int .i64 0, .int .i64 0, .int .i64 0, .slice none 0 0, .int .i64 0, .bool false] 25)) p := (RS.refl _ _).alloc _
  have g0 : Hid ((w.alloc (.cells #[.int .i64 0, .int .i64 0, .int .i64 0, .int .i64 0, .slice none 0 0, .int .i64 0, .bool false] 25)).heap[w.heap.size]? = some (.cells #[.int .i64 0, .int .i64 0, .int .i64 0, .int .i64 0, .slice none 0 0, .int .i64 0, .bool false] 25 (0, 0))) := heap_alloc_new w _
  have z0 : w.heap.size < (w.alloc (.cells #[.int .i64 0, .int .i64 0, .int .i64 0, .int .i64 0, .slice none 0 0, .int .i64 0, .bool false] 25)).heap.size := by rw [World.size_alloc]; omega
  have hpq : Hid (p ≠ w.heap.size) := by have := h.1; show p ≠ _; omega
  have hDq : Hid (p < w.heap.size ∧ D ≤ w.heap.size) := ⟨h.1, h.2.1⟩
  clear h hB0
  go_enter Tryz.func58, Tryz.ntmps58
  go_wp2_with fail
  refine (num_i p _ _ _ h0).mono ?_
  rintro e w1 ⟨m0, rfl, _, l1, b1, rd1, h1, t1⟩
  have RD1 := hidI rd1
  clear rd1
  have s1 := s0.trans t1
  have g1 : Hid (w1.heap[w.heap.size]? = some (.cells #[.int .i64 0, .int .i64 0, .int .i64 0, .int .i64 0, .slice none 0 0, .int .i64 0, .bool false] 25 (0, 0))) := (t1.block _ z0 hpq.out.symm).trans g0.out
  have z1 : w.heap.size < w1.heap.size := Nat.lt_of_lt_of_le z0 t1.size
  clear h0 t1 s0 g0 z0
  go_wp2_with fail
  refine (num_i p _ _ _ h1).mono ?_
  rintro e w2 ⟨m1, rfl, _, l2, b2, rd2, h2, t2⟩
  have RD2 := hidI rd2
  clear rd2
  have s2 := s1.trans t2
  have g2 : Hid (w2.heap[w.heap.size]? = some (.cells #[.int .i64 0, .int .i64 0, .int .i64 0, .int .i64 0, .slice none 0 0, .int .i64 0, .bool false] 25 (0, 0))) := (t2.block _ z1 hpq.out.symm).trans g1.out
  have z2 : w.heap.size < w2.heap.size := Nat.lt_of_lt_of_le z1 t2.size
  clear h1 t2 s1 g1 z1
  go_wp2_with fail
  refine (num_i p _ _ _ h2).mono ?_
  rintro e w3 ⟨m2, rfl, _, l3, b3, rd3, h3, t3⟩
  have RD3 := hidI rd3
  clear rd3
  have s3 := s2.trans t3
  have g3 : Hid (w3.heap[w.heap.size]? = some (.cells #[.int .i64 0, .int .i64 0, .int .i64 0, .int .i64 0, .slice none 0 0, .int .i64 0, .bool false] 25 (0, 0))) := (t3.block _ z2 hpq.out.symm).trans g2.out
  have z3 : w.heap.size < w3.heap.size := Nat.lt_of_lt_of_le z2 t3.size
  clear h2 t3 s2 g2 z2
  go_wp2_with fail
  refine (num_i p _ _ _ h3).mono ?_
  rintro e w4 ⟨m3, rfl, _, l4, b4, rd4, h4, t4⟩
  have RD4 := hidI rd4
  clear rd4
  have s4 := s3.trans t4
  have g4 : Hid (w4.heap[w.heap.size]? = some (.cells #[.int .i64 0, .int .i64 0, .int .i64 0, .int .i64 0, .slice none 0 0, .int .i64 0, .bool false] 25 (0, 0))) := (t4.block _ z3 hpq.out.symm).trans g3.out
  have z4 : w.heap.size < w4.heap.size := Nat.lt_of_lt_of_le z3 t4.size
  clear h3 t4 s3 g3 z3
  obtain ⟨q1, hq1⟩ : ∃ q1, Hid (w4.heap.size = q1) := ⟨_, hidI rfl⟩
  have I0 : Hid ((Tryz.prog.info? 25).map (·.size) = some (#[.int .i64 m0, .int .i64 m1, .int .i64 m2, .int .i64 m3, .slice none 0 0, .int .i64 0, .bool false] : Array Value).size) := by show _ = _; kernel_rfl
  have OP : Hid (∀ c ∈ ([.int .i64 m0, .int .i64 m1, .int .i64 m2, .int .i64 m3] : List Value), c.oneCell' = true) := by
    intro c hc
    simp only [List.mem_cons, List.not_mem_nil, or_false] at hc
    rcases hc with rfl | rfl | rfl | rfl
    · exact rfl
    · exact rfl
    · exact rfl
    · exact rfl
  have O0 : Hid ((#[.int .i64 m0, .int .i64 m1, .int .i64 m2, .int .i64 m3, .slice none 0 0, .int .i64 0, .bool false] : Array Value).all (·.oneCell') = true) := by
    refine all_oneCell_toArray (cs := [.int .i64 m0, .int .i64 m1, .int .i64 m2, .int .i64 m3, .slice none 0 0, .int .i64 0, .bool false]) (fun c hc => ?_)
    rcases List.mem_append.1 (show c ∈ [.int .i64 m0, .int .i64 m1, .int .i64 m2, .int .i64 m3] ++ [.slice none 0 0, .int .i64 0, .bool false] from hc) with h1 | h1
    · exact OP.out c h1
    · simp only [List.mem_cons, List.not_mem_nil, or_false] at h1
      rcases h1 with rfl | rfl | rfl <;> rfl
  go_wp2_with (refine wpList_store_rowF rfl 25 (.tmp 3) (.tmp 14) rfl w4.heap.size #[.int .i64 m0, .int .i64 m1, .int .i64 m2, .int .i64 m3, .slice none 0 0, .int .i64 0, .bool false] rfl rfl 25 #[.int .i64 0, .int .i64 0, .int .i64 0, .int .i64 0, .slice none 0 0, .int .i64 0, .bool false] (heap_alloc_new w4 (.cells #[.int .i64 0, .int .i64 0, .int .i64 0, .int .i64 0, .slice none 0 0, .int .i64 0, .bool false] 25)) I0.out rfl O0.out ?nexA)
  case nexA =>
    intro wA hwAh
    have hwA := hwAh.out
    have hBA : Below w4.heap.size w4 wA := by rw [hwA]; exact ((Below.refl _ _).alloc (Nat.le_refl _) _).trans ⟨rfl, rfl, rfl, by simp [World.setRow], fun k hk => setRow_other _ _ _ _ (by omega)⟩
    have gA0 : wA.heap[w4.heap.size]? = some (.cells ([.int .i64 m0, .int .i64 m1, .int .i64 m2, .int .i64 m3, .slice none 0 0, .int .i64 0, .bool false] : List Value).toArray 25 (0, 0)) := by rw [hwA]; exact setRow_heap _ _ _ _ 25 _ (heap_alloc_new w4 _)
    have zA : w4.heap.size < wA.heap.size := (Array.getElem?_eq_some_iff.1 gA0).1
    have hA := h4.ext hBA h4.1 h4.2.1
    have GA := hidI ((hBA.block _ z4).trans g4.out)
    have SA := hidI (s4.ext (hBA.mono s4.size))
    have zq : w.heap.size < q1 := by have := hq1.out; omega
    rw [hq1.out] at gA0 zA
    simp only [hq1.out]
    have G1A := hidI gA0
    have ZA := hidI zA
    clear hwA hwAh hBA gA0 zA h4 s4 g4 z4
    go_wp2_with fail
    refine (count_i p _ _ wA hA).mono ?_
    rintro e wB ⟨N, l1, b1, rfl, hN, hcn, hB, tB⟩
    have HC := hidI hcn
    have GB := hidI ((tB.block _ (by have := ZA.out; omega) hpq.out.symm).trans GA.out)
    have G1B := hidI ((tB.block _ ZA.out (by have := hDq.out.1; omega)).trans G1A.out)
    have ZB := hidI (Nat.lt_of_lt_of_le ZA.out tB.size)
    have SB := hidI (SA.out.trans tB)
    have hpB : p < wB.heap.size := hB.1
    have hDB : D ≤ q1 := by have := hDq.out.2; omega
    have hpq1 : p < q1 := by have := hDq.out.1; omega
    clear hcn tB hA
    go_wp2
    go_loopw [5] (fun i wr => ∃ (k : Nat) (v : Value), k ≤ N ∧ i = .int .i64 k ∧ Hid (wr.heap[q1]? = some (.cells ([.int .i64 m0, .int .i64 m1, .int .i64 m2, .int .i64 m3, v, .int .i64 0, .bool false] : List Value).toArray 25 (0, 0))) ∧ LoopJ D wB p q1 F_group 165 3 k l1 b1 v wr) (fun i _ => N - (intOf i).toNat)
    case atStart => exact ⟨0, .slice none 0 0, Nat.zero_le _, rfl, G1B, [], [], l1, b1, World.ownsRow_nil _ _ _ _, ⟨rfl, rfl, rfl, Nat.le_refl _, fun _ _ _ _ => rfl⟩, hB, RdN.zero _ _ _, Elems.nil _ _ _ _⟩
    case round =>
      obtain ⟨k, v, hk, rfl, G1, xs, vsL, lk, bk, ok, sk, rk, rdk, hel⟩ := hrel
      have RDK := hidI rdk
      have HEL := hidI hel
      have SK := hidI sk
      have OK := hidI ok
      have hq1r : q1 < wr.heap.size := (Array.getElem?_eq_some_iff.1 G1.out).1
      have HQR := hidI hq1r
      clear rdk hel sk ok
      by_cases hlt : k < N
      · have hcF : wr.cell? ⟨q1, 4, none⟩ = some v := by rw [cell_of_row wr q1 4 _ 25 (0, 0) G1.out]; rfl
        have hBd : Below wr.heap.size wr wr.drew := (Below.refl _ _).drew
        have RK := hidI (rk.ext hBd rk.1 rk.2.1)
        clear rk
        go_wp2
        go_region_law (first | (refine step_append_own _ rfl (.tmp 23) (.tmp 29) 23 rfl wB.heap.size 165 i0 (.agg #[.int .i64 0, .int .i64 0, .int .i64 0]) 3 24 Tryz.underlying23 HI.out HZ0.out HZ1.out HZ2.out rfl (by decide) v k xs rfl OKL.out ⟨wb.heap.size, 0, none⟩ 1 1 (#[.int .i64 m0e, z1_0, z1_1] : Array Value).toList rfl rfl (fun j u hj => cell_news wb _ _ j u hj) OE.out (by unfold maxLen; omega) (by omega) HSL.out ?_; intro v3 w3 ho3 hg3 hw3; have G3 := hidI (loop_g3 (es := [.int .i64 m0e, z1_0, z1_1]) OK.out G1.out (by decide) hpq1 TL.out hg3); have hcG : w3.cell? ⟨q1, 4, none⟩ = some v := (by rw [cell_of_row w3 q1 4 _ 25 (0, 0) G3.out]; rfl); have hfG : w3.frozen? ⟨q1, 4, none⟩ = false := (by simp [World.frozen?, G3.out]); obtain ⟨g3, c3, rfl⟩ := row_slice ho3; have HO3 := hidI ho3; have HG3 := hidI hg3; have HW3 := hidI hw3; clear ho3 hg3 hw3) | (go_simp; refine (res_i p _ _ _ R0e.out).mono ?_; rintro e wb ⟨cs1e, v1e, rfl, q1e, l1e, b1e, rd1e, r1e, t1e⟩; have R1e := hidI r1e; have T1e := hidI t1e; have RD1e := hidI rd1e; have hcF1 : wb.cell? ⟨q1, 4, none⟩ = some v := (World.cell?_of_block (a := ⟨q1, 4, none⟩) (t1e.block q1 (by have := HQR.out; exact Nat.lt_of_lt_of_le this T0e.out.size) (by omega))).trans hcF0; have QE1 := hidI q1e; obtain ⟨z1_0, z1_1, rfl⟩ := list_len2 cs1e q1e.len; clear q1e; clear r1e t1e rd1e; have TL : Hid (RS wr wb p) := ((rs_drew wr p).trans T0e.out).trans T1e.out; have HXE : Hid (Rep wb (NBr wr.heap.size wb) F_group [.int .i64 m0e, z1_0, z1_1] (m0e, v1e)) := mk_group m0e z1_0 z1_1 v1e (QE1.out.keptN (lo' := wr.heap.size) (Nat.le_refl _) (fun _ _ _ => rfl) T0e.out.size); have RDX : Hid (Rd F_group lk bk (m0e, v1e) l1e b1e) := Rd.cat RD0e.out RD1e.out; have OKL := hidI ((ownsRow_rs OK.out TL.out hpB).alloc (.cells #[.int .i64 m0e, z1_0, z1_1] 165)); have HSL : Hid (wB.heap.size ≤ (wb.alloc (.cells #[.int .i64 m0e, z1_0, z1_1] 165)).heap.size) := (by show _ ≤ _; rw [World.size_alloc]; have := SK.out.size; have := TL.out.size; omega); have OE : Hid (∀ u ∈ (#[.int .i64 m0e, z1_0, z1_1] : Array Value).toList, u.oneCell' = true) := HXE.out.one; have hcL : (wb.alloc (.cells #[.int .i64 m0e, z1_0, z1_1] 165)).cell? ⟨q1, 4, none⟩ = some v := (World.cell?_of_block (a := ⟨q1, 4, none⟩) (Below.heap_alloc wb _ q1 (Nat.lt_of_lt_of_le HQR.out TL.out.size))).trans hcF1) | (go_simp; refine (num_i p _ _ _ RK.out).mono ?_; rintro e wa ⟨m0e, rfl, _, l0e, b0e, rd0e, r0e, t0e⟩; have R0e := hidI r0e; have T0e := hidI t0e; have RD0e := hidI rd0e; have hcF0 : wa.cell? ⟨q1, 4, none⟩ = some v := (World.cell?_of_block (a := ⟨q1, 4, none⟩) (t0e.block q1 (by have := HQR.out; exact this) (by omega))).trans hcF; clear r0e t0e rd0e))
        all_goals (
          have LM := loop_more (lf := 4) (es := [.int .i64 m0e, z1_0, z1_1]) OK.out SK.out RDK.out HEL.out G1.out (by decide) ZB.out hpB hpq1 hDB TL.out HXE.out RDX.out R1e.out HO3.out HG3.out (by first | exact HW3.out | (have := HW3.out; rw [World.size_alloc] at this; exact this))
          have LJ := hidI LM.1
          have GJ : Hid ((w3.setCell ⟨q1, 4, none⟩ (.slice (some ⟨g3, 0, none⟩) (k + 1) c3)).heap[q1]? = some (.cells ([.int .i64 m0, .int .i64 m1, .int .i64 m2, .int .i64 m3, .slice (some ⟨g3, 0, none⟩) (k + 1) c3, .int .i64 0, .bool false] : List Value).toArray 25 (0, 0))) := LM.2
          clear LM
          go_wp2
          exact ⟨⟨k + 1, .slice (some ⟨g3, 0, none⟩) (k + 1) c3, by omega, by go_num, GJ, LJ.out⟩, by simp [intOf]; omega⟩)
      · have hkN : k = N := by omega
        subst hkN
        have hvl := RDK.out.1
        obtain ⟨va, vc, hv, hrl⟩ : ∃ va vc, v = Value.slice va k vc ∧ RepL wr (NB wB wr) F_group va vsL := by
          have := Elems.done (e := 165) HEL.out (by rw [hvl]; exact OK.out) (by rw [hvl]; omega)
          rwa [hvl] at this
        subst hv
        have hvl2 : k = vsL.length := hvl.symm
        subst hvl2
        have QL := hidI (hrl.toX (lo' := w.heap.size + 1) (q := q1) (by have := ZB.out; have := SB.out.size; have := hq1.out; omega) (.inl ZB.out))
        have RDL := hidI (RdN.lst hN HC.out RDK.out)
        have GQ := hidI ((SK.out.block _ (by have := ZB.out; omega) hpq.out.symm (by omega)).trans GB.out)
        have SQ : Hid (RS w wr p) := ⟨SK.out.os.trans SB.out.os, SK.out.tape.trans SB.out.tape, SK.out.output.trans SB.out.output, Nat.le_trans SB.out.size SK.out.size, fun j hj hp => (SK.out.block j (by have := SB.out.size; omega) hp (by omega)).trans (SB.out.block j hj hp)⟩
        have hcur := rk
        clear hvl hrl rk HEL RDK SK OK
        go_wp2_with fail
        refine (num_i p _ _ _ hcur).mono ?_
        rintro e x5 ⟨m5, rfl, _, l6, b6, rd6, r6, t6⟩
        have RD6 := hidI rd6
        clear rd6 hcur
        replace QL := hidI (QL.out.keptX t6.size (fun b h1 h2 h3 => t6.block b h3 (by have := hDq.out.1; omega)))
        have hq1u : q1 < wr.heap.size := (Array.getElem?_eq_some_iff.1 G1.out).1
        have G5x := hidI ((t6.block q1 hq1u (by omega)).trans G1.out)
        replace GQ := hidI ((t6.block _ (by omega) hpq.out.symm).trans GQ.out)
        replace SQ := hidI (SQ.out.trans t6)
        clear t6 hq1u
        have hc5 : x5.cell? ⟨q1, 5, none⟩ = some (.int .i64 0) := by rw [cell_of_row x5 q1 5 _ 25 (0, 0) G5x.out]; rfl
        have hf5 : x5.frozen? ⟨q1, 5, none⟩ = false := by simp [World.frozen?, G5x.out]
        have LA5 := laid_cell (o := 5) G5x.out (.int .i64 m5)
        have hcur := r6.laid LA5 hpq1 hDB
        have G5y : Hid ((x5.setCell ⟨q1, 5, none⟩ (.int .i64 m5)).heap[q1]? = some (.cells ([.int .i64 m0, .int .i64 m1, .int .i64 m2, .int .i64 m3, .slice va vsL.length vc, .int .i64 m5, .bool false] : List Value).toArray 25 (0, 0))) := LA5.at_
        replace QL := hidI (QL.out.keptX (by rw [LA5.size]; exact Nat.le_refl _) (fun b h1 h2 h3 => LA5.block b h2))
        replace GQ := hidI ((LA5.block _ (by omega)).trans GQ.out)
        replace SQ : Hid (RS w (x5.setCell ⟨q1, 5, none⟩ (.int .i64 m5)) p) := ⟨LA5.os.trans SQ.out.os, LA5.tape.trans SQ.out.tape, LA5.output.trans SQ.out.output, by rw [LA5.size]; exact SQ.out.size, fun j hj hp => (LA5.block j (by omega)).trans (SQ.out.block j hj hp)⟩
        clear LA5 G5x r6
        go_wp2_with fail
        refine (flag_i p _ _ _ hcur).mono ?_
        rintro e x6 ⟨m6, rfl, l7, b7, rd7, r7, t7⟩
        have RD7 := hidI rd7
        clear rd7 hcur
        replace QL := hidI (QL.out.keptX t7.size (fun b h1 h2 h3 => t7.block b h3 (by have := hDq.out.1; omega)))
        have hq1u : q1 < (x5.setCell ⟨q1, 5, none⟩ (.int .i64 m5)).heap.size := (Array.getElem?_eq_some_iff.1 G5y.out).1
        have G6x := hidI ((t7.block q1 hq1u (by omega)).trans G5y.out)
        replace GQ := hidI ((t7.block _ (by omega) hpq.out.symm).trans GQ.out)
        replace SQ := hidI (SQ.out.trans t7)
        clear t7 hq1u
        have hc6 : x6.cell? ⟨q1, 6, none⟩ = some (.bool false) := by rw [cell_of_row x6 q1 6 _ 25 (0, 0) G6x.out]; rfl
        have hf6 : x6.frozen? ⟨q1, 6, none⟩ = false := by simp [World.frozen?, G6x.out]
        have LA6 := laid_cell (o := 6) G6x.out (.bool m6)
        have hcur := r7.laid LA6 hpq1 hDB
        have G6y : Hid ((x6.setCell ⟨q1, 6, none⟩ (.bool m6)).heap[q1]? = some (.cells ([.int .i64 m0, .int .i64 m1, .int .i64 m2, .int .i64 m3, .slice va vsL.length vc, .int .i64 m5, .bool m6] : List Value).toArray 25 (0, 0))) := LA6.at_
        replace QL := hidI (QL.out.keptX (by rw [LA6.size]; exact Nat.le_refl _) (fun b h1 h2 h3 => LA6.block b h2))
        replace GQ := hidI ((LA6.block _ (by omega)).trans GQ.out)
        replace SQ : Hid (RS w (x6.setCell ⟨q1, 6, none⟩ (.bool m6)) p) := ⟨LA6.os.trans SQ.out.os, LA6.tape.trans SQ.out.tape, LA6.output.trans SQ.out.output, by rw [LA6.size]; exact SQ.out.size, fun j hj hp => (LA6.block j (by omega)).trans (SQ.out.block j hj hp)⟩
        clear LA6 G6x r7
        have REP : Hid (Rep (x6.setCell ⟨q1, 6, none⟩ (.bool m6)) (NX (w.heap.size + 1) q1 (x6.setCell ⟨q1, 6, none⟩ (.bool m6))) F_job [.int .i64 m0, .int .i64 m1, .int .i64 m2, .int .i64 m3, .slice va vsL.length vc, .int .i64 m5, .bool m6] (m0, m1, m2, m3, vsL, m5, m6)) := by
          exact mk_job m0 m1 m2 m3 va vc vsL m5 m6 QL.out
        have RDA : Hid (Rd F_job l bad (m0, m1, m2, m3, vsL, m5, m6) l7 b7) := (Rd.cat RD1.out (Rd.cat RD2.out (Rd.cat RD3.out (Rd.cat RD4.out (Rd.cat RDL.out (Rd.cat RD6.out RD7.out))))))
        have IF : Hid ((Tryz.prog.info? 25).map (·.size) = some (#[.int .i64 m0, .int .i64 m1, .int .i64 m2, .int .i64 m3, .slice va vsL.length vc, .int .i64 m5, .bool m6] : Array Value).size) := by show _ = _; kernel_rfl
        have OF : Hid ((#[.int .i64 m0, .int .i64 m1, .int .i64 m2, .int .i64 m3, .slice va vsL.length vc, .int .i64 m5, .bool m6] : Array Value).all (·.oneCell') = true) := REP.out.all
        have HCUR := hidI hcur
        clear hcur
        go_wp2_with (first
          | (refine wpList_load_row rfl 25 (.tmp 3) rfl q1 rfl 25 #[.int .i64 m0, .int .i64 m1, .int .i64 m2, .int .i64 m3, .slice va vsL.length vc, .int .i64 m5, .bool m6] (0, 0) _ G6y.out Tryz.underlying25 rfl IF.out ?_)
          | (refine wpList_store_row rfl 25 (.tmp 2) (.tmp 38) rfl w.heap.size #[.int .i64 m0, .int .i64 m1, .int .i64 m2, .int .i64 m3, .slice va vsL.length vc, .int .i64 m5, .bool m6] rfl rfl 25 #[.int .i64 0, .int .i64 0, .int .i64 0, .int .i64 0, .slice none 0 0, .int .i64 0, .bool false] GQ.out IF.out rfl OF.out ?_))
        refine bodyPost_ret (v := .agg #[.int .i64 m0, .int .i64 m1, .int .i64 m2, .int .i64 m3, .slice va vsL.length vc, .int .i64 m5, .bool m6]) ?_ rfl ⟨[.int .i64 m0, .int .i64 m1, .int .i64 m2, .int .i64 m3, .slice va vsL.length vc, .int .i64 m5, .bool m6], _, rfl, ?_, l7, b7, RDA.out, ?_, ?_⟩
        · refine results_cell_row Tryz.results58 _ _ w.heap.size 25 _ (0, 0) _ ?_ (setRow_heap (x6.setCell ⟨q1, 6, none⟩ (.bool m6)) w.heap.size _ _ 25 _ GQ.out) Tryz.underlying25 rfl IF.out
          rfl
        · exact (REP.out.keptX (by simp [World.setRow]) (fun b h1 h2 h3 => setRow_other _ _ _ _ (by omega))).unX (Nat.le_succ _)
        · exact HCUR.out.ext ⟨rfl, rfl, rfl, by simp [World.setRow], fun k hk => setRow_other _ _ _ _ (by omega)⟩ hDq.out.1 hDq.out.2
        · exact SQ.out.setRow (Nat.le_refl _) _
end Go.Proofs.YtpbokgeaolpiaabGreat
