/- Several texts in one (wip/gen/merge.py). -/
import Derived.Test.YtcdoejdbmllnnabGreatIB
import Derived.Test.YtcdoejdbmllnnabGreatVrc
import Derived.Test.YtcdoejdbmllnnabGreatVpoms
import Derived.Test.YtcdoejdbmllnnabGreatVgms
/- The document's reader of a record with a list. Made by program (wip/gen/inr.py). -/
namespace Go.Proofs.YtcdoejdbmllnnabGreat
open Go.RowKit

set_option maxHeartbeats 4000000 in
set_option maxRecDepth 100000 in
theorem job_i {D : Nat} (p : Nat) (l : List UInt8) (bad : Bool) (w : World) (h : RI D w p l bad) : Calls Tryz.prog 78 #[.pointer (some ⟨p, 0, none⟩)] w fun e w' => RecO D w p F_job l bad e w' := by
  obtain ⟨i0, hi0, hz00, hz10, hz20⟩ := info_parts listGroup_vi
  have HI := hidI hi0
  have HZ0 := hidI hz00
  have HZ1 := hidI hz10
  have HZ2 := hidI hz20
  clear hi0 hz00 hz10 hz20
  have hB0 : Below w.heap.size w (w.alloc (.cells #[.int .i64 0, .int .i64 0, .int .i64 0, .int .i64 0, .slice none 0 0, .int .i64 0, .bool false] 35)) := (Below.refl _ _).alloc (Nat.le_refl _) _
  have h0 : RI D (w.alloc (.cells #[.int .i64 0, .int .i64 0, .int .i64 0, .int .i64 0, .slice none 0 0, .int .i64 0, .bool false] 35)) p l bad := h.ext hB0 h.1 h.2.1
  have s0 : RS w (w.alloc (.cells #[.int .i64 0, .int .i64 0, .int .i64 0, .int .i64 0, .slice none 0 0, .int .i64 0, .bool false] 35)) p := (RS.refl _ _).alloc _
  have g0 : Hid ((w.alloc (.cells #[.int .i64 0, .int .i64 0, .int .i64 0, .int .i64 0, .slice none 0 0, .int .i64 0, .bool false] 35)).heap[w.heap.size]? = some (.cells #[.int .i64 0, .int .i64 0, .int .i64 0, .int .i64 0, .slice none 0 0, .int .i64 0, .bool false] 35 (0, 0))) := heap_alloc_new w _
  have z0 : w.heap.size < (w.alloc (.cells #[.int .i64 0, .int .i64 0, .int .i64 0, .int .i64 0, .slice none 0 0, .int .i64 0, .bool false] 35)).heap.size := by rw [World.size_alloc]; omega
  have hpq : Hid (p ≠ w.heap.size) := by have := h.1; show p ≠ _; omega
  have hDq : Hid (p < w.heap.size ∧ D ≤ w.heap.size) := ⟨h.1, h.2.1⟩
  clear h hB0
  go_enter Tryz.func78, Tryz.ntmps78
  go_wp2_with fail
  refine (num_i p _ _ _ h0).mono ?_
  rintro e w1 ⟨m0, rfl, _, l1, b1, rd1, h1, t1⟩
  have RD1 := hidI rd1
  clear rd1
  have s1 := s0.trans t1
  have g1 : Hid (w1.heap[w.heap.size]? = some (.cells #[.int .i64 0, .int .i64 0, .int .i64 0, .int .i64 0, .slice none 0 0, .int .i64 0, .bool false] 35 (0, 0))) := (t1.block _ z0 hpq.out.symm).trans g0.out
  have z1 : w.heap.size < w1.heap.size := Nat.lt_of_lt_of_le z0 t1.size
  clear h0 t1 s0 g0 z0
  go_wp2_with fail
  refine (num_i p _ _ _ h1).mono ?_
  rintro e w2 ⟨m1, rfl, _, l2, b2, rd2, h2, t2⟩
  have RD2 := hidI rd2
  clear rd2
  have s2 := s1.trans t2
  have g2 : Hid (w2.heap[w.heap.size]? = some (.cells #[.int .i64 0, .int .i64 0, .int .i64 0, .int .i64 0, .slice none 0 0, .int .i64 0, .bool false] 35 (0, 0))) := (t2.block _ z1 hpq.out.symm).trans g1.out
  have z2 : w.heap.size < w2.heap.size := Nat.lt_of_lt_of_le z1 t2.size
  clear h1 t2 s1 g1 z1
  go_wp2_with fail
  refine (num_i p _ _ _ h2).mono ?_
  rintro e w3 ⟨m2, rfl, _, l3, b3, rd3, h3, t3⟩
  have RD3 := hidI rd3
  clear rd3
  have s3 := s2.trans t3
  have g3 : Hid (w3.heap[w.heap.size]? = some (.cells #[.int .i64 0, .int .i64 0, .int .i64 0, .int .i64 0, .slice none 0 0, .int .i64 0, .bool false] 35 (0, 0))) := (t3.block _ z2 hpq.out.symm).trans g2.out
  have z3 : w.heap.size < w3.heap.size := Nat.lt_of_lt_of_le z2 t3.size
  clear h2 t3 s2 g2 z2
  go_wp2_with fail
  refine (num_i p _ _ _ h3).mono ?_
  rintro e w4 ⟨m3, rfl, _, l4, b4, rd4, h4, t4⟩
  have RD4 := hidI rd4
  clear rd4
  have s4 := s3.trans t4
  have g4 : Hid (w4.heap[w.heap.size]? = some (.cells #[.int .i64 0, .int .i64 0, .int .i64 0, .int .i64 0, .slice none 0 0, .int .i64 0, .bool false] 35 (0, 0))) := (t4.block _ z3 hpq.out.symm).trans g3.out
  have z4 : w.heap.size < w4.heap.size := Nat.lt_of_lt_of_le z3 t4.size
  clear h3 t4 s3 g3 z3
  obtain ⟨q1, hq1⟩ : ∃ q1, Hid (w4.heap.size = q1) := ⟨_, hidI rfl⟩
  have I0 : Hid ((Tryz.prog.info? 35).map (·.size) = some (#[.int .i64 m0, .int .i64 m1, .int .i64 m2, .int .i64 m3, .slice none 0 0, .int .i64 0, .bool false] : Array Value).size) := by show _ = _; kernel_rfl
  have OP : Hid (∀ c ∈ ([.int .i64 m0, .int .i64 m1, .int .i64 m2, .int .i64 m3] : List Value), c.oneCell' = true) := by
    intro c hc
    simp only [List.mem_cons, List.not_mem_nil, or_false] at hc
    rcases hc with rfl | rfl | rfl | rfl
    · exact rfl
    · exact rfl
    · exact rfl
    · exact rfl
  have O0 : Hid ((#[.int .i64 m0, .int .i64 m1, .int .i64 m2, .int .i64 m3, .slice none 0 0, .int .i64 0, .bool false] : Array Value).all (·.oneCell') = true) := by
    refine all_oneCell_toArray (cs := [.int .i64 m0, .int .i64 m1, .int .i64 m2, .int .i64 m3, .slice none 0 0, .int .i64 0, .bool false]) (fun c hc => ?_)
    rcases List.mem_append.1 (show c ∈ [.int .i64 m0, .int .i64 m1, .int .i64 m2, .int .i64 m3] ++ [.slice none 0 0, .int .i64 0, .bool false] from hc) with h1 | h1
    · exact OP.out c h1
    · simp only [List.mem_cons, List.not_mem_nil, or_false] at h1
      rcases h1 with rfl | rfl | rfl <;> rfl
  go_wp2_with (refine wpList_store_rowF rfl 35 (.tmp 3) (.tmp 14) rfl w4.heap.size #[.int .i64 m0, .int .i64 m1, .int .i64 m2, .int .i64 m3, .slice none 0 0, .int .i64 0, .bool false] rfl rfl 35 #[.int .i64 0, .int .i64 0, .int .i64 0, .int .i64 0, .slice none 0 0, .int .i64 0, .bool false] (heap_alloc_new w4 (.cells #[.int .i64 0, .int .i64 0, .int .i64 0, .int .i64 0, .slice none 0 0, .int .i64 0, .bool false] 35)) I0.out rfl O0.out ?nexA)
  case nexA =>
    intro wA hwAh
    have hwA := hwAh.out
    have hBA : Below w4.heap.size w4 wA := by rw [hwA]; exact ((Below.refl _ _).alloc (Nat.le_refl _) _).trans ⟨rfl, rfl, rfl, by simp [World.setRow], fun k hk => setRow_other _ _ _ _ (by omega)⟩
    have gA0 : wA.heap[w4.heap.size]? = some (.cells ([.int .i64 m0, .int .i64 m1, .int .i64 m2, .int .i64 m3, .slice none 0 0, .int .i64 0, .bool false] : List Value).toArray 35 (0, 0)) := by rw [hwA]; exact setRow_heap _ _ _ _ 35 _ (heap_alloc_new w4 _)
    have zA : w4.heap.size < wA.heap.size := (Array.getElem?_eq_some_iff.1 gA0).1
    have hA := h4.ext hBA h4.1 h4.2.1
    have GA := hidI ((hBA.block _ z4).trans g4.out)
    have SA := hidI (s4.ext (hBA.mono s4.size))
    have zq : w.heap.size < q1 := by have := hq1.out; omega
    rw [hq1.out] at gA0 zA
    simp only [hq1.out]
    have G1A := hidI gA0
    have ZA := hidI zA
    clear hwA hwAh hBA gA0 zA h4 s4 g4 z4
    go_wp2_with fail
    refine (count_i p _ _ wA hA).mono ?_
    rintro e wB ⟨N, l1, b1, rfl, hN, hcn, hB, tB⟩
    have HC := hidI hcn
    have GB := hidI ((tB.block _ (by have := ZA.out; omega) hpq.out.symm).trans GA.out)
    have G1B := hidI ((tB.block _ ZA.out (by have := hDq.out.1; omega)).trans G1A.out)
    have ZB := hidI (Nat.lt_of_lt_of_le ZA.out tB.size)
    have SB := hidI (SA.out.trans tB)
    have hpB : p < wB.heap.size := hB.1
    have hDB : D ≤ q1 := by have := hDq.out.2; omega
    have hpq1 : p < q1 := by have := hDq.out.1; omega
    clear hcn tB hA
    go_wp2
    go_loopw [5] (fun i wr => ∃ (k : Nat) (v : Value), k ≤ N ∧ i = .int .i64 k ∧ Hid (wr.heap[q1]? = some (.cells ([.int .i64 m0, .int .i64 m1, .int .i64 m2, .int .i64 m3, v, .int .i64 0, .bool false] : List Value).toArray 35 (0, 0))) ∧ LoopJ D wB p q1 F_group 129 3 k l1 b1 v wr) (fun i _ => N - (intOf i).toNat)
    case atStart => exact ⟨0, .slice none 0 0, Nat.zero_le _, rfl, G1B, [], [], l1, b1, World.ownsRow_nil _ _ _ _, ⟨rfl, rfl, rfl, Nat.le_refl _, fun _ _ _ _ => rfl⟩, hB, RdN.zero _ _ _, Elems.nil _ _ _ _⟩
    case round =>
      obtain ⟨k, v, hk, rfl, G1, xs, vsL, lk, bk, ok, sk, rk, rdk, hel⟩ := hrel
      have RDK := hidI rdk
      have HEL := hidI hel
      have SK := hidI sk
      have OK := hidI ok
      have hq1r : q1 < wr.heap.size := (Array.getElem?_eq_some_iff.1 G1.out).1
      have HQR := hidI hq1r
      clear rdk hel sk ok
      by_cases hlt : k < N
      · have hcF : wr.cell? ⟨q1, 4, none⟩ = some v := by rw [cell_of_row wr q1 4 _ 35 (0, 0) G1.out]; rfl
        have hBd : Below wr.heap.size wr wr.drew := (Below.refl _ _).drew
        have RK := hidI (rk.ext hBd rk.1 rk.2.1)
        clear rk
        go_wp2
        go_region_law (first | (refine step_append_own _ rfl (.tmp 23) (.tmp 29) 33 rfl wB.heap.size 129 i0 (.agg #[.int .i64 0, .int .i64 0, .int .i64 0]) 3 24 Tryz.underlying33 HI.out HZ0.out HZ1.out HZ2.out rfl (by decide) v k xs rfl OKL.out ⟨wb.heap.size, 0, none⟩ 1 1 (#[.int .i64 m0e, z1_0, z1_1] : Array Value).toList rfl rfl (fun j u hj => cell_news wb _ _ j u hj) OE.out (by unfold maxLen; omega) (by omega) HSL.out ?_; intro v3 w3 ho3 hg3 hw3; have G3 := hidI (loop_g3 (es := [.int .i64 m0e, z1_0, z1_1]) OK.out G1.out (by decide) hpq1 TL.out hg3); have hcG : w3.cell? ⟨q1, 4, none⟩ = some v := (by rw [cell_of_row w3 q1 4 _ 35 (0, 0) G3.out]; rfl); have hfG : w3.frozen? ⟨q1, 4, none⟩ = false := (by simp [World.frozen?, G3.out]); obtain ⟨g3, c3, rfl⟩ := row_slice ho3; have HO3 := hidI ho3; have HG3 := hidI hg3; have HW3 := hidI hw3; clear ho3 hg3 hw3) | (go_simp; refine (res_i p _ _ _ R0e.out).mono ?_; rintro e wb ⟨cs1e, v1e, rfl, q1e, l1e, b1e, rd1e, r1e, t1e⟩; have R1e := hidI r1e; have T1e := hidI t1e; have RD1e := hidI rd1e; have hcF1 : wb.cell? ⟨q1, 4, none⟩ = some v := (World.cell?_of_block (a := ⟨q1, 4, none⟩) (t1e.block q1 (by have := HQR.out; exact Nat.lt_of_lt_of_le this T0e.out.size) (by omega))).trans hcF0; have QE1 := hidI q1e; obtain ⟨z1_0, z1_1, rfl⟩ := list_len2 cs1e q1e.len; clear q1e; clear r1e t1e rd1e; have TL : Hid (RS wr wb p) := ((rs_drew wr p).trans T0e.out).trans T1e.out; have HXE : Hid (Rep wb (NBr wr.heap.size wb) F_group [.int .i64 m0e, z1_0, z1_1] (m0e, v1e)) := mk_group m0e z1_0 z1_1 v1e (QE1.out.keptN (lo' := wr.heap.size) (Nat.le_refl _) (fun _ _ _ => rfl) T0e.out.size); have RDX : Hid (Rd F_group lk bk (m0e, v1e) l1e b1e) := Rd.cat RD0e.out RD1e.out; have OKL := hidI ((ownsRow_rs OK.out TL.out hpB).alloc (.cells #[.int .i64 m0e, z1_0, z1_1] 129)); have HSL : Hid (wB.heap.size ≤ (wb.alloc (.cells #[.int .i64 m0e, z1_0, z1_1] 129)).heap.size) := (by show _ ≤ _; rw [World.size_alloc]; have := SK.out.size; have := TL.out.size; omega); have OE : Hid (∀ u ∈ (#[.int .i64 m0e, z1_0, z1_1] : Array Value).toList, u.oneCell' = true) := HXE.out.one; have hcL : (wb.alloc (.cells #[.int .i64 m0e, z1_0, z1_1] 129)).cell? ⟨q1, 4, none⟩ = some v := (World.cell?_of_block (a := ⟨q1, 4, none⟩) (Below.heap_alloc wb _ q1 (Nat.lt_of_lt_of_le HQR.out TL.out.size))).trans hcF1) | (go_simp; refine (num_i p _ _ _ RK.out).mono ?_; rintro e wa ⟨m0e, rfl, _, l0e, b0e, rd0e, r0e, t0e⟩; have R0e := hidI r0e; have T0e := hidI t0e; have RD0e := hidI rd0e; have hcF0 : wa.cell? ⟨q1, 4, none⟩ = some v := (World.cell?_of_block (a := ⟨q1, 4, none⟩) (t0e.block q1 (by have := HQR.out; exact this) (by omega))).trans hcF; clear r0e t0e rd0e))
        all_goals (
          have LM := loop_more (lf := 4) (es := [.int .i64 m0e, z1_0, z1_1]) OK.out SK.out RDK.out HEL.out G1.out (by decide) ZB.out hpB hpq1 hDB TL.out HXE.out RDX.out R1e.out HO3.out HG3.out (by first | exact HW3.out | (have := HW3.out; rw [World.size_alloc] at this; exact this))
          have LJ := hidI LM.1
          have GJ : Hid ((w3.setCell ⟨q1, 4, none⟩ (.slice (some ⟨g3, 0, none⟩) (k + 1) c3)).heap[q1]? = some (.cells ([.int .i64 m0, .int .i64 m1, .int .i64 m2, .int .i64 m3, .slice (some ⟨g3, 0, none⟩) (k + 1) c3, .int .i64 0, .bool false] : List Value).toArray 35 (0, 0))) := LM.2
          clear LM
          go_wp2
          exact ⟨⟨k + 1, .slice (some ⟨g3, 0, none⟩) (k + 1) c3, by omega, by go_num, GJ, LJ.out⟩, by simp [intOf]; omega⟩)
      · have hkN : k = N := by omega
        subst hkN
        have hvl := RDK.out.1
        obtain ⟨va, vc, hv, hrl⟩ : ∃ va vc, v = Value.slice va k vc ∧ RepL wr (NB wB wr) F_group va vsL := by
          have := Elems.done (e := 129) HEL.out (by rw [hvl]; exact OK.out) (by rw [hvl]; omega)
          rwa [hvl] at this
        subst hv
        have hvl2 : k = vsL.length := hvl.symm
        subst hvl2
        have QL := hidI (hrl.toX (lo' := w.heap.size + 1) (q := q1) (by have := ZB.out; have := SB.out.size; have := hq1.out; omega) (.inl ZB.out))
        have RDL := hidI (RdN.lst hN HC.out RDK.out)
        have GQ := hidI ((SK.out.block _ (by have := ZB.out; omega) hpq.out.symm (by omega)).trans GB.out)
        have SQ : Hid (RS w wr p) := ⟨SK.out.os.trans SB.out.os, SK.out.tape.trans SB.out.tape, SK.out.output.trans SB.out.output, Nat.le_trans SB.out.size SK.out.size, fun j hj hp => (SK.out.block j (by have := SB.out.size; omega) hp (by omega)).trans (SB.out.block j hj hp)⟩
        have hcur := rk
        clear hvl hrl rk HEL RDK SK OK
        go_wp2_with fail
        refine (num_i p _ _ _ hcur).mono ?_
        rintro e x5 ⟨m5, rfl, _, l6, b6, rd6, r6, t6⟩
        have RD6 := hidI rd6
        clear rd6 hcur
        replace QL := hidI (QL.out.keptX t6.size (fun b h1 h2 h3 => t6.block b h3 (by have := hDq.out.1; omega)))
        have hq1u : q1 < wr.heap.size := (Array.getElem?_eq_some_iff.1 G1.out).1
        have G5x := hidI ((t6.block q1 hq1u (by omega)).trans G1.out)
        replace GQ := hidI ((t6.block _ (by omega) hpq.out.symm).trans GQ.out)
        replace SQ := hidI (SQ.out.trans t6)
        clear t6 hq1u
        have hc5 : x5.cell? ⟨q1, 5, none⟩ = some (.int .i64 0) := by rw [cell_of_row x5 q1 5 _ 35 (0, 0) G5x.out]; rfl
        have hf5 : x5.frozen? ⟨q1, 5, none⟩ = false := by simp [World.frozen?, G5x.out]
        have LA5 := laid_cell (o := 5) G5x.out (.int .i64 m5)
        have hcur := r6.laid LA5 hpq1 hDB
        have G5y : Hid ((x5.setCell ⟨q1, 5, none⟩ (.int .i64 m5)).heap[q1]? = some (.cells ([.int .i64 m0, .int .i64 m1, .int .i64 m2, .int .i64 m3, .slice va vsL.length vc, .int .i64 m5, .bool false] : List Value).toArray 35 (0, 0))) := LA5.at_
        replace QL := hidI (QL.out.keptX (by rw [LA5.size]; exact Nat.le_refl _) (fun b h1 h2 h3 => LA5.block b h2))
        replace GQ := hidI ((LA5.block _ (by omega)).trans GQ.out)
        replace SQ : Hid (RS w (x5.setCell ⟨q1, 5, none⟩ (.int .i64 m5)) p) := ⟨LA5.os.trans SQ.out.os, LA5.tape.trans SQ.out.tape, LA5.output.trans SQ.out.output, by rw [LA5.size]; exact SQ.out.size, fun j hj hp => (LA5.block j (by omega)).trans (SQ.out.block j hj hp)⟩
        clear LA5 G5x r6
        go_wp2_with fail
        refine (flag_i p _ _ _ hcur).mono ?_
        rintro e x6 ⟨m6, rfl, l7, b7, rd7, r7, t7⟩
        have RD7 := hidI rd7
        clear rd7 hcur
        replace QL := hidI (QL.out.keptX t7.size (fun b h1 h2 h3 => t7.block b h3 (by have := hDq.out.1; omega)))
        have hq1u : q1 < (x5.setCell ⟨q1, 5, none⟩ (.int .i64 m5)).heap.size := (Array.getElem?_eq_some_iff.1 G5y.out).1
        have G6x := hidI ((t7.block q1 hq1u (by omega)).trans G5y.out)
        replace GQ := hidI ((t7.block _ (by omega) hpq.out.symm).trans GQ.out)
        replace SQ := hidI (SQ.out.trans t7)
        clear t7 hq1u
        have hc6 : x6.cell? ⟨q1, 6, none⟩ = some (.bool false) := by rw [cell_of_row x6 q1 6 _ 35 (0, 0) G6x.out]; rfl
        have hf6 : x6.frozen? ⟨q1, 6, none⟩ = false := by simp [World.frozen?, G6x.out]
        have LA6 := laid_cell (o := 6) G6x.out (.bool m6)
        have hcur := r7.laid LA6 hpq1 hDB
        have G6y : Hid ((x6.setCell ⟨q1, 6, none⟩ (.bool m6)).heap[q1]? = some (.cells ([.int .i64 m0, .int .i64 m1, .int .i64 m2, .int .i64 m3, .slice va vsL.length vc, .int .i64 m5, .bool m6] : List Value).toArray 35 (0, 0))) := LA6.at_
        replace QL := hidI (QL.out.keptX (by rw [LA6.size]; exact Nat.le_refl _) (fun b h1 h2 h3 => LA6.block b h2))
        replace GQ := hidI ((LA6.block _ (by omega)).trans GQ.out)
        replace SQ : Hid (RS w (x6.setCell ⟨q1, 6, none⟩ (.bool m6)) p) := ⟨LA6.os.trans SQ.out.os, LA6.tape.trans SQ.out.tape, LA6.output.trans SQ.out.output, by rw [LA6.size]; exact SQ.out.size, fun j hj hp => (LA6.block j (by omega)).trans (SQ.out.block j hj hp)⟩
        clear LA6 G6x r7
        have REP : Hid (Rep (x6.setCell ⟨q1, 6, none⟩ (.bool m6)) (NX (w.heap.size + 1) q1 (x6.setCell ⟨q1, 6, none⟩ (.bool m6))) F_job [.int .i64 m0, .int .i64 m1, .int .i64 m2, .int .i64 m3, .slice va vsL.length vc, .int .i64 m5, .bool m6] (m0, m1, m2, m3, vsL, m5, m6)) := by
          exact mk_job m0 m1 m2 m3 va vc vsL m5 m6 QL.out
        have RDA : Hid (Rd F_job l bad (m0, m1, m2, m3, vsL, m5, m6) l7 b7) := (Rd.cat RD1.out (Rd.cat RD2.out (Rd.cat RD3.out (Rd.cat RD4.out (Rd.cat RDL.out (Rd.cat RD6.out RD7.out))))))
        have IF : Hid ((Tryz.prog.info? 35).map (·.size) = some (#[.int .i64 m0, .int .i64 m1, .int .i64 m2, .int .i64 m3, .slice va vsL.length vc, .int .i64 m5, .bool m6] : Array Value).size) := by show _ = _; kernel_rfl
        have OF : Hid ((#[.int .i64 m0, .int .i64 m1, .int .i64 m2, .int .i64 m3, .slice va vsL.length vc, .int .i64 m5, .bool m6] : Array Value).all (·.oneCell') = true) := REP.out.all
        have HCUR := hidI hcur
        clear hcur
        go_wp2_with (first
          | (refine wpList_load_row rfl 35 (.tmp 3) rfl q1 rfl 35 #[.int .i64 m0, .int .i64 m1, .int .i64 m2, .int .i64 m3, .slice va vsL.length vc, .int .i64 m5, .bool m6] (0, 0) _ G6y.out Tryz.underlying35 rfl IF.out ?_)
          | (refine wpList_store_row rfl 35 (.tmp 2) (.tmp 38) rfl w.heap.size #[.int .i64 m0, .int .i64 m1, .int .i64 m2, .int .i64 m3, .slice va vsL.length vc, .int .i64 m5, .bool m6] rfl rfl 35 #[.int .i64 0, .int .i64 0, .int .i64 0, .int .i64 0, .slice none 0 0, .int .i64 0, .bool false] GQ.out IF.out rfl OF.out ?_))
        refine bodyPost_ret (v := .agg #[.int .i64 m0, .int .i64 m1, .int .i64 m2, .int .i64 m3, .slice va vsL.length vc, .int .i64 m5, .bool m6]) ?_ rfl ⟨[.int .i64 m0, .int .i64 m1, .int .i64 m2, .int .i64 m3, .slice va vsL.length vc, .int .i64 m5, .bool m6], _, rfl, ?_, l7, b7, RDA.out, ?_, ?_⟩
        · refine results_cell_row Tryz.results78 _ _ w.heap.size 35 _ (0, 0) _ ?_ (setRow_heap (x6.setCell ⟨q1, 6, none⟩ (.bool m6)) w.heap.size _ _ 35 _ GQ.out) Tryz.underlying35 rfl IF.out
          rfl
        · exact (REP.out.keptX (by simp [World.setRow]) (fun b h1 h2 h3 => setRow_other _ _ _ _ (by omega))).unX (Nat.le_succ _)
        · exact HCUR.out.ext ⟨rfl, rfl, rfl, by simp [World.setRow], fun k hk => setRow_other _ _ _ _ (by omega)⟩ hDq.out.1 hDq.out.2
        · exact SQ.out.setRow (Nat.le_refl _) _
end Go.Proofs.YtcdoejdbmllnnabGreat

/- The document's reader of a record with a list. Made by program (wip/gen/inr.py). -/
namespace Go.Proofs.YtcdoejdbmllnnabGreat
open Go.RowKit

set_option maxHeartbeats 4000000 in
set_option maxRecDepth 100000 in
theorem cmd_i {D : Nat} (p : Nat) (l : List UInt8) (bad : Bool) (w : World) (h : RI D w p l bad) : Calls Tryz.prog 52 #[.pointer (some ⟨p, 0, none⟩)] w fun e w' => RecO D w p F_cmd l bad e w' := by
  obtain ⟨i0, hi0, hz00, hz10, hz20⟩ := info_parts listReport_vi
  have HI := hidI hi0
  have HZ0 := hidI hz00
  have HZ1 := hidI hz10
  have HZ2 := hidI hz20
  clear hi0 hz00 hz10 hz20
  have hB0 : Below w.heap.size w (w.alloc (.cells #[.int .i64 0, .int .i64 0, .int .i64 0, .int .i64 0, .int .i64 0, .int .i64 0, .int .i64 0, .slice none 0 0, .int .i64 0, .bool false, .int .i64 0, .int .i64 0, .int .i64 0, .bool false, .bool false, .int .i64 0, .int .i64 0, .int .i64 0, .slice none 0 0, .int .i64 0, .int .i64 0, .int .i64 0, .slice none 0 0, .slice none 0 0, .bool false, .slice none 0 0, .slice none 0 0] 45)) := (Below.refl _ _).alloc (Nat.le_refl _) _
  have h0 : RI D (w.alloc (.cells #[.int .i64 0, .int .i64 0, .int .i64 0, .int .i64 0, .int .i64 0, .int .i64 0, .int .i64 0, .slice none 0 0, .int .i64 0, .bool false, .int .i64 0, .int .i64 0, .int .i64 0, .bool false, .bool false, .int .i64 0, .int .i64 0, .int .i64 0, .slice none 0 0, .int .i64 0, .int .i64 0, .int .i64 0, .slice none 0 0, .slice none 0 0, .bool false, .slice none 0 0, .slice none 0 0] 45)) p l bad := h.ext hB0 h.1 h.2.1
  have s0 : RS w (w.alloc (.cells #[.int .i64 0, .int .i64 0, .int .i64 0, .int .i64 0, .int .i64 0, .int .i64 0, .int .i64 0, .slice none 0 0, .int .i64 0, .bool false, .int .i64 0, .int .i64 0, .int .i64 0, .bool false, .bool false, .int .i64 0, .int .i64 0, .int .i64 0, .slice none 0 0, .int .i64 0, .int .i64 0, .int .i64 0, .slice none 0 0, .slice none 0 0, .bool false, .slice none 0 0, .slice none 0 0] 45)) p := (RS.refl _ _).alloc _
  have g0 : Hid ((w.alloc (.cells #[.int .i64 0, .int .i64 0, .int .i64 0, .int .i64 0, .int .i64 0, .int .i64 0, .int .i64 0, .slice none 0 0, .int .i64 0, .bool false, .int .i64 0, .int .i64 0, .int .i64 0, .bool false, .bool false, .int .i64 0, .int .i64 0, .int .i64 0, .slice none 0 0, .int .i64 0, .int .i64 0, .int .i64 0, .slice none 0 0, .slice none 0 0, .bool false, .slice none 0 0, .slice none 0 0] 45)).heap[w.heap.size]? = some (.cells #[.int .i64 0, .int .i64 0, .int .i64 0, .int .i64 0, .int .i64 0, .int .i64 0, .int .i64 0, .slice none 0 0, .int .i64 0, .bool false, .int .i64 0, .int .i64 0, .int .i64 0, .bool false, .bool false, .int .i64 0, .int .i64 0, .int .i64 0, .slice none 0 0, .int .i64 0, .int .i64 0, .int .i64 0, .slice none 0 0, .slice none 0 0, .bool false, .slice none 0 0, .slice none 0 0] 45 (0, 0))) := heap_alloc_new w _
  have z0 : w.heap.size < (w.alloc (.cells #[.int .i64 0, .int .i64 0, .int .i64 0, .int .i64 0, .int .i64 0, .int .i64 0, .int .i64 0, .slice none 0 0, .int .i64 0, .bool false, .int .i64 0, .int .i64 0, .int .i64 0, .bool false, .bool false, .int .i64 0, .int .i64 0, .int .i64 0, .slice none 0 0, .int .i64 0, .int .i64 0, .int .i64 0, .slice none 0 0, .slice none 0 0, .bool false, .slice none 0 0, .slice none 0 0] 45)).heap.size := by rw [World.size_alloc]; omega
  have hpq : Hid (p ≠ w.heap.size) := by have := h.1; show p ≠ _; omega
  have hDq : Hid (p < w.heap.size ∧ D ≤ w.heap.size) := ⟨h.1, h.2.1⟩
  clear h hB0
  go_enter Tryz.func52, Tryz.ntmps52
  go_wp2_with fail
  refine (num_i p _ _ _ h0).mono ?_
  rintro e w1 ⟨m0, rfl, _, l1, b1, rd1, h1, t1⟩
  have RD1 := hidI rd1
  clear rd1
  have s1 := s0.trans t1
  have g1 : Hid (w1.heap[w.heap.size]? = some (.cells #[.int .i64 0, .int .i64 0, .int .i64 0, .int .i64 0, .int .i64 0, .int .i64 0, .int .i64 0, .slice none 0 0, .int .i64 0, .bool false, .int .i64 0, .int .i64 0, .int .i64 0, .bool false, .bool false, .int .i64 0, .int .i64 0, .int .i64 0, .slice none 0 0, .int .i64 0, .int .i64 0, .int .i64 0, .slice none 0 0, .slice none 0 0, .bool false, .slice none 0 0, .slice none 0 0] 45 (0, 0))) := (t1.block _ z0 hpq.out.symm).trans g0.out
  have z1 : w.heap.size < w1.heap.size := Nat.lt_of_lt_of_le z0 t1.size
  clear h0 t1 s0 g0 z0
  go_wp2_with fail
  refine (num_i p _ _ _ h1).mono ?_
  rintro e w2 ⟨m1, rfl, _, l2, b2, rd2, h2, t2⟩
  have RD2 := hidI rd2
  clear rd2
  have s2 := s1.trans t2
  have g2 : Hid (w2.heap[w.heap.size]? = some (.cells #[.int .i64 0, .int .i64 0, .int .i64 0, .int .i64 0, .int .i64 0, .int .i64 0, .int .i64 0, .slice none 0 0, .int .i64 0, .bool false, .int .i64 0, .int .i64 0, .int .i64 0, .bool false, .bool false, .int .i64 0, .int .i64 0, .int .i64 0, .slice none 0 0, .int .i64 0, .int .i64 0, .int .i64 0, .slice none 0 0, .slice none 0 0, .bool false, .slice none 0 0, .slice none 0 0] 45 (0, 0))) := (t2.block _ z1 hpq.out.symm).trans g1.out
  have z2 : w.heap.size < w2.heap.size := Nat.lt_of_lt_of_le z1 t2.size
  clear h1 t2 s1 g1 z1
  go_wp2_with fail
  refine (num_i p _ _ _ h2).mono ?_
  rintro e w3 ⟨m2, rfl, _, l3, b3, rd3, h3, t3⟩
  have RD3 := hidI rd3
  clear rd3
  have s3 := s2.trans t3
  have g3 : Hid (w3.heap[w.heap.size]? = some (.cells #[.int .i64 0, .int .i64 0, .int .i64 0, .int .i64 0, .int .i64 0, .int .i64 0, .int .i64 0, .slice none 0 0, .int .i64 0, .bool false, .int .i64 0, .int .i64 0, .int .i64 0, .bool false, .bool false, .int .i64 0, .int .i64 0, .int .i64 0, .slice none 0 0, .int .i64 0, .int .i64 0, .int .i64 0, .slice none 0 0, .slice none 0 0, .bool false, .slice none 0 0, .slice none 0 0] 45 (0, 0))) := (t3.block _ z2 hpq.out.symm).trans g2.out
  have z3 : w.heap.size < w3.heap.size := Nat.lt_of_lt_of_le z2 t3.size
  clear h2 t3 s2 g2 z2
  go_wp2_with fail
  refine (job_i p _ _ _ h3).mono ?_
  rintro e w4 ⟨cs3, v3, rfl, q3, l4, b4, rd4, h4, t4⟩
  have RD4 := hidI rd4
  clear rd4
  obtain ⟨y3_0, y3_1, y3_2, y3_3, y3_4, y3_5, y3_6, rfl⟩ := list_len7 cs3 q3.len
  have Q3 := hidI (q3.keptN (lo' := w.heap.size + 1) (Nat.le_refl _) (fun _ _ _ => rfl) z3)
  clear q3
  have s4 := s3.trans t4
  have g4 : Hid (w4.heap[w.heap.size]? = some (.cells #[.int .i64 0, .int .i64 0, .int .i64 0, .int .i64 0, .int .i64 0, .int .i64 0, .int .i64 0, .slice none 0 0, .int .i64 0, .bool false, .int .i64 0, .int .i64 0, .int .i64 0, .bool false, .bool false, .int .i64 0, .int .i64 0, .int .i64 0, .slice none 0 0, .int .i64 0, .int .i64 0, .int .i64 0, .slice none 0 0, .slice none 0 0, .bool false, .slice none 0 0, .slice none 0 0] 45 (0, 0))) := (t4.block _ z3 hpq.out.symm).trans g3.out
  have z4 : w.heap.size < w4.heap.size := Nat.lt_of_lt_of_le z3 t4.size
  clear h3 t4 s3 g3 z3
  go_wp2_with fail
  refine (node_i p _ _ _ h4).mono ?_
  rintro e w5 ⟨cs4, v4, rfl, q4, l5, b5, rd5, h5, t5⟩
  have RD5 := hidI rd5
  clear rd5
  obtain ⟨y4_0, y4_1, y4_2, y4_3, y4_4, y4_5, y4_6, y4_7, rfl⟩ := list_len8 cs4 q4.len
  replace Q3 := hidI (Q3.out.keptN (lo' := w.heap.size + 1) t5.size (fun b h1 h2 => t5.block b h2 (by have := hDq.out.1; omega)) (Nat.le_refl _))
  have Q4 := hidI (q4.keptN (lo' := w.heap.size + 1) (Nat.le_refl _) (fun _ _ _ => rfl) z4)
  clear q4
  have s5 := s4.trans t5
  have g5 : Hid (w5.heap[w.heap.size]? = some (.cells #[.int .i64 0, .int .i64 0, .int .i64 0, .int .i64 0, .int .i64 0, .int .i64 0, .int .i64 0, .slice none 0 0, .int .i64 0, .bool false, .int .i64 0, .int .i64 0, .int .i64 0, .bool false, .bool false, .int .i64 0, .int .i64 0, .int .i64 0, .slice none 0 0, .int .i64 0, .int .i64 0, .int .i64 0, .slice none 0 0, .slice none 0 0, .bool false, .slice none 0 0, .slice none 0 0] 45 (0, 0))) := (t5.block _ z4 hpq.out.symm).trans g4.out
  have z5 : w.heap.size < w5.heap.size := Nat.lt_of_lt_of_le z4 t5.size
  clear h4 t5 s4 g4 z4
  obtain ⟨q1, hq1⟩ : ∃ q1, Hid (w5.heap.size = q1) := ⟨_, hidI rfl⟩
  have I0 : Hid ((Tryz.prog.info? 45).map (·.size) = some (#[.int .i64 m0, .int .i64 m1, .int .i64 m2, y3_0, y3_1, y3_2, y3_3, y3_4, y3_5, y3_6, y4_0, y4_1, y4_2, y4_3, y4_4, y4_5, y4_6, y4_7, .slice none 0 0, .int .i64 0, .int .i64 0, .int .i64 0, .slice none 0 0, .slice none 0 0, .bool false, .slice none 0 0, .slice none 0 0] : Array Value).size) := by show _ = _; kernel_rfl
  have OP : Hid (∀ c ∈ ([.int .i64 m0, .int .i64 m1, .int .i64 m2, y3_0, y3_1, y3_2, y3_3, y3_4, y3_5, y3_6, y4_0, y4_1, y4_2, y4_3, y4_4, y4_5, y4_6, y4_7] : List Value), c.oneCell' = true) := by
    intro c hc
    simp only [List.mem_cons, List.not_mem_nil, or_false] at hc
    rcases hc with rfl | rfl | rfl | rfl | rfl | rfl | rfl | rfl | rfl | rfl | rfl | rfl | rfl | rfl | rfl | rfl | rfl | rfl
    · exact rfl
    · exact rfl
    · exact rfl
    · exact Q3.out.one _ (by simp)
    · exact Q3.out.one _ (by simp)
    · exact Q3.out.one _ (by simp)
    · exact Q3.out.one _ (by simp)
    · exact Q3.out.one _ (by simp)
    · exact Q3.out.one _ (by simp)
    · exact Q3.out.one _ (by simp)
    · exact Q4.out.one _ (by simp)
    · exact Q4.out.one _ (by simp)
    · exact Q4.out.one _ (by simp)
    · exact Q4.out.one _ (by simp)
    · exact Q4.out.one _ (by simp)
    · exact Q4.out.one _ (by simp)
    · exact Q4.out.one _ (by simp)
    · exact Q4.out.one _ (by simp)
  have O0 : Hid ((#[.int .i64 m0, .int .i64 m1, .int .i64 m2, y3_0, y3_1, y3_2, y3_3, y3_4, y3_5, y3_6, y4_0, y4_1, y4_2, y4_3, y4_4, y4_5, y4_6, y4_7, .slice none 0 0, .int .i64 0, .int .i64 0, .int .i64 0, .slice none 0 0, .slice none 0 0, .bool false, .slice none 0 0, .slice none 0 0] : Array Value).all (·.oneCell') = true) := by
    refine all_oneCell_toArray (cs := [.int .i64 m0, .int .i64 m1, .int .i64 m2, y3_0, y3_1, y3_2, y3_3, y3_4, y3_5, y3_6, y4_0, y4_1, y4_2, y4_3, y4_4, y4_5, y4_6, y4_7, .slice none 0 0, .int .i64 0, .int .i64 0, .int .i64 0, .slice none 0 0, .slice none 0 0, .bool false, .slice none 0 0, .slice none 0 0]) (fun c hc => ?_)
    rcases List.mem_append.1 (show c ∈ [.int .i64 m0, .int .i64 m1, .int .i64 m2, y3_0, y3_1, y3_2, y3_3, y3_4, y3_5, y3_6, y4_0, y4_1, y4_2, y4_3, y4_4, y4_5, y4_6, y4_7] ++ [.slice none 0 0, .int .i64 0, .int .i64 0, .int .i64 0, .slice none 0 0, .slice none 0 0, .bool false, .slice none 0 0, .slice none 0 0] from hc) with h1 | h1
    · exact OP.out c h1
    · simp only [List.mem_cons, List.not_mem_nil, or_false] at h1
      rcases h1 with rfl | rfl | rfl | rfl | rfl | rfl | rfl | rfl | rfl <;> rfl
  go_wp2_with (refine wpList_store_rowF rfl 45 (.tmp 3) (.tmp 16) rfl w5.heap.size #[.int .i64 m0, .int .i64 m1, .int .i64 m2, y3_0, y3_1, y3_2, y3_3, y3_4, y3_5, y3_6, y4_0, y4_1, y4_2, y4_3, y4_4, y4_5, y4_6, y4_7, .slice none 0 0, .int .i64 0, .int .i64 0, .int .i64 0, .slice none 0 0, .slice none 0 0, .bool false, .slice none 0 0, .slice none 0 0] rfl rfl 45 #[.int .i64 0, .int .i64 0, .int .i64 0, .int .i64 0, .int .i64 0, .int .i64 0, .int .i64 0, .slice none 0 0, .int .i64 0, .bool false, .int .i64 0, .int .i64 0, .int .i64 0, .bool false, .bool false, .int .i64 0, .int .i64 0, .int .i64 0, .slice none 0 0, .int .i64 0, .int .i64 0, .int .i64 0, .slice none 0 0, .slice none 0 0, .bool false, .slice none 0 0, .slice none 0 0] (heap_alloc_new w5 (.cells #[.int .i64 0, .int .i64 0, .int .i64 0, .int .i64 0, .int .i64 0, .int .i64 0, .int .i64 0, .slice none 0 0, .int .i64 0, .bool false, .int .i64 0, .int .i64 0, .int .i64 0, .bool false, .bool false, .int .i64 0, .int .i64 0, .int .i64 0, .slice none 0 0, .int .i64 0, .int .i64 0, .int .i64 0, .slice none 0 0, .slice none 0 0, .bool false, .slice none 0 0, .slice none 0 0] 45)) I0.out rfl O0.out ?nexA)
  case nexA =>
    intro wA hwAh
    have hwA := hwAh.out
    have hBA : Below w5.heap.size w5 wA := by rw [hwA]; exact ((Below.refl _ _).alloc (Nat.le_refl _) _).trans ⟨rfl, rfl, rfl, by simp [World.setRow], fun k hk => setRow_other _ _ _ _ (by omega)⟩
    have gA0 : wA.heap[w5.heap.size]? = some (.cells ([.int .i64 m0, .int .i64 m1, .int .i64 m2, y3_0, y3_1, y3_2, y3_3, y3_4, y3_5, y3_6, y4_0, y4_1, y4_2, y4_3, y4_4, y4_5, y4_6, y4_7, .slice none 0 0, .int .i64 0, .int .i64 0, .int .i64 0, .slice none 0 0, .slice none 0 0, .bool false, .slice none 0 0, .slice none 0 0] : List Value).toArray 45 (0, 0)) := by rw [hwA]; exact setRow_heap _ _ _ _ 45 _ (heap_alloc_new w5 _)
    have zA : w5.heap.size < wA.heap.size := (Array.getElem?_eq_some_iff.1 gA0).1
    have hA := h5.ext hBA h5.1 h5.2.1
    have GA := hidI ((hBA.block _ z5).trans g5.out)
    have SA := hidI (s5.ext (hBA.mono s5.size))
    replace Q3 := hidI ((Q3.out.toX (lo' := w.heap.size + 1) (q := w5.heap.size) (Nat.le_refl _) (.inr (Nat.le_refl _))).keptX hBA.size (fun b h1 h2 h3 => hBA.block b h3))
    replace Q4 := hidI ((Q4.out.toX (lo' := w.heap.size + 1) (q := w5.heap.size) (Nat.le_refl _) (.inr (Nat.le_refl _))).keptX hBA.size (fun b h1 h2 h3 => hBA.block b h3))
    have zq : w.heap.size < q1 := by have := hq1.out; omega
    rw [hq1.out] at gA0 zA
    simp only [hq1.out]
    rw [hq1.out] at Q3
    rw [hq1.out] at Q4
    have G1A := hidI gA0
    have ZA := hidI zA
    clear hwA hwAh hBA gA0 zA h5 s5 g5 z5
    go_wp2_with fail
    refine (count_i p _ _ wA hA).mono ?_
    rintro e wB ⟨N, l1, b1, rfl, hN, hcn, hB, tB⟩
    have HC := hidI hcn
    have GB := hidI ((tB.block _ (by have := ZA.out; omega) hpq.out.symm).trans GA.out)
    have G1B := hidI ((tB.block _ ZA.out (by have := hDq.out.1; omega)).trans G1A.out)
    have ZB := hidI (Nat.lt_of_lt_of_le ZA.out tB.size)
    have SB := hidI (SA.out.trans tB)
    replace Q3 := hidI (Q3.out.keptX tB.size (fun b h1 h2 h3 => tB.block b h3 (by have := hDq.out.1; omega)))
    replace Q4 := hidI (Q4.out.keptX tB.size (fun b h1 h2 h3 => tB.block b h3 (by have := hDq.out.1; omega)))
    have hpB : p < wB.heap.size := hB.1
    have hDB : D ≤ q1 := by have := hDq.out.2; omega
    have hpq1 : p < q1 := by have := hDq.out.1; omega
    clear hcn tB hA
    go_wp2
    go_loopw [5] (fun i wr => ∃ (k : Nat) (v : Value), k ≤ N ∧ i = .int .i64 k ∧ Hid (wr.heap[q1]? = some (.cells ([.int .i64 m0, .int .i64 m1, .int .i64 m2, y3_0, y3_1, y3_2, y3_3, y3_4, y3_5, y3_6, y4_0, y4_1, y4_2, y4_3, y4_4, y4_5, y4_6, y4_7, v, .int .i64 0, .int .i64 0, .int .i64 0, .slice none 0 0, .slice none 0 0, .bool false, .slice none 0 0, .slice none 0 0] : List Value).toArray 45 (0, 0))) ∧ LoopJ D wB p q1 F_report 108 2 k l1 b1 v wr) (fun i _ => N - (intOf i).toNat)
    case atStart => exact ⟨0, .slice none 0 0, Nat.zero_le _, rfl, G1B, [], [], l1, b1, World.ownsRow_nil _ _ _ _, ⟨rfl, rfl, rfl, Nat.le_refl _, fun _ _ _ _ => rfl⟩, hB, RdN.zero _ _ _, Elems.nil _ _ _ _⟩
    case round =>
      obtain ⟨k, v, hk, rfl, G1, xs, vsL, lk, bk, ok, sk, rk, rdk, hel⟩ := hrel
      have RDK := hidI rdk
      have HEL := hidI hel
      have SK := hidI sk
      have OK := hidI ok
      have hq1r : q1 < wr.heap.size := (Array.getElem?_eq_some_iff.1 G1.out).1
      have HQR := hidI hq1r
      clear rdk hel sk ok
      by_cases hlt : k < N
      · have hcF : wr.cell? ⟨q1, 18, none⟩ = some v := by rw [cell_of_row wr q1 18 _ 45 (0, 0) G1.out]; rfl
        have hBd : Below wr.heap.size wr wr.drew := (Below.refl _ _).drew
        have RK := hidI (rk.ext hBd rk.1 rk.2.1)
        clear rk
        go_wp2
        go_region_law (first | (refine step_append_own _ rfl (.tmp 25) (.tmp 31) 40 rfl wB.heap.size 108 i0 (.agg #[.int .i64 0, .int .i64 0]) 2 16 Tryz.underlying40 HI.out HZ0.out HZ1.out HZ2.out rfl (by decide) v k xs rfl OKL.out ⟨wb.heap.size, 0, none⟩ 1 1 (#[.int .i64 m0e, .int .i64 m1e] : Array Value).toList rfl rfl (fun j u hj => cell_news wb _ _ j u hj) OE.out (by unfold maxLen; omega) (by omega) HSL.out ?_; intro v3 w3 ho3 hg3 hw3; have G3 := hidI (loop_g3 (es := [.int .i64 m0e, .int .i64 m1e]) OK.out G1.out (by decide) hpq1 TL.out hg3); have hcG : w3.cell? ⟨q1, 18, none⟩ = some v := (by rw [cell_of_row w3 q1 18 _ 45 (0, 0) G3.out]; rfl); have hfG : w3.frozen? ⟨q1, 18, none⟩ = false := (by simp [World.frozen?, G3.out]); obtain ⟨g3, c3, rfl⟩ := row_slice ho3; have HO3 := hidI ho3; have HG3 := hidI hg3; have HW3 := hidI hw3; clear ho3 hg3 hw3) | (go_simp; refine (num_i p _ _ _ R0e.out).mono ?_; rintro e wb ⟨m1e, rfl, _, l1e, b1e, rd1e, r1e, t1e⟩; have R1e := hidI r1e; have T1e := hidI t1e; have RD1e := hidI rd1e; have hcF1 : wb.cell? ⟨q1, 18, none⟩ = some v := (World.cell?_of_block (a := ⟨q1, 18, none⟩) (t1e.block q1 (by have := HQR.out; exact Nat.lt_of_lt_of_le this T0e.out.size) (by omega))).trans hcF0; clear r1e t1e rd1e; have TL : Hid (RS wr wb p) := ((rs_drew wr p).trans T0e.out).trans T1e.out; have HXE : Hid (Rep wb (NBr wr.heap.size wb) F_report [.int .i64 m0e, .int .i64 m1e] (m0e, m1e)) := mk_report m0e m1e; have RDX : Hid (Rd F_report lk bk (m0e, m1e) l1e b1e) := Rd.cat RD0e.out RD1e.out; have OKL := hidI ((ownsRow_rs OK.out TL.out hpB).alloc (.cells #[.int .i64 m0e, .int .i64 m1e] 108)); have HSL : Hid (wB.heap.size ≤ (wb.alloc (.cells #[.int .i64 m0e, .int .i64 m1e] 108)).heap.size) := (by show _ ≤ _; rw [World.size_alloc]; have := SK.out.size; have := TL.out.size; omega); have OE : Hid (∀ u ∈ (#[.int .i64 m0e, .int .i64 m1e] : Array Value).toList, u.oneCell' = true) := HXE.out.one; have hcL : (wb.alloc (.cells #[.int .i64 m0e, .int .i64 m1e] 108)).cell? ⟨q1, 18, none⟩ = some v := (World.cell?_of_block (a := ⟨q1, 18, none⟩) (Below.heap_alloc wb _ q1 (Nat.lt_of_lt_of_le HQR.out TL.out.size))).trans hcF1) | (go_simp; refine (num_i p _ _ _ RK.out).mono ?_; rintro e wa ⟨m0e, rfl, _, l0e, b0e, rd0e, r0e, t0e⟩; have R0e := hidI r0e; have T0e := hidI t0e; have RD0e := hidI rd0e; have hcF0 : wa.cell? ⟨q1, 18, none⟩ = some v := (World.cell?_of_block (a := ⟨q1, 18, none⟩) (t0e.block q1 (by have := HQR.out; exact this) (by omega))).trans hcF; clear r0e t0e rd0e))
        all_goals (
          have LM := loop_more (lf := 18) (es := [.int .i64 m0e, .int .i64 m1e]) OK.out SK.out RDK.out HEL.out G1.out (by decide) ZB.out hpB hpq1 hDB TL.out HXE.out RDX.out R1e.out HO3.out HG3.out (by first | exact HW3.out | (have := HW3.out; rw [World.size_alloc] at this; exact this))
          have LJ := hidI LM.1
          have GJ : Hid ((w3.setCell ⟨q1, 18, none⟩ (.slice (some ⟨g3, 0, none⟩) (k + 1) c3)).heap[q1]? = some (.cells ([.int .i64 m0, .int .i64 m1, .int .i64 m2, y3_0, y3_1, y3_2, y3_3, y3_4, y3_5, y3_6, y4_0, y4_1, y4_2, y4_3, y4_4, y4_5, y4_6, y4_7, .slice (some ⟨g3, 0, none⟩) (k + 1) c3, .int .i64 0, .int .i64 0, .int .i64 0, .slice none 0 0, .slice none 0 0, .bool false, .slice none 0 0, .slice none 0 0] : List Value).toArray 45 (0, 0))) := LM.2
          clear LM
          go_wp2
          exact ⟨⟨k + 1, .slice (some ⟨g3, 0, none⟩) (k + 1) c3, by omega, by go_num, GJ, LJ.out⟩, by simp [intOf]; omega⟩)
      · have hkN : k = N := by omega
        subst hkN
        have hvl := RDK.out.1
        obtain ⟨va, vc, hv, hrl⟩ : ∃ va vc, v = Value.slice va k vc ∧ RepL wr (NB wB wr) F_report va vsL := by
          have := Elems.done (e := 108) HEL.out (by rw [hvl]; exact OK.out) (by rw [hvl]; omega)
          rwa [hvl] at this
        subst hv
        have hvl2 : k = vsL.length := hvl.symm
        subst hvl2
        have QL := hidI (hrl.toX (lo' := w.heap.size + 1) (q := q1) (by have := ZB.out; have := SB.out.size; have := hq1.out; omega) (.inl ZB.out))
        have RDL := hidI (RdN.lst hN HC.out RDK.out)
        have GQ := hidI ((SK.out.block _ (by have := ZB.out; omega) hpq.out.symm (by omega)).trans GB.out)
        have SQ : Hid (RS w wr p) := ⟨SK.out.os.trans SB.out.os, SK.out.tape.trans SB.out.tape, SK.out.output.trans SB.out.output, Nat.le_trans SB.out.size SK.out.size, fun j hj hp => (SK.out.block j (by have := SB.out.size; omega) hp (by omega)).trans (SB.out.block j hj hp)⟩
        replace Q3 := hidI (Q3.out.keptX SK.out.size (fun b h1 h2 h3 => SK.out.block b h3 (by have := hDq.out.1; omega) h2))
        replace Q4 := hidI (Q4.out.keptX SK.out.size (fun b h1 h2 h3 => SK.out.block b h3 (by have := hDq.out.1; omega) h2))
        have hcur := rk
        clear hvl hrl rk HEL RDK SK OK
        go_wp2_with fail
        refine (plan_i p _ _ _ hcur).mono ?_
        rintro e x6 ⟨cs6, v6, rfl, q6, l7, b7, rd7, r7, t7⟩
        have RD7 := hidI rd7
        clear rd7 hcur
        obtain ⟨y6_0, y6_1, y6_2, y6_3, y6_4, y6_5, rfl⟩ := list_len6 cs6 q6.len
        replace Q3 := hidI (Q3.out.keptX t7.size (fun b h1 h2 h3 => t7.block b h3 (by have := hDq.out.1; omega)))
        replace Q4 := hidI (Q4.out.keptX t7.size (fun b h1 h2 h3 => t7.block b h3 (by have := hDq.out.1; omega)))
        replace QL := hidI (QL.out.keptX t7.size (fun b h1 h2 h3 => t7.block b h3 (by have := hDq.out.1; omega)))
        have hq1u : q1 < wr.heap.size := (Array.getElem?_eq_some_iff.1 G1.out).1
        have Q6 := hidI (q6.toX (lo' := w.heap.size + 1) (q := q1) (by omega) (.inl hq1u))
        clear q6
        have G6x := hidI ((t7.block q1 hq1u (by omega)).trans G1.out)
        replace GQ := hidI ((t7.block _ (by omega) hpq.out.symm).trans GQ.out)
        replace SQ := hidI (SQ.out.trans t7)
        clear t7 hq1u
        have HI6 : Hid ((Tryz.prog.info? 43).map (·.size) = some ([y6_0, y6_1, y6_2, y6_3, y6_4, y6_5] : List Value).toArray.size) := by show _ = _; kernel_rfl
        have HO6 : Hid (∀ c ∈ ([y6_0, y6_1, y6_2, y6_3, y6_4, y6_5] : List Value), c.oneCell' = true) := Q6.out.one
        go_wp2_with (refine wpList_store_midF rfl 43 (.tmp 36) (.tmp 35) rfl q1 19 [y6_0, y6_1, y6_2, y6_3, y6_4, y6_5] rfl rfl 45 [.int .i64 m0, .int .i64 m1, .int .i64 m2, y3_0, y3_1, y3_2, y3_3, y3_4, y3_5, y3_6, y4_0, y4_1, y4_2, y4_3, y4_4, y4_5, y4_6, y4_7, .slice va vsL.length vc, .int .i64 0, .int .i64 0, .int .i64 0, .slice none 0 0, .slice none 0 0, .bool false, .slice none 0 0, .slice none 0 0] [.int .i64 m0, .int .i64 m1, .int .i64 m2, y3_0, y3_1, y3_2, y3_3, y3_4, y3_5, y3_6, y4_0, y4_1, y4_2, y4_3, y4_4, y4_5, y4_6, y4_7, .slice va vsL.length vc, y6_0, y6_1, y6_2, y6_3, y6_4, y6_5, .slice none 0 0, .slice none 0 0] G6x.out rfl (Nat.le_of_ble_eq_true rfl) HI6.out HO6.out ?nx6)
        case nx6 =>
          intro u6 hLA6
          have LA6 := hLA6.out
          have hcur := r7.laid LA6 hpq1 hDB
          have G6y := hidI LA6.at_
          replace Q3 := hidI (Q3.out.keptX (by rw [LA6.size]; exact Nat.le_refl _) (fun b h1 h2 h3 => LA6.block b h2))
          replace Q4 := hidI (Q4.out.keptX (by rw [LA6.size]; exact Nat.le_refl _) (fun b h1 h2 h3 => LA6.block b h2))
          replace QL := hidI (QL.out.keptX (by rw [LA6.size]; exact Nat.le_refl _) (fun b h1 h2 h3 => LA6.block b h2))
          replace Q6 := hidI (Q6.out.keptX (by rw [LA6.size]; exact Nat.le_refl _) (fun b h1 h2 h3 => LA6.block b h2))
          replace GQ := hidI ((LA6.block _ (by omega)).trans GQ.out)
          replace SQ : Hid (RS w u6 p) := ⟨LA6.os.trans SQ.out.os, LA6.tape.trans SQ.out.tape, LA6.output.trans SQ.out.output, by rw [LA6.size]; exact SQ.out.size, fun j hj hp => (LA6.block j (by omega)).trans (SQ.out.block j hj hp)⟩
          clear LA6 hLA6 G6x r7
          go_wp2_with fail
          refine (conf_i p _ _ _ hcur).mono ?_
          rintro e x7 ⟨cs7, v7, rfl, q7, l8, b8, rd8, r8, t8⟩
          have RD8 := hidI rd8
          clear rd8 hcur
          obtain ⟨y7_0, y7_1, rfl⟩ := list_len2 cs7 q7.len
          replace Q3 := hidI (Q3.out.keptX t8.size (fun b h1 h2 h3 => t8.block b h3 (by have := hDq.out.1; omega)))
          replace Q4 := hidI (Q4.out.keptX t8.size (fun b h1 h2 h3 => t8.block b h3 (by have := hDq.out.1; omega)))
          replace QL := hidI (QL.out.keptX t8.size (fun b h1 h2 h3 => t8.block b h3 (by have := hDq.out.1; omega)))
          replace Q6 := hidI (Q6.out.keptX t8.size (fun b h1 h2 h3 => t8.block b h3 (by have := hDq.out.1; omega)))
          have hq1u : q1 < u6.heap.size := (Array.getElem?_eq_some_iff.1 G6y.out).1
          have Q7 := hidI (q7.toX (lo' := w.heap.size + 1) (q := q1) (by omega) (.inl hq1u))
          clear q7
          have G7x := hidI ((t8.block q1 hq1u (by omega)).trans G6y.out)
          replace GQ := hidI ((t8.block _ (by omega) hpq.out.symm).trans GQ.out)
          replace SQ := hidI (SQ.out.trans t8)
          clear t8 hq1u
          have HI7 : Hid ((Tryz.prog.info? 31).map (·.size) = some ([y7_0, y7_1] : List Value).toArray.size) := by show _ = _; kernel_rfl
          have HO7 : Hid (∀ c ∈ ([y7_0, y7_1] : List Value), c.oneCell' = true) := Q7.out.one
          go_wp2_with (refine wpList_store_midF rfl 31 (.tmp 39) (.tmp 38) rfl q1 25 [y7_0, y7_1] rfl rfl 45 [.int .i64 m0, .int .i64 m1, .int .i64 m2, y3_0, y3_1, y3_2, y3_3, y3_4, y3_5, y3_6, y4_0, y4_1, y4_2, y4_3, y4_4, y4_5, y4_6, y4_7, .slice va vsL.length vc, y6_0, y6_1, y6_2, y6_3, y6_4, y6_5, .slice none 0 0, .slice none 0 0] [.int .i64 m0, .int .i64 m1, .int .i64 m2, y3_0, y3_1, y3_2, y3_3, y3_4, y3_5, y3_6, y4_0, y4_1, y4_2, y4_3, y4_4, y4_5, y4_6, y4_7, .slice va vsL.length vc, y6_0, y6_1, y6_2, y6_3, y6_4, y6_5, y7_0, y7_1] G7x.out rfl (Nat.le_of_ble_eq_true rfl) HI7.out HO7.out ?nx7)
          case nx7 =>
            intro u7 hLA7
            have LA7 := hLA7.out
            have hcur := r8.laid LA7 hpq1 hDB
            have G7y := hidI LA7.at_
            replace Q3 := hidI (Q3.out.keptX (by rw [LA7.size]; exact Nat.le_refl _) (fun b h1 h2 h3 => LA7.block b h2))
            replace Q4 := hidI (Q4.out.keptX (by rw [LA7.size]; exact Nat.le_refl _) (fun b h1 h2 h3 => LA7.block b h2))
            replace QL := hidI (QL.out.keptX (by rw [LA7.size]; exact Nat.le_refl _) (fun b h1 h2 h3 => LA7.block b h2))
            replace Q6 := hidI (Q6.out.keptX (by rw [LA7.size]; exact Nat.le_refl _) (fun b h1 h2 h3 => LA7.block b h2))
            replace Q7 := hidI (Q7.out.keptX (by rw [LA7.size]; exact Nat.le_refl _) (fun b h1 h2 h3 => LA7.block b h2))
            replace GQ := hidI ((LA7.block _ (by omega)).trans GQ.out)
            replace SQ : Hid (RS w u7 p) := ⟨LA7.os.trans SQ.out.os, LA7.tape.trans SQ.out.tape, LA7.output.trans SQ.out.output, by rw [LA7.size]; exact SQ.out.size, fun j hj hp => (LA7.block j (by omega)).trans (SQ.out.block j hj hp)⟩
            clear LA7 hLA7 G7x r8
            have REP : Hid (Rep u7 (NX (w.heap.size + 1) q1 u7) F_cmd [.int .i64 m0, .int .i64 m1, .int .i64 m2, y3_0, y3_1, y3_2, y3_3, y3_4, y3_5, y3_6, y4_0, y4_1, y4_2, y4_3, y4_4, y4_5, y4_6, y4_7, .slice va vsL.length vc, y6_0, y6_1, y6_2, y6_3, y6_4, y6_5, y7_0, y7_1] (m0, m1, m2, v3, v4, vsL, v6, v7)) := by
              exact mk_cmd m0 m1 m2 y3_0 y3_1 y3_2 y3_3 y3_4 y3_5 y3_6 v3 y4_0 y4_1 y4_2 y4_3 y4_4 y4_5 y4_6 y4_7 v4 va vc vsL y6_0 y6_1 y6_2 y6_3 y6_4 y6_5 v6 y7_0 y7_1 v7 Q3.out Q4.out QL.out Q6.out Q7.out
            have RDA : Hid (Rd F_cmd l bad (m0, m1, m2, v3, v4, vsL, v6, v7) l8 b8) := (Rd.cat RD1.out (Rd.cat RD2.out (Rd.cat RD3.out (Rd.cat RD4.out (Rd.cat RD5.out (Rd.cat RDL.out (Rd.cat RD7.out RD8.out)))))))
            have IF : Hid ((Tryz.prog.info? 45).map (·.size) = some (#[.int .i64 m0, .int .i64 m1, .int .i64 m2, y3_0, y3_1, y3_2, y3_3, y3_4, y3_5, y3_6, y4_0, y4_1, y4_2, y4_3, y4_4, y4_5, y4_6, y4_7, .slice va vsL.length vc, y6_0, y6_1, y6_2, y6_3, y6_4, y6_5, y7_0, y7_1] : Array Value).size) := by show _ = _; kernel_rfl
            have OF : Hid ((#[.int .i64 m0, .int .i64 m1, .int .i64 m2, y3_0, y3_1, y3_2, y3_3, y3_4, y3_5, y3_6, y4_0, y4_1, y4_2, y4_3, y4_4, y4_5, y4_6, y4_7, .slice va vsL.length vc, y6_0, y6_1, y6_2, y6_3, y6_4, y6_5, y7_0, y7_1] : Array Value).all (·.oneCell') = true) := REP.out.all
            have HCUR := hidI hcur
            clear hcur
            go_wp2_with (first
              | (refine wpList_load_row rfl 45 (.tmp 3) rfl q1 rfl 45 #[.int .i64 m0, .int .i64 m1, .int .i64 m2, y3_0, y3_1, y3_2, y3_3, y3_4, y3_5, y3_6, y4_0, y4_1, y4_2, y4_3, y4_4, y4_5, y4_6, y4_7, .slice va vsL.length vc, y6_0, y6_1, y6_2, y6_3, y6_4, y6_5, y7_0, y7_1] (0, 0) _ G7y.out Tryz.underlying45 rfl IF.out ?_)
              | (refine wpList_store_row rfl 45 (.tmp 2) (.tmp 40) rfl w.heap.size #[.int .i64 m0, .int .i64 m1, .int .i64 m2, y3_0, y3_1, y3_2, y3_3, y3_4, y3_5, y3_6, y4_0, y4_1, y4_2, y4_3, y4_4, y4_5, y4_6, y4_7, .slice va vsL.length vc, y6_0, y6_1, y6_2, y6_3, y6_4, y6_5, y7_0, y7_1] rfl rfl 45 #[.int .i64 0, .int .i64 0, .int .i64 0, .int .i64 0, .int .i64 0, .int .i64 0, .int .i64 0, .slice none 0 0, .int .i64 0, .bool false, .int .i64 0, .int .i64 0, .int .i64 0, .bool false, .bool false, .int .i64 0, .int .i64 0, .int .i64 0, .slice none 0 0, .int .i64 0, .int .i64 0, .int .i64 0, .slice none 0 0, .slice none 0 0, .bool false, .slice none 0 0, .slice none 0 0] GQ.out IF.out rfl OF.out ?_))
            refine bodyPost_ret (v := .agg #[.int .i64 m0, .int .i64 m1, .int .i64 m2, y3_0, y3_1, y3_2, y3_3, y3_4, y3_5, y3_6, y4_0, y4_1, y4_2, y4_3, y4_4, y4_5, y4_6, y4_7, .slice va vsL.length vc, y6_0, y6_1, y6_2, y6_3, y6_4, y6_5, y7_0, y7_1]) ?_ rfl ⟨[.int .i64 m0, .int .i64 m1, .int .i64 m2, y3_0, y3_1, y3_2, y3_3, y3_4, y3_5, y3_6, y4_0, y4_1, y4_2, y4_3, y4_4, y4_5, y4_6, y4_7, .slice va vsL.length vc, y6_0, y6_1, y6_2, y6_3, y6_4, y6_5, y7_0, y7_1], _, rfl, ?_, l8, b8, RDA.out, ?_, ?_⟩
            · refine results_cell_row Tryz.results52 _ _ w.heap.size 45 _ (0, 0) _ ?_ (setRow_heap u7 w.heap.size _ _ 45 _ GQ.out) Tryz.underlying45 rfl IF.out
              rfl
            · exact (REP.out.keptX (by simp [World.setRow]) (fun b h1 h2 h3 => setRow_other _ _ _ _ (by omega))).unX (Nat.le_succ _)
            · exact HCUR.out.ext ⟨rfl, rfl, rfl, by simp [World.setRow], fun k hk => setRow_other _ _ _ _ (by omega)⟩ hDq.out.1 hDq.out.2
            · exact SQ.out.setRow (Nat.le_refl _) _
end Go.Proofs.YtcdoejdbmllnnabGreat

/- The document's reader of a record with a list. Made by program (wip/gen/inr.py). -/
namespace Go.Proofs.YtcdoejdbmllnnabGreat
open Go.RowKit

set_option maxHeartbeats 1000000 in
set_option maxRecDepth 100000 in
theorem entry_i {D : Nat} (p : Nat) (l : List UInt8) (bad : Bool) (w : World) (h : RI D w p l bad) : Calls Tryz.prog 49 #[.pointer (some ⟨p, 0, none⟩)] w fun e w' => RecO D w p F_entry l bad e w' := by
  have hB0 : Below w.heap.size w (w.alloc (.cells #[.int .i64 0, .int .i64 0, .int .i64 0, .int .i64 0, .int .i64 0, .int .i64 0, .int .i64 0, .int .i64 0, .int .i64 0, .slice none 0 0, .int .i64 0, .bool false, .int .i64 0, .int .i64 0, .int .i64 0, .bool false, .bool false, .int .i64 0, .int .i64 0, .int .i64 0, .slice none 0 0, .int .i64 0, .int .i64 0, .int .i64 0, .slice none 0 0, .slice none 0 0, .bool false, .slice none 0 0, .slice none 0 0] 81)) := (Below.refl _ _).alloc (Nat.le_refl _) _
  have h0 : RI D (w.alloc (.cells #[.int .i64 0, .int .i64 0, .int .i64 0, .int .i64 0, .int .i64 0, .int .i64 0, .int .i64 0, .int .i64 0, .int .i64 0, .slice none 0 0, .int .i64 0, .bool false, .int .i64 0, .int .i64 0, .int .i64 0, .bool false, .bool false, .int .i64 0, .int .i64 0, .int .i64 0, .slice none 0 0, .int .i64 0, .int .i64 0, .int .i64 0, .slice none 0 0, .slice none 0 0, .bool false, .slice none 0 0, .slice none 0 0] 81)) p l bad := h.ext hB0 h.1 h.2.1
  have s0 : RS w (w.alloc (.cells #[.int .i64 0, .int .i64 0, .int .i64 0, .int .i64 0, .int .i64 0, .int .i64 0, .int .i64 0, .int .i64 0, .int .i64 0, .slice none 0 0, .int .i64 0, .bool false, .int .i64 0, .int .i64 0, .int .i64 0, .bool false, .bool false, .int .i64 0, .int .i64 0, .int .i64 0, .slice none 0 0, .int .i64 0, .int .i64 0, .int .i64 0, .slice none 0 0, .slice none 0 0, .bool false, .slice none 0 0, .slice none 0 0] 81)) p := (RS.refl _ _).alloc _
  have g0 : Hid ((w.alloc (.cells #[.int .i64 0, .int .i64 0, .int .i64 0, .int .i64 0, .int .i64 0, .int .i64 0, .int .i64 0, .int .i64 0, .int .i64 0, .slice none 0 0, .int .i64 0, .bool false, .int .i64 0, .int .i64 0, .int .i64 0, .bool false, .bool false, .int .i64 0, .int .i64 0, .int .i64 0, .slice none 0 0, .int .i64 0, .int .i64 0, .int .i64 0, .slice none 0 0, .slice none 0 0, .bool false, .slice none 0 0, .slice none 0 0] 81)).heap[w.heap.size]? = some (.cells #[.int .i64 0, .int .i64 0, .int .i64 0, .int .i64 0, .int .i64 0, .int .i64 0, .int .i64 0, .int .i64 0, .int .i64 0, .slice none 0 0, .int .i64 0, .bool false, .int .i64 0, .int .i64 0, .int .i64 0, .bool false, .bool false, .int .i64 0, .int .i64 0, .int .i64 0, .slice none 0 0, .int .i64 0, .int .i64 0, .int .i64 0, .slice none 0 0, .slice none 0 0, .bool false, .slice none 0 0, .slice none 0 0] 81 (0, 0))) := heap_alloc_new w _
  have z0 : w.heap.size < (w.alloc (.cells #[.int .i64 0, .int .i64 0, .int .i64 0, .int .i64 0, .int .i64 0, .int .i64 0, .int .i64 0, .int .i64 0, .int .i64 0, .slice none 0 0, .int .i64 0, .bool false, .int .i64 0, .int .i64 0, .int .i64 0, .bool false, .bool false, .int .i64 0, .int .i64 0, .int .i64 0, .slice none 0 0, .int .i64 0, .int .i64 0, .int .i64 0, .slice none 0 0, .slice none 0 0, .bool false, .slice none 0 0, .slice none 0 0] 81)).heap.size := by rw [World.size_alloc]; omega
  have hpq : Hid (p ≠ w.heap.size) := by have := h.1; show p ≠ _; omega
  have hDq : Hid (p < w.heap.size ∧ D ≤ w.heap.size) := ⟨h.1, h.2.1⟩
  clear h hB0
  go_enter Tryz.func49, Tryz.ntmps49
  go_wp2_with fail
  refine (num_i p _ _ _ h0).mono ?_
  rintro e w1 ⟨m0, rfl, _, l1, b1, rd1, h1, t1⟩
  have RD1 := hidI rd1
  clear rd1
  have s1 := s0.trans t1
  have g1 : Hid (w1.heap[w.heap.size]? = some (.cells #[.int .i64 0, .int .i64 0, .int .i64 0, .int .i64 0, .int .i64 0, .int .i64 0, .int .i64 0, .int .i64 0, .int .i64 0, .slice none 0 0, .int .i64 0, .bool false, .int .i64 0, .int .i64 0, .int .i64 0, .bool false, .bool false, .int .i64 0, .int .i64 0, .int .i64 0, .slice none 0 0, .int .i64 0, .int .i64 0, .int .i64 0, .slice none 0 0, .slice none 0 0, .bool false, .slice none 0 0, .slice none 0 0] 81 (0, 0))) := (t1.block _ z0 hpq.out.symm).trans g0.out
  have z1 : w.heap.size < w1.heap.size := Nat.lt_of_lt_of_le z0 t1.size
  clear h0 t1 s0 g0 z0
  go_wp2_with fail
  refine (num_i p _ _ _ h1).mono ?_
  rintro e w2 ⟨m1, rfl, _, l2, b2, rd2, h2, t2⟩
  have RD2 := hidI rd2
  clear rd2
  have s2 := s1.trans t2
  have g2 : Hid (w2.heap[w.heap.size]? = some (.cells #[.int .i64 0, .int .i64 0, .int .i64 0, .int .i64 0, .int .i64 0, .int .i64 0, .int .i64 0, .int .i64 0, .int .i64 0, .slice none 0 0, .int .i64 0, .bool false, .int .i64 0, .int .i64 0, .int .i64 0, .bool false, .bool false, .int .i64 0, .int .i64 0, .int .i64 0, .slice none 0 0, .int .i64 0, .int .i64 0, .int .i64 0, .slice none 0 0, .slice none 0 0, .bool false, .slice none 0 0, .slice none 0 0] 81 (0, 0))) := (t2.block _ z1 hpq.out.symm).trans g1.out
  have z2 : w.heap.size < w2.heap.size := Nat.lt_of_lt_of_le z1 t2.size
  clear h1 t2 s1 g1 z1
  go_wp2_with fail
  refine (cmd_i p _ _ _ h2).mono ?_
  rintro e w3 ⟨cs2, v2, rfl, q2, l3, b3, rd3, h3, t3⟩
  have RD3 := hidI rd3
  clear rd3
  obtain ⟨y2_0, y2_1, y2_2, y2_3, y2_4, y2_5, y2_6, y2_7, y2_8, y2_9, y2_10, y2_11, y2_12, y2_13, y2_14, y2_15, y2_16, y2_17, y2_18, y2_19, y2_20, y2_21, y2_22, y2_23, y2_24, y2_25, y2_26, rfl⟩ := list_len27 cs2 q2.len
  have Q2 := hidI (q2.keptN (lo' := w.heap.size + 1) (Nat.le_refl _) (fun _ _ _ => rfl) z2)
  clear q2
  have s3 := s2.trans t3
  have g3 : Hid (w3.heap[w.heap.size]? = some (.cells #[.int .i64 0, .int .i64 0, .int .i64 0, .int .i64 0, .int .i64 0, .int .i64 0, .int .i64 0, .int .i64 0, .int .i64 0, .slice none 0 0, .int .i64 0, .bool false, .int .i64 0, .int .i64 0, .int .i64 0, .bool false, .bool false, .int .i64 0, .int .i64 0, .int .i64 0, .slice none 0 0, .int .i64 0, .int .i64 0, .int .i64 0, .slice none 0 0, .slice none 0 0, .bool false, .slice none 0 0, .slice none 0 0] 81 (0, 0))) := (t3.block _ z2 hpq.out.symm).trans g2.out
  have z3 : w.heap.size < w3.heap.size := Nat.lt_of_lt_of_le z2 t3.size
  clear h2 t3 s2 g2 z2
  have I0 : Hid ((Tryz.prog.info? 81).map (·.size) = some (#[.int .i64 m0, .int .i64 m1, y2_0, y2_1, y2_2, y2_3, y2_4, y2_5, y2_6, y2_7, y2_8, y2_9, y2_10, y2_11, y2_12, y2_13, y2_14, y2_15, y2_16, y2_17, y2_18, y2_19, y2_20, y2_21, y2_22, y2_23, y2_24, y2_25, y2_26] : Array Value).size) := by show _ = _; kernel_rfl
  have REP : Hid (Rep w3 (NBr (w.heap.size + 1) w3) F_entry [.int .i64 m0, .int .i64 m1, y2_0, y2_1, y2_2, y2_3, y2_4, y2_5, y2_6, y2_7, y2_8, y2_9, y2_10, y2_11, y2_12, y2_13, y2_14, y2_15, y2_16, y2_17, y2_18, y2_19, y2_20, y2_21, y2_22, y2_23, y2_24, y2_25, y2_26] (m0, m1, v2)) := by
    exact mk_entry m0 m1 y2_0 y2_1 y2_2 y2_3 y2_4 y2_5 y2_6 y2_7 y2_8 y2_9 y2_10 y2_11 y2_12 y2_13 y2_14 y2_15 y2_16 y2_17 y2_18 y2_19 y2_20 y2_21 y2_22 y2_23 y2_24 y2_25 y2_26 v2 Q2.out
  have O0 : Hid ((#[.int .i64 m0, .int .i64 m1, y2_0, y2_1, y2_2, y2_3, y2_4, y2_5, y2_6, y2_7, y2_8, y2_9, y2_10, y2_11, y2_12, y2_13, y2_14, y2_15, y2_16, y2_17, y2_18, y2_19, y2_20, y2_21, y2_22, y2_23, y2_24, y2_25, y2_26] : Array Value).all (·.oneCell') = true) := REP.out.all
  have RDA : Hid (Rd F_entry l bad (m0, m1, v2) l3 b3) := (Rd.cat RD1.out (Rd.cat RD2.out RD3.out))
  go_wp2_with (refine wpList_store_row rfl 81 (.tmp 2) (.tmp 9) rfl w.heap.size #[.int .i64 m0, .int .i64 m1, y2_0, y2_1, y2_2, y2_3, y2_4, y2_5, y2_6, y2_7, y2_8, y2_9, y2_10, y2_11, y2_12, y2_13, y2_14, y2_15, y2_16, y2_17, y2_18, y2_19, y2_20, y2_21, y2_22, y2_23, y2_24, y2_25, y2_26] rfl rfl 81 #[.int .i64 0, .int .i64 0, .int .i64 0, .int .i64 0, .int .i64 0, .int .i64 0, .int .i64 0, .int .i64 0, .int .i64 0, .slice none 0 0, .int .i64 0, .bool false, .int .i64 0, .int .i64 0, .int .i64 0, .bool false, .bool false, .int .i64 0, .int .i64 0, .int .i64 0, .slice none 0 0, .int .i64 0, .int .i64 0, .int .i64 0, .slice none 0 0, .slice none 0 0, .bool false, .slice none 0 0, .slice none 0 0] g3.out I0.out rfl O0.out ?_)
  refine bodyPost_ret (v := .agg #[.int .i64 m0, .int .i64 m1, y2_0, y2_1, y2_2, y2_3, y2_4, y2_5, y2_6, y2_7, y2_8, y2_9, y2_10, y2_11, y2_12, y2_13, y2_14, y2_15, y2_16, y2_17, y2_18, y2_19, y2_20, y2_21, y2_22, y2_23, y2_24, y2_25, y2_26]) ?_ rfl ⟨[.int .i64 m0, .int .i64 m1, y2_0, y2_1, y2_2, y2_3, y2_4, y2_5, y2_6, y2_7, y2_8, y2_9, y2_10, y2_11, y2_12, y2_13, y2_14, y2_15, y2_16, y2_17, y2_18, y2_19, y2_20, y2_21, y2_22, y2_23, y2_24, y2_25, y2_26], _, rfl, ?_, l3, b3, RDA.out, ?_, ?_⟩
  · refine results_cell_row Tryz.results49 _ _ w.heap.size 81 _ (0, 0) _ ?_ (setRow_heap w3 w.heap.size _ _ 81 _ g3.out) Tryz.underlying81 rfl I0.out
    rfl
  · exact REP.out.keptN (by simp [World.setRow]) (fun b h1 h2 => setRow_other _ _ _ _ (by omega)) (Nat.le_succ _)
  · exact h3.ext ⟨rfl, rfl, rfl, by simp [World.setRow], fun k hk => setRow_other _ _ _ _ (by omega)⟩ hDq.out.1 hDq.out.2
  · exact s3.setRow (Nat.le_refl _) _


set_option maxHeartbeats 4000000 in
set_option maxRecDepth 100000 in
theorem msg_i {D : Nat} (p : Nat) (l : List UInt8) (bad : Bool) (w : World) (h : RI D w p l bad) : Calls Tryz.prog 31 #[.pointer (some ⟨p, 0, none⟩)] w fun e w' => RecO D w p F_msg l bad e w' := by
  obtain ⟨i0, hi0, hz00, hz10, hz20⟩ := info_parts listEntry_vi
  have HI := hidI hi0
  have HZ0 := hidI hz00
  have HZ1 := hidI hz10
  have HZ2 := hidI hz20
  clear hi0 hz00 hz10 hz20
  have hB0 : Below w.heap.size w (w.alloc (.cells #[.int .i64 0, .int .i64 0, .int .i64 0, .int .i64 0, .int .i64 0, .int .i64 0, .int .i64 0, .bool false, .int .i64 0, .int .i64 0, .int .i64 0, .int .i64 0, .slice none 0 0, .slice none 0 0, .slice none 0 0, .slice none 0 0, .int .i64 0, .int .i64 0, .int .i64 0, .int .i64 0, .int .i64 0, .int .i64 0, .int .i64 0, .slice none 0 0, .int .i64 0, .bool false, .int .i64 0, .int .i64 0, .int .i64 0, .bool false, .bool false, .int .i64 0, .int .i64 0, .int .i64 0, .slice none 0 0, .int .i64 0, .int .i64 0, .int .i64 0, .slice none 0 0, .slice none 0 0, .bool false, .slice none 0 0, .slice none 0 0, .int .i64 0, .int .i64 0, .slice none 0 0] 50)) := (Below.refl _ _).alloc (Nat.le_refl _) _
  have h0 : RI D (w.alloc (.cells #[.int .i64 0, .int .i64 0, .int .i64 0, .int .i64 0, .int .i64 0, .int .i64 0, .int .i64 0, .bool false, .int .i64 0, .int .i64 0, .int .i64 0, .int .i64 0, .slice none 0 0, .slice none 0 0, .slice none 0 0, .slice none 0 0, .int .i64 0, .int .i64 0, .int .i64 0, .int .i64 0, .int .i64 0, .int .i64 0, .int .i64 0, .slice none 0 0, .int .i64 0, .bool false, .int .i64 0, .int .i64 0, .int .i64 0, .bool false, .bool false, .int .i64 0, .int .i64 0, .int .i64 0, .slice none 0 0, .int .i64 0, .int .i64 0, .int .i64 0, .slice none 0 0, .slice none 0 0, .bool false, .slice none 0 0, .slice none 0 0, .int .i64 0, .int .i64 0, .slice none 0 0] 50)) p l bad := h.ext hB0 h.1 h.2.1
  have s0 : RS w (w.alloc (.cells #[.int .i64 0, .int .i64 0, .int .i64 0, .int .i64 0, .int .i64 0, .int .i64 0, .int .i64 0, .bool false, .int .i64 0, .int .i64 0, .int .i64 0, .int .i64 0, .slice none 0 0, .slice none 0 0, .slice none 0 0, .slice none 0 0, .int .i64 0, .int .i64 0, .int .i64 0, .int .i64 0, .int .i64 0, .int .i64 0, .int .i64 0, .slice none 0 0, .int .i64 0, .bool false, .int .i64 0, .int .i64 0, .int .i64 0, .bool false, .bool false, .int .i64 0, .int .i64 0, .int .i64 0, .slice none 0 0, .int .i64 0, .int .i64 0, .int .i64 0, .slice none 0 0, .slice none 0 0, .bool false, .slice none 0 0, .slice none 0 0, .int .i64 0, .int .i64 0, .slice none 0 0] 50)) p := (RS.refl _ _).alloc _
  have g0 : Hid ((w.alloc (.cells #[.int .i64 0, .int .i64 0, .int .i64 0, .int .i64 0, .int .i64 0, .int .i64 0, .int .i64 0, .bool false, .int .i64 0, .int .i64 0, .int .i64 0, .int .i64 0, .slice none 0 0, .slice none 0 0, .slice none 0 0, .slice none 0 0, .int .i64 0, .int .i64 0, .int .i64 0, .int .i64 0, .int .i64 0, .int .i64 0, .int .i64 0, .slice none 0 0, .int .i64 0, .bool false, .int .i64 0, .int .i64 0, .int .i64 0, .bool false, .bool false, .int .i64 0, .int .i64 0, .int .i64 0, .slice none 0 0, .int .i64 0, .int .i64 0, .int .i64 0, .slice none 0 0, .slice none 0 0, .bool false, .slice none 0 0, .slice none 0 0, .int .i64 0, .int .i64 0, .slice none 0 0] 50)).heap[w.heap.size]? = some (.cells #[.int .i64 0, .int .i64 0, .int .i64 0, .int .i64 0, .int .i64 0, .int .i64 0, .int .i64 0, .bool false, .int .i64 0, .int .i64 0, .int .i64 0, .int .i64 0, .slice none 0 0, .slice none 0 0, .slice none 0 0, .slice none 0 0, .int .i64 0, .int .i64 0, .int .i64 0, .int .i64 0, .int .i64 0, .int .i64 0, .int .i64 0, .slice none 0 0, .int .i64 0, .bool false, .int .i64 0, .int .i64 0, .int .i64 0, .bool false, .bool false, .int .i64 0, .int .i64 0, .int .i64 0, .slice none 0 0, .int .i64 0, .int .i64 0, .int .i64 0, .slice none 0 0, .slice none 0 0, .bool false, .slice none 0 0, .slice none 0 0, .int .i64 0, .int .i64 0, .slice none 0 0] 50 (0, 0))) := heap_alloc_new w _
  have z0 : w.heap.size < (w.alloc (.cells #[.int .i64 0, .int .i64 0, .int .i64 0, .int .i64 0, .int .i64 0, .int .i64 0, .int .i64 0, .bool false, .int .i64 0, .int .i64 0, .int .i64 0, .int .i64 0, .slice none 0 0, .slice none 0 0, .slice none 0 0, .slice none 0 0, .int .i64 0, .int .i64 0, .int .i64 0, .int .i64 0, .int .i64 0, .int .i64 0, .int .i64 0, .slice none 0 0, .int .i64 0, .bool false, .int .i64 0, .int .i64 0, .int .i64 0, .bool false, .bool false, .int .i64 0, .int .i64 0, .int .i64 0, .slice none 0 0, .int .i64 0, .int .i64 0, .int .i64 0, .slice none 0 0, .slice none 0 0, .bool false, .slice none 0 0, .slice none 0 0, .int .i64 0, .int .i64 0, .slice none 0 0] 50)).heap.size := by rw [World.size_alloc]; omega
  have hpq : Hid (p ≠ w.heap.size) := by have := h.1; show p ≠ _; omega
  have hDq : Hid (p < w.heap.size ∧ D ≤ w.heap.size) := ⟨h.1, h.2.1⟩
  clear h hB0
  go_enter Tryz.func31, Tryz.ntmps31
  go_wp2_with fail
  refine (num_i p _ _ _ h0).mono ?_
  rintro e w1 ⟨m0, rfl, _, l1, b1, rd1, h1, t1⟩
  have RD1 := hidI rd1
  clear rd1
  have s1 := s0.trans t1
  have g1 : Hid (w1.heap[w.heap.size]? = some (.cells #[.int .i64 0, .int .i64 0, .int .i64 0, .int .i64 0, .int .i64 0, .int .i64 0, .int .i64 0, .bool false, .int .i64 0, .int .i64 0, .int .i64 0, .int .i64 0, .slice none 0 0, .slice none 0 0, .slice none 0 0, .slice none 0 0, .int .i64 0, .int .i64 0, .int .i64 0, .int .i64 0, .int .i64 0, .int .i64 0, .int .i64 0, .slice none 0 0, .int .i64 0, .bool false, .int .i64 0, .int .i64 0, .int .i64 0, .bool false, .bool false, .int .i64 0, .int .i64 0, .int .i64 0, .slice none 0 0, .int .i64 0, .int .i64 0, .int .i64 0, .slice none 0 0, .slice none 0 0, .bool false, .slice none 0 0, .slice none 0 0, .int .i64 0, .int .i64 0, .slice none 0 0] 50 (0, 0))) := (t1.block _ z0 hpq.out.symm).trans g0.out
  have z1 : w.heap.size < w1.heap.size := Nat.lt_of_lt_of_le z0 t1.size
  clear h0 t1 s0 g0 z0
  go_wp2_with fail
  refine (num_i p _ _ _ h1).mono ?_
  rintro e w2 ⟨m1, rfl, _, l2, b2, rd2, h2, t2⟩
  have RD2 := hidI rd2
  clear rd2
  have s2 := s1.trans t2
  have g2 : Hid (w2.heap[w.heap.size]? = some (.cells #[.int .i64 0, .int .i64 0, .int .i64 0, .int .i64 0, .int .i64 0, .int .i64 0, .int .i64 0, .bool false, .int .i64 0, .int .i64 0, .int .i64 0, .int .i64 0, .slice none 0 0, .slice none 0 0, .slice none 0 0, .slice none 0 0, .int .i64 0, .int .i64 0, .int .i64 0, .int .i64 0, .int .i64 0, .int .i64 0, .int .i64 0, .slice none 0 0, .int .i64 0, .bool false, .int .i64 0, .int .i64 0, .int .i64 0, .bool false, .bool false, .int .i64 0, .int .i64 0, .int .i64 0, .slice none 0 0, .int .i64 0, .int .i64 0, .int .i64 0, .slice none 0 0, .slice none 0 0, .bool false, .slice none 0 0, .slice none 0 0, .int .i64 0, .int .i64 0, .slice none 0 0] 50 (0, 0))) := (t2.block _ z1 hpq.out.symm).trans g1.out
  have z2 : w.heap.size < w2.heap.size := Nat.lt_of_lt_of_le z1 t2.size
  clear h1 t2 s1 g1 z1
  go_wp2_with fail
  refine (num_i p _ _ _ h2).mono ?_
  rintro e w3 ⟨m2, rfl, _, l3, b3, rd3, h3, t3⟩
  have RD3 := hidI rd3
  clear rd3
  have s3 := s2.trans t3
  have g3 : Hid (w3.heap[w.heap.size]? = some (.cells #[.int .i64 0, .int .i64 0, .int .i64 0, .int .i64 0, .int .i64 0, .int .i64 0, .int .i64 0, .bool false, .int .i64 0, .int .i64 0, .int .i64 0, .int .i64 0, .slice none 0 0, .slice none 0 0, .slice none 0 0, .slice none 0 0, .int .i64 0, .int .i64 0, .int .i64 0, .int .i64 0, .int .i64 0, .int .i64 0, .int .i64 0, .slice none 0 0, .int .i64 0, .bool false, .int .i64 0, .int .i64 0, .int .i64 0, .bool false, .bool false, .int .i64 0, .int .i64 0, .int .i64 0, .slice none 0 0, .int .i64 0, .int .i64 0, .int .i64 0, .slice none 0 0, .slice none 0 0, .bool false, .slice none 0 0, .slice none 0 0, .int .i64 0, .int .i64 0, .slice none 0 0] 50 (0, 0))) := (t3.block _ z2 hpq.out.symm).trans g2.out
  have z3 : w.heap.size < w3.heap.size := Nat.lt_of_lt_of_le z2 t3.size
  clear h2 t3 s2 g2 z2
  go_wp2_with fail
  refine (num_i p _ _ _ h3).mono ?_
  rintro e w4 ⟨m3, rfl, _, l4, b4, rd4, h4, t4⟩
  have RD4 := hidI rd4
  clear rd4
  have s4 := s3.trans t4
  have g4 : Hid (w4.heap[w.heap.size]? = some (.cells #[.int .i64 0, .int .i64 0, .int .i64 0, .int .i64 0, .int .i64 0, .int .i64 0, .int .i64 0, .bool false, .int .i64 0, .int .i64 0, .int .i64 0, .int .i64 0, .slice none 0 0, .slice none 0 0, .slice none 0 0, .slice none 0 0, .int .i64 0, .int .i64 0, .int .i64 0, .int .i64 0, .int .i64 0, .int .i64 0, .int .i64 0, .slice none 0 0, .int .i64 0, .bool false, .int .i64 0, .int .i64 0, .int .i64 0, .bool false, .bool false, .int .i64 0, .int .i64 0, .int .i64 0, .slice none 0 0, .int .i64 0, .int .i64 0, .int .i64 0, .slice none 0 0, .slice none 0 0, .bool false, .slice none 0 0, .slice none 0 0, .int .i64 0, .int .i64 0, .slice none 0 0] 50 (0, 0))) := (t4.block _ z3 hpq.out.symm).trans g3.out
  have z4 : w.heap.size < w4.heap.size := Nat.lt_of_lt_of_le z3 t4.size
  clear h3 t4 s3 g3 z3
  go_wp2_with fail
  refine (num_i p _ _ _ h4).mono ?_
  rintro e w5 ⟨m4, rfl, _, l5, b5, rd5, h5, t5⟩
  have RD5 := hidI rd5
  clear rd5
  have s5 := s4.trans t5
  have g5 : Hid (w5.heap[w.heap.size]? = some (.cells #[.int .i64 0, .int .i64 0, .int .i64 0, .int .i64 0, .int .i64 0, .int .i64 0, .int .i64 0, .bool false, .int .i64 0, .int .i64 0, .int .i64 0, .int .i64 0, .slice none 0 0, .slice none 0 0, .slice none 0 0, .slice none 0 0, .int .i64 0, .int .i64 0, .int .i64 0, .int .i64 0, .int .i64 0, .int .i64 0, .int .i64 0, .slice none 0 0, .int .i64 0, .bool false, .int .i64 0, .int .i64 0, .int .i64 0, .bool false, .bool false, .int .i64 0, .int .i64 0, .int .i64 0, .slice none 0 0, .int .i64 0, .int .i64 0, .int .i64 0, .slice none 0 0, .slice none 0 0, .bool false, .slice none 0 0, .slice none 0 0, .int .i64 0, .int .i64 0, .slice none 0 0] 50 (0, 0))) := (t5.block _ z4 hpq.out.symm).trans g4.out
  have z5 : w.heap.size < w5.heap.size := Nat.lt_of_lt_of_le z4 t5.size
  clear h4 t5 s4 g4 z4
  go_wp2_with fail
  refine (num_i p _ _ _ h5).mono ?_
  rintro e w6 ⟨m5, rfl, _, l6, b6, rd6, h6, t6⟩
  have RD6 := hidI rd6
  clear rd6
  have s6 := s5.trans t6
  have g6 : Hid (w6.heap[w.heap.size]? = some (.cells #[.int .i64 0, .int .i64 0, .int .i64 0, .int .i64 0, .int .i64 0, .int .i64 0, .int .i64 0, .bool false, .int .i64 0, .int .i64 0, .int .i64 0, .int .i64 0, .slice none 0 0, .slice none 0 0, .slice none 0 0, .slice none 0 0, .int .i64 0, .int .i64 0, .int .i64 0, .int .i64 0, .int .i64 0, .int .i64 0, .int .i64 0, .slice none 0 0, .int .i64 0, .bool false, .int .i64 0, .int .i64 0, .int .i64 0, .bool false, .bool false, .int .i64 0, .int .i64 0, .int .i64 0, .slice none 0 0, .int .i64 0, .int .i64 0, .int .i64 0, .slice none 0 0, .slice none 0 0, .bool false, .slice none 0 0, .slice none 0 0, .int .i64 0, .int .i64 0, .slice none 0 0] 50 (0, 0))) := (t6.block _ z5 hpq.out.symm).trans g5.out
  have z6 : w.heap.size < w6.heap.size := Nat.lt_of_lt_of_le z5 t6.size
  clear h5 t6 s5 g5 z5
  go_wp2_with fail
  refine (num_i p _ _ _ h6).mono ?_
  rintro e w7 ⟨m6, rfl, _, l7, b7, rd7, h7, t7⟩
  have RD7 := hidI rd7
  clear rd7
  have s7 := s6.trans t7
  have g7 : Hid (w7.heap[w.heap.size]? = some (.cells #[.int .i64 0, .int .i64 0, .int .i64 0, .int .i64 0, .int .i64 0, .int .i64 0, .int .i64 0, .bool false, .int .i64 0, .int .i64 0, .int .i64 0, .int .i64 0, .slice none 0 0, .slice none 0 0, .slice none 0 0, .slice none 0 0, .int .i64 0, .int .i64 0, .int .i64 0, .int .i64 0, .int .i64 0, .int .i64 0, .int .i64 0, .slice none 0 0, .int .i64 0, .bool false, .int .i64 0, .int .i64 0, .int .i64 0, .bool false, .bool false, .int .i64 0, .int .i64 0, .int .i64 0, .slice none 0 0, .int .i64 0, .int .i64 0, .int .i64 0, .slice none 0 0, .slice none 0 0, .bool false, .slice none 0 0, .slice none 0 0, .int .i64 0, .int .i64 0, .slice none 0 0] 50 (0, 0))) := (t7.block _ z6 hpq.out.symm).trans g6.out
  have z7 : w.heap.size < w7.heap.size := Nat.lt_of_lt_of_le z6 t7.size
  clear h6 t7 s6 g6 z6
  go_wp2_with fail
  refine (flag_i p _ _ _ h7).mono ?_
  rintro e w8 ⟨m7, rfl, l8, b8, rd8, h8, t8⟩
  have RD8 := hidI rd8
  clear rd8
  have s8 := s7.trans t8
  have g8 : Hid (w8.heap[w.heap.size]? = some (.cells #[.int .i64 0, .int .i64 0, .int .i64 0, .int .i64 0, .int .i64 0, .int .i64 0, .int .i64 0, .bool false, .int .i64 0, .int .i64 0, .int .i64 0, .int .i64 0, .slice none 0 0, .slice none 0 0, .slice none 0 0, .slice none 0 0, .int .i64 0, .int .i64 0, .int .i64 0, .int .i64 0, .int .i64 0, .int .i64 0, .int .i64 0, .slice none 0 0, .int .i64 0, .bool false, .int .i64 0, .int .i64 0, .int .i64 0, .bool false, .bool false, .int .i64 0, .int .i64 0, .int .i64 0, .slice none 0 0, .int .i64 0, .int .i64 0, .int .i64 0, .slice none 0 0, .slice none 0 0, .bool false, .slice none 0 0, .slice none 0 0, .int .i64 0, .int .i64 0, .slice none 0 0] 50 (0, 0))) := (t8.block _ z7 hpq.out.symm).trans g7.out
  have z8 : w.heap.size < w8.heap.size := Nat.lt_of_lt_of_le z7 t8.size
  clear h7 t8 s7 g7 z7
  go_wp2_with fail
  refine (num_i p _ _ _ h8).mono ?_
  rintro e w9 ⟨m8, rfl, _, l9, b9, rd9, h9, t9⟩
  have RD9 := hidI rd9
  clear rd9
  have s9 := s8.trans t9
  have g9 : Hid (w9.heap[w.heap.size]? = some (.cells #[.int .i64 0, .int .i64 0, .int .i64 0, .int .i64 0, .int .i64 0, .int .i64 0, .int .i64 0, .bool false, .int .i64 0, .int .i64 0, .int .i64 0, .int .i64 0, .slice none 0 0, .slice none 0 0, .slice none 0 0, .slice none 0 0, .int .i64 0, .int .i64 0, .int .i64 0, .int .i64 0, .int .i64 0, .int .i64 0, .int .i64 0, .slice none 0 0, .int .i64 0, .bool false, .int .i64 0, .int .i64 0, .int .i64 0, .bool false, .bool false, .int .i64 0, .int .i64 0, .int .i64 0, .slice none 0 0, .int .i64 0, .int .i64 0, .int .i64 0, .slice none 0 0, .slice none 0 0, .bool false, .slice none 0 0, .slice none 0 0, .int .i64 0, .int .i64 0, .slice none 0 0] 50 (0, 0))) := (t9.block _ z8 hpq.out.symm).trans g8.out
  have z9 : w.heap.size < w9.heap.size := Nat.lt_of_lt_of_le z8 t9.size
  clear h8 t9 s8 g8 z8
  go_wp2_with fail
  refine (num_i p _ _ _ h9).mono ?_
  rintro e w10 ⟨m9, rfl, _, l10, b10, rd10, h10, t10⟩
  have RD10 := hidI rd10
  clear rd10
  have s10 := s9.trans t10
  have g10 : Hid (w10.heap[w.heap.size]? = some (.cells #[.int .i64 0, .int .i64 0, .int .i64 0, .int .i64 0, .int .i64 0, .int .i64 0, .int .i64 0, .bool false, .int .i64 0, .int .i64 0, .int .i64 0, .int .i64 0, .slice none 0 0, .slice none 0 0, .slice none 0 0, .slice none 0 0, .int .i64 0, .int .i64 0, .int .i64 0, .int .i64 0, .int .i64 0, .int .i64 0, .int .i64 0, .slice none 0 0, .int .i64 0, .bool false, .int .i64 0, .int .i64 0, .int .i64 0, .bool false, .bool false, .int .i64 0, .int .i64 0, .int .i64 0, .slice none 0 0, .int .i64 0, .int .i64 0, .int .i64 0, .slice none 0 0, .slice none 0 0, .bool false, .slice none 0 0, .slice none 0 0, .int .i64 0, .int .i64 0, .slice none 0 0] 50 (0, 0))) := (t10.block _ z9 hpq.out.symm).trans g9.out
  have z10 : w.heap.size < w10.heap.size := Nat.lt_of_lt_of_le z9 t10.size
  clear h9 t10 s9 g9 z9
  go_wp2_with fail
  refine (num_i p _ _ _ h10).mono ?_
  rintro e w11 ⟨m10, rfl, _, l11, b11, rd11, h11, t11⟩
  have RD11 := hidI rd11
  clear rd11
  have s11 := s10.trans t11
  have g11 : Hid (w11.heap[w.heap.size]? = some (.cells #[.int .i64 0, .int .i64 0, .int .i64 0, .int .i64 0, .int .i64 0, .int .i64 0, .int .i64 0, .bool false, .int .i64 0, .int .i64 0, .int .i64 0, .int .i64 0, .slice none 0 0, .slice none 0 0, .slice none 0 0, .slice none 0 0, .int .i64 0, .int .i64 0, .int .i64 0, .int .i64 0, .int .i64 0, .int .i64 0, .int .i64 0, .slice none 0 0, .int .i64 0, .bool false, .int .i64 0, .int .i64 0, .int .i64 0, .bool false, .bool false, .int .i64 0, .int .i64 0, .int .i64 0, .slice none 0 0, .int .i64 0, .int .i64 0, .int .i64 0, .slice none 0 0, .slice none 0 0, .bool false, .slice none 0 0, .slice none 0 0, .int .i64 0, .int .i64 0, .slice none 0 0] 50 (0, 0))) := (t11.block _ z10 hpq.out.symm).trans g10.out
  have z11 : w.heap.size < w11.heap.size := Nat.lt_of_lt_of_le z10 t11.size
  clear h10 t11 s10 g10 z10
  go_wp2_with fail
  refine (num_i p _ _ _ h11).mono ?_
  rintro e w12 ⟨m11, rfl, _, l12, b12, rd12, h12, t12⟩
  have RD12 := hidI rd12
  clear rd12
  have s12 := s11.trans t12
  have g12 : Hid (w12.heap[w.heap.size]? = some (.cells #[.int .i64 0, .int .i64 0, .int .i64 0, .int .i64 0, .int .i64 0, .int .i64 0, .int .i64 0, .bool false, .int .i64 0, .int .i64 0, .int .i64 0, .int .i64 0, .slice none 0 0, .slice none 0 0, .slice none 0 0, .slice none 0 0, .int .i64 0, .int .i64 0, .int .i64 0, .int .i64 0, .int .i64 0, .int .i64 0, .int .i64 0, .slice none 0 0, .int .i64 0, .bool false, .int .i64 0, .int .i64 0, .int .i64 0, .bool false, .bool false, .int .i64 0, .int .i64 0, .int .i64 0, .slice none 0 0, .int .i64 0, .int .i64 0, .int .i64 0, .slice none 0 0, .slice none 0 0, .bool false, .slice none 0 0, .slice none 0 0, .int .i64 0, .int .i64 0, .slice none 0 0] 50 (0, 0))) := (t12.block _ z11 hpq.out.symm).trans g11.out
  have z12 : w.heap.size < w12.heap.size := Nat.lt_of_lt_of_le z11 t12.size
  clear h11 t12 s11 g11 z11
  obtain ⟨q1, hq1⟩ : ∃ q1, Hid (w12.heap.size = q1) := ⟨_, hidI rfl⟩
  have I0 : Hid ((Tryz.prog.info? 50).map (·.size) = some (#[.int .i64 m0, .int .i64 m1, .int .i64 m2, .int .i64 m3, .int .i64 m4, .int .i64 m5, .int .i64 m6, .bool m7, .int .i64 m8, .int .i64 m9, .int .i64 m10, .int .i64 m11, .slice none 0 0, .slice none 0 0, .slice none 0 0, .slice none 0 0, .int .i64 0, .int .i64 0, .int .i64 0, .int .i64 0, .int .i64 0, .int .i64 0, .int .i64 0, .slice none 0 0, .int .i64 0, .bool false, .int .i64 0, .int .i64 0, .int .i64 0, .bool false, .bool false, .int .i64 0, .int .i64 0, .int .i64 0, .slice none 0 0, .int .i64 0, .int .i64 0, .int .i64 0, .slice none 0 0, .slice none 0 0, .bool false, .slice none 0 0, .slice none 0 0, .int .i64 0, .int .i64 0, .slice none 0 0] : Array Value).size) := by show _ = _; kernel_rfl
  have OP : Hid (∀ c ∈ ([.int .i64 m0, .int .i64 m1, .int .i64 m2, .int .i64 m3, .int .i64 m4, .int .i64 m5, .int .i64 m6, .bool m7, .int .i64 m8, .int .i64 m9, .int .i64 m10, .int .i64 m11] : List Value), c.oneCell' = true) := by
    intro c hc
    simp only [List.mem_cons, List.not_mem_nil, or_false] at hc
    rcases hc with rfl | rfl | rfl | rfl | rfl | rfl | rfl | rfl | rfl | rfl | rfl | rfl
    · exact rfl
    · exact rfl
    · exact rfl
    · exact rfl
    · exact rfl
    · exact rfl
    · exact rfl
    · exact rfl
    · exact rfl
    · exact rfl
    · exact rfl
    · exact rfl
  have O0 : Hid ((#[.int .i64 m0, .int .i64 m1, .int .i64 m2, .int .i64 m3, .int .i64 m4, .int .i64 m5, .int .i64 m6, .bool m7, .int .i64 m8, .int .i64 m9, .int .i64 m10, .int .i64 m11, .slice none 0 0, .slice none 0 0, .slice none 0 0, .slice none 0 0, .int .i64 0, .int .i64 0, .int .i64 0, .int .i64 0, .int .i64 0, .int .i64 0, .int .i64 0, .slice none 0 0, .int .i64 0, .bool false, .int .i64 0, .int .i64 0, .int .i64 0, .bool false, .bool false, .int .i64 0, .int .i64 0, .int .i64 0, .slice none 0 0, .int .i64 0, .int .i64 0, .int .i64 0, .slice none 0 0, .slice none 0 0, .bool false, .slice none 0 0, .slice none 0 0, .int .i64 0, .int .i64 0, .slice none 0 0] : Array Value).all (·.oneCell') = true) := by
    refine all_oneCell_toArray (cs := [.int .i64 m0, .int .i64 m1, .int .i64 m2, .int .i64 m3, .int .i64 m4, .int .i64 m5, .int .i64 m6, .bool m7, .int .i64 m8, .int .i64 m9, .int .i64 m10, .int .i64 m11, .slice none 0 0, .slice none 0 0, .slice none 0 0, .slice none 0 0, .int .i64 0, .int .i64 0, .int .i64 0, .int .i64 0, .int .i64 0, .int .i64 0, .int .i64 0, .slice none 0 0, .int .i64 0, .bool false, .int .i64 0, .int .i64 0, .int .i64 0, .bool false, .bool false, .int .i64 0, .int .i64 0, .int .i64 0, .slice none 0 0, .int .i64 0, .int .i64 0, .int .i64 0, .slice none 0 0, .slice none 0 0, .bool false, .slice none 0 0, .slice none 0 0, .int .i64 0, .int .i64 0, .slice none 0 0]) (fun c hc => ?_)
    rcases List.mem_append.1 (show c ∈ [.int .i64 m0, .int .i64 m1, .int .i64 m2, .int .i64 m3, .int .i64 m4, .int .i64 m5, .int .i64 m6, .bool m7, .int .i64 m8, .int .i64 m9, .int .i64 m10, .int .i64 m11] ++ [.slice none 0 0, .slice none 0 0, .slice none 0 0, .slice none 0 0, .int .i64 0, .int .i64 0, .int .i64 0, .int .i64 0, .int .i64 0, .int .i64 0, .int .i64 0, .slice none 0 0, .int .i64 0, .bool false, .int .i64 0, .int .i64 0, .int .i64 0, .bool false, .bool false, .int .i64 0, .int .i64 0, .int .i64 0, .slice none 0 0, .int .i64 0, .int .i64 0, .int .i64 0, .slice none 0 0, .slice none 0 0, .bool false, .slice none 0 0, .slice none 0 0, .int .i64 0, .int .i64 0, .slice none 0 0] from hc) with h1 | h1
    · exact OP.out c h1
    · simp only [List.mem_cons, List.not_mem_nil, or_false] at h1
      rcases h1 with rfl | rfl | rfl | rfl | rfl | rfl | rfl | rfl | rfl | rfl | rfl | rfl | rfl | rfl | rfl | rfl | rfl | rfl | rfl | rfl | rfl | rfl | rfl | rfl | rfl | rfl | rfl | rfl | rfl | rfl | rfl | rfl | rfl | rfl <;> rfl
  go_wp2_with (refine wpList_store_rowF rfl 50 (.tmp 3) (.tmp 30) rfl w12.heap.size #[.int .i64 m0, .int .i64 m1, .int .i64 m2, .int .i64 m3, .int .i64 m4, .int .i64 m5, .int .i64 m6, .bool m7, .int .i64 m8, .int .i64 m9, .int .i64 m10, .int .i64 m11, .slice none 0 0, .slice none 0 0, .slice none 0 0, .slice none 0 0, .int .i64 0, .int .i64 0, .int .i64 0, .int .i64 0, .int .i64 0, .int .i64 0, .int .i64 0, .slice none 0 0, .int .i64 0, .bool false, .int .i64 0, .int .i64 0, .int .i64 0, .bool false, .bool false, .int .i64 0, .int .i64 0, .int .i64 0, .slice none 0 0, .int .i64 0, .int .i64 0, .int .i64 0, .slice none 0 0, .slice none 0 0, .bool false, .slice none 0 0, .slice none 0 0, .int .i64 0, .int .i64 0, .slice none 0 0] rfl rfl 50 #[.int .i64 0, .int .i64 0, .int .i64 0, .int .i64 0, .int .i64 0, .int .i64 0, .int .i64 0, .bool false, .int .i64 0, .int .i64 0, .int .i64 0, .int .i64 0, .slice none 0 0, .slice none 0 0, .slice none 0 0, .slice none 0 0, .int .i64 0, .int .i64 0, .int .i64 0, .int .i64 0, .int .i64 0, .int .i64 0, .int .i64 0, .slice none 0 0, .int .i64 0, .bool false, .int .i64 0, .int .i64 0, .int .i64 0, .bool false, .bool false, .int .i64 0, .int .i64 0, .int .i64 0, .slice none 0 0, .int .i64 0, .int .i64 0, .int .i64 0, .slice none 0 0, .slice none 0 0, .bool false, .slice none 0 0, .slice none 0 0, .int .i64 0, .int .i64 0, .slice none 0 0] (heap_alloc_new w12 (.cells #[.int .i64 0, .int .i64 0, .int .i64 0, .int .i64 0, .int .i64 0, .int .i64 0, .int .i64 0, .bool false, .int .i64 0, .int .i64 0, .int .i64 0, .int .i64 0, .slice none 0 0, .slice none 0 0, .slice none 0 0, .slice none 0 0, .int .i64 0, .int .i64 0, .int .i64 0, .int .i64 0, .int .i64 0, .int .i64 0, .int .i64 0, .slice none 0 0, .int .i64 0, .bool false, .int .i64 0, .int .i64 0, .int .i64 0, .bool false, .bool false, .int .i64 0, .int .i64 0, .int .i64 0, .slice none 0 0, .int .i64 0, .int .i64 0, .int .i64 0, .slice none 0 0, .slice none 0 0, .bool false, .slice none 0 0, .slice none 0 0, .int .i64 0, .int .i64 0, .slice none 0 0] 50)) I0.out rfl O0.out ?nexA)
  case nexA =>
    intro wA hwAh
    have hwA := hwAh.out
    have hBA : Below w12.heap.size w12 wA := by rw [hwA]; exact ((Below.refl _ _).alloc (Nat.le_refl _) _).trans ⟨rfl, rfl, rfl, by simp [World.setRow], fun k hk => setRow_other _ _ _ _ (by omega)⟩
    have gA0 : wA.heap[w12.heap.size]? = some (.cells ([.int .i64 m0, .int .i64 m1, .int .i64 m2, .int .i64 m3, .int .i64 m4, .int .i64 m5, .int .i64 m6, .bool m7, .int .i64 m8, .int .i64 m9, .int .i64 m10, .int .i64 m11, .slice none 0 0, .slice none 0 0, .slice none 0 0, .slice none 0 0, .int .i64 0, .int .i64 0, .int .i64 0, .int .i64 0, .int .i64 0, .int .i64 0, .int .i64 0, .slice none 0 0, .int .i64 0, .bool false, .int .i64 0, .int .i64 0, .int .i64 0, .bool false, .bool false, .int .i64 0, .int .i64 0, .int .i64 0, .slice none 0 0, .int .i64 0, .int .i64 0, .int .i64 0, .slice none 0 0, .slice none 0 0, .bool false, .slice none 0 0, .slice none 0 0, .int .i64 0, .int .i64 0, .slice none 0 0] : List Value).toArray 50 (0, 0)) := by rw [hwA]; exact setRow_heap _ _ _ _ 50 _ (heap_alloc_new w12 _)
    have zA : w12.heap.size < wA.heap.size := (Array.getElem?_eq_some_iff.1 gA0).1
    have hA := h12.ext hBA h12.1 h12.2.1
    have GA := hidI ((hBA.block _ z12).trans g12.out)
    have SA := hidI (s12.ext (hBA.mono s12.size))
    have zq : w.heap.size < q1 := by have := hq1.out; omega
    rw [hq1.out] at gA0 zA
    simp only [hq1.out]
    have G1A := hidI gA0
    have ZA := hidI zA
    clear hwA hwAh hBA gA0 zA h12 s12 g12 z12
    go_wp2_with fail
    refine (count_i p _ _ wA hA).mono ?_
    rintro e wB ⟨N, l1, b1, rfl, hN, hcn, hB, tB⟩
    have HC := hidI hcn
    have GB := hidI ((tB.block _ (by have := ZA.out; omega) hpq.out.symm).trans GA.out)
    have G1B := hidI ((tB.block _ ZA.out (by have := hDq.out.1; omega)).trans G1A.out)
    have ZB := hidI (Nat.lt_of_lt_of_le ZA.out tB.size)
    have SB := hidI (SA.out.trans tB)
    have hpB : p < wB.heap.size := hB.1
    have hDB : D ≤ q1 := by have := hDq.out.2; omega
    have hpq1 : p < q1 := by have := hDq.out.1; omega
    clear hcn tB hA
    go_wp2
    go_loopw [5] (fun i wr => ∃ (k : Nat) (v : Value), k ≤ N ∧ i = .int .i64 k ∧ Hid (wr.heap[q1]? = some (.cells ([.int .i64 m0, .int .i64 m1, .int .i64 m2, .int .i64 m3, .int .i64 m4, .int .i64 m5, .int .i64 m6, .bool m7, .int .i64 m8, .int .i64 m9, .int .i64 m10, .int .i64 m11, v, .slice none 0 0, .slice none 0 0, .slice none 0 0, .int .i64 0, .int .i64 0, .int .i64 0, .int .i64 0, .int .i64 0, .int .i64 0, .int .i64 0, .slice none 0 0, .int .i64 0, .bool false, .int .i64 0, .int .i64 0, .int .i64 0, .bool false, .bool false, .int .i64 0, .int .i64 0, .int .i64 0, .slice none 0 0, .int .i64 0, .int .i64 0, .int .i64 0, .slice none 0 0, .slice none 0 0, .bool false, .slice none 0 0, .slice none 0 0, .int .i64 0, .int .i64 0, .slice none 0 0] : List Value).toArray 50 (0, 0))) ∧ LoopJ D wB p q1 F_entry 81 29 k l1 b1 v wr) (fun i _ => N - (intOf i).toNat)
    case atStart => exact ⟨0, .slice none 0 0, Nat.zero_le _, rfl, G1B, [], [], l1, b1, World.ownsRow_nil _ _ _ _, ⟨rfl, rfl, rfl, Nat.le_refl _, fun _ _ _ _ => rfl⟩, hB, RdN.zero _ _ _, Elems.nil _ _ _ _⟩
    case round =>
      obtain ⟨k, v, hk, rfl, G1, xs, vsL, lk, bk, ok, sk, rk, rdk, hel⟩ := hrel
      have RDK := hidI rdk
      have HEL := hidI hel
      have SK := hidI sk
      have OK := hidI ok
      have hq1r : q1 < wr.heap.size := (Array.getElem?_eq_some_iff.1 G1.out).1
      have HQR := hidI hq1r
      clear rdk hel sk ok
      by_cases hlt : k < N
      · have hcF : wr.cell? ⟨q1, 12, none⟩ = some v := by rw [cell_of_row wr q1 12 _ 50 (0, 0) G1.out]; rfl
        have hBd : Below wr.heap.size wr wr.drew := (Below.refl _ _).drew
        have RK := hidI (rk.ext hBd rk.1 rk.2.1)
        clear rk
        go_wp2
        go_region_law (first | (refine step_append_own _ rfl (.tmp 39) (.tmp 42) 28 rfl wB.heap.size 81 i0 (.agg #[.int .i64 0, .int .i64 0, .int .i64 0, .int .i64 0, .int .i64 0, .int .i64 0, .int .i64 0, .int .i64 0, .int .i64 0, .slice none 0 0, .int .i64 0, .bool false, .int .i64 0, .int .i64 0, .int .i64 0, .bool false, .bool false, .int .i64 0, .int .i64 0, .int .i64 0, .slice none 0 0, .int .i64 0, .int .i64 0, .int .i64 0, .slice none 0 0, .slice none 0 0, .bool false, .slice none 0 0, .slice none 0 0]) 29 320 Tryz.underlying28 HI.out HZ0.out HZ1.out HZ2.out rfl (by decide) v k xs rfl OKL.out ⟨wa.heap.size, 0, none⟩ 1 1 (#[z0_0, z0_1, z0_2, z0_3, z0_4, z0_5, z0_6, z0_7, z0_8, z0_9, z0_10, z0_11, z0_12, z0_13, z0_14, z0_15, z0_16, z0_17, z0_18, z0_19, z0_20, z0_21, z0_22, z0_23, z0_24, z0_25, z0_26, z0_27, z0_28] : Array Value).toList rfl rfl (fun j u hj => cell_news wa _ _ j u hj) OE.out (by unfold maxLen; omega) (by omega) HSL.out ?_; intro v3 w3 ho3 hg3 hw3; have G3 := hidI (loop_g3 (es := [z0_0, z0_1, z0_2, z0_3, z0_4, z0_5, z0_6, z0_7, z0_8, z0_9, z0_10, z0_11, z0_12, z0_13, z0_14, z0_15, z0_16, z0_17, z0_18, z0_19, z0_20, z0_21, z0_22, z0_23, z0_24, z0_25, z0_26, z0_27, z0_28]) OK.out G1.out (by decide) hpq1 TL.out hg3); have hcG : w3.cell? ⟨q1, 12, none⟩ = some v := (by rw [cell_of_row w3 q1 12 _ 50 (0, 0) G3.out]; rfl); have hfG : w3.frozen? ⟨q1, 12, none⟩ = false := (by simp [World.frozen?, G3.out]); obtain ⟨g3, c3, rfl⟩ := row_slice ho3; have HO3 := hidI ho3; have HG3 := hidI hg3; have HW3 := hidI hw3; clear ho3 hg3 hw3) | (go_simp; refine (entry_i p _ _ _ RK.out).mono ?_; rintro e wa ⟨cs0e, v0e, rfl, q0e, l0e, b0e, rd0e, r0e, t0e⟩; have R0e := hidI r0e; have T0e := hidI t0e; have RD0e := hidI rd0e; have hcF0 : wa.cell? ⟨q1, 12, none⟩ = some v := (World.cell?_of_block (a := ⟨q1, 12, none⟩) (t0e.block q1 (by have := HQR.out; exact this) (by omega))).trans hcF; have QE0 := hidI q0e; obtain ⟨z0_0, z0_1, z0_2, z0_3, z0_4, z0_5, z0_6, z0_7, z0_8, z0_9, z0_10, z0_11, z0_12, z0_13, z0_14, z0_15, z0_16, z0_17, z0_18, z0_19, z0_20, z0_21, z0_22, z0_23, z0_24, z0_25, z0_26, z0_27, z0_28, rfl⟩ := list_len29 cs0e q0e.len; clear q0e; clear r0e t0e rd0e; have TL : Hid (RS wr wa p) := (rs_drew wr p).trans T0e.out; have HXE : Hid (Rep wa (NBr wr.heap.size wa) F_entry [z0_0, z0_1, z0_2, z0_3, z0_4, z0_5, z0_6, z0_7, z0_8, z0_9, z0_10, z0_11, z0_12, z0_13, z0_14, z0_15, z0_16, z0_17, z0_18, z0_19, z0_20, z0_21, z0_22, z0_23, z0_24, z0_25, z0_26, z0_27, z0_28] v0e) := QE0.out; have RDX : Hid (Rd F_entry lk bk v0e l0e b0e) := RD0e.out; have OKL := hidI ((ownsRow_rs OK.out TL.out hpB).alloc (.cells #[z0_0, z0_1, z0_2, z0_3, z0_4, z0_5, z0_6, z0_7, z0_8, z0_9, z0_10, z0_11, z0_12, z0_13, z0_14, z0_15, z0_16, z0_17, z0_18, z0_19, z0_20, z0_21, z0_22, z0_23, z0_24, z0_25, z0_26, z0_27, z0_28] 81)); have HSL : Hid (wB.heap.size ≤ (wa.alloc (.cells #[z0_0, z0_1, z0_2, z0_3, z0_4, z0_5, z0_6, z0_7, z0_8, z0_9, z0_10, z0_11, z0_12, z0_13, z0_14, z0_15, z0_16, z0_17, z0_18, z0_19, z0_20, z0_21, z0_22, z0_23, z0_24, z0_25, z0_26, z0_27, z0_28] 81)).heap.size) := (by show _ ≤ _; rw [World.size_alloc]; have := SK.out.size; have := TL.out.size; omega); have OE : Hid (∀ u ∈ (#[z0_0, z0_1, z0_2, z0_3, z0_4, z0_5, z0_6, z0_7, z0_8, z0_9, z0_10, z0_11, z0_12, z0_13, z0_14, z0_15, z0_16, z0_17, z0_18, z0_19, z0_20, z0_21, z0_22, z0_23, z0_24, z0_25, z0_26, z0_27, z0_28] : Array Value).toList, u.oneCell' = true) := HXE.out.one; have hcL : (wa.alloc (.cells #[z0_0, z0_1, z0_2, z0_3, z0_4, z0_5, z0_6, z0_7, z0_8, z0_9, z0_10, z0_11, z0_12, z0_13, z0_14, z0_15, z0_16, z0_17, z0_18, z0_19, z0_20, z0_21, z0_22, z0_23, z0_24, z0_25, z0_26, z0_27, z0_28] 81)).cell? ⟨q1, 12, none⟩ = some v := (World.cell?_of_block (a := ⟨q1, 12, none⟩) (Below.heap_alloc wa _ q1 (Nat.lt_of_lt_of_le HQR.out TL.out.size))).trans hcF0))
        all_goals (
          have LM := loop_more (lf := 12) (es := [z0_0, z0_1, z0_2, z0_3, z0_4, z0_5, z0_6, z0_7, z0_8, z0_9, z0_10, z0_11, z0_12, z0_13, z0_14, z0_15, z0_16, z0_17, z0_18, z0_19, z0_20, z0_21, z0_22, z0_23, z0_24, z0_25, z0_26, z0_27, z0_28]) OK.out SK.out RDK.out HEL.out G1.out (by decide) ZB.out hpB hpq1 hDB TL.out HXE.out RDX.out R0e.out HO3.out HG3.out (by first | exact HW3.out | (have := HW3.out; rw [World.size_alloc] at this; exact this))
          have LJ := hidI LM.1
          have GJ : Hid ((w3.setCell ⟨q1, 12, none⟩ (.slice (some ⟨g3, 0, none⟩) (k + 1) c3)).heap[q1]? = some (.cells ([.int .i64 m0, .int .i64 m1, .int .i64 m2, .int .i64 m3, .int .i64 m4, .int .i64 m5, .int .i64 m6, .bool m7, .int .i64 m8, .int .i64 m9, .int .i64 m10, .int .i64 m11, .slice (some ⟨g3, 0, none⟩) (k + 1) c3, .slice none 0 0, .slice none 0 0, .slice none 0 0, .int .i64 0, .int .i64 0, .int .i64 0, .int .i64 0, .int .i64 0, .int .i64 0, .int .i64 0, .slice none 0 0, .int .i64 0, .bool false, .int .i64 0, .int .i64 0, .int .i64 0, .bool false, .bool false, .int .i64 0, .int .i64 0, .int .i64 0, .slice none 0 0, .int .i64 0, .int .i64 0, .int .i64 0, .slice none 0 0, .slice none 0 0, .bool false, .slice none 0 0, .slice none 0 0, .int .i64 0, .int .i64 0, .slice none 0 0] : List Value).toArray 50 (0, 0))) := LM.2
          clear LM
          go_wp2
          exact ⟨⟨k + 1, .slice (some ⟨g3, 0, none⟩) (k + 1) c3, by omega, by go_num, GJ, LJ.out⟩, by simp [intOf]; omega⟩)
      · have hkN : k = N := by omega
        subst hkN
        have hvl := RDK.out.1
        obtain ⟨va, vc, hv, hrl⟩ : ∃ va vc, v = Value.slice va k vc ∧ RepL wr (NB wB wr) F_entry va vsL := by
          have := Elems.done (e := 81) HEL.out (by rw [hvl]; exact OK.out) (by rw [hvl]; omega)
          rwa [hvl] at this
        subst hv
        have hvl2 : k = vsL.length := hvl.symm
        subst hvl2
        have QL := hidI (hrl.toX (lo' := w.heap.size + 1) (q := q1) (by have := ZB.out; have := SB.out.size; have := hq1.out; omega) (.inl ZB.out))
        have RDL := hidI (RdN.lst hN HC.out RDK.out)
        have GQ := hidI ((SK.out.block _ (by have := ZB.out; omega) hpq.out.symm (by omega)).trans GB.out)
        have SQ : Hid (RS w wr p) := ⟨SK.out.os.trans SB.out.os, SK.out.tape.trans SB.out.tape, SK.out.output.trans SB.out.output, Nat.le_trans SB.out.size SK.out.size, fun j hj hp => (SK.out.block j (by have := SB.out.size; omega) hp (by omega)).trans (SB.out.block j hj hp)⟩
        have hcur := rk
        clear hvl hrl rk HEL RDK SK OK
        go_wp2_with fail
        refine (conf_i p _ _ _ hcur).mono ?_
        rintro e x13 ⟨cs13, v13, rfl, q13, l14, b14, rd14, r14, t14⟩
        have RD14 := hidI rd14
        clear rd14 hcur
        obtain ⟨y13_0, y13_1, rfl⟩ := list_len2 cs13 q13.len
        replace QL := hidI (QL.out.keptX t14.size (fun b h1 h2 h3 => t14.block b h3 (by have := hDq.out.1; omega)))
        have hq1u : q1 < wr.heap.size := (Array.getElem?_eq_some_iff.1 G1.out).1
        have Q13 := hidI (q13.toX (lo' := w.heap.size + 1) (q := q1) (by omega) (.inl hq1u))
        clear q13
        have G13x := hidI ((t14.block q1 hq1u (by omega)).trans G1.out)
        replace GQ := hidI ((t14.block _ (by omega) hpq.out.symm).trans GQ.out)
        replace SQ := hidI (SQ.out.trans t14)
        clear t14 hq1u
        have HI13 : Hid ((Tryz.prog.info? 31).map (·.size) = some ([y13_0, y13_1] : List Value).toArray.size) := by show _ = _; kernel_rfl
        have HO13 : Hid (∀ c ∈ ([y13_0, y13_1] : List Value), c.oneCell' = true) := Q13.out.one
        go_wp2_with (refine wpList_store_midF rfl 31 (.tmp 47) (.tmp 46) rfl q1 13 [y13_0, y13_1] rfl rfl 50 [.int .i64 m0, .int .i64 m1, .int .i64 m2, .int .i64 m3, .int .i64 m4, .int .i64 m5, .int .i64 m6, .bool m7, .int .i64 m8, .int .i64 m9, .int .i64 m10, .int .i64 m11, .slice va vsL.length vc, .slice none 0 0, .slice none 0 0, .slice none 0 0, .int .i64 0, .int .i64 0, .int .i64 0, .int .i64 0, .int .i64 0, .int .i64 0, .int .i64 0, .slice none 0 0, .int .i64 0, .bool false, .int .i64 0, .int .i64 0, .int .i64 0, .bool false, .bool false, .int .i64 0, .int .i64 0, .int .i64 0, .slice none 0 0, .int .i64 0, .int .i64 0, .int .i64 0, .slice none 0 0, .slice none 0 0, .bool false, .slice none 0 0, .slice none 0 0, .int .i64 0, .int .i64 0, .slice none 0 0] [.int .i64 m0, .int .i64 m1, .int .i64 m2, .int .i64 m3, .int .i64 m4, .int .i64 m5, .int .i64 m6, .bool m7, .int .i64 m8, .int .i64 m9, .int .i64 m10, .int .i64 m11, .slice va vsL.length vc, y13_0, y13_1, .slice none 0 0, .int .i64 0, .int .i64 0, .int .i64 0, .int .i64 0, .int .i64 0, .int .i64 0, .int .i64 0, .slice none 0 0, .int .i64 0, .bool false, .int .i64 0, .int .i64 0, .int .i64 0, .bool false, .bool false, .int .i64 0, .int .i64 0, .int .i64 0, .slice none 0 0, .int .i64 0, .int .i64 0, .int .i64 0, .slice none 0 0, .slice none 0 0, .bool false, .slice none 0 0, .slice none 0 0, .int .i64 0, .int .i64 0, .slice none 0 0] G13x.out rfl (Nat.le_of_ble_eq_true rfl) HI13.out HO13.out ?nx13)
        case nx13 =>
          intro u13 hLA13
          have LA13 := hLA13.out
          have hcur := r14.laid LA13 hpq1 hDB
          have G13y := hidI LA13.at_
          replace QL := hidI (QL.out.keptX (by rw [LA13.size]; exact Nat.le_refl _) (fun b h1 h2 h3 => LA13.block b h2))
          replace Q13 := hidI (Q13.out.keptX (by rw [LA13.size]; exact Nat.le_refl _) (fun b h1 h2 h3 => LA13.block b h2))
          replace GQ := hidI ((LA13.block _ (by omega)).trans GQ.out)
          replace SQ : Hid (RS w u13 p) := ⟨LA13.os.trans SQ.out.os, LA13.tape.trans SQ.out.tape, LA13.output.trans SQ.out.output, by rw [LA13.size]; exact SQ.out.size, fun j hj hp => (LA13.block j (by omega)).trans (SQ.out.block j hj hp)⟩
          clear LA13 hLA13 G13x r14
          go_wp2_with fail
          refine (bytes_i p _ _ _ hcur).mono ?_
          rintro e x14 ⟨a14, c14, v14, rfl, k14, q14, l15, b15, rd15, r15, t15⟩
          have RD15 := hidI rd15
          clear rd15 hcur
          replace QL := hidI (QL.out.keptX t15.size (fun b h1 h2 h3 => t15.block b h3 (by have := hDq.out.1; omega)))
          replace Q13 := hidI (Q13.out.keptX t15.size (fun b h1 h2 h3 => t15.block b h3 (by have := hDq.out.1; omega)))
          have hq1u : q1 < u13.heap.size := (Array.getElem?_eq_some_iff.1 G13y.out).1
          have Q14 := hidI (q14.toX (lo' := w.heap.size + 1) (q := q1) (by omega) (.inl hq1u))
          clear q14
          have G14x := hidI ((t15.block q1 hq1u (by omega)).trans G13y.out)
          replace GQ := hidI ((t15.block _ (by omega) hpq.out.symm).trans GQ.out)
          replace SQ := hidI (SQ.out.trans t15)
          clear t15 hq1u
          have hc14 : x14.cell? ⟨q1, 15, none⟩ = some (.slice none 0 0) := by rw [cell_of_row x14 q1 15 _ 50 (0, 0) G14x.out]; rfl
          have hf14 : x14.frozen? ⟨q1, 15, none⟩ = false := by simp [World.frozen?, G14x.out]
          have LA14 := laid_cell (o := 15) G14x.out (.slice a14 v14.length c14)
          have hcur := r15.laid LA14 hpq1 hDB
          have G14y : Hid ((x14.setCell ⟨q1, 15, none⟩ (.slice a14 v14.length c14)).heap[q1]? = some (.cells ([.int .i64 m0, .int .i64 m1, .int .i64 m2, .int .i64 m3, .int .i64 m4, .int .i64 m5, .int .i64 m6, .bool m7, .int .i64 m8, .int .i64 m9, .int .i64 m10, .int .i64 m11, .slice va vsL.length vc, y13_0, y13_1, .slice a14 v14.length c14, .int .i64 0, .int .i64 0, .int .i64 0, .int .i64 0, .int .i64 0, .int .i64 0, .int .i64 0, .slice none 0 0, .int .i64 0, .bool false, .int .i64 0, .int .i64 0, .int .i64 0, .bool false, .bool false, .int .i64 0, .int .i64 0, .int .i64 0, .slice none 0 0, .int .i64 0, .int .i64 0, .int .i64 0, .slice none 0 0, .slice none 0 0, .bool false, .slice none 0 0, .slice none 0 0, .int .i64 0, .int .i64 0, .slice none 0 0] : List Value).toArray 50 (0, 0))) := LA14.at_
          replace QL := hidI (QL.out.keptX (by rw [LA14.size]; exact Nat.le_refl _) (fun b h1 h2 h3 => LA14.block b h2))
          replace Q13 := hidI (Q13.out.keptX (by rw [LA14.size]; exact Nat.le_refl _) (fun b h1 h2 h3 => LA14.block b h2))
          replace Q14 := hidI (Q14.out.keptX (by rw [LA14.size]; exact Nat.le_refl _) (fun b h1 h2 h3 => LA14.block b h2))
          replace GQ := hidI ((LA14.block _ (by omega)).trans GQ.out)
          replace SQ : Hid (RS w (x14.setCell ⟨q1, 15, none⟩ (.slice a14 v14.length c14)) p) := ⟨LA14.os.trans SQ.out.os, LA14.tape.trans SQ.out.tape, LA14.output.trans SQ.out.output, by rw [LA14.size]; exact SQ.out.size, fun j hj hp => (LA14.block j (by omega)).trans (SQ.out.block j hj hp)⟩
          clear LA14 G14x r15
          go_wp2_with fail
          refine (cmd_i p _ _ _ hcur).mono ?_
          rintro e x15 ⟨cs15, v15, rfl, q15, l16, b16, rd16, r16, t16⟩
          have RD16 := hidI rd16
          clear rd16 hcur
          obtain ⟨y15_0, y15_1, y15_2, y15_3, y15_4, y15_5, y15_6, y15_7, y15_8, y15_9, y15_10, y15_11, y15_12, y15_13, y15_14, y15_15, y15_16, y15_17, y15_18, y15_19, y15_20, y15_21, y15_22, y15_23, y15_24, y15_25, y15_26, rfl⟩ := list_len27 cs15 q15.len
          replace QL := hidI (QL.out.keptX t16.size (fun b h1 h2 h3 => t16.block b h3 (by have := hDq.out.1; omega)))
          replace Q13 := hidI (Q13.out.keptX t16.size (fun b h1 h2 h3 => t16.block b h3 (by have := hDq.out.1; omega)))
          replace Q14 := hidI (Q14.out.keptX t16.size (fun b h1 h2 h3 => t16.block b h3 (by have := hDq.out.1; omega)))
          have hq1u : q1 < (x14.setCell ⟨q1, 15, none⟩ (.slice a14 v14.length c14)).heap.size := (Array.getElem?_eq_some_iff.1 G14y.out).1
          have Q15 := hidI (q15.toX (lo' := w.heap.size + 1) (q := q1) (by omega) (.inl hq1u))
          clear q15
          have G15x := hidI ((t16.block q1 hq1u (by omega)).trans G14y.out)
          replace GQ := hidI ((t16.block _ (by omega) hpq.out.symm).trans GQ.out)
          replace SQ := hidI (SQ.out.trans t16)
          clear t16 hq1u
          have HI15 : Hid ((Tryz.prog.info? 45).map (·.size) = some ([y15_0, y15_1, y15_2, y15_3, y15_4, y15_5, y15_6, y15_7, y15_8, y15_9, y15_10, y15_11, y15_12, y15_13, y15_14, y15_15, y15_16, y15_17, y15_18, y15_19, y15_20, y15_21, y15_22, y15_23, y15_24, y15_25, y15_26] : List Value).toArray.size) := by show _ = _; kernel_rfl
          have HO15 : Hid (∀ c ∈ ([y15_0, y15_1, y15_2, y15_3, y15_4, y15_5, y15_6, y15_7, y15_8, y15_9, y15_10, y15_11, y15_12, y15_13, y15_14, y15_15, y15_16, y15_17, y15_18, y15_19, y15_20, y15_21, y15_22, y15_23, y15_24, y15_25, y15_26] : List Value), c.oneCell' = true) := Q15.out.one
          go_wp2_with (refine wpList_store_midF rfl 45 (.tmp 53) (.tmp 52) rfl q1 16 [y15_0, y15_1, y15_2, y15_3, y15_4, y15_5, y15_6, y15_7, y15_8, y15_9, y15_10, y15_11, y15_12, y15_13, y15_14, y15_15, y15_16, y15_17, y15_18, y15_19, y15_20, y15_21, y15_22, y15_23, y15_24, y15_25, y15_26] rfl rfl 50 [.int .i64 m0, .int .i64 m1, .int .i64 m2, .int .i64 m3, .int .i64 m4, .int .i64 m5, .int .i64 m6, .bool m7, .int .i64 m8, .int .i64 m9, .int .i64 m10, .int .i64 m11, .slice va vsL.length vc, y13_0, y13_1, .slice a14 v14.length c14, .int .i64 0, .int .i64 0, .int .i64 0, .int .i64 0, .int .i64 0, .int .i64 0, .int .i64 0, .slice none 0 0, .int .i64 0, .bool false, .int .i64 0, .int .i64 0, .int .i64 0, .bool false, .bool false, .int .i64 0, .int .i64 0, .int .i64 0, .slice none 0 0, .int .i64 0, .int .i64 0, .int .i64 0, .slice none 0 0, .slice none 0 0, .bool false, .slice none 0 0, .slice none 0 0, .int .i64 0, .int .i64 0, .slice none 0 0] [.int .i64 m0, .int .i64 m1, .int .i64 m2, .int .i64 m3, .int .i64 m4, .int .i64 m5, .int .i64 m6, .bool m7, .int .i64 m8, .int .i64 m9, .int .i64 m10, .int .i64 m11, .slice va vsL.length vc, y13_0, y13_1, .slice a14 v14.length c14, y15_0, y15_1, y15_2, y15_3, y15_4, y15_5, y15_6, y15_7, y15_8, y15_9, y15_10, y15_11, y15_12, y15_13, y15_14, y15_15, y15_16, y15_17, y15_18, y15_19, y15_20, y15_21, y15_22, y15_23, y15_24, y15_25, y15_26, .int .i64 0, .int .i64 0, .slice none 0 0] G15x.out rfl (Nat.le_of_ble_eq_true rfl) HI15.out HO15.out ?nx15)
          case nx15 =>
            intro u15 hLA15
            have LA15 := hLA15.out
            have hcur := r16.laid LA15 hpq1 hDB
            have G15y := hidI LA15.at_
            replace QL := hidI (QL.out.keptX (by rw [LA15.size]; exact Nat.le_refl _) (fun b h1 h2 h3 => LA15.block b h2))
            replace Q13 := hidI (Q13.out.keptX (by rw [LA15.size]; exact Nat.le_refl _) (fun b h1 h2 h3 => LA15.block b h2))
            replace Q14 := hidI (Q14.out.keptX (by rw [LA15.size]; exact Nat.le_refl _) (fun b h1 h2 h3 => LA15.block b h2))
            replace Q15 := hidI (Q15.out.keptX (by rw [LA15.size]; exact Nat.le_refl _) (fun b h1 h2 h3 => LA15.block b h2))
            replace GQ := hidI ((LA15.block _ (by omega)).trans GQ.out)
            replace SQ : Hid (RS w u15 p) := ⟨LA15.os.trans SQ.out.os, LA15.tape.trans SQ.out.tape, LA15.output.trans SQ.out.output, by rw [LA15.size]; exact SQ.out.size, fun j hj hp => (LA15.block j (by omega)).trans (SQ.out.block j hj hp)⟩
            clear LA15 hLA15 G15x r16
            go_wp2_with fail
            refine (result_i p _ _ _ hcur).mono ?_
            rintro e x16 ⟨cs16, v16, rfl, q16, l17, b17, rd17, r17, t17⟩
            have RD17 := hidI rd17
            clear rd17 hcur
            obtain ⟨y16_0, y16_1, y16_2, rfl⟩ := list_len3 cs16 q16.len
            replace QL := hidI (QL.out.keptX t17.size (fun b h1 h2 h3 => t17.block b h3 (by have := hDq.out.1; omega)))
            replace Q13 := hidI (Q13.out.keptX t17.size (fun b h1 h2 h3 => t17.block b h3 (by have := hDq.out.1; omega)))
            replace Q14 := hidI (Q14.out.keptX t17.size (fun b h1 h2 h3 => t17.block b h3 (by have := hDq.out.1; omega)))
            replace Q15 := hidI (Q15.out.keptX t17.size (fun b h1 h2 h3 => t17.block b h3 (by have := hDq.out.1; omega)))
            have hq1u : q1 < u15.heap.size := (Array.getElem?_eq_some_iff.1 G15y.out).1
            have Q16 := hidI (q16.toX (lo' := w.heap.size + 1) (q := q1) (by omega) (.inl hq1u))
            clear q16
            have G16x := hidI ((t17.block q1 hq1u (by omega)).trans G15y.out)
            replace GQ := hidI ((t17.block _ (by omega) hpq.out.symm).trans GQ.out)
            replace SQ := hidI (SQ.out.trans t17)
            clear t17 hq1u
            have HI16 : Hid ((Tryz.prog.info? 48).map (·.size) = some ([y16_0, y16_1, y16_2] : List Value).toArray.size) := by show _ = _; kernel_rfl
            have HO16 : Hid (∀ c ∈ ([y16_0, y16_1, y16_2] : List Value), c.oneCell' = true) := Q16.out.one
            go_wp2_with (refine wpList_store_midF rfl 48 (.tmp 56) (.tmp 55) rfl q1 43 [y16_0, y16_1, y16_2] rfl rfl 50 [.int .i64 m0, .int .i64 m1, .int .i64 m2, .int .i64 m3, .int .i64 m4, .int .i64 m5, .int .i64 m6, .bool m7, .int .i64 m8, .int .i64 m9, .int .i64 m10, .int .i64 m11, .slice va vsL.length vc, y13_0, y13_1, .slice a14 v14.length c14, y15_0, y15_1, y15_2, y15_3, y15_4, y15_5, y15_6, y15_7, y15_8, y15_9, y15_10, y15_11, y15_12, y15_13, y15_14, y15_15, y15_16, y15_17, y15_18, y15_19, y15_20, y15_21, y15_22, y15_23, y15_24, y15_25, y15_26, .int .i64 0, .int .i64 0, .slice none 0 0] [.int .i64 m0, .int .i64 m1, .int .i64 m2, .int .i64 m3, .int .i64 m4, .int .i64 m5, .int .i64 m6, .bool m7, .int .i64 m8, .int .i64 m9, .int .i64 m10, .int .i64 m11, .slice va vsL.length vc, y13_0, y13_1, .slice a14 v14.length c14, y15_0, y15_1, y15_2, y15_3, y15_4, y15_5, y15_6, y15_7, y15_8, y15_9, y15_10, y15_11, y15_12, y15_13, y15_14, y15_15, y15_16, y15_17, y15_18, y15_19, y15_20, y15_21, y15_22, y15_23, y15_24, y15_25, y15_26, y16_0, y16_1, y16_2] G16x.out rfl (Nat.le_of_ble_eq_true rfl) HI16.out HO16.out ?nx16)
            case nx16 =>
              intro u16 hLA16
              have LA16 := hLA16.out
              have hcur := r17.laid LA16 hpq1 hDB
              have G16y := hidI LA16.at_
              replace QL := hidI (QL.out.keptX (by rw [LA16.size]; exact Nat.le_refl _) (fun b h1 h2 h3 => LA16.block b h2))
              replace Q13 := hidI (Q13.out.keptX (by rw [LA16.size]; exact Nat.le_refl _) (fun b h1 h2 h3 => LA16.block b h2))
              replace Q14 := hidI (Q14.out.keptX (by rw [LA16.size]; exact Nat.le_refl _) (fun b h1 h2 h3 => LA16.block b h2))
              replace Q15 := hidI (Q15.out.keptX (by rw [LA16.size]; exact Nat.le_refl _) (fun b h1 h2 h3 => LA16.block b h2))
              replace Q16 := hidI (Q16.out.keptX (by rw [LA16.size]; exact Nat.le_refl _) (fun b h1 h2 h3 => LA16.block b h2))
              replace GQ := hidI ((LA16.block _ (by omega)).trans GQ.out)
              replace SQ : Hid (RS w u16 p) := ⟨LA16.os.trans SQ.out.os, LA16.tape.trans SQ.out.tape, LA16.output.trans SQ.out.output, by rw [LA16.size]; exact SQ.out.size, fun j hj hp => (LA16.block j (by omega)).trans (SQ.out.block j hj hp)⟩
              clear LA16 hLA16 G16x r17
              have REP : Hid (Rep u16 (NX (w.heap.size + 1) q1 u16) F_msg [.int .i64 m0, .int .i64 m1, .int .i64 m2, .int .i64 m3, .int .i64 m4, .int .i64 m5, .int .i64 m6, .bool m7, .int .i64 m8, .int .i64 m9, .int .i64 m10, .int .i64 m11, .slice va vsL.length vc, y13_0, y13_1, .slice a14 v14.length c14, y15_0, y15_1, y15_2, y15_3, y15_4, y15_5, y15_6, y15_7, y15_8, y15_9, y15_10, y15_11, y15_12, y15_13, y15_14, y15_15, y15_16, y15_17, y15_18, y15_19, y15_20, y15_21, y15_22, y15_23, y15_24, y15_25, y15_26, y16_0, y16_1, y16_2] (m0, m1, m2, m3, m4, m5, m6, m7, m8, m9, m10, m11, vsL, v13, v14, v15, v16)) := by
                exact mk_msg m0 m1 m2 m3 m4 m5 m6 m7 m8 m9 m10 m11 va vc vsL y13_0 y13_1 v13 a14 c14 v14 y15_0 y15_1 y15_2 y15_3 y15_4 y15_5 y15_6 y15_7 y15_8 y15_9 y15_10 y15_11 y15_12 y15_13 y15_14 y15_15 y15_16 y15_17 y15_18 y15_19 y15_20 y15_21 y15_22 y15_23 y15_24 y15_25 y15_26 v15 y16_0 y16_1 y16_2 v16 QL.out Q13.out ⟨k14, Q14.out⟩ Q15.out Q16.out
              have RDA : Hid (Rd F_msg l bad (m0, m1, m2, m3, m4, m5, m6, m7, m8, m9, m10, m11, vsL, v13, v14, v15, v16) l17 b17) := (Rd.cat RD1.out (Rd.cat RD2.out (Rd.cat RD3.out (Rd.cat RD4.out (Rd.cat RD5.out (Rd.cat RD6.out (Rd.cat RD7.out (Rd.cat RD8.out (Rd.cat RD9.out (Rd.cat RD10.out (Rd.cat RD11.out (Rd.cat RD12.out (Rd.cat RDL.out (Rd.cat RD14.out (Rd.cat RD15.out (Rd.cat RD16.out RD17.out))))))))))))))))
              have IF : Hid ((Tryz.prog.info? 50).map (·.size) = some (#[.int .i64 m0, .int .i64 m1, .int .i64 m2, .int .i64 m3, .int .i64 m4, .int .i64 m5, .int .i64 m6, .bool m7, .int .i64 m8, .int .i64 m9, .int .i64 m10, .int .i64 m11, .slice va vsL.length vc, y13_0, y13_1, .slice a14 v14.length c14, y15_0, y15_1, y15_2, y15_3, y15_4, y15_5, y15_6, y15_7, y15_8, y15_9, y15_10, y15_11, y15_12, y15_13, y15_14, y15_15, y15_16, y15_17, y15_18, y15_19, y15_20, y15_21, y15_22, y15_23, y15_24, y15_25, y15_26, y16_0, y16_1, y16_2] : Array Value).size) := by show _ = _; kernel_rfl
              have OF : Hid ((#[.int .i64 m0, .int .i64 m1, .int .i64 m2, .int .i64 m3, .int .i64 m4, .int .i64 m5, .int .i64 m6, .bool m7, .int .i64 m8, .int .i64 m9, .int .i64 m10, .int .i64 m11, .slice va vsL.length vc, y13_0, y13_1, .slice a14 v14.length c14, y15_0, y15_1, y15_2, y15_3, y15_4, y15_5, y15_6, y15_7, y15_8, y15_9, y15_10, y15_11, y15_12, y15_13, y15_14, y15_15, y15_16, y15_17, y15_18, y15_19, y15_20, y15_21, y15_22, y15_23, y15_24, y15_25, y15_26, y16_0, y16_1, y16_2] : Array Value).all (·.oneCell') = true) := REP.out.all
              have HCUR := hidI hcur
              clear hcur
              go_wp2_with (first
                | (refine wpList_load_row rfl 50 (.tmp 3) rfl q1 rfl 50 #[.int .i64 m0, .int .i64 m1, .int .i64 m2, .int .i64 m3, .int .i64 m4, .int .i64 m5, .int .i64 m6, .bool m7, .int .i64 m8, .int .i64 m9, .int .i64 m10, .int .i64 m11, .slice va vsL.length vc, y13_0, y13_1, .slice a14 v14.length c14, y15_0, y15_1, y15_2, y15_3, y15_4, y15_5, y15_6, y15_7, y15_8, y15_9, y15_10, y15_11, y15_12, y15_13, y15_14, y15_15, y15_16, y15_17, y15_18, y15_19, y15_20, y15_21, y15_22, y15_23, y15_24, y15_25, y15_26, y16_0, y16_1, y16_2] (0, 0) _ G16y.out Tryz.underlying50 rfl IF.out ?_)
                | (refine wpList_store_row rfl 50 (.tmp 2) (.tmp 57) rfl w.heap.size #[.int .i64 m0, .int .i64 m1, .int .i64 m2, .int .i64 m3, .int .i64 m4, .int .i64 m5, .int .i64 m6, .bool m7, .int .i64 m8, .int .i64 m9, .int .i64 m10, .int .i64 m11, .slice va vsL.length vc, y13_0, y13_1, .slice a14 v14.length c14, y15_0, y15_1, y15_2, y15_3, y15_4, y15_5, y15_6, y15_7, y15_8, y15_9, y15_10, y15_11, y15_12, y15_13, y15_14, y15_15, y15_16, y15_17, y15_18, y15_19, y15_20, y15_21, y15_22, y15_23, y15_24, y15_25, y15_26, y16_0, y16_1, y16_2] rfl rfl 50 #[.int .i64 0, .int .i64 0, .int .i64 0, .int .i64 0, .int .i64 0, .int .i64 0, .int .i64 0, .bool false, .int .i64 0, .int .i64 0, .int .i64 0, .int .i64 0, .slice none 0 0, .slice none 0 0, .slice none 0 0, .slice none 0 0, .int .i64 0, .int .i64 0, .int .i64 0, .int .i64 0, .int .i64 0, .int .i64 0, .int .i64 0, .slice none 0 0, .int .i64 0, .bool false, .int .i64 0, .int .i64 0, .int .i64 0, .bool false, .bool false, .int .i64 0, .int .i64 0, .int .i64 0, .slice none 0 0, .int .i64 0, .int .i64 0, .int .i64 0, .slice none 0 0, .slice none 0 0, .bool false, .slice none 0 0, .slice none 0 0, .int .i64 0, .int .i64 0, .slice none 0 0] GQ.out IF.out rfl OF.out ?_))
              refine bodyPost_ret (v := .agg #[.int .i64 m0, .int .i64 m1, .int .i64 m2, .int .i64 m3, .int .i64 m4, .int .i64 m5, .int .i64 m6, .bool m7, .int .i64 m8, .int .i64 m9, .int .i64 m10, .int .i64 m11, .slice va vsL.length vc, y13_0, y13_1, .slice a14 v14.length c14, y15_0, y15_1, y15_2, y15_3, y15_4, y15_5, y15_6, y15_7, y15_8, y15_9, y15_10, y15_11, y15_12, y15_13, y15_14, y15_15, y15_16, y15_17, y15_18, y15_19, y15_20, y15_21, y15_22, y15_23, y15_24, y15_25, y15_26, y16_0, y16_1, y16_2]) ?_ rfl ⟨[.int .i64 m0, .int .i64 m1, .int .i64 m2, .int .i64 m3, .int .i64 m4, .int .i64 m5, .int .i64 m6, .bool m7, .int .i64 m8, .int .i64 m9, .int .i64 m10, .int .i64 m11, .slice va vsL.length vc, y13_0, y13_1, .slice a14 v14.length c14, y15_0, y15_1, y15_2, y15_3, y15_4, y15_5, y15_6, y15_7, y15_8, y15_9, y15_10, y15_11, y15_12, y15_13, y15_14, y15_15, y15_16, y15_17, y15_18, y15_19, y15_20, y15_21, y15_22, y15_23, y15_24, y15_25, y15_26, y16_0, y16_1, y16_2], _, rfl, ?_, l17, b17, RDA.out, ?_, ?_⟩
              · refine results_cell_row Tryz.results31 _ _ w.heap.size 50 _ (0, 0) _ ?_ (setRow_heap u16 w.heap.size _ _ 50 _ GQ.out) Tryz.underlying50 rfl IF.out
                rfl
              · exact (REP.out.keptX (by simp [World.setRow]) (fun b h1 h2 h3 => setRow_other _ _ _ _ (by omega))).unX (Nat.le_succ _)
              · exact HCUR.out.ext ⟨rfl, rfl, rfl, by simp [World.setRow], fun k hk => setRow_other _ _ _ _ (by omega)⟩ hDq.out.1 hDq.out.2
              · exact SQ.out.setRow (Nat.le_refl _) _
end Go.Proofs.YtcdoejdbmllnnabGreat

/- The document's GetMsg, whatever bytes: whether they are all of one message, and which. -/
namespace Go.Proofs.YtcdoejdbmllnnabGreat
open Go.RowKit

set_option maxHeartbeats 400000 in
theorem done_i {D : Nat} (p : Nat) (l : List UInt8) (bad : Bool) (w : World) (h : RI D w p l bad) : Calls Tryz.prog 32 #[.pointer (some ⟨p, 0, none⟩)] w fun e w' => e = .returned (.bool (!bad && decide (l = []))) ∧ w' = w := by
  obtain ⟨h1, hD, f0, f1, c1, a, cap, c0, hcap, hbs, hne⟩ := h
  clear hbs hne
  cases bad with
  | true =>
    go_enter Tryz.func32, Tryz.ntmps32
    go_wp2
    go_ret
    exact ⟨rfl, rfl⟩
  | false =>
    cases l with
    | nil =>
      have HE : Hid ((!false && decide (([] : List UInt8) = [])) = true) := by show _ = _; decide
      rw [HE.out]
      simp only [List.length_nil] at c0
      go_enter Tryz.func32, Tryz.ntmps32
      go_wp2
      go_ret
      exact ⟨rfl, rfl⟩
    | cons x r =>
      have HE : Hid ((!false && decide ((x :: r : List UInt8) = [])) = false) := by show _ = _; simp
      rw [HE.out]
      have hlp : (((x :: r).length : Int) == 0) = false := by simp; omega
      obtain ⟨n, hn⟩ : ∃ n, (x :: r).length = n := ⟨_, rfl⟩
      rw [hn] at hlp c0 hcap
      go_enter Tryz.func32, Tryz.ntmps32
      go_wp2
      go_ret
      exact ⟨rfl, rfl⟩
theorem sum_leI {α : Type} (m : α → Nat) (b : Nat) (vs : List α) (h : ∀ v ∈ vs, m v ≤ b) : (vs.map m).sum ≤ vs.length * b := by
  induction vs with
  | nil => simp
  | cons v vs ih =>
    have h1 := h v (by simp)
    have h2 := ih (fun x hx => h x (by simp [hx]))
    rw [List.map_cons, List.sum_cons, List.length_cons, Nat.add_mul]
    omega
theorem szb_leI (f : Fm) (v : Vl f) (h : (en f v).2 = false) : szb f v ≤ mx f := by
  induction f with
  | num => exact Nat.le_refl _
  | tru => exact Nat.le_refl _
  | byt =>
    have h' : (if List.length (α := UInt8) v ≤ 65536 then (enc (List.length (α := UInt8) v : Int) ++ v, false) else ([], true)).2 = false := h
    show 6 + List.length (α := UInt8) v ≤ 65542
    split at h'
    · omega
    · cases h'
  | lst f ih =>
    have h' : (if List.length (α := Vl f) v ≤ 64 then (enc (List.length (α := Vl f) v : Int) ++ List.flatMap (fun v => (en f v).1) v, List.any v fun v => (en f v).2) else ([], true)).2 = false := h
    show 6 + (List.map (fun v => szb f v) v).sum ≤ 6 + 64 * mx f
    split at h'
    · next hl =>
      have h2 := sum_leI (fun v => szb f v) (mx f) v (fun x hx => ih x (by
        have := List.any_eq_false.1 h' x hx
        simpa using this))
      have h3 : List.length (α := Vl f) v * mx f ≤ 64 * mx f := Nat.mul_le_mul_right _ hl
      omega
    · cases h'
  | cat a b iha ihb =>
    have h' : ((en a v.1).2 || (en b v.2).2) = false := h
    rw [Bool.or_eq_false_iff] at h'
    show szb a v.1 + szb b v.2 ≤ mx a + mx b
    have h1 := iha v.1 h'.1
    have h2 := ihb v.2 h'.2
    omega
theorem szb_msg_leI (v : Vl F_msg) (h : (en F_msg v).2 = false) : szb F_msg v ≤ 137438953472 := Nat.le_trans (szb_leI F_msg v h) (Nat.le_of_ble_eq_true (by kernel_rfl))
theorem mxl_msgI : mx F_msg ≤ 211106232532992 := Nat.le_of_ble_eq_true (by kernel_rfl)
theorem box_msgI : (Tryz.prog.info? 50).map (·.size) = some (wd F_msg) := by kernel_rfl
theorem get_iff {l l1 : List UInt8} {b1 : Bool} {v : Vl F_msg} (h : Rd F_msg l false v l1 b1) : (b1 = false ∧ l1 = [] ∧ (en F_msg v).1 = l) ↔ (de F_msg (some l)).2 = some [] := by
  constructor
  · rintro ⟨_, _, e⟩
    have := de_en F_msg v [] h.1
    rw [List.append_nil, e] at this
    rw [this]
  · intro e
    obtain ⟨e1, e2, e3⟩ := h.2 rfl [] e
    have := (en_de F_msg l [] e).2
    rw [List.append_nil, ← e1] at this
    exact ⟨e3, e2, this.symm⟩

set_option maxHeartbeats 1600000 in
set_option maxRecDepth 100000 in
theorem getm_o (a : Option Addr) (n cap : Nat) (l : List UInt8) (w : World) (hn : n = l.length) (hcap : n ≤ cap) (hbs : Bs w a l) (hbl : ∀ y, a = some y → y.block < w.heap.size) :
    Calls Tryz.prog 19 #[.slice a n cap] w fun e w' => ∃ (cs : List Value) (v : Vl F_msg), e = .returned (.tuple #[.agg cs.toArray, .bool (decide ((de F_msg (some l)).2 = some []))]) ∧ Rep w' (NB w w') F_msg cs v ∧ ((de F_msg (some l)).2 = some [] → v = (de F_msg (some l)).1) ∧ Below w.heap.size w w' := by
  subst hn
  have hBA : Below w.heap.size w ((w.alloc (.cells Zr_msg 50)).alloc (.cells #[.slice a l.length cap, .bool false] 78)) := ((Below.refl _ _).alloc (Nat.le_refl _) _).alloc (by rw [World.size_alloc]; omega) _
  have gA0 : ((w.alloc (.cells Zr_msg 50)).alloc (.cells #[.slice a l.length cap, .bool false] 78)).heap[w.heap.size]? = some (.cells Zr_msg 50 (0, 0)) := by
    rw [Below.heap_alloc _ _ _ (by rw [World.size_alloc]; omega)]; exact heap_alloc_new w _
  have gA1 : ((w.alloc (.cells Zr_msg 50)).alloc (.cells #[.slice a l.length cap, .bool false] 78)).heap[w.heap.size + 1]? = some (.cells #[.slice a l.length cap, .bool false] 78 (0, 0)) := by
    have := heap_alloc_new (w.alloc (.cells Zr_msg 50)) (.cells #[.slice a l.length cap, .bool false] 78)
    rwa [World.size_alloc] at this
  have hRI : RI w.heap.size ((w.alloc (.cells Zr_msg 50)).alloc (.cells #[.slice a l.length cap, .bool false] 78)) (w.heap.size + 1) l false := by
    refine ⟨by rw [World.size_alloc, World.size_alloc]; omega, by rw [World.size_alloc, World.size_alloc]; omega, by unfold World.frozen?; rw [gA1]; rfl, by unfold World.frozen?; rw [gA1]; rfl, ?_, a, cap, ?_, hcap, hbs.grow hBA, fun x hx => ⟨by have := hbl x hx; omega, hbl x hx⟩⟩
    · rw [cell_of_row _ _ 1 _ 78 (0, 0) gA1]; rfl
    · rw [cell_of_row _ _ 0 _ 78 (0, 0) gA1]; rfl
  have HBS := hidI hbs
  have HBA := hidI hBA
  have GA0 := hidI gA0
  have HCAP := hidI hcap
  have hll := hbs.1
  clear hBA gA0 gA1 hbs hbl hcap
  go_enter Tryz.func19, Tryz.ntmps19
  go_wp2_with fail
  refine (msg_i (w.heap.size + 1) l false _ hRI).mono ?_
  rintro e w1 ⟨cl, vv, rfl, hrep, l1, b1, rd1, ri1, rs1⟩
  have RD := hidI rd1
  have hcs : cl.toArray.size = Zr_msg.size := by rw [List.size_toArray, hrep.len]; kernel_rfl
  have HCS := hidI hcs
  have HCO : Hid (cl.toArray.all (·.oneCell') = true) := hrep.all
  have HCI : Hid ((Tryz.prog.info? 50).map (·.size) = some cl.toArray.size) := by show _ = _; rw [hcs]; exact Zr_msg_i
  have hB1 : Below w.heap.size w w1 := HBA.out.trans ⟨rs1.os, rs1.tape, rs1.output, rs1.size, fun k hk => rs1.block k (by rw [World.size_alloc, World.size_alloc]; omega) (by omega)⟩
  have G01 := hidI ((rs1.block _ (by rw [World.size_alloc, World.size_alloc]; omega) (by omega)).trans GA0.out)
  have z1 : w.heap.size + 1 < w1.heap.size := ri1.1
  have HREP1 : Hid (Rep w1 (NBr (w.heap.size + 1) w1) F_msg cl vv) := hrep.keptN (Nat.le_refl _) (fun _ _ _ => rfl) (by rw [World.size_alloc, World.size_alloc]; omega)
  have HB1 := hidI hB1
  have HRI1 := hidI ri1
  have Z1 := hidI z1
  clear rd1 hcs hrep rs1 hRI hB1 ri1 z1
  go_wp2_with (refine wpList_store_rowF rfl 50 (.tmp 5) (.tmp 12) rfl w1.heap.size cl.toArray rfl rfl 50 Zr_msg (heap_alloc_new w1 (.cells Zr_msg 50)) HCI.out HCS.out.symm HCO.out ?nx2)
  case nx2 =>
    intro w2 hw2h
    have hw2 := hw2h.out
    have hB2 : Below w1.heap.size w1 w2 := by rw [hw2]; exact ((Below.refl _ _).alloc (Nat.le_refl _) _).trans ⟨rfl, rfl, rfl, by simp [World.setRow], fun k hk => setRow_other _ _ _ _ (by omega)⟩
    have G2 := hidI (show w2.heap[w1.heap.size]? = some (.cells cl.toArray 50 (0, 0)) by rw [hw2]; exact setRow_heap _ _ _ _ 50 _ (heap_alloc_new w1 _))
    have z2 : w1.heap.size < w2.heap.size := (Array.getElem?_eq_some_iff.1 G2.out).1
    have G02 := hidI ((hB2.block _ (by have := Z1.out; omega)).trans G01.out)
    have HREP2 := hidI (HREP1.out.keptN (lo' := w.heap.size + 1) hB2.size (fun b h1 h2 => hB2.block b h2) (Nat.le_refl _))
    have HREP2b : Hid (Rep w2 (fun b => b < w2.heap.size) F_msg cl vv) := HREP2.out.kept (Nat.le_refl _) (fun _ _ => rfl) (fun b x => x.2.1)
    have HRI2 := hidI (HRI1.out.ext hB2 HRI1.out.1 HRI1.out.2.1)
    have HB2 := hidI (HB1.out.trans (hB2.mono HB1.out.size))
    have HZZ := hidI (szb_msg_leI vv RD.out.1)
    have Z2 := hidI z2
    clear hw2 hw2h hB2 z2
    go_wp2_with (refine wpList_load_row rfl 50 (.tmp 5) rfl w1.heap.size rfl 50 cl.toArray (0, 0) _ G2.out Tryz.underlying50 rfl HCI.out ?_)
    refine (putMsg_o cl vv _ HZZ.out HREP2b.out).mono ?_
    rintro e w3 ⟨val, rfl, oX, nX, bX⟩
    rw [show codeB (en F_msg vv).2 = 0 by rw [RD.out.1]; rfl]
    have hby : bytesB (en F_msg vv) = (en F_msg vv).1 := by unfold bytesB; rw [RD.out.1]; rfl
    rw [hby] at oX
    have hlX : (en F_msg vv).1.length ≤ 211106232532992 := Nat.le_trans (en_len F_msg vv) mxl_msgI
    obtain ⟨aX, cX, rfl, hbsX⟩ := oX.form
    have HBX := hidI (hbsX hlX)
    have HRI3 := hidI (HRI2.out.ext bX HRI2.out.1 HRI2.out.2.1)
    have G3 := hidI ((bX.block _ Z2.out).trans G2.out)
    have HG0 := hidI ((bX.block _ (by have := Z2.out; have := Z1.out; omega)).trans G02.out)
    have HBW := hidI (HB2.out.trans (bX.mono HB2.out.size))
    have HREP3 := hidI (HREP2.out.keptN (lo' := w.heap.size + 1) bX.size (fun b h1 h2 => bX.block b h2) (Nat.le_refl _))
    have HBS3 := hidI (HBS.out.grow HBW.out)
    obtain ⟨nX2, hnX⟩ : ∃ nX2, Hid ((en F_msg vv).1.length = nX2) := ⟨_, hidI rfl⟩
    rw [hnX.out]
    clear oX nX bX hby hlX hbsX
    go_wp2_with fail
    refine (done_i (w.heap.size + 1) l1 b1 _ HRI3.out).mono ?_
    rintro e w4 ⟨rfl, hw4⟩
    subst hw4
    cases hdn : (!b1 && decide (l1 = [])) with
    | false =>
      have HF : Hid (decide ((de F_msg (some l)).2 = some []) = false) := by
        show _ = _
        rw [decide_eq_false_iff_not, ← get_iff RD.out]
        rintro ⟨e1, e2, _⟩
        rw [e1, e2] at hdn
        simp at hdn
      clear hdn
      go_wp2_with (refine wpList_store_rowF rfl 50 (.tmp 2) (.tmp 31) rfl w.heap.size Zr_msg rfl rfl 50 Zr_msg HG0.out Zr_msg_i rfl Zr_msg_o ?nx)
      case nx =>
        intro w6 hw6h
        have hw6 := hw6h.out
        have g6 : Hid (w6.heap[w.heap.size]? = some (.cells Zr_msg 50 (0, 0))) := by show _ = _; rw [hw6]; exact setRow_heap _ _ _ _ 50 _ HG0.out
        have hB6 : Below w.heap.size w w6 := by rw [hw6]; exact HBW.out.trans ⟨rfl, rfl, rfl, by simp [World.setRow], fun k hk => setRow_other _ _ _ _ (by omega)⟩
        clear hw6 hw6h
        go_wp2
        refine bodyPost_ret (v := .tuple #[.agg Zr_msg, .bool false]) ?_ rfl ⟨Zr_msg.toList, Zv_msg, by rw [HF.out], rz_msg' _ _, fun h => absurd h (of_decide_eq_false HF.out), hB6⟩
        simp [results, Tryz.results19, asAddr, run_loadVar_row w6 w.heap.size 50 50 Zr_msg (0, 0) _ g6.out Tryz.underlying50 rfl Zr_msg_i]
    | true =>
      have hb1 : b1 = false := by cases b1 with | true => simp at hdn | false => rfl
      have hl1 : l1 = [] := by rw [hb1] at hdn; simpa using hdn
      subst hb1 hl1
      clear hdn
      go_wp2_with fail
      refine (same_any aX a nX2 l.length cX cap (en F_msg vv).1 l _ hnX.out.symm rfl HBX.out HBS3.out).mono ?_
      rintro e w5 ⟨rfl, nq, hw5⟩
      have hB5 : Below w4.heap.size w4 w5 := by rw [hw5]; exact ⟨rfl, rfl, rfl, Nat.le_refl _, fun _ _ => rfl⟩
      replace HG0 := hidI ((hB5.block _ (Array.getElem?_eq_some_iff.1 HG0.out).1).trans HG0.out)
      replace G3 := hidI ((hB5.block _ (Array.getElem?_eq_some_iff.1 G3.out).1).trans G3.out)
      replace HREP3 := hidI (HREP3.out.keptN (lo' := w.heap.size + 1) hB5.size (fun b h1 h2 => hB5.block b h2) (Nat.le_refl _))
      replace HBW := hidI (HBW.out.trans (hB5.mono HBW.out.size))
      clear hw5 hB5
      cases hsm : decide ((en F_msg vv).1 = l) with
      | false =>
        have HF : Hid (decide ((de F_msg (some l)).2 = some []) = false) := by
          show _ = _
          rw [decide_eq_false_iff_not, ← get_iff RD.out]
          rintro ⟨_, _, e3⟩
          exact of_decide_eq_false hsm e3
        clear hsm
        go_wp2_with (refine wpList_store_rowF rfl 50 (.tmp 2) (.tmp 31) rfl w.heap.size Zr_msg rfl rfl 50 Zr_msg HG0.out Zr_msg_i rfl Zr_msg_o ?nx)
        case nx =>
          intro w6 hw6h
          have hw6 := hw6h.out
          have g6 : Hid (w6.heap[w.heap.size]? = some (.cells Zr_msg 50 (0, 0))) := by show _ = _; rw [hw6]; exact setRow_heap _ _ _ _ 50 _ HG0.out
          have hB6 : Below w.heap.size w w6 := by rw [hw6]; exact HBW.out.trans ⟨rfl, rfl, rfl, by simp [World.setRow], fun k hk => setRow_other _ _ _ _ (by omega)⟩
          clear hw6 hw6h
          go_wp2
          refine bodyPost_ret (v := .tuple #[.agg Zr_msg, .bool false]) ?_ rfl ⟨Zr_msg.toList, Zv_msg, by rw [HF.out], rz_msg' _ _, fun h => absurd h (of_decide_eq_false HF.out), hB6⟩
          simp [results, Tryz.results19, asAddr, run_loadVar_row w6 w.heap.size 50 50 Zr_msg (0, 0) _ g6.out Tryz.underlying50 rfl Zr_msg_i]
      | true =>
        have hDE : (de F_msg (some l)).2 = some [] := (get_iff RD.out).1 ⟨rfl, rfl, of_decide_eq_true hsm⟩
        have HT : Hid (decide ((de F_msg (some l)).2 = some []) = true) := by show _ = _; simp [hDE]
        have HVV := hidI (RD.out.2 rfl [] hDE).1
        clear hsm hDE
        go_wp2_with (first
          | (refine wpList_load_row rfl 50 (.tmp 5) rfl w1.heap.size rfl 50 cl.toArray (0, 0) _ G3.out Tryz.underlying50 rfl HCI.out ?_)
          | (refine wpList_store_rowF rfl 50 (.tmp 2) (.tmp 32) rfl w.heap.size cl.toArray rfl rfl 50 Zr_msg HG0.out HCI.out HCS.out.symm HCO.out ?nx))
        case nx =>
          intro w6 hw6h
          have hw6 := hw6h.out
          have g6 : Hid (w6.heap[w.heap.size]? = some (.cells cl.toArray 50 (0, 0))) := by show _ = _; rw [hw6]; exact setRow_heap _ _ _ _ 50 _ HG0.out
          have hB6 : Below w.heap.size w w6 := by rw [hw6]; exact HBW.out.trans ⟨rfl, rfl, rfl, by simp [World.setRow], fun k hk => setRow_other _ _ _ _ (by omega)⟩
          have HREP6 : Hid (Rep w6 (NB w w6) F_msg cl vv) := by
            rw [hw6]
            exact HREP3.out.keptN (by simp [World.setRow]) (fun b h1 h2 => setRow_other _ _ _ _ (by omega)) (Nat.le_succ _)
          clear hw6 hw6h
          go_wp2
          refine bodyPost_ret (v := .tuple #[.agg cl.toArray, .bool true]) ?_ rfl ⟨cl, vv, by rw [HT.out], HREP6.out, fun _ => HVV.out, hB6⟩
          simp [results, Tryz.results19, asAddr, run_loadVar_row w6 w.heap.size 50 50 cl.toArray (0, 0) _ g6.out Tryz.underlying50 rfl HCI.out]

end Go.Proofs.YtcdoejdbmllnnabGreat
