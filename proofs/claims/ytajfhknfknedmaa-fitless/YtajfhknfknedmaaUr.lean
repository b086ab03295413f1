/- What is used on a node, of the document. -/
import Derived.Test.YtajfhknfknedmaaUs
namespace Go.Proofs.Ytajfhknfknedmaa
open Go.RowKit Go.Shelf
attribute [local go_sem] Oper.semAt_some
structure UrI (w wr : World) (sl : Value) (c m : Int) : Prop where
  s : wr.cell? ⟨w.heap.size, 5, none⟩ = some sl
  p2 : Pr wr (w.heap.size + 1 + 1) c m
  p1 : Pr wr (w.heap.size + 1) 0 0
  b : Below w.heap.size w wr
  z : w.heap.size + 3 ≤ wr.heap.size
theorem UrI.grow {w W W' : World} {sl : Value} {c m : Int} (h : UrI w W sl c m) (hb : Below W.heap.size W W') : UrI w W' sl c m :=
  ⟨(hb_cell hb (by have := h.z; omega)).trans h.s, h.p2.grow hb, h.p1.grow hb, h.b.trans (hb.mono h.b.size), Nat.le_trans h.z hb.size⟩
theorem UrI.set {w W : World} {sl : Value} {c m : Int} (h : UrI w W sl c m) (c' m' : Int) : UrI w ((W.setCell ⟨w.heap.size + 1 + 1, 0, none⟩ (.int .i64 c')).setCell ⟨w.heap.size + 1 + 1, 1, none⟩ (.int .i64 m')) sl c' m' := by
  refine ⟨?_, h.p2.set _ _, (h.p1.other (by omega) _).other (by omega) _, (h.b.setCell (p := ⟨w.heap.size + 1 + 1, 0, none⟩) (by show w.heap.size ≤ w.heap.size + 1 + 1; omega) _).setCell (p := ⟨w.heap.size + 1 + 1, 1, none⟩) (by show w.heap.size ≤ w.heap.size + 1 + 1; omega) _, by simpa using h.z⟩
  have e : ((W.setCell ⟨w.heap.size + 1 + 1, 0, none⟩ (.int .i64 c')).setCell ⟨w.heap.size + 1 + 1, 1, none⟩ (.int .i64 m')).heap[w.heap.size]? = W.heap[w.heap.size]? := (heap_setCell_other _ ⟨w.heap.size + 1 + 1, 1, none⟩ _ _ (by show w.heap.size ≠ w.heap.size + 1 + 1; omega)).trans (heap_setCell_other _ ⟨w.heap.size + 1 + 1, 0, none⟩ _ _ (by show w.heap.size ≠ w.heap.size + 1 + 1; omega))
  exact (World.cell?_of_block (a := ⟨w.heap.size, 5, none⟩) e).trans h.s
theorem UrI.begin (w : World) (cs : List Value) (sl : Value) (hs : cs[5]? = some sl) : UrI w (((w.alloc (.cells cs.toArray 29)).alloc (.cells #[.int .i64 0, .int .i64 0] 31)).alloc (.cells #[.int .i64 0, .int .i64 0] 31)) sl 0 0 := by
  have p1 := pr_new (w.alloc (.cells cs.toArray 29)) 0 0
  have p2 := pr_new ((w.alloc (.cells cs.toArray 29)).alloc (.cells #[.int .i64 0, .int .i64 0] 31)) 0 0
  simp only [World.size_alloc] at p1 p2
  have hb : Below (w.alloc (.cells cs.toArray 29)).heap.size (w.alloc (.cells cs.toArray 29)) (((w.alloc (.cells cs.toArray 29)).alloc (.cells #[.int .i64 0, .int .i64 0] 31)).alloc (.cells #[.int .i64 0, .int .i64 0] 31)) := below2 _ _ _
  refine ⟨(box_new hb) 5 _ hs, p2, p1.grow (below1 _ _), (below1 w _).trans (hb.mono (below1 w _).size), by simp⟩
set_option maxRecDepth 100000 in
set_option maxHeartbeats 4000000 in
theorem refUsed_any (s : Sc) (nd : Int) (L : List Al) (w : World) (hn : s.n5 = L.length) (hL : Fl w (fun b => b < w.heap.size) 11 88 Al.cs s.a5 L) :
    Calls Try.prog 17 #[.agg #[.int .i64 s.ix, .int .i64 s.nx, .slice s.a2 s.n2 s.c2, .slice s.a3 s.n3 s.c3, .slice s.a4 s.n4 s.c4, .slice s.a5 s.n5 s.c5, .slice s.a6 s.n6 s.c6, .slice s.a7 s.n7 s.c7, .slice s.a8 s.n8 s.c8], .int .i64 nd] w fun e w' => e = .returned (.agg #[.int .i64 (usedV nd L).1, .int .i64 (usedV nd L).2]) ∧ Below w.heap.size w w' := by
  have hlen : L.length * 88 ≤ 140737488355328 := hL.bd
  obtain ⟨ix, nx, a2, n2, c2, a3, n3, c3, a4, n4, c4, a5, n5, c5, a6, n6, c6, a7, n7, c7, a8, n8, c8⟩ := s
  simp only at hn hL
  subst hn
  have HL := hidOf hL
  have HI0 := hidOf (UrI.begin w [.int .i64 ix, .int .i64 nx, .slice a2 n2 c2, .slice a3 n3 c3, .slice a4 n4 c4, .slice a5 L.length c5, .slice a6 n6 c6, .slice a7 n7 c7, .slice a8 n8 c8] (.slice a5 L.length c5) rfl)
  clear hL
  go_enter Try.func17, Try.ntmps17
  go_wp2
  go_loopw [6] (fun i wr => ∃ (k : Nat) (c m : Int), k ≤ L.length ∧ i = .int .i64 k ∧ Hid (uF (sel (usB nd) L k) = (true, c, m)) ∧ Hid (UrI w wr (.slice a5 L.length c5) c m)) (fun i _ => L.length - (intOf i).toNat)
  case atStart => exact ⟨0, 0, 0, Nat.zero_le _, rfl, hidOf rfl, HI0⟩
  case round =>
    clear HI0
    obtain ⟨k, c, m, hk, rfl, HU, HI⟩ := hrel
    have e5 := HI.out.s
    have hz := HI.out.z
    have lw : w.heap.size < wr.heap.size := by omega
    by_cases hlt : k < L.length
    · obtain ⟨b, off, ha, hbl, hc0⟩ := HL.out.at k hlt
      have hbl2 : b < wr.heap.size := Nat.lt_of_lt_of_le hbl HI.out.b.size
      have hc := range_of hc0 (HI.out.b.block b hbl)
      clear hbl hc0
      subst ha
      have hx := getD_at L k hlt
      have HYES := hidOf (@sel_yes Al _ (usB nd) L k)
      have HNO := hidOf (@sel_no Al _ (usB nd) L k)
      rw [hx] at HYES HNO
      clear hx
      generalize L[k] = x at *
      have c0 : wr.cell? ⟨b, off + k * 11, none⟩ = some (.int .i64 x.id) := hc 0 _ rfl
      have c1 : wr.cell? ⟨b, off + k * 11 + 1, none⟩ = some (.int .i64 x.jb) := hc 1 _ rfl
      have c2 : wr.cell? ⟨b, off + k * 11 + 2, none⟩ = some (.int .i64 x.ve) := hc 2 _ rfl
      have c3 : wr.cell? ⟨b, off + k * 11 + 3, none⟩ = some (.int .i64 x.gr) := hc 3 _ rfl
      have c4 : wr.cell? ⟨b, off + k * 11 + 4, none⟩ = some (.int .i64 x.ix) := hc 4 _ rfl
      have c5 : wr.cell? ⟨b, off + k * 11 + 5, none⟩ = some (.int .i64 x.nd) := hc 5 _ rfl
      have c6 : wr.cell? ⟨b, off + k * 11 + 6, none⟩ = some (.int .i64 x.ep) := hc 6 _ rfl
      have c7 : wr.cell? ⟨b, off + k * 11 + 7, none⟩ = some (.int .i64 x.c) := hc 7 _ rfl
      have c8 : wr.cell? ⟨b, off + k * 11 + 8, none⟩ = some (.int .i64 x.m) := hc 8 _ rfl
      have c9 : wr.cell? ⟨b, off + k * 11 + 9, none⟩ = some (.bool x.sp) := hc 9 _ rfl
      have c10 : wr.cell? ⟨b, off + k * 11 + 10, none⟩ = some (.int .i64 x.st) := hc 10 _ rfl
      clear hc
      have HI2 := hidOf (HI.out.grow (below1 wr (.cells #[.int .i64 x.id, .int .i64 x.jb, .int .i64 x.ve, .int .i64 x.gr, .int .i64 x.ix, .int .i64 x.nd, .int .i64 x.ep, .int .i64 x.c, .int .i64 x.m, .bool x.sp, .int .i64 x.st] 39)))
      by_cases h1 : x.nd = nd
      · have b1 : (x.nd == nd) = true := by simp [h1]
        have b1' : (x.nd != nd) = false := by simp [h1]
        by_cases h2 : 3 ≤ x.st
        · have HY := hidOf ((congrArg uF (HNO.out (by rw [usB, isI_true h1, ovr_true h2]; rfl))).trans HU.out)
          clear h1 HYES HNO
          go_wp2
          go_roundw
          case rel => exact ⟨k + 1, c, m, by omega, by go_num, HY, HI2⟩
          case measure => simp [intOf]; omega
        · have HX := hidOf (congrArg uF (HYES.out (by rw [usB, isI_true h1, ovr_false h2]; rfl)))
          rw [uF_snoc, HU.out] at HX
          have HAD := hidOf (refAdd_any c m x.c x.m)
          have cS := HI2.out.p2.c0
          have cT := HI2.out.p2.c1
          cases hadd : addB c m x.c x.m with
          | true =>
            have HY := hidOf (HX.out.trans (uS_yes hadd))
            have HC : Hid (addC c m x.c x.m = c + x.c) := hidOf (by unfold addC; rw [hadd]; rfl)
            have HM : Hid (addM c m x.c x.m = m + x.m) := hidOf (by unfold addM; rw [hadd]; rfl)
            have HA := hidOf hadd
            have lS : w.heap.size + 1 + 1 < wr.heap.size := by omega
            have p0 := HI.out.p2.c0
            have p1 := HI.out.p2.c1
            clear hadd h1 HYES HNO HX cS cT
            go_wp2_with (go_at_call 22; refine (HAD.out _).mono ?_; rintro e w1 ⟨rfl, hb⟩; rw [HC.out, HM.out, HA.out]; have HI3 := hidOf (HI2.out.grow hb); clear hb p0 p1 lS; have cS := HI3.out.p2.c0; have cT := HI3.out.p2.c1; have fS := HI3.out.p2.fr; have lS : w.heap.size + 1 + 1 < _ := HI3.out.p2.lt)
            go_roundw
            case rel => exact ⟨k + 1, c + x.c, m + x.m, by omega, by go_num, HY, hidOf ((HI3.out.set _ _).grow (below1 _ _))⟩
            case measure => simp [intOf]; omega
          | false =>
            have HY := hidOf (usedV_at (show k + 1 ≤ L.length by omega) (HX.out.trans (uS_bad hadd)))
            have HC : Hid (addC c m x.c x.m = 0) := hidOf (by unfold addC; rw [hadd]; rfl)
            have HM : Hid (addM c m x.c x.m = 0) := hidOf (by unfold addM; rw [hadd]; rfl)
            have HA := hidOf hadd
            have lS : w.heap.size + 1 + 1 < wr.heap.size := by omega
            have p0 := HI.out.p2.c0
            have p1 := HI.out.p2.c1
            clear hadd h1 HYES HNO HX cS cT
            go_wp2_with (go_at_call 22; refine (HAD.out _).mono ?_; rintro e w1 ⟨rfl, hb⟩; rw [HC.out, HM.out, HA.out]; have HI3 := hidOf (HI2.out.grow hb); clear hb p0 p1 lS; have cR := HI3.out.p1.c0; have cQ := HI3.out.p1.c1; have fR := HI3.out.p1.fr; have lR : w.heap.size + 1 < _ := HI3.out.p1.lt)
            refine bodyPost_ret (results_pr Try.results17 _ _ (w.heap.size + 1) 1152921504606846976 1152921504606846976 rfl ((HI3.out.p1.set _ _).grow (below1 _ _))) rfl ⟨by rw [HY.out]; rfl, ?_⟩
            exact ((HI3.out.b.setCell (p := ⟨w.heap.size + 1, 0, none⟩) (by show w.heap.size ≤ w.heap.size + 1; omega) _).setCell (p := ⟨w.heap.size + 1, 1, none⟩) (by show w.heap.size ≤ w.heap.size + 1; omega) _).alloc (by have h3 := HI3.out.z; simp; omega) _
      · have b1 : (x.nd == nd) = false := by simp [h1]
        have b1' : (x.nd != nd) = true := by simp [h1]
        have HY := hidOf ((congrArg uF (HNO.out (by rw [usB, isI_false h1]; rfl))).trans HU.out)
        clear h1 HYES HNO
        go_wp2
        go_roundw
        case rel => exact ⟨k + 1, c, m, by omega, by go_num, HY, HI2⟩
        case measure => simp [intOf]; omega
    · have hkl : k = L.length := by omega
      subst hkl
      have HV : Hid (usedV nd L = (c, m)) := hidOf (by rw [usedV, HU.out])
      have cS := HI.out.p2.c0
      have cT := HI.out.p2.c1
      have lS : w.heap.size + 1 + 1 < wr.heap.size := HI.out.p2.lt
      have cR := HI.out.p1.c0
      have cQ := HI.out.p1.c1
      have fR := HI.out.p1.fr
      have lR : w.heap.size + 1 < wr.heap.size := HI.out.p1.lt
      go_wp2
      refine bodyPost_ret (results_pr Try.results17 _ _ (w.heap.size + 1) c m rfl (HI.out.p1.set _ _)) rfl ⟨by rw [HV.out], ?_⟩
      exact (HI.out.b.setCell (p := ⟨w.heap.size + 1, 0, none⟩) (by show w.heap.size ≤ w.heap.size + 1; omega) _).setCell (p := ⟨w.heap.size + 1, 1, none⟩) (by show w.heap.size ≤ w.heap.size + 1; omega) _
end Go.Proofs.Ytajfhknfknedmaa
