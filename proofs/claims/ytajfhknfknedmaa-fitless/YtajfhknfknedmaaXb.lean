/- What is used when more is placed, of the code. -/
import Derived.Test.YtajfhknfknedmaaXa
namespace Go.Proofs.Ytajfhknfknedmaa
open Go.RowKit Go.Shelf
attribute [local go_sem] Oper.semAt_some
/- a store's nodes and allocations in memory -/
structure Sg (w : World) (s : Sc) (N : List Nd) (A : List Al) : Prop where
  n4 : s.n4 = N.length
  n5 : s.n5 = A.length
  f4 : Fl w (fun b => b < w.heap.size) 8 56 Nd.cs s.a4 N
  f5 : Fl w (fun b => b < w.heap.size) 11 88 Al.cs s.a5 A
theorem Sg.up {w w' : World} {s : Sc} {N : List Nd} {A : List Al} (h : Sg w s N A) (hb : Below w.heap.size w w') : Sg w' s N A :=
  ⟨h.n4, h.n5, h.f4.kept (fun b hb' => hb.block b hb') (fun _ hb' => Nat.lt_of_lt_of_le hb' hb.size), h.f5.kept (fun b hb' => hb.block b hb') (fun _ hb' => Nat.lt_of_lt_of_le hb' hb.size)⟩
abbrev Mr (w : World) (am : Option Addr) (M : List Al) : Prop := Fl w (fun b => b < w.heap.size) 11 88 Al.cs am M
theorem mr_up {w w' : World} {am : Option Addr} {M : List Al} (h : Mr w am M) (hb : Below w.heap.size w w') : Mr w' am M := h.kept (fun b hb' => hb.block b hb') (fun _ hb' => Nat.lt_of_lt_of_le hb' hb.size)
structure UwI (w wr : World) (q : Nat) (c m : Int) : Prop where
  p1 : Pr wr (w.heap.size + 1) 0 0
  p2 : Pr wr q c m
  b : Below w.heap.size w wr
  z : w.heap.size + 2 ≤ q
theorem UwI.grow {w W W' : World} {q : Nat} {c m : Int} (h : UwI w W q c m) (hb : Below W.heap.size W W') : UwI w W' q c m :=
  ⟨h.p1.grow hb, h.p2.grow hb, h.b.trans (hb.mono h.b.size), h.z⟩
theorem UwI.set {w W : World} {q : Nat} {c m : Int} (h : UwI w W q c m) (c' m' : Int) : UwI w ((W.setCell ⟨q, 0, none⟩ (.int .i64 c')).setCell ⟨q, 1, none⟩ (.int .i64 m')) q c' m' := by
  have hz := h.z
  exact ⟨(h.p1.other (by omega) _).other (by omega) _, h.p2.set _ _, (h.b.setCell (p := ⟨q, 0, none⟩) (by show w.heap.size ≤ q; omega) _).setCell (p := ⟨q, 1, none⟩) (by show w.heap.size ≤ q; omega) _, hz⟩
theorem UwI.begin {w w1 : World} {cs : List Value} (c m : Int) (h : Below ((w.alloc (.cells cs.toArray 29)).alloc (.cells #[.int .i64 0, .int .i64 0] 31)).heap.size ((w.alloc (.cells cs.toArray 29)).alloc (.cells #[.int .i64 0, .int .i64 0] 31)) w1) : UwI w (w1.alloc (.cells #[.int .i64 c, .int .i64 m] 31)) w1.heap.size c m := by
  have p1 := pr_new (w.alloc (.cells cs.toArray 29)) 0 0
  rw [World.size_alloc] at p1
  have hs := h.size
  simp only [World.size_alloc] at hs
  exact ⟨(p1.grow h).grow (below1 _ _), pr_new _ _ _, ((below2 w _ _).trans (h.mono (by simp only [World.size_alloc]; omega))).alloc (by omega) _, by omega⟩
set_option maxRecDepth 100000 in
set_option maxHeartbeats 4000000 in
theorem with_any (s : Sc) (nd : Int) (N : List Nd) (A M : List Al) (am : Option Addr) (cm : Nat) (w : World) (hs : Sg w s N A) (hM : Mr w am M) :
    Calls Try.prog 19 #[.agg #[.int .i64 s.ix, .int .i64 s.nx, .slice s.a2 s.n2 s.c2, .slice s.a3 s.n3 s.c3, .slice s.a4 s.n4 s.c4, .slice s.a5 s.n5 s.c5, .slice s.a6 s.n6 s.c6, .slice s.a7 s.n7 s.c7, .slice s.a8 s.n8 s.c8], .slice am M.length cm, .int .i64 nd] w fun e w' => e = .returned (.tuple #[.agg #[.int .i64 (wC (wF nd A M)), .int .i64 (wM (wF nd A M))], .bool (wF nd A M).1]) ∧ Below w.heap.size w w' := by
  have hlen : M.length * 88 ≤ 140737488355328 := hM.bd
  obtain ⟨ix, nx, a2, n2, c2, a3, n3, c3, a4, n4, c4, a5, n5, c5, a6, n6, c6, a7, n7, c7, a8, n8, c8⟩ := s
  obtain ⟨e4, e5⟩ : n4 = N.length ∧ n5 = A.length := ⟨hs.n4, hs.n5⟩
  subst e4
  subst e5
  have HM := hidOf hM
  have HU := hidOf (fun (W : World) (hW : Below w.heap.size w W) => used_any ⟨ix, nx, a2, n2, c2, a3, n3, c3, a4, N.length, c4, a5, A.length, c5, a6, n6, c6, a7, n7, c7, a8, n8, c8⟩ nd A W rfl (hs.up hW).f5)
  dsimp only at HU
  obtain ⟨⟨u1, u2⟩, hu⟩ : ∃ p, usedV nd A = p := ⟨_, rfl⟩
  rw [hu] at HU
  have HW0 := hidOf ((wF_nil nd A).trans (congrArg (Prod.mk true) hu))
  have HB0 := hidOf (below2 w (.cells #[.int .i64 ix, .int .i64 nx, .slice a2 n2 c2, .slice a3 n3 c3, .slice a4 N.length c4, .slice a5 A.length c5, .slice a6 n6 c6, .slice a7 n7 c7, .slice a8 n8 c8] 29) (.cells #[.int .i64 0, .int .i64 0] 31))
  dsimp only at HU
  clear hs hM hu
  go_enter Try.func19, Try.ntmps19
  go_wp2_with (go_at_call 25; refine (HU.out _ HB0.out).mono ?_; rintro e w1 ⟨rfl, hb⟩; have HI0 := hidOf (UwI.begin (cs := [.int .i64 ix, .int .i64 nx, .slice a2 n2 c2, .slice a3 n3 c3, .slice a4 N.length c4, .slice a5 A.length c5, .slice a6 n6 c6, .slice a7 n7 c7, .slice a8 n8 c8]) u1 u2 hb); clear hb)
  clear HU HB0
  go_loopw [18] (fun i wr => ∃ (k : Nat) (c m : Int), k ≤ M.length ∧ i = .int .i64 k ∧ Hid (wF nd A (M.take k) = (true, c, m)) ∧ Hid (UwI w wr w1.heap.size c m)) (fun i _ => M.length - (intOf i).toNat)
  case atStart => exact ⟨0, u1, u2, Nat.zero_le _, rfl, HW0, HI0⟩
  case round =>
    clear HI0 HW0
    obtain ⟨k, c, m, hk, rfl, HW, HI⟩ := hrel
    generalize w1.heap.size = q at *
    by_cases hlt : k < M.length
    · obtain ⟨b, off, ha, hbl, hc0⟩ := HM.out.at k hlt
      have hbl2 : b < wr.heap.size := Nat.lt_of_lt_of_le hbl HI.out.b.size
      have hc := range_of hc0 (HI.out.b.block b hbl)
      clear hbl hc0
      subst ha
      have HT := hidOf ((wF_take nd A M k hlt).trans (congrArg (fun s => wS nd s M[k]) HW.out))
      generalize M[k] = x at *
      have c0 : wr.cell? ⟨b, off + k * 11, none⟩ = some (.int .i64 x.id) := hc 0 _ rfl
      have c1 : wr.cell? ⟨b, off + k * 11 + 1, none⟩ = some (.int .i64 x.jb) := hc 1 _ rfl
      have c2 : wr.cell? ⟨b, off + k * 11 + 2, none⟩ = some (.int .i64 x.ve) := hc 2 _ rfl
      have c3 : wr.cell? ⟨b, off + k * 11 + 3, none⟩ = some (.int .i64 x.gr) := hc 3 _ rfl
      have c4 : wr.cell? ⟨b, off + k * 11 + 4, none⟩ = some (.int .i64 x.ix) := hc 4 _ rfl
      have c5 : wr.cell? ⟨b, off + k * 11 + 5, none⟩ = some (.int .i64 x.nd) := hc 5 _ rfl
      have c6 : wr.cell? ⟨b, off + k * 11 + 6, none⟩ = some (.int .i64 x.ep) := hc 6 _ rfl
      have c7 : wr.cell? ⟨b, off + k * 11 + 7, none⟩ = some (.int .i64 x.c) := hc 7 _ rfl
      have c8 : wr.cell? ⟨b, off + k * 11 + 8, none⟩ = some (.int .i64 x.m) := hc 8 _ rfl
      have c9 : wr.cell? ⟨b, off + k * 11 + 9, none⟩ = some (.bool x.sp) := hc 9 _ rfl
      have c10 : wr.cell? ⟨b, off + k * 11 + 10, none⟩ = some (.int .i64 x.st) := hc 10 _ rfl
      clear hc
      have HI2 := hidOf (HI.out.grow (below1 wr (.cells #[.int .i64 x.id, .int .i64 x.jb, .int .i64 x.ve, .int .i64 x.gr, .int .i64 x.ix, .int .i64 x.nd, .int .i64 x.ep, .int .i64 x.c, .int .i64 x.m, .bool x.sp, .int .i64 x.st] 39)))
      by_cases h1 : x.nd = nd
      · have b1 : (x.nd == nd) = true := by simp [h1]
        have b1' : (x.nd != nd) = false := by simp [h1]
        have HN := hidOf (isI_true h1)
        have HAD := hidOf (add_any c m x.c x.m)
        have hq1 : q < wr.heap.size := HI.out.p2.lt
        have p0 : wr.cell? ⟨q, 0, none⟩ = _ := HI.out.p2.c0
        have p1 : wr.cell? ⟨q, 1, none⟩ = _ := HI.out.p2.c1
        cases hadd : addB c m x.c x.m with
        | true =>
          have HY := hidOf (HT.out.trans (wS_yes HN.out hadd))
          have HC : Hid (addC c m x.c x.m = c + x.c) := hidOf (by unfold addC; rw [hadd]; rfl)
          have HMM : Hid (addM c m x.c x.m = m + x.m) := hidOf (by unfold addM; rw [hadd]; rfl)
          have HA := hidOf hadd
          clear hadd h1
          go_wp2_with (go_at_call 26; refine (HAD.out _).mono ?_; rintro e w2 ⟨rfl, hb⟩; rw [HC.out, HMM.out, HA.out]; have HI3 := hidOf (HI2.out.grow hb); clear hb p0 p1 hq1; have cS := fun o => (HI3.out.p2.grow (below1 w2 o)).c0; have cT := fun o => (HI3.out.p2.grow (below1 w2 o)).c1; have fS := fun o => (HI3.out.p2.grow (below1 w2 o)).fr; have lS : ∀ o, q < (w2.alloc o).heap.size := (fun o => (HI3.out.p2.grow (below1 w2 o)).lt))
          go_roundw
          case rel => exact ⟨k + 1, c + x.c, m + x.m, by omega, by go_num, HY, hidOf ((HI3.out.grow (below1 _ _)).set _ _)⟩
          case measure => simp [intOf]; omega
        | false =>
          have HY := hidOf (wF_bad (HT.out.trans (wS_bad HN.out hadd)))
          have HC : Hid (addC c m x.c x.m = 0) := hidOf (by unfold addC; rw [hadd]; rfl)
          have HMM : Hid (addM c m x.c x.m = 0) := hidOf (by unfold addM; rw [hadd]; rfl)
          have HA := hidOf hadd
          clear hadd h1
          go_wp2_with (go_at_call 26; refine (HAD.out _).mono ?_; rintro e w2 ⟨rfl, hb⟩; rw [HC.out, HMM.out, HA.out]; have HI3 := hidOf (HI2.out.grow hb); clear hb p0 p1 hq1; have cS := fun o => (HI3.out.p1.grow (below1 w2 o)).c0; have cT := fun o => (HI3.out.p1.grow (below1 w2 o)).c1; have fS := fun o => (HI3.out.p1.grow (below1 w2 o)).fr; have lS : ∀ o, w.heap.size + 1 < (w2.alloc o).heap.size := (fun o => (HI3.out.p1.grow (below1 w2 o)).lt))
          refine bodyPost_ret (results_pair Try.results19 _ _ (w.heap.size + 1) 0 0 (.bool false) rfl rfl ((HI3.out.grow (below1 _ _)).p1.set 0 0)) rfl ⟨by rw [HY.out]; rfl, ?_⟩
          exact ((HI3.out.grow (below1 _ _)).b.setCell (p := ⟨w.heap.size + 1, 0, none⟩) (by show w.heap.size ≤ w.heap.size + 1; omega) _).setCell (p := ⟨w.heap.size + 1, 1, none⟩) (by show w.heap.size ≤ w.heap.size + 1; omega) _
      · have b1 : (x.nd == nd) = false := by simp [h1]
        have b1' : (x.nd != nd) = true := by simp [h1]
        have HY := hidOf (HT.out.trans (wS_no (isI_false h1) _))
        clear h1
        go_wp2
        go_roundw
        case rel => exact ⟨k + 1, c, m, by omega, by go_num, HY, HI2⟩
        case measure => simp [intOf]; omega
    · have hkl : k = M.length := by omega
      subst hkl
      have HV : Hid (wF nd A M = (true, c, m)) := hidOf (by have := HW.out; rwa [List.take_length] at this)
      have cS : wr.cell? ⟨q, 0, none⟩ = _ := HI.out.p2.c0
      have cT : wr.cell? ⟨q, 1, none⟩ = _ := HI.out.p2.c1
      have lS : q < wr.heap.size := HI.out.p2.lt
      have cR : wr.cell? ⟨w.heap.size + 1, 0, none⟩ = _ := HI.out.p1.c0
      have cQ : wr.cell? ⟨w.heap.size + 1, 1, none⟩ = _ := HI.out.p1.c1
      have fR := HI.out.p1.fr
      have lR : w.heap.size + 1 < wr.heap.size := HI.out.p1.lt
      go_wp2
      refine bodyPost_ret (results_pair Try.results19 _ _ (w.heap.size + 1) c m (.bool true) rfl rfl (HI.out.p1.set _ _)) rfl ⟨by rw [HV.out]; rfl, ?_⟩
      exact (HI.out.b.setCell (p := ⟨w.heap.size + 1, 0, none⟩) (by show w.heap.size ≤ w.heap.size + 1; omega) _).setCell (p := ⟨w.heap.size + 1, 1, none⟩) (by show w.heap.size ≤ w.heap.size + 1; omega) _
end Go.Proofs.Ytajfhknfknedmaa
