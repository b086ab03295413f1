/- Several texts in one (wip/gen/group.py). -/
import Derived.Test.YtblofbdncolikaaGu
import Derived.Test.YtblofbdncolikaaLf
import Derived.Test.YtblofbdncolikaaLx
import Derived.Laws.Runes
/- What fits, what is left, and which is better, of the code. -/
namespace Go.Proofs.Ytblofbdncolikaa
open Go.RowKit Go.Shelf
attribute [local go_sem] Oper.semAt_some
def fitB (x y x' y' p q : Int) : Bool := addB x y x' y' && (decide (x + x' ≤ p) && decide (y + y' ≤ q))
theorem fit_val (x y x' y' p q : Int) : fitB x y x' y' p q = (addB x y x' y' && (decide (addC x y x' y' ≤ p) && decide (addM x y x' y' ≤ q))) := by
 unfold fitB addC addM
 cases h : addB x y x' y' <;> simp
set_option maxHeartbeats 2000000 in
theorem fits_any (x y x' y' p q : Int) (w : World) : Calls Try.prog 68 #[.agg #[.int .i64 x, .int .i64 y], .agg #[.int .i64 x', .int .i64 y'], .agg #[.int .i64 p, .int .i64 q]] w fun e w' => e = .returned (.bool (fitB x y x' y' p q)) ∧ Below w.heap.size w w' := by
 have H0 := hidOf (FtS.begin w x y x' y' p q)
 have HA := add_any x y x' y'
 rw [fit_val]
 generalize addC x y x' y' = c at *
 generalize addM x y x' y' = m at *
 generalize addB x y x' y' = d at *
 cases d
 ·go_enter Try.func68, Try.ntmps68
  go_wp2_with (go_at_call 75; refine (HA _).mono ?_; rintro e w1 ⟨rfl, hb⟩; have H1 := hidOf (H0.out.grow hb); clear hb HA; have r0 := fun o => (H1.out.r.grow (below1 w1 o)).c0; have r1 := fun o => (H1.out.r.grow (below1 w1 o)).c1; have l2 : ∀ o, w.heap.size + 1 + 1 < (w1.alloc o).heap.size := (fun o => (H1.out.r.grow (below1 w1 o)).lt))
  go_ret
  exact ⟨rfl, H1.out.bel.alloc H1.out.bel.size _⟩
 ·by_cases h1 : c ≤ p
  ·rw [decide_eq_true h1]
   go_enter Try.func68, Try.ntmps68
   go_wp2_with (go_at_call 75; refine (HA _).mono ?_; rintro e w1 ⟨rfl, hb⟩; have H1 := hidOf (H0.out.grow hb); clear hb HA; have r0 := fun o => (H1.out.r.grow (below1 w1 o)).c0; have r1 := fun o => (H1.out.r.grow (below1 w1 o)).c1; have l2 : ∀ o, w.heap.size + 1 + 1 < (w1.alloc o).heap.size := (fun o => (H1.out.r.grow (below1 w1 o)).lt))
   go_ret
   exact ⟨rfl, H1.out.bel.alloc H1.out.bel.size _⟩
  ·rw [decide_eq_false h1]
   go_enter Try.func68, Try.ntmps68
   go_wp2_with (go_at_call 75; refine (HA _).mono ?_; rintro e w1 ⟨rfl, hb⟩; have H1 := hidOf (H0.out.grow hb); clear hb HA; have r0 := fun o => (H1.out.r.grow (below1 w1 o)).c0; have r1 := fun o => (H1.out.r.grow (below1 w1 o)).c1; have l2 : ∀ o, w.heap.size + 1 + 1 < (w1.alloc o).heap.size := (fun o => (H1.out.r.grow (below1 w1 o)).lt))
   go_ret
   exact ⟨rfl, H1.out.bel.alloc H1.out.bel.size _⟩
set_option maxHeartbeats 2000000 in
theorem left_any (x y a b p q : Int) (w : World) (hx : 0 ≤ x) (hy : 0 ≤ y) (ha : 0 ≤ a) (hb : 0 ≤ b) (hp : x + a ≤ p) (hq : y + b ≤ q) (hp1 : p ≤ 2305843009213693952) (hq1 : q ≤ 2305843009213693952) :
  Calls Try.prog 69 #[.agg #[.int .i64 x, .int .i64 y], .agg #[.int .i64 a, .int .i64 b], .agg #[.int .i64 p, .int .i64 q]] w fun e w' => e = .returned (.int .u64 ((p - (x + a)) + (q - (y + b)))) ∧ Below w.heap.size w w' := by
 have H0 := hidOf (FtS.begin w x y a b p q)
 go_enter Try.func69, Try.ntmps69
 go_wp2
 go_ret
 refine ⟨?_, H0.out.bel⟩
 show Ending.returned (.int .u64 (p - x - a + (q - y - b))) = _
 rw [show p - x - a + (q - y - b) = p - (x + a) + (q - (y + b)) by omega]
theorem below3 (w : World) (a b : Obj) (i : Nat) (h : i ≤ w.heap.size) : Below i w ((w.alloc a).alloc b) := ((Below.refl _ w).alloc h _).alloc (by simp; omega) _
set_option maxHeartbeats 2000000 in
theorem better_any (i l j k : Int) (w : World) : Calls Try.prog 55 #[.agg #[.int .i64 i, .int .u64 l], .agg #[.int .i64 j, .int .u64 k]] w fun e w' => e = .returned (.bool (bt (i, l) (j, k))) ∧ Below w.heap.size w w' := by
 have HB := hidOf (below2 w (.cells #[.int .i64 i, .int .u64 l] 122) (.cells #[.int .i64 j, .int .u64 k] 122))
 by_cases h1 : l < k
 ·have e : bt (i, l) (j, k) = true := by simp [bt, h1]
  rw [e]
  clear e
  go_enter Try.func55, Try.ntmps55
  go_wp2
  go_ret
  exact ⟨rfl, HB.out⟩
 ·by_cases h2 : l = k
  ·subst h2
   by_cases h3 : i < j
   ·have e : bt (i, l) (j, l) = true := by simp [bt, h3]
    rw [e]
    clear e
    go_enter Try.func55, Try.ntmps55
    go_wp2
    go_ret
    exact ⟨rfl, HB.out⟩
   ·have e : bt (i, l) (j, l) = false := by simp [bt, h3]
    rw [e]
    clear e
    go_enter Try.func55, Try.ntmps55
    go_wp2
    go_ret
    exact ⟨rfl, HB.out⟩
  ·have e : bt (i, l) (j, k) = false := by simp [bt, h1, h2]
   have e2 : (l == k) = false := by simp [h2]
   rw [e]
   clear e h2
   go_enter Try.func55, Try.ntmps55
   go_wp2
   go_ret
   exact ⟨rfl, HB.out⟩
end Go.Proofs.Ytblofbdncolikaa

/- What is used when more is placed, of the code. -/
namespace Go.Proofs.Ytblofbdncolikaa
open Go.RowKit Go.Shelf
attribute [local go_sem] Oper.semAt_some
/- a store's nodes and allocations in memory -/
structure Sg (w : World) (s : Sc) (N : List Nd) (A : List Al) : Prop where
 n4 : s.n4 = N.length
 n5 : s.n5 = A.length
 f4 : Fl w (fun b => b < w.heap.size) 8 56 Nd.cs s.a4 N
 f5 : Fl w (fun b => b < w.heap.size) 11 88 Al.cs s.a5 A
theorem Sg.up {w w' : World} {s : Sc} {N : List Nd} {A : List Al} (h : Sg w s N A) (hb : Below w.heap.size w w') : Sg w' s N A :=
 ⟨h.n4, h.n5, h.f4.kept (fun b hb' => hb.block b hb') (fun _ hb' => Nat.lt_of_lt_of_le hb' hb.size), h.f5.kept (fun b hb' => hb.block b hb') (fun _ hb' => Nat.lt_of_lt_of_le hb' hb.size)⟩
abbrev Mr (w : World) (am : Option Addr) (M : List Al) : Prop := Fl w (fun b => b < w.heap.size) 11 88 Al.cs am M
theorem mr_up {w w' : World} {am : Option Addr} {M : List Al} (h : Mr w am M) (hb : Below w.heap.size w w') : Mr w' am M := h.kept (fun b hb' => hb.block b hb') (fun _ hb' => Nat.lt_of_lt_of_le hb' hb.size)
structure UwI (w wr : World) (q : Nat) (c m : Int) : Prop where
 p1 : Pr wr (w.heap.size + 1) 0 0
 p2 : Pr wr q c m
 b : Below w.heap.size w wr
 z : w.heap.size + 2 ≤ q
theorem UwI.grow {w W W' : World} {q : Nat} {c m : Int} (h : UwI w W q c m) (hb : Below W.heap.size W W') : UwI w W' q c m :=
 ⟨h.p1.grow hb, h.p2.grow hb, h.b.trans (hb.mono h.b.size), h.z⟩
theorem UwI.set {w W : World} {q : Nat} {c m : Int} (h : UwI w W q c m) (c' m' : Int) : UwI w ((W.setCell ⟨q, 0, none⟩ (.int .i64 c')).setCell ⟨q, 1, none⟩ (.int .i64 m')) q c' m' := by
 have hz := h.z
 exact ⟨(h.p1.other (by omega) _).other (by omega) _, h.p2.set _ _, (h.b.setCell (p := ⟨q, 0, none⟩) (by show w.heap.size ≤ q; omega) _).setCell (p := ⟨q, 1, none⟩) (by show w.heap.size ≤ q; omega) _, hz⟩
theorem UwI.begin {w w1 : World} {cs : List Value} (c m : Int) (h : Below ((w.alloc (.cells cs.toArray 29)).alloc (.cells #[.int .i64 0, .int .i64 0] 40)).heap.size ((w.alloc (.cells cs.toArray 29)).alloc (.cells #[.int .i64 0, .int .i64 0] 40)) w1) : UwI w (w1.alloc (.cells #[.int .i64 c, .int .i64 m] 40)) w1.heap.size c m := by
 have p1 := pr_new (w.alloc (.cells cs.toArray 29)) 0 0
 rw [World.size_alloc] at p1
 have hs := h.size
 simp only [World.size_alloc] at hs
 exact ⟨(p1.grow h).grow (below1 _ _), pr_new _ _ _, ((below2 w _ _).trans (h.mono (by simp only [World.size_alloc]; omega))).alloc (by omega) _, by omega⟩
set_option maxRecDepth 100000 in
set_option maxHeartbeats 4000000 in
theorem with_any (s : Sc) (nd : Int) (N : List Nd) (A M : List Al) (am : Option Addr) (cm : Nat) (w : World) (hs : Sg w s N A) (hM : Mr w am M) :
  Calls Try.prog 67 #[.agg #[.int .i64 s.ix, .int .i64 s.nx, .slice s.a2 s.n2 s.c2, .slice s.a3 s.n3 s.c3, .slice s.a4 s.n4 s.c4, .slice s.a5 s.n5 s.c5, .slice s.a6 s.n6 s.c6, .slice s.a7 s.n7 s.c7, .slice s.a8 s.n8 s.c8], .slice am M.length cm, .int .i64 nd] w fun e w' => e = .returned (.tuple #[.agg #[.int .i64 (wC (wF nd A M)), .int .i64 (wM (wF nd A M))], .bool (wF nd A M).1]) ∧ Below w.heap.size w w' := by
 have hlen : M.length * 88 ≤ 140737488355328 := hM.bd
 obtain ⟨ix, nx, a2, n2, c2, a3, n3, c3, a4, n4, c4, a5, n5, c5, a6, n6, c6, a7, n7, c7, a8, n8, c8⟩ := s
 obtain ⟨e4, e5⟩ : n4 = N.length ∧ n5 = A.length := ⟨hs.n4, hs.n5⟩
 subst e4
 subst e5
 have HM := hidOf hM
 have HU := hidOf (fun (W : World) (hW : Below w.heap.size w W) => used_any ⟨ix, nx, a2, n2, c2, a3, n3, c3, a4, N.length, c4, a5, A.length, c5, a6, n6, c6, a7, n7, c7, a8, n8, c8⟩ nd A W rfl (hs.up hW).f5)
 dsimp only at HU
 obtain ⟨⟨u1, u2⟩, hu⟩ : ∃ p, usedV nd A = p := ⟨_, rfl⟩
 rw [hu] at HU
 have HW0 := hidOf ((wF_nil nd A).trans (congrArg (Prod.mk true) hu))
 have HB0 := hidOf (below2 w (.cells #[.int .i64 ix, .int .i64 nx, .slice a2 n2 c2, .slice a3 n3 c3, .slice a4 N.length c4, .slice a5 A.length c5, .slice a6 n6 c6, .slice a7 n7 c7, .slice a8 n8 c8] 29) (.cells #[.int .i64 0, .int .i64 0] 40))
 dsimp only at HU
 clear hs hM hu
 go_enter Try.func67, Try.ntmps67
 go_wp2_with (go_at_call 74; refine (HU.out _ HB0.out).mono ?_; rintro e w1 ⟨rfl, hb⟩; have HI0 := hidOf (UwI.begin (cs := [.int .i64 ix, .int .i64 nx, .slice a2 n2 c2, .slice a3 n3 c3, .slice a4 N.length c4, .slice a5 A.length c5, .slice a6 n6 c6, .slice a7 n7 c7, .slice a8 n8 c8]) u1 u2 hb); clear hb)
 clear HU HB0
 go_loopw [18] (fun i wr => ∃ (k : Nat) (c m : Int), k ≤ M.length ∧ i = .int .i64 k ∧ Hid (wF nd A (M.take k) = (true, c, m)) ∧ Hid (UwI w wr w1.heap.size c m)) (fun i _ => M.length - (intOf i).toNat)
 case atStart => exact ⟨0, u1, u2, Nat.zero_le _, rfl, HW0, HI0⟩
 case round =>
  clear HI0 HW0
  obtain ⟨k, c, m, hk, rfl, HW, HI⟩ := hrel
  generalize w1.heap.size = q at *
  by_cases hlt : k < M.length
  ·obtain ⟨b, off, ha, hbl, hc0⟩ := HM.out.at k hlt
   have hbl2 : b < wr.heap.size := Nat.lt_of_lt_of_le hbl HI.out.b.size
   have hc := range_of hc0 (HI.out.b.block b hbl)
   clear hbl hc0
   subst ha
   have HT := hidOf ((wF_take nd A M k hlt).trans (congrArg (fun s => wS nd s M[k]) HW.out))
   generalize M[k] = x at *
   have c0 : wr.cell? ⟨b, off + k * 11, none⟩ = some (.int .i64 x.id) := hc 0 _ rfl
   have c1 : wr.cell? ⟨b, off + k * 11 + 1, none⟩ = some (.int .i64 x.jb) := hc 1 _ rfl
   have c2 : wr.cell? ⟨b, off + k * 11 + 2, none⟩ = some (.int .i64 x.ve) := hc 2 _ rfl
   have c3 : wr.cell? ⟨b, off + k * 11 + 3, none⟩ = some (.int .i64 x.gr) := hc 3 _ rfl
   have c4 : wr.cell? ⟨b, off + k * 11 + 4, none⟩ = some (.int .i64 x.ix) := hc 4 _ rfl
   have c5 : wr.cell? ⟨b, off + k * 11 + 5, none⟩ = some (.int .i64 x.nd) := hc 5 _ rfl
   have c6 : wr.cell? ⟨b, off + k * 11 + 6, none⟩ = some (.int .i64 x.ep) := hc 6 _ rfl
   have c7 : wr.cell? ⟨b, off + k * 11 + 7, none⟩ = some (.int .i64 x.c) := hc 7 _ rfl
   have c8 : wr.cell? ⟨b, off + k * 11 + 8, none⟩ = some (.int .i64 x.m) := hc 8 _ rfl
   have c9 : wr.cell? ⟨b, off + k * 11 + 9, none⟩ = some (.bool x.sp) := hc 9 _ rfl
   have c10 : wr.cell? ⟨b, off + k * 11 + 10, none⟩ = some (.int .i64 x.st) := hc 10 _ rfl
   clear hc
   have HI2 := hidOf (HI.out.grow (below1 wr (.cells #[.int .i64 x.id, .int .i64 x.jb, .int .i64 x.ve, .int .i64 x.gr, .int .i64 x.ix, .int .i64 x.nd, .int .i64 x.ep, .int .i64 x.c, .int .i64 x.m, .bool x.sp, .int .i64 x.st] 42)))
   by_cases h1 : x.nd = nd
   ·have b1 : (x.nd == nd) = true := by simp [h1]
    have b1' : (x.nd != nd) = false := by simp [h1]
    have HN := hidOf (isI_true h1)
    have HAD := hidOf (add_any c m x.c x.m)
    have hq1 : q < wr.heap.size := HI.out.p2.lt
    have p0 : wr.cell? ⟨q, 0, none⟩ = _ := HI.out.p2.c0
    have p1 : wr.cell? ⟨q, 1, none⟩ = _ := HI.out.p2.c1
    cases hadd : addB c m x.c x.m with
    | true =>
     have HY := hidOf (HT.out.trans (wS_yes HN.out hadd))
     have HC : Hid (addC c m x.c x.m = c + x.c) := hidOf (by unfold addC; rw [hadd]; rfl)
     have HMM : Hid (addM c m x.c x.m = m + x.m) := hidOf (by unfold addM; rw [hadd]; rfl)
     have HA := hidOf hadd
     clear hadd h1
     go_wp2_with (go_at_call 75; refine (HAD.out _).mono ?_; rintro e w2 ⟨rfl, hb⟩; rw [HC.out, HMM.out, HA.out]; have HI3 := hidOf (HI2.out.grow hb); clear hb p0 p1 hq1; have cS := fun o => (HI3.out.p2.grow (below1 w2 o)).c0; have cT := fun o => (HI3.out.p2.grow (below1 w2 o)).c1; have fS := fun o => (HI3.out.p2.grow (below1 w2 o)).fr; have lS : ∀ o, q < (w2.alloc o).heap.size := (fun o => (HI3.out.p2.grow (below1 w2 o)).lt))
     go_roundw
     case rel => exact ⟨k + 1, c + x.c, m + x.m, by omega, by go_num, HY, hidOf ((HI3.out.grow (below1 _ _)).set _ _)⟩
     case measure => simp [intOf]; omega
    | false =>
     have HY := hidOf (wF_bad (HT.out.trans (wS_bad HN.out hadd)))
     have HC : Hid (addC c m x.c x.m = 0) := hidOf (by unfold addC; rw [hadd]; rfl)
     have HMM : Hid (addM c m x.c x.m = 0) := hidOf (by unfold addM; rw [hadd]; rfl)
     have HA := hidOf hadd
     clear hadd h1
     go_wp2_with (go_at_call 75; refine (HAD.out _).mono ?_; rintro e w2 ⟨rfl, hb⟩; rw [HC.out, HMM.out, HA.out]; have HI3 := hidOf (HI2.out.grow hb); clear hb p0 p1 hq1; have cS := fun o => (HI3.out.p1.grow (below1 w2 o)).c0; have cT := fun o => (HI3.out.p1.grow (below1 w2 o)).c1; have fS := fun o => (HI3.out.p1.grow (below1 w2 o)).fr; have lS : ∀ o, w.heap.size + 1 < (w2.alloc o).heap.size := (fun o => (HI3.out.p1.grow (below1 w2 o)).lt))
     refine bodyPost_ret (results_pair Try.results67 _ _ (w.heap.size + 1) 0 0 (.bool false) rfl rfl ((HI3.out.grow (below1 _ _)).p1.set 0 0)) rfl ⟨by rw [HY.out]; rfl, ?_⟩
     exact ((HI3.out.grow (below1 _ _)).b.setCell (p := ⟨w.heap.size + 1, 0, none⟩) (by show w.heap.size ≤ w.heap.size + 1; omega) _).setCell (p := ⟨w.heap.size + 1, 1, none⟩) (by show w.heap.size ≤ w.heap.size + 1; omega) _
   ·have b1 : (x.nd == nd) = false := by simp [h1]
    have b1' : (x.nd != nd) = true := by simp [h1]
    have HY := hidOf (HT.out.trans (wS_no (isI_false h1) _))
    clear h1
    go_wp2
    go_roundw
    case rel => exact ⟨k + 1, c, m, by omega, by go_num, HY, HI2⟩
    case measure => simp [intOf]; omega
  ·have hkl : k = M.length := by omega
   subst hkl
   have HV : Hid (wF nd A M = (true, c, m)) := hidOf (by have := HW.out; rwa [List.take_length] at this)
   have cS : wr.cell? ⟨q, 0, none⟩ = _ := HI.out.p2.c0
   have cT : wr.cell? ⟨q, 1, none⟩ = _ := HI.out.p2.c1
   have lS : q < wr.heap.size := HI.out.p2.lt
   have cR : wr.cell? ⟨w.heap.size + 1, 0, none⟩ = _ := HI.out.p1.c0
   have cQ : wr.cell? ⟨w.heap.size + 1, 1, none⟩ = _ := HI.out.p1.c1
   have fR := HI.out.p1.fr
   have lR : w.heap.size + 1 < wr.heap.size := HI.out.p1.lt
   go_wp2
   refine bodyPost_ret (results_pair Try.results67 _ _ (w.heap.size + 1) c m (.bool true) rfl rfl (HI.out.p1.set _ _)) rfl ⟨by rw [HV.out]; rfl, ?_⟩
   exact (HI.out.b.setCell (p := ⟨w.heap.size + 1, 0, none⟩) (by show w.heap.size ≤ w.heap.size + 1; omega) _).setCell (p := ⟨w.heap.size + 1, 1, none⟩) (by show w.heap.size ≤ w.heap.size + 1; omega) _
end Go.Proofs.Ytblofbdncolikaa

/- On which node a demand is placed, of the code. -/
namespace Go.Proofs.Ytblofbdncolikaa
open Go.RowKit Go.Shelf
attribute [local go_sem] Oper.semAt_some
/- a choice stands in block p -/
def Ch (w : World) (p : Nat) (i l : Int) : Prop := w.heap[p]? = some (.cells #[.int .i64 i, .int .u64 l] 122 (0, 0))
theorem Ch.c0 {w : World} {p : Nat} {i l : Int} (h : Ch w p i l) : w.cell? ⟨p, 0, none⟩ = some (.int .i64 i) := by rw [cell_of_row w p 0 _ 122 (0, 0) h]; rfl
theorem Ch.c1 {w : World} {p : Nat} {i l : Int} (h : Ch w p i l) : w.cell? ⟨p, 1, none⟩ = some (.int .u64 l) := by rw [cell_of_row w p 1 _ 122 (0, 0) h]; rfl
theorem Ch.lt {w : World} {p : Nat} {i l : Int} (h : Ch w p i l) : p < w.heap.size := heap_lt h
theorem Ch.grow {w w' : World} {p : Nat} {i l : Int} (h : Ch w p i l) (hb : Below w.heap.size w w') : Ch w' p i l := (hb.block p h.lt).trans h
/- what is answered: no choice, or one -/
def ChP (o : Option Int) (nd : Int) (w : World) (e : Ending) (w' : World) : Prop := match o with
 | none => e = .returned (.pointer none) ∧ Below w.heap.size w w'
 | some l => ∃ p, e = .returned (.pointer (some ⟨p, 0, none⟩)) ∧ Ch w' p nd l ∧ Below w.heap.size w w'
set_option maxRecDepth 100000 in
set_option maxHeartbeats 4000000 in
theorem choose_any (s : Sc) (nd a b : Int) (N : List Nd) (A M : List Al) (am : Option Addr) (cm : Nat) (w : World) (hs : Sg w s N A) (hM : Mr w am M) (hcap : cpL N = true) :
  Calls Try.prog 54 #[.agg #[.int .i64 s.ix, .int .i64 s.nx, .slice s.a2 s.n2 s.c2, .slice s.a3 s.n3 s.c3, .slice s.a4 s.n4 s.c4, .slice s.a5 s.n5 s.c5, .slice s.a6 s.n6 s.c6, .slice s.a7 s.n7 s.c7, .slice s.a8 s.n8 s.c8], .slice am M.length cm, .int .i64 nd, .agg #[.int .i64 a, .int .i64 b]] w fun e w' => ChP (chV N A M nd a b) nd w e w' := by
 obtain ⟨ix, nx, a2, n2, c2, a3, n3, c3, a4, n4, c4, a5, n5, c5, a6, n6, c6, a7, n7, c7, a8, n8, c8⟩ := s
 obtain ⟨e4, e5⟩ : n4 = N.length ∧ n5 = A.length := ⟨hs.n4, hs.n5⟩
 subst e4
 subst e5
 have HN := hidOf (fun (W : World) (hW : Below w.heap.size w W) => node_any ⟨ix, nx, a2, n2, c2, a3, n3, c3, a4, N.length, c4, a5, A.length, c5, a6, n6, c6, a7, n7, c7, a8, n8, c8⟩ nd N W rfl (hs.up hW).f4)
 have HU := hidOf (fun (W : World) (hW : Below w.heap.size w W) => with_any ⟨ix, nx, a2, n2, c2, a3, n3, c3, a4, N.length, c4, a5, A.length, c5, a6, n6, c6, a7, n7, c7, a8, n8, c8⟩ nd N A M am cm W (hs.up hW) (mr_up hM hW))
 dsimp only at HN HU
 have Z0 := hidOf (FdS.begin w [.int .i64 ix, .int .i64 nx, .slice a2 n2 c2, .slice a3 n3 c3, .slice a4 N.length c4, .slice a5 A.length c5, .slice a6 n6 c6, .slice a7 n7 c7, .slice a8 n8 c8] [.int .i64 a, .int .i64 b] 29 40)
 have hln : N.length ≤ 140737488355328 := Nat.le_trans (Nat.le_mul_of_pos_right _ (by decide)) hs.f4.bd
 rcases fi_range (fun y : Nd => isI y.id nd) N with hf | ⟨i, hi, hf⟩
 ·have HR := hidOf (chV_no (A := A) (M := M) (a := a) (b := b) hf)
  have HF := hidOf hf
  clear hf hs hM hcap HU
  go_enter Try.func54, Try.ntmps54
  go_wp2_with (go_at_call 39; refine (HN.out _ Z0.out.b).mono ?_; rintro e w1 ⟨rfl, hb⟩; rw [HF.out]; have Z1 := hidOf (Z0.out.grow hb); clear hb)
  go_ret
  rw [HR.out]
  exact ⟨rfl, Z1.out.b⟩
 ·obtain ⟨bb, off, ha, hbl0, hc0⟩ := hs.f4.at i hi
  have hcp := cpL_at hcap i hi
  have HR := hidOf (chV_at (A := A) (M := M) (a := a) (b := b) hi hf)
  have HF := hidOf hf
  have HC0 := hidOf hc0
  have HBL := hidOf hbl0
  have hi64 : (i : Int) < (N.length : Int) := by omega
  have hi0 : ¬ ((i : Int) < 0) := by omega
  have hi1 : (0 : Int) ≤ (i : Int) := by omega
  dsimp only at ha
  subst ha
  clear hf hs hM hcap hc0 hbl0
  generalize N[i] = n at *
  cases hup : n.up with
  | false =>
   have HQ := hidOf (HR.out.trans (nvF_down hup))
   have HUP := hidOf hup
   clear hup hcp HU
   go_enter Try.func54, Try.ntmps54
   go_wp2_with (go_at_call 39; refine (HN.out _ Z0.out.b).mono ?_; rintro e w1 ⟨rfl, hb⟩; rw [HF.out]; have Z1 := hidOf (Z0.out.grow hb); clear hb; have s0 : w1.cell? ⟨w.heap.size, 0, none⟩ = some (.int .i64 ix) := Z1.out.s 0 _ rfl; have s1 : w1.cell? ⟨w.heap.size, 1, none⟩ = some (.int .i64 nx) := Z1.out.s 1 _ rfl; have s2 : w1.cell? ⟨w.heap.size, 2, none⟩ = some (.slice a2 n2 c2) := Z1.out.s 2 _ rfl; have s3 : w1.cell? ⟨w.heap.size, 3, none⟩ = some (.slice a3 n3 c3) := Z1.out.s 3 _ rfl; have s4 : w1.cell? ⟨w.heap.size, 4, none⟩ = some (.slice (some ⟨bb, off, none⟩) N.length c4) := Z1.out.s 4 _ rfl; have s5 : w1.cell? ⟨w.heap.size, 5, none⟩ = some (.slice a5 A.length c5) := Z1.out.s 5 _ rfl; have s6 : w1.cell? ⟨w.heap.size, 6, none⟩ = some (.slice a6 n6 c6) := Z1.out.s 6 _ rfl; have s7 : w1.cell? ⟨w.heap.size, 7, none⟩ = some (.slice a7 n7 c7) := Z1.out.s 7 _ rfl; have s8 : w1.cell? ⟨w.heap.size, 8, none⟩ = some (.slice a8 n8 c8) := Z1.out.s 8 _ rfl; have lw : w.heap.size < w1.heap.size := Nat.lt_of_succ_lt Z1.out.l; have la : w.heap.size + 1 < w1.heap.size := Z1.out.l; have a0 : w1.cell? ⟨w.heap.size + 1, 0, none⟩ = some (.int .i64 a) := Z1.out.a 0 _ rfl; have a1 : w1.cell? ⟨w.heap.size + 1, 1, none⟩ = some (.int .i64 b) := Z1.out.a 1 _ rfl; have hc := range_of HC0.out (Z1.out.b.block bb HBL.out); have hbl : bb < w1.heap.size := Nat.lt_of_lt_of_le HBL.out Z1.out.b.size; have c0 : w1.cell? ⟨bb, off + i * 8, none⟩ = some (.int .i64 n.id) := hc 0 _ rfl; have c1 : w1.cell? ⟨bb, off + i * 8 + 1, none⟩ = some (.int .i64 n.c) := hc 1 _ rfl; have c2 : w1.cell? ⟨bb, off + i * 8 + 2, none⟩ = some (.int .i64 n.m) := hc 2 _ rfl; have c3 : w1.cell? ⟨bb, off + i * 8 + 3, none⟩ = some (.bool n.up) := hc 3 _ rfl; have c4 : w1.cell? ⟨bb, off + i * 8 + 4, none⟩ = some (.bool n.dr) := hc 4 _ rfl; have c5 : w1.cell? ⟨bb, off + i * 8 + 5, none⟩ = some (.int .i64 n.bo) := hc 5 _ rfl; have c6 : w1.cell? ⟨bb, off + i * 8 + 6, none⟩ = some (.int .i64 n.ep) := hc 6 _ rfl; have c7 : w1.cell? ⟨bb, off + i * 8 + 7, none⟩ = some (.int .i64 n.se) := hc 7 _ rfl; clear hc; rw [HUP.out] at c3)
   go_ret
   rw [HQ.out]
   exact ⟨rfl, Z1.out.b⟩
  | true =>
   have HUP := hidOf hup
   cases hdr : n.dr with
   | true =>
    have HQ := hidOf (HR.out.trans (nvF_drain hdr))
    have HDR := hidOf hdr
    clear hup hdr hcp HU
    go_enter Try.func54, Try.ntmps54
    go_wp2_with (go_at_call 39; refine (HN.out _ Z0.out.b).mono ?_; rintro e w1 ⟨rfl, hb⟩; rw [HF.out]; have Z1 := hidOf (Z0.out.grow hb); clear hb; have s0 : w1.cell? ⟨w.heap.size, 0, none⟩ = some (.int .i64 ix) := Z1.out.s 0 _ rfl; have s1 : w1.cell? ⟨w.heap.size, 1, none⟩ = some (.int .i64 nx) := Z1.out.s 1 _ rfl; have s2 : w1.cell? ⟨w.heap.size, 2, none⟩ = some (.slice a2 n2 c2) := Z1.out.s 2 _ rfl; have s3 : w1.cell? ⟨w.heap.size, 3, none⟩ = some (.slice a3 n3 c3) := Z1.out.s 3 _ rfl; have s4 : w1.cell? ⟨w.heap.size, 4, none⟩ = some (.slice (some ⟨bb, off, none⟩) N.length c4) := Z1.out.s 4 _ rfl; have s5 : w1.cell? ⟨w.heap.size, 5, none⟩ = some (.slice a5 A.length c5) := Z1.out.s 5 _ rfl; have s6 : w1.cell? ⟨w.heap.size, 6, none⟩ = some (.slice a6 n6 c6) := Z1.out.s 6 _ rfl; have s7 : w1.cell? ⟨w.heap.size, 7, none⟩ = some (.slice a7 n7 c7) := Z1.out.s 7 _ rfl; have s8 : w1.cell? ⟨w.heap.size, 8, none⟩ = some (.slice a8 n8 c8) := Z1.out.s 8 _ rfl; have lw : w.heap.size < w1.heap.size := Nat.lt_of_succ_lt Z1.out.l; have la : w.heap.size + 1 < w1.heap.size := Z1.out.l; have a0 : w1.cell? ⟨w.heap.size + 1, 0, none⟩ = some (.int .i64 a) := Z1.out.a 0 _ rfl; have a1 : w1.cell? ⟨w.heap.size + 1, 1, none⟩ = some (.int .i64 b) := Z1.out.a 1 _ rfl; have hc := range_of HC0.out (Z1.out.b.block bb HBL.out); have hbl : bb < w1.heap.size := Nat.lt_of_lt_of_le HBL.out Z1.out.b.size; have c0 : w1.cell? ⟨bb, off + i * 8, none⟩ = some (.int .i64 n.id) := hc 0 _ rfl; have c1 : w1.cell? ⟨bb, off + i * 8 + 1, none⟩ = some (.int .i64 n.c) := hc 1 _ rfl; have c2 : w1.cell? ⟨bb, off + i * 8 + 2, none⟩ = some (.int .i64 n.m) := hc 2 _ rfl; have c3 : w1.cell? ⟨bb, off + i * 8 + 3, none⟩ = some (.bool n.up) := hc 3 _ rfl; have c4 : w1.cell? ⟨bb, off + i * 8 + 4, none⟩ = some (.bool n.dr) := hc 4 _ rfl; have c5 : w1.cell? ⟨bb, off + i * 8 + 5, none⟩ = some (.int .i64 n.bo) := hc 5 _ rfl; have c6 : w1.cell? ⟨bb, off + i * 8 + 6, none⟩ = some (.int .i64 n.ep) := hc 6 _ rfl; have c7 : w1.cell? ⟨bb, off + i * 8 + 7, none⟩ = some (.int .i64 n.se) := hc 7 _ rfl; clear hc; rw [HUP.out] at c3; rw [HDR.out] at c4)
    go_ret
    rw [HQ.out]
    exact ⟨rfl, Z1.out.b⟩
   | false =>
    have HDR := hidOf hdr
    have HM0 := wF_may nd A M
    generalize wF nd A M = sw at *
    obtain ⟨ok, c, m⟩ := sw
    cases ok with
    | false =>
     have HQ := hidOf (HR.out.trans (nvF_not (show okV n (false, c, m) a b = false from rfl)))
     clear hup hdr hcp HM0
     go_enter Try.func54, Try.ntmps54
     go_wp2_with (first
      | (go_at_call 39; refine (HN.out _ Z0.out.b).mono ?_; rintro e w1 ⟨rfl, hb⟩; rw [HF.out]; have Z1 := hidOf (Z0.out.grow hb); clear hb; have s0 : w1.cell? ⟨w.heap.size, 0, none⟩ = some (.int .i64 ix) := Z1.out.s 0 _ rfl; have s1 : w1.cell? ⟨w.heap.size, 1, none⟩ = some (.int .i64 nx) := Z1.out.s 1 _ rfl; have s2 : w1.cell? ⟨w.heap.size, 2, none⟩ = some (.slice a2 n2 c2) := Z1.out.s 2 _ rfl; have s3 : w1.cell? ⟨w.heap.size, 3, none⟩ = some (.slice a3 n3 c3) := Z1.out.s 3 _ rfl; have s4 : w1.cell? ⟨w.heap.size, 4, none⟩ = some (.slice (some ⟨bb, off, none⟩) N.length c4) := Z1.out.s 4 _ rfl; have s5 : w1.cell? ⟨w.heap.size, 5, none⟩ = some (.slice a5 A.length c5) := Z1.out.s 5 _ rfl; have s6 : w1.cell? ⟨w.heap.size, 6, none⟩ = some (.slice a6 n6 c6) := Z1.out.s 6 _ rfl; have s7 : w1.cell? ⟨w.heap.size, 7, none⟩ = some (.slice a7 n7 c7) := Z1.out.s 7 _ rfl; have s8 : w1.cell? ⟨w.heap.size, 8, none⟩ = some (.slice a8 n8 c8) := Z1.out.s 8 _ rfl; have lw : w.heap.size < w1.heap.size := Nat.lt_of_succ_lt Z1.out.l; have la : w.heap.size + 1 < w1.heap.size := Z1.out.l; have a0 : w1.cell? ⟨w.heap.size + 1, 0, none⟩ = some (.int .i64 a) := Z1.out.a 0 _ rfl; have a1 : w1.cell? ⟨w.heap.size + 1, 1, none⟩ = some (.int .i64 b) := Z1.out.a 1 _ rfl; have hc := range_of HC0.out (Z1.out.b.block bb HBL.out); have hbl : bb < w1.heap.size := Nat.lt_of_lt_of_le HBL.out Z1.out.b.size; have c0 : w1.cell? ⟨bb, off + i * 8, none⟩ = some (.int .i64 n.id) := hc 0 _ rfl; have c1 : w1.cell? ⟨bb, off + i * 8 + 1, none⟩ = some (.int .i64 n.c) := hc 1 _ rfl; have c2 : w1.cell? ⟨bb, off + i * 8 + 2, none⟩ = some (.int .i64 n.m) := hc 2 _ rfl; have c3 : w1.cell? ⟨bb, off + i * 8 + 3, none⟩ = some (.bool n.up) := hc 3 _ rfl; have c4 : w1.cell? ⟨bb, off + i * 8 + 4, none⟩ = some (.bool n.dr) := hc 4 _ rfl; have c5 : w1.cell? ⟨bb, off + i * 8 + 5, none⟩ = some (.int .i64 n.bo) := hc 5 _ rfl; have c6 : w1.cell? ⟨bb, off + i * 8 + 6, none⟩ = some (.int .i64 n.ep) := hc 6 _ rfl; have c7 : w1.cell? ⟨bb, off + i * 8 + 7, none⟩ = some (.int .i64 n.se) := hc 7 _ rfl; clear hc; rw [HUP.out] at c3; rw [HDR.out] at c4)
      | (go_at_call 67; refine (HU.out _ (Z1.out.b.alloc Z1.out.b.size _)).mono ?_; rintro e w2 ⟨rfl, hb⟩; have HB2 := hidOf ((Z1.out.b.alloc Z1.out.b.size _).trans (hb.mono (Z1.out.b.alloc Z1.out.b.size _).size)); clear hb))
     go_ret
     rw [HQ.out]
     exact ⟨rfl, HB2.out.alloc HB2.out.size _⟩
    | true =>
     have HFT := hidOf (fun W => fits_any c m a b n.c n.m W)
     cases hft : fitB c m a b n.c n.m with
     | false =>
      have HQ := hidOf (HR.out.trans (nvF_not (show okV n (true, c, m) a b = false from hft)))
      rw [hft] at HFT
      clear hup hdr hcp HM0 hft
      go_enter Try.func54, Try.ntmps54
      go_wp2_with (first
       | (go_at_call 39; refine (HN.out _ Z0.out.b).mono ?_; rintro e w1 ⟨rfl, hb⟩; rw [HF.out]; have Z1 := hidOf (Z0.out.grow hb); clear hb; have s0 : w1.cell? ⟨w.heap.size, 0, none⟩ = some (.int .i64 ix) := Z1.out.s 0 _ rfl; have s1 : w1.cell? ⟨w.heap.size, 1, none⟩ = some (.int .i64 nx) := Z1.out.s 1 _ rfl; have s2 : w1.cell? ⟨w.heap.size, 2, none⟩ = some (.slice a2 n2 c2) := Z1.out.s 2 _ rfl; have s3 : w1.cell? ⟨w.heap.size, 3, none⟩ = some (.slice a3 n3 c3) := Z1.out.s 3 _ rfl; have s4 : w1.cell? ⟨w.heap.size, 4, none⟩ = some (.slice (some ⟨bb, off, none⟩) N.length c4) := Z1.out.s 4 _ rfl; have s5 : w1.cell? ⟨w.heap.size, 5, none⟩ = some (.slice a5 A.length c5) := Z1.out.s 5 _ rfl; have s6 : w1.cell? ⟨w.heap.size, 6, none⟩ = some (.slice a6 n6 c6) := Z1.out.s 6 _ rfl; have s7 : w1.cell? ⟨w.heap.size, 7, none⟩ = some (.slice a7 n7 c7) := Z1.out.s 7 _ rfl; have s8 : w1.cell? ⟨w.heap.size, 8, none⟩ = some (.slice a8 n8 c8) := Z1.out.s 8 _ rfl; have lw : w.heap.size < w1.heap.size := Nat.lt_of_succ_lt Z1.out.l; have la : w.heap.size + 1 < w1.heap.size := Z1.out.l; have a0 : w1.cell? ⟨w.heap.size + 1, 0, none⟩ = some (.int .i64 a) := Z1.out.a 0 _ rfl; have a1 : w1.cell? ⟨w.heap.size + 1, 1, none⟩ = some (.int .i64 b) := Z1.out.a 1 _ rfl; have hc := range_of HC0.out (Z1.out.b.block bb HBL.out); have hbl : bb < w1.heap.size := Nat.lt_of_lt_of_le HBL.out Z1.out.b.size; have c0 : w1.cell? ⟨bb, off + i * 8, none⟩ = some (.int .i64 n.id) := hc 0 _ rfl; have c1 : w1.cell? ⟨bb, off + i * 8 + 1, none⟩ = some (.int .i64 n.c) := hc 1 _ rfl; have c2 : w1.cell? ⟨bb, off + i * 8 + 2, none⟩ = some (.int .i64 n.m) := hc 2 _ rfl; have c3 : w1.cell? ⟨bb, off + i * 8 + 3, none⟩ = some (.bool n.up) := hc 3 _ rfl; have c4 : w1.cell? ⟨bb, off + i * 8 + 4, none⟩ = some (.bool n.dr) := hc 4 _ rfl; have c5 : w1.cell? ⟨bb, off + i * 8 + 5, none⟩ = some (.int .i64 n.bo) := hc 5 _ rfl; have c6 : w1.cell? ⟨bb, off + i * 8 + 6, none⟩ = some (.int .i64 n.ep) := hc 6 _ rfl; have c7 : w1.cell? ⟨bb, off + i * 8 + 7, none⟩ = some (.int .i64 n.se) := hc 7 _ rfl; clear hc; rw [HUP.out] at c3; rw [HDR.out] at c4)
       | (go_at_call 67; refine (HU.out _ (Z1.out.b.alloc Z1.out.b.size _)).mono ?_; rintro e w2 ⟨rfl, hb⟩; have HB2 := hidOf ((Z1.out.b.alloc Z1.out.b.size _).trans (hb.mono (Z1.out.b.alloc Z1.out.b.size _).size)); have PM2 := hidOf ((pr_new w1 n.c n.m).grow hb); have Z2 := hidOf ((Z1.out.grow (below1 w1 _)).grow hb); clear hb a0 a1 la lw s0 s1 s2 s3 s4 s5 s6 s7 s8 c0 c1 c2 c3 c4 c5 c6 c7 hbl; have a0 : w2.cell? ⟨w.heap.size + 1, 0, none⟩ = some (.int .i64 a) := Z2.out.a 0 _ rfl; have a1 : w2.cell? ⟨w.heap.size + 1, 1, none⟩ = some (.int .i64 b) := Z2.out.a 1 _ rfl; have la : w.heap.size + 1 < w2.heap.size := Z2.out.l; have m0 : w2.cell? ⟨w1.heap.size, 0, none⟩ = _ := PM2.out.c0; have m1 : w2.cell? ⟨w1.heap.size, 1, none⟩ = _ := PM2.out.c1; have lm : w1.heap.size < w2.heap.size := PM2.out.lt)
       | (go_at_call 68; refine (HFT.out _).mono ?_; rintro e w3 ⟨rfl, hb⟩; have HB3 := hidOf ((HB2.out.alloc HB2.out.size _).trans (hb.mono (HB2.out.alloc HB2.out.size _).size)); clear hb))
      go_ret
      rw [HQ.out]
      exact ⟨rfl, HB3.out⟩
     | true =>
      have HQ := hidOf (HR.out.trans (nvF_yes hup hdr (show okV n (true, c, m) a b = true from hft)))
      have hov := okV_true (show okV n (true, c, m) a b = true from hft)
      dsimp only at hov
      have HLF := hidOf (fun W => left_any c m a b n.c n.m W hov.2.1.1 hov.2.2.1.1 hov.2.2.2.1.1 hov.2.2.2.2.1.1 hov.2.2.2.2.2.1 hov.2.2.2.2.2.2 hcp.1 hcp.2)
      rw [hft] at HFT
      clear hup hdr hcp HM0 hft hov
      go_enter Try.func54, Try.ntmps54
      go_wp2_with (first
       | (go_at_call 39; refine (HN.out _ Z0.out.b).mono ?_; rintro e w1 ⟨rfl, hb⟩; rw [HF.out]; have Z1 := hidOf (Z0.out.grow hb); clear hb; have s0 : w1.cell? ⟨w.heap.size, 0, none⟩ = some (.int .i64 ix) := Z1.out.s 0 _ rfl; have s1 : w1.cell? ⟨w.heap.size, 1, none⟩ = some (.int .i64 nx) := Z1.out.s 1 _ rfl; have s2 : w1.cell? ⟨w.heap.size, 2, none⟩ = some (.slice a2 n2 c2) := Z1.out.s 2 _ rfl; have s3 : w1.cell? ⟨w.heap.size, 3, none⟩ = some (.slice a3 n3 c3) := Z1.out.s 3 _ rfl; have s4 : w1.cell? ⟨w.heap.size, 4, none⟩ = some (.slice (some ⟨bb, off, none⟩) N.length c4) := Z1.out.s 4 _ rfl; have s5 : w1.cell? ⟨w.heap.size, 5, none⟩ = some (.slice a5 A.length c5) := Z1.out.s 5 _ rfl; have s6 : w1.cell? ⟨w.heap.size, 6, none⟩ = some (.slice a6 n6 c6) := Z1.out.s 6 _ rfl; have s7 : w1.cell? ⟨w.heap.size, 7, none⟩ = some (.slice a7 n7 c7) := Z1.out.s 7 _ rfl; have s8 : w1.cell? ⟨w.heap.size, 8, none⟩ = some (.slice a8 n8 c8) := Z1.out.s 8 _ rfl; have lw : w.heap.size < w1.heap.size := Nat.lt_of_succ_lt Z1.out.l; have la : w.heap.size + 1 < w1.heap.size := Z1.out.l; have a0 : w1.cell? ⟨w.heap.size + 1, 0, none⟩ = some (.int .i64 a) := Z1.out.a 0 _ rfl; have a1 : w1.cell? ⟨w.heap.size + 1, 1, none⟩ = some (.int .i64 b) := Z1.out.a 1 _ rfl; have hc := range_of HC0.out (Z1.out.b.block bb HBL.out); have hbl : bb < w1.heap.size := Nat.lt_of_lt_of_le HBL.out Z1.out.b.size; have c0 : w1.cell? ⟨bb, off + i * 8, none⟩ = some (.int .i64 n.id) := hc 0 _ rfl; have c1 : w1.cell? ⟨bb, off + i * 8 + 1, none⟩ = some (.int .i64 n.c) := hc 1 _ rfl; have c2 : w1.cell? ⟨bb, off + i * 8 + 2, none⟩ = some (.int .i64 n.m) := hc 2 _ rfl; have c3 : w1.cell? ⟨bb, off + i * 8 + 3, none⟩ = some (.bool n.up) := hc 3 _ rfl; have c4 : w1.cell? ⟨bb, off + i * 8 + 4, none⟩ = some (.bool n.dr) := hc 4 _ rfl; have c5 : w1.cell? ⟨bb, off + i * 8 + 5, none⟩ = some (.int .i64 n.bo) := hc 5 _ rfl; have c6 : w1.cell? ⟨bb, off + i * 8 + 6, none⟩ = some (.int .i64 n.ep) := hc 6 _ rfl; have c7 : w1.cell? ⟨bb, off + i * 8 + 7, none⟩ = some (.int .i64 n.se) := hc 7 _ rfl; clear hc; rw [HUP.out] at c3; rw [HDR.out] at c4)
       | (go_at_call 67; refine (HU.out _ (Z1.out.b.alloc Z1.out.b.size _)).mono ?_; rintro e w2 ⟨rfl, hb⟩; have HB2 := hidOf ((Z1.out.b.alloc Z1.out.b.size _).trans (hb.mono (Z1.out.b.alloc Z1.out.b.size _).size)); have PM2 := hidOf ((pr_new w1 n.c n.m).grow hb); have Z2 := hidOf ((Z1.out.grow (below1 w1 _)).grow hb); clear hb a0 a1 la lw s0 s1 s2 s3 s4 s5 s6 s7 s8 c0 c1 c2 c3 c4 c5 c6 c7 hbl; have a0 : w2.cell? ⟨w.heap.size + 1, 0, none⟩ = some (.int .i64 a) := Z2.out.a 0 _ rfl; have a1 : w2.cell? ⟨w.heap.size + 1, 1, none⟩ = some (.int .i64 b) := Z2.out.a 1 _ rfl; have la : w.heap.size + 1 < w2.heap.size := Z2.out.l; have m0 : w2.cell? ⟨w1.heap.size, 0, none⟩ = _ := PM2.out.c0; have m1 : w2.cell? ⟨w1.heap.size, 1, none⟩ = _ := PM2.out.c1; have lm : w1.heap.size < w2.heap.size := PM2.out.lt)
       | (go_at_call 68; refine (HFT.out _).mono ?_; rintro e w3 ⟨rfl, hb⟩; have HB3 := hidOf ((HB2.out.alloc HB2.out.size _).trans (hb.mono (HB2.out.alloc HB2.out.size _).size)); have PW := hidOf ((pr_new w2 c m).grow hb); have PM := hidOf ((PM2.out.grow (below1 w2 _)).grow hb); have Z3 := hidOf ((Z2.out.grow (below1 w2 _)).grow hb); clear hb a0 a1 la lm m0 m1; have u0 : w3.cell? ⟨w2.heap.size, 0, none⟩ = _ := PW.out.c0; have u1 : w3.cell? ⟨w2.heap.size, 1, none⟩ = _ := PW.out.c1; have lu : w2.heap.size < w3.heap.size := PW.out.lt; have m0 : w3.cell? ⟨w1.heap.size, 0, none⟩ = _ := PM.out.c0; have m1 : w3.cell? ⟨w1.heap.size, 1, none⟩ = _ := PM.out.c1; have lm : w1.heap.size < w3.heap.size := PM.out.lt; have a0 : w3.cell? ⟨w.heap.size + 1, 0, none⟩ = some (.int .i64 a) := Z3.out.a 0 _ rfl; have a1 : w3.cell? ⟨w.heap.size + 1, 1, none⟩ = some (.int .i64 b) := Z3.out.a 1 _ rfl; have la : w.heap.size + 1 < w3.heap.size := Z3.out.l)
       | (go_at_call 69; refine (HLF.out _).mono ?_; rintro e w4 ⟨rfl, hb⟩; have HB4 := hidOf (HB3.out.trans (hb.mono HB3.out.size)); clear hb))
      go_ret
      rw [HQ.out]
      exact ⟨w4.heap.size, rfl, heap_alloc_new w4 _, HB4.out.alloc HB4.out.size _⟩
end Go.Proofs.Ytblofbdncolikaa
