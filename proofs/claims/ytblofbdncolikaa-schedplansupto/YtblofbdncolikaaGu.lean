/- Several texts in one (wip/gen/group.py). -/
import Derived.Test.YtblofbdncolikaaCq
import Derived.Test.YtblofbdncolikaaTl
import Derived.Test.YtblofbdncolikaaSa
/- What is used on a node, of the code. -/
namespace Go.Proofs.Ytblofbdncolikaa
open Go.RowKit Go.Shelf
attribute [local go_sem] Oper.semAt_some
/- the sum of what is on a node -/
def uS (s : Bool × Int × Int) (x : Al) : Bool × Int × Int := if s.1 = true then (if addB s.2.1 s.2.2 x.c x.m = true then (true, s.2.1 + x.c, s.2.2 + x.m) else (false, top, top)) else s
def uF (L : List (Nat × Al)) : Bool × Int × Int := L.foldl (fun s p => uS s p.2) (true, 0, 0)
theorem uF_snoc (pre : List (Nat × Al)) (x : Nat × Al) : uF (pre ++ [x]) = uS (uF pre) x.2 := by simp [uF]
theorem uS_no {s : Bool × Int × Int} (h : s.1 = false) (x : Al) : uS s x = s := by simp [uS, h]
theorem uF_no {pre : List (Nat × Al)} (h : (uF pre).1 = false) (r : List (Nat × Al)) : uF (pre ++ r) = uF pre := by
 induction r generalizing pre with
 | nil => simp
 | cons x r ih =>
  have e : uF (pre ++ [x]) = uF pre := by rw [uF_snoc, uS_no h]
  rw [show pre ++ x :: r = (pre ++ [x]) ++ r by simp, ih (by rw [e]; exact h), e]
theorem kf_bel {B : Nat} {W w1 : World} (h : Below W.heap.size W w1) : KeepsFrom B W w1 := ⟨h.size, fun k _ _ hk _ => (h.block k (heap_lt hk)).trans hk⟩
def usedV (nd : Int) (L : List Al) : Int × Int := (uF (sel (usB nd) L L.length)).2
theorem uS_yes {c m : Int} {x : Al} (h : addB c m x.c x.m = true) : uS (true, c, m) x = (true, c + x.c, m + x.m) := by simp [uS, h]
theorem uS_bad {c m : Int} {x : Al} (h : addB c m x.c x.m = false) : uS (true, c, m) x = (false, top, top) := by simp [uS, h]
theorem usedV_at {nd : Int} {L : List Al} {k : Nat} (hk : k ≤ L.length) (h : uF (sel (usB nd) L k) = (false, top, top)) : usedV nd L = (top, top) := by
 obtain ⟨r, hr⟩ := sel_le (usB nd) L hk
 rw [usedV, hr, uF_no (by rw [h]), h]
theorem pr_own {β : Type} (k : Nat) (f g : β → Int) : Own (fun s W => Pr W k (f s) (g s)) := by
 intro s A B row hs hg hr
 exact (hg.block k hs.lt (fun e => by obtain ⟨o, ho, hc⟩ := hr k e.symm; have hs' : A.heap[k]? = _ := hs; rw [hs'] at ho; cases ho; cases hc)).trans hs
theorem pr_put {W : World} {k : Nat} {x y : Int} (h : Pr W k x y) {D : Nat} (hK : W.heap[D]? = some (.deferred (some []))) (o : Obj) : Pr (W.putObj D o) k x y :=
 pr_own k (fun (_ : Unit) => x) (fun _ => y) () W _ (some D) h (grownBy_putObj' W D o) (fun r e => by cases e; exact ⟨_, hK, rfl⟩)
theorem Pr.other {w : World} {k j o : Nat} {x y : Int} (h : Pr w k x y) (hne : k ≠ j) (v : Value) : Pr (w.setCell ⟨j, o, none⟩ v) k x y := (heap_setCell_other w ⟨j, o, none⟩ k v hne).trans h
theorem results_pr {fn : Func} {p : Tmp} (h : fn.results = #[.cell p 40]) (tmps : Array Value) (w : World) (b : Nat) (k t : Int) (hp : tmps.getD p undef = .pointer (some ⟨b, 0, none⟩)) (h0 : Pr w b k t) :
  (results fn tmps).run Try.prog w = .ok (.agg #[.int .i64 k, .int .i64 t]) w := by
 exact results_cell_row h tmps w b 40 #[.int .i64 k, .int .i64 t] (0, 0) _ hp h0 Try.underlying40 rfl (by kernel_rfl)
set_option maxRecDepth 100000 in
set_option maxHeartbeats 4000000 in
theorem used_any (s : Sc) (nd : Int) (L : List Al) (w : World) (hn : s.n5 = L.length) (hL : Fl w (fun b => b < w.heap.size) 11 88 Al.cs s.a5 L) :
  Calls Try.prog 74 #[.agg #[.int .i64 s.ix, .int .i64 s.nx, .slice s.a2 s.n2 s.c2, .slice s.a3 s.n3 s.c3, .slice s.a4 s.n4 s.c4, .slice s.a5 s.n5 s.c5, .slice s.a6 s.n6 s.c6, .slice s.a7 s.n7 s.c7, .slice s.a8 s.n8 s.c8], .int .i64 nd] w fun e w' => e = .returned (.agg #[.int .i64 (usedV nd L).1, .int .i64 (usedV nd L).2]) ∧ Below w.heap.size w w' := by
 have hmf : ∀ (fn : Fn) (first cap : Array Value) (w : World), (Instr.makeFunc fn first cap).run Try.prog w = .ok (.func fn first cap) w := fun _ _ _ _ => rfl
 obtain ⟨ix, nx, a2, n2, c2, a3, n3, c3, a4, n4, c4, a5, n5, c5, a6, n6, c6, a7, n7, c7, a8, n8, c8⟩ := s
 simp only at hn hL
 subst hn
 refine (callsIn_wide (n := 3)).1 ?_
 refine callsIn_of_wp_marks Try.func74 rfl trivial ?_ rfl
 simp only [Try.ntmps74, List.size_toArray, List.length_cons, List.length_nil, Nat.reduceAdd, Nat.reduceSub, Array.replicate_succ, Array.replicate_zero, List.push_toArray, List.append_toArray, List.nil_append, List.cons_append]
 gi_wp2_with (refine ⟨trivial, ?_⟩; gi_at_call 77; refine (callsIn_wide.2 (where48 _ _ _ _ _ _ _)).mono ?_; rintro e w' ⟨rfl, rfl⟩)
 have hB0 : Below w.heap.size w ((((((w.alloc (.cells #[.int .i64 ix, .int .i64 nx, .slice a2 n2 c2, .slice a3 n3 c3, .slice a4 n4 c4, .slice a5 L.length c5, .slice a6 n6 c6, .slice a7 n7 c7, .slice a8 n8 c8] 29)).alloc (.cells #[.int .i64 nd] 3)).alloc (.cells #[.int .i64 0, .int .i64 0] 40)).alloc (.cells #[.int .i64 0, .int .i64 0] 40)).alloc (.cells #[.slice a5 L.length c5] 24)).alloc (.cells #[.func (.func 78) #[] #[.pointer (some ⟨w.heap.size + 1, 0, none⟩)]] 109)) := ((((((Below.refl _ w).alloc (Nat.le_refl _) _).alloc (by simp) _).alloc (by simp; omega) _).alloc (by simp; omega) _).alloc (by simp; omega) _).alloc (by simp; omega) _
 have b1 := ((((Boxed.new (w.alloc (.cells #[.int .i64 ix, .int .i64 nx, .slice a2 n2 c2, .slice a3 n3 c3, .slice a4 n4 c4, .slice a5 L.length c5, .slice a6 n6 c6, .slice a7 n7 c7, .slice a8 n8 c8] 29)) 3 (.int .i64 nd)).alloc (.cells #[.int .i64 0, .int .i64 0] 40)).alloc (.cells #[.int .i64 0, .int .i64 0] 40)).alloc (.cells #[.slice a5 L.length c5] 24)).alloc (.cells #[.func (.func 78) #[] #[.pointer (some ⟨w.heap.size + 1, 0, none⟩)]] 109)
 have p2 := (((pr_new ((w.alloc (.cells #[.int .i64 ix, .int .i64 nx, .slice a2 n2 c2, .slice a3 n3 c3, .slice a4 n4 c4, .slice a5 L.length c5, .slice a6 n6 c6, .slice a7 n7 c7, .slice a8 n8 c8] 29)).alloc (.cells #[.int .i64 nd] 3)) 0 0).grow (below1 _ (.cells #[.int .i64 0, .int .i64 0] 40))).grow (below1 _ (.cells #[.slice a5 L.length c5] 24))).grow (below1 _ (.cells #[.func (.func 78) #[] #[.pointer (some ⟨w.heap.size + 1, 0, none⟩)]] 109))
 have p3 := ((pr_new (((w.alloc (.cells #[.int .i64 ix, .int .i64 nx, .slice a2 n2 c2, .slice a3 n3 c3, .slice a4 n4 c4, .slice a5 L.length c5, .slice a6 n6 c6, .slice a7 n7 c7, .slice a8 n8 c8] 29)).alloc (.cells #[.int .i64 nd] 3)).alloc (.cells #[.int .i64 0, .int .i64 0] 40)) 0 0).grow (below1 _ (.cells #[.slice a5 L.length c5] 24))).grow (below1 _ (.cells #[.func (.func 78) #[] #[.pointer (some ⟨w.heap.size + 1, 0, none⟩)]] 109))
 have b4 := (Boxed.new ((((w.alloc (.cells #[.int .i64 ix, .int .i64 nx, .slice a2 n2 c2, .slice a3 n3 c3, .slice a4 n4 c4, .slice a5 L.length c5, .slice a6 n6 c6, .slice a7 n7 c7, .slice a8 n8 c8] 29)).alloc (.cells #[.int .i64 nd] 3)).alloc (.cells #[.int .i64 0, .int .i64 0] 40)).alloc (.cells #[.int .i64 0, .int .i64 0] 40)) 24 (.slice a5 L.length c5)).alloc (.cells #[.func (.func 78) #[] #[.pointer (some ⟨w.heap.size + 1, 0, none⟩)]] 109)
 have b5 := Boxed.new (((((w.alloc (.cells #[.int .i64 ix, .int .i64 nx, .slice a2 n2 c2, .slice a3 n3 c3, .slice a4 n4 c4, .slice a5 L.length c5, .slice a6 n6 c6, .slice a7 n7 c7, .slice a8 n8 c8] 29)).alloc (.cells #[.int .i64 nd] 3)).alloc (.cells #[.int .i64 0, .int .i64 0] 40)).alloc (.cells #[.int .i64 0, .int .i64 0] 40)).alloc (.cells #[.slice a5 L.length c5] 24)) 109 (.func (.func 78) #[] #[.pointer (some ⟨w.heap.size + 1, 0, none⟩)])
 have hsz : ((((((w.alloc (.cells #[.int .i64 ix, .int .i64 nx, .slice a2 n2 c2, .slice a3 n3 c3, .slice a4 n4 c4, .slice a5 L.length c5, .slice a6 n6 c6, .slice a7 n7 c7, .slice a8 n8 c8] 29)).alloc (.cells #[.int .i64 nd] 3)).alloc (.cells #[.int .i64 0, .int .i64 0] 40)).alloc (.cells #[.int .i64 0, .int .i64 0] 40)).alloc (.cells #[.slice a5 L.length c5] 24)).alloc (.cells #[.func (.func 78) #[] #[.pointer (some ⟨w.heap.size + 1, 0, none⟩)]] 109)).heap.size = w.heap.size + 6 := by simp
 simp only [World.size_alloc] at b1 p2 p3 b4 b5
 obtain ⟨W0, hW0⟩ : ∃ W0, (((((w.alloc (.cells #[.int .i64 ix, .int .i64 nx, .slice a2 n2 c2, .slice a3 n3 c3, .slice a4 n4 c4, .slice a5 L.length c5, .slice a6 n6 c6, .slice a7 n7 c7, .slice a8 n8 c8] 29)).alloc (.cells #[.int .i64 nd] 3)).alloc (.cells #[.int .i64 0, .int .i64 0] 40)).alloc (.cells #[.int .i64 0, .int .i64 0] 40)).alloc (.cells #[.slice a5 L.length c5] 24)).alloc (.cells #[.func (.func 78) #[] #[.pointer (some ⟨w.heap.size + 1, 0, none⟩)]] 109) = W0 := ⟨_, rfl⟩
 rw [hW0] at b1 p2 p3 b4 b5 hB0 hsz ⊢
 clear hW0
 have hQ0 : ∀ k, (k < w.heap.size ∨ k = w.heap.size + 1 ∨ k = w.heap.size + 1 + 1 + 1 + 1 ∨ k = w.heap.size + 1 + 1 + 1 + 1 + 1) → k < W0.heap.size := fun k hk => by omega
 refine wpIn_rangeFunc_ownH rfl (by omega) (gf := 81) (lb := #[.pointer (some ⟨w.heap.size + 1 + 1 + 1 + 1, 0, none⟩), .pointer (some ⟨w.heap.size + 1 + 1 + 1 + 1 + 1, 0, none⟩)]) rfl trivial (enters_of Try.func81 (by kernel_rfl) rfl)
  (it49 (3 - 1) (by omega) (w.heap.size + 1) (w.heap.size + 1 + 1 + 1 + 1) (w.heap.size + 1 + 1 + 1 + 1 + 1) a5 c5 L (usB nd) (fun k => k < w.heap.size ∨ k = w.heap.size + 1 ∨ k = w.heap.size + 1 + 1 + 1 + 1 ∨ k = w.heap.size + 1 + 1 + 1 + 1 + 1) W0 hQ0 (.inr (.inr (.inl rfl))) (.inr (.inr (.inr rfl))) b4.cell b5.cell (hL.kept (fun b hb => hB0.block b hb) (fun b hb => .inl hb))
   (fun W x hW => p49_any x nd (w.heap.size + 1) W ((hW.cell (.inr (.inl rfl)) 0).trans b1.cell) (by have := hW.size; omega)))
  Kq.trans (kq_b hQ0) (Below.refl _ _) (fun _ => rfl)
  (fun pre W => (((uF pre).1 = true ∧ Pr W (w.heap.size + 1 + 1 + 1) (uF pre).2.1 (uF pre).2.2) ∧ Pr W (w.heap.size + 1 + 1) 0 0 ∧ w.heap.size + 6 ≤ W.heap.size) ∧ Below w.heap.size w W)
  (fun c pre W => ((c = .ret ∧ uF pre = (false, top, top)) ∧ Pr W (w.heap.size + 1 + 1) top top) ∧ Below w.heap.size w W)
  (OwnFrom.and (Own.from (fun s A B row hs hg hr => ⟨⟨hs.1.1, pr_own _ (fun pre => (uF pre).2.1) (fun pre => (uF pre).2.2) s A B row hs.1.2 hg hr⟩, pr_own _ (fun _ => 0) (fun _ => 0) s A B row hs.2.1 hg hr, Nat.le_trans hs.2.2 hg.size⟩) _) (ownFrom_below (Nat.le_refl _) (by omega)))
  (fun c => OwnFrom.and (Own.from (fun s A B row hs hg hr => ⟨hs.1, pr_own _ (fun _ => top) (fun _ => top) s A B row hs.2 hg hr⟩) _) (ownFrom_below (Nat.le_refl _) (by omega)))
  ⟨⟨⟨rfl, p3⟩, p2, by omega⟩, hB0⟩
  (fun x a' W => ∃ Bx, w.heap.size + 5 < Bx ∧ W.heap[Bx]? = some (.cells x.2.cs.toArray 42 (0, 0)) ∧ a' = { tmps := #[.agg #[.int .i64 ix, .int .i64 nx, .slice a2 n2 c2, .slice a3 n3 c3, .slice a4 n4 c4, .slice a5 L.length c5, .slice a6 n6 c6, .slice a7 n7 c7, .slice a8 n8 c8], .int .i64 nd, .pointer (some ⟨w.heap.size, 0, none⟩), .pointer (some ⟨w.heap.size + 1, 0, none⟩), .pointer (some ⟨w.heap.size + 1 + 1, 0, none⟩), .pointer (some ⟨w.heap.size + 1 + 1 + 1, 0, none⟩), undef, .pointer (some ⟨Bx, 0, none⟩), undef, undef, .pointer (some ⟨w.heap.size, 5, none⟩), .slice a5 L.length c5, .func (.func 78) #[] #[.pointer (some ⟨w.heap.size + 1, 0, none⟩)], .func (.func 81) #[] #[.pointer (some ⟨w.heap.size + 1 + 1 + 1 + 1, 0, none⟩), .pointer (some ⟨w.heap.size + 1 + 1 + 1 + 1 + 1, 0, none⟩)], .int .i64 (x.1 : Int), .agg #[.int .i64 x.2.id, .int .i64 x.2.jb, .int .i64 x.2.ve, .int .i64 x.2.gr, .int .i64 x.2.ix, .int .i64 x.2.nd, .int .i64 x.2.ep, .int .i64 x.2.c, .int .i64 x.2.m, .bool x.2.sp, .int .i64 x.2.st], undef, undef, undef, undef, undef, undef, undef, undef, undef, undef, undef, undef], defers := [] })
  (fun x a' _ X Y row hs hg hr => by obtain ⟨Bx, h1, h2, h3⟩ := hs; exact ⟨Bx, h1, (hg.block Bx (heap_lt h2) (fun e => by obtain ⟨_, o, ho, hc⟩ := hr Bx e.symm; rw [h2] at ho; cases ho; cases hc)).trans h2, h3⟩)
  ?assign ?body ?done ?stop
 case assign =>
  rintro l pre x W K ⟨⟨⟨h1, h2⟩, h3, h4⟩, hB1⟩ hK
  gi_wp2
  exact hK _ _ ((KeepsOthers.alloc _ _).from _) (Kq.bel (below1 W _) (fun k hk => by omega)) ⟨⟨⟨h1, h2.grow (below1 _ _)⟩, h3.grow (below1 _ _), by simp; omega⟩, hB1.alloc hB1.size _⟩ ⟨W.heap.size, by omega, heap_alloc_new W _, rfl⟩
 case body =>
  rintro l pre x a' W hl ⟨r, hr⟩ ⟨⟨⟨h1, h2⟩, h3, h4⟩, hB1⟩ ⟨Bx, hBx, bX, rfl⟩ hlt
  have HU := hidOf (uF_snoc pre x)
  generalize uF pre = u at *
  obtain ⟨ok, c, m⟩ := u
  simp only at h1 h2
  subst h1
  obtain ⟨xi, x⟩ := x
  simp only at bX HU ⊢
  have cS := h2.c0
  have cT := h2.c1
  have fS := h2.fr
  have lS := h2.lt
  have c7 : W.cell? ⟨Bx, 7, none⟩ = some (.int .i64 x.c) := by rw [cell_of_row W Bx 7 _ 42 (0, 0) bX]; rfl
  have c8 : W.cell? ⟨Bx, 8, none⟩ = some (.int .i64 x.m) := by rw [cell_of_row W Bx 8 _ 42 (0, 0) bX]; rfl
  have cR := h3.c0
  have cQ := h3.c1
  have fR := h3.fr
  have lR := h3.lt
  have HB1 := hidOf hB1
  have H2 := hidOf h2
  have H3 := hidOf h3
  have lBx := heap_lt bX
  clear hB1 h2 h3 hr
  have hq : 1 ≤ 3 - 1 - 1 := by omega
  have HAD := hidOf (add_any c m x.c x.m)
  cases hadd : addB c m x.c x.m with
  | true =>
   have HUY := hidOf (HU.out.trans (uS_yes hadd))
   have HC : Hid (addC c m x.c x.m = c + x.c) := hidOf (by unfold addC; rw [hadd]; rfl)
   have HM : Hid (addM c m x.c x.m = m + x.m) := hidOf (by unfold addM; rw [hadd]; rfl)
   have HA := hidOf hadd
   clear hadd HU
   gi_wp2_with (first | (refine ⟨trivial, ?_⟩; gi_at_call 75; refine (CallsIn.inRound l (callsIn_wide.2 (HAD.out _))).mono ?_; rintro e w1 ⟨rfl, hb⟩; rw [HC.out, HM.out, HA.out]; have H2' := hidOf (H2.out.grow hb); have H3' := hidOf (H3.out.grow hb); have HB := hidOf hb; clear hb cS cT fS lS cR cQ fR lR c7 c8 lBx; have cS := H2'.out.c0; have cT := H2'.out.c1; have fS := H2'.out.fr; have lS := H2'.out.lt))
   refine ⟨((kf_bel HB.out).trans ((KeepsOthers.setCell _ _ _).from _)).trans (((KeepsOthers.setCell _ _ _).from _).trans ((KeepsOthers.alloc _ _).from _)), ?_, ?_⟩
   ·exact ((Kq.bel HB.out (fun k hk => by omega)).trans ((Kq.set (by omega) _).trans (Kq.set (by omega) _))).trans (Kq.bel (below1 _ _) (fun k hk => by have := HB.out.size; simp; omega))
   ·have hw1 : w.heap.size + 6 ≤ w1.heap.size := Nat.le_trans h4 HB.out.size
    exact ⟨⟨⟨by rw [HUY.out], by rw [HUY.out]; exact (H2'.out.set _ _).grow (below1 _ _)⟩, ((H3'.out.other (by omega) _).other (by omega) _).grow (below1 _ _), by simp; omega⟩, (((HB1.out.trans (HB.out.mono HB1.out.size)).setCell (p := ⟨w.heap.size + 1 + 1 + 1, 0, none⟩) (by simp; omega) _).setCell (p := ⟨w.heap.size + 1 + 1 + 1, 1, none⟩) (by simp; omega) _).alloc (by simp; omega) _⟩
  | false =>
   have HUN := hidOf (HU.out.trans (uS_bad hadd))
   have HC : Hid (addC c m x.c x.m = 0) := hidOf (by unfold addC; rw [hadd]; rfl)
   have HM : Hid (addM c m x.c x.m = 0) := hidOf (by unfold addM; rw [hadd]; rfl)
   have HA := hidOf hadd
   clear hadd HU
   gi_wp2_with (first | (refine ⟨trivial, ?_⟩; gi_at_call 75; refine (CallsIn.inRound l (callsIn_wide.2 (HAD.out _))).mono ?_; rintro e w1 ⟨rfl, hb⟩; rw [HC.out, HM.out, HA.out]; have H3' := hidOf (H3.out.grow hb); have HB := hidOf hb; clear hb cS cT fS lS cR cQ fR lR c7 c8 lBx; have cR := H3'.out.c0; have cQ := H3'.out.c1; have fR := H3'.out.fr; have lR := H3'.out.lt))
   have hw1 : w.heap.size + 6 ≤ w1.heap.size := Nat.le_trans h4 HB.out.size
   refine ⟨?_, ?_⟩
   ·exact ((kf_bel HB.out).trans ((KeepsOthers.setCell _ _ _).from _)).trans (((KeepsOthers.setCell _ _ _).from _).trans ((KeepsOthers.alloc _ _).from _))
   ·exact ⟨⟨⟨rfl, HUN.out⟩, (H3'.out.set _ _).grow (below1 _ _)⟩, (((HB1.out.trans (HB.out.mono HB1.out.size)).setCell (p := ⟨w.heap.size + 1 + 1, 0, none⟩) (by simp; omega) _).setCell (p := ⟨w.heap.size + 1 + 1, 1, none⟩) (by simp; omega) _).alloc (by simp; omega) _⟩
 case done =>
  rintro D ys W hD hys ⟨⟨⟨h1, h2⟩, h3, h4⟩, hB1⟩ hK
  subst hys
  have HV : Hid ((uF (sel (usB nd) L L.length)).2 = usedV nd L) := hidOf rfl
  rw [HV.out] at h2
  clear h1
  have cS := h2.c0
  have cT := h2.c1
  have fS := h2.fr
  have lS := h2.lt
  have cR := h3.c0
  have cQ := h3.c1
  have fR := h3.fr
  have lR := h3.lt
  have H3 := hidOf h3
  have HB1 := hidOf hB1
  have HK := hidOf hK
  clear h2 h3 hB1 hK
  gi_wp2
  have hK1 := (KeepsOthers.setCell W ⟨w.heap.size + 1 + 1, 0, none⟩ (.int .i64 (usedV nd L).1)).same D _ HK.out rfl
  have hK' := (KeepsOthers.setCell (W.setCell ⟨w.heap.size + 1 + 1, 0, none⟩ (.int .i64 (usedV nd L).1)) ⟨w.heap.size + 1 + 1, 1, none⟩ (.int .i64 (usedV nd L).2)).same D _ hK1 rfl
  refine ⟨by simp, .inl ⟨_, _, rfl, run_takeDeferred hK', ?_⟩⟩
  exact ⟨_, results_pr Try.results74 _ _ (w.heap.size + 1 + 1) _ _ rfl (pr_put (H3.out.set _ _) hK' _), rfl, ((HB1.out.setCell (p := ⟨w.heap.size + 1 + 1, 0, none⟩) (by simp; omega) _).setCell (p := ⟨w.heap.size + 1 + 1, 1, none⟩) (by simp; omega) _).trans (belowK_b (w := w) (Nat.le_refl _) _ D _ _ (by omega) hK' rfl rfl)⟩
 case stop =>
  rintro D c pre W hD ⟨k, hk, hpre⟩ ⟨⟨⟨rfl, h1⟩, h3⟩, hB⟩ hK
  subst hpre
  have HV := hidOf (usedV_at hk h1)
  clear h1
  gi_wp2
  refine ⟨by simp, .inl ⟨_, _, rfl, run_takeDeferred hK, ?_⟩⟩
  exact ⟨_, results_pr Try.results74 _ _ (w.heap.size + 1 + 1) _ _ rfl (pr_put h3 hK _), by rw [HV.out], hB.trans (belowK_b (w := w) (Nat.le_refl _) W D _ _ (by omega) hK rfl rfl)⟩
end Go.Proofs.Ytblofbdncolikaa

/- What is used on a node, of the document. -/
namespace Go.Proofs.Ytblofbdncolikaa
open Go.RowKit Go.Shelf
attribute [local go_sem] Oper.semAt_some
structure UrI (w wr : World) (sl : Value) (c m : Int) : Prop where
 s : wr.cell? ⟨w.heap.size, 5, none⟩ = some sl
 p2 : Pr wr (w.heap.size + 1 + 1) c m
 p1 : Pr wr (w.heap.size + 1) 0 0
 b : Below w.heap.size w wr
 z : w.heap.size + 3 ≤ wr.heap.size
theorem UrI.grow {w W W' : World} {sl : Value} {c m : Int} (h : UrI w W sl c m) (hb : Below W.heap.size W W') : UrI w W' sl c m :=
 ⟨(hb_cell hb (by have := h.z; omega)).trans h.s, h.p2.grow hb, h.p1.grow hb, h.b.trans (hb.mono h.b.size), Nat.le_trans h.z hb.size⟩
theorem UrI.set {w W : World} {sl : Value} {c m : Int} (h : UrI w W sl c m) (c' m' : Int) : UrI w ((W.setCell ⟨w.heap.size + 1 + 1, 0, none⟩ (.int .i64 c')).setCell ⟨w.heap.size + 1 + 1, 1, none⟩ (.int .i64 m')) sl c' m' := by
 refine ⟨?_, h.p2.set _ _, (h.p1.other (by omega) _).other (by omega) _, (h.b.setCell (p := ⟨w.heap.size + 1 + 1, 0, none⟩) (by show w.heap.size ≤ w.heap.size + 1 + 1; omega) _).setCell (p := ⟨w.heap.size + 1 + 1, 1, none⟩) (by show w.heap.size ≤ w.heap.size + 1 + 1; omega) _, by simpa using h.z⟩
 have e : ((W.setCell ⟨w.heap.size + 1 + 1, 0, none⟩ (.int .i64 c')).setCell ⟨w.heap.size + 1 + 1, 1, none⟩ (.int .i64 m')).heap[w.heap.size]? = W.heap[w.heap.size]? := (heap_setCell_other _ ⟨w.heap.size + 1 + 1, 1, none⟩ _ _ (by show w.heap.size ≠ w.heap.size + 1 + 1; omega)).trans (heap_setCell_other _ ⟨w.heap.size + 1 + 1, 0, none⟩ _ _ (by show w.heap.size ≠ w.heap.size + 1 + 1; omega))
 exact (World.cell?_of_block (a := ⟨w.heap.size, 5, none⟩) e).trans h.s
theorem UrI.begin (w : World) (cs : List Value) (sl : Value) (hs : cs[5]? = some sl) : UrI w (((w.alloc (.cells cs.toArray 29)).alloc (.cells #[.int .i64 0, .int .i64 0] 40)).alloc (.cells #[.int .i64 0, .int .i64 0] 40)) sl 0 0 := by
 have p1 := pr_new (w.alloc (.cells cs.toArray 29)) 0 0
 have p2 := pr_new ((w.alloc (.cells cs.toArray 29)).alloc (.cells #[.int .i64 0, .int .i64 0] 40)) 0 0
 simp only [World.size_alloc] at p1 p2
 have hb : Below (w.alloc (.cells cs.toArray 29)).heap.size (w.alloc (.cells cs.toArray 29)) (((w.alloc (.cells cs.toArray 29)).alloc (.cells #[.int .i64 0, .int .i64 0] 40)).alloc (.cells #[.int .i64 0, .int .i64 0] 40)) := below2 _ _ _
 refine ⟨(box_new hb) 5 _ hs, p2, p1.grow (below1 _ _), (below1 w _).trans (hb.mono (below1 w _).size), by simp⟩
set_option maxRecDepth 100000 in
set_option maxHeartbeats 4000000 in
theorem refUsed_any (s : Sc) (nd : Int) (L : List Al) (w : World) (hn : s.n5 = L.length) (hL : Fl w (fun b => b < w.heap.size) 11 88 Al.cs s.a5 L) :
  Calls Try.prog 58 #[.agg #[.int .i64 s.ix, .int .i64 s.nx, .slice s.a2 s.n2 s.c2, .slice s.a3 s.n3 s.c3, .slice s.a4 s.n4 s.c4, .slice s.a5 s.n5 s.c5, .slice s.a6 s.n6 s.c6, .slice s.a7 s.n7 s.c7, .slice s.a8 s.n8 s.c8], .int .i64 nd] w fun e w' => e = .returned (.agg #[.int .i64 (usedV nd L).1, .int .i64 (usedV nd L).2]) ∧ Below w.heap.size w w' := by
 have hlen : L.length * 88 ≤ 140737488355328 := hL.bd
 obtain ⟨ix, nx, a2, n2, c2, a3, n3, c3, a4, n4, c4, a5, n5, c5, a6, n6, c6, a7, n7, c7, a8, n8, c8⟩ := s
 simp only at hn hL
 subst hn
 have HL := hidOf hL
 have HI0 := hidOf (UrI.begin w [.int .i64 ix, .int .i64 nx, .slice a2 n2 c2, .slice a3 n3 c3, .slice a4 n4 c4, .slice a5 L.length c5, .slice a6 n6 c6, .slice a7 n7 c7, .slice a8 n8 c8] (.slice a5 L.length c5) rfl)
 clear hL
 go_enter Try.func58, Try.ntmps58
 go_wp2
 go_loopw [6] (fun i wr => ∃ (k : Nat) (c m : Int), k ≤ L.length ∧ i = .int .i64 k ∧ Hid (uF (sel (usB nd) L k) = (true, c, m)) ∧ Hid (UrI w wr (.slice a5 L.length c5) c m)) (fun i _ => L.length - (intOf i).toNat)
 case atStart => exact ⟨0, 0, 0, Nat.zero_le _, rfl, hidOf rfl, HI0⟩
 case round =>
  clear HI0
  obtain ⟨k, c, m, hk, rfl, HU, HI⟩ := hrel
  have e5 := HI.out.s
  have hz := HI.out.z
  have lw : w.heap.size < wr.heap.size := by omega
  by_cases hlt : k < L.length
  ·obtain ⟨b, off, ha, hbl, hc0⟩ := HL.out.at k hlt
   have hbl2 : b < wr.heap.size := Nat.lt_of_lt_of_le hbl HI.out.b.size
   have hc := range_of hc0 (HI.out.b.block b hbl)
   clear hbl hc0
   subst ha
   have hx := getD_at L k hlt
   have HYES := hidOf (@sel_yes Al _ (usB nd) L k)
   have HNO := hidOf (@sel_no Al _ (usB nd) L k)
   rw [hx] at HYES HNO
   clear hx
   generalize L[k] = x at *
   have c0 : wr.cell? ⟨b, off + k * 11, none⟩ = some (.int .i64 x.id) := hc 0 _ rfl
   have c1 : wr.cell? ⟨b, off + k * 11 + 1, none⟩ = some (.int .i64 x.jb) := hc 1 _ rfl
   have c2 : wr.cell? ⟨b, off + k * 11 + 2, none⟩ = some (.int .i64 x.ve) := hc 2 _ rfl
   have c3 : wr.cell? ⟨b, off + k * 11 + 3, none⟩ = some (.int .i64 x.gr) := hc 3 _ rfl
   have c4 : wr.cell? ⟨b, off + k * 11 + 4, none⟩ = some (.int .i64 x.ix) := hc 4 _ rfl
   have c5 : wr.cell? ⟨b, off + k * 11 + 5, none⟩ = some (.int .i64 x.nd) := hc 5 _ rfl
   have c6 : wr.cell? ⟨b, off + k * 11 + 6, none⟩ = some (.int .i64 x.ep) := hc 6 _ rfl
   have c7 : wr.cell? ⟨b, off + k * 11 + 7, none⟩ = some (.int .i64 x.c) := hc 7 _ rfl
   have c8 : wr.cell? ⟨b, off + k * 11 + 8, none⟩ = some (.int .i64 x.m) := hc 8 _ rfl
   have c9 : wr.cell? ⟨b, off + k * 11 + 9, none⟩ = some (.bool x.sp) := hc 9 _ rfl
   have c10 : wr.cell? ⟨b, off + k * 11 + 10, none⟩ = some (.int .i64 x.st) := hc 10 _ rfl
   clear hc
   have HI2 := hidOf (HI.out.grow (below1 wr (.cells #[.int .i64 x.id, .int .i64 x.jb, .int .i64 x.ve, .int .i64 x.gr, .int .i64 x.ix, .int .i64 x.nd, .int .i64 x.ep, .int .i64 x.c, .int .i64 x.m, .bool x.sp, .int .i64 x.st] 42)))
   by_cases h1 : x.nd = nd
   ·have b1 : (x.nd == nd) = true := by simp [h1]
    have b1' : (x.nd != nd) = false := by simp [h1]
    by_cases h2 : 3 ≤ x.st
    ·have HY := hidOf ((congrArg uF (HNO.out (by rw [usB, isI_true h1, ovr_true h2]; rfl))).trans HU.out)
     clear h1 HYES HNO
     go_wp2
     go_roundw
     case rel => exact ⟨k + 1, c, m, by omega, by go_num, HY, HI2⟩
     case measure => simp [intOf]; omega
    ·have HX := hidOf (congrArg uF (HYES.out (by rw [usB, isI_true h1, ovr_false h2]; rfl)))
     rw [uF_snoc, HU.out] at HX
     have HAD := hidOf (refAdd_any c m x.c x.m)
     have cS := HI2.out.p2.c0
     have cT := HI2.out.p2.c1
     cases hadd : addB c m x.c x.m with
     | true =>
      have HY := hidOf (HX.out.trans (uS_yes hadd))
      have HC : Hid (addC c m x.c x.m = c + x.c) := hidOf (by unfold addC; rw [hadd]; rfl)
      have HM : Hid (addM c m x.c x.m = m + x.m) := hidOf (by unfold addM; rw [hadd]; rfl)
      have HA := hidOf hadd
      have lS : w.heap.size + 1 + 1 < wr.heap.size := by omega
      have p0 := HI.out.p2.c0
      have p1 := HI.out.p2.c1
      clear hadd h1 HYES HNO HX cS cT
      go_wp2_with (go_at_call 59; refine (HAD.out _).mono ?_; rintro e w1 ⟨rfl, hb⟩; rw [HC.out, HM.out, HA.out]; have HI3 := hidOf (HI2.out.grow hb); clear hb p0 p1 lS; have cS := HI3.out.p2.c0; have cT := HI3.out.p2.c1; have fS := HI3.out.p2.fr; have lS : w.heap.size + 1 + 1 < _ := HI3.out.p2.lt)
      go_roundw
      case rel => exact ⟨k + 1, c + x.c, m + x.m, by omega, by go_num, HY, hidOf ((HI3.out.set _ _).grow (below1 _ _))⟩
      case measure => simp [intOf]; omega
     | false =>
      have HY := hidOf (usedV_at (show k + 1 ≤ L.length by omega) (HX.out.trans (uS_bad hadd)))
      have HC : Hid (addC c m x.c x.m = 0) := hidOf (by unfold addC; rw [hadd]; rfl)
      have HM : Hid (addM c m x.c x.m = 0) := hidOf (by unfold addM; rw [hadd]; rfl)
      have HA := hidOf hadd
      have lS : w.heap.size + 1 + 1 < wr.heap.size := by omega
      have p0 := HI.out.p2.c0
      have p1 := HI.out.p2.c1
      clear hadd h1 HYES HNO HX cS cT
      go_wp2_with (go_at_call 59; refine (HAD.out _).mono ?_; rintro e w1 ⟨rfl, hb⟩; rw [HC.out, HM.out, HA.out]; have HI3 := hidOf (HI2.out.grow hb); clear hb p0 p1 lS; have cR := HI3.out.p1.c0; have cQ := HI3.out.p1.c1; have fR := HI3.out.p1.fr; have lR : w.heap.size + 1 < _ := HI3.out.p1.lt)
      refine bodyPost_ret (results_pr Try.results58 _ _ (w.heap.size + 1) 1152921504606846976 1152921504606846976 rfl ((HI3.out.p1.set _ _).grow (below1 _ _))) rfl ⟨by rw [HY.out]; rfl, ?_⟩
      exact ((HI3.out.b.setCell (p := ⟨w.heap.size + 1, 0, none⟩) (by show w.heap.size ≤ w.heap.size + 1; omega) _).setCell (p := ⟨w.heap.size + 1, 1, none⟩) (by show w.heap.size ≤ w.heap.size + 1; omega) _).alloc (by have h3 := HI3.out.z; simp; omega) _
   ·have b1 : (x.nd == nd) = false := by simp [h1]
    have b1' : (x.nd != nd) = true := by simp [h1]
    have HY := hidOf ((congrArg uF (HNO.out (by rw [usB, isI_false h1]; rfl))).trans HU.out)
    clear h1 HYES HNO
    go_wp2
    go_roundw
    case rel => exact ⟨k + 1, c, m, by omega, by go_num, HY, HI2⟩
    case measure => simp [intOf]; omega
  ·have hkl : k = L.length := by omega
   subst hkl
   have HV : Hid (usedV nd L = (c, m)) := hidOf (by rw [usedV, HU.out])
   have cS := HI.out.p2.c0
   have cT := HI.out.p2.c1
   have lS : w.heap.size + 1 + 1 < wr.heap.size := HI.out.p2.lt
   have cR := HI.out.p1.c0
   have cQ := HI.out.p1.c1
   have fR := HI.out.p1.fr
   have lR : w.heap.size + 1 < wr.heap.size := HI.out.p1.lt
   go_wp2
   refine bodyPost_ret (results_pr Try.results58 _ _ (w.heap.size + 1) c m rfl (HI.out.p1.set _ _)) rfl ⟨by rw [HV.out], ?_⟩
   exact (HI.out.b.setCell (p := ⟨w.heap.size + 1, 0, none⟩) (by show w.heap.size ≤ w.heap.size + 1; omega) _).setCell (p := ⟨w.heap.size + 1, 1, none⟩) (by show w.heap.size ≤ w.heap.size + 1; omega) _
end Go.Proofs.Ytblofbdncolikaa

/- Where a demand may be placed and what it leaves: plain mathematics. -/
namespace Go.Proofs.Ytblofbdncolikaa
open Go.RowKit
theorem sel_lt {α : Type} [Inhabited α] (P : α → Bool) (L : List α) (k : Nat) : ∀ p ∈ sel P L k, p.1 < k := by
 induction k with
 | zero => intro p hp; simp [sel] at hp
 | succ k ih =>
  intro p hp
  rw [sel, List.mem_append] at hp
  rcases hp with hp | hp
  ·have := ih p hp; omega
  ·split at hp
   ·simp at hp; subst hp; simp
   ·simp at hp
theorem fi_range {α : Type} [Inhabited α] (P : α → Bool) (L : List α) : fi P L = -1 ∨ ∃ i : Nat, i < L.length ∧ fi P L = (i : Int) := by
 cases hs : sel P L L.length with
 | nil => exact .inl (fi_nil hs)
 | cons p r => exact .inr ⟨p.1, sel_lt P L L.length p (by rw [hs]; simp), by rw [fi, hs]⟩
/- the sum of what is used and of what more is there -/
def wS (nd : Int) (s : Bool × Int × Int) (x : Al) : Bool × Int × Int := if isI x.nd nd = true then uS s x else s
def wF (nd : Int) (A M : List Al) : Bool × Int × Int := M.foldl (wS nd) (true, usedV nd A)
theorem wF_nil (nd : Int) (A : List Al) : wF nd A [] = (true, usedV nd A) := rfl
theorem wF_snoc (nd : Int) (A M : List Al) (x : Al) : wF nd A (M ++ [x]) = wS nd (wF nd A M) x := by simp [wF]
theorem wF_take (nd : Int) (A M : List Al) (k : Nat) (h : k < M.length) : wF nd A (M.take (k + 1)) = wS nd (wF nd A (M.take k)) M[k] := by
 rw [List.take_succ_eq_append_getElem h, wF_snoc]
theorem wS_no {nd : Int} {x : Al} (h : isI x.nd nd = false) (s : Bool × Int × Int) : wS nd s x = s := by simp [wS, h]
theorem wS_yes {nd c m : Int} {x : Al} (h : isI x.nd nd = true) (hadd : addB c m x.c x.m = true) : wS nd (true, c, m) x = (true, c + x.c, m + x.m) := by rw [wS, if_pos h, uS_yes hadd]
theorem wS_bad {nd c m : Int} {x : Al} (h : isI x.nd nd = true) (hadd : addB c m x.c x.m = false) : wS nd (true, c, m) x = (false, top, top) := by rw [wS, if_pos h, uS_bad hadd]
theorem wS_off {s : Bool × Int × Int} (h : s.1 = false) (nd : Int) (x : Al) : wS nd s x = s := by
 unfold wS
 split
 ·exact uS_no h x
 ·rfl
theorem fold_off {s : Bool × Int × Int} (h : s.1 = false) (nd : Int) (R : List Al) : R.foldl (wS nd) s = s := by
 induction R with
 | nil => rfl
 | cons x R ih => rw [List.foldl_cons, wS_off h, ih]
theorem wF_bad {nd : Int} {A M : List Al} {k : Nat} (h : wF nd A (M.take k) = (false, top, top)) : wF nd A M = (false, top, top) := by
 have e : wF nd A M = (M.drop k).foldl (wS nd) (wF nd A (M.take k)) := by
  unfold wF
  rw [← List.foldl_append, List.take_append_drop]
 rw [e, h, fold_off rfl]
/- a sum that stands is one that may be -/
theorem uS_may (s : Bool × Int × Int) (x : Al) (h : s.1 = true → mayR s.2.1 s.2.2 = true) : (uS s x).1 = true → mayR (uS s x).2.1 (uS s x).2.2 = true := by
 obtain ⟨ok, c, m⟩ := s
 cases ok with
 | false => intro h1; rw [uS_no rfl] at h1; cases h1
 | true =>
  cases hadd : addB c m x.c x.m with
  | false => rw [uS_bad hadd]; intro h1; cases h1
  | true =>
   rw [uS_yes hadd]
   intro _
   unfold addB at hadd
   rw [Bool.and_eq_true] at hadd
   exact hadd.2
theorem uF_may (L : List (Nat × Al)) : mayR (uF L).2.1 (uF L).2.2 = true := by
 have key : ∀ (L : List (Nat × Al)) (s : Bool × Int × Int), mayR s.2.1 s.2.2 = true → mayR (L.foldl (fun s p => uS s p.2) s).2.1 (L.foldl (fun s p => uS s p.2) s).2.2 = true := by
  intro L
  induction L with
  | nil => intro s h; exact h
  | cons x L ih =>
   intro s h
   rw [List.foldl_cons]
   refine ih _ ?_
   obtain ⟨ok, c, m⟩ := s
   cases ok with
   | false => rw [uS_no rfl]; exact h
   | true =>
    cases hadd : addB c m x.2.c x.2.m with
    | false => rw [uS_bad hadd]; decide
    | true => have := uS_may (true, c, m) x.2 (fun _ => h); rw [uS_yes hadd] at this ⊢; exact this rfl
 exact key L (true, 0, 0) (by decide)
theorem used_may (nd : Int) (A : List Al) : mayR (usedV nd A).1 (usedV nd A).2 = true := uF_may _
theorem wF_may (nd : Int) (A M : List Al) : (wF nd A M).1 = true → mayR (wF nd A M).2.1 (wF nd A M).2.2 = true := by
 have key : ∀ (M : List Al) (s : Bool × Int × Int), (s.1 = true → mayR s.2.1 s.2.2 = true) → (M.foldl (wS nd) s).1 = true → mayR (M.foldl (wS nd) s).2.1 (M.foldl (wS nd) s).2.2 = true := by
  intro M
  induction M with
  | nil => intro s h; exact h
  | cons x M ih =>
   intro s h
   rw [List.foldl_cons]
   refine ih _ ?_
   unfold wS
   split
   ·exact uS_may s x h
   ·exact h
 exact key M _ (fun _ => used_may nd A)
/- what is told of the sum -/
def wC (s : Bool × Int × Int) : Int := if s.1 = true then s.2.1 else 0
def wM (s : Bool × Int × Int) : Int := if s.1 = true then s.2.2 else 0
/- where a node stands, and which it is -/
def atN (N : List Nd) (nd : Int) : Int := fi (fun x => isI x.id nd) N
def okV (n : Nd) (s : Bool × Int × Int) (a b : Int) : Bool := s.1 && (addB s.2.1 s.2.2 a b && (decide (s.2.1 + a ≤ n.c) && decide (s.2.2 + b ≤ n.m)))
def lfV (n : Nd) (s : Bool × Int × Int) (a b : Int) : Int := (n.c - (s.2.1 + a)) + (n.m - (s.2.2 + b))
def nvF (n : Nd) (s : Bool × Int × Int) (a b : Int) : Option Int := if (n.up && (!n.dr && okV n s a b)) = true then some (lfV n s a b) else none
def chV (N : List Nd) (A M : List Al) (nd a b : Int) : Option Int := if atN N nd < 0 then none else nvF (N[(atN N nd).toNat]?.getD default) (wF nd A M) a b
theorem chV_no {N : List Nd} {A M : List Al} {nd a b : Int} (h : atN N nd = -1) : chV N A M nd a b = none := by rw [chV, h]; rfl
theorem chV_at {N : List Nd} {A M : List Al} {nd a b : Int} {i : Nat} (hi : i < N.length) (h : atN N nd = (i : Int)) : chV N A M nd a b = nvF N[i] (wF nd A M) a b := by
 rw [chV, h, if_neg (by omega), show ((i : Int)).toNat = i from rfl, getD_at N i hi]
theorem nvF_down {n : Nd} {s : Bool × Int × Int} {a b : Int} (h : n.up = false) : nvF n s a b = none := by simp [nvF, h]
theorem nvF_drain {n : Nd} {s : Bool × Int × Int} {a b : Int} (h : n.dr = true) : nvF n s a b = none := by simp [nvF, h]
theorem nvF_not {n : Nd} {s : Bool × Int × Int} {a b : Int} (h : okV n s a b = false) : nvF n s a b = none := by simp [nvF, h]
theorem nvF_yes {n : Nd} {s : Bool × Int × Int} {a b : Int} (h1 : n.up = true) (h2 : n.dr = false) (h : okV n s a b = true) : nvF n s a b = some (lfV n s a b) := by simp [nvF, h1, h2, h]
/- may capacities be added -/
def cpB (n : Nd) : Bool := decide (n.c ≤ 2305843009213693952) && decide (n.m ≤ 2305843009213693952)
def cpL (N : List Nd) : Bool := N.all cpB
theorem cpL_at {N : List Nd} (h : cpL N = true) (i : Nat) (hi : i < N.length) : N[i].c ≤ 2305843009213693952 ∧ N[i].m ≤ 2305843009213693952 := by
 have := List.all_eq_true.1 h N[i] (List.getElem_mem hi)
 simpa [cpB] using this
/- what an ask that fits says of the numbers -/
theorem okV_true {n : Nd} {s : Bool × Int × Int} {a b : Int} (h : okV n s a b = true) : s.1 = true ∧ (0 ≤ s.2.1 ∧ s.2.1 ≤ 1152921504606846976) ∧ (0 ≤ s.2.2 ∧ s.2.2 ≤ 1152921504606846976) ∧ (0 ≤ a ∧ a ≤ 1152921504606846976) ∧ (0 ≤ b ∧ b ≤ 1152921504606846976) ∧ s.2.1 + a ≤ n.c ∧ s.2.2 + b ≤ n.m := by
 unfold okV at h
 rw [Bool.and_eq_true, Bool.and_eq_true, Bool.and_eq_true, decide_eq_true_eq, decide_eq_true_eq] at h
 obtain ⟨h1, h2, h3, h4⟩ := h
 unfold addB at h2
 rw [Bool.and_eq_true, Bool.and_eq_true, mayR_true, mayR_true] at h2
 exact ⟨h1, h2.1.1.1, h2.1.1.2, h2.1.2.1, h2.1.2.2, h3, h4⟩
/- the best of the first nodes -/
def bt (x y : Int × Int) : Bool := decide (x.2 < y.2) || (decide (x.2 = y.2) && decide (x.1 < y.1))
def bS (N : List Nd) (A M : List Al) (a b : Int) (s : Option (Int × Int)) (id : Int) : Option (Int × Int) := match chV N A M id a b with
 | none => s
 | some l => match s with
  | none => some (id, l)
  | some y => if bt (id, l) y = true then some (id, l) else some y
def bF (N : List Nd) (A M : List Al) (a b : Int) (k : Nat) : Option (Int × Int) := (N.take k).foldl (fun s n => bS N A M a b s n.id) none
theorem bF_step (N : List Nd) (A M : List Al) (a b : Int) (k : Nat) (h : k < N.length) : bF N A M a b (k + 1) = bS N A M a b (bF N A M a b k) N[k].id := by
 rw [bF, List.take_succ_eq_append_getElem h, List.foldl_append]; rfl
def bV (N : List Nd) (A M : List Al) (a b : Int) : Option (Int × Int) := bF N A M a b N.length
theorem bS_none {N : List Nd} {A M : List Al} {a b id : Int} (h : chV N A M id a b = none) (s : Option (Int × Int)) : bS N A M a b s id = s := by rw [bS, h]
theorem bS_first {N : List Nd} {A M : List Al} {a b id l : Int} (h : chV N A M id a b = some l) : bS N A M a b none id = some (id, l) := by rw [bS, h]
theorem bS_some {N : List Nd} {A M : List Al} {a b id l : Int} (h : chV N A M id a b = some l) (y : Int × Int) : bS N A M a b (some y) id = if bt (id, l) y = true then some (id, l) else some y := by rw [bS, h]
theorem bF_is (N : List Nd) (A M : List Al) (a b : Int) (k : Nat) (hk : k ≤ N.length) : ∀ y, bF N A M a b k = some y → chV N A M y.1 a b = some y.2 := by
 induction k with
 | zero => intro y h; cases h
 | succ k ih =>
  intro y h
  rw [bF_step N A M a b k (by omega)] at h
  cases hc : chV N A M N[k].id a b with
  | none => rw [bS_none hc] at h; exact ih (by omega) y h
  | some l =>
   cases hs : bF N A M a b k with
   | none => rw [hs, bS_first hc] at h; cases h; exact hc
   | some z =>
    rw [hs, bS_some hc] at h
    split at h
    ·cases h; exact hc
    ·cases h; exact ih (by omega) _ hs
theorem bF_least (N : List Nd) (A M : List Al) (a b : Int) (k : Nat) (hk : k ≤ N.length) : ∀ i (hi : i < k), ∀ l, chV N A M (N[i]'(by omega)).id a b = some l → ∃ y, bF N A M a b k = some y ∧ (y.2 < l ∨ (y.2 = l ∧ y.1 ≤ (N[i]'(by omega)).id)) := by
 induction k with
 | zero => intro i hi; omega
 | succ k ih =>
  intro i hi l hl
  rw [bF_step N A M a b k (by omega)]
  by_cases e : i = k
  ·subst e
   cases hs : bF N A M a b i with
   | none => exact ⟨_, bS_first hl, .inr ⟨rfl, Int.le_refl _⟩⟩
   | some z =>
    rw [bS_some hl]
    by_cases hb : bt (N[i].id, l) z = true
    ·exact ⟨_, if_pos hb, .inr ⟨rfl, Int.le_refl _⟩⟩
    ·refine ⟨_, if_neg hb, ?_⟩
     simp only [bt, Bool.or_eq_true, Bool.and_eq_true, decide_eq_true_eq] at hb
     omega
  ·obtain ⟨y, hy, hle⟩ := ih (by omega) i (by omega) l hl
   cases hc : chV N A M N[k].id a b with
   | none => rw [bS_none hc]; exact ⟨y, hy, hle⟩
   | some l2 =>
    rw [hy, bS_some hc]
    by_cases hb : bt (N[k].id, l2) y = true
    ·refine ⟨_, if_pos hb, ?_⟩
     simp only [bt, Bool.or_eq_true, Bool.and_eq_true, decide_eq_true_eq] at hb
     simp only
     omega
    ·exact ⟨_, if_neg hb, hle⟩
/- a greater ask, and one more -/
theorem chV_more {N : List Nd} {A M : List Al} {nd a b : Int} {x : Al} (h : (chV N A (M ++ [x]) nd a b).isSome = true) : (chV N A M nd a b).isSome = true := by
 rcases fi_range (fun y : Nd => isI y.id nd) N with e | ⟨i, hi, e⟩
 ·rw [chV_no e] at h; cases h
 ·rw [chV_at hi e] at h ⊢
  rw [wF_snoc] at h
  generalize wF nd A M = s at *
  obtain ⟨ok, c, m⟩ := s
  cases hn : isI x.nd nd with
  | false => rw [wS_no hn] at h; exact h
  | true =>
   cases ok with
   | false => rw [wS_off rfl] at h; exact h
   | true =>
    cases hadd : addB c m x.c x.m with
    | false =>
     rw [wS_bad hn hadd] at h
     rw [nvF_not (by simp [okV])] at h
     cases h
    | true =>
     rw [wS_yes hn hadd] at h
     cases h1 : N[i].up with
     | false => rw [nvF_down h1] at h; cases h
     | true =>
      cases h2 : N[i].dr with
      | true => rw [nvF_drain h2] at h; cases h
      | false =>
       cases h3 : okV N[i] (true, c + x.c, m + x.m) a b with
       | false => rw [nvF_not h3] at h; cases h
       | true =>
        have h4 := okV_true h3
        unfold addB at hadd
        rw [Bool.and_eq_true, Bool.and_eq_true, mayR_true, mayR_true, mayR_true] at hadd
        have h5 : okV N[i] (true, c, m) a b = true := by
         simp only [okV, addB, Bool.and_eq_true, mayR_true, decide_eq_true_eq, true_and] at h3 ⊢
         simp only at h4
         omega
        rw [nvF_yes h1 h2 h5]; rfl
theorem chV_less {N : List Nd} {A M : List Al} {nd a b : Int} (ha : 0 ≤ a) (h : (chV N A M nd (a + 1) b).isSome = true) : (chV N A M nd a b).isSome = true := by
 rcases fi_range (fun y : Nd => isI y.id nd) N with e | ⟨i, hi, e⟩
 ·rw [chV_no e] at h; cases h
 ·rw [chV_at hi e] at h ⊢
  generalize wF nd A M = s at *
  obtain ⟨ok, c, m⟩ := s
  cases h1 : N[i].up with
  | false => rw [nvF_down h1] at h; cases h
  | true =>
   cases h2 : N[i].dr with
   | true => rw [nvF_drain h2] at h; cases h
   | false =>
    cases h3 : okV N[i] (ok, c, m) (a + 1) b with
    | false => rw [nvF_not h3] at h; cases h
    | true =>
     have h5 : okV N[i] (ok, c, m) a b = true := by
      simp only [okV, addB, Bool.and_eq_true, mayR_true, decide_eq_true_eq] at h3 ⊢
      refine ⟨h3.1, ?_⟩
      have h6 := h3.2
      omega
     rw [nvF_yes h1 h2 h5]; rfl
/- what is left on a node now -/
def lnV (N : List Nd) (A : List Al) (nd : Int) : Int := ((N[(atN N nd).toNat]?.getD default).c - (usedV nd A).1) + ((N[(atN N nd).toNat]?.getD default).m - (usedV nd A).2)
theorem chV_left {N : List Nd} {A : List Al} {nd a b l : Int} (h : chV N A [] nd a b = some l) : ∃ i : Nat, ∃ hi : i < N.length, atN N nd = (i : Int) ∧ l = lnV N A nd - a - b ∧ (0 ≤ (usedV nd A).1 ∧ (usedV nd A).1 ≤ 1152921504606846976) ∧ (0 ≤ (usedV nd A).2 ∧ (usedV nd A).2 ≤ 1152921504606846976) ∧ (usedV nd A).1 ≤ N[i].c ∧ (usedV nd A).2 ≤ N[i].m := by
 rcases fi_range (fun y : Nd => isI y.id nd) N with e | ⟨i, hi, e⟩
 ·rw [chV_no e] at h; cases h
 ·refine ⟨i, hi, e, ?_⟩
  have ee : atN N nd = (i : Int) := e
  rw [chV_at hi e, wF_nil] at h
  cases h1 : N[i].up with
  | false => rw [nvF_down h1] at h; cases h
  | true =>
   cases h2 : N[i].dr with
   | true => rw [nvF_drain h2] at h; cases h
   | false =>
    cases h3 : okV N[i] (true, usedV nd A) a b with
    | false => rw [nvF_not h3] at h; cases h
    | true =>
     rw [nvF_yes h1 h2 h3] at h
     have h4 := okV_true h3
     cases h
     simp only at h4
     refine ⟨?_, h4.2.1, h4.2.2.1, by omega, by omega⟩
     rw [lnV, ee, show ((i : Int)).toNat = i from rfl, getD_at N i hi, lfV]
     simp only
     omega
end Go.Proofs.Ytblofbdncolikaa
