/- What is used on a node, of the code. -/
import Derived.Test.YtajfhknfknedmaaWl
import Derived.Test.YtajfhknfknedmaaSa
namespace Go.Proofs.Ytajfhknfknedmaa
open Go.RowKit Go.Shelf
attribute [local go_sem] Oper.semAt_some
/- the sum of what is on a node -/
def uS (s : Bool × Int × Int) (x : Al) : Bool × Int × Int := if s.1 = true then (if addB s.2.1 s.2.2 x.c x.m = true then (true, s.2.1 + x.c, s.2.2 + x.m) else (false, top, top)) else s
def uF (L : List (Nat × Al)) : Bool × Int × Int := L.foldl (fun s p => uS s p.2) (true, 0, 0)
theorem uF_snoc (pre : List (Nat × Al)) (x : Nat × Al) : uF (pre ++ [x]) = uS (uF pre) x.2 := by simp [uF]
theorem uS_no {s : Bool × Int × Int} (h : s.1 = false) (x : Al) : uS s x = s := by simp [uS, h]
theorem uF_no {pre : List (Nat × Al)} (h : (uF pre).1 = false) (r : List (Nat × Al)) : uF (pre ++ r) = uF pre := by
  induction r generalizing pre with
  | nil => simp
  | cons x r ih =>
    have e : uF (pre ++ [x]) = uF pre := by rw [uF_snoc, uS_no h]
    rw [show pre ++ x :: r = (pre ++ [x]) ++ r by simp, ih (by rw [e]; exact h), e]
theorem kf_bel {B : Nat} {W w1 : World} (h : Below W.heap.size W w1) : KeepsFrom B W w1 := ⟨h.size, fun k _ _ hk _ => (h.block k (heap_lt hk)).trans hk⟩
theorem Kq.set {Q : Nat → Prop} {w : World} {j o : Nat} (h : ¬ Q j) (v : Value) : Kq Q w (w.setCell ⟨j, o, none⟩ v) := ⟨by simp, fun k hk => heap_setCell_other w ⟨j, o, none⟩ k v (fun e => by have e2 : k = j := e; subst e2; exact h hk)⟩
def usedV (nd : Int) (L : List Al) : Int × Int := (uF (sel (usB nd) L L.length)).2
theorem uS_yes {c m : Int} {x : Al} (h : addB c m x.c x.m = true) : uS (true, c, m) x = (true, c + x.c, m + x.m) := by simp [uS, h]
theorem uS_bad {c m : Int} {x : Al} (h : addB c m x.c x.m = false) : uS (true, c, m) x = (false, top, top) := by simp [uS, h]
theorem usedV_at {nd : Int} {L : List Al} {k : Nat} (hk : k ≤ L.length) (h : uF (sel (usB nd) L k) = (false, top, top)) : usedV nd L = (top, top) := by
  obtain ⟨r, hr⟩ := sel_le (usB nd) L hk
  rw [usedV, hr, uF_no (by rw [h]), h]
theorem pr_own {β : Type} (k : Nat) (f g : β → Int) : Own (fun s W => Pr W k (f s) (g s)) := by
  intro s A B row hs hg hr
  exact (hg.block k hs.lt (fun e => by obtain ⟨o, ho, hc⟩ := hr k e.symm; have hs' : A.heap[k]? = _ := hs; rw [hs'] at ho; cases ho; cases hc)).trans hs
theorem pr_put {W : World} {k : Nat} {x y : Int} (h : Pr W k x y) {D : Nat} (hK : W.heap[D]? = some (.deferred (some []))) (o : Obj) : Pr (W.putObj D o) k x y :=
  pr_own k (fun (_ : Unit) => x) (fun _ => y) () W _ (some D) h (grownBy_putObj' W D o) (fun r e => by cases e; exact ⟨_, hK, rfl⟩)
theorem Pr.other {w : World} {k j o : Nat} {x y : Int} (h : Pr w k x y) (hne : k ≠ j) (v : Value) : Pr (w.setCell ⟨j, o, none⟩ v) k x y := (heap_setCell_other w ⟨j, o, none⟩ k v hne).trans h
theorem results_pr {fn : Func} {p : Tmp} (h : fn.results = #[.cell p 31]) (tmps : Array Value) (w : World) (b : Nat) (k t : Int) (hp : tmps.getD p undef = .pointer (some ⟨b, 0, none⟩)) (h0 : Pr w b k t) :
    (results fn tmps).run Try.prog w = .ok (.agg #[.int .i64 k, .int .i64 t]) w := by
  exact results_cell_row h tmps w b 31 #[.int .i64 k, .int .i64 t] (0, 0) _ hp h0 Try.underlying31 rfl (by kernel_rfl)
set_option maxRecDepth 100000 in
set_option maxHeartbeats 4000000 in
theorem used_any (s : Sc) (nd : Int) (L : List Al) (w : World) (hn : s.n5 = L.length) (hL : Fl w (fun b => b < w.heap.size) 11 88 Al.cs s.a5 L) :
    Calls Try.prog 25 #[.agg #[.int .i64 s.ix, .int .i64 s.nx, .slice s.a2 s.n2 s.c2, .slice s.a3 s.n3 s.c3, .slice s.a4 s.n4 s.c4, .slice s.a5 s.n5 s.c5, .slice s.a6 s.n6 s.c6, .slice s.a7 s.n7 s.c7, .slice s.a8 s.n8 s.c8], .int .i64 nd] w fun e w' => e = .returned (.agg #[.int .i64 (usedV nd L).1, .int .i64 (usedV nd L).2]) ∧ Below w.heap.size w w' := by
  have hmf : ∀ (fn : Fn) (first cap : Array Value) (w : World), (Instr.makeFunc fn first cap).run Try.prog w = .ok (.func fn first cap) w := fun _ _ _ _ => rfl
  obtain ⟨ix, nx, a2, n2, c2, a3, n3, c3, a4, n4, c4, a5, n5, c5, a6, n6, c6, a7, n7, c7, a8, n8, c8⟩ := s
  simp only at hn hL
  subst hn
  refine (callsIn_wide (n := 3)).1 ?_
  refine callsIn_of_wp_marks Try.func25 rfl trivial ?_ rfl
  simp only [Try.ntmps25, List.size_toArray, List.length_cons, List.length_nil, Nat.reduceAdd, Nat.reduceSub, Array.replicate_succ, Array.replicate_zero, List.push_toArray, List.append_toArray, List.nil_append, List.cons_append]
  gi_wp2_with (refine ⟨trivial, ?_⟩; gi_at_call 29; refine (callsIn_wide.2 (where48 _ _ _ _ _ _ _)).mono ?_; rintro e w' ⟨rfl, rfl⟩)
  have hB0 : Below w.heap.size w ((((((w.alloc (.cells #[.int .i64 ix, .int .i64 nx, .slice a2 n2 c2, .slice a3 n3 c3, .slice a4 n4 c4, .slice a5 L.length c5, .slice a6 n6 c6, .slice a7 n7 c7, .slice a8 n8 c8] 29)).alloc (.cells #[.int .i64 nd] 3)).alloc (.cells #[.int .i64 0, .int .i64 0] 31)).alloc (.cells #[.int .i64 0, .int .i64 0] 31)).alloc (.cells #[.slice a5 L.length c5] 24)).alloc (.cells #[.func (.func 30) #[] #[.pointer (some ⟨w.heap.size + 1, 0, none⟩)]] 69)) := ((((((Below.refl _ w).alloc (Nat.le_refl _) _).alloc (by simp) _).alloc (by simp; omega) _).alloc (by simp; omega) _).alloc (by simp; omega) _).alloc (by simp; omega) _
  have b1 := ((((Boxed.new (w.alloc (.cells #[.int .i64 ix, .int .i64 nx, .slice a2 n2 c2, .slice a3 n3 c3, .slice a4 n4 c4, .slice a5 L.length c5, .slice a6 n6 c6, .slice a7 n7 c7, .slice a8 n8 c8] 29)) 3 (.int .i64 nd)).alloc (.cells #[.int .i64 0, .int .i64 0] 31)).alloc (.cells #[.int .i64 0, .int .i64 0] 31)).alloc (.cells #[.slice a5 L.length c5] 24)).alloc (.cells #[.func (.func 30) #[] #[.pointer (some ⟨w.heap.size + 1, 0, none⟩)]] 69)
  have p2 := (((pr_new ((w.alloc (.cells #[.int .i64 ix, .int .i64 nx, .slice a2 n2 c2, .slice a3 n3 c3, .slice a4 n4 c4, .slice a5 L.length c5, .slice a6 n6 c6, .slice a7 n7 c7, .slice a8 n8 c8] 29)).alloc (.cells #[.int .i64 nd] 3)) 0 0).grow (below1 _ (.cells #[.int .i64 0, .int .i64 0] 31))).grow (below1 _ (.cells #[.slice a5 L.length c5] 24))).grow (below1 _ (.cells #[.func (.func 30) #[] #[.pointer (some ⟨w.heap.size + 1, 0, none⟩)]] 69))
  have p3 := ((pr_new (((w.alloc (.cells #[.int .i64 ix, .int .i64 nx, .slice a2 n2 c2, .slice a3 n3 c3, .slice a4 n4 c4, .slice a5 L.length c5, .slice a6 n6 c6, .slice a7 n7 c7, .slice a8 n8 c8] 29)).alloc (.cells #[.int .i64 nd] 3)).alloc (.cells #[.int .i64 0, .int .i64 0] 31)) 0 0).grow (below1 _ (.cells #[.slice a5 L.length c5] 24))).grow (below1 _ (.cells #[.func (.func 30) #[] #[.pointer (some ⟨w.heap.size + 1, 0, none⟩)]] 69))
  have b4 := (Boxed.new ((((w.alloc (.cells #[.int .i64 ix, .int .i64 nx, .slice a2 n2 c2, .slice a3 n3 c3, .slice a4 n4 c4, .slice a5 L.length c5, .slice a6 n6 c6, .slice a7 n7 c7, .slice a8 n8 c8] 29)).alloc (.cells #[.int .i64 nd] 3)).alloc (.cells #[.int .i64 0, .int .i64 0] 31)).alloc (.cells #[.int .i64 0, .int .i64 0] 31)) 24 (.slice a5 L.length c5)).alloc (.cells #[.func (.func 30) #[] #[.pointer (some ⟨w.heap.size + 1, 0, none⟩)]] 69)
  have b5 := Boxed.new (((((w.alloc (.cells #[.int .i64 ix, .int .i64 nx, .slice a2 n2 c2, .slice a3 n3 c3, .slice a4 n4 c4, .slice a5 L.length c5, .slice a6 n6 c6, .slice a7 n7 c7, .slice a8 n8 c8] 29)).alloc (.cells #[.int .i64 nd] 3)).alloc (.cells #[.int .i64 0, .int .i64 0] 31)).alloc (.cells #[.int .i64 0, .int .i64 0] 31)).alloc (.cells #[.slice a5 L.length c5] 24)) 69 (.func (.func 30) #[] #[.pointer (some ⟨w.heap.size + 1, 0, none⟩)])
  have hsz : ((((((w.alloc (.cells #[.int .i64 ix, .int .i64 nx, .slice a2 n2 c2, .slice a3 n3 c3, .slice a4 n4 c4, .slice a5 L.length c5, .slice a6 n6 c6, .slice a7 n7 c7, .slice a8 n8 c8] 29)).alloc (.cells #[.int .i64 nd] 3)).alloc (.cells #[.int .i64 0, .int .i64 0] 31)).alloc (.cells #[.int .i64 0, .int .i64 0] 31)).alloc (.cells #[.slice a5 L.length c5] 24)).alloc (.cells #[.func (.func 30) #[] #[.pointer (some ⟨w.heap.size + 1, 0, none⟩)]] 69)).heap.size = w.heap.size + 6 := by simp
  simp only [World.size_alloc] at b1 p2 p3 b4 b5
  obtain ⟨W0, hW0⟩ : ∃ W0, (((((w.alloc (.cells #[.int .i64 ix, .int .i64 nx, .slice a2 n2 c2, .slice a3 n3 c3, .slice a4 n4 c4, .slice a5 L.length c5, .slice a6 n6 c6, .slice a7 n7 c7, .slice a8 n8 c8] 29)).alloc (.cells #[.int .i64 nd] 3)).alloc (.cells #[.int .i64 0, .int .i64 0] 31)).alloc (.cells #[.int .i64 0, .int .i64 0] 31)).alloc (.cells #[.slice a5 L.length c5] 24)).alloc (.cells #[.func (.func 30) #[] #[.pointer (some ⟨w.heap.size + 1, 0, none⟩)]] 69) = W0 := ⟨_, rfl⟩
  rw [hW0] at b1 p2 p3 b4 b5 hB0 hsz ⊢
  clear hW0
  have hQ0 : ∀ k, (k < w.heap.size ∨ k = w.heap.size + 1 ∨ k = w.heap.size + 1 + 1 + 1 + 1 ∨ k = w.heap.size + 1 + 1 + 1 + 1 + 1) → k < W0.heap.size := fun k hk => by omega
  refine wpIn_rangeFunc_ownH rfl (by omega) (gf := 35) (lb := #[.pointer (some ⟨w.heap.size + 1 + 1 + 1 + 1, 0, none⟩), .pointer (some ⟨w.heap.size + 1 + 1 + 1 + 1 + 1, 0, none⟩)]) rfl trivial (enters_of Try.func35 (by kernel_rfl) rfl)
    (it49 (3 - 1) (by omega) (w.heap.size + 1) (w.heap.size + 1 + 1 + 1 + 1) (w.heap.size + 1 + 1 + 1 + 1 + 1) a5 c5 L (usB nd) (fun k => k < w.heap.size ∨ k = w.heap.size + 1 ∨ k = w.heap.size + 1 + 1 + 1 + 1 ∨ k = w.heap.size + 1 + 1 + 1 + 1 + 1) W0 hQ0 (.inr (.inr (.inl rfl))) (.inr (.inr (.inr rfl))) b4.cell b5.cell (hL.kept (fun b hb => hB0.block b hb) (fun b hb => .inl hb))
      (fun W x hW => p49_any x nd (w.heap.size + 1) W ((hW.cell (.inr (.inl rfl)) 0).trans b1.cell) (by have := hW.size; omega)))
    Kq.trans (kq_b hQ0) (Below.refl _ _) (fun _ => rfl)
    (fun pre W => (((uF pre).1 = true ∧ Pr W (w.heap.size + 1 + 1 + 1) (uF pre).2.1 (uF pre).2.2) ∧ Pr W (w.heap.size + 1 + 1) 0 0 ∧ w.heap.size + 6 ≤ W.heap.size) ∧ Below w.heap.size w W)
    (fun c pre W => ((c = .ret ∧ uF pre = (false, top, top)) ∧ Pr W (w.heap.size + 1 + 1) top top) ∧ Below w.heap.size w W)
    (OwnFrom.and (Own.from (fun s A B row hs hg hr => ⟨⟨hs.1.1, pr_own _ (fun pre => (uF pre).2.1) (fun pre => (uF pre).2.2) s A B row hs.1.2 hg hr⟩, pr_own _ (fun _ => 0) (fun _ => 0) s A B row hs.2.1 hg hr, Nat.le_trans hs.2.2 hg.size⟩) _) (ownFrom_below (Nat.le_refl _) (by omega)))
    (fun c => OwnFrom.and (Own.from (fun s A B row hs hg hr => ⟨hs.1, pr_own _ (fun _ => top) (fun _ => top) s A B row hs.2 hg hr⟩) _) (ownFrom_below (Nat.le_refl _) (by omega)))
    ⟨⟨⟨rfl, p3⟩, p2, by omega⟩, hB0⟩
    (fun x a' W => ∃ Bx, w.heap.size + 5 < Bx ∧ W.heap[Bx]? = some (.cells x.2.cs.toArray 39 (0, 0)) ∧ a' = { tmps := #[.agg #[.int .i64 ix, .int .i64 nx, .slice a2 n2 c2, .slice a3 n3 c3, .slice a4 n4 c4, .slice a5 L.length c5, .slice a6 n6 c6, .slice a7 n7 c7, .slice a8 n8 c8], .int .i64 nd, .pointer (some ⟨w.heap.size, 0, none⟩), .pointer (some ⟨w.heap.size + 1, 0, none⟩), .pointer (some ⟨w.heap.size + 1 + 1, 0, none⟩), .pointer (some ⟨w.heap.size + 1 + 1 + 1, 0, none⟩), undef, .pointer (some ⟨Bx, 0, none⟩), undef, undef, .pointer (some ⟨w.heap.size, 5, none⟩), .slice a5 L.length c5, .func (.func 30) #[] #[.pointer (some ⟨w.heap.size + 1, 0, none⟩)], .func (.func 35) #[] #[.pointer (some ⟨w.heap.size + 1 + 1 + 1 + 1, 0, none⟩), .pointer (some ⟨w.heap.size + 1 + 1 + 1 + 1 + 1, 0, none⟩)], .int .i64 (x.1 : Int), .agg #[.int .i64 x.2.id, .int .i64 x.2.jb, .int .i64 x.2.ve, .int .i64 x.2.gr, .int .i64 x.2.ix, .int .i64 x.2.nd, .int .i64 x.2.ep, .int .i64 x.2.c, .int .i64 x.2.m, .bool x.2.sp, .int .i64 x.2.st], undef, undef, undef, undef, undef, undef, undef, undef, undef, undef, undef, undef], defers := [] })
    (fun x a' _ X Y row hs hg hr => by obtain ⟨Bx, h1, h2, h3⟩ := hs; exact ⟨Bx, h1, (hg.block Bx (heap_lt h2) (fun e => by obtain ⟨_, o, ho, hc⟩ := hr Bx e.symm; rw [h2] at ho; cases ho; cases hc)).trans h2, h3⟩)
    ?assign ?body ?done ?stop
  case assign =>
    rintro l pre x W K ⟨⟨⟨h1, h2⟩, h3, h4⟩, hB1⟩ hK
    gi_wp2
    exact hK _ _ ((KeepsOthers.alloc _ _).from _) (Kq.bel (below1 W _) (fun k hk => by omega)) ⟨⟨⟨h1, h2.grow (below1 _ _)⟩, h3.grow (below1 _ _), by simp; omega⟩, hB1.alloc hB1.size _⟩ ⟨W.heap.size, by omega, heap_alloc_new W _, rfl⟩
  case body =>
    rintro l pre x a' W hl ⟨r, hr⟩ ⟨⟨⟨h1, h2⟩, h3, h4⟩, hB1⟩ ⟨Bx, hBx, bX, rfl⟩ hlt
    have HU := hidOf (uF_snoc pre x)
    generalize uF pre = u at *
    obtain ⟨ok, c, m⟩ := u
    simp only at h1 h2
    subst h1
    obtain ⟨xi, x⟩ := x
    simp only at bX HU ⊢
    have cS := h2.c0
    have cT := h2.c1
    have fS := h2.fr
    have lS := h2.lt
    have c7 : W.cell? ⟨Bx, 7, none⟩ = some (.int .i64 x.c) := by rw [cell_of_row W Bx 7 _ 39 (0, 0) bX]; rfl
    have c8 : W.cell? ⟨Bx, 8, none⟩ = some (.int .i64 x.m) := by rw [cell_of_row W Bx 8 _ 39 (0, 0) bX]; rfl
    have cR := h3.c0
    have cQ := h3.c1
    have fR := h3.fr
    have lR := h3.lt
    have HB1 := hidOf hB1
    have H2 := hidOf h2
    have H3 := hidOf h3
    have lBx := heap_lt bX
    clear hB1 h2 h3 hr
    have hq : 1 ≤ 3 - 1 - 1 := by omega
    have HAD := hidOf (add_any c m x.c x.m)
    cases hadd : addB c m x.c x.m with
    | true =>
      have HUY := hidOf (HU.out.trans (uS_yes hadd))
      have HC : Hid (addC c m x.c x.m = c + x.c) := hidOf (by unfold addC; rw [hadd]; rfl)
      have HM : Hid (addM c m x.c x.m = m + x.m) := hidOf (by unfold addM; rw [hadd]; rfl)
      have HA := hidOf hadd
      clear hadd HU
      gi_wp2_with (first | (refine ⟨trivial, ?_⟩; gi_at_call 26; refine (CallsIn.inRound l (callsIn_wide.2 (HAD.out _))).mono ?_; rintro e w1 ⟨rfl, hb⟩; rw [HC.out, HM.out, HA.out]; have H2' := hidOf (H2.out.grow hb); have H3' := hidOf (H3.out.grow hb); have HB := hidOf hb; clear hb cS cT fS lS cR cQ fR lR c7 c8 lBx; have cS := H2'.out.c0; have cT := H2'.out.c1; have fS := H2'.out.fr; have lS := H2'.out.lt))
      refine ⟨((kf_bel HB.out).trans ((KeepsOthers.setCell _ _ _).from _)).trans (((KeepsOthers.setCell _ _ _).from _).trans ((KeepsOthers.alloc _ _).from _)), ?_, ?_⟩
      · exact ((Kq.bel HB.out (fun k hk => by omega)).trans ((Kq.set (by omega) _).trans (Kq.set (by omega) _))).trans (Kq.bel (below1 _ _) (fun k hk => by have := HB.out.size; simp; omega))
      · have hw1 : w.heap.size + 6 ≤ w1.heap.size := Nat.le_trans h4 HB.out.size
        exact ⟨⟨⟨by rw [HUY.out], by rw [HUY.out]; exact (H2'.out.set _ _).grow (below1 _ _)⟩, ((H3'.out.other (by omega) _).other (by omega) _).grow (below1 _ _), by simp; omega⟩, (((HB1.out.trans (HB.out.mono HB1.out.size)).setCell (p := ⟨w.heap.size + 1 + 1 + 1, 0, none⟩) (by simp; omega) _).setCell (p := ⟨w.heap.size + 1 + 1 + 1, 1, none⟩) (by simp; omega) _).alloc (by simp; omega) _⟩
    | false =>
      have HUN := hidOf (HU.out.trans (uS_bad hadd))
      have HC : Hid (addC c m x.c x.m = 0) := hidOf (by unfold addC; rw [hadd]; rfl)
      have HM : Hid (addM c m x.c x.m = 0) := hidOf (by unfold addM; rw [hadd]; rfl)
      have HA := hidOf hadd
      clear hadd HU
      gi_wp2_with (first | (refine ⟨trivial, ?_⟩; gi_at_call 26; refine (CallsIn.inRound l (callsIn_wide.2 (HAD.out _))).mono ?_; rintro e w1 ⟨rfl, hb⟩; rw [HC.out, HM.out, HA.out]; have H3' := hidOf (H3.out.grow hb); have HB := hidOf hb; clear hb cS cT fS lS cR cQ fR lR c7 c8 lBx; have cR := H3'.out.c0; have cQ := H3'.out.c1; have fR := H3'.out.fr; have lR := H3'.out.lt))
      have hw1 : w.heap.size + 6 ≤ w1.heap.size := Nat.le_trans h4 HB.out.size
      refine ⟨?_, ?_⟩
      · exact ((kf_bel HB.out).trans ((KeepsOthers.setCell _ _ _).from _)).trans (((KeepsOthers.setCell _ _ _).from _).trans ((KeepsOthers.alloc _ _).from _))
      · exact ⟨⟨⟨rfl, HUN.out⟩, (H3'.out.set _ _).grow (below1 _ _)⟩, (((HB1.out.trans (HB.out.mono HB1.out.size)).setCell (p := ⟨w.heap.size + 1 + 1, 0, none⟩) (by simp; omega) _).setCell (p := ⟨w.heap.size + 1 + 1, 1, none⟩) (by simp; omega) _).alloc (by simp; omega) _⟩
  case done =>
    rintro D ys W hD hys ⟨⟨⟨h1, h2⟩, h3, h4⟩, hB1⟩ hK
    subst hys
    have HV : Hid ((uF (sel (usB nd) L L.length)).2 = usedV nd L) := hidOf rfl
    rw [HV.out] at h2
    clear h1
    have cS := h2.c0
    have cT := h2.c1
    have fS := h2.fr
    have lS := h2.lt
    have cR := h3.c0
    have cQ := h3.c1
    have fR := h3.fr
    have lR := h3.lt
    have H3 := hidOf h3
    have HB1 := hidOf hB1
    have HK := hidOf hK
    clear h2 h3 hB1 hK
    gi_wp2
    have hK1 := (KeepsOthers.setCell W ⟨w.heap.size + 1 + 1, 0, none⟩ (.int .i64 (usedV nd L).1)).same D _ HK.out rfl
    have hK' := (KeepsOthers.setCell (W.setCell ⟨w.heap.size + 1 + 1, 0, none⟩ (.int .i64 (usedV nd L).1)) ⟨w.heap.size + 1 + 1, 1, none⟩ (.int .i64 (usedV nd L).2)).same D _ hK1 rfl
    refine ⟨by simp, .inl ⟨_, _, rfl, run_takeDeferred hK', ?_⟩⟩
    exact ⟨_, results_pr Try.results25 _ _ (w.heap.size + 1 + 1) _ _ rfl (pr_put (H3.out.set _ _) hK' _), rfl, ((HB1.out.setCell (p := ⟨w.heap.size + 1 + 1, 0, none⟩) (by simp; omega) _).setCell (p := ⟨w.heap.size + 1 + 1, 1, none⟩) (by simp; omega) _).trans (belowK_b (w := w) (Nat.le_refl _) _ D _ _ (by omega) hK' rfl rfl)⟩
  case stop =>
    rintro D c pre W hD ⟨k, hk, hpre⟩ ⟨⟨⟨rfl, h1⟩, h3⟩, hB⟩ hK
    subst hpre
    have HV := hidOf (usedV_at hk h1)
    clear h1
    gi_wp2
    refine ⟨by simp, .inl ⟨_, _, rfl, run_takeDeferred hK, ?_⟩⟩
    exact ⟨_, results_pr Try.results25 _ _ (w.heap.size + 1 + 1) _ _ rfl (pr_put h3 hK _), by rw [HV.out], hB.trans (belowK_b (w := w) (Nat.le_refl _) W D _ _ (by omega) hK rfl rfl)⟩
end Go.Proofs.Ytajfhknfknedmaa
