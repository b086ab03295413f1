/- SpecOrder, walked. -/
import Derived.Test.YtnkdchajgpkmpaaSadd
import Derived.Test.YtnkdchajgpkmpaaSlif
namespace Go.Proofs.Ytnkdchajgpkmpaa
open Go.RowKit

theorem addB_iff {x y x' y' : Int} : addB x y x' y' = true ↔ ((0 ≤ x ∧ x ≤ 1152921504606846976) ∧ (0 ≤ y ∧ y ≤ 1152921504606846976)) ∧ ((0 ≤ x' ∧ x' ≤ 1152921504606846976) ∧ (0 ≤ y' ∧ y' ≤ 1152921504606846976)) ∧ ((0 ≤ x + x' ∧ x + x' ≤ 1152921504606846976) ∧ (0 ≤ y + y' ∧ y + y' ≤ 1152921504606846976)) := by
  unfold addB
  rw [Bool.and_eq_true, Bool.and_eq_true, mayR_true, mayR_true, mayR_true, and_assoc]
theorem addB_comm (x y x' y' : Int) : addB x' y' x y = addB x y x' y' := by
  rw [Bool.eq_iff_iff, addB_iff, addB_iff]
  omega
theorem addC_comm (x y x' y' : Int) : addC x' y' x y = addC x y x' y' := by
  unfold addC
  rw [addB_comm, Int.add_comm]
theorem addM_comm (x y x' y' : Int) : addM x' y' x y = addM x y x' y' := by
  unfold addM
  rw [addB_comm, Int.add_comm]
theorem addC_of {x y x' y' : Int} (h : addB x y x' y' = true) : addC x y x' y' = x + x' := by unfold addC; rw [if_pos h]
theorem addM_of {x y x' y' : Int} (h : addB x y x' y' = true) : addM x y x' y' = y + y' := by unfold addM; rw [if_pos h]
theorem addB_assoc {x y x' y' x2 y2 : Int} (h1 : addB x y x' y' = true) (h2 : addB x' y' x2 y2 = true) : addB x y (x' + x2) (y' + y2) = addB (x + x') (y + y') x2 y2 := by
  rw [addB_iff] at h1 h2
  rw [Bool.eq_iff_iff, addB_iff, addB_iff]
  omega
theorem addC_assoc {x y x' y' x2 y2 : Int} (h1 : addB x y x' y' = true) (h2 : addB x' y' x2 y2 = true) : addC x y (x' + x2) (y' + y2) = addC (x + x') (y + y') x2 y2 := by
  unfold addC
  rw [addB_assoc h1 h2, Int.add_assoc]
theorem addM_assoc {x y x' y' x2 y2 : Int} (h1 : addB x y x' y' = true) (h2 : addB x' y' x2 y2 = true) : addM x y (x' + x2) (y' + y2) = addM (x + x') (y + y') x2 y2 := by
  unfold addM
  rw [addB_assoc h1 h2, Int.add_assoc]
theorem fit_less {x y x' y' x2 y2 p q : Int} (h1 : addB x y x' y' = true) (h2 : fitB (x + x') (y + y') x2 y2 p q = true) : fitB x y x2 y2 p q = true := by
  unfold fitB at *
  rw [Bool.and_eq_true, Bool.and_eq_true, decide_eq_true_iff, decide_eq_true_iff, addB_iff] at *
  omega

/- four pairs, one behind the other -/
structure FoS (wk : World) (k : Nat) (x y x' y' x2 y2 p q : Int) : Prop where
  a : Pr wk k x y
  b : Pr wk (k + 1) x' y'
  c : Pr wk (k + 1 + 1) x2 y2
  d : Pr wk (k + 1 + 1 + 1) p q
theorem FoS.grow {wk w' : World} {k : Nat} {x y x' y' x2 y2 p q : Int} (h : FoS wk k x y x' y' x2 y2 p q) (hb : Below wk.heap.size wk w') : FoS w' k x y x' y' x2 y2 p q :=
  ⟨h.a.grow hb, h.b.grow hb, h.c.grow hb, h.d.grow hb⟩
theorem FoS.begin (w : World) (x y x' y' x2 y2 p q : Int) : FoS ((((w.alloc (.cells #[.int .i64 x, .int .i64 y] 26)).alloc (.cells #[.int .i64 x', .int .i64 y'] 26)).alloc (.cells #[.int .i64 x2, .int .i64 y2] 26)).alloc (.cells #[.int .i64 p, .int .i64 q] 26)) w.heap.size x y x' y' x2 y2 p q := by
  have h := FtS.begin w x y x' y' x2 y2
  have h4 := pr_new (((w.alloc (.cells #[.int .i64 x, .int .i64 y] 26)).alloc (.cells #[.int .i64 x', .int .i64 y'] 26)).alloc (.cells #[.int .i64 x2, .int .i64 y2] 26)) p q
  simp only [World.alloc, Array.size_push] at h4
  exact ⟨h.a.grow (below1 _ _), h.b.grow (below1 _ _), h.r.grow (below1 _ _), h4⟩
structure OdS (w wk : World) (x y x' y' x2 y2 p q : Int) : Prop where
  f : FoS wk (w.heap.size + 1 + 1) x y x' y' x2 y2 p q
  bel : Below w.heap.size w wk
theorem OdS.grow {w wk w' : World} {x y x' y' x2 y2 p q : Int} (h : OdS w wk x y x' y' x2 y2 p q) (hb : Below wk.heap.size wk w') : OdS w w' x y x' y' x2 y2 p q :=
  ⟨h.f.grow hb, h.bel.trans (hb.mono h.bel.size)⟩
theorem OdS.begin (w : World) (A B : Obj) (x y x' y' x2 y2 p q : Int) : OdS w ((((((w.alloc A).alloc B).alloc (.cells #[.int .i64 x, .int .i64 y] 26)).alloc (.cells #[.int .i64 x', .int .i64 y'] 26)).alloc (.cells #[.int .i64 x2, .int .i64 y2] 26)).alloc (.cells #[.int .i64 p, .int .i64 q] 26)) x y x' y' x2 y2 p q := by
  have h := FoS.begin ((w.alloc A).alloc B) x y x' y' x2 y2 p q
  have e : ((w.alloc A).alloc B).heap.size = w.heap.size + 1 + 1 := by simp
  rw [e] at h
  exact ⟨h, ((((below2 w _ _).alloc (by simp; omega) _).alloc (by simp; omega) _).alloc (by simp; omega) _).alloc (by simp; omega) _⟩

set_option maxHeartbeats 8000000 in
set_option maxRecDepth 100000 in
theorem lawOrder (x y x' y' x2 y2 p q : Int) (w : World) : Calls Try.prog 5 #[.agg #[.int .i64 x, .int .i64 y, .int .i64 x', .int .i64 y'], .agg #[.int .i64 x2, .int .i64 y2, .int .i64 p, .int .i64 q]] w fun e w' => e = .returned (.bool true) ∧ Below w.heap.size w w' := by
  have H0 := hidOf (OdS.begin w (.cells #[.int .i64 x, .int .i64 y, .int .i64 x', .int .i64 y'] 38) (.cells #[.int .i64 x2, .int .i64 y2, .int .i64 p, .int .i64 q] 38) x y x' y' x2 y2 p q)
  have k1 := add_any x y x' y'
  have k2 := add_any x' y' x y
  rw [addB_comm x y x' y', addC_comm x y x' y', addM_comm x y x' y'] at k2
  have k3 := add_any (addC x y x' y') (addM x y x' y') x2 y2
  have k4 := add_any x' y' x2 y2
  have k5 := add_any x y (addC x' y' x2 y2) (addM x' y' x2 y2)
  have l1 := fits_any (addC x y x' y') (addM x y x' y') x2 y2 p q
  have l2 := fits_any x y x2 y2 p q
  cases hp : addB x y x' y' with
  | false =>
    rw [hp] at k1 k2
    have C1 := hidOf k1; have C2 := hidOf k2; have C3 := hidOf k3; have C4 := hidOf k4; have C5 := hidOf k5
    clear k1 k2 k3 k4 k5 l1 l2 hp
    generalize addC x y x' y' = xc at *
    generalize addM x y x' y' = xm at *
    generalize addB xc xm x2 y2 = r at *
    generalize addC xc xm x2 y2 = oc at *
    generalize addM xc xm x2 y2 = om at *
    generalize addC x' y' x2 y2 = zc at *
    generalize addM x' y' x2 y2 = zm at *
    generalize addB x' y' x2 y2 = s at *
    generalize addB x y zc zm = t at *
    generalize addC x y zc zm = tc at *
    generalize addM x y zc zm = tm at *
    go_enter Try.func5, Try.ntmps5
    go_wp2_with (first
      | (go_at_call 13; have hh := C1; clear C1; refine (hh.out _).mono ?_; rintro e w1 ⟨rfl, hb⟩; clear hh; have H := hidOf (H0.out.grow hb); clear hb; have a0 := H.out.f.a.c0; have a1 := H.out.f.a.c1; have al := H.out.f.a.lt; have b0 := H.out.f.b.c0; have b1 := H.out.f.b.c1; have bl := H.out.f.b.lt; have c0 := H.out.f.c.c0; have c1 := H.out.f.c.c1; have cl := H.out.f.c.lt; have d0 := H.out.f.d.c0; have d1 := H.out.f.d.c1; have dl := H.out.f.d.lt)
      | (go_at_call 13; have hh := C2; clear C2; refine (hh.out _).mono ?_; rintro e w2 ⟨rfl, hb⟩; clear hh; clear a0 a1 al b0 b1 bl c0 c1 cl d0 d1 dl; replace H := hidOf ((H.out.grow (below1 _ _)).grow hb); have X := hidOf ((pr_new w1 xc xm).grow hb); clear hb; have a0 := H.out.f.a.c0; have a1 := H.out.f.a.c1; have al := H.out.f.a.lt; have b0 := H.out.f.b.c0; have b1 := H.out.f.b.c1; have bl := H.out.f.b.lt; have c0 := H.out.f.c.c0; have c1 := H.out.f.c.c1; have cl := H.out.f.c.lt; have d0 := H.out.f.d.c0; have d1 := H.out.f.d.c1; have dl := H.out.f.d.lt; have x0 := X.out.c0; have x1 := X.out.c1; have xl := X.out.lt)
      | (go_at_call 13; have hh := C3; clear C3; refine (hh.out _).mono ?_; rintro e w3 ⟨rfl, hb⟩; clear hh; clear a0 a1 al b0 b1 bl c0 c1 cl d0 d1 dl; clear x0 x1 xl; replace H := hidOf ((H.out.grow (below1 _ _)).grow hb); replace X := hidOf ((X.out.grow (below1 _ _)).grow hb); have Y := hidOf ((pr_new w2 xc xm).grow hb); clear hb; have a0 := H.out.f.a.c0; have a1 := H.out.f.a.c1; have al := H.out.f.a.lt; have b0 := H.out.f.b.c0; have b1 := H.out.f.b.c1; have bl := H.out.f.b.lt; have c0 := H.out.f.c.c0; have c1 := H.out.f.c.c1; have cl := H.out.f.c.lt; have d0 := H.out.f.d.c0; have d1 := H.out.f.d.c1; have dl := H.out.f.d.lt; have x0 := X.out.c0; have x1 := X.out.c1; have xl := X.out.lt; have y0 := Y.out.c0; have y1 := Y.out.c1; have yl := Y.out.lt)
      | (go_at_call 13; have hh := C4; clear C4; refine (hh.out _).mono ?_; rintro e w4 ⟨rfl, hb⟩; clear hh; clear a0 a1 al b0 b1 bl c0 c1 cl d0 d1 dl; clear x0 x1 xl; clear y0 y1 yl; replace H := hidOf ((H.out.grow (below1 _ _)).grow hb); replace X := hidOf ((X.out.grow (below1 _ _)).grow hb); replace Y := hidOf ((Y.out.grow (below1 _ _)).grow hb); have O := hidOf ((pr_new w3 oc om).grow hb); clear hb; have a0 := H.out.f.a.c0; have a1 := H.out.f.a.c1; have al := H.out.f.a.lt; have b0 := H.out.f.b.c0; have b1 := H.out.f.b.c1; have bl := H.out.f.b.lt; have c0 := H.out.f.c.c0; have c1 := H.out.f.c.c1; have cl := H.out.f.c.lt; have d0 := H.out.f.d.c0; have d1 := H.out.f.d.c1; have dl := H.out.f.d.lt; have x0 := X.out.c0; have x1 := X.out.c1; have xl := X.out.lt; have y0 := Y.out.c0; have y1 := Y.out.c1; have yl := Y.out.lt; have o0 := O.out.c0; have o1 := O.out.c1; have ol := O.out.lt)
      | (go_at_call 13; have hh := C5; clear C5; refine (hh.out _).mono ?_; rintro e w5 ⟨rfl, hb⟩; clear hh; clear a0 a1 al b0 b1 bl c0 c1 cl d0 d1 dl; clear x0 x1 xl; clear y0 y1 yl; clear o0 o1 ol; replace H := hidOf ((H.out.grow (below1 _ _)).grow hb); replace X := hidOf ((X.out.grow (below1 _ _)).grow hb); replace Y := hidOf ((Y.out.grow (below1 _ _)).grow hb); replace O := hidOf ((O.out.grow (below1 _ _)).grow hb); have Z := hidOf ((pr_new w4 zc zm).grow hb); clear hb; have a0 := H.out.f.a.c0; have a1 := H.out.f.a.c1; have al := H.out.f.a.lt; have b0 := H.out.f.b.c0; have b1 := H.out.f.b.c1; have bl := H.out.f.b.lt; have c0 := H.out.f.c.c0; have c1 := H.out.f.c.c1; have cl := H.out.f.c.lt; have d0 := H.out.f.d.c0; have d1 := H.out.f.d.c1; have dl := H.out.f.d.lt; have x0 := X.out.c0; have x1 := X.out.c1; have xl := X.out.lt; have y0 := Y.out.c0; have y1 := Y.out.c1; have yl := Y.out.lt; have o0 := O.out.c0; have o1 := O.out.c1; have ol := O.out.lt; have z0 := Z.out.c0; have z1 := Z.out.c1; have zl := Z.out.lt)
      | (go_at_call 15; have hh := D1; clear D1; refine (hh.out _).mono ?_; rintro e w6 ⟨rfl, hb⟩; clear hh a0 a1 al b0 b1 bl c0 c1 cl d0 d1 dl; clear x0 x1 xl; clear y0 y1 yl; clear o0 o1 ol; clear z0 z1 zl; replace H := hidOf ((H.out.grow (below1 _ _)).grow hb); clear hb; have a0 := H.out.f.a.c0; have a1 := H.out.f.a.c1; have al := H.out.f.a.lt; have b0 := H.out.f.b.c0; have b1 := H.out.f.b.c1; have bl := H.out.f.b.lt; have c0 := H.out.f.c.c0; have c1 := H.out.f.c.c1; have cl := H.out.f.c.lt; have d0 := H.out.f.d.c0; have d1 := H.out.f.d.c1; have dl := H.out.f.d.lt)
      | (go_at_call 15; have hh := D2; clear D2; refine (hh.out _).mono ?_; rintro e w7 ⟨rfl, hb⟩; clear hh; replace H := hidOf (H.out.grow hb); clear hb)
      | (go_at_call 12; refine (lives_any _).mono ?_; rintro e w8 ⟨rfl, hb⟩; have B8 := hidOf ((H.out.grow (below1 _ _)).bel.trans (hb.mono (H.out.grow (below1 _ _)).bel.size)); clear hb))
    go_ret
    exact ⟨rfl, B8.out⟩
  | true =>
    rw [hp] at k1 k2
    have eC := addC_of hp
    have eM := addM_of hp
    cases hs : addB x' y' x2 y2 with
    | false =>
      rw [hs] at k4
      cases hf : fitB (addC x y x' y') (addM x y x' y') x2 y2 p q with
      | false =>
        rw [hf] at l1
        have C1 := hidOf k1; have C2 := hidOf k2; have C3 := hidOf k3; have C4 := hidOf k4; have C5 := hidOf k5; have D1 := hidOf l1
        clear k1 k2 k3 k4 k5 l1 l2 hp hs hf eC eM
        generalize addC x y x' y' = xc at *
        generalize addM x y x' y' = xm at *
        generalize addB xc xm x2 y2 = r at *
        generalize addC xc xm x2 y2 = oc at *
        generalize addM xc xm x2 y2 = om at *
        generalize addC x' y' x2 y2 = zc at *
        generalize addM x' y' x2 y2 = zm at *
        generalize addB x y zc zm = t at *
        generalize addC x y zc zm = tc at *
        generalize addM x y zc zm = tm at *
        go_enter Try.func5, Try.ntmps5
        go_wp2_with (first
          | (go_at_call 13; have hh := C1; clear C1; refine (hh.out _).mono ?_; rintro e w1 ⟨rfl, hb⟩; clear hh; have H := hidOf (H0.out.grow hb); clear hb; have a0 := H.out.f.a.c0; have a1 := H.out.f.a.c1; have al := H.out.f.a.lt; have b0 := H.out.f.b.c0; have b1 := H.out.f.b.c1; have bl := H.out.f.b.lt; have c0 := H.out.f.c.c0; have c1 := H.out.f.c.c1; have cl := H.out.f.c.lt; have d0 := H.out.f.d.c0; have d1 := H.out.f.d.c1; have dl := H.out.f.d.lt)
          | (go_at_call 13; have hh := C2; clear C2; refine (hh.out _).mono ?_; rintro e w2 ⟨rfl, hb⟩; clear hh; clear a0 a1 al b0 b1 bl c0 c1 cl d0 d1 dl; replace H := hidOf ((H.out.grow (below1 _ _)).grow hb); have X := hidOf ((pr_new w1 xc xm).grow hb); clear hb; have a0 := H.out.f.a.c0; have a1 := H.out.f.a.c1; have al := H.out.f.a.lt; have b0 := H.out.f.b.c0; have b1 := H.out.f.b.c1; have bl := H.out.f.b.lt; have c0 := H.out.f.c.c0; have c1 := H.out.f.c.c1; have cl := H.out.f.c.lt; have d0 := H.out.f.d.c0; have d1 := H.out.f.d.c1; have dl := H.out.f.d.lt; have x0 := X.out.c0; have x1 := X.out.c1; have xl := X.out.lt)
          | (go_at_call 13; have hh := C3; clear C3; refine (hh.out _).mono ?_; rintro e w3 ⟨rfl, hb⟩; clear hh; clear a0 a1 al b0 b1 bl c0 c1 cl d0 d1 dl; clear x0 x1 xl; replace H := hidOf ((H.out.grow (below1 _ _)).grow hb); replace X := hidOf ((X.out.grow (below1 _ _)).grow hb); have Y := hidOf ((pr_new w2 xc xm).grow hb); clear hb; have a0 := H.out.f.a.c0; have a1 := H.out.f.a.c1; have al := H.out.f.a.lt; have b0 := H.out.f.b.c0; have b1 := H.out.f.b.c1; have bl := H.out.f.b.lt; have c0 := H.out.f.c.c0; have c1 := H.out.f.c.c1; have cl := H.out.f.c.lt; have d0 := H.out.f.d.c0; have d1 := H.out.f.d.c1; have dl := H.out.f.d.lt; have x0 := X.out.c0; have x1 := X.out.c1; have xl := X.out.lt; have y0 := Y.out.c0; have y1 := Y.out.c1; have yl := Y.out.lt)
          | (go_at_call 13; have hh := C4; clear C4; refine (hh.out _).mono ?_; rintro e w4 ⟨rfl, hb⟩; clear hh; clear a0 a1 al b0 b1 bl c0 c1 cl d0 d1 dl; clear x0 x1 xl; clear y0 y1 yl; replace H := hidOf ((H.out.grow (below1 _ _)).grow hb); replace X := hidOf ((X.out.grow (below1 _ _)).grow hb); replace Y := hidOf ((Y.out.grow (below1 _ _)).grow hb); have O := hidOf ((pr_new w3 oc om).grow hb); clear hb; have a0 := H.out.f.a.c0; have a1 := H.out.f.a.c1; have al := H.out.f.a.lt; have b0 := H.out.f.b.c0; have b1 := H.out.f.b.c1; have bl := H.out.f.b.lt; have c0 := H.out.f.c.c0; have c1 := H.out.f.c.c1; have cl := H.out.f.c.lt; have d0 := H.out.f.d.c0; have d1 := H.out.f.d.c1; have dl := H.out.f.d.lt; have x0 := X.out.c0; have x1 := X.out.c1; have xl := X.out.lt; have y0 := Y.out.c0; have y1 := Y.out.c1; have yl := Y.out.lt; have o0 := O.out.c0; have o1 := O.out.c1; have ol := O.out.lt)
          | (go_at_call 13; have hh := C5; clear C5; refine (hh.out _).mono ?_; rintro e w5 ⟨rfl, hb⟩; clear hh; clear a0 a1 al b0 b1 bl c0 c1 cl d0 d1 dl; clear x0 x1 xl; clear y0 y1 yl; clear o0 o1 ol; replace H := hidOf ((H.out.grow (below1 _ _)).grow hb); replace X := hidOf ((X.out.grow (below1 _ _)).grow hb); replace Y := hidOf ((Y.out.grow (below1 _ _)).grow hb); replace O := hidOf ((O.out.grow (below1 _ _)).grow hb); have Z := hidOf ((pr_new w4 zc zm).grow hb); clear hb; have a0 := H.out.f.a.c0; have a1 := H.out.f.a.c1; have al := H.out.f.a.lt; have b0 := H.out.f.b.c0; have b1 := H.out.f.b.c1; have bl := H.out.f.b.lt; have c0 := H.out.f.c.c0; have c1 := H.out.f.c.c1; have cl := H.out.f.c.lt; have d0 := H.out.f.d.c0; have d1 := H.out.f.d.c1; have dl := H.out.f.d.lt; have x0 := X.out.c0; have x1 := X.out.c1; have xl := X.out.lt; have y0 := Y.out.c0; have y1 := Y.out.c1; have yl := Y.out.lt; have o0 := O.out.c0; have o1 := O.out.c1; have ol := O.out.lt; have z0 := Z.out.c0; have z1 := Z.out.c1; have zl := Z.out.lt)
          | (go_at_call 15; have hh := D1; clear D1; refine (hh.out _).mono ?_; rintro e w6 ⟨rfl, hb⟩; clear hh a0 a1 al b0 b1 bl c0 c1 cl d0 d1 dl; clear x0 x1 xl; clear y0 y1 yl; clear o0 o1 ol; clear z0 z1 zl; replace H := hidOf ((H.out.grow (below1 _ _)).grow hb); clear hb; have a0 := H.out.f.a.c0; have a1 := H.out.f.a.c1; have al := H.out.f.a.lt; have b0 := H.out.f.b.c0; have b1 := H.out.f.b.c1; have bl := H.out.f.b.lt; have c0 := H.out.f.c.c0; have c1 := H.out.f.c.c1; have cl := H.out.f.c.lt; have d0 := H.out.f.d.c0; have d1 := H.out.f.d.c1; have dl := H.out.f.d.lt)
          | (go_at_call 15; have hh := D2; clear D2; refine (hh.out _).mono ?_; rintro e w7 ⟨rfl, hb⟩; clear hh; replace H := hidOf (H.out.grow hb); clear hb)
          | (go_at_call 12; refine (lives_any _).mono ?_; rintro e w8 ⟨rfl, hb⟩; have B8 := hidOf (H.out.bel.trans (hb.mono H.out.bel.size)); clear hb))
        go_ret
        exact ⟨rfl, B8.out⟩
      | true =>
        rw [hf] at l1
        rw [eC, eM] at hf
        rw [fit_less hp hf] at l2
        have C1 := hidOf k1; have C2 := hidOf k2; have C3 := hidOf k3; have C4 := hidOf k4; have C5 := hidOf k5; have D1 := hidOf l1; have D2 := hidOf l2
        clear k1 k2 k3 k4 k5 l1 l2 hp hs hf eC eM
        generalize addC x y x' y' = xc at *
        generalize addM x y x' y' = xm at *
        generalize addB xc xm x2 y2 = r at *
        generalize addC xc xm x2 y2 = oc at *
        generalize addM xc xm x2 y2 = om at *
        generalize addC x' y' x2 y2 = zc at *
        generalize addM x' y' x2 y2 = zm at *
        generalize addB x y zc zm = t at *
        generalize addC x y zc zm = tc at *
        generalize addM x y zc zm = tm at *
        go_enter Try.func5, Try.ntmps5
        go_wp2_with (first
          | (go_at_call 13; have hh := C1; clear C1; refine (hh.out _).mono ?_; rintro e w1 ⟨rfl, hb⟩; clear hh; have H := hidOf (H0.out.grow hb); clear hb; have a0 := H.out.f.a.c0; have a1 := H.out.f.a.c1; have al := H.out.f.a.lt; have b0 := H.out.f.b.c0; have b1 := H.out.f.b.c1; have bl := H.out.f.b.lt; have c0 := H.out.f.c.c0; have c1 := H.out.f.c.c1; have cl := H.out.f.c.lt; have d0 := H.out.f.d.c0; have d1 := H.out.f.d.c1; have dl := H.out.f.d.lt)
          | (go_at_call 13; have hh := C2; clear C2; refine (hh.out _).mono ?_; rintro e w2 ⟨rfl, hb⟩; clear hh; clear a0 a1 al b0 b1 bl c0 c1 cl d0 d1 dl; replace H := hidOf ((H.out.grow (below1 _ _)).grow hb); have X := hidOf ((pr_new w1 xc xm).grow hb); clear hb; have a0 := H.out.f.a.c0; have a1 := H.out.f.a.c1; have al := H.out.f.a.lt; have b0 := H.out.f.b.c0; have b1 := H.out.f.b.c1; have bl := H.out.f.b.lt; have c0 := H.out.f.c.c0; have c1 := H.out.f.c.c1; have cl := H.out.f.c.lt; have d0 := H.out.f.d.c0; have d1 := H.out.f.d.c1; have dl := H.out.f.d.lt; have x0 := X.out.c0; have x1 := X.out.c1; have xl := X.out.lt)
          | (go_at_call 13; have hh := C3; clear C3; refine (hh.out _).mono ?_; rintro e w3 ⟨rfl, hb⟩; clear hh; clear a0 a1 al b0 b1 bl c0 c1 cl d0 d1 dl; clear x0 x1 xl; replace H := hidOf ((H.out.grow (below1 _ _)).grow hb); replace X := hidOf ((X.out.grow (below1 _ _)).grow hb); have Y := hidOf ((pr_new w2 xc xm).grow hb); clear hb; have a0 := H.out.f.a.c0; have a1 := H.out.f.a.c1; have al := H.out.f.a.lt; have b0 := H.out.f.b.c0; have b1 := H.out.f.b.c1; have bl := H.out.f.b.lt; have c0 := H.out.f.c.c0; have c1 := H.out.f.c.c1; have cl := H.out.f.c.lt; have d0 := H.out.f.d.c0; have d1 := H.out.f.d.c1; have dl := H.out.f.d.lt; have x0 := X.out.c0; have x1 := X.out.c1; have xl := X.out.lt; have y0 := Y.out.c0; have y1 := Y.out.c1; have yl := Y.out.lt)
          | (go_at_call 13; have hh := C4; clear C4; refine (hh.out _).mono ?_; rintro e w4 ⟨rfl, hb⟩; clear hh; clear a0 a1 al b0 b1 bl c0 c1 cl d0 d1 dl; clear x0 x1 xl; clear y0 y1 yl; replace H := hidOf ((H.out.grow (below1 _ _)).grow hb); replace X := hidOf ((X.out.grow (below1 _ _)).grow hb); replace Y := hidOf ((Y.out.grow (below1 _ _)).grow hb); have O := hidOf ((pr_new w3 oc om).grow hb); clear hb; have a0 := H.out.f.a.c0; have a1 := H.out.f.a.c1; have al := H.out.f.a.lt; have b0 := H.out.f.b.c0; have b1 := H.out.f.b.c1; have bl := H.out.f.b.lt; have c0 := H.out.f.c.c0; have c1 := H.out.f.c.c1; have cl := H.out.f.c.lt; have d0 := H.out.f.d.c0; have d1 := H.out.f.d.c1; have dl := H.out.f.d.lt; have x0 := X.out.c0; have x1 := X.out.c1; have xl := X.out.lt; have y0 := Y.out.c0; have y1 := Y.out.c1; have yl := Y.out.lt; have o0 := O.out.c0; have o1 := O.out.c1; have ol := O.out.lt)
          | (go_at_call 13; have hh := C5; clear C5; refine (hh.out _).mono ?_; rintro e w5 ⟨rfl, hb⟩; clear hh; clear a0 a1 al b0 b1 bl c0 c1 cl d0 d1 dl; clear x0 x1 xl; clear y0 y1 yl; clear o0 o1 ol; replace H := hidOf ((H.out.grow (below1 _ _)).grow hb); replace X := hidOf ((X.out.grow (below1 _ _)).grow hb); replace Y := hidOf ((Y.out.grow (below1 _ _)).grow hb); replace O := hidOf ((O.out.grow (below1 _ _)).grow hb); have Z := hidOf ((pr_new w4 zc zm).grow hb); clear hb; have a0 := H.out.f.a.c0; have a1 := H.out.f.a.c1; have al := H.out.f.a.lt; have b0 := H.out.f.b.c0; have b1 := H.out.f.b.c1; have bl := H.out.f.b.lt; have c0 := H.out.f.c.c0; have c1 := H.out.f.c.c1; have cl := H.out.f.c.lt; have d0 := H.out.f.d.c0; have d1 := H.out.f.d.c1; have dl := H.out.f.d.lt; have x0 := X.out.c0; have x1 := X.out.c1; have xl := X.out.lt; have y0 := Y.out.c0; have y1 := Y.out.c1; have yl := Y.out.lt; have o0 := O.out.c0; have o1 := O.out.c1; have ol := O.out.lt; have z0 := Z.out.c0; have z1 := Z.out.c1; have zl := Z.out.lt)
          | (go_at_call 15; have hh := D1; clear D1; refine (hh.out _).mono ?_; rintro e w6 ⟨rfl, hb⟩; clear hh a0 a1 al b0 b1 bl c0 c1 cl d0 d1 dl; clear x0 x1 xl; clear y0 y1 yl; clear o0 o1 ol; clear z0 z1 zl; replace H := hidOf ((H.out.grow (below1 _ _)).grow hb); clear hb; have a0 := H.out.f.a.c0; have a1 := H.out.f.a.c1; have al := H.out.f.a.lt; have b0 := H.out.f.b.c0; have b1 := H.out.f.b.c1; have bl := H.out.f.b.lt; have c0 := H.out.f.c.c0; have c1 := H.out.f.c.c1; have cl := H.out.f.c.lt; have d0 := H.out.f.d.c0; have d1 := H.out.f.d.c1; have dl := H.out.f.d.lt)
          | (go_at_call 15; have hh := D2; clear D2; refine (hh.out _).mono ?_; rintro e w7 ⟨rfl, hb⟩; clear hh; replace H := hidOf (H.out.grow hb); clear hb)
          | (go_at_call 12; refine (lives_any _).mono ?_; rintro e w8 ⟨rfl, hb⟩; have B8 := hidOf (H.out.bel.trans (hb.mono H.out.bel.size)); clear hb))
        go_ret
        exact ⟨rfl, B8.out⟩
    | true =>
      rw [hs] at k4
      have q1 := addB_assoc hp hs
      have q2 := addC_assoc hp hs
      have q3 := addM_assoc hp hs
      rw [← addC_of hs, ← addM_of hs, ← eC, ← eM] at q1 q2 q3
      rw [q1, q2, q3] at k5
      cases hf : fitB (addC x y x' y') (addM x y x' y') x2 y2 p q with
      | false =>
        rw [hf] at l1
        have C1 := hidOf k1; have C2 := hidOf k2; have C3 := hidOf k3; have C4 := hidOf k4; have C5 := hidOf k5; have D1 := hidOf l1
        clear k1 k2 k3 k4 k5 l1 l2 hp hs hf eC eM q1 q2 q3
        generalize addC x y x' y' = xc at *
        generalize addM x y x' y' = xm at *
        generalize addB xc xm x2 y2 = r at *
        generalize addC xc xm x2 y2 = oc at *
        generalize addM xc xm x2 y2 = om at *
        generalize addC x' y' x2 y2 = zc at *
        generalize addM x' y' x2 y2 = zm at *
        go_enter Try.func5, Try.ntmps5
        go_wp2_with (first
          | (go_at_call 13; have hh := C1; clear C1; refine (hh.out _).mono ?_; rintro e w1 ⟨rfl, hb⟩; clear hh; have H := hidOf (H0.out.grow hb); clear hb; have a0 := H.out.f.a.c0; have a1 := H.out.f.a.c1; have al := H.out.f.a.lt; have b0 := H.out.f.b.c0; have b1 := H.out.f.b.c1; have bl := H.out.f.b.lt; have c0 := H.out.f.c.c0; have c1 := H.out.f.c.c1; have cl := H.out.f.c.lt; have d0 := H.out.f.d.c0; have d1 := H.out.f.d.c1; have dl := H.out.f.d.lt)
          | (go_at_call 13; have hh := C2; clear C2; refine (hh.out _).mono ?_; rintro e w2 ⟨rfl, hb⟩; clear hh; clear a0 a1 al b0 b1 bl c0 c1 cl d0 d1 dl; replace H := hidOf ((H.out.grow (below1 _ _)).grow hb); have X := hidOf ((pr_new w1 xc xm).grow hb); clear hb; have a0 := H.out.f.a.c0; have a1 := H.out.f.a.c1; have al := H.out.f.a.lt; have b0 := H.out.f.b.c0; have b1 := H.out.f.b.c1; have bl := H.out.f.b.lt; have c0 := H.out.f.c.c0; have c1 := H.out.f.c.c1; have cl := H.out.f.c.lt; have d0 := H.out.f.d.c0; have d1 := H.out.f.d.c1; have dl := H.out.f.d.lt; have x0 := X.out.c0; have x1 := X.out.c1; have xl := X.out.lt)
          | (go_at_call 13; have hh := C3; clear C3; refine (hh.out _).mono ?_; rintro e w3 ⟨rfl, hb⟩; clear hh; clear a0 a1 al b0 b1 bl c0 c1 cl d0 d1 dl; clear x0 x1 xl; replace H := hidOf ((H.out.grow (below1 _ _)).grow hb); replace X := hidOf ((X.out.grow (below1 _ _)).grow hb); have Y := hidOf ((pr_new w2 xc xm).grow hb); clear hb; have a0 := H.out.f.a.c0; have a1 := H.out.f.a.c1; have al := H.out.f.a.lt; have b0 := H.out.f.b.c0; have b1 := H.out.f.b.c1; have bl := H.out.f.b.lt; have c0 := H.out.f.c.c0; have c1 := H.out.f.c.c1; have cl := H.out.f.c.lt; have d0 := H.out.f.d.c0; have d1 := H.out.f.d.c1; have dl := H.out.f.d.lt; have x0 := X.out.c0; have x1 := X.out.c1; have xl := X.out.lt; have y0 := Y.out.c0; have y1 := Y.out.c1; have yl := Y.out.lt)
          | (go_at_call 13; have hh := C4; clear C4; refine (hh.out _).mono ?_; rintro e w4 ⟨rfl, hb⟩; clear hh; clear a0 a1 al b0 b1 bl c0 c1 cl d0 d1 dl; clear x0 x1 xl; clear y0 y1 yl; replace H := hidOf ((H.out.grow (below1 _ _)).grow hb); replace X := hidOf ((X.out.grow (below1 _ _)).grow hb); replace Y := hidOf ((Y.out.grow (below1 _ _)).grow hb); have O := hidOf ((pr_new w3 oc om).grow hb); clear hb; have a0 := H.out.f.a.c0; have a1 := H.out.f.a.c1; have al := H.out.f.a.lt; have b0 := H.out.f.b.c0; have b1 := H.out.f.b.c1; have bl := H.out.f.b.lt; have c0 := H.out.f.c.c0; have c1 := H.out.f.c.c1; have cl := H.out.f.c.lt; have d0 := H.out.f.d.c0; have d1 := H.out.f.d.c1; have dl := H.out.f.d.lt; have x0 := X.out.c0; have x1 := X.out.c1; have xl := X.out.lt; have y0 := Y.out.c0; have y1 := Y.out.c1; have yl := Y.out.lt; have o0 := O.out.c0; have o1 := O.out.c1; have ol := O.out.lt)
          | (go_at_call 13; have hh := C5; clear C5; refine (hh.out _).mono ?_; rintro e w5 ⟨rfl, hb⟩; clear hh; clear a0 a1 al b0 b1 bl c0 c1 cl d0 d1 dl; clear x0 x1 xl; clear y0 y1 yl; clear o0 o1 ol; replace H := hidOf ((H.out.grow (below1 _ _)).grow hb); replace X := hidOf ((X.out.grow (below1 _ _)).grow hb); replace Y := hidOf ((Y.out.grow (below1 _ _)).grow hb); replace O := hidOf ((O.out.grow (below1 _ _)).grow hb); have Z := hidOf ((pr_new w4 zc zm).grow hb); clear hb; have a0 := H.out.f.a.c0; have a1 := H.out.f.a.c1; have al := H.out.f.a.lt; have b0 := H.out.f.b.c0; have b1 := H.out.f.b.c1; have bl := H.out.f.b.lt; have c0 := H.out.f.c.c0; have c1 := H.out.f.c.c1; have cl := H.out.f.c.lt; have d0 := H.out.f.d.c0; have d1 := H.out.f.d.c1; have dl := H.out.f.d.lt; have x0 := X.out.c0; have x1 := X.out.c1; have xl := X.out.lt; have y0 := Y.out.c0; have y1 := Y.out.c1; have yl := Y.out.lt; have o0 := O.out.c0; have o1 := O.out.c1; have ol := O.out.lt; have z0 := Z.out.c0; have z1 := Z.out.c1; have zl := Z.out.lt)
          | (go_at_call 15; have hh := D1; clear D1; refine (hh.out _).mono ?_; rintro e w6 ⟨rfl, hb⟩; clear hh a0 a1 al b0 b1 bl c0 c1 cl d0 d1 dl; clear x0 x1 xl; clear y0 y1 yl; clear o0 o1 ol; clear z0 z1 zl; replace H := hidOf ((H.out.grow (below1 _ _)).grow hb); clear hb; have a0 := H.out.f.a.c0; have a1 := H.out.f.a.c1; have al := H.out.f.a.lt; have b0 := H.out.f.b.c0; have b1 := H.out.f.b.c1; have bl := H.out.f.b.lt; have c0 := H.out.f.c.c0; have c1 := H.out.f.c.c1; have cl := H.out.f.c.lt; have d0 := H.out.f.d.c0; have d1 := H.out.f.d.c1; have dl := H.out.f.d.lt)
          | (go_at_call 15; have hh := D2; clear D2; refine (hh.out _).mono ?_; rintro e w7 ⟨rfl, hb⟩; clear hh; replace H := hidOf (H.out.grow hb); clear hb)
          | (go_at_call 12; refine (lives_any _).mono ?_; rintro e w8 ⟨rfl, hb⟩; have B8 := hidOf (H.out.bel.trans (hb.mono H.out.bel.size)); clear hb))
        go_ret
        exact ⟨rfl, B8.out⟩
      | true =>
        rw [hf] at l1
        rw [eC, eM] at hf
        rw [fit_less hp hf] at l2
        have C1 := hidOf k1; have C2 := hidOf k2; have C3 := hidOf k3; have C4 := hidOf k4; have C5 := hidOf k5; have D1 := hidOf l1; have D2 := hidOf l2
        clear k1 k2 k3 k4 k5 l1 l2 hp hs hf eC eM q1 q2 q3
        generalize addC x y x' y' = xc at *
        generalize addM x y x' y' = xm at *
        generalize addB xc xm x2 y2 = r at *
        generalize addC xc xm x2 y2 = oc at *
        generalize addM xc xm x2 y2 = om at *
        generalize addC x' y' x2 y2 = zc at *
        generalize addM x' y' x2 y2 = zm at *
        go_enter Try.func5, Try.ntmps5
        go_wp2_with (first
          | (go_at_call 13; have hh := C1; clear C1; refine (hh.out _).mono ?_; rintro e w1 ⟨rfl, hb⟩; clear hh; have H := hidOf (H0.out.grow hb); clear hb; have a0 := H.out.f.a.c0; have a1 := H.out.f.a.c1; have al := H.out.f.a.lt; have b0 := H.out.f.b.c0; have b1 := H.out.f.b.c1; have bl := H.out.f.b.lt; have c0 := H.out.f.c.c0; have c1 := H.out.f.c.c1; have cl := H.out.f.c.lt; have d0 := H.out.f.d.c0; have d1 := H.out.f.d.c1; have dl := H.out.f.d.lt)
          | (go_at_call 13; have hh := C2; clear C2; refine (hh.out _).mono ?_; rintro e w2 ⟨rfl, hb⟩; clear hh; clear a0 a1 al b0 b1 bl c0 c1 cl d0 d1 dl; replace H := hidOf ((H.out.grow (below1 _ _)).grow hb); have X := hidOf ((pr_new w1 xc xm).grow hb); clear hb; have a0 := H.out.f.a.c0; have a1 := H.out.f.a.c1; have al := H.out.f.a.lt; have b0 := H.out.f.b.c0; have b1 := H.out.f.b.c1; have bl := H.out.f.b.lt; have c0 := H.out.f.c.c0; have c1 := H.out.f.c.c1; have cl := H.out.f.c.lt; have d0 := H.out.f.d.c0; have d1 := H.out.f.d.c1; have dl := H.out.f.d.lt; have x0 := X.out.c0; have x1 := X.out.c1; have xl := X.out.lt)
          | (go_at_call 13; have hh := C3; clear C3; refine (hh.out _).mono ?_; rintro e w3 ⟨rfl, hb⟩; clear hh; clear a0 a1 al b0 b1 bl c0 c1 cl d0 d1 dl; clear x0 x1 xl; replace H := hidOf ((H.out.grow (below1 _ _)).grow hb); replace X := hidOf ((X.out.grow (below1 _ _)).grow hb); have Y := hidOf ((pr_new w2 xc xm).grow hb); clear hb; have a0 := H.out.f.a.c0; have a1 := H.out.f.a.c1; have al := H.out.f.a.lt; have b0 := H.out.f.b.c0; have b1 := H.out.f.b.c1; have bl := H.out.f.b.lt; have c0 := H.out.f.c.c0; have c1 := H.out.f.c.c1; have cl := H.out.f.c.lt; have d0 := H.out.f.d.c0; have d1 := H.out.f.d.c1; have dl := H.out.f.d.lt; have x0 := X.out.c0; have x1 := X.out.c1; have xl := X.out.lt; have y0 := Y.out.c0; have y1 := Y.out.c1; have yl := Y.out.lt)
          | (go_at_call 13; have hh := C4; clear C4; refine (hh.out _).mono ?_; rintro e w4 ⟨rfl, hb⟩; clear hh; clear a0 a1 al b0 b1 bl c0 c1 cl d0 d1 dl; clear x0 x1 xl; clear y0 y1 yl; replace H := hidOf ((H.out.grow (below1 _ _)).grow hb); replace X := hidOf ((X.out.grow (below1 _ _)).grow hb); replace Y := hidOf ((Y.out.grow (below1 _ _)).grow hb); have O := hidOf ((pr_new w3 oc om).grow hb); clear hb; have a0 := H.out.f.a.c0; have a1 := H.out.f.a.c1; have al := H.out.f.a.lt; have b0 := H.out.f.b.c0; have b1 := H.out.f.b.c1; have bl := H.out.f.b.lt; have c0 := H.out.f.c.c0; have c1 := H.out.f.c.c1; have cl := H.out.f.c.lt; have d0 := H.out.f.d.c0; have d1 := H.out.f.d.c1; have dl := H.out.f.d.lt; have x0 := X.out.c0; have x1 := X.out.c1; have xl := X.out.lt; have y0 := Y.out.c0; have y1 := Y.out.c1; have yl := Y.out.lt; have o0 := O.out.c0; have o1 := O.out.c1; have ol := O.out.lt)
          | (go_at_call 13; have hh := C5; clear C5; refine (hh.out _).mono ?_; rintro e w5 ⟨rfl, hb⟩; clear hh; clear a0 a1 al b0 b1 bl c0 c1 cl d0 d1 dl; clear x0 x1 xl; clear y0 y1 yl; clear o0 o1 ol; replace H := hidOf ((H.out.grow (below1 _ _)).grow hb); replace X := hidOf ((X.out.grow (below1 _ _)).grow hb); replace Y := hidOf ((Y.out.grow (below1 _ _)).grow hb); replace O := hidOf ((O.out.grow (below1 _ _)).grow hb); have Z := hidOf ((pr_new w4 zc zm).grow hb); clear hb; have a0 := H.out.f.a.c0; have a1 := H.out.f.a.c1; have al := H.out.f.a.lt; have b0 := H.out.f.b.c0; have b1 := H.out.f.b.c1; have bl := H.out.f.b.lt; have c0 := H.out.f.c.c0; have c1 := H.out.f.c.c1; have cl := H.out.f.c.lt; have d0 := H.out.f.d.c0; have d1 := H.out.f.d.c1; have dl := H.out.f.d.lt; have x0 := X.out.c0; have x1 := X.out.c1; have xl := X.out.lt; have y0 := Y.out.c0; have y1 := Y.out.c1; have yl := Y.out.lt; have o0 := O.out.c0; have o1 := O.out.c1; have ol := O.out.lt; have z0 := Z.out.c0; have z1 := Z.out.c1; have zl := Z.out.lt)
          | (go_at_call 15; have hh := D1; clear D1; refine (hh.out _).mono ?_; rintro e w6 ⟨rfl, hb⟩; clear hh a0 a1 al b0 b1 bl c0 c1 cl d0 d1 dl; clear x0 x1 xl; clear y0 y1 yl; clear o0 o1 ol; clear z0 z1 zl; replace H := hidOf ((H.out.grow (below1 _ _)).grow hb); clear hb; have a0 := H.out.f.a.c0; have a1 := H.out.f.a.c1; have al := H.out.f.a.lt; have b0 := H.out.f.b.c0; have b1 := H.out.f.b.c1; have bl := H.out.f.b.lt; have c0 := H.out.f.c.c0; have c1 := H.out.f.c.c1; have cl := H.out.f.c.lt; have d0 := H.out.f.d.c0; have d1 := H.out.f.d.c1; have dl := H.out.f.d.lt)
          | (go_at_call 15; have hh := D2; clear D2; refine (hh.out _).mono ?_; rintro e w7 ⟨rfl, hb⟩; clear hh; replace H := hidOf (H.out.grow hb); clear hb)
          | (go_at_call 12; refine (lives_any _).mono ?_; rintro e w8 ⟨rfl, hb⟩; have B8 := hidOf (H.out.bel.trans (hb.mono H.out.bel.size)); clear hb))
        go_ret
        exact ⟨rfl, B8.out⟩
end Go.Proofs.Ytnkdchajgpkmpaa
