/- SpecSums, walked. -/
import Derived.Test.YtnkdchajgpkmpaaSref
import Derived.Test.YtnkdchajgpkmpaaSlif
import Derived.Deep.RegionHeld3
namespace Go.Proofs.Ytnkdchajgpkmpaa
open Go.RowKit

structure SuS (w wk : World) (x y x' y' p q : Int) (k1 k2 : Nat) (c m : Int) : Prop where
  f : FtS w wk x y x' y' p q
  a : Pr wk k1 c m
  b : Pr wk k2 c m
theorem SuS.grow {w wk w' : World} {x y x' y' p q : Int} {k1 k2 : Nat} {c m : Int} (h : SuS w wk x y x' y' p q k1 k2 c m) (hb : Below wk.heap.size wk w') : SuS w w' x y x' y' p q k1 k2 c m :=
  ⟨h.f.grow hb, h.a.grow hb, h.b.grow hb⟩
theorem SuS.cells {w wk : World} {x y x' y' p q : Int} {k1 k2 : Nat} {c m : Int} (h : SuS w wk x y x' y' p q k1 k2 c m) : wk.cell? ⟨w.heap.size, 0, none⟩ = some (.int .i64 x) ∧ wk.cell? ⟨w.heap.size, 1, none⟩ = some (.int .i64 y) ∧ wk.cell? ⟨w.heap.size + 1, 0, none⟩ = some (.int .i64 x') ∧ wk.cell? ⟨w.heap.size + 1, 1, none⟩ = some (.int .i64 y') ∧ wk.cell? ⟨w.heap.size + 1 + 1, 0, none⟩ = some (.int .i64 p) ∧ wk.cell? ⟨w.heap.size + 1 + 1, 1, none⟩ = some (.int .i64 q) ∧ wk.cell? ⟨k1, 0, none⟩ = some (.int .i64 c) ∧ wk.cell? ⟨k1, 1, none⟩ = some (.int .i64 m) ∧ wk.cell? ⟨k2, 0, none⟩ = some (.int .i64 c) ∧ wk.cell? ⟨k2, 1, none⟩ = some (.int .i64 m) :=
  ⟨h.f.a.c0, h.f.a.c1, h.f.b.c0, h.f.b.c1, h.f.r.c0, h.f.r.c1, h.a.c0, h.a.c1, h.b.c0, h.b.c1⟩

set_option maxHeartbeats 4000000 in
set_option maxRecDepth 100000 in
theorem lawSums (x y x' y' p q : Int) (w : World) : Calls Try.prog 4 #[.agg #[.int .i64 x, .int .i64 y], .agg #[.int .i64 x', .int .i64 y'], .agg #[.int .i64 p, .int .i64 q]] w fun e w' => e = .returned (.bool true) ∧ Below w.heap.size w w' := by
  have H0 := hidOf (FtS.begin w x y x' y' p q)
  have C1 := hidOf (add_any x y x' y')
  have C2 := hidOf (refAdd_any x y x' y')
  have C3 := hidOf (fits_any x y x' y' p q)
  have C4 := hidOf (refFits_any x y x' y' p q)
  generalize addC x y x' y' = c at *
  generalize addM x y x' y' = m at *
  generalize addB x y x' y' = d at *
  generalize fitB x y x' y' p q = e at *
  go_enter Try.func4, Try.ntmps4
  go_wp2_with (first
    | (go_at_call 13; refine (C1.out _).mono ?_; rintro e w1 ⟨rfl, hb⟩; have H1 := hidOf (H0.out.grow hb); clear hb; have a0 := H1.out.a.c0; have a1 := H1.out.a.c1; have b0 := H1.out.b.c0; have b1 := H1.out.b.c1; have la := H1.out.a.lt; have lb := H1.out.b.lt)
    | (go_at_call 14; refine (C2.out _).mono ?_; rintro e w2 ⟨rfl, hb⟩; have H2 := hidOf (SuS.grow (wk := (w2.alloc (.cells #[.int .i64 c, .int .i64 m] 26))) (k1 := w1.heap.size) (k2 := w2.heap.size) ⟨((H1.out.grow (below1 _ _)).grow hb).grow (below1 _ _), ((pr_new w1 c m).grow hb).grow (below1 _ _), pr_new w2 c m⟩ ((Below.refl _ _).drew)); clear hb a0 a1 b0 b1 la lb; obtain ⟨k1, hk1⟩ : ∃ k, k = w1.heap.size := ⟨_, rfl⟩; rw [← hk1] at H2; rw [← hk1]; clear hk1))
  go_region_held3 (fun w' => w'.cell? ⟨w.heap.size, 0, none⟩ = some (.int .i64 x) ∧ w'.cell? ⟨w.heap.size, 1, none⟩ = some (.int .i64 y) ∧ w'.cell? ⟨w.heap.size + 1, 0, none⟩ = some (.int .i64 x') ∧ w'.cell? ⟨w.heap.size + 1, 1, none⟩ = some (.int .i64 y') ∧ w'.cell? ⟨w.heap.size + 1 + 1, 0, none⟩ = some (.int .i64 p) ∧ w'.cell? ⟨w.heap.size + 1 + 1, 1, none⟩ = some (.int .i64 q) ∧ w'.cell? ⟨k1, 0, none⟩ = some (.int .i64 c) ∧ w'.cell? ⟨k1, 1, none⟩ = some (.int .i64 m) ∧ w'.cell? ⟨w2.heap.size, 0, none⟩ = some (.int .i64 c) ∧ w'.cell? ⟨w2.heap.size, 1, none⟩ = some (.int .i64 m)) (first | exact H2.out.cells | go_keep | exact H3.out.cells | exact H4.out.cells | exact H5.out.cells) (first
    | (go_at_call 15; refine (C3.out _).mono ?_; rintro e w3 ⟨rfl, hb⟩; have H3 := hidOf (H2.out.grow hb); clear hb)
    | (go_at_call 16; refine (C4.out _).mono ?_; rintro e w4 ⟨rfl, hb⟩; have H4 := hidOf (H3.out.grow hb); clear hb)
    | (go_at_call 12; refine (lives_any _).mono ?_; rintro e w5 ⟨rfl, hb⟩; have H5 := hidOf (H4.out.grow hb); clear hb))
  go_wp2
  go_ret
  exact ⟨rfl, H5.out.f.bel⟩
end Go.Proofs.Ytnkdchajgpkmpaa
