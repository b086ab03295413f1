/- What more is there only takes nodes away. -/
import Derived.Test.YtajfhknfknedmaaXh
import Derived.Test.YtajfhknfknedmaaDp
import Derived.Test.YtajfhknfknedmaaAp
namespace Go.Proofs.Ytajfhknfknedmaa
open Go.RowKit Go.Shelf
attribute [local go_sem] Oper.semAt_some
theorem info39 : (Try.prog.info? 39).map (fun i => (i.zero, i.size, i.bytes)) = some (some (.agg #[.int .i64 0, .int .i64 0, .int .i64 0, .int .i64 0, .int .i64 0, .int .i64 0, .int .i64 0, .int .i64 0, .int .i64 0, .bool false, .int .i64 0]), 11, 88) := by kernel_rfl
structure FlS (w W : World) (st xl : List Value) (a b : Int) : Prop where
  s : W.rangeAt w.heap.size 0 st
  x : W.rangeAt (w.heap.size + 1 + 1) 0 xl
  p : Pr W (w.heap.size + 1 + 1 + 1) a b
  bel : Below w.heap.size w W
  l : w.heap.size + 1 + 1 + 1 < W.heap.size
theorem FlS.grow {w W W' : World} {st xl : List Value} {a b : Int} (h : FlS w W st xl a b) (hb : Below W.heap.size W W') : FlS w W' st xl a b :=
  ⟨range_of h.s (hb.block _ (by have := h.l; omega)), range_of h.x (hb.block _ (by have := h.l; omega)), h.p.grow hb, h.bel.trans (hb.mono h.bel.size), Nat.lt_of_lt_of_le h.l hb.size⟩
theorem FlS.grown {w W W' : World} {st xl : List Value} {a b : Int} {row : Option Nat} (h : FlS w W st xl a b) (hg : W.grownBy W' row) (hr : ∀ k, row = some k → w.heap.size + 1 + 1 + 1 < k) : FlS w W' st xl a b := by
  have hl := h.l
  have keep : ∀ b, b ≤ w.heap.size + 1 + 1 + 1 → W'.heap[b]? = W.heap[b]? := fun b hb => hg.block b (by omega) (fun e => by have := hr b e.symm; omega)
  have hp : W.heap[w.heap.size + 1 + 1 + 1]? = _ := h.p
  exact ⟨range_of h.s (keep _ (by omega)), range_of h.x (keep _ (by omega)), (keep _ (Nat.le_refl _)).trans hp, h.bel.trans ⟨hg.os, hg.tape, hg.output, hg.size, fun b hb => keep b (by omega)⟩, Nat.lt_of_lt_of_le hl hg.size⟩
theorem FlS.set {w W : World} {st xl : List Value} {a b : Int} (h : FlS w W st xl a b) {g : Nat} (hg : w.heap.size + 1 + 1 + 1 < g) (v : Value) : FlS w (W.setCell ⟨g, 0, none⟩ v) st xl a b := by
  have keep : ∀ b, b ≤ w.heap.size + 1 + 1 + 1 → (W.setCell ⟨g, 0, none⟩ v).heap[b]? = W.heap[b]? := fun b hb => heap_setCell_other W ⟨g, 0, none⟩ b v (by show b ≠ g; omega)
  have hp : W.heap[w.heap.size + 1 + 1 + 1]? = _ := h.p
  exact ⟨range_of h.s (keep _ (by omega)), range_of h.x (keep _ (by omega)), (keep _ (Nat.le_refl _)).trans hp, h.bel.setCell (p := ⟨g, 0, none⟩) (by show w.heap.size ≤ g; omega) _, by simpa using h.l⟩
theorem own_blk {w : World} {lo k n : Nat} {e : TypeId} {v : Value} {xs : List Value} (h : w.ownsRow lo e k v n xs) {b : Nat} (hb : v.ownBlock = some b) : lo ≤ b ∧ b < w.heap.size := by
  rcases h.2 with ⟨e1, _⟩ | ⟨g, cap, cu, e1, hl, hgg, _⟩
  · rw [e1] at hb; cases hb
  · rw [e1] at hb
    have e2 : g = b := by simpa [Value.ownBlock] using hb
    subst e2
    exact ⟨hl, heap_lt hgg⟩
set_option maxRecDepth 100000 in
set_option maxHeartbeats 8000000 in
theorem walkLess (s : Sc) (J B : List Js) (X : List Ss) (d : St) (am : Option Addr) (M : List Al) (cm : Nat) (x : Al) (a b : Int) (w : World) (hS : StR w (fun b => b < w.heap.size) s J B X d) (_hz : d.allocs.length * 88 ≤ reachBytes) (hM : Mr w am M) (hm : M.length * 88 ≤ reachBytes) :
    Calls Try.prog 4 #[.agg #[.int .i64 s.ix, .int .i64 s.nx, .slice s.a2 s.n2 s.c2, .slice s.a3 s.n3 s.c3, .slice s.a4 s.n4 s.c4, .slice s.a5 s.n5 s.c5, .slice s.a6 s.n6 s.c6, .slice s.a7 s.n7 s.c7, .slice s.a8 s.n8 s.c8], .slice am M.length cm, .agg #[.int .i64 x.id, .int .i64 x.jb, .int .i64 x.ve, .int .i64 x.gr, .int .i64 x.ix, .int .i64 x.nd, .int .i64 x.ep, .int .i64 x.c, .int .i64 x.m, .bool x.sp, .int .i64 x.st, .int .i64 a, .int .i64 b]] w fun e w' => e = .returned (.bool true) ∧ Below w.heap.size w w' := by
  have hs : Sg w s d.nodes d.allocs := ⟨hS.f.n4, hS.f.n5, hS.f.f4, hS.f.f5⟩
  have HZ : Hid ((M.length + 1) * 88 ≤ 140737488355328) := hidOf (by unfold reachBytes at hm; omega)
  clear hS _hz hm
  generalize d.nodes = N at *
  generalize d.allocs = A at *
  obtain ⟨ix, nx, a2, n2, c2, a3, n3, c3, a4, n4, c4, a5, n5, c5, a6, n6, c6, a7, n7, c7, a8, n8, c8⟩ := s
  obtain ⟨e4, e5⟩ : n4 = N.length ∧ n5 = A.length := ⟨hs.n4, hs.n5⟩
  subst e4
  subst e5
  have HCA := hidOf (fun (W : World) (hW : Below w.heap.size w W) => caps_any ⟨ix, nx, a2, n2, c2, a3, n3, c3, a4, N.length, c4, a5, A.length, c5, a6, n6, c6, a7, n7, c7, a8, n8, c8⟩ N A W (hs.up hW))
  have HLV := hidOf lives_any
  dsimp only at HCA
  obtain ⟨W0, hW0⟩ : ∃ y, y = (((w.alloc (.cells #[.int .i64 ix, .int .i64 nx, .slice a2 n2 c2, .slice a3 n3 c3, .slice a4 N.length c4, .slice a5 A.length c5, .slice a6 n6 c6, .slice a7 n7 c7, .slice a8 n8 c8] 29)).alloc (.cells #[.int .i64 x.id, .int .i64 x.jb, .int .i64 x.ve, .int .i64 x.gr, .int .i64 x.ix, .int .i64 x.nd, .int .i64 x.ep, .int .i64 x.c, .int .i64 x.m, .bool x.sp, .int .i64 x.st, .int .i64 a, .int .i64 b] 41)).alloc (.cells #[.int .i64 x.id, .int .i64 x.jb, .int .i64 x.ve, .int .i64 x.gr, .int .i64 x.ix, .int .i64 x.nd, .int .i64 x.ep, .int .i64 x.c, .int .i64 x.m, .bool x.sp, .int .i64 x.st] 39)).alloc (.cells #[.int .i64 a, .int .i64 b] 31) := ⟨_, rfl⟩
  have Z0 : Hid (FlS w W0 [.int .i64 ix, .int .i64 nx, .slice a2 n2 c2, .slice a3 n3 c3, .slice a4 N.length c4, .slice a5 A.length c5, .slice a6 n6 c6, .slice a7 n7 c7, .slice a8 n8 c8] [.int .i64 x.id, .int .i64 x.jb, .int .i64 x.ve, .int .i64 x.gr, .int .i64 x.ix, .int .i64 x.nd, .int .i64 x.ep, .int .i64 x.c, .int .i64 x.m, .bool x.sp, .int .i64 x.st] a b) := hidOf (by
    have b1 := below1 (((w.alloc (.cells #[.int .i64 ix, .int .i64 nx, .slice a2 n2 c2, .slice a3 n3 c3, .slice a4 N.length c4, .slice a5 A.length c5, .slice a6 n6 c6, .slice a7 n7 c7, .slice a8 n8 c8] 29)).alloc (.cells #[.int .i64 x.id, .int .i64 x.jb, .int .i64 x.ve, .int .i64 x.gr, .int .i64 x.ix, .int .i64 x.nd, .int .i64 x.ep, .int .i64 x.c, .int .i64 x.m, .bool x.sp, .int .i64 x.st, .int .i64 a, .int .i64 b] 41)).alloc (.cells #[.int .i64 x.id, .int .i64 x.jb, .int .i64 x.ve, .int .i64 x.gr, .int .i64 x.ix, .int .i64 x.nd, .int .i64 x.ep, .int .i64 x.c, .int .i64 x.m, .bool x.sp, .int .i64 x.st] 39)) (.cells #[.int .i64 a, .int .i64 b] 31)
    have b2 := below1 ((w.alloc (.cells #[.int .i64 ix, .int .i64 nx, .slice a2 n2 c2, .slice a3 n3 c3, .slice a4 N.length c4, .slice a5 A.length c5, .slice a6 n6 c6, .slice a7 n7 c7, .slice a8 n8 c8] 29)).alloc (.cells #[.int .i64 x.id, .int .i64 x.jb, .int .i64 x.ve, .int .i64 x.gr, .int .i64 x.ix, .int .i64 x.nd, .int .i64 x.ep, .int .i64 x.c, .int .i64 x.m, .bool x.sp, .int .i64 x.st, .int .i64 a, .int .i64 b] 41)) (.cells #[.int .i64 x.id, .int .i64 x.jb, .int .i64 x.ve, .int .i64 x.gr, .int .i64 x.ix, .int .i64 x.nd, .int .i64 x.ep, .int .i64 x.c, .int .i64 x.m, .bool x.sp, .int .i64 x.st] 39)
    have b3 := below1 (w.alloc (.cells #[.int .i64 ix, .int .i64 nx, .slice a2 n2 c2, .slice a3 n3 c3, .slice a4 N.length c4, .slice a5 A.length c5, .slice a6 n6 c6, .slice a7 n7 c7, .slice a8 n8 c8] 29)) (.cells #[.int .i64 x.id, .int .i64 x.jb, .int .i64 x.ve, .int .i64 x.gr, .int .i64 x.ix, .int .i64 x.nd, .int .i64 x.ep, .int .i64 x.c, .int .i64 x.m, .bool x.sp, .int .i64 x.st, .int .i64 a, .int .i64 b] 41)
    have b4 := below1 w (.cells #[.int .i64 ix, .int .i64 nx, .slice a2 n2 c2, .slice a3 n3 c3, .slice a4 N.length c4, .slice a5 A.length c5, .slice a6 n6 c6, .slice a7 n7 c7, .slice a8 n8 c8] 29)
    rw [hW0]
    have h1 := box_new (wr := w) (cs := [.int .i64 ix, .int .i64 nx, .slice a2 n2 c2, .slice a3 n3 c3, .slice a4 N.length c4, .slice a5 A.length c5, .slice a6 n6 c6, .slice a7 n7 c7, .slice a8 n8 c8]) (t := 29) ((b3.trans (b2.mono b3.size)).trans (b1.mono (b3.trans (b2.mono b3.size)).size))
    have h2 := box_new (wr := (w.alloc (.cells #[.int .i64 ix, .int .i64 nx, .slice a2 n2 c2, .slice a3 n3 c3, .slice a4 N.length c4, .slice a5 A.length c5, .slice a6 n6 c6, .slice a7 n7 c7, .slice a8 n8 c8] 29)).alloc (.cells #[.int .i64 x.id, .int .i64 x.jb, .int .i64 x.ve, .int .i64 x.gr, .int .i64 x.ix, .int .i64 x.nd, .int .i64 x.ep, .int .i64 x.c, .int .i64 x.m, .bool x.sp, .int .i64 x.st, .int .i64 a, .int .i64 b] 41)) (cs := [.int .i64 x.id, .int .i64 x.jb, .int .i64 x.ve, .int .i64 x.gr, .int .i64 x.ix, .int .i64 x.nd, .int .i64 x.ep, .int .i64 x.c, .int .i64 x.m, .bool x.sp, .int .i64 x.st]) (t := 39) b1
    have h3 := pr_new (((w.alloc (.cells #[.int .i64 ix, .int .i64 nx, .slice a2 n2 c2, .slice a3 n3 c3, .slice a4 N.length c4, .slice a5 A.length c5, .slice a6 n6 c6, .slice a7 n7 c7, .slice a8 n8 c8] 29)).alloc (.cells #[.int .i64 x.id, .int .i64 x.jb, .int .i64 x.ve, .int .i64 x.gr, .int .i64 x.ix, .int .i64 x.nd, .int .i64 x.ep, .int .i64 x.c, .int .i64 x.m, .bool x.sp, .int .i64 x.st, .int .i64 a, .int .i64 b] 41)).alloc (.cells #[.int .i64 x.id, .int .i64 x.jb, .int .i64 x.ve, .int .i64 x.gr, .int .i64 x.ix, .int .i64 x.nd, .int .i64 x.ep, .int .i64 x.c, .int .i64 x.m, .bool x.sp, .int .i64 x.st] 39)) a b
    simp only [World.size_alloc] at h2 h3
    exact ⟨h1, h2, h3, b4.trans (((b3.trans (b2.mono b3.size)).trans (b1.mono (b3.trans (b2.mono b3.size)).size)).mono b4.size), by simp⟩)
  have l0 : w.heap.size + 1 + 1 + 1 < W0.heap.size := Z0.out.l
  have lx0 : w.heap.size + 1 + 1 < W0.heap.size := by omega
  have lw0 : w.heap.size < W0.heap.size := by omega
  have y0 : W0.cell? ⟨w.heap.size + 1 + 1, 0, none⟩ = some (.int .i64 x.id) := Z0.out.x 0 _ rfl
  have y1 : W0.cell? ⟨w.heap.size + 1 + 1, 1, none⟩ = some (.int .i64 x.jb) := Z0.out.x 1 _ rfl
  have y2 : W0.cell? ⟨w.heap.size + 1 + 1, 2, none⟩ = some (.int .i64 x.ve) := Z0.out.x 2 _ rfl
  have y3 : W0.cell? ⟨w.heap.size + 1 + 1, 3, none⟩ = some (.int .i64 x.gr) := Z0.out.x 3 _ rfl
  have y4 : W0.cell? ⟨w.heap.size + 1 + 1, 4, none⟩ = some (.int .i64 x.ix) := Z0.out.x 4 _ rfl
  have y5 : W0.cell? ⟨w.heap.size + 1 + 1, 5, none⟩ = some (.int .i64 x.nd) := Z0.out.x 5 _ rfl
  have y6 : W0.cell? ⟨w.heap.size + 1 + 1, 6, none⟩ = some (.int .i64 x.ep) := Z0.out.x 6 _ rfl
  have y7 : W0.cell? ⟨w.heap.size + 1 + 1, 7, none⟩ = some (.int .i64 x.c) := Z0.out.x 7 _ rfl
  have y8 : W0.cell? ⟨w.heap.size + 1 + 1, 8, none⟩ = some (.int .i64 x.m) := Z0.out.x 8 _ rfl
  have y9 : W0.cell? ⟨w.heap.size + 1 + 1, 9, none⟩ = some (.bool x.sp) := Z0.out.x 9 _ rfl
  have y10 : W0.cell? ⟨w.heap.size + 1 + 1, 10, none⟩ = some (.int .i64 x.st) := Z0.out.x 10 _ rfl
  have s0 : W0.cell? ⟨w.heap.size, 0, none⟩ = some (.int .i64 ix) := Z0.out.s 0 _ rfl
  have s1 : W0.cell? ⟨w.heap.size, 1, none⟩ = some (.int .i64 nx) := Z0.out.s 1 _ rfl
  have s2 : W0.cell? ⟨w.heap.size, 2, none⟩ = some (.slice a2 n2 c2) := Z0.out.s 2 _ rfl
  have s3 : W0.cell? ⟨w.heap.size, 3, none⟩ = some (.slice a3 n3 c3) := Z0.out.s 3 _ rfl
  have s4 : W0.cell? ⟨w.heap.size, 4, none⟩ = some (.slice a4 N.length c4) := Z0.out.s 4 _ rfl
  have s5 : W0.cell? ⟨w.heap.size, 5, none⟩ = some (.slice a5 A.length c5) := Z0.out.s 5 _ rfl
  have s6 : W0.cell? ⟨w.heap.size, 6, none⟩ = some (.slice a6 n6 c6) := Z0.out.s 6 _ rfl
  have s7 : W0.cell? ⟨w.heap.size, 7, none⟩ = some (.slice a7 n7 c7) := Z0.out.s 7 _ rfl
  have s8 : W0.cell? ⟨w.heap.size, 8, none⟩ = some (.slice a8 n8 c8) := Z0.out.s 8 _ rfl
  go_enter Try.func4, Try.ntmps4
  go_upto_region 3 with (fail)
  rw [← hW0]
  clear hW0
  by_cases hgo : cpL N = true ∧ 0 ≤ x.c ∧ 0 ≤ x.m
  case neg =>
    clear hs hM
    cases hcap : cpL N with
    | false =>
      rw [hcap] at HCA
      clear hcap hgo
      go_wp2_with (first
        | (go_at_call 6; refine (HCA.out _ Z0.out.bel).mono ?_; rintro e w1 ⟨rfl, hb⟩; have Z1 := hidOf (Z0.out.grow hb); clear hb)
        | (go_at_call 7; refine (HLV.out _).mono ?_; rintro e wl ⟨rfl, hb⟩; have HBL := hidOf hb; clear hb))
      go_ret
      exact ⟨rfl, Z1.out.bel.trans (HBL.out.mono Z1.out.bel.size)⟩
    | true =>
      rw [hcap] at HCA
      by_cases h1 : x.c < 0
      · clear hcap hgo
        go_wp2_with (first
          | (go_at_call 6; refine (HCA.out _ Z0.out.bel).mono ?_; rintro e w1 ⟨rfl, hb⟩; have Z1 := hidOf (Z0.out.grow hb); clear hb; have lx : w.heap.size + 1 + 1 < w1.heap.size := Nat.lt_of_lt_of_le (by omega) (Nat.le_of_lt Z1.out.l); have x0 : w1.cell? ⟨w.heap.size + 1 + 1, 0, none⟩ = some (.int .i64 x.id) := Z1.out.x 0 _ rfl; have x1 : w1.cell? ⟨w.heap.size + 1 + 1, 1, none⟩ = some (.int .i64 x.jb) := Z1.out.x 1 _ rfl; have x2 : w1.cell? ⟨w.heap.size + 1 + 1, 2, none⟩ = some (.int .i64 x.ve) := Z1.out.x 2 _ rfl; have x3 : w1.cell? ⟨w.heap.size + 1 + 1, 3, none⟩ = some (.int .i64 x.gr) := Z1.out.x 3 _ rfl; have x4 : w1.cell? ⟨w.heap.size + 1 + 1, 4, none⟩ = some (.int .i64 x.ix) := Z1.out.x 4 _ rfl; have x5 : w1.cell? ⟨w.heap.size + 1 + 1, 5, none⟩ = some (.int .i64 x.nd) := Z1.out.x 5 _ rfl; have x6 : w1.cell? ⟨w.heap.size + 1 + 1, 6, none⟩ = some (.int .i64 x.ep) := Z1.out.x 6 _ rfl; have x7 : w1.cell? ⟨w.heap.size + 1 + 1, 7, none⟩ = some (.int .i64 x.c) := Z1.out.x 7 _ rfl; have x8 : w1.cell? ⟨w.heap.size + 1 + 1, 8, none⟩ = some (.int .i64 x.m) := Z1.out.x 8 _ rfl; have x9 : w1.cell? ⟨w.heap.size + 1 + 1, 9, none⟩ = some (.bool x.sp) := Z1.out.x 9 _ rfl; have x10 : w1.cell? ⟨w.heap.size + 1 + 1, 10, none⟩ = some (.int .i64 x.st) := Z1.out.x 10 _ rfl)
          | (go_at_call 7; refine (HLV.out _).mono ?_; rintro e wl ⟨rfl, hb⟩; have HBL := hidOf hb; clear hb))
        go_ret
        exact ⟨rfl, Z1.out.bel.trans (HBL.out.mono Z1.out.bel.size)⟩
      · have h2 : x.m < 0 := by
          refine Int.not_le.1 fun h => hgo ⟨hcap, by omega, h⟩
        clear hcap hgo
        go_wp2_with (first
          | (go_at_call 6; refine (HCA.out _ Z0.out.bel).mono ?_; rintro e w1 ⟨rfl, hb⟩; have Z1 := hidOf (Z0.out.grow hb); clear hb; have lx : w.heap.size + 1 + 1 < w1.heap.size := Nat.lt_of_lt_of_le (by omega) (Nat.le_of_lt Z1.out.l); have x0 : w1.cell? ⟨w.heap.size + 1 + 1, 0, none⟩ = some (.int .i64 x.id) := Z1.out.x 0 _ rfl; have x1 : w1.cell? ⟨w.heap.size + 1 + 1, 1, none⟩ = some (.int .i64 x.jb) := Z1.out.x 1 _ rfl; have x2 : w1.cell? ⟨w.heap.size + 1 + 1, 2, none⟩ = some (.int .i64 x.ve) := Z1.out.x 2 _ rfl; have x3 : w1.cell? ⟨w.heap.size + 1 + 1, 3, none⟩ = some (.int .i64 x.gr) := Z1.out.x 3 _ rfl; have x4 : w1.cell? ⟨w.heap.size + 1 + 1, 4, none⟩ = some (.int .i64 x.ix) := Z1.out.x 4 _ rfl; have x5 : w1.cell? ⟨w.heap.size + 1 + 1, 5, none⟩ = some (.int .i64 x.nd) := Z1.out.x 5 _ rfl; have x6 : w1.cell? ⟨w.heap.size + 1 + 1, 6, none⟩ = some (.int .i64 x.ep) := Z1.out.x 6 _ rfl; have x7 : w1.cell? ⟨w.heap.size + 1 + 1, 7, none⟩ = some (.int .i64 x.c) := Z1.out.x 7 _ rfl; have x8 : w1.cell? ⟨w.heap.size + 1 + 1, 8, none⟩ = some (.int .i64 x.m) := Z1.out.x 8 _ rfl; have x9 : w1.cell? ⟨w.heap.size + 1 + 1, 9, none⟩ = some (.bool x.sp) := Z1.out.x 9 _ rfl; have x10 : w1.cell? ⟨w.heap.size + 1 + 1, 10, none⟩ = some (.int .i64 x.st) := Z1.out.x 10 _ rfl)
          | (go_at_call 7; refine (HLV.out _).mono ?_; rintro e wl ⟨rfl, hb⟩; have HBL := hidOf hb; clear hb))
        go_ret
        exact ⟨rfl, Z1.out.bel.trans (HBL.out.mono Z1.out.bel.size)⟩
  case pos =>
    obtain ⟨hcap, hx1, hx2⟩ := hgo
    have h1 : ¬ x.c < 0 := by omega
    have h2 : ¬ x.m < 0 := by omega
    have HMM := hidOf (fun (nd a b : Int) (W : World) (hW : Below w.heap.size w W) => may_any ⟨ix, nx, a2, n2, c2, a3, n3, c3, a4, N.length, c4, a5, A.length, c5, a6, n6, c6, a7, n7, c7, a8, n8, c8⟩ nd a b N A M am cm W (hs.up hW) (mr_up hM hW) hcap)
    have HBA := hidOf (fun (W : World) (hW : Below w.heap.size w W) => best_any ⟨ix, nx, a2, n2, c2, a3, n3, c3, a4, N.length, c4, a5, A.length, c5, a6, n6, c6, a7, n7, c7, a8, n8, c8⟩ a b N A M am cm W (hs.up hW) (mr_up hM hW) hcap)
    have HSG := hidOf (fun (W : World) (hW : Below w.heap.size w W) => hs.up hW)
    have HMR := hidOf (fun (W : World) (hW : Below w.heap.size w W) => mr_up hM hW)
    have HCP := hidOf hcap
    dsimp only at HMM HBA
    rw [hcap] at HCA
    clear hs hM hcap hx1 hx2
    go_upto_region 7 with (go_at_call 6; refine (HCA.out _ Z0.out.bel).mono ?_; rintro e w1 ⟨rfl, hb⟩; have Z1 := hidOf (Z0.out.grow hb); clear hb; have lx : w.heap.size + 1 + 1 < w1.heap.size := Nat.lt_of_lt_of_le (by omega) (Nat.le_of_lt Z1.out.l); have x0 : w1.cell? ⟨w.heap.size + 1 + 1, 0, none⟩ = some (.int .i64 x.id) := Z1.out.x 0 _ rfl; have x1 : w1.cell? ⟨w.heap.size + 1 + 1, 1, none⟩ = some (.int .i64 x.jb) := Z1.out.x 1 _ rfl; have x2 : w1.cell? ⟨w.heap.size + 1 + 1, 2, none⟩ = some (.int .i64 x.ve) := Z1.out.x 2 _ rfl; have x3 : w1.cell? ⟨w.heap.size + 1 + 1, 3, none⟩ = some (.int .i64 x.gr) := Z1.out.x 3 _ rfl; have x4 : w1.cell? ⟨w.heap.size + 1 + 1, 4, none⟩ = some (.int .i64 x.ix) := Z1.out.x 4 _ rfl; have x5 : w1.cell? ⟨w.heap.size + 1 + 1, 5, none⟩ = some (.int .i64 x.nd) := Z1.out.x 5 _ rfl; have x6 : w1.cell? ⟨w.heap.size + 1 + 1, 6, none⟩ = some (.int .i64 x.ep) := Z1.out.x 6 _ rfl; have x7 : w1.cell? ⟨w.heap.size + 1 + 1, 7, none⟩ = some (.int .i64 x.c) := Z1.out.x 7 _ rfl; have x8 : w1.cell? ⟨w.heap.size + 1 + 1, 8, none⟩ = some (.int .i64 x.m) := Z1.out.x 8 _ rfl; have x9 : w1.cell? ⟨w.heap.size + 1 + 1, 9, none⟩ = some (.bool x.sp) := Z1.out.x 9 _ rfl; have x10 : w1.cell? ⟨w.heap.size + 1 + 1, 10, none⟩ = some (.int .i64 x.st) := Z1.out.x 10 _ rfl)
    clear s0 s1 s2 s3 s4 s5 s6 s7 s8 l0 lx0 lw0 y0 y1 y2 y3 y4 y5 y6 y7 y8 y9 y10
    clear x0 x1 x2 x3 x4 x5 x6 x7 x8 x9 x10 lx Z0 HCA
    go_upto_region 8 with (at_builtin; refine wpList_app0 _ rfl _ _ 24 rfl 39 _ 11 88 Try.underlying24 info39 rfl Al.cs Al.len Al.one (by decide) (by decide) am M cm (fun b => b < w1.heap.size) rfl rfl (HMR.out _ Z1.out.bel) ?_; intro a' c' w2 hown hb; have HO := hidOf hown; have Z2 := hidOf (Z1.out.grow hb); have hs2 := hb.size; clear hown hb)
    have lx : w.heap.size + 1 + 1 < w2.heap.size := Nat.lt_of_lt_of_le (by omega) (Nat.le_of_lt Z2.out.l)
    have x0 : w2.cell? ⟨w.heap.size + 1 + 1, 0, none⟩ = some (.int .i64 x.id) := Z2.out.x 0 _ rfl
    have x1 : w2.cell? ⟨w.heap.size + 1 + 1, 1, none⟩ = some (.int .i64 x.jb) := Z2.out.x 1 _ rfl
    have x2 : w2.cell? ⟨w.heap.size + 1 + 1, 2, none⟩ = some (.int .i64 x.ve) := Z2.out.x 2 _ rfl
    have x3 : w2.cell? ⟨w.heap.size + 1 + 1, 3, none⟩ = some (.int .i64 x.gr) := Z2.out.x 3 _ rfl
    have x4 : w2.cell? ⟨w.heap.size + 1 + 1, 4, none⟩ = some (.int .i64 x.ix) := Z2.out.x 4 _ rfl
    have x5 : w2.cell? ⟨w.heap.size + 1 + 1, 5, none⟩ = some (.int .i64 x.nd) := Z2.out.x 5 _ rfl
    have x6 : w2.cell? ⟨w.heap.size + 1 + 1, 6, none⟩ = some (.int .i64 x.ep) := Z2.out.x 6 _ rfl
    have x7 : w2.cell? ⟨w.heap.size + 1 + 1, 7, none⟩ = some (.int .i64 x.c) := Z2.out.x 7 _ rfl
    have x8 : w2.cell? ⟨w.heap.size + 1 + 1, 8, none⟩ = some (.int .i64 x.m) := Z2.out.x 8 _ rfl
    have x9 : w2.cell? ⟨w.heap.size + 1 + 1, 9, none⟩ = some (.bool x.sp) := Z2.out.x 9 _ rfl
    have x10 : w2.cell? ⟨w.heap.size + 1 + 1, 10, none⟩ = some (.int .i64 x.st) := Z2.out.x 10 _ rfl
    have HOL : Hid ((w2.alloc (.cells #[.int .i64 x.id, .int .i64 x.jb, .int .i64 x.ve, .int .i64 x.gr, .int .i64 x.ix, .int .i64 x.nd, .int .i64 x.ep, .int .i64 x.c, .int .i64 x.m, .bool x.sp, .int .i64 x.st] 39)).ownsRow w1.heap.size 39 11 (.slice a' M.length c') M.length (fl Al.cs M)) := hidOf (own_kept HO.out (fun b _ hb => (below1 w2 _).block b hb))
    have HNEW : Hid (∀ j u, (Al.cs x)[j]? = some u → (w2.alloc (.cells #[.int .i64 x.id, .int .i64 x.jb, .int .i64 x.ve, .int .i64 x.gr, .int .i64 x.ix, .int .i64 x.nd, .int .i64 x.ep, .int .i64 x.c, .int .i64 x.m, .bool x.sp, .int .i64 x.st] 39)).cell? ((⟨w2.heap.size, 0, none⟩ : Addr).add j) = some u) := hidOf (fun j u hj => by
      rw [Addr.add_lit, cell_of_row _ w2.heap.size _ _ 39 (0, 0) (heap_alloc_new w2 _), Nat.zero_add]
      have hl : ([.int .i64 x.id, .int .i64 x.jb, .int .i64 x.ve, .int .i64 x.gr, .int .i64 x.ix, .int .i64 x.nd, .int .i64 x.ep, .int .i64 x.c, .int .i64 x.m, .bool x.sp, .int .i64 x.st] : List Value)[j]? = some u := hj
      simpa using hl)
    go_upto_region 9 with (at_builtin; refine wpList_app1 _ rfl _ _ 24 rfl w1.heap.size 39 _ 11 88 Try.underlying24 info39 rfl (by decide) _ M.length (fl Al.cs M) rfl HOL.out ⟨w2.heap.size, 0, none⟩ 1 (Al.cs x) rfl rfl HNEW.out (Al.one x) (by unfold maxLen; have := HZ.out; omega) HZ.out (by simp; omega) ?_; intro a2' c2' w3 hown3 hg3; have hrow : ∀ k, (Value.slice a' M.length c').ownBlock = some k → w1.heap.size ≤ k ∧ k < w2.heap.size := (fun k hk => own_blk HO.out hk); have Z3 := hidOf ((Z2.out.grow (below1 w2 _)).grown hg3 (fun k hk => by have h9 := (hrow k hk).1; have h8 := Z1.out.l; omega)); have HO3 := hidOf hown3; clear hown3 hg3 hrow)
    clear x0 x1 x2 x3 x4 x5 x6 x7 x8 x9 x10 lx HOL HNEW HO hs2 Z1 Z2
    have HA3 : Hid (Mr w3 a2' (M ++ [x])) := hidOf (by
      have h := HO3.out
      rw [← fl_snoc] at h
      have hl : M.length + 1 = (M ++ [x]).length := by simp
      rw [hl] at h
      exact (own_fl Al.len h (by rw [← hl]; exact HZ.out)).kept (fun _ _ => rfl) (fun b hb => hb.lt))
    have HMX := hidOf (fun (nd a b : Int) (W : World) (hW : Below w3.heap.size w3 W) => may_any ⟨ix, nx, a2, n2, c2, a3, n3, c3, a4, N.length, c4, a5, A.length, c5, a6, n6, c6, a7, n7, c7, a8, n8, c8⟩ nd a b N A (M ++ [x]) a2' c2' W (HSG.out W (Z3.out.bel.trans (hW.mono Z3.out.bel.size))) (mr_up HA3.out hW) HCP.out)
    have HMY := hidOf (fun (nd a b : Int) (W : World) (hW : Below w3.heap.size w3 W) => HMM.out nd a b W (Z3.out.bel.trans (hW.mono Z3.out.bel.size)))
    have HBY := hidOf (fun (W : World) (hW : Below w3.heap.size w3 W) => HBA.out W (Z3.out.bel.trans (hW.mono Z3.out.bel.size)))
    dsimp only at HMX
    rw [show (M ++ [x]).length = M.length + 1 by simp] at HMX
    have HMO := hidOf (fun (nd : Int) => chV_more (N := N) (A := A) (M := M) (nd := nd) (a := a) (b := b) (x := x))
    have HLE := hidOf (fun (nd : Int) (ha : 0 ≤ a) => chV_less (N := N) (A := A) (M := M) (nd := nd) (b := b) ha)
    have HIS := hidOf (bF_is N A M a b N.length (Nat.le_refl _))
    clear HO3 HA3 HMM HBA HSG HMR HCP HZ
    go_wp2
    go_loopw [11] (fun i wr => ∃ z : Int, 0 ≤ z ∧ z ≤ 6 ∧ i = .int .i64 z ∧ Hid (FlS w wr [.int .i64 ix, .int .i64 nx, .slice a2 n2 c2, .slice a3 n3 c3, .slice a4 N.length c4, .slice a5 A.length c5, .slice a6 n6 c6, .slice a7 n7 c7, .slice a8 n8 c8] [.int .i64 x.id, .int .i64 x.jb, .int .i64 x.ve, .int .i64 x.gr, .int .i64 x.ix, .int .i64 x.nd, .int .i64 x.ep, .int .i64 x.c, .int .i64 x.m, .bool x.sp, .int .i64 x.st] a b) ∧ Hid (Below w3.heap.size w3 wr)) (fun i _ => (6 - intOf i).toNat)
    case atStart => exact ⟨0, by omega, by omega, rfl, Z3, hidOf (Below.refl _ _)⟩
    case round =>
      clear Z3
      obtain ⟨z, hz1, hz2, rfl, Z, HB⟩ := hrel
      have lw : w.heap.size < wr.heap.size := Nat.lt_of_lt_of_le (by omega) (Nat.le_of_lt Z.out.l)
      have la : w.heap.size + 1 + 1 + 1 < wr.heap.size := Z.out.l
      have s0 : wr.cell? ⟨w.heap.size, 0, none⟩ = some (.int .i64 ix) := Z.out.s 0 _ rfl
      have s1 : wr.cell? ⟨w.heap.size, 1, none⟩ = some (.int .i64 nx) := Z.out.s 1 _ rfl
      have s2 : wr.cell? ⟨w.heap.size, 2, none⟩ = some (.slice a2 n2 c2) := Z.out.s 2 _ rfl
      have s3 : wr.cell? ⟨w.heap.size, 3, none⟩ = some (.slice a3 n3 c3) := Z.out.s 3 _ rfl
      have s4 : wr.cell? ⟨w.heap.size, 4, none⟩ = some (.slice a4 N.length c4) := Z.out.s 4 _ rfl
      have s5 : wr.cell? ⟨w.heap.size, 5, none⟩ = some (.slice a5 A.length c5) := Z.out.s 5 _ rfl
      have s6 : wr.cell? ⟨w.heap.size, 6, none⟩ = some (.slice a6 n6 c6) := Z.out.s 6 _ rfl
      have s7 : wr.cell? ⟨w.heap.size, 7, none⟩ = some (.slice a7 n7 c7) := Z.out.s 7 _ rfl
      have s8 : wr.cell? ⟨w.heap.size, 8, none⟩ = some (.slice a8 n8 c8) := Z.out.s 8 _ rfl
      have a0 : wr.cell? ⟨w.heap.size + 1 + 1 + 1, 0, none⟩ = some (.int .i64 a) := Z.out.p.c0
      have a1 : wr.cell? ⟨w.heap.size + 1 + 1 + 1, 1, none⟩ = some (.int .i64 b) := Z.out.p.c1
      by_cases hle : z ≤ 5
      · have HX1 := hidOf (HMX.out z a b)
        have HY1 := hidOf (HMY.out z a b)
        have HY3 := HY1
        have HG1 := hidOf (HMY.out z (a + 1) b)
        have hmo := HMO.out z
        have hle2 := HLE.out z
        generalize (chV N A (M ++ [x]) z a b).isSome = m1 at *
        generalize (chV N A M z a b).isSome = m2 at *
        generalize (chV N A M z (a + 1) b).isSome = m3 at *
        clear HMX HMY HMO HLE HBY HIS
        have key : ∀ (WW : World), Hid (FlS w WW [.int .i64 ix, .int .i64 nx, .slice a2 n2 c2, .slice a3 n3 c3, .slice a4 N.length c4, .slice a5 A.length c5, .slice a6 n6 c6, .slice a7 n7 c7, .slice a8 n8 c8] [.int .i64 x.id, .int .i64 x.jb, .int .i64 x.ve, .int .i64 x.gr, .int .i64 x.ix, .int .i64 x.nd, .int .i64 x.ep, .int .i64 x.c, .int .i64 x.m, .bool x.sp, .int .i64 x.st] a b) → Hid (Below w3.heap.size w3 WW) → True := fun _ _ _ => trivial
        clear key
        cases m1 with
        | false =>
          clear hmo
          go_upto_region 14 with (go_at_call 8; refine (HX1.out _ HB.out).mono ?_; rintro e w4 ⟨rfl, hb⟩; have Zw4 := hidOf (Z.out.grow hb); have HBw4 : Hid (Below w3.heap.size w3 w4) := hidOf (HB.out.trans (hb.mono HB.out.size)); clear HX1; clear hb; clear s0 s1 s2 s3 s4 s5 s6 s7 s8 a0 a1 lw la; have lw : w.heap.size < w4.heap.size := Nat.lt_of_lt_of_le (by omega) (Nat.le_of_lt Zw4.out.l); have la : w.heap.size + 1 + 1 + 1 < w4.heap.size := Zw4.out.l; have s0 : w4.cell? ⟨w.heap.size, 0, none⟩ = some (.int .i64 ix) := Zw4.out.s 0 _ rfl; have s1 : w4.cell? ⟨w.heap.size, 1, none⟩ = some (.int .i64 nx) := Zw4.out.s 1 _ rfl; have s2 : w4.cell? ⟨w.heap.size, 2, none⟩ = some (.slice a2 n2 c2) := Zw4.out.s 2 _ rfl; have s3 : w4.cell? ⟨w.heap.size, 3, none⟩ = some (.slice a3 n3 c3) := Zw4.out.s 3 _ rfl; have s4 : w4.cell? ⟨w.heap.size, 4, none⟩ = some (.slice a4 N.length c4) := Zw4.out.s 4 _ rfl; have s5 : w4.cell? ⟨w.heap.size, 5, none⟩ = some (.slice a5 A.length c5) := Zw4.out.s 5 _ rfl; have s6 : w4.cell? ⟨w.heap.size, 6, none⟩ = some (.slice a6 n6 c6) := Zw4.out.s 6 _ rfl; have s7 : w4.cell? ⟨w.heap.size, 7, none⟩ = some (.slice a7 n7 c7) := Zw4.out.s 7 _ rfl; have s8 : w4.cell? ⟨w.heap.size, 8, none⟩ = some (.slice a8 n8 c8) := Zw4.out.s 8 _ rfl; have a0 : w4.cell? ⟨w.heap.size + 1 + 1 + 1, 0, none⟩ = some (.int .i64 a) := Zw4.out.p.c0; have a1 : w4.cell? ⟨w.heap.size + 1 + 1 + 1, 1, none⟩ = some (.int .i64 b) := Zw4.out.p.c1)
          by_cases hP : 0 ≤ a ∧ a < 1152921504606846976
          · obtain ⟨hP1, hP2⟩ := hP
            have hP3 : a < a + 1 := by omega
            have Zg : Hid (FlS w (w4.alloc (.cells #[.int .i64 (a + 1), .int .i64 b] 31)) [.int .i64 ix, .int .i64 nx, .slice a2 n2 c2, .slice a3 n3 c3, .slice a4 N.length c4, .slice a5 A.length c5, .slice a6 n6 c6, .slice a7 n7 c7, .slice a8 n8 c8] [.int .i64 x.id, .int .i64 x.jb, .int .i64 x.ve, .int .i64 x.gr, .int .i64 x.ix, .int .i64 x.nd, .int .i64 x.ep, .int .i64 x.c, .int .i64 x.m, .bool x.sp, .int .i64 x.st] a b) := hidOf (Zw4.out.grow (below1 w4 _))
            have HBg : Hid (Below w3.heap.size w3 (w4.alloc (.cells #[.int .i64 (a + 1), .int .i64 b] 31))) := hidOf (HBw4.out.alloc HBw4.out.size _)
            have hPg : Pr (w4.alloc (.cells #[.int .i64 (a + 1), .int .i64 b] 31)) w4.heap.size (a + 1) b := pr_new w4 (a + 1) b
            have HPg := hidOf hPg
            go_upto_region 17 with (fail)
            generalize w4.alloc (.cells #[.int .i64 (a + 1), .int .i64 b] 31) = Wg at *
            generalize w4.heap.size = g at *
            clear s0 s1 s2 s3 s4 s5 s6 s7 s8 a0 a1 lw la
            have lw : w.heap.size < Wg.heap.size := Nat.lt_of_lt_of_le (by omega) (Nat.le_of_lt Zg.out.l)
            have la : w.heap.size + 1 + 1 + 1 < Wg.heap.size := Zg.out.l
            have s0 : Wg.cell? ⟨w.heap.size, 0, none⟩ = some (.int .i64 ix) := Zg.out.s 0 _ rfl
            have s1 : Wg.cell? ⟨w.heap.size, 1, none⟩ = some (.int .i64 nx) := Zg.out.s 1 _ rfl
            have s2 : Wg.cell? ⟨w.heap.size, 2, none⟩ = some (.slice a2 n2 c2) := Zg.out.s 2 _ rfl
            have s3 : Wg.cell? ⟨w.heap.size, 3, none⟩ = some (.slice a3 n3 c3) := Zg.out.s 3 _ rfl
            have s4 : Wg.cell? ⟨w.heap.size, 4, none⟩ = some (.slice a4 N.length c4) := Zg.out.s 4 _ rfl
            have s5 : Wg.cell? ⟨w.heap.size, 5, none⟩ = some (.slice a5 A.length c5) := Zg.out.s 5 _ rfl
            have s6 : Wg.cell? ⟨w.heap.size, 6, none⟩ = some (.slice a6 n6 c6) := Zg.out.s 6 _ rfl
            have s7 : Wg.cell? ⟨w.heap.size, 7, none⟩ = some (.slice a7 n7 c7) := Zg.out.s 7 _ rfl
            have s8 : Wg.cell? ⟨w.heap.size, 8, none⟩ = some (.slice a8 n8 c8) := Zg.out.s 8 _ rfl
            have a0 : Wg.cell? ⟨w.heap.size + 1 + 1 + 1, 0, none⟩ = some (.int .i64 a) := Zg.out.p.c0
            have a1 : Wg.cell? ⟨w.heap.size + 1 + 1 + 1, 1, none⟩ = some (.int .i64 b) := Zg.out.p.c1
            have p0 : Wg.cell? ⟨g, 0, none⟩ = _ := hPg.c0
            have p1 : Wg.cell? ⟨g, 1, none⟩ = _ := hPg.c1
            have lg : g < Wg.heap.size := hPg.lt
            clear hPg
            cases m3 with
            | false =>
              clear hle2
              go_wp2_with (go_at_call 8; refine (HG1.out _ HBg.out).mono ?_; rintro e w7 ⟨rfl, hb⟩; have Zw7 := hidOf (Zg.out.grow hb); have HBw7 : Hid (Below w3.heap.size w3 w7) := hidOf (HBg.out.trans (hb.mono HBg.out.size)); clear HG1; have q := HPg.out.grow hb; clear p0 p1 lg; have p0 : w7.cell? ⟨g, 0, none⟩ = _ := q.c0; have p1 : w7.cell? ⟨g, 1, none⟩ = _ := q.c1; have lg : g < w7.heap.size := q.lt; clear q; clear hb; clear s0 s1 s2 s3 s4 s5 s6 s7 s8 a0 a1 lw la; have lw : w.heap.size < w7.heap.size := Nat.lt_of_lt_of_le (by omega) (Nat.le_of_lt Zw7.out.l); have la : w.heap.size + 1 + 1 + 1 < w7.heap.size := Zw7.out.l; have s0 : w7.cell? ⟨w.heap.size, 0, none⟩ = some (.int .i64 ix) := Zw7.out.s 0 _ rfl; have s1 : w7.cell? ⟨w.heap.size, 1, none⟩ = some (.int .i64 nx) := Zw7.out.s 1 _ rfl; have s2 : w7.cell? ⟨w.heap.size, 2, none⟩ = some (.slice a2 n2 c2) := Zw7.out.s 2 _ rfl; have s3 : w7.cell? ⟨w.heap.size, 3, none⟩ = some (.slice a3 n3 c3) := Zw7.out.s 3 _ rfl; have s4 : w7.cell? ⟨w.heap.size, 4, none⟩ = some (.slice a4 N.length c4) := Zw7.out.s 4 _ rfl; have s5 : w7.cell? ⟨w.heap.size, 5, none⟩ = some (.slice a5 A.length c5) := Zw7.out.s 5 _ rfl; have s6 : w7.cell? ⟨w.heap.size, 6, none⟩ = some (.slice a6 n6 c6) := Zw7.out.s 6 _ rfl; have s7 : w7.cell? ⟨w.heap.size, 7, none⟩ = some (.slice a7 n7 c7) := Zw7.out.s 7 _ rfl; have s8 : w7.cell? ⟨w.heap.size, 8, none⟩ = some (.slice a8 n8 c8) := Zw7.out.s 8 _ rfl; have a0 : w7.cell? ⟨w.heap.size + 1 + 1 + 1, 0, none⟩ = some (.int .i64 a) := Zw7.out.p.c0; have a1 : w7.cell? ⟨w.heap.size + 1 + 1 + 1, 1, none⟩ = some (.int .i64 b) := Zw7.out.p.c1)
              go_roundw
              case rel => exact ⟨z + 1, by omega, by omega, by go_num, Zw7, HBw7⟩
              case measure => simp [intOf]; omega
            | true =>
              have hm2 : m2 = true := hle2 hP1 rfl
              subst hm2
              clear hle2
              go_wp2_with (first
                | (go_at_call 8; refine (HG1.out _ HBg.out).mono ?_; rintro e w7 ⟨rfl, hb⟩; have Zw7 := hidOf (Zg.out.grow hb); have HBw7 : Hid (Below w3.heap.size w3 w7) := hidOf (HBg.out.trans (hb.mono HBg.out.size)); clear HG1; have q := HPg.out.grow hb; clear p0 p1 lg; have p0 : w7.cell? ⟨g, 0, none⟩ = _ := q.c0; have p1 : w7.cell? ⟨g, 1, none⟩ = _ := q.c1; have lg : g < w7.heap.size := q.lt; clear q; clear hb; clear s0 s1 s2 s3 s4 s5 s6 s7 s8 a0 a1 lw la; have lw : w.heap.size < w7.heap.size := Nat.lt_of_lt_of_le (by omega) (Nat.le_of_lt Zw7.out.l); have la : w.heap.size + 1 + 1 + 1 < w7.heap.size := Zw7.out.l; have s0 : w7.cell? ⟨w.heap.size, 0, none⟩ = some (.int .i64 ix) := Zw7.out.s 0 _ rfl; have s1 : w7.cell? ⟨w.heap.size, 1, none⟩ = some (.int .i64 nx) := Zw7.out.s 1 _ rfl; have s2 : w7.cell? ⟨w.heap.size, 2, none⟩ = some (.slice a2 n2 c2) := Zw7.out.s 2 _ rfl; have s3 : w7.cell? ⟨w.heap.size, 3, none⟩ = some (.slice a3 n3 c3) := Zw7.out.s 3 _ rfl; have s4 : w7.cell? ⟨w.heap.size, 4, none⟩ = some (.slice a4 N.length c4) := Zw7.out.s 4 _ rfl; have s5 : w7.cell? ⟨w.heap.size, 5, none⟩ = some (.slice a5 A.length c5) := Zw7.out.s 5 _ rfl; have s6 : w7.cell? ⟨w.heap.size, 6, none⟩ = some (.slice a6 n6 c6) := Zw7.out.s 6 _ rfl; have s7 : w7.cell? ⟨w.heap.size, 7, none⟩ = some (.slice a7 n7 c7) := Zw7.out.s 7 _ rfl; have s8 : w7.cell? ⟨w.heap.size, 8, none⟩ = some (.slice a8 n8 c8) := Zw7.out.s 8 _ rfl; have a0 : w7.cell? ⟨w.heap.size + 1 + 1 + 1, 0, none⟩ = some (.int .i64 a) := Zw7.out.p.c0; have a1 : w7.cell? ⟨w.heap.size + 1 + 1 + 1, 1, none⟩ = some (.int .i64 b) := Zw7.out.p.c1)
                | (go_at_call 8; refine (HY3.out _ HBw7.out).mono ?_; rintro e w8 ⟨rfl, hb⟩; have Zw8 := hidOf (Zw7.out.grow hb); have HBw8 : Hid (Below w3.heap.size w3 w8) := hidOf (HBw7.out.trans (hb.mono HBw7.out.size)); clear HY3; clear hb; clear s0 s1 s2 s3 s4 s5 s6 s7 s8 a0 a1 lw la; have lw : w.heap.size < w8.heap.size := Nat.lt_of_lt_of_le (by omega) (Nat.le_of_lt Zw8.out.l); have la : w.heap.size + 1 + 1 + 1 < w8.heap.size := Zw8.out.l; have s0 : w8.cell? ⟨w.heap.size, 0, none⟩ = some (.int .i64 ix) := Zw8.out.s 0 _ rfl; have s1 : w8.cell? ⟨w.heap.size, 1, none⟩ = some (.int .i64 nx) := Zw8.out.s 1 _ rfl; have s2 : w8.cell? ⟨w.heap.size, 2, none⟩ = some (.slice a2 n2 c2) := Zw8.out.s 2 _ rfl; have s3 : w8.cell? ⟨w.heap.size, 3, none⟩ = some (.slice a3 n3 c3) := Zw8.out.s 3 _ rfl; have s4 : w8.cell? ⟨w.heap.size, 4, none⟩ = some (.slice a4 N.length c4) := Zw8.out.s 4 _ rfl; have s5 : w8.cell? ⟨w.heap.size, 5, none⟩ = some (.slice a5 A.length c5) := Zw8.out.s 5 _ rfl; have s6 : w8.cell? ⟨w.heap.size, 6, none⟩ = some (.slice a6 n6 c6) := Zw8.out.s 6 _ rfl; have s7 : w8.cell? ⟨w.heap.size, 7, none⟩ = some (.slice a7 n7 c7) := Zw8.out.s 7 _ rfl; have s8 : w8.cell? ⟨w.heap.size, 8, none⟩ = some (.slice a8 n8 c8) := Zw8.out.s 8 _ rfl; have a0 : w8.cell? ⟨w.heap.size + 1 + 1 + 1, 0, none⟩ = some (.int .i64 a) := Zw8.out.p.c0; have a1 : w8.cell? ⟨w.heap.size + 1 + 1 + 1, 1, none⟩ = some (.int .i64 b) := Zw8.out.p.c1))
              go_roundw
              case rel => exact ⟨z + 1, by omega, by omega, by go_num, Zw8, HBw8⟩
              case measure => simp [intOf]; omega
          · have HNP := hidOf hP
            have hnl : ¬ a < a := by omega
            have Zg : Hid (FlS w (w4.alloc (.cells #[.int .i64 a, .int .i64 b] 31)) [.int .i64 ix, .int .i64 nx, .slice a2 n2 c2, .slice a3 n3 c3, .slice a4 N.length c4, .slice a5 A.length c5, .slice a6 n6 c6, .slice a7 n7 c7, .slice a8 n8 c8] [.int .i64 x.id, .int .i64 x.jb, .int .i64 x.ve, .int .i64 x.gr, .int .i64 x.ix, .int .i64 x.nd, .int .i64 x.ep, .int .i64 x.c, .int .i64 x.m, .bool x.sp, .int .i64 x.st] a b) := hidOf (Zw4.out.grow (below1 w4 _))
            have HBg : Hid (Below w3.heap.size w3 (w4.alloc (.cells #[.int .i64 a, .int .i64 b] 31))) := hidOf (HBw4.out.alloc HBw4.out.size _)
            have HPg := hidOf (pr_new w4 a b)
            by_cases h6 : a < 1152921504606846976
            · have h7 : ¬ 0 ≤ a := fun h => HNP.out ⟨h, h6⟩
              have h8 : a < 0 := by omega
              clear hP
              go_upto_region 17 with (fail)
              generalize w4.alloc (.cells #[.int .i64 a, .int .i64 b] 31) = Wg at *
              generalize w4.heap.size = g at *
              clear s0 s1 s2 s3 s4 s5 s6 s7 s8 a0 a1 lw la
              have lw : w.heap.size < Wg.heap.size := Nat.lt_of_lt_of_le (by omega) (Nat.le_of_lt Zg.out.l)
              have la : w.heap.size + 1 + 1 + 1 < Wg.heap.size := Zg.out.l
              have s0 : Wg.cell? ⟨w.heap.size, 0, none⟩ = some (.int .i64 ix) := Zg.out.s 0 _ rfl
              have s1 : Wg.cell? ⟨w.heap.size, 1, none⟩ = some (.int .i64 nx) := Zg.out.s 1 _ rfl
              have s2 : Wg.cell? ⟨w.heap.size, 2, none⟩ = some (.slice a2 n2 c2) := Zg.out.s 2 _ rfl
              have s3 : Wg.cell? ⟨w.heap.size, 3, none⟩ = some (.slice a3 n3 c3) := Zg.out.s 3 _ rfl
              have s4 : Wg.cell? ⟨w.heap.size, 4, none⟩ = some (.slice a4 N.length c4) := Zg.out.s 4 _ rfl
              have s5 : Wg.cell? ⟨w.heap.size, 5, none⟩ = some (.slice a5 A.length c5) := Zg.out.s 5 _ rfl
              have s6 : Wg.cell? ⟨w.heap.size, 6, none⟩ = some (.slice a6 n6 c6) := Zg.out.s 6 _ rfl
              have s7 : Wg.cell? ⟨w.heap.size, 7, none⟩ = some (.slice a7 n7 c7) := Zg.out.s 7 _ rfl
              have s8 : Wg.cell? ⟨w.heap.size, 8, none⟩ = some (.slice a8 n8 c8) := Zg.out.s 8 _ rfl
              have a0 : Wg.cell? ⟨w.heap.size + 1 + 1 + 1, 0, none⟩ = some (.int .i64 a) := Zg.out.p.c0
              have a1 : Wg.cell? ⟨w.heap.size + 1 + 1 + 1, 1, none⟩ = some (.int .i64 b) := Zg.out.p.c1
              have p0 : Wg.cell? ⟨g, 0, none⟩ = _ := HPg.out.c0
              have p1 : Wg.cell? ⟨g, 1, none⟩ = _ := HPg.out.c1
              have lg : g < Wg.heap.size := HPg.out.lt
              cases m2
              · go_wp2_with (go_at_call 8; refine (HY3.out _ HBg.out).mono ?_; rintro e w7 ⟨rfl, hb⟩; have Zw7 := hidOf (Zg.out.grow hb); have HBw7 : Hid (Below w3.heap.size w3 w7) := hidOf (HBg.out.trans (hb.mono HBg.out.size)); clear HY3; have q := HPg.out.grow hb; clear p0 p1 lg; have p0 : w7.cell? ⟨g, 0, none⟩ = _ := q.c0; have p1 : w7.cell? ⟨g, 1, none⟩ = _ := q.c1; have lg : g < w7.heap.size := q.lt; clear q; clear hb; clear s0 s1 s2 s3 s4 s5 s6 s7 s8 a0 a1 lw la; have lw : w.heap.size < w7.heap.size := Nat.lt_of_lt_of_le (by omega) (Nat.le_of_lt Zw7.out.l); have la : w.heap.size + 1 + 1 + 1 < w7.heap.size := Zw7.out.l; have s0 : w7.cell? ⟨w.heap.size, 0, none⟩ = some (.int .i64 ix) := Zw7.out.s 0 _ rfl; have s1 : w7.cell? ⟨w.heap.size, 1, none⟩ = some (.int .i64 nx) := Zw7.out.s 1 _ rfl; have s2 : w7.cell? ⟨w.heap.size, 2, none⟩ = some (.slice a2 n2 c2) := Zw7.out.s 2 _ rfl; have s3 : w7.cell? ⟨w.heap.size, 3, none⟩ = some (.slice a3 n3 c3) := Zw7.out.s 3 _ rfl; have s4 : w7.cell? ⟨w.heap.size, 4, none⟩ = some (.slice a4 N.length c4) := Zw7.out.s 4 _ rfl; have s5 : w7.cell? ⟨w.heap.size, 5, none⟩ = some (.slice a5 A.length c5) := Zw7.out.s 5 _ rfl; have s6 : w7.cell? ⟨w.heap.size, 6, none⟩ = some (.slice a6 n6 c6) := Zw7.out.s 6 _ rfl; have s7 : w7.cell? ⟨w.heap.size, 7, none⟩ = some (.slice a7 n7 c7) := Zw7.out.s 7 _ rfl; have s8 : w7.cell? ⟨w.heap.size, 8, none⟩ = some (.slice a8 n8 c8) := Zw7.out.s 8 _ rfl; have a0 : w7.cell? ⟨w.heap.size + 1 + 1 + 1, 0, none⟩ = some (.int .i64 a) := Zw7.out.p.c0; have a1 : w7.cell? ⟨w.heap.size + 1 + 1 + 1, 1, none⟩ = some (.int .i64 b) := Zw7.out.p.c1)
                go_roundw
                case rel => exact ⟨z + 1, by omega, by omega, by go_num, Zw7, HBw7⟩
                case measure => simp [intOf]; omega
              · go_wp2_with (go_at_call 8; refine (HY3.out _ HBg.out).mono ?_; rintro e w7 ⟨rfl, hb⟩; have Zw7 := hidOf (Zg.out.grow hb); have HBw7 : Hid (Below w3.heap.size w3 w7) := hidOf (HBg.out.trans (hb.mono HBg.out.size)); clear HY3; have q := HPg.out.grow hb; clear p0 p1 lg; have p0 : w7.cell? ⟨g, 0, none⟩ = _ := q.c0; have p1 : w7.cell? ⟨g, 1, none⟩ = _ := q.c1; have lg : g < w7.heap.size := q.lt; clear q; clear hb; clear s0 s1 s2 s3 s4 s5 s6 s7 s8 a0 a1 lw la; have lw : w.heap.size < w7.heap.size := Nat.lt_of_lt_of_le (by omega) (Nat.le_of_lt Zw7.out.l); have la : w.heap.size + 1 + 1 + 1 < w7.heap.size := Zw7.out.l; have s0 : w7.cell? ⟨w.heap.size, 0, none⟩ = some (.int .i64 ix) := Zw7.out.s 0 _ rfl; have s1 : w7.cell? ⟨w.heap.size, 1, none⟩ = some (.int .i64 nx) := Zw7.out.s 1 _ rfl; have s2 : w7.cell? ⟨w.heap.size, 2, none⟩ = some (.slice a2 n2 c2) := Zw7.out.s 2 _ rfl; have s3 : w7.cell? ⟨w.heap.size, 3, none⟩ = some (.slice a3 n3 c3) := Zw7.out.s 3 _ rfl; have s4 : w7.cell? ⟨w.heap.size, 4, none⟩ = some (.slice a4 N.length c4) := Zw7.out.s 4 _ rfl; have s5 : w7.cell? ⟨w.heap.size, 5, none⟩ = some (.slice a5 A.length c5) := Zw7.out.s 5 _ rfl; have s6 : w7.cell? ⟨w.heap.size, 6, none⟩ = some (.slice a6 n6 c6) := Zw7.out.s 6 _ rfl; have s7 : w7.cell? ⟨w.heap.size, 7, none⟩ = some (.slice a7 n7 c7) := Zw7.out.s 7 _ rfl; have s8 : w7.cell? ⟨w.heap.size, 8, none⟩ = some (.slice a8 n8 c8) := Zw7.out.s 8 _ rfl; have a0 : w7.cell? ⟨w.heap.size + 1 + 1 + 1, 0, none⟩ = some (.int .i64 a) := Zw7.out.p.c0; have a1 : w7.cell? ⟨w.heap.size + 1 + 1 + 1, 1, none⟩ = some (.int .i64 b) := Zw7.out.p.c1)
                go_roundw
                case rel => exact ⟨z + 1, by omega, by omega, by go_num, Zw7, HBw7⟩
                case measure => simp [intOf]; omega
            · have h7 : 1152921504606846976 ≤ a := by omega
              clear hP
              go_upto_region 17 with (fail)
              generalize w4.alloc (.cells #[.int .i64 a, .int .i64 b] 31) = Wg at *
              generalize w4.heap.size = g at *
              clear s0 s1 s2 s3 s4 s5 s6 s7 s8 a0 a1 lw la
              have lw : w.heap.size < Wg.heap.size := Nat.lt_of_lt_of_le (by omega) (Nat.le_of_lt Zg.out.l)
              have la : w.heap.size + 1 + 1 + 1 < Wg.heap.size := Zg.out.l
              have s0 : Wg.cell? ⟨w.heap.size, 0, none⟩ = some (.int .i64 ix) := Zg.out.s 0 _ rfl
              have s1 : Wg.cell? ⟨w.heap.size, 1, none⟩ = some (.int .i64 nx) := Zg.out.s 1 _ rfl
              have s2 : Wg.cell? ⟨w.heap.size, 2, none⟩ = some (.slice a2 n2 c2) := Zg.out.s 2 _ rfl
              have s3 : Wg.cell? ⟨w.heap.size, 3, none⟩ = some (.slice a3 n3 c3) := Zg.out.s 3 _ rfl
              have s4 : Wg.cell? ⟨w.heap.size, 4, none⟩ = some (.slice a4 N.length c4) := Zg.out.s 4 _ rfl
              have s5 : Wg.cell? ⟨w.heap.size, 5, none⟩ = some (.slice a5 A.length c5) := Zg.out.s 5 _ rfl
              have s6 : Wg.cell? ⟨w.heap.size, 6, none⟩ = some (.slice a6 n6 c6) := Zg.out.s 6 _ rfl
              have s7 : Wg.cell? ⟨w.heap.size, 7, none⟩ = some (.slice a7 n7 c7) := Zg.out.s 7 _ rfl
              have s8 : Wg.cell? ⟨w.heap.size, 8, none⟩ = some (.slice a8 n8 c8) := Zg.out.s 8 _ rfl
              have a0 : Wg.cell? ⟨w.heap.size + 1 + 1 + 1, 0, none⟩ = some (.int .i64 a) := Zg.out.p.c0
              have a1 : Wg.cell? ⟨w.heap.size + 1 + 1 + 1, 1, none⟩ = some (.int .i64 b) := Zg.out.p.c1
              have p0 : Wg.cell? ⟨g, 0, none⟩ = _ := HPg.out.c0
              have p1 : Wg.cell? ⟨g, 1, none⟩ = _ := HPg.out.c1
              have lg : g < Wg.heap.size := HPg.out.lt
              cases m2
              · go_wp2_with (go_at_call 8; refine (HY3.out _ HBg.out).mono ?_; rintro e w7 ⟨rfl, hb⟩; have Zw7 := hidOf (Zg.out.grow hb); have HBw7 : Hid (Below w3.heap.size w3 w7) := hidOf (HBg.out.trans (hb.mono HBg.out.size)); clear HY3; have q := HPg.out.grow hb; clear p0 p1 lg; have p0 : w7.cell? ⟨g, 0, none⟩ = _ := q.c0; have p1 : w7.cell? ⟨g, 1, none⟩ = _ := q.c1; have lg : g < w7.heap.size := q.lt; clear q; clear hb; clear s0 s1 s2 s3 s4 s5 s6 s7 s8 a0 a1 lw la; have lw : w.heap.size < w7.heap.size := Nat.lt_of_lt_of_le (by omega) (Nat.le_of_lt Zw7.out.l); have la : w.heap.size + 1 + 1 + 1 < w7.heap.size := Zw7.out.l; have s0 : w7.cell? ⟨w.heap.size, 0, none⟩ = some (.int .i64 ix) := Zw7.out.s 0 _ rfl; have s1 : w7.cell? ⟨w.heap.size, 1, none⟩ = some (.int .i64 nx) := Zw7.out.s 1 _ rfl; have s2 : w7.cell? ⟨w.heap.size, 2, none⟩ = some (.slice a2 n2 c2) := Zw7.out.s 2 _ rfl; have s3 : w7.cell? ⟨w.heap.size, 3, none⟩ = some (.slice a3 n3 c3) := Zw7.out.s 3 _ rfl; have s4 : w7.cell? ⟨w.heap.size, 4, none⟩ = some (.slice a4 N.length c4) := Zw7.out.s 4 _ rfl; have s5 : w7.cell? ⟨w.heap.size, 5, none⟩ = some (.slice a5 A.length c5) := Zw7.out.s 5 _ rfl; have s6 : w7.cell? ⟨w.heap.size, 6, none⟩ = some (.slice a6 n6 c6) := Zw7.out.s 6 _ rfl; have s7 : w7.cell? ⟨w.heap.size, 7, none⟩ = some (.slice a7 n7 c7) := Zw7.out.s 7 _ rfl; have s8 : w7.cell? ⟨w.heap.size, 8, none⟩ = some (.slice a8 n8 c8) := Zw7.out.s 8 _ rfl; have a0 : w7.cell? ⟨w.heap.size + 1 + 1 + 1, 0, none⟩ = some (.int .i64 a) := Zw7.out.p.c0; have a1 : w7.cell? ⟨w.heap.size + 1 + 1 + 1, 1, none⟩ = some (.int .i64 b) := Zw7.out.p.c1)
                go_roundw
                case rel => exact ⟨z + 1, by omega, by omega, by go_num, Zw7, HBw7⟩
                case measure => simp [intOf]; omega
              · go_wp2_with (go_at_call 8; refine (HY3.out _ HBg.out).mono ?_; rintro e w7 ⟨rfl, hb⟩; have Zw7 := hidOf (Zg.out.grow hb); have HBw7 : Hid (Below w3.heap.size w3 w7) := hidOf (HBg.out.trans (hb.mono HBg.out.size)); clear HY3; have q := HPg.out.grow hb; clear p0 p1 lg; have p0 : w7.cell? ⟨g, 0, none⟩ = _ := q.c0; have p1 : w7.cell? ⟨g, 1, none⟩ = _ := q.c1; have lg : g < w7.heap.size := q.lt; clear q; clear hb; clear s0 s1 s2 s3 s4 s5 s6 s7 s8 a0 a1 lw la; have lw : w.heap.size < w7.heap.size := Nat.lt_of_lt_of_le (by omega) (Nat.le_of_lt Zw7.out.l); have la : w.heap.size + 1 + 1 + 1 < w7.heap.size := Zw7.out.l; have s0 : w7.cell? ⟨w.heap.size, 0, none⟩ = some (.int .i64 ix) := Zw7.out.s 0 _ rfl; have s1 : w7.cell? ⟨w.heap.size, 1, none⟩ = some (.int .i64 nx) := Zw7.out.s 1 _ rfl; have s2 : w7.cell? ⟨w.heap.size, 2, none⟩ = some (.slice a2 n2 c2) := Zw7.out.s 2 _ rfl; have s3 : w7.cell? ⟨w.heap.size, 3, none⟩ = some (.slice a3 n3 c3) := Zw7.out.s 3 _ rfl; have s4 : w7.cell? ⟨w.heap.size, 4, none⟩ = some (.slice a4 N.length c4) := Zw7.out.s 4 _ rfl; have s5 : w7.cell? ⟨w.heap.size, 5, none⟩ = some (.slice a5 A.length c5) := Zw7.out.s 5 _ rfl; have s6 : w7.cell? ⟨w.heap.size, 6, none⟩ = some (.slice a6 n6 c6) := Zw7.out.s 6 _ rfl; have s7 : w7.cell? ⟨w.heap.size, 7, none⟩ = some (.slice a7 n7 c7) := Zw7.out.s 7 _ rfl; have s8 : w7.cell? ⟨w.heap.size, 8, none⟩ = some (.slice a8 n8 c8) := Zw7.out.s 8 _ rfl; have a0 : w7.cell? ⟨w.heap.size + 1 + 1 + 1, 0, none⟩ = some (.int .i64 a) := Zw7.out.p.c0; have a1 : w7.cell? ⟨w.heap.size + 1 + 1 + 1, 1, none⟩ = some (.int .i64 b) := Zw7.out.p.c1)
                go_roundw
                case rel => exact ⟨z + 1, by omega, by omega, by go_num, Zw7, HBw7⟩
                case measure => simp [intOf]; omega
        | true =>
          have hm2 : m2 = true := hmo rfl
          clear hmo
          subst hm2
          go_upto_region 14 with (first
            | (go_at_call 8; refine (HX1.out _ HB.out).mono ?_; rintro e w6 ⟨rfl, hb⟩; have Zw6 := hidOf (Z.out.grow hb); have HBw6 : Hid (Below w3.heap.size w3 w6) := hidOf (HB.out.trans (hb.mono HB.out.size)); clear HX1; clear hb; clear s0 s1 s2 s3 s4 s5 s6 s7 s8 a0 a1 lw la; have lw : w.heap.size < w6.heap.size := Nat.lt_of_lt_of_le (by omega) (Nat.le_of_lt Zw6.out.l); have la : w.heap.size + 1 + 1 + 1 < w6.heap.size := Zw6.out.l; have s0 : w6.cell? ⟨w.heap.size, 0, none⟩ = some (.int .i64 ix) := Zw6.out.s 0 _ rfl; have s1 : w6.cell? ⟨w.heap.size, 1, none⟩ = some (.int .i64 nx) := Zw6.out.s 1 _ rfl; have s2 : w6.cell? ⟨w.heap.size, 2, none⟩ = some (.slice a2 n2 c2) := Zw6.out.s 2 _ rfl; have s3 : w6.cell? ⟨w.heap.size, 3, none⟩ = some (.slice a3 n3 c3) := Zw6.out.s 3 _ rfl; have s4 : w6.cell? ⟨w.heap.size, 4, none⟩ = some (.slice a4 N.length c4) := Zw6.out.s 4 _ rfl; have s5 : w6.cell? ⟨w.heap.size, 5, none⟩ = some (.slice a5 A.length c5) := Zw6.out.s 5 _ rfl; have s6 : w6.cell? ⟨w.heap.size, 6, none⟩ = some (.slice a6 n6 c6) := Zw6.out.s 6 _ rfl; have s7 : w6.cell? ⟨w.heap.size, 7, none⟩ = some (.slice a7 n7 c7) := Zw6.out.s 7 _ rfl; have s8 : w6.cell? ⟨w.heap.size, 8, none⟩ = some (.slice a8 n8 c8) := Zw6.out.s 8 _ rfl; have a0 : w6.cell? ⟨w.heap.size + 1 + 1 + 1, 0, none⟩ = some (.int .i64 a) := Zw6.out.p.c0; have a1 : w6.cell? ⟨w.heap.size + 1 + 1 + 1, 1, none⟩ = some (.int .i64 b) := Zw6.out.p.c1)
            | (go_at_call 8; refine (HY1.out _ HBw6.out).mono ?_; rintro e w4 ⟨rfl, hb⟩; have Zw4 := hidOf (Zw6.out.grow hb); have HBw4 : Hid (Below w3.heap.size w3 w4) := hidOf (HBw6.out.trans (hb.mono HBw6.out.size)); clear HY1; clear hb; clear s0 s1 s2 s3 s4 s5 s6 s7 s8 a0 a1 lw la; have lw : w.heap.size < w4.heap.size := Nat.lt_of_lt_of_le (by omega) (Nat.le_of_lt Zw4.out.l); have la : w.heap.size + 1 + 1 + 1 < w4.heap.size := Zw4.out.l; have s0 : w4.cell? ⟨w.heap.size, 0, none⟩ = some (.int .i64 ix) := Zw4.out.s 0 _ rfl; have s1 : w4.cell? ⟨w.heap.size, 1, none⟩ = some (.int .i64 nx) := Zw4.out.s 1 _ rfl; have s2 : w4.cell? ⟨w.heap.size, 2, none⟩ = some (.slice a2 n2 c2) := Zw4.out.s 2 _ rfl; have s3 : w4.cell? ⟨w.heap.size, 3, none⟩ = some (.slice a3 n3 c3) := Zw4.out.s 3 _ rfl; have s4 : w4.cell? ⟨w.heap.size, 4, none⟩ = some (.slice a4 N.length c4) := Zw4.out.s 4 _ rfl; have s5 : w4.cell? ⟨w.heap.size, 5, none⟩ = some (.slice a5 A.length c5) := Zw4.out.s 5 _ rfl; have s6 : w4.cell? ⟨w.heap.size, 6, none⟩ = some (.slice a6 n6 c6) := Zw4.out.s 6 _ rfl; have s7 : w4.cell? ⟨w.heap.size, 7, none⟩ = some (.slice a7 n7 c7) := Zw4.out.s 7 _ rfl; have s8 : w4.cell? ⟨w.heap.size, 8, none⟩ = some (.slice a8 n8 c8) := Zw4.out.s 8 _ rfl; have a0 : w4.cell? ⟨w.heap.size + 1 + 1 + 1, 0, none⟩ = some (.int .i64 a) := Zw4.out.p.c0; have a1 : w4.cell? ⟨w.heap.size + 1 + 1 + 1, 1, none⟩ = some (.int .i64 b) := Zw4.out.p.c1))
          by_cases hP : 0 ≤ a ∧ a < 1152921504606846976
          · obtain ⟨hP1, hP2⟩ := hP
            have hP3 : a < a + 1 := by omega
            have Zg : Hid (FlS w (w4.alloc (.cells #[.int .i64 (a + 1), .int .i64 b] 31)) [.int .i64 ix, .int .i64 nx, .slice a2 n2 c2, .slice a3 n3 c3, .slice a4 N.length c4, .slice a5 A.length c5, .slice a6 n6 c6, .slice a7 n7 c7, .slice a8 n8 c8] [.int .i64 x.id, .int .i64 x.jb, .int .i64 x.ve, .int .i64 x.gr, .int .i64 x.ix, .int .i64 x.nd, .int .i64 x.ep, .int .i64 x.c, .int .i64 x.m, .bool x.sp, .int .i64 x.st] a b) := hidOf (Zw4.out.grow (below1 w4 _))
            have HBg : Hid (Below w3.heap.size w3 (w4.alloc (.cells #[.int .i64 (a + 1), .int .i64 b] 31))) := hidOf (HBw4.out.alloc HBw4.out.size _)
            have hPg : Pr (w4.alloc (.cells #[.int .i64 (a + 1), .int .i64 b] 31)) w4.heap.size (a + 1) b := pr_new w4 (a + 1) b
            have HPg := hidOf hPg
            go_upto_region 17 with (fail)
            generalize w4.alloc (.cells #[.int .i64 (a + 1), .int .i64 b] 31) = Wg at *
            generalize w4.heap.size = g at *
            clear s0 s1 s2 s3 s4 s5 s6 s7 s8 a0 a1 lw la
            have lw : w.heap.size < Wg.heap.size := Nat.lt_of_lt_of_le (by omega) (Nat.le_of_lt Zg.out.l)
            have la : w.heap.size + 1 + 1 + 1 < Wg.heap.size := Zg.out.l
            have s0 : Wg.cell? ⟨w.heap.size, 0, none⟩ = some (.int .i64 ix) := Zg.out.s 0 _ rfl
            have s1 : Wg.cell? ⟨w.heap.size, 1, none⟩ = some (.int .i64 nx) := Zg.out.s 1 _ rfl
            have s2 : Wg.cell? ⟨w.heap.size, 2, none⟩ = some (.slice a2 n2 c2) := Zg.out.s 2 _ rfl
            have s3 : Wg.cell? ⟨w.heap.size, 3, none⟩ = some (.slice a3 n3 c3) := Zg.out.s 3 _ rfl
            have s4 : Wg.cell? ⟨w.heap.size, 4, none⟩ = some (.slice a4 N.length c4) := Zg.out.s 4 _ rfl
            have s5 : Wg.cell? ⟨w.heap.size, 5, none⟩ = some (.slice a5 A.length c5) := Zg.out.s 5 _ rfl
            have s6 : Wg.cell? ⟨w.heap.size, 6, none⟩ = some (.slice a6 n6 c6) := Zg.out.s 6 _ rfl
            have s7 : Wg.cell? ⟨w.heap.size, 7, none⟩ = some (.slice a7 n7 c7) := Zg.out.s 7 _ rfl
            have s8 : Wg.cell? ⟨w.heap.size, 8, none⟩ = some (.slice a8 n8 c8) := Zg.out.s 8 _ rfl
            have a0 : Wg.cell? ⟨w.heap.size + 1 + 1 + 1, 0, none⟩ = some (.int .i64 a) := Zg.out.p.c0
            have a1 : Wg.cell? ⟨w.heap.size + 1 + 1 + 1, 1, none⟩ = some (.int .i64 b) := Zg.out.p.c1
            have p0 : Wg.cell? ⟨g, 0, none⟩ = _ := hPg.c0
            have p1 : Wg.cell? ⟨g, 1, none⟩ = _ := hPg.c1
            have lg : g < Wg.heap.size := hPg.lt
            clear hPg
            cases m3 with
            | false =>
              clear hle2
              go_wp2_with (go_at_call 8; refine (HG1.out _ HBg.out).mono ?_; rintro e w7 ⟨rfl, hb⟩; have Zw7 := hidOf (Zg.out.grow hb); have HBw7 : Hid (Below w3.heap.size w3 w7) := hidOf (HBg.out.trans (hb.mono HBg.out.size)); clear HG1; have q := HPg.out.grow hb; clear p0 p1 lg; have p0 : w7.cell? ⟨g, 0, none⟩ = _ := q.c0; have p1 : w7.cell? ⟨g, 1, none⟩ = _ := q.c1; have lg : g < w7.heap.size := q.lt; clear q; clear hb; clear s0 s1 s2 s3 s4 s5 s6 s7 s8 a0 a1 lw la; have lw : w.heap.size < w7.heap.size := Nat.lt_of_lt_of_le (by omega) (Nat.le_of_lt Zw7.out.l); have la : w.heap.size + 1 + 1 + 1 < w7.heap.size := Zw7.out.l; have s0 : w7.cell? ⟨w.heap.size, 0, none⟩ = some (.int .i64 ix) := Zw7.out.s 0 _ rfl; have s1 : w7.cell? ⟨w.heap.size, 1, none⟩ = some (.int .i64 nx) := Zw7.out.s 1 _ rfl; have s2 : w7.cell? ⟨w.heap.size, 2, none⟩ = some (.slice a2 n2 c2) := Zw7.out.s 2 _ rfl; have s3 : w7.cell? ⟨w.heap.size, 3, none⟩ = some (.slice a3 n3 c3) := Zw7.out.s 3 _ rfl; have s4 : w7.cell? ⟨w.heap.size, 4, none⟩ = some (.slice a4 N.length c4) := Zw7.out.s 4 _ rfl; have s5 : w7.cell? ⟨w.heap.size, 5, none⟩ = some (.slice a5 A.length c5) := Zw7.out.s 5 _ rfl; have s6 : w7.cell? ⟨w.heap.size, 6, none⟩ = some (.slice a6 n6 c6) := Zw7.out.s 6 _ rfl; have s7 : w7.cell? ⟨w.heap.size, 7, none⟩ = some (.slice a7 n7 c7) := Zw7.out.s 7 _ rfl; have s8 : w7.cell? ⟨w.heap.size, 8, none⟩ = some (.slice a8 n8 c8) := Zw7.out.s 8 _ rfl; have a0 : w7.cell? ⟨w.heap.size + 1 + 1 + 1, 0, none⟩ = some (.int .i64 a) := Zw7.out.p.c0; have a1 : w7.cell? ⟨w.heap.size + 1 + 1 + 1, 1, none⟩ = some (.int .i64 b) := Zw7.out.p.c1)
              go_roundw
              case rel => exact ⟨z + 1, by omega, by omega, by go_num, Zw7, HBw7⟩
              case measure => simp [intOf]; omega
            | true =>
              clear hle2
              go_wp2_with (first
                | (go_at_call 8; refine (HG1.out _ HBg.out).mono ?_; rintro e w7 ⟨rfl, hb⟩; have Zw7 := hidOf (Zg.out.grow hb); have HBw7 : Hid (Below w3.heap.size w3 w7) := hidOf (HBg.out.trans (hb.mono HBg.out.size)); clear HG1; have q := HPg.out.grow hb; clear p0 p1 lg; have p0 : w7.cell? ⟨g, 0, none⟩ = _ := q.c0; have p1 : w7.cell? ⟨g, 1, none⟩ = _ := q.c1; have lg : g < w7.heap.size := q.lt; clear q; clear hb; clear s0 s1 s2 s3 s4 s5 s6 s7 s8 a0 a1 lw la; have lw : w.heap.size < w7.heap.size := Nat.lt_of_lt_of_le (by omega) (Nat.le_of_lt Zw7.out.l); have la : w.heap.size + 1 + 1 + 1 < w7.heap.size := Zw7.out.l; have s0 : w7.cell? ⟨w.heap.size, 0, none⟩ = some (.int .i64 ix) := Zw7.out.s 0 _ rfl; have s1 : w7.cell? ⟨w.heap.size, 1, none⟩ = some (.int .i64 nx) := Zw7.out.s 1 _ rfl; have s2 : w7.cell? ⟨w.heap.size, 2, none⟩ = some (.slice a2 n2 c2) := Zw7.out.s 2 _ rfl; have s3 : w7.cell? ⟨w.heap.size, 3, none⟩ = some (.slice a3 n3 c3) := Zw7.out.s 3 _ rfl; have s4 : w7.cell? ⟨w.heap.size, 4, none⟩ = some (.slice a4 N.length c4) := Zw7.out.s 4 _ rfl; have s5 : w7.cell? ⟨w.heap.size, 5, none⟩ = some (.slice a5 A.length c5) := Zw7.out.s 5 _ rfl; have s6 : w7.cell? ⟨w.heap.size, 6, none⟩ = some (.slice a6 n6 c6) := Zw7.out.s 6 _ rfl; have s7 : w7.cell? ⟨w.heap.size, 7, none⟩ = some (.slice a7 n7 c7) := Zw7.out.s 7 _ rfl; have s8 : w7.cell? ⟨w.heap.size, 8, none⟩ = some (.slice a8 n8 c8) := Zw7.out.s 8 _ rfl; have a0 : w7.cell? ⟨w.heap.size + 1 + 1 + 1, 0, none⟩ = some (.int .i64 a) := Zw7.out.p.c0; have a1 : w7.cell? ⟨w.heap.size + 1 + 1 + 1, 1, none⟩ = some (.int .i64 b) := Zw7.out.p.c1)
                | (go_at_call 8; refine (HY3.out _ HBw7.out).mono ?_; rintro e w8 ⟨rfl, hb⟩; have Zw8 := hidOf (Zw7.out.grow hb); have HBw8 : Hid (Below w3.heap.size w3 w8) := hidOf (HBw7.out.trans (hb.mono HBw7.out.size)); clear HY3; clear hb; clear s0 s1 s2 s3 s4 s5 s6 s7 s8 a0 a1 lw la; have lw : w.heap.size < w8.heap.size := Nat.lt_of_lt_of_le (by omega) (Nat.le_of_lt Zw8.out.l); have la : w.heap.size + 1 + 1 + 1 < w8.heap.size := Zw8.out.l; have s0 : w8.cell? ⟨w.heap.size, 0, none⟩ = some (.int .i64 ix) := Zw8.out.s 0 _ rfl; have s1 : w8.cell? ⟨w.heap.size, 1, none⟩ = some (.int .i64 nx) := Zw8.out.s 1 _ rfl; have s2 : w8.cell? ⟨w.heap.size, 2, none⟩ = some (.slice a2 n2 c2) := Zw8.out.s 2 _ rfl; have s3 : w8.cell? ⟨w.heap.size, 3, none⟩ = some (.slice a3 n3 c3) := Zw8.out.s 3 _ rfl; have s4 : w8.cell? ⟨w.heap.size, 4, none⟩ = some (.slice a4 N.length c4) := Zw8.out.s 4 _ rfl; have s5 : w8.cell? ⟨w.heap.size, 5, none⟩ = some (.slice a5 A.length c5) := Zw8.out.s 5 _ rfl; have s6 : w8.cell? ⟨w.heap.size, 6, none⟩ = some (.slice a6 n6 c6) := Zw8.out.s 6 _ rfl; have s7 : w8.cell? ⟨w.heap.size, 7, none⟩ = some (.slice a7 n7 c7) := Zw8.out.s 7 _ rfl; have s8 : w8.cell? ⟨w.heap.size, 8, none⟩ = some (.slice a8 n8 c8) := Zw8.out.s 8 _ rfl; have a0 : w8.cell? ⟨w.heap.size + 1 + 1 + 1, 0, none⟩ = some (.int .i64 a) := Zw8.out.p.c0; have a1 : w8.cell? ⟨w.heap.size + 1 + 1 + 1, 1, none⟩ = some (.int .i64 b) := Zw8.out.p.c1))
              go_roundw
              case rel => exact ⟨z + 1, by omega, by omega, by go_num, Zw8, HBw8⟩
              case measure => simp [intOf]; omega
          · have HNP := hidOf hP
            have hnl : ¬ a < a := by omega
            have Zg : Hid (FlS w (w4.alloc (.cells #[.int .i64 a, .int .i64 b] 31)) [.int .i64 ix, .int .i64 nx, .slice a2 n2 c2, .slice a3 n3 c3, .slice a4 N.length c4, .slice a5 A.length c5, .slice a6 n6 c6, .slice a7 n7 c7, .slice a8 n8 c8] [.int .i64 x.id, .int .i64 x.jb, .int .i64 x.ve, .int .i64 x.gr, .int .i64 x.ix, .int .i64 x.nd, .int .i64 x.ep, .int .i64 x.c, .int .i64 x.m, .bool x.sp, .int .i64 x.st] a b) := hidOf (Zw4.out.grow (below1 w4 _))
            have HBg : Hid (Below w3.heap.size w3 (w4.alloc (.cells #[.int .i64 a, .int .i64 b] 31))) := hidOf (HBw4.out.alloc HBw4.out.size _)
            have HPg := hidOf (pr_new w4 a b)
            by_cases h6 : a < 1152921504606846976
            · have h7 : ¬ 0 ≤ a := fun h => HNP.out ⟨h, h6⟩
              have h8 : a < 0 := by omega
              clear hP
              go_upto_region 17 with (fail)
              generalize w4.alloc (.cells #[.int .i64 a, .int .i64 b] 31) = Wg at *
              generalize w4.heap.size = g at *
              clear s0 s1 s2 s3 s4 s5 s6 s7 s8 a0 a1 lw la
              have lw : w.heap.size < Wg.heap.size := Nat.lt_of_lt_of_le (by omega) (Nat.le_of_lt Zg.out.l)
              have la : w.heap.size + 1 + 1 + 1 < Wg.heap.size := Zg.out.l
              have s0 : Wg.cell? ⟨w.heap.size, 0, none⟩ = some (.int .i64 ix) := Zg.out.s 0 _ rfl
              have s1 : Wg.cell? ⟨w.heap.size, 1, none⟩ = some (.int .i64 nx) := Zg.out.s 1 _ rfl
              have s2 : Wg.cell? ⟨w.heap.size, 2, none⟩ = some (.slice a2 n2 c2) := Zg.out.s 2 _ rfl
              have s3 : Wg.cell? ⟨w.heap.size, 3, none⟩ = some (.slice a3 n3 c3) := Zg.out.s 3 _ rfl
              have s4 : Wg.cell? ⟨w.heap.size, 4, none⟩ = some (.slice a4 N.length c4) := Zg.out.s 4 _ rfl
              have s5 : Wg.cell? ⟨w.heap.size, 5, none⟩ = some (.slice a5 A.length c5) := Zg.out.s 5 _ rfl
              have s6 : Wg.cell? ⟨w.heap.size, 6, none⟩ = some (.slice a6 n6 c6) := Zg.out.s 6 _ rfl
              have s7 : Wg.cell? ⟨w.heap.size, 7, none⟩ = some (.slice a7 n7 c7) := Zg.out.s 7 _ rfl
              have s8 : Wg.cell? ⟨w.heap.size, 8, none⟩ = some (.slice a8 n8 c8) := Zg.out.s 8 _ rfl
              have a0 : Wg.cell? ⟨w.heap.size + 1 + 1 + 1, 0, none⟩ = some (.int .i64 a) := Zg.out.p.c0
              have a1 : Wg.cell? ⟨w.heap.size + 1 + 1 + 1, 1, none⟩ = some (.int .i64 b) := Zg.out.p.c1
              have p0 : Wg.cell? ⟨g, 0, none⟩ = _ := HPg.out.c0
              have p1 : Wg.cell? ⟨g, 1, none⟩ = _ := HPg.out.c1
              have lg : g < Wg.heap.size := HPg.out.lt
              go_wp2_with (go_at_call 8; refine (HY3.out _ HBg.out).mono ?_; rintro e w7 ⟨rfl, hb⟩; have Zw7 := hidOf (Zg.out.grow hb); have HBw7 : Hid (Below w3.heap.size w3 w7) := hidOf (HBg.out.trans (hb.mono HBg.out.size)); clear HY3; have q := HPg.out.grow hb; clear p0 p1 lg; have p0 : w7.cell? ⟨g, 0, none⟩ = _ := q.c0; have p1 : w7.cell? ⟨g, 1, none⟩ = _ := q.c1; have lg : g < w7.heap.size := q.lt; clear q; clear hb; clear s0 s1 s2 s3 s4 s5 s6 s7 s8 a0 a1 lw la; have lw : w.heap.size < w7.heap.size := Nat.lt_of_lt_of_le (by omega) (Nat.le_of_lt Zw7.out.l); have la : w.heap.size + 1 + 1 + 1 < w7.heap.size := Zw7.out.l; have s0 : w7.cell? ⟨w.heap.size, 0, none⟩ = some (.int .i64 ix) := Zw7.out.s 0 _ rfl; have s1 : w7.cell? ⟨w.heap.size, 1, none⟩ = some (.int .i64 nx) := Zw7.out.s 1 _ rfl; have s2 : w7.cell? ⟨w.heap.size, 2, none⟩ = some (.slice a2 n2 c2) := Zw7.out.s 2 _ rfl; have s3 : w7.cell? ⟨w.heap.size, 3, none⟩ = some (.slice a3 n3 c3) := Zw7.out.s 3 _ rfl; have s4 : w7.cell? ⟨w.heap.size, 4, none⟩ = some (.slice a4 N.length c4) := Zw7.out.s 4 _ rfl; have s5 : w7.cell? ⟨w.heap.size, 5, none⟩ = some (.slice a5 A.length c5) := Zw7.out.s 5 _ rfl; have s6 : w7.cell? ⟨w.heap.size, 6, none⟩ = some (.slice a6 n6 c6) := Zw7.out.s 6 _ rfl; have s7 : w7.cell? ⟨w.heap.size, 7, none⟩ = some (.slice a7 n7 c7) := Zw7.out.s 7 _ rfl; have s8 : w7.cell? ⟨w.heap.size, 8, none⟩ = some (.slice a8 n8 c8) := Zw7.out.s 8 _ rfl; have a0 : w7.cell? ⟨w.heap.size + 1 + 1 + 1, 0, none⟩ = some (.int .i64 a) := Zw7.out.p.c0; have a1 : w7.cell? ⟨w.heap.size + 1 + 1 + 1, 1, none⟩ = some (.int .i64 b) := Zw7.out.p.c1)
              go_roundw
              case rel => exact ⟨z + 1, by omega, by omega, by go_num, Zw7, HBw7⟩
              case measure => simp [intOf]; omega
            · have h7 : 1152921504606846976 ≤ a := by omega
              clear hP
              go_upto_region 17 with (fail)
              generalize w4.alloc (.cells #[.int .i64 a, .int .i64 b] 31) = Wg at *
              generalize w4.heap.size = g at *
              clear s0 s1 s2 s3 s4 s5 s6 s7 s8 a0 a1 lw la
              have lw : w.heap.size < Wg.heap.size := Nat.lt_of_lt_of_le (by omega) (Nat.le_of_lt Zg.out.l)
              have la : w.heap.size + 1 + 1 + 1 < Wg.heap.size := Zg.out.l
              have s0 : Wg.cell? ⟨w.heap.size, 0, none⟩ = some (.int .i64 ix) := Zg.out.s 0 _ rfl
              have s1 : Wg.cell? ⟨w.heap.size, 1, none⟩ = some (.int .i64 nx) := Zg.out.s 1 _ rfl
              have s2 : Wg.cell? ⟨w.heap.size, 2, none⟩ = some (.slice a2 n2 c2) := Zg.out.s 2 _ rfl
              have s3 : Wg.cell? ⟨w.heap.size, 3, none⟩ = some (.slice a3 n3 c3) := Zg.out.s 3 _ rfl
              have s4 : Wg.cell? ⟨w.heap.size, 4, none⟩ = some (.slice a4 N.length c4) := Zg.out.s 4 _ rfl
              have s5 : Wg.cell? ⟨w.heap.size, 5, none⟩ = some (.slice a5 A.length c5) := Zg.out.s 5 _ rfl
              have s6 : Wg.cell? ⟨w.heap.size, 6, none⟩ = some (.slice a6 n6 c6) := Zg.out.s 6 _ rfl
              have s7 : Wg.cell? ⟨w.heap.size, 7, none⟩ = some (.slice a7 n7 c7) := Zg.out.s 7 _ rfl
              have s8 : Wg.cell? ⟨w.heap.size, 8, none⟩ = some (.slice a8 n8 c8) := Zg.out.s 8 _ rfl
              have a0 : Wg.cell? ⟨w.heap.size + 1 + 1 + 1, 0, none⟩ = some (.int .i64 a) := Zg.out.p.c0
              have a1 : Wg.cell? ⟨w.heap.size + 1 + 1 + 1, 1, none⟩ = some (.int .i64 b) := Zg.out.p.c1
              have p0 : Wg.cell? ⟨g, 0, none⟩ = _ := HPg.out.c0
              have p1 : Wg.cell? ⟨g, 1, none⟩ = _ := HPg.out.c1
              have lg : g < Wg.heap.size := HPg.out.lt
              go_wp2_with (go_at_call 8; refine (HY3.out _ HBg.out).mono ?_; rintro e w7 ⟨rfl, hb⟩; have Zw7 := hidOf (Zg.out.grow hb); have HBw7 : Hid (Below w3.heap.size w3 w7) := hidOf (HBg.out.trans (hb.mono HBg.out.size)); clear HY3; have q := HPg.out.grow hb; clear p0 p1 lg; have p0 : w7.cell? ⟨g, 0, none⟩ = _ := q.c0; have p1 : w7.cell? ⟨g, 1, none⟩ = _ := q.c1; have lg : g < w7.heap.size := q.lt; clear q; clear hb; clear s0 s1 s2 s3 s4 s5 s6 s7 s8 a0 a1 lw la; have lw : w.heap.size < w7.heap.size := Nat.lt_of_lt_of_le (by omega) (Nat.le_of_lt Zw7.out.l); have la : w.heap.size + 1 + 1 + 1 < w7.heap.size := Zw7.out.l; have s0 : w7.cell? ⟨w.heap.size, 0, none⟩ = some (.int .i64 ix) := Zw7.out.s 0 _ rfl; have s1 : w7.cell? ⟨w.heap.size, 1, none⟩ = some (.int .i64 nx) := Zw7.out.s 1 _ rfl; have s2 : w7.cell? ⟨w.heap.size, 2, none⟩ = some (.slice a2 n2 c2) := Zw7.out.s 2 _ rfl; have s3 : w7.cell? ⟨w.heap.size, 3, none⟩ = some (.slice a3 n3 c3) := Zw7.out.s 3 _ rfl; have s4 : w7.cell? ⟨w.heap.size, 4, none⟩ = some (.slice a4 N.length c4) := Zw7.out.s 4 _ rfl; have s5 : w7.cell? ⟨w.heap.size, 5, none⟩ = some (.slice a5 A.length c5) := Zw7.out.s 5 _ rfl; have s6 : w7.cell? ⟨w.heap.size, 6, none⟩ = some (.slice a6 n6 c6) := Zw7.out.s 6 _ rfl; have s7 : w7.cell? ⟨w.heap.size, 7, none⟩ = some (.slice a7 n7 c7) := Zw7.out.s 7 _ rfl; have s8 : w7.cell? ⟨w.heap.size, 8, none⟩ = some (.slice a8 n8 c8) := Zw7.out.s 8 _ rfl; have a0 : w7.cell? ⟨w.heap.size + 1 + 1 + 1, 0, none⟩ = some (.int .i64 a) := Zw7.out.p.c0; have a1 : w7.cell? ⟨w.heap.size + 1 + 1 + 1, 1, none⟩ = some (.int .i64 b) := Zw7.out.p.c1)
              go_roundw
              case rel => exact ⟨z + 1, by omega, by omega, by go_num, Zw7, HBw7⟩
              case measure => simp [intOf]; omega
      · clear HMX HMO HLE
        generalize hbv : bV N A M a b = bv at HBY
        cases bv with
        | none =>
          dsimp only [bI, Option.isSome_none] at HBY
          clear hbv HIS HMY
          go_wp2_with (first
            | (go_at_call 10; refine (HBY.out _ HB.out).mono ?_; rintro e w4 ⟨rfl, hb⟩; have Z4 := hidOf (Z.out.grow hb); clear hb)
            | (go_at_call 7; refine (HLV.out _).mono ?_; rintro e wl ⟨rfl, hb⟩; have HBL := hidOf hb; clear hb))
          go_ret
          exact ⟨rfl, Z4.out.bel.trans (HBL.out.mono Z4.out.bel.size)⟩
        | some y =>
          obtain ⟨y1, y2⟩ := y
          have hys : chV N A M y1 a b = some y2 := HIS.out _ hbv
          have HYY := hidOf (HMY.out y1 a b)
          rw [hys] at HYY
          dsimp only [bI, Option.isSome_some] at HBY HYY
          clear hbv HIS HMY hys
          go_wp2_with (first
            | (go_at_call 10; refine (HBY.out _ HB.out).mono ?_; rintro e w4 ⟨rfl, hb⟩; have Z4 := hidOf (Z.out.grow hb); have HB4 : Hid (Below w3.heap.size w3 w4) := hidOf (HB.out.trans (hb.mono HB.out.size)); clear hb HBY; clear s0 s1 s2 s3 s4 s5 s6 s7 s8 a0 a1 lw la; have lw : w.heap.size < w4.heap.size := Nat.lt_of_lt_of_le (by omega) (Nat.le_of_lt Z4.out.l); have la : w.heap.size + 1 + 1 + 1 < w4.heap.size := Z4.out.l; have s0 : w4.cell? ⟨w.heap.size, 0, none⟩ = some (.int .i64 ix) := Z4.out.s 0 _ rfl; have s1 : w4.cell? ⟨w.heap.size, 1, none⟩ = some (.int .i64 nx) := Z4.out.s 1 _ rfl; have s2 : w4.cell? ⟨w.heap.size, 2, none⟩ = some (.slice a2 n2 c2) := Z4.out.s 2 _ rfl; have s3 : w4.cell? ⟨w.heap.size, 3, none⟩ = some (.slice a3 n3 c3) := Z4.out.s 3 _ rfl; have s4 : w4.cell? ⟨w.heap.size, 4, none⟩ = some (.slice a4 N.length c4) := Z4.out.s 4 _ rfl; have s5 : w4.cell? ⟨w.heap.size, 5, none⟩ = some (.slice a5 A.length c5) := Z4.out.s 5 _ rfl; have s6 : w4.cell? ⟨w.heap.size, 6, none⟩ = some (.slice a6 n6 c6) := Z4.out.s 6 _ rfl; have s7 : w4.cell? ⟨w.heap.size, 7, none⟩ = some (.slice a7 n7 c7) := Z4.out.s 7 _ rfl; have s8 : w4.cell? ⟨w.heap.size, 8, none⟩ = some (.slice a8 n8 c8) := Z4.out.s 8 _ rfl; have a0 : w4.cell? ⟨w.heap.size + 1 + 1 + 1, 0, none⟩ = some (.int .i64 a) := Z4.out.p.c0; have a1 : w4.cell? ⟨w.heap.size + 1 + 1 + 1, 1, none⟩ = some (.int .i64 b) := Z4.out.p.c1)
            | (go_at_call 8; refine (HYY.out _ HB4.out).mono ?_; rintro e w5 ⟨rfl, hb⟩; have Z5 := hidOf (Z4.out.grow hb); clear hb)
            | (go_at_call 7; refine (HLV.out _).mono ?_; rintro e wl ⟨rfl, hb⟩; have HBL := hidOf hb; clear hb))
          go_ret
          exact ⟨rfl, Z5.out.bel.trans (HBL.out.mono Z5.out.bel.size)⟩
end Go.Proofs.Ytajfhknfknedmaa
