/- The node for a slot's task: the code's nodeFor. -/
import Derived.Test.YtblofbdncolikaaPa
namespace Go.Proofs.Ytblofbdncolikaa
open Go.RowKit Go.Shelf
attribute [local go_sem] Oper.semAt_some
structure NfS (w W : World) (st jb : List Value) (gi ix c m : Int) : Prop where
  s : W.rangeAt w.heap.size 0 st
  j : W.rangeAt (w.heap.size + 1) 0 jb
  y : W.rangeAt (w.heap.size + 1 + 1) 0 [.int .i64 gi, .int .i64 ix]
  r : W.heap[w.heap.size + 1 + 1 + 1]? = some (.cells #[.int .i64 0, .int .i64 0, .int .i64 0, .bool false, .bool false, .int .i64 0, .int .i64 0, .int .i64 0] 46 (0, 0))
  a : W.rangeAt (w.heap.size + 1 + 1 + 1 + 1) 0 [.int .i64 c, .int .i64 m]
  b : Below w.heap.size w W
  l : w.heap.size + 1 + 1 + 1 + 1 < W.heap.size
theorem NfS.grow {w W W' : World} {st jb : List Value} {gi ix c m : Int} (h : NfS w W st jb gi ix c m) (hb : Below W.heap.size W W') : NfS w W' st jb gi ix c m := by
  have hl := h.l
  exact ⟨range_of h.s (hb.block _ (by omega)), range_of h.j (hb.block _ (by omega)), range_of h.y (hb.block _ (by omega)), (hb.block _ (by omega)).trans h.r, range_of h.a (hb.block _ (by omega)), h.b.trans (hb.mono h.b.size), Nat.lt_of_lt_of_le h.l hb.size⟩
theorem row_fz {w : World} {b t : Nat} {cs : Array Value} (h : w.heap[b]? = some (.cells cs t (0, 0))) (j : Nat) : w.frozen? ⟨b, j, none⟩ = false := by simp [World.frozen?, h]
theorem NfS.z {w W : World} {st jb : List Value} {gi ix c m : Int} (h : NfS w W st jb gi ix c m) (j : Nat) (v : Value) (hj : [.int .i64 0, .int .i64 0, .int .i64 0, .bool false, .bool false, .int .i64 0, .int .i64 0, .int .i64 0][j]? = some v) : W.cell? ⟨w.heap.size + 1 + 1 + 1, j, none⟩ = some v := by
  rw [cell_of_row W _ j _ 46 (0, 0) h.r]
  simpa using hj
theorem NfS.begin (w : World) (st jb : List Value) (gi ix c m : Int) : NfS w (((((w.alloc (.cells st.toArray 29)).alloc (.cells jb.toArray 51)).alloc (.cells #[.int .i64 gi, .int .i64 ix] 60)).alloc (.cells #[.int .i64 0, .int .i64 0, .int .i64 0, .bool false, .bool false, .int .i64 0, .int .i64 0, .int .i64 0] 46)).alloc (.cells #[.int .i64 c, .int .i64 m] 40)) st jb gi ix c m := by
  have hb1 := below1 w (.cells st.toArray 29)
  have hx1 : (w.alloc (.cells st.toArray 29)).rangeAt w.heap.size 0 st := box_new (Below.refl _ _)
  have hz1 : (w.alloc (.cells st.toArray 29)).heap.size = w.heap.size + 1 := by simp
  generalize w.alloc (.cells st.toArray 29) = W1 at *
  have hb2 := below1 W1 (.cells jb.toArray 51)
  have hx2 : (W1.alloc (.cells jb.toArray 51)).rangeAt W1.heap.size 0 jb := box_new (Below.refl _ _)
  have hz2 : (W1.alloc (.cells jb.toArray 51)).heap.size = w.heap.size + 1 + 1 := by simp [hz1]
  generalize W1.alloc (.cells jb.toArray 51) = W2 at *
  have hb3 := below1 W2 (.cells #[.int .i64 gi, .int .i64 ix] 60)
  have hx3 : (W2.alloc (.cells #[.int .i64 gi, .int .i64 ix] 60)).rangeAt W2.heap.size 0 [.int .i64 gi, .int .i64 ix] := box_new (Below.refl _ _)
  have hz3 : (W2.alloc (.cells #[.int .i64 gi, .int .i64 ix] 60)).heap.size = w.heap.size + 1 + 1 + 1 := by simp [hz2]
  generalize W2.alloc (.cells #[.int .i64 gi, .int .i64 ix] 60) = W3 at *
  have hb4 := below1 W3 (.cells #[.int .i64 0, .int .i64 0, .int .i64 0, .bool false, .bool false, .int .i64 0, .int .i64 0, .int .i64 0] 46)
  have hx4 : (W3.alloc (.cells #[.int .i64 0, .int .i64 0, .int .i64 0, .bool false, .bool false, .int .i64 0, .int .i64 0, .int .i64 0] 46)).heap[W3.heap.size]? = some (.cells #[.int .i64 0, .int .i64 0, .int .i64 0, .bool false, .bool false, .int .i64 0, .int .i64 0, .int .i64 0] 46 (0, 0)) := heap_alloc_new _ _
  have hz4 : (W3.alloc (.cells #[.int .i64 0, .int .i64 0, .int .i64 0, .bool false, .bool false, .int .i64 0, .int .i64 0, .int .i64 0] 46)).heap.size = w.heap.size + 1 + 1 + 1 + 1 := by simp [hz3]
  generalize W3.alloc (.cells #[.int .i64 0, .int .i64 0, .int .i64 0, .bool false, .bool false, .int .i64 0, .int .i64 0, .int .i64 0] 46) = W4 at *
  have hb5 := below1 W4 (.cells #[.int .i64 c, .int .i64 m] 40)
  have hx5 : (W4.alloc (.cells #[.int .i64 c, .int .i64 m] 40)).rangeAt W4.heap.size 0 [.int .i64 c, .int .i64 m] := box_new (Below.refl _ _)
  have hz5 : (W4.alloc (.cells #[.int .i64 c, .int .i64 m] 40)).heap.size = w.heap.size + 1 + 1 + 1 + 1 + 1 := by simp [hz4]
  generalize W4.alloc (.cells #[.int .i64 c, .int .i64 m] 40) = W5 at *
  rw [hz1] at hx2 hb2
  rw [hz2] at hx3 hb3
  rw [hz3] at hx4 hb4
  rw [hz4] at hx5 hb5
  exact ⟨range_of (range_of (range_of (range_of hx1 (hb2.block _ (by omega))) (hb3.block _ (by omega))) (hb4.block _ (by omega))) (hb5.block _ (by omega)), range_of (range_of (range_of hx2 (hb3.block _ (by omega))) (hb4.block _ (by omega))) (hb5.block _ (by omega)), range_of (range_of hx3 (hb4.block _ (by omega))) (hb5.block _ (by omega)), (hb5.block _ (by omega)).trans hx4, hx5, hb1.trans ((hb2.mono (by omega)).trans ((hb3.mono (by omega)).trans ((hb4.mono (by omega)).trans (hb5.mono (by omega))))), by omega⟩
structure SetB (w W : World) (b : Nat) (cs : List Value) (t : Nat) : Prop where
  h : W.heap[b]? = some (.cells cs.toArray t (0, 0))
  o : ∀ x, x ≠ b → W.heap[x]? = w.heap[x]?
  z : W.heap.size = w.heap.size
  os : W.os = w.os
  tp : W.tape = w.tape
  ou : W.output = w.output
theorem SetB.refl {w : World} {b t : Nat} {cs : List Value} (h : w.heap[b]? = some (.cells cs.toArray t (0, 0))) : SetB w w b cs t := ⟨h, fun _ _ => rfl, rfl, rfl, rfl, rfl⟩
theorem SetB.step {w W : World} {b t : Nat} {cs : List Value} (h : SetB w W b cs t) (j : Nat) (v : Value) : SetB w (W.setCell ⟨b, j, none⟩ v) b (cs.set j v) t := by
  refine ⟨?_, fun x hx => (heap_setCell_other W ⟨b, j, none⟩ x v hx).trans (h.o x hx), by simp [h.z], h.os, h.tp, h.ou⟩
  have := heap_setCell_same W b j cs.toArray t v h.h
  rw [List.setIfInBounds_toArray] at this
  exact this
theorem SetB.bel {w W : World} {b t n : Nat} {cs : List Value} (h : SetB w W b cs t) (hn : n ≤ b) : Below n w W := ⟨h.os, h.tp, h.ou, Nat.le_of_eq h.z.symm, fun x hx => h.o x (by omega)⟩
theorem below4 (w : World) (o1 o2 o3 o4 : Obj) : Below w.heap.size w ((((w.alloc o1).alloc o2).alloc o3).alloc o4) := (below2 w o1 o2).trans ((below2 ((w.alloc o1).alloc o2) o3 o4).mono (by simp only [World.size_alloc]; omega))
set_option maxRecDepth 100000 in
theorem results_nb {fn : Func} {p u : Tmp} (h : fn.results = #[.cell p 46, .tmp u]) (tmps : Array Value) (w : World) (b : Nat) (cs : Array Value) (v : Value) (hp : tmps.getD p undef = .pointer (some ⟨b, 0, none⟩)) (hu : tmps.getD u undef = v) (h0 : w.heap[b]? = some (.cells cs 46 (0, 0))) (hi : (Try.prog.info? 46).map (·.size) = some cs.size) :
    (results fn tmps).run Try.prog w = .ok (.tuple #[.agg cs, v]) w := by
  rw [results_cell_tmp h, hp, hu]
  show ((loadVar 46 ⟨b, 0, none⟩).run Try.prog w).andThen _ = _
  rw [run_loadVar_row w b 46 46 cs (0, 0) _ h0 Try.underlying46 rfl hi]
  rfl
def NfP (o : Option Nd) (e : Ending) : Prop := match o with
  | some n => e = .returned (.tuple #[.agg #[.int .i64 n.id, .int .i64 n.c, .int .i64 n.m, .bool n.up, .bool n.dr, .int .i64 n.bo, .int .i64 n.ep, .int .i64 n.se], .bool true])
  | none => e = .returned (.tuple #[.agg #[.int .i64 0, .int .i64 0, .int .i64 0, .bool false, .bool false, .int .i64 0, .int .i64 0, .int .i64 0], .bool false])
theorem askV_at {d : Jb} {gi : Nat} {g : Gp} (hi : gi < d.gs.length) (hg : d.gs[gi] = g) (yx : Int) : askV d ((gi : Int), yx) = g := by
  unfold askV
  rw [Int.toNat_natCast, getD_at d.gs gi hi, hg]
theorem ndA_at {Ln : List Nd} {id : Int} {i : Nat} (h : atN Ln id = (i : Int)) (hi : i < Ln.length) : ndA Ln id = Ln[i] := by
  unfold ndA
  rw [h, Int.toNat_natCast, getD_at Ln i hi]
theorem ch_at {Ln : List Nd} {A M : List Al} {id a b : Int} (h : (chV Ln A M id a b).isSome = true) : ∃ i : Nat, i < Ln.length ∧ atN Ln id = (i : Int) := by
  rcases fi_range (fun x : Nd => isI x.id id) Ln with h1 | h1
  · have h2 : chV Ln A M id a b = none := chV_no h1
    rw [h2] at h
    cases h
  · exact h1
set_option maxRecDepth 100000 in
set_option maxHeartbeats 8000000 in
theorem nodeFor_any (s : Sc) (d : Jb) (ga : Option Addr) (gc gi : Nat) (yx : Int) (Ln : List Nd) (A M : List Al) (am : Option Addr) (cm : Nat) (w : World) (hs : Sg w s Ln A) (hM : Mr w am M) (hcap : cpL Ln = true) (hG : Fl w (fun b => b < w.heap.size) 3 24 Gp.cs ga d.gs) (hi : gi < d.gs.length) :
    Calls Try.prog 18 #[.agg #[.int .i64 s.ix, .int .i64 s.nx, .slice s.a2 s.n2 s.c2, .slice s.a3 s.n3 s.c3, .slice s.a4 s.n4 s.c4, .slice s.a5 s.n5 s.c5, .slice s.a6 s.n6 s.c6, .slice s.a7 s.n7 s.c7, .slice s.a8 s.n8 s.c8], .slice am M.length cm, .agg #[.int .i64 d.id, .int .i64 d.ty, .int .i64 d.pr, .int .i64 d.pa, .slice ga d.gs.length gc, .int .i64 d.ve, .bool d.sd], .agg #[.int .i64 (gi : Int), .int .i64 yx]] w fun e w' => NfP (nfV d Ln A M ((gi : Int), yx)) e ∧ Below w.heap.size w w' := by
  obtain ⟨ix, nx, a2, n2, c2, a3, n3, c3, a4, n4, c4, a5, n5, c5, a6, n6, c6, a7, n7, c7, a8, n8, c8⟩ := s
  obtain ⟨e4, e5⟩ : n4 = Ln.length ∧ n5 = A.length := ⟨hs.n4, hs.n5⟩
  subst e4
  subst e5
  obtain ⟨g, hg⟩ : ∃ g, d.gs[gi] = g := ⟨_, rfl⟩
  have hask := askV_at hi hg yx
  obtain ⟨b, off, ha, hQ, hcc⟩ := hG.at gi hi
  have hQ' : b < w.heap.size := hQ
  rw [hg] at hcc
  subst ha
  have hk0 : ¬ ((gi : Int) < 0) := by omega
  have hk1 : (gi : Int) < (d.gs.length : Int) := by omega
  have HMA := hidOf (fun (W : World) (hW : Below w.heap.size w W) => may_any ⟨ix, nx, a2, n2, c2, a3, n3, c3, a4, Ln.length, c4, a5, A.length, c5, a6, n6, c6, a7, n7, c7, a8, n8, c8⟩ yx g.c g.m Ln A M am cm W (hs.up hW) (mr_up hM hW) hcap)
  have HBE := hidOf (fun (W : World) (hW : Below w.heap.size w W) => best_any ⟨ix, nx, a2, n2, c2, a3, n3, c3, a4, Ln.length, c4, a5, A.length, c5, a6, n6, c6, a7, n7, c7, a8, n8, c8⟩ g.c g.m Ln A M am cm W (hs.up hW) (mr_up hM hW) hcap)
  have HNF := hidOf (fun (id : Int) (W : World) (hW : Below w.heap.size w W) => node_any ⟨ix, nx, a2, n2, c2, a3, n3, c3, a4, Ln.length, c4, a5, A.length, c5, a6, n6, c6, a7, n7, c7, a8, n8, c8⟩ id Ln W rfl (hs.up hW).f4)
  have HLN := hidOf hs.f4
  have hnf : nfV d Ln A M ((gi : Int), yx) = if d.ty = 3 then (if (chV Ln A M yx g.c g.m).isSome = true then some (ndA Ln yx) else none) else (bV Ln A M g.c g.m).map (fun z => ndA Ln z.1) := by unfold nfV; rw [hask]
  rw [hnf]
  have HBI := hidOf (bF_is Ln A M g.c g.m Ln.length (Nat.le_refl _))
  have ZB := hidOf (NfS.begin w [.int .i64 ix, .int .i64 nx, .slice a2 n2 c2, .slice a3 n3 c3, .slice a4 Ln.length c4, .slice a5 A.length c5, .slice a6 n6 c6, .slice a7 n7 c7, .slice a8 n8 c8] [.int .i64 d.id, .int .i64 d.ty, .int .i64 d.pr, .int .i64 d.pa, .slice (some ⟨b, off, none⟩) d.gs.length gc, .int .i64 d.ve, .bool d.sd] (gi : Int) yx g.c g.m)
  have hb4 := below4 w (.cells #[.int .i64 ix, .int .i64 nx, .slice a2 n2 c2, .slice a3 n3 c3, .slice a4 Ln.length c4, .slice a5 A.length c5, .slice a6 n6 c6, .slice a7 n7 c7, .slice a8 n8 c8] 29) (.cells #[.int .i64 d.id, .int .i64 d.ty, .int .i64 d.pr, .int .i64 d.pa, .slice (some ⟨b, off, none⟩) d.gs.length gc, .int .i64 d.ve, .bool d.sd] 51) (.cells #[.int .i64 (gi : Int), .int .i64 yx] 60) (.cells #[.int .i64 0, .int .i64 0, .int .i64 0, .bool false, .bool false, .int .i64 0, .int .i64 0, .int .i64 0] 46)
  have g1 : ((((w.alloc (.cells #[.int .i64 ix, .int .i64 nx, .slice a2 n2 c2, .slice a3 n3 c3, .slice a4 Ln.length c4, .slice a5 A.length c5, .slice a6 n6 c6, .slice a7 n7 c7, .slice a8 n8 c8] 29)).alloc (.cells #[.int .i64 d.id, .int .i64 d.ty, .int .i64 d.pr, .int .i64 d.pa, .slice (some ⟨b, off, none⟩) d.gs.length gc, .int .i64 d.ve, .bool d.sd] 51)).alloc (.cells #[.int .i64 (gi : Int), .int .i64 yx] 60)).alloc (.cells #[.int .i64 0, .int .i64 0, .int .i64 0, .bool false, .bool false, .int .i64 0, .int .i64 0, .int .i64 0] 46)).cell? ⟨b, off + gi * 3 + 1, none⟩ = some (.int .i64 g.c) := (hb_cell hb4 hQ').trans (hcc 1 _ rfl)
  have g2 : ((((w.alloc (.cells #[.int .i64 ix, .int .i64 nx, .slice a2 n2 c2, .slice a3 n3 c3, .slice a4 Ln.length c4, .slice a5 A.length c5, .slice a6 n6 c6, .slice a7 n7 c7, .slice a8 n8 c8] 29)).alloc (.cells #[.int .i64 d.id, .int .i64 d.ty, .int .i64 d.pr, .int .i64 d.pa, .slice (some ⟨b, off, none⟩) d.gs.length gc, .int .i64 d.ve, .bool d.sd] 51)).alloc (.cells #[.int .i64 (gi : Int), .int .i64 yx] 60)).alloc (.cells #[.int .i64 0, .int .i64 0, .int .i64 0, .bool false, .bool false, .int .i64 0, .int .i64 0, .int .i64 0] 46)).cell? ⟨b, off + gi * 3 + 2, none⟩ = some (.int .i64 g.m) := (hb_cell hb4 hQ').trans (hcc 2 _ rfl)
  have lg : b < ((((w.alloc (.cells #[.int .i64 ix, .int .i64 nx, .slice a2 n2 c2, .slice a3 n3 c3, .slice a4 Ln.length c4, .slice a5 A.length c5, .slice a6 n6 c6, .slice a7 n7 c7, .slice a8 n8 c8] 29)).alloc (.cells #[.int .i64 d.id, .int .i64 d.ty, .int .i64 d.pr, .int .i64 d.pa, .slice (some ⟨b, off, none⟩) d.gs.length gc, .int .i64 d.ve, .bool d.sd] 51)).alloc (.cells #[.int .i64 (gi : Int), .int .i64 yx] 60)).alloc (.cells #[.int .i64 0, .int .i64 0, .int .i64 0, .bool false, .bool false, .int .i64 0, .int .i64 0, .int .i64 0] 46)).heap.size := Nat.lt_of_lt_of_le hQ' hb4.size
  clear hnf hask hg hcc hQ hs hM hcap hG hb4
  by_cases hty : d.ty = 3
  · have hq : (d.ty == 3) = true := by simp [hty]
    rw [if_pos hty]
    clear hty HBE HBI
    cases hc : (chV Ln A M yx g.c g.m).isSome with
    | false =>
      rw [if_neg (by decide)]
      rw [hc] at HMA
      clear hc
      go_enter Try.func18, Try.ntmps18
      go_upto_region 3 with (fail)
      obtain ⟨W5, hW5⟩ : ∃ W5, ((((w.alloc (.cells #[.int .i64 ix, .int .i64 nx, .slice a2 n2 c2, .slice a3 n3 c3, .slice a4 Ln.length c4, .slice a5 A.length c5, .slice a6 n6 c6, .slice a7 n7 c7, .slice a8 n8 c8] 29)).alloc (.cells #[.int .i64 d.id, .int .i64 d.ty, .int .i64 d.pr, .int .i64 d.pa, .slice (some ⟨b, off, none⟩) d.gs.length gc, .int .i64 d.ve, .bool d.sd] 51)).alloc (.cells #[.int .i64 (gi : Int), .int .i64 yx] 60)).alloc (.cells #[.int .i64 0, .int .i64 0, .int .i64 0, .bool false, .bool false, .int .i64 0, .int .i64 0, .int .i64 0] 46)).alloc (.cells #[.int .i64 g.c, .int .i64 g.m] 40) = W5 := ⟨_, rfl⟩
      have Z5 : Hid (NfS w W5 [.int .i64 ix, .int .i64 nx, .slice a2 n2 c2, .slice a3 n3 c3, .slice a4 Ln.length c4, .slice a5 A.length c5, .slice a6 n6 c6, .slice a7 n7 c7, .slice a8 n8 c8] [.int .i64 d.id, .int .i64 d.ty, .int .i64 d.pr, .int .i64 d.pa, .slice (some ⟨b, off, none⟩) d.gs.length gc, .int .i64 d.ve, .bool d.sd] (gi : Int) yx g.c g.m) := hidOf (by rw [← hW5]; exact ZB.out)
      try rw [hW5]
      clear hW5 ZB g1 g2 lg
      have t0 : W5.cell? ⟨w.heap.size, 0, none⟩ = some (.int .i64 ix) := Z5.out.s 0 _ rfl
      have t1 : W5.cell? ⟨w.heap.size, 1, none⟩ = some (.int .i64 nx) := Z5.out.s 1 _ rfl
      have t2 : W5.cell? ⟨w.heap.size, 2, none⟩ = some (.slice a2 n2 c2) := Z5.out.s 2 _ rfl
      have t3 : W5.cell? ⟨w.heap.size, 3, none⟩ = some (.slice a3 n3 c3) := Z5.out.s 3 _ rfl
      have t4 : W5.cell? ⟨w.heap.size, 4, none⟩ = some (.slice a4 Ln.length c4) := Z5.out.s 4 _ rfl
      have t5 : W5.cell? ⟨w.heap.size, 5, none⟩ = some (.slice a5 A.length c5) := Z5.out.s 5 _ rfl
      have t6 : W5.cell? ⟨w.heap.size, 6, none⟩ = some (.slice a6 n6 c6) := Z5.out.s 6 _ rfl
      have t7 : W5.cell? ⟨w.heap.size, 7, none⟩ = some (.slice a7 n7 c7) := Z5.out.s 7 _ rfl
      have t8 : W5.cell? ⟨w.heap.size, 8, none⟩ = some (.slice a8 n8 c8) := Z5.out.s 8 _ rfl
      have j0 : W5.cell? ⟨w.heap.size + 1, 0, none⟩ = some (.int .i64 d.id) := Z5.out.j 0 _ rfl
      have j1 : W5.cell? ⟨w.heap.size + 1, 1, none⟩ = some (.int .i64 d.ty) := Z5.out.j 1 _ rfl
      have j2 : W5.cell? ⟨w.heap.size + 1, 2, none⟩ = some (.int .i64 d.pr) := Z5.out.j 2 _ rfl
      have j3 : W5.cell? ⟨w.heap.size + 1, 3, none⟩ = some (.int .i64 d.pa) := Z5.out.j 3 _ rfl
      have j4 : W5.cell? ⟨w.heap.size + 1, 4, none⟩ = some (.slice (some ⟨b, off, none⟩) d.gs.length gc) := Z5.out.j 4 _ rfl
      have j5 : W5.cell? ⟨w.heap.size + 1, 5, none⟩ = some (.int .i64 d.ve) := Z5.out.j 5 _ rfl
      have j6 : W5.cell? ⟨w.heap.size + 1, 6, none⟩ = some (.bool d.sd) := Z5.out.j 6 _ rfl
      have y0 : W5.cell? ⟨w.heap.size + 1 + 1, 0, none⟩ = some (.int .i64 (gi : Int)) := Z5.out.y 0 _ rfl
      have y1 : W5.cell? ⟨w.heap.size + 1 + 1, 1, none⟩ = some (.int .i64 yx) := Z5.out.y 1 _ rfl
      have k0 : W5.cell? ⟨w.heap.size + 1 + 1 + 1 + 1, 0, none⟩ = some (.int .i64 g.c) := Z5.out.a 0 _ rfl
      have k1 : W5.cell? ⟨w.heap.size + 1 + 1 + 1 + 1, 1, none⟩ = some (.int .i64 g.m) := Z5.out.a 1 _ rfl
      go_upto_region 7 with (go_at_call 37; refine (HMA.out _ Z5.out.b).mono ?_; rintro e W6 ⟨rfl, hb6⟩; have Z6 := hidOf (Z5.out.grow hb6); clear hb6)
      clear t0 t1 t2 t3 t4 t5 t6 t7 t8 j0 j1 j2 j3 j4 j5 j6 y0 y1 k0 k1
      have z0 : W6.cell? ⟨w.heap.size + 1 + 1 + 1, 0, none⟩ = some (.int .i64 0) := Z6.out.z 0 _ rfl
      have z1 : W6.cell? ⟨w.heap.size + 1 + 1 + 1, 1, none⟩ = some (.int .i64 0) := Z6.out.z 1 _ rfl
      have z2 : W6.cell? ⟨w.heap.size + 1 + 1 + 1, 2, none⟩ = some (.int .i64 0) := Z6.out.z 2 _ rfl
      have z3 : W6.cell? ⟨w.heap.size + 1 + 1 + 1, 3, none⟩ = some (.bool false) := Z6.out.z 3 _ rfl
      have z4 : W6.cell? ⟨w.heap.size + 1 + 1 + 1, 4, none⟩ = some (.bool false) := Z6.out.z 4 _ rfl
      have z5 : W6.cell? ⟨w.heap.size + 1 + 1 + 1, 5, none⟩ = some (.int .i64 0) := Z6.out.z 5 _ rfl
      have z6 : W6.cell? ⟨w.heap.size + 1 + 1 + 1, 6, none⟩ = some (.int .i64 0) := Z6.out.z 6 _ rfl
      have z7 : W6.cell? ⟨w.heap.size + 1 + 1 + 1, 7, none⟩ = some (.int .i64 0) := Z6.out.z 7 _ rfl
      have f0 : W6.frozen? ⟨w.heap.size + 1 + 1 + 1, 0, none⟩ = false := row_fz Z6.out.r 0
      have f1 : W6.frozen? ⟨w.heap.size + 1 + 1 + 1, 1, none⟩ = false := row_fz Z6.out.r 1
      have f2 : W6.frozen? ⟨w.heap.size + 1 + 1 + 1, 2, none⟩ = false := row_fz Z6.out.r 2
      have f3 : W6.frozen? ⟨w.heap.size + 1 + 1 + 1, 3, none⟩ = false := row_fz Z6.out.r 3
      have f4 : W6.frozen? ⟨w.heap.size + 1 + 1 + 1, 4, none⟩ = false := row_fz Z6.out.r 4
      have f5 : W6.frozen? ⟨w.heap.size + 1 + 1 + 1, 5, none⟩ = false := row_fz Z6.out.r 5
      have f6 : W6.frozen? ⟨w.heap.size + 1 + 1 + 1, 6, none⟩ = false := row_fz Z6.out.r 6
      have f7 : W6.frozen? ⟨w.heap.size + 1 + 1 + 1, 7, none⟩ = false := row_fz Z6.out.r 7
      have lz : w.heap.size + 1 + 1 + 1 < W6.heap.size := lt_of_cell z0
      go_wp2
      have q := (((((((((SetB.refl (cs := [.int .i64 0, .int .i64 0, .int .i64 0, .bool false, .bool false, .int .i64 0, .int .i64 0, .int .i64 0]) Z6.out.r).step 0 (.int .i64 0)).step 1 (.int .i64 0)).step 2 (.int .i64 0)).step 3 (.bool false)).step 4 (.bool false)).step 5 (.int .i64 0)).step 6 (.int .i64 0)).step 7 (.int .i64 0))
      simp only [List.set_cons_zero, List.set_cons_succ] at q
      refine bodyPost_ret (results_nb Try.results18 _ _ (w.heap.size + 1 + 1 + 1) #[.int .i64 0, .int .i64 0, .int .i64 0, .bool false, .bool false, .int .i64 0, .int .i64 0, .int .i64 0] (.bool false) rfl rfl q.h (by kernel_rfl)) rfl ?_
      exact ⟨rfl, Z6.out.b.trans (q.bel (by omega))⟩
    | true =>
      rw [if_pos rfl]
      obtain ⟨i, hil, hat⟩ := ch_at hc
      rw [hc] at HMA
      clear hc
      rw [ndA_at hat hil]
      obtain ⟨n, hn⟩ : ∃ n, Ln[i] = n := ⟨_, rfl⟩
      rw [hn]
      go_enter Try.func18, Try.ntmps18
      go_upto_region 3 with (fail)
      obtain ⟨W5, hW5⟩ : ∃ W5, ((((w.alloc (.cells #[.int .i64 ix, .int .i64 nx, .slice a2 n2 c2, .slice a3 n3 c3, .slice a4 Ln.length c4, .slice a5 A.length c5, .slice a6 n6 c6, .slice a7 n7 c7, .slice a8 n8 c8] 29)).alloc (.cells #[.int .i64 d.id, .int .i64 d.ty, .int .i64 d.pr, .int .i64 d.pa, .slice (some ⟨b, off, none⟩) d.gs.length gc, .int .i64 d.ve, .bool d.sd] 51)).alloc (.cells #[.int .i64 (gi : Int), .int .i64 yx] 60)).alloc (.cells #[.int .i64 0, .int .i64 0, .int .i64 0, .bool false, .bool false, .int .i64 0, .int .i64 0, .int .i64 0] 46)).alloc (.cells #[.int .i64 g.c, .int .i64 g.m] 40) = W5 := ⟨_, rfl⟩
      have Z5 : Hid (NfS w W5 [.int .i64 ix, .int .i64 nx, .slice a2 n2 c2, .slice a3 n3 c3, .slice a4 Ln.length c4, .slice a5 A.length c5, .slice a6 n6 c6, .slice a7 n7 c7, .slice a8 n8 c8] [.int .i64 d.id, .int .i64 d.ty, .int .i64 d.pr, .int .i64 d.pa, .slice (some ⟨b, off, none⟩) d.gs.length gc, .int .i64 d.ve, .bool d.sd] (gi : Int) yx g.c g.m) := hidOf (by rw [← hW5]; exact ZB.out)
      try rw [hW5]
      clear hW5 ZB g1 g2 lg
      have t0 : W5.cell? ⟨w.heap.size, 0, none⟩ = some (.int .i64 ix) := Z5.out.s 0 _ rfl
      have t1 : W5.cell? ⟨w.heap.size, 1, none⟩ = some (.int .i64 nx) := Z5.out.s 1 _ rfl
      have t2 : W5.cell? ⟨w.heap.size, 2, none⟩ = some (.slice a2 n2 c2) := Z5.out.s 2 _ rfl
      have t3 : W5.cell? ⟨w.heap.size, 3, none⟩ = some (.slice a3 n3 c3) := Z5.out.s 3 _ rfl
      have t4 : W5.cell? ⟨w.heap.size, 4, none⟩ = some (.slice a4 Ln.length c4) := Z5.out.s 4 _ rfl
      have t5 : W5.cell? ⟨w.heap.size, 5, none⟩ = some (.slice a5 A.length c5) := Z5.out.s 5 _ rfl
      have t6 : W5.cell? ⟨w.heap.size, 6, none⟩ = some (.slice a6 n6 c6) := Z5.out.s 6 _ rfl
      have t7 : W5.cell? ⟨w.heap.size, 7, none⟩ = some (.slice a7 n7 c7) := Z5.out.s 7 _ rfl
      have t8 : W5.cell? ⟨w.heap.size, 8, none⟩ = some (.slice a8 n8 c8) := Z5.out.s 8 _ rfl
      have j0 : W5.cell? ⟨w.heap.size + 1, 0, none⟩ = some (.int .i64 d.id) := Z5.out.j 0 _ rfl
      have j1 : W5.cell? ⟨w.heap.size + 1, 1, none⟩ = some (.int .i64 d.ty) := Z5.out.j 1 _ rfl
      have j2 : W5.cell? ⟨w.heap.size + 1, 2, none⟩ = some (.int .i64 d.pr) := Z5.out.j 2 _ rfl
      have j3 : W5.cell? ⟨w.heap.size + 1, 3, none⟩ = some (.int .i64 d.pa) := Z5.out.j 3 _ rfl
      have j4 : W5.cell? ⟨w.heap.size + 1, 4, none⟩ = some (.slice (some ⟨b, off, none⟩) d.gs.length gc) := Z5.out.j 4 _ rfl
      have j5 : W5.cell? ⟨w.heap.size + 1, 5, none⟩ = some (.int .i64 d.ve) := Z5.out.j 5 _ rfl
      have j6 : W5.cell? ⟨w.heap.size + 1, 6, none⟩ = some (.bool d.sd) := Z5.out.j 6 _ rfl
      have y0 : W5.cell? ⟨w.heap.size + 1 + 1, 0, none⟩ = some (.int .i64 (gi : Int)) := Z5.out.y 0 _ rfl
      have y1 : W5.cell? ⟨w.heap.size + 1 + 1, 1, none⟩ = some (.int .i64 yx) := Z5.out.y 1 _ rfl
      have k0 : W5.cell? ⟨w.heap.size + 1 + 1 + 1 + 1, 0, none⟩ = some (.int .i64 g.c) := Z5.out.a 0 _ rfl
      have k1 : W5.cell? ⟨w.heap.size + 1 + 1 + 1 + 1, 1, none⟩ = some (.int .i64 g.m) := Z5.out.a 1 _ rfl
      go_upto_region 8 with (go_at_call 37; refine (HMA.out _ Z5.out.b).mono ?_; rintro e W6 ⟨rfl, hb6⟩; have Z6 := hidOf (Z5.out.grow hb6); clear hb6)
      clear t0 t1 t2 t3 t4 t5 t6 t7 t8 j0 j1 j2 j3 j4 j5 j6 y0 y1 k0 k1
      have hfa : fi (fun x : Nd => isI x.id (yx)) Ln = (i : Int) := hat
      have HN6 := hidOf (HNF.out (yx) W6.drew (Z6.out.b.trans ((bdrew W6).mono Z6.out.b.size)))
      rw [hfa] at HN6
      obtain ⟨bn, offn, han, hQn, hcn⟩ := HLN.out.at i hil
      have hQn2 : bn < w.heap.size := hQn
      rw [hn] at hcn
      subst han
      have hn0 : ¬ ((i : Int) < 0) := by omega
      have hn1 : (i : Int) < (Ln.length : Int) := by omega
      have hcr := range_of hcn (Z6.out.b.block bn hQn2)
      have e0 : W6.cell? ⟨bn, offn + i * 8, none⟩ = some (.int .i64 n.id) := hcr 0 _ rfl
      have e1 : W6.cell? ⟨bn, offn + i * 8 + 1, none⟩ = some (.int .i64 n.c) := hcr 1 _ rfl
      have e2 : W6.cell? ⟨bn, offn + i * 8 + 2, none⟩ = some (.int .i64 n.m) := hcr 2 _ rfl
      have e3 : W6.cell? ⟨bn, offn + i * 8 + 3, none⟩ = some (.bool n.up) := hcr 3 _ rfl
      have e4 : W6.cell? ⟨bn, offn + i * 8 + 4, none⟩ = some (.bool n.dr) := hcr 4 _ rfl
      have e5 : W6.cell? ⟨bn, offn + i * 8 + 5, none⟩ = some (.int .i64 n.bo) := hcr 5 _ rfl
      have e6 : W6.cell? ⟨bn, offn + i * 8 + 6, none⟩ = some (.int .i64 n.ep) := hcr 6 _ rfl
      have e7 : W6.cell? ⟨bn, offn + i * 8 + 7, none⟩ = some (.int .i64 n.se) := hcr 7 _ rfl
      have t0 : W6.cell? ⟨w.heap.size, 0, none⟩ = some (.int .i64 ix) := Z6.out.s 0 _ rfl
      have t1 : W6.cell? ⟨w.heap.size, 1, none⟩ = some (.int .i64 nx) := Z6.out.s 1 _ rfl
      have t2 : W6.cell? ⟨w.heap.size, 2, none⟩ = some (.slice a2 n2 c2) := Z6.out.s 2 _ rfl
      have t3 : W6.cell? ⟨w.heap.size, 3, none⟩ = some (.slice a3 n3 c3) := Z6.out.s 3 _ rfl
      have t4 : W6.cell? ⟨w.heap.size, 4, none⟩ = some (.slice (some ⟨bn, offn, none⟩) Ln.length c4) := Z6.out.s 4 _ rfl
      have t5 : W6.cell? ⟨w.heap.size, 5, none⟩ = some (.slice a5 A.length c5) := Z6.out.s 5 _ rfl
      have t6 : W6.cell? ⟨w.heap.size, 6, none⟩ = some (.slice a6 n6 c6) := Z6.out.s 6 _ rfl
      have t7 : W6.cell? ⟨w.heap.size, 7, none⟩ = some (.slice a7 n7 c7) := Z6.out.s 7 _ rfl
      have t8 : W6.cell? ⟨w.heap.size, 8, none⟩ = some (.slice a8 n8 c8) := Z6.out.s 8 _ rfl
      have l0 : w.heap.size < W6.heap.size := lt_of_cell t0
      have ln : bn < W6.heap.size := lt_of_cell e0
      clear hcn hcr hQn hfa hat HNF HLN
      have hA0 : w.heap.size ≠ w.heap.size + 1 + 1 + 1 := by omega
      have hAn : bn ≠ w.heap.size + 1 + 1 + 1 := by omega
      have KB := hidOf (fun (W : World) (hb : Below W6.heap.size W6 W) => (show (fun (Y : World) => Y.cell? ⟨w.heap.size, 0, none⟩ = some (.int .i64 ix) ∧ Y.cell? ⟨w.heap.size, 1, none⟩ = some (.int .i64 nx) ∧ Y.cell? ⟨w.heap.size, 2, none⟩ = some (.slice a2 n2 c2) ∧ Y.cell? ⟨w.heap.size, 3, none⟩ = some (.slice a3 n3 c3) ∧ Y.cell? ⟨w.heap.size, 4, none⟩ = some (.slice (some ⟨bn, offn, none⟩) Ln.length c4) ∧ Y.cell? ⟨w.heap.size, 5, none⟩ = some (.slice a5 A.length c5) ∧ Y.cell? ⟨w.heap.size, 6, none⟩ = some (.slice a6 n6 c6) ∧ Y.cell? ⟨w.heap.size, 7, none⟩ = some (.slice a7 n7 c7) ∧ Y.cell? ⟨w.heap.size, 8, none⟩ = some (.slice a8 n8 c8) ∧ Y.cell? ⟨bn, offn + i * 8, none⟩ = some (.int .i64 n.id) ∧ Y.cell? ⟨bn, offn + i * 8 + 1, none⟩ = some (.int .i64 n.c) ∧ Y.cell? ⟨bn, offn + i * 8 + 2, none⟩ = some (.int .i64 n.m) ∧ Y.cell? ⟨bn, offn + i * 8 + 3, none⟩ = some (.bool n.up) ∧ Y.cell? ⟨bn, offn + i * 8 + 4, none⟩ = some (.bool n.dr) ∧ Y.cell? ⟨bn, offn + i * 8 + 5, none⟩ = some (.int .i64 n.bo) ∧ Y.cell? ⟨bn, offn + i * 8 + 6, none⟩ = some (.int .i64 n.ep) ∧ Y.cell? ⟨bn, offn + i * 8 + 7, none⟩ = some (.int .i64 n.se)) W from ⟨(hb_cell hb l0).trans t0, (hb_cell hb l0).trans t1, (hb_cell hb l0).trans t2, (hb_cell hb l0).trans t3, (hb_cell hb l0).trans t4, (hb_cell hb l0).trans t5, (hb_cell hb l0).trans t6, (hb_cell hb l0).trans t7, (hb_cell hb l0).trans t8, (hb_cell hb ln).trans e0, (hb_cell hb ln).trans e1, (hb_cell hb ln).trans e2, (hb_cell hb ln).trans e3, (hb_cell hb ln).trans e4, (hb_cell hb ln).trans e5, (hb_cell hb ln).trans e6, (hb_cell hb ln).trans e7⟩))
      have KS := hidOf (fun (W W2 : World) (h : (fun (Y : World) => Y.cell? ⟨w.heap.size, 0, none⟩ = some (.int .i64 ix) ∧ Y.cell? ⟨w.heap.size, 1, none⟩ = some (.int .i64 nx) ∧ Y.cell? ⟨w.heap.size, 2, none⟩ = some (.slice a2 n2 c2) ∧ Y.cell? ⟨w.heap.size, 3, none⟩ = some (.slice a3 n3 c3) ∧ Y.cell? ⟨w.heap.size, 4, none⟩ = some (.slice (some ⟨bn, offn, none⟩) Ln.length c4) ∧ Y.cell? ⟨w.heap.size, 5, none⟩ = some (.slice a5 A.length c5) ∧ Y.cell? ⟨w.heap.size, 6, none⟩ = some (.slice a6 n6 c6) ∧ Y.cell? ⟨w.heap.size, 7, none⟩ = some (.slice a7 n7 c7) ∧ Y.cell? ⟨w.heap.size, 8, none⟩ = some (.slice a8 n8 c8) ∧ Y.cell? ⟨bn, offn + i * 8, none⟩ = some (.int .i64 n.id) ∧ Y.cell? ⟨bn, offn + i * 8 + 1, none⟩ = some (.int .i64 n.c) ∧ Y.cell? ⟨bn, offn + i * 8 + 2, none⟩ = some (.int .i64 n.m) ∧ Y.cell? ⟨bn, offn + i * 8 + 3, none⟩ = some (.bool n.up) ∧ Y.cell? ⟨bn, offn + i * 8 + 4, none⟩ = some (.bool n.dr) ∧ Y.cell? ⟨bn, offn + i * 8 + 5, none⟩ = some (.int .i64 n.bo) ∧ Y.cell? ⟨bn, offn + i * 8 + 6, none⟩ = some (.int .i64 n.ep) ∧ Y.cell? ⟨bn, offn + i * 8 + 7, none⟩ = some (.int .i64 n.se)) W) (ho : ∀ x, x ≠ w.heap.size + 1 + 1 + 1 → W2.heap[x]? = W.heap[x]?) => (show (fun (Y : World) => Y.cell? ⟨w.heap.size, 0, none⟩ = some (.int .i64 ix) ∧ Y.cell? ⟨w.heap.size, 1, none⟩ = some (.int .i64 nx) ∧ Y.cell? ⟨w.heap.size, 2, none⟩ = some (.slice a2 n2 c2) ∧ Y.cell? ⟨w.heap.size, 3, none⟩ = some (.slice a3 n3 c3) ∧ Y.cell? ⟨w.heap.size, 4, none⟩ = some (.slice (some ⟨bn, offn, none⟩) Ln.length c4) ∧ Y.cell? ⟨w.heap.size, 5, none⟩ = some (.slice a5 A.length c5) ∧ Y.cell? ⟨w.heap.size, 6, none⟩ = some (.slice a6 n6 c6) ∧ Y.cell? ⟨w.heap.size, 7, none⟩ = some (.slice a7 n7 c7) ∧ Y.cell? ⟨w.heap.size, 8, none⟩ = some (.slice a8 n8 c8) ∧ Y.cell? ⟨bn, offn + i * 8, none⟩ = some (.int .i64 n.id) ∧ Y.cell? ⟨bn, offn + i * 8 + 1, none⟩ = some (.int .i64 n.c) ∧ Y.cell? ⟨bn, offn + i * 8 + 2, none⟩ = some (.int .i64 n.m) ∧ Y.cell? ⟨bn, offn + i * 8 + 3, none⟩ = some (.bool n.up) ∧ Y.cell? ⟨bn, offn + i * 8 + 4, none⟩ = some (.bool n.dr) ∧ Y.cell? ⟨bn, offn + i * 8 + 5, none⟩ = some (.int .i64 n.bo) ∧ Y.cell? ⟨bn, offn + i * 8 + 6, none⟩ = some (.int .i64 n.ep) ∧ Y.cell? ⟨bn, offn + i * 8 + 7, none⟩ = some (.int .i64 n.se)) W2 from ⟨(World.cell?_of_block (ho _ hA0)).trans h.1, (World.cell?_of_block (ho _ hA0)).trans h.2.1, (World.cell?_of_block (ho _ hA0)).trans h.2.2.1, (World.cell?_of_block (ho _ hA0)).trans h.2.2.2.1, (World.cell?_of_block (ho _ hA0)).trans h.2.2.2.2.1, (World.cell?_of_block (ho _ hA0)).trans h.2.2.2.2.2.1, (World.cell?_of_block (ho _ hA0)).trans h.2.2.2.2.2.2.1, (World.cell?_of_block (ho _ hA0)).trans h.2.2.2.2.2.2.2.1, (World.cell?_of_block (ho _ hA0)).trans h.2.2.2.2.2.2.2.2.1, (World.cell?_of_block (ho _ hAn)).trans h.2.2.2.2.2.2.2.2.2.1, (World.cell?_of_block (ho _ hAn)).trans h.2.2.2.2.2.2.2.2.2.2.1, (World.cell?_of_block (ho _ hAn)).trans h.2.2.2.2.2.2.2.2.2.2.2.1, (World.cell?_of_block (ho _ hAn)).trans h.2.2.2.2.2.2.2.2.2.2.2.2.1, (World.cell?_of_block (ho _ hAn)).trans h.2.2.2.2.2.2.2.2.2.2.2.2.2.1, (World.cell?_of_block (ho _ hAn)).trans h.2.2.2.2.2.2.2.2.2.2.2.2.2.2.1, (World.cell?_of_block (ho _ hAn)).trans h.2.2.2.2.2.2.2.2.2.2.2.2.2.2.2.1, (World.cell?_of_block (ho _ hAn)).trans h.2.2.2.2.2.2.2.2.2.2.2.2.2.2.2.2⟩))
      go_region_held3 (fun (Y : World) => Y.cell? ⟨w.heap.size, 0, none⟩ = some (.int .i64 ix) ∧ Y.cell? ⟨w.heap.size, 1, none⟩ = some (.int .i64 nx) ∧ Y.cell? ⟨w.heap.size, 2, none⟩ = some (.slice a2 n2 c2) ∧ Y.cell? ⟨w.heap.size, 3, none⟩ = some (.slice a3 n3 c3) ∧ Y.cell? ⟨w.heap.size, 4, none⟩ = some (.slice (some ⟨bn, offn, none⟩) Ln.length c4) ∧ Y.cell? ⟨w.heap.size, 5, none⟩ = some (.slice a5 A.length c5) ∧ Y.cell? ⟨w.heap.size, 6, none⟩ = some (.slice a6 n6 c6) ∧ Y.cell? ⟨w.heap.size, 7, none⟩ = some (.slice a7 n7 c7) ∧ Y.cell? ⟨w.heap.size, 8, none⟩ = some (.slice a8 n8 c8) ∧ Y.cell? ⟨bn, offn + i * 8, none⟩ = some (.int .i64 n.id) ∧ Y.cell? ⟨bn, offn + i * 8 + 1, none⟩ = some (.int .i64 n.c) ∧ Y.cell? ⟨bn, offn + i * 8 + 2, none⟩ = some (.int .i64 n.m) ∧ Y.cell? ⟨bn, offn + i * 8 + 3, none⟩ = some (.bool n.up) ∧ Y.cell? ⟨bn, offn + i * 8 + 4, none⟩ = some (.bool n.dr) ∧ Y.cell? ⟨bn, offn + i * 8 + 5, none⟩ = some (.int .i64 n.bo) ∧ Y.cell? ⟨bn, offn + i * 8 + 6, none⟩ = some (.int .i64 n.ep) ∧ Y.cell? ⟨bn, offn + i * 8 + 7, none⟩ = some (.int .i64 n.se)) (first | with_reducible exact KB.out _ HYB.out | with_reducible exact KS.out W7 _ (KB.out _ HYB.out) QS.o | go_keep) (first | (go_at_call 39; refine HN6.out.mono ?_; rintro e W7 ⟨rfl, hb7⟩; have HYB := hidOf ((bdrew W6).trans (hb7.mono (bdrew W6).size)); have Z7 := hidOf (Z6.out.grow HYB.out); have QS := (((((((((SetB.refl (cs := [.int .i64 0, .int .i64 0, .int .i64 0, .bool false, .bool false, .int .i64 0, .int .i64 0, .int .i64 0]) Z7.out.r).step 0 (.int .i64 n.id)).step 1 (.int .i64 n.c)).step 2 (.int .i64 n.m)).step 3 (.bool n.up)).step 4 (.bool n.dr)).step 5 (.int .i64 n.bo)).step 6 (.int .i64 n.ep)).step 7 (.int .i64 n.se)); have z0 : W7.cell? ⟨w.heap.size + 1 + 1 + 1, 0, none⟩ = some (.int .i64 0) := Z7.out.z 0 _ rfl; have z1 : W7.cell? ⟨w.heap.size + 1 + 1 + 1, 1, none⟩ = some (.int .i64 0) := Z7.out.z 1 _ rfl; have z2 : W7.cell? ⟨w.heap.size + 1 + 1 + 1, 2, none⟩ = some (.int .i64 0) := Z7.out.z 2 _ rfl; have z3 : W7.cell? ⟨w.heap.size + 1 + 1 + 1, 3, none⟩ = some (.bool false) := Z7.out.z 3 _ rfl; have z4 : W7.cell? ⟨w.heap.size + 1 + 1 + 1, 4, none⟩ = some (.bool false) := Z7.out.z 4 _ rfl; have z5 : W7.cell? ⟨w.heap.size + 1 + 1 + 1, 5, none⟩ = some (.int .i64 0) := Z7.out.z 5 _ rfl; have z6 : W7.cell? ⟨w.heap.size + 1 + 1 + 1, 6, none⟩ = some (.int .i64 0) := Z7.out.z 6 _ rfl; have z7 : W7.cell? ⟨w.heap.size + 1 + 1 + 1, 7, none⟩ = some (.int .i64 0) := Z7.out.z 7 _ rfl; have f0 : W7.frozen? ⟨w.heap.size + 1 + 1 + 1, 0, none⟩ = false := row_fz Z7.out.r 0; have f1 : W7.frozen? ⟨w.heap.size + 1 + 1 + 1, 1, none⟩ = false := row_fz Z7.out.r 1; have f2 : W7.frozen? ⟨w.heap.size + 1 + 1 + 1, 2, none⟩ = false := row_fz Z7.out.r 2; have f3 : W7.frozen? ⟨w.heap.size + 1 + 1 + 1, 3, none⟩ = false := row_fz Z7.out.r 3; have f4 : W7.frozen? ⟨w.heap.size + 1 + 1 + 1, 4, none⟩ = false := row_fz Z7.out.r 4; have f5 : W7.frozen? ⟨w.heap.size + 1 + 1 + 1, 5, none⟩ = false := row_fz Z7.out.r 5; have f6 : W7.frozen? ⟨w.heap.size + 1 + 1 + 1, 6, none⟩ = false := row_fz Z7.out.r 6; have f7 : W7.frozen? ⟨w.heap.size + 1 + 1 + 1, 7, none⟩ = false := row_fz Z7.out.r 7; have lz : w.heap.size + 1 + 1 + 1 < W7.heap.size := lt_of_cell z0; clear hb7))
      clear KB KS t0 e0 t1 e1 t2 e2 t3 e3 t4 e4 t5 e5 t6 e6 t7 e7 t8
      have q := QS
      simp only [List.set_cons_zero, List.set_cons_succ] at q
      clear QS
      go_wp2
      refine bodyPost_ret (results_nb Try.results18 _ _ (w.heap.size + 1 + 1 + 1) #[.int .i64 n.id, .int .i64 n.c, .int .i64 n.m, .bool n.up, .bool n.dr, .int .i64 n.bo, .int .i64 n.ep, .int .i64 n.se] (.bool true) rfl rfl (by exact q.h) (by kernel_rfl)) rfl ?_
      exact ⟨rfl, Z7.out.b.trans (q.bel (by omega))⟩
  · have hq : (d.ty == 3) = false := by simp [hty]
    rw [if_neg hty]
    clear hty HMA
    cases hc : bV Ln A M g.c g.m with
    | none =>
      rw [Option.map_none]
      rw [hc] at HBE
      simp only [Option.isSome_none, bI] at HBE
      clear hc
      go_enter Try.func18, Try.ntmps18
      go_upto_region 3 with (fail)
      obtain ⟨W5, hW5⟩ : ∃ W5, ((((w.alloc (.cells #[.int .i64 ix, .int .i64 nx, .slice a2 n2 c2, .slice a3 n3 c3, .slice a4 Ln.length c4, .slice a5 A.length c5, .slice a6 n6 c6, .slice a7 n7 c7, .slice a8 n8 c8] 29)).alloc (.cells #[.int .i64 d.id, .int .i64 d.ty, .int .i64 d.pr, .int .i64 d.pa, .slice (some ⟨b, off, none⟩) d.gs.length gc, .int .i64 d.ve, .bool d.sd] 51)).alloc (.cells #[.int .i64 (gi : Int), .int .i64 yx] 60)).alloc (.cells #[.int .i64 0, .int .i64 0, .int .i64 0, .bool false, .bool false, .int .i64 0, .int .i64 0, .int .i64 0] 46)).alloc (.cells #[.int .i64 g.c, .int .i64 g.m] 40) = W5 := ⟨_, rfl⟩
      have Z5 : Hid (NfS w W5 [.int .i64 ix, .int .i64 nx, .slice a2 n2 c2, .slice a3 n3 c3, .slice a4 Ln.length c4, .slice a5 A.length c5, .slice a6 n6 c6, .slice a7 n7 c7, .slice a8 n8 c8] [.int .i64 d.id, .int .i64 d.ty, .int .i64 d.pr, .int .i64 d.pa, .slice (some ⟨b, off, none⟩) d.gs.length gc, .int .i64 d.ve, .bool d.sd] (gi : Int) yx g.c g.m) := hidOf (by rw [← hW5]; exact ZB.out)
      try rw [hW5]
      clear hW5 ZB g1 g2 lg
      have t0 : W5.cell? ⟨w.heap.size, 0, none⟩ = some (.int .i64 ix) := Z5.out.s 0 _ rfl
      have t1 : W5.cell? ⟨w.heap.size, 1, none⟩ = some (.int .i64 nx) := Z5.out.s 1 _ rfl
      have t2 : W5.cell? ⟨w.heap.size, 2, none⟩ = some (.slice a2 n2 c2) := Z5.out.s 2 _ rfl
      have t3 : W5.cell? ⟨w.heap.size, 3, none⟩ = some (.slice a3 n3 c3) := Z5.out.s 3 _ rfl
      have t4 : W5.cell? ⟨w.heap.size, 4, none⟩ = some (.slice a4 Ln.length c4) := Z5.out.s 4 _ rfl
      have t5 : W5.cell? ⟨w.heap.size, 5, none⟩ = some (.slice a5 A.length c5) := Z5.out.s 5 _ rfl
      have t6 : W5.cell? ⟨w.heap.size, 6, none⟩ = some (.slice a6 n6 c6) := Z5.out.s 6 _ rfl
      have t7 : W5.cell? ⟨w.heap.size, 7, none⟩ = some (.slice a7 n7 c7) := Z5.out.s 7 _ rfl
      have t8 : W5.cell? ⟨w.heap.size, 8, none⟩ = some (.slice a8 n8 c8) := Z5.out.s 8 _ rfl
      have j0 : W5.cell? ⟨w.heap.size + 1, 0, none⟩ = some (.int .i64 d.id) := Z5.out.j 0 _ rfl
      have j1 : W5.cell? ⟨w.heap.size + 1, 1, none⟩ = some (.int .i64 d.ty) := Z5.out.j 1 _ rfl
      have j2 : W5.cell? ⟨w.heap.size + 1, 2, none⟩ = some (.int .i64 d.pr) := Z5.out.j 2 _ rfl
      have j3 : W5.cell? ⟨w.heap.size + 1, 3, none⟩ = some (.int .i64 d.pa) := Z5.out.j 3 _ rfl
      have j4 : W5.cell? ⟨w.heap.size + 1, 4, none⟩ = some (.slice (some ⟨b, off, none⟩) d.gs.length gc) := Z5.out.j 4 _ rfl
      have j5 : W5.cell? ⟨w.heap.size + 1, 5, none⟩ = some (.int .i64 d.ve) := Z5.out.j 5 _ rfl
      have j6 : W5.cell? ⟨w.heap.size + 1, 6, none⟩ = some (.bool d.sd) := Z5.out.j 6 _ rfl
      have y0 : W5.cell? ⟨w.heap.size + 1 + 1, 0, none⟩ = some (.int .i64 (gi : Int)) := Z5.out.y 0 _ rfl
      have y1 : W5.cell? ⟨w.heap.size + 1 + 1, 1, none⟩ = some (.int .i64 yx) := Z5.out.y 1 _ rfl
      have k0 : W5.cell? ⟨w.heap.size + 1 + 1 + 1 + 1, 0, none⟩ = some (.int .i64 g.c) := Z5.out.a 0 _ rfl
      have k1 : W5.cell? ⟨w.heap.size + 1 + 1 + 1 + 1, 1, none⟩ = some (.int .i64 g.m) := Z5.out.a 1 _ rfl
      go_upto_region 7 with (go_at_call 38; refine (HBE.out _ Z5.out.b).mono ?_; rintro e W6 ⟨rfl, hb6⟩; have Z6 := hidOf (Z5.out.grow hb6); clear hb6)
      clear t0 t1 t2 t3 t4 t5 t6 t7 t8 j0 j1 j2 j3 j4 j5 j6 y0 y1 k0 k1
      have z0 : W6.cell? ⟨w.heap.size + 1 + 1 + 1, 0, none⟩ = some (.int .i64 0) := Z6.out.z 0 _ rfl
      have z1 : W6.cell? ⟨w.heap.size + 1 + 1 + 1, 1, none⟩ = some (.int .i64 0) := Z6.out.z 1 _ rfl
      have z2 : W6.cell? ⟨w.heap.size + 1 + 1 + 1, 2, none⟩ = some (.int .i64 0) := Z6.out.z 2 _ rfl
      have z3 : W6.cell? ⟨w.heap.size + 1 + 1 + 1, 3, none⟩ = some (.bool false) := Z6.out.z 3 _ rfl
      have z4 : W6.cell? ⟨w.heap.size + 1 + 1 + 1, 4, none⟩ = some (.bool false) := Z6.out.z 4 _ rfl
      have z5 : W6.cell? ⟨w.heap.size + 1 + 1 + 1, 5, none⟩ = some (.int .i64 0) := Z6.out.z 5 _ rfl
      have z6 : W6.cell? ⟨w.heap.size + 1 + 1 + 1, 6, none⟩ = some (.int .i64 0) := Z6.out.z 6 _ rfl
      have z7 : W6.cell? ⟨w.heap.size + 1 + 1 + 1, 7, none⟩ = some (.int .i64 0) := Z6.out.z 7 _ rfl
      have f0 : W6.frozen? ⟨w.heap.size + 1 + 1 + 1, 0, none⟩ = false := row_fz Z6.out.r 0
      have f1 : W6.frozen? ⟨w.heap.size + 1 + 1 + 1, 1, none⟩ = false := row_fz Z6.out.r 1
      have f2 : W6.frozen? ⟨w.heap.size + 1 + 1 + 1, 2, none⟩ = false := row_fz Z6.out.r 2
      have f3 : W6.frozen? ⟨w.heap.size + 1 + 1 + 1, 3, none⟩ = false := row_fz Z6.out.r 3
      have f4 : W6.frozen? ⟨w.heap.size + 1 + 1 + 1, 4, none⟩ = false := row_fz Z6.out.r 4
      have f5 : W6.frozen? ⟨w.heap.size + 1 + 1 + 1, 5, none⟩ = false := row_fz Z6.out.r 5
      have f6 : W6.frozen? ⟨w.heap.size + 1 + 1 + 1, 6, none⟩ = false := row_fz Z6.out.r 6
      have f7 : W6.frozen? ⟨w.heap.size + 1 + 1 + 1, 7, none⟩ = false := row_fz Z6.out.r 7
      have lz : w.heap.size + 1 + 1 + 1 < W6.heap.size := lt_of_cell z0
      go_wp2
      have q := (((((((((SetB.refl (cs := [.int .i64 0, .int .i64 0, .int .i64 0, .bool false, .bool false, .int .i64 0, .int .i64 0, .int .i64 0]) Z6.out.r).step 0 (.int .i64 0)).step 1 (.int .i64 0)).step 2 (.int .i64 0)).step 3 (.bool false)).step 4 (.bool false)).step 5 (.int .i64 0)).step 6 (.int .i64 0)).step 7 (.int .i64 0))
      simp only [List.set_cons_zero, List.set_cons_succ] at q
      refine bodyPost_ret (results_nb Try.results18 _ _ (w.heap.size + 1 + 1 + 1) #[.int .i64 0, .int .i64 0, .int .i64 0, .bool false, .bool false, .int .i64 0, .int .i64 0, .int .i64 0] (.bool false) rfl rfl q.h (by kernel_rfl)) rfl ?_
      exact ⟨rfl, Z6.out.b.trans (q.bel (by omega))⟩
    | some z =>
      rw [Option.map_some]
      have hbi := HBI.out z hc
      obtain ⟨i, hil, hat⟩ := ch_at (M := M) (A := A) (a := g.c) (b := g.m) (by rw [hbi]; rfl)
      clear hbi
      rw [hc] at HBE
      simp only [Option.isSome_some, bI] at HBE
      clear hc
      rw [ndA_at hat hil]
      obtain ⟨n, hn⟩ : ∃ n, Ln[i] = n := ⟨_, rfl⟩
      rw [hn]
      go_enter Try.func18, Try.ntmps18
      go_upto_region 3 with (fail)
      obtain ⟨W5, hW5⟩ : ∃ W5, ((((w.alloc (.cells #[.int .i64 ix, .int .i64 nx, .slice a2 n2 c2, .slice a3 n3 c3, .slice a4 Ln.length c4, .slice a5 A.length c5, .slice a6 n6 c6, .slice a7 n7 c7, .slice a8 n8 c8] 29)).alloc (.cells #[.int .i64 d.id, .int .i64 d.ty, .int .i64 d.pr, .int .i64 d.pa, .slice (some ⟨b, off, none⟩) d.gs.length gc, .int .i64 d.ve, .bool d.sd] 51)).alloc (.cells #[.int .i64 (gi : Int), .int .i64 yx] 60)).alloc (.cells #[.int .i64 0, .int .i64 0, .int .i64 0, .bool false, .bool false, .int .i64 0, .int .i64 0, .int .i64 0] 46)).alloc (.cells #[.int .i64 g.c, .int .i64 g.m] 40) = W5 := ⟨_, rfl⟩
      have Z5 : Hid (NfS w W5 [.int .i64 ix, .int .i64 nx, .slice a2 n2 c2, .slice a3 n3 c3, .slice a4 Ln.length c4, .slice a5 A.length c5, .slice a6 n6 c6, .slice a7 n7 c7, .slice a8 n8 c8] [.int .i64 d.id, .int .i64 d.ty, .int .i64 d.pr, .int .i64 d.pa, .slice (some ⟨b, off, none⟩) d.gs.length gc, .int .i64 d.ve, .bool d.sd] (gi : Int) yx g.c g.m) := hidOf (by rw [← hW5]; exact ZB.out)
      try rw [hW5]
      clear hW5 ZB g1 g2 lg
      have t0 : W5.cell? ⟨w.heap.size, 0, none⟩ = some (.int .i64 ix) := Z5.out.s 0 _ rfl
      have t1 : W5.cell? ⟨w.heap.size, 1, none⟩ = some (.int .i64 nx) := Z5.out.s 1 _ rfl
      have t2 : W5.cell? ⟨w.heap.size, 2, none⟩ = some (.slice a2 n2 c2) := Z5.out.s 2 _ rfl
      have t3 : W5.cell? ⟨w.heap.size, 3, none⟩ = some (.slice a3 n3 c3) := Z5.out.s 3 _ rfl
      have t4 : W5.cell? ⟨w.heap.size, 4, none⟩ = some (.slice a4 Ln.length c4) := Z5.out.s 4 _ rfl
      have t5 : W5.cell? ⟨w.heap.size, 5, none⟩ = some (.slice a5 A.length c5) := Z5.out.s 5 _ rfl
      have t6 : W5.cell? ⟨w.heap.size, 6, none⟩ = some (.slice a6 n6 c6) := Z5.out.s 6 _ rfl
      have t7 : W5.cell? ⟨w.heap.size, 7, none⟩ = some (.slice a7 n7 c7) := Z5.out.s 7 _ rfl
      have t8 : W5.cell? ⟨w.heap.size, 8, none⟩ = some (.slice a8 n8 c8) := Z5.out.s 8 _ rfl
      have j0 : W5.cell? ⟨w.heap.size + 1, 0, none⟩ = some (.int .i64 d.id) := Z5.out.j 0 _ rfl
      have j1 : W5.cell? ⟨w.heap.size + 1, 1, none⟩ = some (.int .i64 d.ty) := Z5.out.j 1 _ rfl
      have j2 : W5.cell? ⟨w.heap.size + 1, 2, none⟩ = some (.int .i64 d.pr) := Z5.out.j 2 _ rfl
      have j3 : W5.cell? ⟨w.heap.size + 1, 3, none⟩ = some (.int .i64 d.pa) := Z5.out.j 3 _ rfl
      have j4 : W5.cell? ⟨w.heap.size + 1, 4, none⟩ = some (.slice (some ⟨b, off, none⟩) d.gs.length gc) := Z5.out.j 4 _ rfl
      have j5 : W5.cell? ⟨w.heap.size + 1, 5, none⟩ = some (.int .i64 d.ve) := Z5.out.j 5 _ rfl
      have j6 : W5.cell? ⟨w.heap.size + 1, 6, none⟩ = some (.bool d.sd) := Z5.out.j 6 _ rfl
      have y0 : W5.cell? ⟨w.heap.size + 1 + 1, 0, none⟩ = some (.int .i64 (gi : Int)) := Z5.out.y 0 _ rfl
      have y1 : W5.cell? ⟨w.heap.size + 1 + 1, 1, none⟩ = some (.int .i64 yx) := Z5.out.y 1 _ rfl
      have k0 : W5.cell? ⟨w.heap.size + 1 + 1 + 1 + 1, 0, none⟩ = some (.int .i64 g.c) := Z5.out.a 0 _ rfl
      have k1 : W5.cell? ⟨w.heap.size + 1 + 1 + 1 + 1, 1, none⟩ = some (.int .i64 g.m) := Z5.out.a 1 _ rfl
      go_upto_region 8 with (go_at_call 38; refine (HBE.out _ Z5.out.b).mono ?_; rintro e W6 ⟨rfl, hb6⟩; have Z6 := hidOf (Z5.out.grow hb6); clear hb6)
      clear t0 t1 t2 t3 t4 t5 t6 t7 t8 j0 j1 j2 j3 j4 j5 j6 y0 y1 k0 k1
      have hfa : fi (fun x : Nd => isI x.id (z.1)) Ln = (i : Int) := hat
      have HN6 := hidOf (HNF.out (z.1) W6.drew (Z6.out.b.trans ((bdrew W6).mono Z6.out.b.size)))
      rw [hfa] at HN6
      obtain ⟨bn, offn, han, hQn, hcn⟩ := HLN.out.at i hil
      have hQn2 : bn < w.heap.size := hQn
      rw [hn] at hcn
      subst han
      have hn0 : ¬ ((i : Int) < 0) := by omega
      have hn1 : (i : Int) < (Ln.length : Int) := by omega
      have hcr := range_of hcn (Z6.out.b.block bn hQn2)
      have e0 : W6.cell? ⟨bn, offn + i * 8, none⟩ = some (.int .i64 n.id) := hcr 0 _ rfl
      have e1 : W6.cell? ⟨bn, offn + i * 8 + 1, none⟩ = some (.int .i64 n.c) := hcr 1 _ rfl
      have e2 : W6.cell? ⟨bn, offn + i * 8 + 2, none⟩ = some (.int .i64 n.m) := hcr 2 _ rfl
      have e3 : W6.cell? ⟨bn, offn + i * 8 + 3, none⟩ = some (.bool n.up) := hcr 3 _ rfl
      have e4 : W6.cell? ⟨bn, offn + i * 8 + 4, none⟩ = some (.bool n.dr) := hcr 4 _ rfl
      have e5 : W6.cell? ⟨bn, offn + i * 8 + 5, none⟩ = some (.int .i64 n.bo) := hcr 5 _ rfl
      have e6 : W6.cell? ⟨bn, offn + i * 8 + 6, none⟩ = some (.int .i64 n.ep) := hcr 6 _ rfl
      have e7 : W6.cell? ⟨bn, offn + i * 8 + 7, none⟩ = some (.int .i64 n.se) := hcr 7 _ rfl
      have t0 : W6.cell? ⟨w.heap.size, 0, none⟩ = some (.int .i64 ix) := Z6.out.s 0 _ rfl
      have t1 : W6.cell? ⟨w.heap.size, 1, none⟩ = some (.int .i64 nx) := Z6.out.s 1 _ rfl
      have t2 : W6.cell? ⟨w.heap.size, 2, none⟩ = some (.slice a2 n2 c2) := Z6.out.s 2 _ rfl
      have t3 : W6.cell? ⟨w.heap.size, 3, none⟩ = some (.slice a3 n3 c3) := Z6.out.s 3 _ rfl
      have t4 : W6.cell? ⟨w.heap.size, 4, none⟩ = some (.slice (some ⟨bn, offn, none⟩) Ln.length c4) := Z6.out.s 4 _ rfl
      have t5 : W6.cell? ⟨w.heap.size, 5, none⟩ = some (.slice a5 A.length c5) := Z6.out.s 5 _ rfl
      have t6 : W6.cell? ⟨w.heap.size, 6, none⟩ = some (.slice a6 n6 c6) := Z6.out.s 6 _ rfl
      have t7 : W6.cell? ⟨w.heap.size, 7, none⟩ = some (.slice a7 n7 c7) := Z6.out.s 7 _ rfl
      have t8 : W6.cell? ⟨w.heap.size, 8, none⟩ = some (.slice a8 n8 c8) := Z6.out.s 8 _ rfl
      have l0 : w.heap.size < W6.heap.size := lt_of_cell t0
      have ln : bn < W6.heap.size := lt_of_cell e0
      clear hcn hcr hQn hfa hat HNF HLN
      have hA0 : w.heap.size ≠ w.heap.size + 1 + 1 + 1 := by omega
      have hAn : bn ≠ w.heap.size + 1 + 1 + 1 := by omega
      have KB := hidOf (fun (W : World) (hb : Below W6.heap.size W6 W) => (show (fun (Y : World) => Y.cell? ⟨w.heap.size, 0, none⟩ = some (.int .i64 ix) ∧ Y.cell? ⟨w.heap.size, 1, none⟩ = some (.int .i64 nx) ∧ Y.cell? ⟨w.heap.size, 2, none⟩ = some (.slice a2 n2 c2) ∧ Y.cell? ⟨w.heap.size, 3, none⟩ = some (.slice a3 n3 c3) ∧ Y.cell? ⟨w.heap.size, 4, none⟩ = some (.slice (some ⟨bn, offn, none⟩) Ln.length c4) ∧ Y.cell? ⟨w.heap.size, 5, none⟩ = some (.slice a5 A.length c5) ∧ Y.cell? ⟨w.heap.size, 6, none⟩ = some (.slice a6 n6 c6) ∧ Y.cell? ⟨w.heap.size, 7, none⟩ = some (.slice a7 n7 c7) ∧ Y.cell? ⟨w.heap.size, 8, none⟩ = some (.slice a8 n8 c8) ∧ Y.cell? ⟨bn, offn + i * 8, none⟩ = some (.int .i64 n.id) ∧ Y.cell? ⟨bn, offn + i * 8 + 1, none⟩ = some (.int .i64 n.c) ∧ Y.cell? ⟨bn, offn + i * 8 + 2, none⟩ = some (.int .i64 n.m) ∧ Y.cell? ⟨bn, offn + i * 8 + 3, none⟩ = some (.bool n.up) ∧ Y.cell? ⟨bn, offn + i * 8 + 4, none⟩ = some (.bool n.dr) ∧ Y.cell? ⟨bn, offn + i * 8 + 5, none⟩ = some (.int .i64 n.bo) ∧ Y.cell? ⟨bn, offn + i * 8 + 6, none⟩ = some (.int .i64 n.ep) ∧ Y.cell? ⟨bn, offn + i * 8 + 7, none⟩ = some (.int .i64 n.se)) W from ⟨(hb_cell hb l0).trans t0, (hb_cell hb l0).trans t1, (hb_cell hb l0).trans t2, (hb_cell hb l0).trans t3, (hb_cell hb l0).trans t4, (hb_cell hb l0).trans t5, (hb_cell hb l0).trans t6, (hb_cell hb l0).trans t7, (hb_cell hb l0).trans t8, (hb_cell hb ln).trans e0, (hb_cell hb ln).trans e1, (hb_cell hb ln).trans e2, (hb_cell hb ln).trans e3, (hb_cell hb ln).trans e4, (hb_cell hb ln).trans e5, (hb_cell hb ln).trans e6, (hb_cell hb ln).trans e7⟩))
      have KS := hidOf (fun (W W2 : World) (h : (fun (Y : World) => Y.cell? ⟨w.heap.size, 0, none⟩ = some (.int .i64 ix) ∧ Y.cell? ⟨w.heap.size, 1, none⟩ = some (.int .i64 nx) ∧ Y.cell? ⟨w.heap.size, 2, none⟩ = some (.slice a2 n2 c2) ∧ Y.cell? ⟨w.heap.size, 3, none⟩ = some (.slice a3 n3 c3) ∧ Y.cell? ⟨w.heap.size, 4, none⟩ = some (.slice (some ⟨bn, offn, none⟩) Ln.length c4) ∧ Y.cell? ⟨w.heap.size, 5, none⟩ = some (.slice a5 A.length c5) ∧ Y.cell? ⟨w.heap.size, 6, none⟩ = some (.slice a6 n6 c6) ∧ Y.cell? ⟨w.heap.size, 7, none⟩ = some (.slice a7 n7 c7) ∧ Y.cell? ⟨w.heap.size, 8, none⟩ = some (.slice a8 n8 c8) ∧ Y.cell? ⟨bn, offn + i * 8, none⟩ = some (.int .i64 n.id) ∧ Y.cell? ⟨bn, offn + i * 8 + 1, none⟩ = some (.int .i64 n.c) ∧ Y.cell? ⟨bn, offn + i * 8 + 2, none⟩ = some (.int .i64 n.m) ∧ Y.cell? ⟨bn, offn + i * 8 + 3, none⟩ = some (.bool n.up) ∧ Y.cell? ⟨bn, offn + i * 8 + 4, none⟩ = some (.bool n.dr) ∧ Y.cell? ⟨bn, offn + i * 8 + 5, none⟩ = some (.int .i64 n.bo) ∧ Y.cell? ⟨bn, offn + i * 8 + 6, none⟩ = some (.int .i64 n.ep) ∧ Y.cell? ⟨bn, offn + i * 8 + 7, none⟩ = some (.int .i64 n.se)) W) (ho : ∀ x, x ≠ w.heap.size + 1 + 1 + 1 → W2.heap[x]? = W.heap[x]?) => (show (fun (Y : World) => Y.cell? ⟨w.heap.size, 0, none⟩ = some (.int .i64 ix) ∧ Y.cell? ⟨w.heap.size, 1, none⟩ = some (.int .i64 nx) ∧ Y.cell? ⟨w.heap.size, 2, none⟩ = some (.slice a2 n2 c2) ∧ Y.cell? ⟨w.heap.size, 3, none⟩ = some (.slice a3 n3 c3) ∧ Y.cell? ⟨w.heap.size, 4, none⟩ = some (.slice (some ⟨bn, offn, none⟩) Ln.length c4) ∧ Y.cell? ⟨w.heap.size, 5, none⟩ = some (.slice a5 A.length c5) ∧ Y.cell? ⟨w.heap.size, 6, none⟩ = some (.slice a6 n6 c6) ∧ Y.cell? ⟨w.heap.size, 7, none⟩ = some (.slice a7 n7 c7) ∧ Y.cell? ⟨w.heap.size, 8, none⟩ = some (.slice a8 n8 c8) ∧ Y.cell? ⟨bn, offn + i * 8, none⟩ = some (.int .i64 n.id) ∧ Y.cell? ⟨bn, offn + i * 8 + 1, none⟩ = some (.int .i64 n.c) ∧ Y.cell? ⟨bn, offn + i * 8 + 2, none⟩ = some (.int .i64 n.m) ∧ Y.cell? ⟨bn, offn + i * 8 + 3, none⟩ = some (.bool n.up) ∧ Y.cell? ⟨bn, offn + i * 8 + 4, none⟩ = some (.bool n.dr) ∧ Y.cell? ⟨bn, offn + i * 8 + 5, none⟩ = some (.int .i64 n.bo) ∧ Y.cell? ⟨bn, offn + i * 8 + 6, none⟩ = some (.int .i64 n.ep) ∧ Y.cell? ⟨bn, offn + i * 8 + 7, none⟩ = some (.int .i64 n.se)) W2 from ⟨(World.cell?_of_block (ho _ hA0)).trans h.1, (World.cell?_of_block (ho _ hA0)).trans h.2.1, (World.cell?_of_block (ho _ hA0)).trans h.2.2.1, (World.cell?_of_block (ho _ hA0)).trans h.2.2.2.1, (World.cell?_of_block (ho _ hA0)).trans h.2.2.2.2.1, (World.cell?_of_block (ho _ hA0)).trans h.2.2.2.2.2.1, (World.cell?_of_block (ho _ hA0)).trans h.2.2.2.2.2.2.1, (World.cell?_of_block (ho _ hA0)).trans h.2.2.2.2.2.2.2.1, (World.cell?_of_block (ho _ hA0)).trans h.2.2.2.2.2.2.2.2.1, (World.cell?_of_block (ho _ hAn)).trans h.2.2.2.2.2.2.2.2.2.1, (World.cell?_of_block (ho _ hAn)).trans h.2.2.2.2.2.2.2.2.2.2.1, (World.cell?_of_block (ho _ hAn)).trans h.2.2.2.2.2.2.2.2.2.2.2.1, (World.cell?_of_block (ho _ hAn)).trans h.2.2.2.2.2.2.2.2.2.2.2.2.1, (World.cell?_of_block (ho _ hAn)).trans h.2.2.2.2.2.2.2.2.2.2.2.2.2.1, (World.cell?_of_block (ho _ hAn)).trans h.2.2.2.2.2.2.2.2.2.2.2.2.2.2.1, (World.cell?_of_block (ho _ hAn)).trans h.2.2.2.2.2.2.2.2.2.2.2.2.2.2.2.1, (World.cell?_of_block (ho _ hAn)).trans h.2.2.2.2.2.2.2.2.2.2.2.2.2.2.2.2⟩))
      go_region_held3 (fun (Y : World) => Y.cell? ⟨w.heap.size, 0, none⟩ = some (.int .i64 ix) ∧ Y.cell? ⟨w.heap.size, 1, none⟩ = some (.int .i64 nx) ∧ Y.cell? ⟨w.heap.size, 2, none⟩ = some (.slice a2 n2 c2) ∧ Y.cell? ⟨w.heap.size, 3, none⟩ = some (.slice a3 n3 c3) ∧ Y.cell? ⟨w.heap.size, 4, none⟩ = some (.slice (some ⟨bn, offn, none⟩) Ln.length c4) ∧ Y.cell? ⟨w.heap.size, 5, none⟩ = some (.slice a5 A.length c5) ∧ Y.cell? ⟨w.heap.size, 6, none⟩ = some (.slice a6 n6 c6) ∧ Y.cell? ⟨w.heap.size, 7, none⟩ = some (.slice a7 n7 c7) ∧ Y.cell? ⟨w.heap.size, 8, none⟩ = some (.slice a8 n8 c8) ∧ Y.cell? ⟨bn, offn + i * 8, none⟩ = some (.int .i64 n.id) ∧ Y.cell? ⟨bn, offn + i * 8 + 1, none⟩ = some (.int .i64 n.c) ∧ Y.cell? ⟨bn, offn + i * 8 + 2, none⟩ = some (.int .i64 n.m) ∧ Y.cell? ⟨bn, offn + i * 8 + 3, none⟩ = some (.bool n.up) ∧ Y.cell? ⟨bn, offn + i * 8 + 4, none⟩ = some (.bool n.dr) ∧ Y.cell? ⟨bn, offn + i * 8 + 5, none⟩ = some (.int .i64 n.bo) ∧ Y.cell? ⟨bn, offn + i * 8 + 6, none⟩ = some (.int .i64 n.ep) ∧ Y.cell? ⟨bn, offn + i * 8 + 7, none⟩ = some (.int .i64 n.se)) (first | with_reducible exact KB.out _ HYB.out | with_reducible exact KS.out W7 _ (KB.out _ HYB.out) QS.o | go_keep) (first | (go_at_call 39; refine HN6.out.mono ?_; rintro e W7 ⟨rfl, hb7⟩; have HYB := hidOf ((bdrew W6).trans (hb7.mono (bdrew W6).size)); have Z7 := hidOf (Z6.out.grow HYB.out); have QS := (((((((((SetB.refl (cs := [.int .i64 0, .int .i64 0, .int .i64 0, .bool false, .bool false, .int .i64 0, .int .i64 0, .int .i64 0]) Z7.out.r).step 0 (.int .i64 n.id)).step 1 (.int .i64 n.c)).step 2 (.int .i64 n.m)).step 3 (.bool n.up)).step 4 (.bool n.dr)).step 5 (.int .i64 n.bo)).step 6 (.int .i64 n.ep)).step 7 (.int .i64 n.se)); have z0 : W7.cell? ⟨w.heap.size + 1 + 1 + 1, 0, none⟩ = some (.int .i64 0) := Z7.out.z 0 _ rfl; have z1 : W7.cell? ⟨w.heap.size + 1 + 1 + 1, 1, none⟩ = some (.int .i64 0) := Z7.out.z 1 _ rfl; have z2 : W7.cell? ⟨w.heap.size + 1 + 1 + 1, 2, none⟩ = some (.int .i64 0) := Z7.out.z 2 _ rfl; have z3 : W7.cell? ⟨w.heap.size + 1 + 1 + 1, 3, none⟩ = some (.bool false) := Z7.out.z 3 _ rfl; have z4 : W7.cell? ⟨w.heap.size + 1 + 1 + 1, 4, none⟩ = some (.bool false) := Z7.out.z 4 _ rfl; have z5 : W7.cell? ⟨w.heap.size + 1 + 1 + 1, 5, none⟩ = some (.int .i64 0) := Z7.out.z 5 _ rfl; have z6 : W7.cell? ⟨w.heap.size + 1 + 1 + 1, 6, none⟩ = some (.int .i64 0) := Z7.out.z 6 _ rfl; have z7 : W7.cell? ⟨w.heap.size + 1 + 1 + 1, 7, none⟩ = some (.int .i64 0) := Z7.out.z 7 _ rfl; have f0 : W7.frozen? ⟨w.heap.size + 1 + 1 + 1, 0, none⟩ = false := row_fz Z7.out.r 0; have f1 : W7.frozen? ⟨w.heap.size + 1 + 1 + 1, 1, none⟩ = false := row_fz Z7.out.r 1; have f2 : W7.frozen? ⟨w.heap.size + 1 + 1 + 1, 2, none⟩ = false := row_fz Z7.out.r 2; have f3 : W7.frozen? ⟨w.heap.size + 1 + 1 + 1, 3, none⟩ = false := row_fz Z7.out.r 3; have f4 : W7.frozen? ⟨w.heap.size + 1 + 1 + 1, 4, none⟩ = false := row_fz Z7.out.r 4; have f5 : W7.frozen? ⟨w.heap.size + 1 + 1 + 1, 5, none⟩ = false := row_fz Z7.out.r 5; have f6 : W7.frozen? ⟨w.heap.size + 1 + 1 + 1, 6, none⟩ = false := row_fz Z7.out.r 6; have f7 : W7.frozen? ⟨w.heap.size + 1 + 1 + 1, 7, none⟩ = false := row_fz Z7.out.r 7; have lz : w.heap.size + 1 + 1 + 1 < W7.heap.size := lt_of_cell z0; clear hb7))
      clear KB KS t0 e0 t1 e1 t2 e2 t3 e3 t4 e4 t5 e5 t6 e6 t7 e7 t8
      have q := QS
      simp only [List.set_cons_zero, List.set_cons_succ] at q
      clear QS
      go_wp2
      refine bodyPost_ret (results_nb Try.results18 _ _ (w.heap.size + 1 + 1 + 1) #[.int .i64 n.id, .int .i64 n.c, .int .i64 n.m, .bool n.up, .bool n.dr, .int .i64 n.bo, .int .i64 n.ep, .int .i64 n.se] (.bool true) rfl rfl (by exact q.h) (by kernel_rfl)) rfl ?_
      exact ⟨rfl, Z7.out.b.trans (q.bel (by omega))⟩
end Go.Proofs.Ytblofbdncolikaa
