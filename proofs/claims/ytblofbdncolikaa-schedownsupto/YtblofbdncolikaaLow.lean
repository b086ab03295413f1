/- A store that is handed in stays. -/
import Derived.Test.YtblofbdncolikaaPd
import Derived.Test.YtblofbdncolikaaLi
import Derived.Test.YtblofbdncolikaaTf
import Derived.Test.YtblofbdncolikaaRm
import Derived.Test.YtblofbdncolikaaRc
namespace Go.Proofs.Ytblofbdncolikaa
open Go.RowKit Go.Shelf
attribute [local go_sem] Oper.semAt_some
theorem own_lenR {w : World} {lo k n e : Nat} {a : Option Addr} {c : Nat} {xs : List Value} (h : w.ownsRow lo e k (.slice a n c) n xs) : n ≤ maxLen := by
  rcases h.2 with ⟨_, hn⟩ | ⟨g, cap, cur, hv, _, _, h1, h2, _⟩
  · omega
  · omega
/- rows of one's own, whatever they hold -/
def RowZ (W : World) (base e k n : Nat) (a : Option Addr) : Prop := n = 0 ∨ ∃ g cs, a = some ⟨g, 0, none⟩ ∧ base ≤ g ∧ W.heap[g]? = some (.cells cs e (0, 0)) ∧ n * k ≤ cs.size
theorem own_rowz {w : World} {base e k n c : Nat} {a : Option Addr} {xs : List Value} (h : w.ownsRow base e k (.slice a n c) n xs) : RowZ w base e k n a := by
  rcases h.2 with ⟨_, hn⟩ | ⟨g, cap, cur, hv, hl, hg, hnc, _, hcs, _⟩
  · exact .inl hn
  · exact .inr ⟨g, cur, (Value.slice.inj hv).1, hl, hg, by rw [hcs]; exact Nat.mul_le_mul_right _ hnc⟩
theorem RowZ.keep {W V : World} {base e k n : Nat} {a : Option Addr} (h : RowZ W base e k n a) (hb : ∀ g, g < W.heap.size → V.heap[g]? = W.heap[g]?) : RowZ V base e k n a := by
  rcases h with h | ⟨g, cs, h1, h2, h3, h4⟩
  · exact .inl h
  · exact .inr ⟨g, cs, h1, h2, (hb g (heap_lt h3)).trans h3, h4⟩
theorem RowZ.set {W : World} {base e k n g j e0 : Nat} {a : Option Addr} {cs0 : Array Value} {v : Value} (h : RowZ W base e k n a) (hg : W.heap[g]? = some (.cells cs0 e0 (0, 0))) : RowZ (W.setCell ⟨g, j, none⟩ v) base e k n a := by
  rcases h with h | ⟨g2, cs, h1, h2, h3, h4⟩
  · exact .inl h
  · by_cases e1 : g2 = g
    · subst e1
      rw [hg] at h3
      cases h3
      exact .inr ⟨g2, _, h1, h2, heap_setCell_same W g2 j cs0 e v hg, by simpa using h4⟩
    · exact .inr ⟨g2, cs, h1, h2, (heap_setCell_other W ⟨g, j, none⟩ g2 v e1).trans h3, h4⟩
structure OwI (w3 w5 : World) (BP : Nat) (sa : Option Addr) (sc : Nat) (pa : Option Addr) (pc : Nat) (v : Pn) (wr : World) : Prop where
  b : Below w3.heap.size w5 wr
  p : wr.heap[BP]? = some (.cells #[.int .i64 v.jb, .int .i64 v.ve, .int .i64 v.ix, .slice sa v.st.length sc, .slice pa v.pl.length pc, .bool v.bl] 35 (0, 0))
  x : RowZ wr w3.heap.size 42 11 v.pl.length pa
  y : RowZ wr w3.heap.size 3 1 v.st.length sa
theorem OwI.set {w3 w5 wr : World} {BP : Nat} {sa : Option Addr} {sc : Nat} {pa : Option Addr} {pc : Nat} {v : Pn} (h : OwI w3 w5 BP sa sc pa pc v wr) {g j e : Nat} {cs : Array Value} {v' : Value} (hge : w3.heap.size ≤ g) (hg : wr.heap[g]? = some (.cells cs e (0, 0))) (he : e ≠ 35) : OwI w3 w5 BP sa sc pa pc v (wr.setCell ⟨g, j, none⟩ v') :=
  ⟨h.b.setCell (p := ⟨g, j, none⟩) hge v', (heap_setCell_other wr ⟨g, j, none⟩ BP v' (fun e1 => by have e2 : BP = g := e1; subst e2; rw [h.p] at hg; simp at hg; exact he hg.2.symm)).trans h.p, h.x.set hg, h.y.set hg⟩
set_option maxRecDepth 100000 in
set_option maxHeartbeats 8000000 in
theorem walkOwns (s : Sc) (J B : List Js) (X : List Ss) (d : St) (job : Int) (w : World) (hS : StR w (fun b => b < w.heap.size) s J B X d) (hbb : StB 1048576 d) :
    Calls Try.prog 4 #[.agg #[.int .i64 s.ix, .int .i64 s.nx, .slice s.a2 s.n2 s.c2, .slice s.a3 s.n3 s.c3, .slice s.a4 s.n4 s.c4, .slice s.a5 s.n5 s.c5, .slice s.a6 s.n6 s.c6, .slice s.a7 s.n7 s.c7, .slice s.a8 s.n8 s.c8], .int .i64 job] w fun e w' => e = .returned (.bool true) ∧ Below w.heap.size w w' := by
  obtain ⟨ix, nx, a2, n2, c2, a3, n3, c3, a4, n4, c4, a5, n5, c5, a6, n6, c6, a7, n7, c7, a8, n8, c8⟩ := s
  obtain ⟨e2, e4, e5, e6⟩ : n2 = J.length ∧ n4 = d.nodes.length ∧ n5 = d.allocs.length ∧ n6 = d.evals.length := ⟨hS.f.n2, hS.f.n4, hS.f.n5, hS.f.n6⟩
  subst e2
  subst e4
  subst e5
  subst e6
  have hJ : JbR w (fun b => b < w.heap.size) a2 J d.jobs := hS.j
  have hN : Fl w (fun b => b < w.heap.size) 8 56 Nd.cs a4 d.nodes := hS.f.f4
  have hA : Fl w (fun b => b < w.heap.size) 11 88 Al.cs a5 d.allocs := hS.f.f5
  have hE : Fl w (fun b => b < w.heap.size) 4 32 Qd.cs a6 d.evals := hS.f.f6
  obtain ⟨hbn, _, hbg⟩ := hbb
  have hsl : ¬ dfI d.jobs job < 0 → (slV (dfJ d.jobs job) d.nodes).length * 16 ≤ 140737488355328 := fun h => sl_ok (hbg _ (dfJ_id h).2) hbn
  have hfl := fl_ok (A := d.allocs) (job := job) hbg hbn
  have HS := hidOf hS
  clear hS hbn hbg
  obtain ⟨wb, hwb⟩ : ∃ wb, w.alloc (.cells #[.int .i64 ix, .int .i64 nx, .slice a2 J.length c2, .slice a3 n3 c3, .slice a4 d.nodes.length c4, .slice a5 d.allocs.length c5, .slice a6 d.evals.length c6, .slice a7 n7 c7, .slice a8 n8 c8] 29) = wb := ⟨_, rfl⟩
  have HB0 : Hid (Below w.heap.size w wb) := hidOf (by rw [← hwb]; exact below1 _ _)
  have HT : Hid (wb.rangeAt w.heap.size 0 [.int .i64 ix, .int .i64 nx, .slice a2 J.length c2, .slice a3 n3 c3, .slice a4 d.nodes.length c4, .slice a5 d.allocs.length c5, .slice a6 d.evals.length c6, .slice a7 n7 c7, .slice a8 n8 c8]) := hidOf (by rw [← hwb]; exact box_new (wr := w) (cs := [.int .i64 ix, .int .i64 nx, .slice a2 J.length c2, .slice a3 n3 c3, .slice a4 d.nodes.length c4, .slice a5 d.allocs.length c5, .slice a6 d.evals.length c6, .slice a7 n7 c7, .slice a8 n8 c8]) (t := 29) (Below.refl _ _))
  have hB2l : w.heap.size < wb.heap.size := by rw [← hwb]; simp
  have HCA := hidOf (caps_any ⟨ix, nx, a2, J.length, c2, a3, n3, c3, a4, d.nodes.length, c4, a5, d.allocs.length, c5, a6, d.evals.length, c6, a7, n7, c7, a8, n8, c8⟩ d.nodes d.allocs wb ⟨rfl, rfl, hN.kept (fun b hb => HB0.out.block b hb) (fun b hb => Nat.lt_of_lt_of_le hb HB0.out.size), hA.kept (fun b hb => HB0.out.block b hb) (fun b hb => Nat.lt_of_lt_of_le hb HB0.out.size)⟩)
  have HPL := hidOf (fun (W : World) (h : Below w.heap.size w W) (hc : cpL d.nodes = true) => plan_any ⟨ix, nx, a2, J.length, c2, a3, n3, c3, a4, d.nodes.length, c4, a5, d.allocs.length, c5, a6, d.evals.length, c6, a7, n7, c7, a8, n8, c8⟩ job J d.jobs d.nodes d.allocs d.evals W rfl rfl rfl rfl (hJ.kept (fun b hb => h.block b hb) (fun b hb => Nat.lt_of_lt_of_le hb h.size)) (hN.kept (fun b hb => h.block b hb) (fun b hb => Nat.lt_of_lt_of_le hb h.size)) (hA.kept (fun b hb => h.block b hb) (fun b hb => Nat.lt_of_lt_of_le hb h.size)) (hE.kept (fun b hb => h.block b hb) (fun b hb => Nat.lt_of_lt_of_le hb h.size)) hc hsl hfl)
  have HCP := hidOf (fun (W : World) (h : Below w.heap.size w W) => refCopy_any ⟨ix, nx, a2, J.length, c2, a3, n3, c3, a4, d.nodes.length, c4, a5, d.allocs.length, c5, a6, d.evals.length, c6, a7, n7, c7, a8, n8, c8⟩ J B X d W (HS.out.kept (fun b hb => h.block b hb) (fun b hb => Nat.lt_of_lt_of_le hb h.size)))
  clear hJ hN hA hE hsl hfl
  cases hcp : cpL d.nodes with
  | false =>
    rw [hcp] at HCA
    clear hcp HPL
    have t0 : wb.cell? ⟨w.heap.size, 0, none⟩ = some (.int .i64 ix) := HT.out 0 _ rfl
    have t1 : wb.cell? ⟨w.heap.size, 1, none⟩ = some (.int .i64 nx) := HT.out 1 _ rfl
    have t2 : wb.cell? ⟨w.heap.size, 2, none⟩ = some (.slice a2 J.length c2) := HT.out 2 _ rfl
    have t3 : wb.cell? ⟨w.heap.size, 3, none⟩ = some (.slice a3 n3 c3) := HT.out 3 _ rfl
    have t4 : wb.cell? ⟨w.heap.size, 4, none⟩ = some (.slice a4 d.nodes.length c4) := HT.out 4 _ rfl
    have t5 : wb.cell? ⟨w.heap.size, 5, none⟩ = some (.slice a5 d.allocs.length c5) := HT.out 5 _ rfl
    have t6 : wb.cell? ⟨w.heap.size, 6, none⟩ = some (.slice a6 d.evals.length c6) := HT.out 6 _ rfl
    have t7 : wb.cell? ⟨w.heap.size, 7, none⟩ = some (.slice a7 n7 c7) := HT.out 7 _ rfl
    have t8 : wb.cell? ⟨w.heap.size, 8, none⟩ = some (.slice a8 n8 c8) := HT.out 8 _ rfl
    have l0 : w.heap.size < wb.heap.size := lt_of_cell t0
    go_enter Try.func4, Try.ntmps4
    go_upto_region 1 with (fail)
    try rw [hwb]
    clear hwb
    go_wp2_with (first | (go_at_call 6; refine HCA.out.mono ?_; rintro e w1 ⟨rfl, hb1⟩; have HB1 := hidOf hb1; clear hb1) | (go_at_call 7; refine (lives_any _).mono ?_; rintro e wl ⟨rfl, hbl⟩; have HBL := hidOf hbl; clear hbl))
    go_ret
    exact ⟨rfl, (HB0.out.trans (HB1.out.mono HB0.out.size)).trans (HBL.out.mono (by have := HB0.out.size; have := HB1.out.size; omega))⟩
  | true =>
    have HPL := hidOf (fun (W : World) (h : Below w.heap.size w W) => HPL.out W h hcp)
    rw [hcp] at HCA
    clear hcp
    obtain ⟨v, hv⟩ : ∃ v, pnV d.jobs d.nodes d.allocs d.evals job = v := ⟨_, rfl⟩
    rw [hv] at HPL
    clear hv
    have t0 : wb.cell? ⟨w.heap.size, 0, none⟩ = some (.int .i64 ix) := HT.out 0 _ rfl
    have t1 : wb.cell? ⟨w.heap.size, 1, none⟩ = some (.int .i64 nx) := HT.out 1 _ rfl
    have t2 : wb.cell? ⟨w.heap.size, 2, none⟩ = some (.slice a2 J.length c2) := HT.out 2 _ rfl
    have t3 : wb.cell? ⟨w.heap.size, 3, none⟩ = some (.slice a3 n3 c3) := HT.out 3 _ rfl
    have t4 : wb.cell? ⟨w.heap.size, 4, none⟩ = some (.slice a4 d.nodes.length c4) := HT.out 4 _ rfl
    have t5 : wb.cell? ⟨w.heap.size, 5, none⟩ = some (.slice a5 d.allocs.length c5) := HT.out 5 _ rfl
    have t6 : wb.cell? ⟨w.heap.size, 6, none⟩ = some (.slice a6 d.evals.length c6) := HT.out 6 _ rfl
    have t7 : wb.cell? ⟨w.heap.size, 7, none⟩ = some (.slice a7 n7 c7) := HT.out 7 _ rfl
    have t8 : wb.cell? ⟨w.heap.size, 8, none⟩ = some (.slice a8 n8 c8) := HT.out 8 _ rfl
    have l0 : w.heap.size < wb.heap.size := lt_of_cell t0
    go_enter Try.func4, Try.ntmps4
    go_upto_region 1 with (fail)
    try rw [hwb]
    clear hwb
    go_upto_region 4 with (go_at_call 6; refine HCA.out.mono ?_; rintro e w1 ⟨rfl, hb1⟩; have HB1 := hidOf hb1; clear hb1)
    clear t0 t1 t2 t3 t4 t5 t6 t7 t8 l0
    have HW1 := hidOf (HB0.out.trans (HB1.out.mono HB0.out.size))
    obtain ⟨B2, hB2⟩ : ∃ B2, w.heap.size = B2 := ⟨_, rfl⟩
    have HT1 : Hid (w1.rangeAt B2 0 [.int .i64 ix, .int .i64 nx, .slice a2 J.length c2, .slice a3 n3 c3, .slice a4 d.nodes.length c4, .slice a5 d.allocs.length c5, .slice a6 d.evals.length c6, .slice a7 n7 c7, .slice a8 n8 c8]) := hidOf (by rw [← hB2]; exact range_of HT.out (HB1.out.block _ hB2l))
    have HBB : Hid (w.heap.size = B2) := hidOf hB2
    rw [hB2]
    clear hB2 HT HCA hB2l
    have t0 : w1.cell? ⟨B2, 0, none⟩ = some (.int .i64 ix) := HT1.out 0 _ rfl
    have t1 : w1.cell? ⟨B2, 1, none⟩ = some (.int .i64 nx) := HT1.out 1 _ rfl
    have t2 : w1.cell? ⟨B2, 2, none⟩ = some (.slice a2 J.length c2) := HT1.out 2 _ rfl
    have t3 : w1.cell? ⟨B2, 3, none⟩ = some (.slice a3 n3 c3) := HT1.out 3 _ rfl
    have t4 : w1.cell? ⟨B2, 4, none⟩ = some (.slice a4 d.nodes.length c4) := HT1.out 4 _ rfl
    have t5 : w1.cell? ⟨B2, 5, none⟩ = some (.slice a5 d.allocs.length c5) := HT1.out 5 _ rfl
    have t6 : w1.cell? ⟨B2, 6, none⟩ = some (.slice a6 d.evals.length c6) := HT1.out 6 _ rfl
    have t7 : w1.cell? ⟨B2, 7, none⟩ = some (.slice a7 n7 c7) := HT1.out 7 _ rfl
    have t8 : w1.cell? ⟨B2, 8, none⟩ = some (.slice a8 n8 c8) := HT1.out 8 _ rfl
    have l0 : B2 < w1.heap.size := lt_of_cell t0
    go_upto_region 5 with (go_at_call 11; refine (HCP.out _ HW1.out).mono ?_; rintro e w2 ⟨s2, J2, B2', X2, rfl, hS2, hb2, _, _, _⟩; have HSC := hidOf hS2; have HB2 := hidOf hb2; clear hS2 hb2)
    have HT2 := hidOf (range_of HT1.out (HB2.out.block B2 l0))
    have hl21 := Nat.lt_of_lt_of_le l0 HB2.out.size
    clear t0 t1 t2 t3 t4 t5 t6 t7 t8 l0
    have HW2 := hidOf (HW1.out.trans (HB2.out.mono HW1.out.size))
    obtain ⟨B6, hB6⟩ : ∃ B6, w2.heap.size = B6 := ⟨_, rfl⟩
    obtain ⟨w3, hw3⟩ : ∃ w3, w2.alloc (.cells #[.int .i64 s2.ix, .int .i64 s2.nx, .slice s2.a2 s2.n2 s2.c2, .slice s2.a3 s2.n3 s2.c3, .slice s2.a4 s2.n4 s2.c4, .slice s2.a5 s2.n5 s2.c5, .slice s2.a6 s2.n6 s2.c6, .slice s2.a7 s2.n7 s2.c7, .slice s2.a8 s2.n8 s2.c8] 29) = w3 := ⟨_, rfl⟩
    have hb3 := below1 w2 (.cells #[.int .i64 s2.ix, .int .i64 s2.nx, .slice s2.a2 s2.n2 s2.c2, .slice s2.a3 s2.n3 s2.c3, .slice s2.a4 s2.n4 s2.c4, .slice s2.a5 s2.n5 s2.c5, .slice s2.a6 s2.n6 s2.c6, .slice s2.a7 s2.n7 s2.c7, .slice s2.a8 s2.n8 s2.c8] 29)
    have hx3 : (w2.alloc (.cells #[.int .i64 s2.ix, .int .i64 s2.nx, .slice s2.a2 s2.n2 s2.c2, .slice s2.a3 s2.n3 s2.c3, .slice s2.a4 s2.n4 s2.c4, .slice s2.a5 s2.n5 s2.c5, .slice s2.a6 s2.n6 s2.c6, .slice s2.a7 s2.n7 s2.c7, .slice s2.a8 s2.n8 s2.c8] 29)).rangeAt w2.heap.size 0 [.int .i64 s2.ix, .int .i64 s2.nx, .slice s2.a2 s2.n2 s2.c2, .slice s2.a3 s2.n3 s2.c3, .slice s2.a4 s2.n4 s2.c4, .slice s2.a5 s2.n5 s2.c5, .slice s2.a6 s2.n6 s2.c6, .slice s2.a7 s2.n7 s2.c7, .slice s2.a8 s2.n8 s2.c8] := box_new (Below.refl _ _)
    have hz3 : (w2.alloc (.cells #[.int .i64 s2.ix, .int .i64 s2.nx, .slice s2.a2 s2.n2 s2.c2, .slice s2.a3 s2.n3 s2.c3, .slice s2.a4 s2.n4 s2.c4, .slice s2.a5 s2.n5 s2.c5, .slice s2.a6 s2.n6 s2.c6, .slice s2.a7 s2.n7 s2.c7, .slice s2.a8 s2.n8 s2.c8] 29)).heap.size = w2.heap.size + 1 := by simp
    try rw [hw3]
    try rw [hB6]
    rw [hw3] at hb3 hx3 hz3
    rw [hB6] at hx3
    have HX3 := hidOf hx3
    have HT3 := hidOf (range_of HT2.out (hb3.block B2 hl21))
    have HW3 := hidOf (HW2.out.trans (hb3.mono HW2.out.size))
    have HSs := hidOf (HS.out.kept (w' := w3) (S' := fun b => b < w3.heap.size) (fun b hb => HW3.out.block b hb) (fun b hb => Nat.lt_of_lt_of_le hb HW3.out.size))
    have HS2 := hidOf (HSC.out.kept (w' := w3) (S' := fun b => b < w3.heap.size) (fun b hb => hb3.block b hb.2.1) (fun b hb => Nat.lt_of_lt_of_le hb.2.1 hb3.size))
    have hl2 : B2 < w3.heap.size := Nat.lt_of_lt_of_le hl21 hb3.size
    have hl6 : B6 < w3.heap.size := by omega
    clear hw3 hB6 hx3 hb3 hz3 HSC HT1 HT2 HB2 HCP hl21
    have t0 : w3.cell? ⟨B2, 0, none⟩ = some (.int .i64 ix) := HT3.out 0 _ rfl
    have t1 : w3.cell? ⟨B2, 1, none⟩ = some (.int .i64 nx) := HT3.out 1 _ rfl
    have t2 : w3.cell? ⟨B2, 2, none⟩ = some (.slice a2 J.length c2) := HT3.out 2 _ rfl
    have t3 : w3.cell? ⟨B2, 3, none⟩ = some (.slice a3 n3 c3) := HT3.out 3 _ rfl
    have t4 : w3.cell? ⟨B2, 4, none⟩ = some (.slice a4 d.nodes.length c4) := HT3.out 4 _ rfl
    have t5 : w3.cell? ⟨B2, 5, none⟩ = some (.slice a5 d.allocs.length c5) := HT3.out 5 _ rfl
    have t6 : w3.cell? ⟨B2, 6, none⟩ = some (.slice a6 d.evals.length c6) := HT3.out 6 _ rfl
    have t7 : w3.cell? ⟨B2, 7, none⟩ = some (.slice a7 n7 c7) := HT3.out 7 _ rfl
    have t8 : w3.cell? ⟨B2, 8, none⟩ = some (.slice a8 n8 c8) := HT3.out 8 _ rfl
    have l0 : B2 < w3.heap.size := lt_of_cell t0
    go_upto_region 6 with (go_at_call 9; refine (HPL.out _ HW3.out).mono ?_; rintro e w4 ⟨⟨sa, sc, pa, pc, rfl, ho1, ho2⟩, hb4⟩; have HO1 := hidOf ho1; have HO2 := hidOf ho2; have HB4 := hidOf hb4; clear ho1 ho2 hb4)
    clear t0 t1 t2 t3 t4 t5 t6 t7 t8 l0
    obtain ⟨BP, hBP⟩ : ∃ BP, w4.heap.size = BP := ⟨_, rfl⟩
    obtain ⟨w5, hw5⟩ : ∃ w5, w4.alloc (.cells #[.int .i64 v.jb, .int .i64 v.ve, .int .i64 v.ix, .slice sa v.st.length sc, .slice pa v.pl.length pc, .bool v.bl] 35) = w5 := ⟨_, rfl⟩
    have hb5 := below1 w4 (.cells #[.int .i64 v.jb, .int .i64 v.ve, .int .i64 v.ix, .slice sa v.st.length sc, .slice pa v.pl.length pc, .bool v.bl] 35)
    have hp5 : (w4.alloc (.cells #[.int .i64 v.jb, .int .i64 v.ve, .int .i64 v.ix, .slice sa v.st.length sc, .slice pa v.pl.length pc, .bool v.bl] 35)).heap[w4.heap.size]? = some (.cells #[.int .i64 v.jb, .int .i64 v.ve, .int .i64 v.ix, .slice sa v.st.length sc, .slice pa v.pl.length pc, .bool v.bl] 35 (0, 0)) := heap_alloc_new _ _
    try rw [hw5]
    try rw [hBP]
    rw [hw5] at hb5 hp5
    rw [hBP] at hp5
    clear hw5 hBP
    have h35 : w3.heap.size ≤ w5.heap.size := Nat.le_trans HB4.out.size hb5.size
    have HB35 := hidOf (HB4.out.trans (hb5.mono HB4.out.size))
    have HT5 := hidOf (range_of HT3.out (HB35.out.block B2 hl2))
    have HX6 := hidOf (range_of HX3.out (HB35.out.block B6 hl6))
    have HSs := hidOf (HSs.out.kept (w' := w5) (S' := fun b => b < w3.heap.size) (fun b hb => HB35.out.block b hb) (fun b hb => hb))
    have HS2 := hidOf (HS2.out.kept (w' := w5) (S' := fun b => b < w3.heap.size) (fun b hb => HB35.out.block b hb) (fun b hb => hb))
    have HW5 := hidOf (HW3.out.trans (HB35.out.mono HW3.out.size))
    have HOI : Hid (OwI w3 w5 BP sa sc pa pc v w5) := hidOf ⟨Below.refl _ _, hp5, (own_rowz HO2.out).keep (fun g hg => hb5.block g hg), (own_rowz HO1.out).keep (fun g hg => hb5.block g hg)⟩
    have hm1 := own_lenR HO1.out
    have hm2 := own_lenR HO2.out
    unfold maxLen at hm1 hm2
    have HT3 := HT5
    clear hp5 hb5 HO1 HO2 HT5 HX3 HB4 HPL HB0 HB1 HW1 HW2 HB35
    go_wp2
    go_loopw [8] (fun i wr => ∃ k : Nat, k ≤ v.pl.length ∧ i = .int .i64 k ∧ Hid (OwI w3 w5 BP sa sc pa pc v wr)) (fun i _ => v.pl.length - (intOf i).toNat)
    case atStart => exact ⟨0, Nat.zero_le _, rfl, HOI⟩
    case round =>
      obtain ⟨k, hk, rfl, HOI⟩ := hrel
      by_cases hlt : k < v.pl.length
      · rcases HOI.out.x with hz | ⟨g, cs, ha, hge, hgc, hcz⟩
        · omega
        · subst ha
          have HGC := hidOf hgc
          have hi0 : ¬ ((k : Int) < 0) := by omega
          have hi1 : (k : Int) < (v.pl.length : Int) := by omega
          have pc : wr.cell? ⟨BP, 4, none⟩ = some (.slice (some ⟨g, 0, none⟩) v.pl.length pc) := rowc HOI.out.p 4 _ rfl
          have lp : BP < wr.heap.size := lt_of_cell pc
          have lg : g < wr.heap.size := heap_lt hgc
          have hjz : k * 11 + 1 < cs.size := by omega
          obtain ⟨u, hu⟩ : ∃ u, cs[k * 11 + 1]? = some u := ⟨_, Array.getElem?_eq_getElem hjz⟩
          have gu : wr.cell? ⟨g, k * 11 + 1, none⟩ = some u := rowc hgc (k * 11 + 1) u hu
          have gf : wr.frozen? ⟨g, k * 11 + 1, none⟩ = false := row_fz hgc (k * 11 + 1)
          have HN := hidOf (OwI.set HOI.out (g := g) (j := k * 11 + 1) (v' := .int .i64 (-1)) hge hgc (by decide))
          clear hu hjz hgc hcz
          go_wp2
          go_roundw
          case rel => exact ⟨k + 1, by omega, by simp, HN⟩
          case measure => simp [intOf]; omega
      · have hkl : k = v.pl.length := by omega
        subst hkl
        have pc : wr.cell? ⟨BP, 4, none⟩ = some (.slice pa v.pl.length pc) := rowc HOI.out.p 4 _ rfl
        have lp : BP < wr.heap.size := lt_of_cell pc
        go_wp2
        clear pc lp
        go_loopw [9] (fun i wr => ∃ k : Nat, k ≤ v.st.length ∧ i = .int .i64 k ∧ Hid (OwI w3 w5 BP sa sc pa pc v wr)) (fun i _ => v.st.length - (intOf i).toNat)
        case atStart => exact ⟨0, Nat.zero_le _, rfl, HOI⟩
        case round =>
          obtain ⟨k, hk, rfl, HOI⟩ := hrel
          by_cases hlt : k < v.st.length
          · rcases HOI.out.y with hz | ⟨g, cs, ha, hge, hgc, hcz⟩
            · omega
            · subst ha
              have HGC := hidOf hgc
              have hi0 : ¬ ((k : Int) < 0) := by omega
              have hi1 : (k : Int) < (v.st.length : Int) := by omega
              have pc : wr.cell? ⟨BP, 3, none⟩ = some (.slice (some ⟨g, 0, none⟩) v.st.length sc) := rowc HOI.out.p 3 _ rfl
              have lp : BP < wr.heap.size := lt_of_cell pc
              have lg : g < wr.heap.size := heap_lt hgc
              have hjz : k < cs.size := by omega
              obtain ⟨u, hu⟩ : ∃ u, cs[k]? = some u := ⟨_, Array.getElem?_eq_getElem hjz⟩
              have gu : wr.cell? ⟨g, k, none⟩ = some u := rowc hgc (k) u hu
              have gf : wr.frozen? ⟨g, k, none⟩ = false := row_fz hgc (k)
              have HN := hidOf (OwI.set HOI.out (g := g) (j := k) (v' := .int .i64 (-1)) hge hgc (by decide))
              clear hu hjz hgc hcz
              go_wp2
              go_roundw
              case rel => exact ⟨k + 1, by omega, by simp, HN⟩
              case measure => simp [intOf]; omega
          · have hkl : k = v.st.length := by omega
            subst hkl
            have pc : wr.cell? ⟨BP, 3, none⟩ = some (.slice sa v.st.length sc) := rowc HOI.out.p 3 _ rfl
            have lp : BP < wr.heap.size := lt_of_cell pc
            have hT := range_of HT3.out (HOI.out.b.block B2 hl2)
            have hX := range_of HX6.out (HOI.out.b.block B6 hl6)
            have HSA := hidOf (refSame_any ⟨ix, nx, a2, J.length, c2, a3, n3, c3, a4, d.nodes.length, c4, a5, d.allocs.length, c5, a6, d.evals.length, c6, a7, n7, c7, a8, n8, c8⟩ s2 J B J2 B2' X X2 d d (fun b => b < w3.heap.size) wr (fun b hb => by have := HOI.out.b.size; have := h35; omega) (HSs.out.kept (fun b hb => HOI.out.b.block b hb) (fun b hb => hb)) (HS2.out.kept (fun b hb => HOI.out.b.block b hb) (fun b hb => hb)))
            rw [decide_eq_true (show d = d from rfl)] at HSA
            have t0 : wr.cell? ⟨B2, 0, none⟩ = some (.int .i64 ix) := hT 0 _ rfl
            have t1 : wr.cell? ⟨B2, 1, none⟩ = some (.int .i64 nx) := hT 1 _ rfl
            have t2 : wr.cell? ⟨B2, 2, none⟩ = some (.slice a2 J.length c2) := hT 2 _ rfl
            have t3 : wr.cell? ⟨B2, 3, none⟩ = some (.slice a3 n3 c3) := hT 3 _ rfl
            have t4 : wr.cell? ⟨B2, 4, none⟩ = some (.slice a4 d.nodes.length c4) := hT 4 _ rfl
            have t5 : wr.cell? ⟨B2, 5, none⟩ = some (.slice a5 d.allocs.length c5) := hT 5 _ rfl
            have t6 : wr.cell? ⟨B2, 6, none⟩ = some (.slice a6 d.evals.length c6) := hT 6 _ rfl
            have t7 : wr.cell? ⟨B2, 7, none⟩ = some (.slice a7 n7 c7) := hT 7 _ rfl
            have t8 : wr.cell? ⟨B2, 8, none⟩ = some (.slice a8 n8 c8) := hT 8 _ rfl
            have l0 : B2 < wr.heap.size := lt_of_cell t0
            have x0 : wr.cell? ⟨B6, 0, none⟩ = some (.int .i64 s2.ix) := hX 0 _ rfl
            have x1 : wr.cell? ⟨B6, 1, none⟩ = some (.int .i64 s2.nx) := hX 1 _ rfl
            have x2 : wr.cell? ⟨B6, 2, none⟩ = some (.slice s2.a2 s2.n2 s2.c2) := hX 2 _ rfl
            have x3 : wr.cell? ⟨B6, 3, none⟩ = some (.slice s2.a3 s2.n3 s2.c3) := hX 3 _ rfl
            have x4 : wr.cell? ⟨B6, 4, none⟩ = some (.slice s2.a4 s2.n4 s2.c4) := hX 4 _ rfl
            have x5 : wr.cell? ⟨B6, 5, none⟩ = some (.slice s2.a5 s2.n5 s2.c5) := hX 5 _ rfl
            have x6 : wr.cell? ⟨B6, 6, none⟩ = some (.slice s2.a6 s2.n6 s2.c6) := hX 6 _ rfl
            have x7 : wr.cell? ⟨B6, 7, none⟩ = some (.slice s2.a7 s2.n7 s2.c7) := hX 7 _ rfl
            have x8 : wr.cell? ⟨B6, 8, none⟩ = some (.slice s2.a8 s2.n8 s2.c8) := hX 8 _ rfl
            have lx : B6 < wr.heap.size := lt_of_cell x0
            clear hT hX
            go_upto_region 14 with (fail)
            go_wp2_with (first | (go_at_call 12; refine HSA.out.mono ?_; rintro e w7 ⟨rfl, hb7⟩; have HB7 := hidOf hb7; clear hb7) | (go_at_call 7; refine (lives_any _).mono ?_; rintro e wl ⟨rfl, hbl⟩; have HBL := hidOf hbl; clear hbl))
            go_ret
            exact ⟨rfl, ((HW5.out.trans (HOI.out.b.mono (Nat.le_trans HW3.out.size (Nat.le_refl _)))).trans (HB7.out.mono (by have := HW5.out.size; have := HOI.out.b.size; omega))).trans (HBL.out.mono (by have := HW5.out.size; have := HOI.out.b.size; have := HB7.out.size; omega))⟩
end Go.Proofs.Ytblofbdncolikaa
