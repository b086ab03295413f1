/- One allocation more takes just its demand. -/
import Derived.Test.YtkokkdekbilkjaaRc
import Derived.Test.YtkokkdekbilkjaaLf
namespace Go.Proofs.Ytkokkdekbilkjaa
open Go.RowKit Go.Shelf
attribute [local go_sem] Oper.semAt_some
theorem sel_app {α : Type} [Inhabited α] (P : α → Bool) (L : List α) (x : α) (k : Nat) (hk : k ≤ L.length) : sel P (L ++ [x]) k = sel P L k := by
  induction k with
  | zero => rfl
  | succ k ih =>
    rw [sel, sel, ih (by omega), List.getElem?_append_left (by omega)]
theorem used_no {nd : Int} {A : List Al} {x : Al} (h : usB nd x = false) : usedV nd (A ++ [x]) = usedV nd A := by
  have e : (A ++ [x])[A.length]?.getD default = x := by simp
  rw [usedV, usedV, List.length_append, List.length_singleton, sel_no (by rw [e]; exact h), sel_app _ _ _ _ (Nat.le_refl _)]
theorem used_yes {nd : Int} {A : List Al} {x : Al} (h : usB nd x = true) : uF (sel (usB nd) (A ++ [x]) (A ++ [x]).length) = uS (uF (sel (usB nd) A A.length)) x := by
  have e : (A ++ [x])[A.length]?.getD default = x := by simp
  rw [List.length_append, List.length_singleton, sel_yes (by rw [e]; exact h), sel_app _ _ _ _ (Nat.le_refl _), uF_snoc, e]
theorem uF_top {pre : List (Nat × Al)} (h : (uF pre).1 = false) : uF pre = (false, top, top) := by
  induction pre using snoc_ind with
  | h0 => cases h
  | h1 l x ih =>
    rw [uF_snoc] at h ⊢
    cases hu : (uF l).1 with
    | false => rw [uS_no hu]; exact ih hu
    | true =>
      obtain ⟨⟨ok, c, m⟩, hq⟩ : ∃ s, uF l = s := ⟨_, rfl⟩
      rw [hq] at hu
      simp only at hu
      subst hu
      rw [hq] at h ⊢
      cases hadd : addB c m x.2.c x.2.m with
      | false => exact uS_bad hadd
      | true => rw [uS_yes hadd] at h; cases h
def isM (a b : Int) : Bool := decide (a = 1152921504606846976 ∧ b = 1152921504606846976)
/- what the law asks of the two sums -/
theorem more_ok {nd : Int} {A : List Al} {x : Al} (h : usB nd x = true) (u1 u2 v1 v2 : Int) (hu : usedV nd A = (u1, u2)) (hv : usedV nd (A ++ [x]) = (v1, v2)) :
    (u1 = 1152921504606846976 ∧ u2 = 1152921504606846976 ∧ v1 = 1152921504606846976 ∧ v2 = 1152921504606846976) ∨ (¬ (u1 = 1152921504606846976 ∧ u2 = 1152921504606846976) ∧ v1 = 1152921504606846976 ∧ v2 = 1152921504606846976) ∨
    (¬ (u1 = 1152921504606846976 ∧ u2 = 1152921504606846976) ∧ ¬ (v1 = 1152921504606846976 ∧ v2 = 1152921504606846976) ∧ v1 = u1 + x.c ∧ v2 = u2 + x.m ∧ 0 ≤ v1 ∧ v1 ≤ 1152921504606846976 ∧ 0 ≤ v2 ∧ v2 ≤ 1152921504606846976) := by
  have hy := used_yes (nd := nd) (A := A) h
  rw [usedV] at hu hv
  rw [hy] at hv
  generalize hs : uF (sel (usB nd) A A.length) = s at *
  obtain ⟨ok, c, m⟩ := s
  simp only [Prod.mk.injEq] at hu
  obtain ⟨rfl, rfl⟩ := hu
  cases ok with
  | false =>
    rw [uS_no rfl] at hv
    simp only [Prod.mk.injEq] at hv
    obtain ⟨rfl, rfl⟩ := hv
    have ht := uF_top (pre := sel (usB nd) A A.length) (by rw [hs])
    rw [hs] at ht
    simp only [top, Prod.mk.injEq, true_and] at ht
    exact .inl ⟨ht.1, ht.2, ht.1, ht.2⟩
  | true =>
    cases hadd : addB c m x.c x.m with
    | false =>
      rw [uS_bad hadd] at hv
      simp only [top, Prod.mk.injEq] at hv
      obtain ⟨rfl, rfl⟩ := hv
      by_cases hm : c = 1152921504606846976 ∧ m = 1152921504606846976
      · exact .inl ⟨hm.1, hm.2, rfl, rfl⟩
      · exact .inr (.inl ⟨hm, rfl, rfl⟩)
    | true =>
      rw [uS_yes hadd] at hv
      simp only [Prod.mk.injEq] at hv
      obtain ⟨rfl, rfl⟩ := hv
      unfold addB at hadd
      rw [Bool.and_eq_true, Bool.and_eq_true, mayR_true, mayR_true, mayR_true] at hadd
      obtain ⟨⟨⟨h1, h2⟩, h3, h4⟩, h5, h6⟩ := hadd
      by_cases hm : c = 1152921504606846976 ∧ m = 1152921504606846976
      · exact .inl ⟨hm.1, hm.2, by omega, by omega⟩
      · by_cases hn : c + x.c = 1152921504606846976 ∧ m + x.m = 1152921504606846976
        · exact .inr (.inl ⟨hm, hn.1, hn.2⟩)
        · exact .inr (.inr ⟨hm, hn, rfl, rfl, h5.1, h5.2, h6.1, h6.2⟩)
theorem own_blk {w : World} {lo k n : Nat} {e : TypeId} {v : Value} {xs : List Value} (h : w.ownsRow lo e k v n xs) {b : Nat} (hb : v.ownBlock = some b) : lo ≤ b ∧ b < w.heap.size := by
  rcases h.2 with ⟨e1, _⟩ | ⟨g, cap, cu, e1, hl, hgg, _⟩
  · rw [e1] at hb; cases hb
  · rw [e1] at hb
    have e2 : g = b := by simpa [Value.ownBlock] using hb
    subst e2
    exact ⟨hl, heap_lt hgg⟩
structure MrS (w W : World) (xl : List Value) (q : Nat) (u1 u2 : Int) : Prop where
  a : W.rangeAt (w.heap.size + 1) 0 xl
  u : Pr W q u1 u2
  b : Below w.heap.size w W
  l : w.heap.size + 1 < W.heap.size
theorem MrS.grow {w W W' : World} {xl : List Value} {q : Nat} {u1 u2 : Int} (h : MrS w W xl q u1 u2) (hb : Below W.heap.size W W') : MrS w W' xl q u1 u2 :=
  ⟨range_of h.a (hb.block _ h.l), h.u.grow hb, h.b.trans (hb.mono h.b.size), Nat.lt_of_lt_of_le h.l hb.size⟩
theorem MrS.grown {w W W' : World} {xl : List Value} {q : Nat} {u1 u2 : Int} {row : Option Nat} (h : MrS w W xl q u1 u2) (hw : w.heap.size + 1 < q) (hg : W.grownBy W' row) (hr : ∀ k, row = some k → q < k) : MrS w W' xl q u1 u2 := by
  have keep : ∀ b, b ≤ q → W'.heap[b]? = W.heap[b]? := fun b hb => hg.block b (by have := h.u.lt; omega) (fun e => by have := hr b e.symm; omega)
  have hu : W.heap[q]? = _ := h.u
  exact ⟨range_of h.a (keep _ (by omega)), (keep q (Nat.le_refl _)).trans hu, h.b.trans ⟨hg.os, hg.tape, hg.output, hg.size, fun b hb => keep b (by omega)⟩, Nat.lt_of_lt_of_le h.l hg.size⟩
set_option maxRecDepth 100000 in
set_option maxHeartbeats 8000000 in
theorem walkMore (s : Sc) (J B : List Js) (X : List Ss) (d : St) (x : Al) (nd : Int) (w : World) (hS : StR w (fun b => b < w.heap.size) s J B X d) (hz : d.allocs.length * 88 ≤ reachBytes) :
    Calls Try.prog 7 #[.agg #[.int .i64 s.ix, .int .i64 s.nx, .slice s.a2 s.n2 s.c2, .slice s.a3 s.n3 s.c3, .slice s.a4 s.n4 s.c4, .slice s.a5 s.n5 s.c5, .slice s.a6 s.n6 s.c6, .slice s.a7 s.n7 s.c7, .slice s.a8 s.n8 s.c8], .agg #[.int .i64 x.id, .int .i64 x.jb, .int .i64 x.ve, .int .i64 x.gr, .int .i64 x.ix, .int .i64 x.nd, .int .i64 x.ep, .int .i64 x.c, .int .i64 x.m, .bool x.sp, .int .i64 x.st], .int .i64 nd] w fun e w' => e = .returned (.bool true) ∧ Below w.heap.size w w' := by
  obtain ⟨ix, nx, a2, n2, c2, a3, n3, c3, a4, n4, c4, a5, n5, c5, a6, n6, c6, a7, n7, c7, a8, n8, c8⟩ := s
  obtain ⟨h2, h3, h4, h5, h6, h7, h8⟩ : n2 = J.length ∧ n3 = B.length ∧ n4 = d.nodes.length ∧ n5 = d.allocs.length ∧ n6 = d.evals.length ∧ n7 = d.deps.length ∧ n8 = X.length := ⟨hS.f.n2, hS.f.n3, hS.f.n4, hS.f.n5, hS.f.n6, hS.f.n7, hS.f.n8⟩
  subst h2
  subst h3
  subst h4
  subst h5
  subst h6
  subst h7
  subst h8
  have hz2 : (d.allocs.length + 1) * 88 ≤ 140737488355328 := by unfold reachBytes at hz; omega
  have HZ := hidOf hz2
  have HU1 := hidOf (fun (W : World) (hW : Below w.heap.size w W) => used_any ⟨ix, nx, a2, J.length, c2, a3, B.length, c3, a4, d.nodes.length, c4, a5, d.allocs.length, c5, a6, d.evals.length, c6, a7, d.deps.length, c7, a8, X.length, c8⟩ nd d.allocs W rfl (hS.up hW).f.f5)
  have HCP := hidOf (fun (W : World) (hW : Below w.heap.size w W) => refCopy_any ⟨ix, nx, a2, J.length, c2, a3, B.length, c3, a4, d.nodes.length, c4, a5, d.allocs.length, c5, a6, d.evals.length, c6, a7, d.deps.length, c7, a8, X.length, c8⟩ J B X d W (hS.up hW))
  dsimp only at HU1 HCP
  obtain ⟨⟨u1, u2⟩, hu⟩ : ∃ p, usedV nd d.allocs = p := ⟨_, rfl⟩
  obtain ⟨⟨v1, v2⟩, hv⟩ : ∃ p, usedV nd (d.allocs ++ [x]) = p := ⟨_, rfl⟩
  rw [hu] at HU1
  dsimp only at HU1
  have HU := hidOf hu
  have HV := hidOf hv
  clear hS hz hz2 hu hv
  dsimp only
  have Z0 := hidOf (FdS.begin w [.int .i64 ix, .int .i64 nx, .slice a2 J.length c2, .slice a3 B.length c3, .slice a4 d.nodes.length c4, .slice a5 d.allocs.length c5, .slice a6 d.evals.length c6, .slice a7 d.deps.length c7, .slice a8 X.length c8] [.int .i64 x.id, .int .i64 x.jb, .int .i64 x.ve, .int .i64 x.gr, .int .i64 x.ix, .int .i64 x.nd, .int .i64 x.ep, .int .i64 x.c, .int .i64 x.m, .bool x.sp, .int .i64 x.st] 29 33)
  go_enter Try.func7, Try.ntmps7
  go_upto_region 3 with (first
    | (go_at_call 25; refine (HU1.out _ Z0.out.b).mono ?_; rintro e w1 ⟨rfl, hb⟩; have Z1 := hidOf (Z0.out.grow hb); clear hb HU1; have s0 : w1.cell? ⟨w.heap.size, 0, none⟩ = some (.int .i64 ix) := Z1.out.s 0 _ rfl; have s1 : w1.cell? ⟨w.heap.size, 1, none⟩ = some (.int .i64 nx) := Z1.out.s 1 _ rfl; have s2 : w1.cell? ⟨w.heap.size, 2, none⟩ = some (.slice a2 J.length c2) := Z1.out.s 2 _ rfl; have s3 : w1.cell? ⟨w.heap.size, 3, none⟩ = some (.slice a3 B.length c3) := Z1.out.s 3 _ rfl; have s4 : w1.cell? ⟨w.heap.size, 4, none⟩ = some (.slice a4 d.nodes.length c4) := Z1.out.s 4 _ rfl; have s5 : w1.cell? ⟨w.heap.size, 5, none⟩ = some (.slice a5 d.allocs.length c5) := Z1.out.s 5 _ rfl; have s6 : w1.cell? ⟨w.heap.size, 6, none⟩ = some (.slice a6 d.evals.length c6) := Z1.out.s 6 _ rfl; have s7 : w1.cell? ⟨w.heap.size, 7, none⟩ = some (.slice a7 d.deps.length c7) := Z1.out.s 7 _ rfl; have s8 : w1.cell? ⟨w.heap.size, 8, none⟩ = some (.slice a8 X.length c8) := Z1.out.s 8 _ rfl; have ll := Z1.out.l; have ll0 : w.heap.size < w1.heap.size := by omega)
    | (go_at_call 31; refine (HCP.out _ (Z1.out.b.trans ((below1 w1 _).mono Z1.out.b.size))).mono ?_; rintro e w2 ⟨⟨tx, ty, t2, m2, k2, t3, m3, k3, t4, m4, k4, t5, m5, k5, t6, m6, k6, t7, m7, k7, t8, m8, k8⟩, J', B', X', rfl, hS', hb, hown⟩; have hm5 : m5 = d.allocs.length := hS'.f.n5; subst hm5; have M2 := hidOf ((MrS.mk (w := w) (range_of Z1.out.a ((below1 w1 _).block _ Z1.out.l)) (pr_new w1 u1 u2) (Z1.out.b.trans ((below1 w1 _).mono Z1.out.b.size)) (by simp; omega)).grow hb); have HO := hidOf hown; have hs2 := hb.size; simp only [World.size_alloc] at hs2; clear hb hown hS' HCP s0 s1 s2 s3 s4 s5 s6 s7 s8))
  have hl1 : w.heap.size + 1 < w1.heap.size := Z1.out.l
  have hsw2 : w1.heap.size + 1 ≤ w2.heap.size := hs2
  have x0 : w2.cell? ⟨w.heap.size + 1, 0, none⟩ = some (.int .i64 x.id) := M2.out.a 0 _ rfl
  have x1 : w2.cell? ⟨w.heap.size + 1, 1, none⟩ = some (.int .i64 x.jb) := M2.out.a 1 _ rfl
  have x2 : w2.cell? ⟨w.heap.size + 1, 2, none⟩ = some (.int .i64 x.ve) := M2.out.a 2 _ rfl
  have x3 : w2.cell? ⟨w.heap.size + 1, 3, none⟩ = some (.int .i64 x.gr) := M2.out.a 3 _ rfl
  have x4 : w2.cell? ⟨w.heap.size + 1, 4, none⟩ = some (.int .i64 x.ix) := M2.out.a 4 _ rfl
  have x5 : w2.cell? ⟨w.heap.size + 1, 5, none⟩ = some (.int .i64 x.nd) := M2.out.a 5 _ rfl
  have x6 : w2.cell? ⟨w.heap.size + 1, 6, none⟩ = some (.int .i64 x.ep) := M2.out.a 6 _ rfl
  have x7 : w2.cell? ⟨w.heap.size + 1, 7, none⟩ = some (.int .i64 x.c) := M2.out.a 7 _ rfl
  have x8 : w2.cell? ⟨w.heap.size + 1, 8, none⟩ = some (.int .i64 x.m) := M2.out.a 8 _ rfl
  have x9 : w2.cell? ⟨w.heap.size + 1, 9, none⟩ = some (.bool x.sp) := M2.out.a 9 _ rfl
  have x10 : w2.cell? ⟨w.heap.size + 1, 10, none⟩ = some (.int .i64 x.st) := M2.out.a 10 _ rfl
  have lx : w.heap.size + 1 < w2.heap.size := by omega
  have HOL : Hid (((w2.alloc (.cells #[.int .i64 tx, .int .i64 ty, .slice t2 m2 k2, .slice t3 m3 k3, .slice t4 m4 k4, .slice t5 d.allocs.length k5, .slice t6 m6 k6, .slice t7 m7 k7, .slice t8 m8 k8] 29)).alloc (.cells #[.int .i64 x.id, .int .i64 x.jb, .int .i64 x.ve, .int .i64 x.gr, .int .i64 x.ix, .int .i64 x.nd, .int .i64 x.ep, .int .i64 x.c, .int .i64 x.m, .bool x.sp, .int .i64 x.st] 33)).ownsRow (w1.heap.size + 1) 33 11 (.slice t5 d.allocs.length k5) d.allocs.length (fl Al.cs d.allocs)) := hidOf (own_kept (own_lo HO.out (by simp)) (fun b _ h2 => (below2 w2 _ _).block b h2))
  have HNEW : Hid (∀ j u, (Al.cs x)[j]? = some u → ((w2.alloc (.cells #[.int .i64 tx, .int .i64 ty, .slice t2 m2 k2, .slice t3 m3 k3, .slice t4 m4 k4, .slice t5 d.allocs.length k5, .slice t6 m6 k6, .slice t7 m7 k7, .slice t8 m8 k8] 29)).alloc (.cells #[.int .i64 x.id, .int .i64 x.jb, .int .i64 x.ve, .int .i64 x.gr, .int .i64 x.ix, .int .i64 x.nd, .int .i64 x.ep, .int .i64 x.c, .int .i64 x.m, .bool x.sp, .int .i64 x.st] 33)).cell? ((⟨w2.heap.size + 1, 0, none⟩ : Addr).add j) = some u) := hidOf (fun j u hj => by
    have hh := heap_alloc_new (w2.alloc (.cells #[.int .i64 tx, .int .i64 ty, .slice t2 m2 k2, .slice t3 m3 k3, .slice t4 m4 k4, .slice t5 d.allocs.length k5, .slice t6 m6 k6, .slice t7 m7 k7, .slice t8 m8 k8] 29)) (.cells #[.int .i64 x.id, .int .i64 x.jb, .int .i64 x.ve, .int .i64 x.gr, .int .i64 x.ix, .int .i64 x.nd, .int .i64 x.ep, .int .i64 x.c, .int .i64 x.m, .bool x.sp, .int .i64 x.st] 33)
    rw [World.size_alloc] at hh
    rw [Addr.add_lit, cell_of_row _ (w2.heap.size + 1) _ _ 33 (0, 0) hh, Nat.zero_add]
    have hl : ([.int .i64 x.id, .int .i64 x.jb, .int .i64 x.ve, .int .i64 x.gr, .int .i64 x.ix, .int .i64 x.nd, .int .i64 x.ep, .int .i64 x.c, .int .i64 x.m, .bool x.sp, .int .i64 x.st] : List Value)[j]? = some u := hj
    simpa using hl)
  go_upto_region 4 with (at_builtin; refine wpList_app1 _ rfl _ _ 24 rfl (w1.heap.size + 1) 33 _ 11 88 Try.underlying24 info33 rfl (by decide) _ d.allocs.length (fl Al.cs d.allocs) rfl HOL.out ⟨w2.heap.size + 1, 0, none⟩ 1 (Al.cs x) rfl rfl HNEW.out (Al.one x) (by unfold maxLen; have := HZ.out; omega) HZ.out (by simp; omega) ?_; intro a' c' w4 hown4 hg4; have hrow : ∀ k, (Value.slice t5 d.allocs.length k5).ownBlock = some k → w1.heap.size + 1 ≤ k ∧ k < w2.heap.size := (fun k hk => own_blk (own_lo HO.out (by simp)) hk); have hs4 := hg4.size; simp only [World.size_alloc] at hs4; have M4 := hidOf ((M2.out.grow (below2 w2 _ _)).grown (by omega) hg4 (fun k hk => by have := (hrow k hk).1; omega)); have ht0 : w4.heap[w2.heap.size]? = some (.cells #[.int .i64 tx, .int .i64 ty, .slice t2 m2 k2, .slice t3 m3 k3, .slice t4 m4 k4, .slice t5 d.allocs.length k5, .slice t6 m6 k6, .slice t7 m7 k7, .slice t8 m8 k8] 29 (0, 0)) := (hg4.block _ (by simp <;> omega) (fun e2 => by have := (hrow _ e2.symm).2; omega)).trans (alloc_at (heap_alloc_new w2 _) _); have HT := hidOf ht0; have HO4 := hidOf hown4; have fT : ∀ j, w4.frozen? ⟨w2.heap.size, j, none⟩ = false := fun j => frozen_of_row w4 _ j _ 29 ht0; have g0 : w4.cell? ⟨w2.heap.size, 0, none⟩ = some (.int .i64 tx) := (cell_of_row w4 _ 0 _ 29 (0, 0) ht0).trans rfl; have g1 : w4.cell? ⟨w2.heap.size, 1, none⟩ = some (.int .i64 ty) := (cell_of_row w4 _ 1 _ 29 (0, 0) ht0).trans rfl; have g2 : w4.cell? ⟨w2.heap.size, 2, none⟩ = some (.slice t2 m2 k2) := (cell_of_row w4 _ 2 _ 29 (0, 0) ht0).trans rfl; have g3 : w4.cell? ⟨w2.heap.size, 3, none⟩ = some (.slice t3 m3 k3) := (cell_of_row w4 _ 3 _ 29 (0, 0) ht0).trans rfl; have g4 : w4.cell? ⟨w2.heap.size, 4, none⟩ = some (.slice t4 m4 k4) := (cell_of_row w4 _ 4 _ 29 (0, 0) ht0).trans rfl; have g5 : w4.cell? ⟨w2.heap.size, 5, none⟩ = some (.slice t5 d.allocs.length k5) := (cell_of_row w4 _ 5 _ 29 (0, 0) ht0).trans rfl; have g6 : w4.cell? ⟨w2.heap.size, 6, none⟩ = some (.slice t6 m6 k6) := (cell_of_row w4 _ 6 _ 29 (0, 0) ht0).trans rfl; have g7 : w4.cell? ⟨w2.heap.size, 7, none⟩ = some (.slice t7 m7 k7) := (cell_of_row w4 _ 7 _ 29 (0, 0) ht0).trans rfl; have g8 : w4.cell? ⟨w2.heap.size, 8, none⟩ = some (.slice t8 m8 k8) := (cell_of_row w4 _ 8 _ 29 (0, 0) ht0).trans rfl; have lt4 : w2.heap.size < w4.heap.size := heap_lt ht0; clear hown4 hg4 hrow ht0 x0 x1 x2 x3 x4 x5 x6 x7 x8 x9 x10 lx)
  obtain ⟨w5, hw5⟩ : ∃ y, y = w4.setCell ⟨w2.heap.size, 5, none⟩ (.slice a' (d.allocs.length + 1) c') := ⟨_, rfl⟩
  rw [← hw5]
  have ht5 : w5.heap[w2.heap.size]? = some (.cells #[.int .i64 tx, .int .i64 ty, .slice t2 m2 k2, .slice t3 m3 k3, .slice t4 m4 k4, .slice a' (d.allocs.length + 1) c', .slice t6 m6 k6, .slice t7 m7 k7, .slice t8 m8 k8] 29 (0, 0)) := by
    rw [hw5]
    have := heap_setCell_same w4 w2.heap.size 5 _ 29 (.slice a' (d.allocs.length + 1) c') HT.out
    simp only [List.setIfInBounds_toArray, List.set_cons_zero, List.set_cons_succ] at this
    exact this
  have hoth : ∀ b, b ≠ w2.heap.size → w5.heap[b]? = w4.heap[b]? := fun b hb => by rw [hw5]; exact heap_setCell_other w4 ⟨w2.heap.size, 5, none⟩ b _ hb
  have M5 : Hid (MrS w w5 [.int .i64 x.id, .int .i64 x.jb, .int .i64 x.ve, .int .i64 x.gr, .int .i64 x.ix, .int .i64 x.nd, .int .i64 x.ep, .int .i64 x.c, .int .i64 x.m, .bool x.sp, .int .i64 x.st] w1.heap.size u1 u2) := by
    have hu4 : w4.heap[w1.heap.size]? = _ := M4.out.u
    refine hidOf ⟨range_of M4.out.a (hoth _ (by omega)), (hoth _ (by omega)).trans hu4, ?_, by have := heap_lt ht5; omega⟩
    rw [hw5]
    exact M4.out.b.setCell (p := ⟨w2.heap.size, 5, none⟩) (by show w.heap.size ≤ w2.heap.size; omega) _
  have hrow5 : ∀ g cap cur, w4.heap[g]? = some (.cells cur 33 cap) → g ≠ w2.heap.size := fun g cap cur h e2 => by
    subst e2
    rw [HT.out] at h
    cases h
  have hown5 : w5.ownsRow (w1.heap.size + 1) 33 11 (.slice a' (d.allocs ++ [x]).length c') (d.allocs ++ [x]).length (fl Al.cs (d.allocs ++ [x])) := by
    rw [fl_snoc, List.length_append, List.length_singleton]
    refine ⟨HO4.out.1, HO4.out.2.imp id (fun ⟨g, cap, cur, h1, h2, h3, r⟩ => ⟨g, cap, cur, h1, h2, (hoth g (hrow5 g _ _ h3)).trans h3, r⟩)⟩
  have hfl := own_fl (y := 88) Al.len hown5 (by rw [List.length_append, List.length_singleton]; exact HZ.out)
  have hU2 := used_any ⟨tx, ty, t2, m2, k2, t3, m3, k3, t4, m4, k4, a', (d.allocs.length + 1), c', t6, m6, k6, t7, m7, k7, t8, m8, k8⟩ nd (d.allocs ++ [x]) w5 (by simp) (hfl.kept (fun _ _ => rfl) (fun b hb => hb.lt))
  dsimp only at hU2
  rw [HV.out] at hU2
  dsimp only at hU2
  have HU2 := hidOf hU2
  have l5 : w2.heap.size < w5.heap.size := heap_lt ht5
  have y0 : w5.cell? ⟨w2.heap.size, 0, none⟩ = some (.int .i64 tx) := (cell_of_row w5 _ 0 _ 29 (0, 0) ht5).trans rfl
  have y1 : w5.cell? ⟨w2.heap.size, 1, none⟩ = some (.int .i64 ty) := (cell_of_row w5 _ 1 _ 29 (0, 0) ht5).trans rfl
  have y2 : w5.cell? ⟨w2.heap.size, 2, none⟩ = some (.slice t2 m2 k2) := (cell_of_row w5 _ 2 _ 29 (0, 0) ht5).trans rfl
  have y3 : w5.cell? ⟨w2.heap.size, 3, none⟩ = some (.slice t3 m3 k3) := (cell_of_row w5 _ 3 _ 29 (0, 0) ht5).trans rfl
  have y4 : w5.cell? ⟨w2.heap.size, 4, none⟩ = some (.slice t4 m4 k4) := (cell_of_row w5 _ 4 _ 29 (0, 0) ht5).trans rfl
  have y5 : w5.cell? ⟨w2.heap.size, 5, none⟩ = some (.slice a' (d.allocs.length + 1) c') := (cell_of_row w5 _ 5 _ 29 (0, 0) ht5).trans rfl
  have y6 : w5.cell? ⟨w2.heap.size, 6, none⟩ = some (.slice t6 m6 k6) := (cell_of_row w5 _ 6 _ 29 (0, 0) ht5).trans rfl
  have y7 : w5.cell? ⟨w2.heap.size, 7, none⟩ = some (.slice t7 m7 k7) := (cell_of_row w5 _ 7 _ 29 (0, 0) ht5).trans rfl
  have y8 : w5.cell? ⟨w2.heap.size, 8, none⟩ = some (.slice t8 m8 k8) := (cell_of_row w5 _ 8 _ 29 (0, 0) ht5).trans rfl
  clear hw5 ht5 hoth hown5 hfl hU2 hrow5 g0 g1 g2 g3 g4 g5 g6 g7 g8 fT
  go_upto_region 5 with (go_at_call 25; refine HU2.out.mono ?_; rintro e w6 ⟨rfl, hb⟩; have M6 := hidOf (M5.out.grow hb); clear hb y0 y1 y2 y3 y4 y5 y6 y7 y8)
  have x0 : w6.cell? ⟨w.heap.size + 1, 0, none⟩ = some (.int .i64 x.id) := M6.out.a 0 _ rfl
  have x1 : w6.cell? ⟨w.heap.size + 1, 1, none⟩ = some (.int .i64 x.jb) := M6.out.a 1 _ rfl
  have x2 : w6.cell? ⟨w.heap.size + 1, 2, none⟩ = some (.int .i64 x.ve) := M6.out.a 2 _ rfl
  have x3 : w6.cell? ⟨w.heap.size + 1, 3, none⟩ = some (.int .i64 x.gr) := M6.out.a 3 _ rfl
  have x4 : w6.cell? ⟨w.heap.size + 1, 4, none⟩ = some (.int .i64 x.ix) := M6.out.a 4 _ rfl
  have x5 : w6.cell? ⟨w.heap.size + 1, 5, none⟩ = some (.int .i64 x.nd) := M6.out.a 5 _ rfl
  have x6 : w6.cell? ⟨w.heap.size + 1, 6, none⟩ = some (.int .i64 x.ep) := M6.out.a 6 _ rfl
  have x7 : w6.cell? ⟨w.heap.size + 1, 7, none⟩ = some (.int .i64 x.c) := M6.out.a 7 _ rfl
  have x8 : w6.cell? ⟨w.heap.size + 1, 8, none⟩ = some (.int .i64 x.m) := M6.out.a 8 _ rfl
  have x9 : w6.cell? ⟨w.heap.size + 1, 9, none⟩ = some (.bool x.sp) := M6.out.a 9 _ rfl
  have x10 : w6.cell? ⟨w.heap.size + 1, 10, none⟩ = some (.int .i64 x.st) := M6.out.a 10 _ rfl
  have lx : w.heap.size + 1 < w6.heap.size := M6.out.l
  have p0 := M6.out.u.c0
  have p1 := M6.out.u.c1
  have lp : w1.heap.size < w6.heap.size := M6.out.u.lt
  have hl6 : w.heap.size ≤ w6.heap.size := M6.out.b.size
  have lx0 : w.heap.size < w6.heap.size := by omega
  by_cases hst : 3 ≤ x.st
  · have hvu : (v1, v2) = (u1, u2) := by rw [← HV.out, ← HU.out]; exact used_no (by rw [usB, ovr_true hst]; simp)
    obtain ⟨rfl, rfl⟩ := Prod.mk.inj hvu
    clear hvu HV HU HU2
    go_wp2_with (go_at_call 22; refine (lives_any _).mono ?_; rintro e w7 ⟨rfl, hb⟩; have HB7 := hidOf ((M6.out.b.trans ((below1 w6 _).mono hl6)).trans (hb.mono (by simp; omega))); clear hb)
    go_ret
    exact ⟨rfl, HB7.out⟩
  · by_cases hnd : x.nd = nd
    · have bn : (x.nd == nd) = true := by simp [hnd]
      have bn' : (x.nd != nd) = false := by simp [hnd]
      have HM := hidOf (more_ok (show usB nd x = true by rw [usB, isI_true hnd, ovr_false hst]; rfl) u1 u2 v1 v2 HU.out HV.out)
      clear hnd HU HV HU2
      rcases HM.out with ⟨rfl, rfl, rfl, rfl⟩ | ⟨hn, rfl, rfl⟩ | ⟨hn, hn2, rfl, rfl, i1, i2, i3, i4⟩
      · clear HM
        go_wp2_with (go_at_call 22; refine (lives_any _).mono ?_; rintro e w7 ⟨rfl, hb⟩; have HB7 := hidOf ((M6.out.b.trans ((below2 w6 _ _).mono hl6)).trans (hb.mono (by simp; omega))); clear hb)
        go_ret
        exact ⟨rfl, HB7.out⟩
      · clear HM
        by_cases k1 : u1 = 1152921504606846976
        · have k2 : ¬ u2 = 1152921504606846976 := fun h => hn ⟨k1, h⟩
          subst k1
          have k2' : (u2 == 1152921504606846976) = false := by simp [k2]
          clear hn
          go_wp2_with (go_at_call 22; refine (lives_any _).mono ?_; rintro e w7 ⟨rfl, hb⟩; have HB7 := hidOf ((M6.out.b.trans ((below2 w6 _ _).mono hl6)).trans (hb.mono (by simp; omega))); clear hb)
          go_ret
          exact ⟨rfl, HB7.out⟩
        · have k1' : (u1 == 1152921504606846976) = false := by simp [k1]
          clear hn
          go_wp2_with (go_at_call 22; refine (lives_any _).mono ?_; rintro e w7 ⟨rfl, hb⟩; have HB7 := hidOf ((M6.out.b.trans ((below2 w6 _ _).mono hl6)).trans (hb.mono (by simp; omega))); clear hb)
          go_ret
          exact ⟨rfl, HB7.out⟩
      · clear HM
        by_cases k1 : u1 = 1152921504606846976
        · have k2 : ¬ u2 = 1152921504606846976 := fun h => hn ⟨k1, h⟩
          have k1' : (u1 == 1152921504606846976) = true := by simp [k1]
          have k2' : (u2 == 1152921504606846976) = false := by simp [k2]
          clear hn k1 k2
          by_cases k3 : u1 + x.c = 1152921504606846976
          · have k4 : ¬ u2 + x.m = 1152921504606846976 := fun h => hn2 ⟨k3, h⟩
            have k3' : (u1 + x.c == 1152921504606846976) = true := by simp [k3]
            have k4' : (u2 + x.m == 1152921504606846976) = false := by simp [k4]
            clear hn2 k3 k4
            go_wp2_with (go_at_call 22; refine (lives_any _).mono ?_; rintro e w7 ⟨rfl, hb⟩; have HB7 := hidOf ((M6.out.b.trans ((below2 w6 _ _).mono hl6)).trans (hb.mono (by simp; omega))); clear hb)
            go_ret
            exact ⟨rfl, HB7.out⟩
          · have k3' : (u1 + x.c == 1152921504606846976) = false := by simp [k3]
            clear hn2 k3
            go_wp2_with (go_at_call 22; refine (lives_any _).mono ?_; rintro e w7 ⟨rfl, hb⟩; have HB7 := hidOf ((M6.out.b.trans ((below2 w6 _ _).mono hl6)).trans (hb.mono (by simp; omega))); clear hb)
            go_ret
            exact ⟨rfl, HB7.out⟩
        · have k1' : (u1 == 1152921504606846976) = false := by simp [k1]
          clear hn k1
          by_cases k3 : u1 + x.c = 1152921504606846976
          · have k4 : ¬ u2 + x.m = 1152921504606846976 := fun h => hn2 ⟨k3, h⟩
            have k3' : (u1 + x.c == 1152921504606846976) = true := by simp [k3]
            have k4' : (u2 + x.m == 1152921504606846976) = false := by simp [k4]
            clear hn2 k3 k4
            go_wp2_with (go_at_call 22; refine (lives_any _).mono ?_; rintro e w7 ⟨rfl, hb⟩; have HB7 := hidOf ((M6.out.b.trans ((below2 w6 _ _).mono hl6)).trans (hb.mono (by simp; omega))); clear hb)
            go_ret
            exact ⟨rfl, HB7.out⟩
          · have k3' : (u1 + x.c == 1152921504606846976) = false := by simp [k3]
            clear hn2 k3
            go_wp2_with (go_at_call 22; refine (lives_any _).mono ?_; rintro e w7 ⟨rfl, hb⟩; have HB7 := hidOf ((M6.out.b.trans ((below2 w6 _ _).mono hl6)).trans (hb.mono (by simp; omega))); clear hb)
            go_ret
            exact ⟨rfl, HB7.out⟩
    · have bn : (x.nd == nd) = false := by simp [hnd]
      have bn' : (x.nd != nd) = true := by simp [hnd]
      have hvu : (v1, v2) = (u1, u2) := by rw [← HV.out, ← HU.out]; exact used_no (by rw [usB, isI_false hnd]; rfl)
      obtain ⟨rfl, rfl⟩ := Prod.mk.inj hvu
      clear hvu HV HU HU2 hnd
      go_wp2_with (go_at_call 22; refine (lives_any _).mono ?_; rintro e w7 ⟨rfl, hb⟩; have HB7 := hidOf ((M6.out.b.trans ((below1 w6 _).mono hl6)).trans (hb.mono (by simp; omega))); clear hb)
      go_ret
      exact ⟨rfl, HB7.out⟩
end Go.Proofs.Ytkokkdekbilkjaa
