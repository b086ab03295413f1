/- Whatever is looked for in any store is found where the document says. -/
import Derived.Test.YtkokkdekbilkjaaLi
import Derived.Test.YtkokkdekbilkjaaLk
import Derived.Test.YtkokkdekbilkjaaRk
import Derived.Deep.Cut
import Derived.Deep.RegionHeld3
namespace Go.Proofs.Ytkokkdekbilkjaa
open Go.RowKit Go.Shelf
attribute [local go_sem] Oper.semAt_some
structure FdS (w W : World) (st ak : List Value) : Prop where
  s : W.rangeAt w.heap.size 0 st
  a : W.rangeAt (w.heap.size + 1) 0 ak
  b : Below w.heap.size w W
  l : w.heap.size + 1 < W.heap.size
theorem FdS.grow {w W W' : World} {st ak : List Value} (h : FdS w W st ak) (hb : Below W.heap.size W W') : FdS w W' st ak :=
  ⟨range_of h.s (hb.block _ (by have := h.l; omega)), range_of h.a (hb.block _ h.l), h.b.trans (hb.mono h.b.size), Nat.lt_of_lt_of_le h.l hb.size⟩
theorem FdS.drew {w W : World} {st ak : List Value} (h : FdS w W st ak) : FdS w W.drew st ak := h.grow (bdrew W)
theorem FdS.begin (w : World) (st ak : List Value) (t u : TypeId) : FdS w ((w.alloc (.cells st.toArray t)).alloc (.cells ak.toArray u)) st ak := by
  obtain ⟨h1, h2, h3, h4⟩ := two_boxes (cs := st) (ds := ak) (t := t) (u := u) (w := w) (Below.refl _ _)
  exact ⟨h1, h2, h3, h4⟩
set_option maxHeartbeats 400000 in
theorem refOver_any (x : Al) (w : World) : Calls Try.prog 21 #[.agg #[.int .i64 x.id, .int .i64 x.jb, .int .i64 x.ve, .int .i64 x.gr, .int .i64 x.ix, .int .i64 x.nd, .int .i64 x.ep, .int .i64 x.c, .int .i64 x.m, .bool x.sp, .int .i64 x.st]] w fun e w' => e = .returned (.bool (ovr x.st)) ∧ Below w.heap.size w w' := by
  by_cases h : 3 ≤ x.st
  · rw [ovr_true h]
    go_enter Try.func21, Try.ntmps21
    go_wp2
    go_ret
    exact ⟨by simp, below1 _ _⟩
  · rw [ovr_false h]
    go_enter Try.func21, Try.ntmps21
    go_wp2
    go_ret
    exact ⟨by simp, below1 _ _⟩
/- the lists of a store, shallow -/
structure StF (w : World) (S : Nat → Prop) (s : Sc) (J B : List Js) (Nn : List Nd) (A : List Al) (E D : List Qd) (X : List Ss) : Prop where
  n2 : s.n2 = J.length
  n3 : s.n3 = B.length
  n4 : s.n4 = Nn.length
  n5 : s.n5 = A.length
  n6 : s.n6 = E.length
  n7 : s.n7 = D.length
  n8 : s.n8 = X.length
  f2 : Fl w S 7 72 Js.cs s.a2 J
  f3 : Fl w S 7 72 Js.cs s.a3 B
  f4 : Fl w S 8 56 Nd.cs s.a4 Nn
  f5 : Fl w S 11 88 Al.cs s.a5 A
  f6 : Fl w S 4 32 Qd.cs s.a6 E
  f7 : Fl w S 4 32 Qd.cs s.a7 D
  f8 : Fl w S 5 56 Ss.cs s.a8 X
theorem StF.kept {w w' : World} {S S' : Nat → Prop} {s : Sc} {J B : List Js} {Nn : List Nd} {A : List Al} {E D : List Qd} {X : List Ss} (h : StF w S s J B Nn A E D X) (hb : ∀ b, S b → w'.heap[b]? = w.heap[b]?) (hm : ∀ b, S b → S' b) : StF w' S' s J B Nn A E D X :=
  ⟨h.n2, h.n3, h.n4, h.n5, h.n6, h.n7, h.n8, h.f2.kept hb hm, h.f3.kept hb hm, h.f4.kept hb hm, h.f5.kept hb hm, h.f6.kept hb hm, h.f7.kept hb hm, h.f8.kept hb hm⟩
theorem StF.up {w w' : World} {s : Sc} {J B : List Js} {Nn : List Nd} {A : List Al} {E D : List Qd} {X : List Ss} (h : StF w (fun b => b < w.heap.size) s J B Nn A E D X) (hb : Below w.heap.size w w') : StF w' (fun b => b < w'.heap.size) s J B Nn A E D X :=
  h.kept (fun b hb' => hb.block b hb') (fun _ hb' => Nat.lt_of_lt_of_le hb' hb.size)
set_option maxRecDepth 100000 in
set_option maxHeartbeats 8000000 in
theorem lawFinds (s : Sc) (id gr ixx : Int) (x : Al) (J B : List Js) (Nn : List Nd) (A : List Al) (E D : List Qd) (X : List Ss) (w : World) (hs : StF w (fun b => b < w.heap.size) s J B Nn A E D X) :
    Calls Try.prog 3 #[.agg #[.int .i64 s.ix, .int .i64 s.nx, .slice s.a2 s.n2 s.c2, .slice s.a3 s.n3 s.c3, .slice s.a4 s.n4 s.c4, .slice s.a5 s.n5 s.c5, .slice s.a6 s.n6 s.c6, .slice s.a7 s.n7 s.c7, .slice s.a8 s.n8 s.c8], .agg #[.int .i64 id, .int .i64 gr, .int .i64 ixx, .int .i64 x.id, .int .i64 x.jb, .int .i64 x.ve, .int .i64 x.gr, .int .i64 x.ix, .int .i64 x.nd, .int .i64 x.ep, .int .i64 x.c, .int .i64 x.m, .bool x.sp, .int .i64 x.st]] w fun e w' => e = .returned (.bool true) ∧ Below w.heap.size w w' := by
  obtain ⟨ix, nx, a2, n2, c2, a3, n3, c3, a4, n4, c4, a5, n5, c5, a6, n6, c6, a7, n7, c7, a8, n8, c8⟩ := s
  obtain ⟨h2, h3, h4, h5, h6, h7, h8⟩ : n2 = J.length ∧ n3 = B.length ∧ n4 = Nn.length ∧ n5 = A.length ∧ n6 = E.length ∧ n7 = D.length ∧ n8 = X.length := ⟨hs.n2, hs.n3, hs.n4, hs.n5, hs.n6, hs.n7, hs.n8⟩
  subst h2
  subst h3
  subst h4
  subst h5
  subst h6
  subst h7
  subst h8
  have Hjob1 := hidOf (fun (W : World) (hW : Below w.heap.size w W) => job_any ⟨ix, nx, a2, J.length, c2, a3, B.length, c3, a4, Nn.length, c4, a5, A.length, c5, a6, E.length, c6, a7, D.length, c7, a8, X.length, c8⟩ id J W rfl (hs.up hW).f2)
  have Hjob2 := hidOf (fun (W : World) (hW : Below w.heap.size w W) => job_ref ⟨ix, nx, a2, J.length, c2, a3, B.length, c3, a4, Nn.length, c4, a5, A.length, c5, a6, E.length, c6, a7, D.length, c7, a8, X.length, c8⟩ id J W rfl (hs.up hW).f2)
  dsimp only at Hjob1 Hjob2
  generalize fi (fun x : Js => isI x.id id) J = v1 at Hjob1 Hjob2
  have Hnode1 := hidOf (fun (W : World) (hW : Below w.heap.size w W) => node_any ⟨ix, nx, a2, J.length, c2, a3, B.length, c3, a4, Nn.length, c4, a5, A.length, c5, a6, E.length, c6, a7, D.length, c7, a8, X.length, c8⟩ id Nn W rfl (hs.up hW).f4)
  have Hnode2 := hidOf (fun (W : World) (hW : Below w.heap.size w W) => node_ref ⟨ix, nx, a2, J.length, c2, a3, B.length, c3, a4, Nn.length, c4, a5, A.length, c5, a6, E.length, c6, a7, D.length, c7, a8, X.length, c8⟩ id Nn W rfl (hs.up hW).f4)
  dsimp only at Hnode1 Hnode2
  generalize fi (fun x : Nd => isI x.id id) Nn = v2 at Hnode1 Hnode2
  have Halloc1 := hidOf (fun (W : World) (hW : Below w.heap.size w W) => alloc_any ⟨ix, nx, a2, J.length, c2, a3, B.length, c3, a4, Nn.length, c4, a5, A.length, c5, a6, E.length, c6, a7, D.length, c7, a8, X.length, c8⟩ id A W rfl (hs.up hW).f5)
  have Halloc2 := hidOf (fun (W : World) (hW : Below w.heap.size w W) => alloc_ref ⟨ix, nx, a2, J.length, c2, a3, B.length, c3, a4, Nn.length, c4, a5, A.length, c5, a6, E.length, c6, a7, D.length, c7, a8, X.length, c8⟩ id A W rfl (hs.up hW).f5)
  dsimp only at Halloc1 Halloc2
  generalize fi (fun x : Al => isI x.id id) A = v3 at Halloc1 Halloc2
  have Heval1 := hidOf (fun (W : World) (hW : Below w.heap.size w W) => eval_any ⟨ix, nx, a2, J.length, c2, a3, B.length, c3, a4, Nn.length, c4, a5, A.length, c5, a6, E.length, c6, a7, D.length, c7, a8, X.length, c8⟩ id E W rfl (hs.up hW).f6)
  have Heval2 := hidOf (fun (W : World) (hW : Below w.heap.size w W) => eval_ref ⟨ix, nx, a2, J.length, c2, a3, B.length, c3, a4, Nn.length, c4, a5, A.length, c5, a6, E.length, c6, a7, D.length, c7, a8, X.length, c8⟩ id E W rfl (hs.up hW).f6)
  dsimp only at Heval1 Heval2
  generalize fi (fun x : Qd => isI x.a id) E = v4 at Heval1 Heval2
  have Hdeploy1 := hidOf (fun (W : World) (hW : Below w.heap.size w W) => deploy_any ⟨ix, nx, a2, J.length, c2, a3, B.length, c3, a4, Nn.length, c4, a5, A.length, c5, a6, E.length, c6, a7, D.length, c7, a8, X.length, c8⟩ id D W rfl (hs.up hW).f7)
  have Hdeploy2 := hidOf (fun (W : World) (hW : Below w.heap.size w W) => deploy_ref ⟨ix, nx, a2, J.length, c2, a3, B.length, c3, a4, Nn.length, c4, a5, A.length, c5, a6, E.length, c6, a7, D.length, c7, a8, X.length, c8⟩ id D W rfl (hs.up hW).f7)
  dsimp only at Hdeploy1 Hdeploy2
  generalize fi (fun x : Qd => isI x.a id) D = v5 at Hdeploy1 Hdeploy2
  have Hstable1 := hidOf (fun (W : World) (hW : Below w.heap.size w W) => stable_any ⟨ix, nx, a2, J.length, c2, a3, B.length, c3, a4, Nn.length, c4, a5, A.length, c5, a6, E.length, c6, a7, D.length, c7, a8, X.length, c8⟩ id B W rfl (hs.up hW).f3)
  have Hstable2 := hidOf (fun (W : World) (hW : Below w.heap.size w W) => stable_ref ⟨ix, nx, a2, J.length, c2, a3, B.length, c3, a4, Nn.length, c4, a5, A.length, c5, a6, E.length, c6, a7, D.length, c7, a8, X.length, c8⟩ id B W rfl (hs.up hW).f3)
  dsimp only at Hstable1 Hstable2
  generalize fi (fun x : Js => isI x.id id) B = v6 at Hstable1 Hstable2

  clear hs
  dsimp only
  have Z0 := hidOf (FdS.begin w [.int .i64 ix, .int .i64 nx, .slice a2 J.length c2, .slice a3 B.length c3, .slice a4 Nn.length c4, .slice a5 A.length c5, .slice a6 E.length c6, .slice a7 D.length c7, .slice a8 X.length c8] [.int .i64 id, .int .i64 gr, .int .i64 ixx, .int .i64 x.id, .int .i64 x.jb, .int .i64 x.ve, .int .i64 x.gr, .int .i64 x.ix, .int .i64 x.nd, .int .i64 x.ep, .int .i64 x.c, .int .i64 x.m, .bool x.sp, .int .i64 x.st] 29 35)
  go_enter Try.func3, Try.ntmps3
  go_upto_region 1 with (fail)
  have Z0d := hidOf Z0.out.drew
  refine wp_region_held_drew (S := fun wz => (wz.cell? ⟨w.heap.size, 0, none⟩ = some (.int .i64 ix) ∧ wz.cell? ⟨w.heap.size, 1, none⟩ = some (.int .i64 nx) ∧ wz.cell? ⟨w.heap.size, 2, none⟩ = some (.slice a2 J.length c2) ∧ wz.cell? ⟨w.heap.size, 3, none⟩ = some (.slice a3 B.length c3) ∧ wz.cell? ⟨w.heap.size, 4, none⟩ = some (.slice a4 Nn.length c4) ∧ wz.cell? ⟨w.heap.size, 5, none⟩ = some (.slice a5 A.length c5) ∧ wz.cell? ⟨w.heap.size, 6, none⟩ = some (.slice a6 E.length c6) ∧ wz.cell? ⟨w.heap.size, 7, none⟩ = some (.slice a7 D.length c7) ∧ wz.cell? ⟨w.heap.size, 8, none⟩ = some (.slice a8 X.length c8)) ∧ (wz.cell? ⟨w.heap.size + 1, 0, none⟩ = some (.int .i64 id) ∧ wz.cell? ⟨w.heap.size + 1, 1, none⟩ = some (.int .i64 gr) ∧ wz.cell? ⟨w.heap.size + 1, 2, none⟩ = some (.int .i64 ixx) ∧ wz.cell? ⟨w.heap.size + 1, 3, none⟩ = some (.int .i64 x.id) ∧ wz.cell? ⟨w.heap.size + 1, 4, none⟩ = some (.int .i64 x.jb) ∧ wz.cell? ⟨w.heap.size + 1, 5, none⟩ = some (.int .i64 x.ve) ∧ wz.cell? ⟨w.heap.size + 1, 6, none⟩ = some (.int .i64 x.gr) ∧ wz.cell? ⟨w.heap.size + 1, 7, none⟩ = some (.int .i64 x.ix) ∧ wz.cell? ⟨w.heap.size + 1, 8, none⟩ = some (.int .i64 x.nd) ∧ wz.cell? ⟨w.heap.size + 1, 9, none⟩ = some (.int .i64 x.ep) ∧ wz.cell? ⟨w.heap.size + 1, 10, none⟩ = some (.int .i64 x.c) ∧ wz.cell? ⟨w.heap.size + 1, 11, none⟩ = some (.int .i64 x.m) ∧ wz.cell? ⟨w.heap.size + 1, 12, none⟩ = some (.bool x.sp) ∧ wz.cell? ⟨w.heap.size + 1, 13, none⟩ = some (.int .i64 x.st))) (by kernel_rfl) ⟨⟨Z0d.out.s 0 _ rfl, Z0d.out.s 1 _ rfl, Z0d.out.s 2 _ rfl, Z0d.out.s 3 _ rfl, Z0d.out.s 4 _ rfl, Z0d.out.s 5 _ rfl, Z0d.out.s 6 _ rfl, Z0d.out.s 7 _ rfl, Z0d.out.s 8 _ rfl⟩, Z0d.out.a 0 _ rfl, Z0d.out.a 1 _ rfl, Z0d.out.a 2 _ rfl, Z0d.out.a 3 _ rfl, Z0d.out.a 4 _ rfl, Z0d.out.a 5 _ rfl, Z0d.out.a 6 _ rfl, Z0d.out.a 7 _ rfl, Z0d.out.a 8 _ rfl, Z0d.out.a 9 _ rfl, Z0d.out.a 10 _ rfl, Z0d.out.a 11 _ rfl, Z0d.out.a 12 _ rfl, Z0d.out.a 13 _ rfl⟩ (fun hHeld => ?_)
  refine wpAnyH_take (i := 0) (oi := { dst := some 7, op := Op.load 29 (Operand.tmp 2), type := 29, pos := "law.go:37", after := #[], guard := none }) (v := .agg #[.int .i64 ix, .int .i64 nx, .slice a2 J.length c2, .slice a3 B.length c3, .slice a4 Nn.length c4, .slice a5 A.length c5, .slice a6 E.length c6, .slice a7 D.length c7, .slice a8 X.length c8]) rfl (by kernel_rfl) (by kernel_rfl) (by kernel_rfl) (fun _ _ _ h => h) (Or.inl ⟨by rfl, ?_⟩) hHeld ?_
  · (intro w hSw; (try dsimp only at hSw); go_simp)
  try simp only [Act.put, List.setIfInBounds_toArray, List.set_cons_zero, List.set_cons_succ]
  refine wpAnyH_take (i := 1) (oi := { dst := some 8, op := Op.fieldAddr 35 (Operand.tmp 3) 0, type := 0, pos := "law.go:37", after := #[], guard := none }) (v := .pointer (some ⟨w.heap.size + 1, 0, none⟩)) rfl (by kernel_rfl) (by kernel_rfl) (by kernel_rfl) (fun _ _ _ h => h) (Or.inl ⟨by rfl, ?_⟩) hHeld ?_
  · (intro w hSw; (try dsimp only at hSw); go_simp)
  try simp only [Act.put, List.setIfInBounds_toArray, List.set_cons_zero, List.set_cons_succ]
  refine wpAnyH_take (i := 2) (oi := { dst := some 9, op := Op.load 3 (Operand.tmp 8), type := 3, pos := "law.go:37", after := #[{ on := 1, ground := Ground.data }], guard := none }) (v := .int .i64 id) rfl (by kernel_rfl) (by kernel_rfl) (by kernel_rfl) (fun _ _ _ h => h) (Or.inl ⟨by rfl, ?_⟩) hHeld ?_
  · (intro w hSw; (try dsimp only at hSw); go_simp)
  try simp only [Act.put, List.setIfInBounds_toArray, List.set_cons_zero, List.set_cons_succ]
  refine wpAnyH_take (i := 4) (oi := { dst := some 11, op := Op.load 29 (Operand.tmp 2), type := 29, pos := "law.go:37", after := #[], guard := none }) (v := .agg #[.int .i64 ix, .int .i64 nx, .slice a2 J.length c2, .slice a3 B.length c3, .slice a4 Nn.length c4, .slice a5 A.length c5, .slice a6 E.length c6, .slice a7 D.length c7, .slice a8 X.length c8]) rfl (by kernel_rfl) (by kernel_rfl) (by kernel_rfl) (fun _ _ _ h => h) (Or.inl ⟨by rfl, ?_⟩) hHeld ?_
  · (intro w hSw; (try dsimp only at hSw); go_simp)
  try simp only [Act.put, List.setIfInBounds_toArray, List.set_cons_zero, List.set_cons_succ]
  refine wpAnyH_take (i := 5) (oi := { dst := some 12, op := Op.fieldAddr 35 (Operand.tmp 3) 0, type := 0, pos := "law.go:37", after := #[], guard := none }) (v := .pointer (some ⟨w.heap.size + 1, 0, none⟩)) rfl (by kernel_rfl) (by kernel_rfl) (by kernel_rfl) (fun _ _ _ h => h) (Or.inl ⟨by rfl, ?_⟩) hHeld ?_
  · (intro w hSw; (try dsimp only at hSw); go_simp)
  try simp only [Act.put, List.setIfInBounds_toArray, List.set_cons_zero, List.set_cons_succ]
  refine wpAnyH_take (i := 6) (oi := { dst := some 13, op := Op.load 3 (Operand.tmp 12), type := 3, pos := "law.go:37", after := #[{ on := 5, ground := Ground.data }], guard := none }) (v := .int .i64 id) rfl (by kernel_rfl) (by kernel_rfl) (by kernel_rfl) (fun _ _ _ h => h) (Or.inl ⟨by rfl, ?_⟩) hHeld ?_
  · (intro w hSw; (try dsimp only at hSw); go_simp)
  try simp only [Act.put, List.setIfInBounds_toArray, List.set_cons_zero, List.set_cons_succ]
  refine wpAnyH_ready (rs := [3]) (by kernel_rfl) (by simp) ?_
  refine AllReadyH.cons (o := { dst := some 10, op := Op.call { callee := Callee.value (Operand.func 8), args := #[Operand.tmp 7, Operand.tmp 9], argTypes := #[29, 3] }, type := 3, pos := "law.go:37", after := #[{ on := 0, ground := Ground.data }, { on := 2, ground := Ground.data }], guard := none }) rfl (fun K hK => ?_) AllReadyH.nil
  go_simp
  refine (Hjob1.out _ Z0d.out.b).mono ?_
  rintro e z1 ⟨rfl, hb⟩
  have Z1 := hidOf (Z0d.out.grow hb)
  clear hb
  refine hK.out _ _ ⟨⟨Z1.out.s 0 _ rfl, Z1.out.s 1 _ rfl, Z1.out.s 2 _ rfl, Z1.out.s 3 _ rfl, Z1.out.s 4 _ rfl, Z1.out.s 5 _ rfl, Z1.out.s 6 _ rfl, Z1.out.s 7 _ rfl, Z1.out.s 8 _ rfl⟩, Z1.out.a 0 _ rfl, Z1.out.a 1 _ rfl, Z1.out.a 2 _ rfl, Z1.out.a 3 _ rfl, Z1.out.a 4 _ rfl, Z1.out.a 5 _ rfl, Z1.out.a 6 _ rfl, Z1.out.a 7 _ rfl, Z1.out.a 8 _ rfl, Z1.out.a 9 _ rfl, Z1.out.a 10 _ rfl, Z1.out.a 11 _ rfl, Z1.out.a 12 _ rfl, Z1.out.a 13 _ rfl⟩ (fun hHeld1 => ?_)
  clear hK K
  try simp only [Act.put, List.setIfInBounds_toArray, List.set_cons_zero, List.set_cons_succ]
  refine wpAnyH_ready (rs := [7]) (by kernel_rfl) (by simp) ?_
  refine AllReadyH.cons (o := { dst := some 14, op := Op.call { callee := Callee.value (Operand.func 9), args := #[Operand.tmp 11, Operand.tmp 13], argTypes := #[29, 3] }, type := 3, pos := "law.go:37", after := #[{ on := 4, ground := Ground.data }, { on := 6, ground := Ground.data }, { on := 3, ground := Ground.chain }], guard := none }) rfl (fun K hK => ?_) AllReadyH.nil
  go_simp
  refine (Hjob2.out _ Z1.out.b).mono ?_
  rintro e z2 ⟨rfl, hb⟩
  have Z2 := hidOf (Z1.out.grow hb)
  clear hb
  refine hK.out _ _ ⟨⟨Z2.out.s 0 _ rfl, Z2.out.s 1 _ rfl, Z2.out.s 2 _ rfl, Z2.out.s 3 _ rfl, Z2.out.s 4 _ rfl, Z2.out.s 5 _ rfl, Z2.out.s 6 _ rfl, Z2.out.s 7 _ rfl, Z2.out.s 8 _ rfl⟩, Z2.out.a 0 _ rfl, Z2.out.a 1 _ rfl, Z2.out.a 2 _ rfl, Z2.out.a 3 _ rfl, Z2.out.a 4 _ rfl, Z2.out.a 5 _ rfl, Z2.out.a 6 _ rfl, Z2.out.a 7 _ rfl, Z2.out.a 8 _ rfl, Z2.out.a 9 _ rfl, Z2.out.a 10 _ rfl, Z2.out.a 11 _ rfl, Z2.out.a 12 _ rfl, Z2.out.a 13 _ rfl⟩ (fun hHeld2 => ?_)
  clear hK K
  try simp only [Act.put, List.setIfInBounds_toArray, List.set_cons_zero, List.set_cons_succ]
  refine wpAnyH_take (i := 8) (oi := { dst := some 15, op := Op.binOp BinOp.eql 3 (Operand.tmp 10) (Operand.tmp 14) 3, type := 4, pos := "law.go:37", after := #[{ on := 3, ground := Ground.data }, { on := 7, ground := Ground.data }], guard := none }) (v := .bool true) rfl (by kernel_rfl) (by kernel_rfl) (by kernel_rfl) (fun _ _ _ h => h) (Or.inl ⟨by rfl, ?_⟩) hHeld2 ?_
  · (intro w hSw; (try dsimp only at hSw); go_simp)
  try simp only [Act.put, List.setIfInBounds_toArray, List.set_cons_zero, List.set_cons_succ]
  refine wpAnyH_take (i := 9) (oi := { dst := some 16, op := Op.move (Operand.tmp 15), type := 4, pos := "law.go:37", after := #[{ on := 8, ground := Ground.data }, { on := 7, ground := Ground.chain }], guard := none }) (v := .bool true) rfl (by kernel_rfl) (by kernel_rfl) (by kernel_rfl) (fun _ _ _ h => h) (Or.inl ⟨by rfl, ?_⟩) hHeld2 ?_
  · (intro w hSw; (try dsimp only at hSw); go_simp)
  try simp only [Act.put, List.setIfInBounds_toArray, List.set_cons_zero, List.set_cons_succ]
  refine wpAnyH_take (i := 10) (oi := { dst := some 17, op := Op.load 29 (Operand.tmp 2), type := 29, pos := "law.go:37", after := #[{ on := 9, ground := Ground.guard }], guard := some (9, true) }) (v := .agg #[.int .i64 ix, .int .i64 nx, .slice a2 J.length c2, .slice a3 B.length c3, .slice a4 Nn.length c4, .slice a5 A.length c5, .slice a6 E.length c6, .slice a7 D.length c7, .slice a8 X.length c8]) rfl (by kernel_rfl) (by kernel_rfl) (by kernel_rfl) (fun _ _ _ h => h) (Or.inl ⟨by rfl, ?_⟩) hHeld2 ?_
  · (intro w hSw; (try dsimp only at hSw); go_simp)
  try simp only [Act.put, List.setIfInBounds_toArray, List.set_cons_zero, List.set_cons_succ]
  refine wpAnyH_take (i := 11) (oi := { dst := some 18, op := Op.fieldAddr 35 (Operand.tmp 3) 0, type := 0, pos := "law.go:37", after := #[{ on := 9, ground := Ground.guard }], guard := some (9, true) }) (v := .pointer (some ⟨w.heap.size + 1, 0, none⟩)) rfl (by kernel_rfl) (by kernel_rfl) (by kernel_rfl) (fun _ _ _ h => h) (Or.inl ⟨by rfl, ?_⟩) hHeld2 ?_
  · (intro w hSw; (try dsimp only at hSw); go_simp)
  try simp only [Act.put, List.setIfInBounds_toArray, List.set_cons_zero, List.set_cons_succ]
  refine wpAnyH_take (i := 12) (oi := { dst := some 19, op := Op.load 3 (Operand.tmp 18), type := 3, pos := "law.go:37", after := #[{ on := 11, ground := Ground.data }, { on := 9, ground := Ground.guard }], guard := some (9, true) }) (v := .int .i64 id) rfl (by kernel_rfl) (by kernel_rfl) (by kernel_rfl) (fun _ _ _ h => h) (Or.inl ⟨by rfl, ?_⟩) hHeld2 ?_
  · (intro w hSw; (try dsimp only at hSw); go_simp)
  try simp only [Act.put, List.setIfInBounds_toArray, List.set_cons_zero, List.set_cons_succ]
  refine wpAnyH_take (i := 14) (oi := { dst := some 21, op := Op.load 29 (Operand.tmp 2), type := 29, pos := "law.go:37", after := #[{ on := 9, ground := Ground.guard }], guard := some (9, true) }) (v := .agg #[.int .i64 ix, .int .i64 nx, .slice a2 J.length c2, .slice a3 B.length c3, .slice a4 Nn.length c4, .slice a5 A.length c5, .slice a6 E.length c6, .slice a7 D.length c7, .slice a8 X.length c8]) rfl (by kernel_rfl) (by kernel_rfl) (by kernel_rfl) (fun _ _ _ h => h) (Or.inl ⟨by rfl, ?_⟩) hHeld2 ?_
  · (intro w hSw; (try dsimp only at hSw); go_simp)
  try simp only [Act.put, List.setIfInBounds_toArray, List.set_cons_zero, List.set_cons_succ]
  refine wpAnyH_take (i := 15) (oi := { dst := some 22, op := Op.fieldAddr 35 (Operand.tmp 3) 0, type := 0, pos := "law.go:37", after := #[{ on := 9, ground := Ground.guard }], guard := some (9, true) }) (v := .pointer (some ⟨w.heap.size + 1, 0, none⟩)) rfl (by kernel_rfl) (by kernel_rfl) (by kernel_rfl) (fun _ _ _ h => h) (Or.inl ⟨by rfl, ?_⟩) hHeld2 ?_
  · (intro w hSw; (try dsimp only at hSw); go_simp)
  try simp only [Act.put, List.setIfInBounds_toArray, List.set_cons_zero, List.set_cons_succ]
  refine wpAnyH_take (i := 16) (oi := { dst := some 23, op := Op.load 3 (Operand.tmp 22), type := 3, pos := "law.go:37", after := #[{ on := 15, ground := Ground.data }, { on := 9, ground := Ground.guard }], guard := some (9, true) }) (v := .int .i64 id) rfl (by kernel_rfl) (by kernel_rfl) (by kernel_rfl) (fun _ _ _ h => h) (Or.inl ⟨by rfl, ?_⟩) hHeld2 ?_
  · (intro w hSw; (try dsimp only at hSw); go_simp)
  try simp only [Act.put, List.setIfInBounds_toArray, List.set_cons_zero, List.set_cons_succ]
  refine wpAnyH_ready (rs := [13]) (by kernel_rfl) (by simp) ?_
  refine AllReadyH.cons (o := { dst := some 20, op := Op.call { callee := Callee.value (Operand.func 10), args := #[Operand.tmp 17, Operand.tmp 19], argTypes := #[29, 3] }, type := 3, pos := "law.go:37", after := #[{ on := 10, ground := Ground.data }, { on := 12, ground := Ground.data }, { on := 9, ground := Ground.chain }, { on := 9, ground := Ground.guard }], guard := some (9, true) }) rfl (fun K hK => ?_) AllReadyH.nil
  go_simp
  refine (Hnode1.out _ Z2.out.b).mono ?_
  rintro e z3 ⟨rfl, hb⟩
  have Z3 := hidOf (Z2.out.grow hb)
  clear hb
  refine hK.out _ _ ⟨⟨Z3.out.s 0 _ rfl, Z3.out.s 1 _ rfl, Z3.out.s 2 _ rfl, Z3.out.s 3 _ rfl, Z3.out.s 4 _ rfl, Z3.out.s 5 _ rfl, Z3.out.s 6 _ rfl, Z3.out.s 7 _ rfl, Z3.out.s 8 _ rfl⟩, Z3.out.a 0 _ rfl, Z3.out.a 1 _ rfl, Z3.out.a 2 _ rfl, Z3.out.a 3 _ rfl, Z3.out.a 4 _ rfl, Z3.out.a 5 _ rfl, Z3.out.a 6 _ rfl, Z3.out.a 7 _ rfl, Z3.out.a 8 _ rfl, Z3.out.a 9 _ rfl, Z3.out.a 10 _ rfl, Z3.out.a 11 _ rfl, Z3.out.a 12 _ rfl, Z3.out.a 13 _ rfl⟩ (fun hHeld3 => ?_)
  clear hK K
  try simp only [Act.put, List.setIfInBounds_toArray, List.set_cons_zero, List.set_cons_succ]
  refine wpAnyH_ready (rs := [17]) (by kernel_rfl) (by simp) ?_
  refine AllReadyH.cons (o := { dst := some 24, op := Op.call { callee := Callee.value (Operand.func 11), args := #[Operand.tmp 21, Operand.tmp 23], argTypes := #[29, 3] }, type := 3, pos := "law.go:37", after := #[{ on := 14, ground := Ground.data }, { on := 16, ground := Ground.data }, { on := 13, ground := Ground.chain }, { on := 9, ground := Ground.guard }], guard := some (9, true) }) rfl (fun K hK => ?_) AllReadyH.nil
  go_simp
  refine (Hnode2.out _ Z3.out.b).mono ?_
  rintro e z4 ⟨rfl, hb⟩
  have Z4 := hidOf (Z3.out.grow hb)
  clear hb
  refine hK.out _ _ ⟨⟨Z4.out.s 0 _ rfl, Z4.out.s 1 _ rfl, Z4.out.s 2 _ rfl, Z4.out.s 3 _ rfl, Z4.out.s 4 _ rfl, Z4.out.s 5 _ rfl, Z4.out.s 6 _ rfl, Z4.out.s 7 _ rfl, Z4.out.s 8 _ rfl⟩, Z4.out.a 0 _ rfl, Z4.out.a 1 _ rfl, Z4.out.a 2 _ rfl, Z4.out.a 3 _ rfl, Z4.out.a 4 _ rfl, Z4.out.a 5 _ rfl, Z4.out.a 6 _ rfl, Z4.out.a 7 _ rfl, Z4.out.a 8 _ rfl, Z4.out.a 9 _ rfl, Z4.out.a 10 _ rfl, Z4.out.a 11 _ rfl, Z4.out.a 12 _ rfl, Z4.out.a 13 _ rfl⟩ (fun hHeld4 => ?_)
  clear hK K
  try simp only [Act.put, List.setIfInBounds_toArray, List.set_cons_zero, List.set_cons_succ]
  refine wpAnyH_take (i := 18) (oi := { dst := some 25, op := Op.binOp BinOp.eql 3 (Operand.tmp 20) (Operand.tmp 24) 3, type := 4, pos := "law.go:37", after := #[{ on := 13, ground := Ground.data }, { on := 17, ground := Ground.data }, { on := 9, ground := Ground.guard }], guard := some (9, true) }) (v := .bool true) rfl (by kernel_rfl) (by kernel_rfl) (by kernel_rfl) (fun _ _ _ h => h) (Or.inl ⟨by rfl, ?_⟩) hHeld4 ?_
  · (intro w hSw; (try dsimp only at hSw); go_simp)
  try simp only [Act.put, List.setIfInBounds_toArray, List.set_cons_zero, List.set_cons_succ]
  refine wpAnyH_take (i := 19) (oi := { dst := some 26, op := Op.pick (Operand.tmp 16) (Operand.tmp 25) (Operand.const (Value.bool false)), type := 4, pos := "law.go:37", after := #[{ on := 9, ground := Ground.data }, { on := 18, ground := Ground.data }], guard := none }) (v := .bool true) rfl (by kernel_rfl) (by kernel_rfl) (by kernel_rfl) (fun _ _ _ h => h) (Or.inl ⟨by rfl, ?_⟩) hHeld4 ?_
  · (intro w hSw; (try dsimp only at hSw); go_simp)
  try simp only [Act.put, List.setIfInBounds_toArray, List.set_cons_zero, List.set_cons_succ]
  refine wpAnyH_take (i := 20) (oi := { dst := some 27, op := Op.move (Operand.tmp 26), type := 4, pos := "law.go:37", after := #[{ on := 19, ground := Ground.data }, { on := 17, ground := Ground.chain }], guard := none }) (v := .bool true) rfl (by kernel_rfl) (by kernel_rfl) (by kernel_rfl) (fun _ _ _ h => h) (Or.inl ⟨by rfl, ?_⟩) hHeld4 ?_
  · (intro w hSw; (try dsimp only at hSw); go_simp)
  try simp only [Act.put, List.setIfInBounds_toArray, List.set_cons_zero, List.set_cons_succ]
  refine wpAnyH_take (i := 21) (oi := { dst := some 28, op := Op.load 29 (Operand.tmp 2), type := 29, pos := "law.go:37", after := #[{ on := 20, ground := Ground.guard }], guard := some (20, true) }) (v := .agg #[.int .i64 ix, .int .i64 nx, .slice a2 J.length c2, .slice a3 B.length c3, .slice a4 Nn.length c4, .slice a5 A.length c5, .slice a6 E.length c6, .slice a7 D.length c7, .slice a8 X.length c8]) rfl (by kernel_rfl) (by kernel_rfl) (by kernel_rfl) (fun _ _ _ h => h) (Or.inl ⟨by rfl, ?_⟩) hHeld4 ?_
  · (intro w hSw; (try dsimp only at hSw); go_simp)
  try simp only [Act.put, List.setIfInBounds_toArray, List.set_cons_zero, List.set_cons_succ]
  refine wpAnyH_take (i := 22) (oi := { dst := some 29, op := Op.fieldAddr 35 (Operand.tmp 3) 0, type := 0, pos := "law.go:37", after := #[{ on := 20, ground := Ground.guard }], guard := some (20, true) }) (v := .pointer (some ⟨w.heap.size + 1, 0, none⟩)) rfl (by kernel_rfl) (by kernel_rfl) (by kernel_rfl) (fun _ _ _ h => h) (Or.inl ⟨by rfl, ?_⟩) hHeld4 ?_
  · (intro w hSw; (try dsimp only at hSw); go_simp)
  try simp only [Act.put, List.setIfInBounds_toArray, List.set_cons_zero, List.set_cons_succ]
  refine wpAnyH_take (i := 23) (oi := { dst := some 30, op := Op.load 3 (Operand.tmp 29), type := 3, pos := "law.go:37", after := #[{ on := 22, ground := Ground.data }, { on := 20, ground := Ground.guard }], guard := some (20, true) }) (v := .int .i64 id) rfl (by kernel_rfl) (by kernel_rfl) (by kernel_rfl) (fun _ _ _ h => h) (Or.inl ⟨by rfl, ?_⟩) hHeld4 ?_
  · (intro w hSw; (try dsimp only at hSw); go_simp)
  try simp only [Act.put, List.setIfInBounds_toArray, List.set_cons_zero, List.set_cons_succ]
  refine wpAnyH_take (i := 25) (oi := { dst := some 32, op := Op.load 29 (Operand.tmp 2), type := 29, pos := "law.go:37", after := #[{ on := 20, ground := Ground.guard }], guard := some (20, true) }) (v := .agg #[.int .i64 ix, .int .i64 nx, .slice a2 J.length c2, .slice a3 B.length c3, .slice a4 Nn.length c4, .slice a5 A.length c5, .slice a6 E.length c6, .slice a7 D.length c7, .slice a8 X.length c8]) rfl (by kernel_rfl) (by kernel_rfl) (by kernel_rfl) (fun _ _ _ h => h) (Or.inl ⟨by rfl, ?_⟩) hHeld4 ?_
  · (intro w hSw; (try dsimp only at hSw); go_simp)
  try simp only [Act.put, List.setIfInBounds_toArray, List.set_cons_zero, List.set_cons_succ]
  refine wpAnyH_take (i := 26) (oi := { dst := some 33, op := Op.fieldAddr 35 (Operand.tmp 3) 0, type := 0, pos := "law.go:37", after := #[{ on := 20, ground := Ground.guard }], guard := some (20, true) }) (v := .pointer (some ⟨w.heap.size + 1, 0, none⟩)) rfl (by kernel_rfl) (by kernel_rfl) (by kernel_rfl) (fun _ _ _ h => h) (Or.inl ⟨by rfl, ?_⟩) hHeld4 ?_
  · (intro w hSw; (try dsimp only at hSw); go_simp)
  try simp only [Act.put, List.setIfInBounds_toArray, List.set_cons_zero, List.set_cons_succ]
  refine wpAnyH_take (i := 27) (oi := { dst := some 34, op := Op.load 3 (Operand.tmp 33), type := 3, pos := "law.go:37", after := #[{ on := 26, ground := Ground.data }, { on := 20, ground := Ground.guard }], guard := some (20, true) }) (v := .int .i64 id) rfl (by kernel_rfl) (by kernel_rfl) (by kernel_rfl) (fun _ _ _ h => h) (Or.inl ⟨by rfl, ?_⟩) hHeld4 ?_
  · (intro w hSw; (try dsimp only at hSw); go_simp)
  try simp only [Act.put, List.setIfInBounds_toArray, List.set_cons_zero, List.set_cons_succ]
  refine wpAnyH_ready (rs := [24]) (by kernel_rfl) (by simp) ?_
  refine AllReadyH.cons (o := { dst := some 31, op := Op.call { callee := Callee.value (Operand.func 12), args := #[Operand.tmp 28, Operand.tmp 30], argTypes := #[29, 3] }, type := 3, pos := "law.go:37", after := #[{ on := 21, ground := Ground.data }, { on := 23, ground := Ground.data }, { on := 20, ground := Ground.chain }, { on := 20, ground := Ground.guard }], guard := some (20, true) }) rfl (fun K hK => ?_) AllReadyH.nil
  go_simp
  refine (Halloc1.out _ Z4.out.b).mono ?_
  rintro e z5 ⟨rfl, hb⟩
  have Z5 := hidOf (Z4.out.grow hb)
  clear hb
  refine hK.out _ _ ⟨⟨Z5.out.s 0 _ rfl, Z5.out.s 1 _ rfl, Z5.out.s 2 _ rfl, Z5.out.s 3 _ rfl, Z5.out.s 4 _ rfl, Z5.out.s 5 _ rfl, Z5.out.s 6 _ rfl, Z5.out.s 7 _ rfl, Z5.out.s 8 _ rfl⟩, Z5.out.a 0 _ rfl, Z5.out.a 1 _ rfl, Z5.out.a 2 _ rfl, Z5.out.a 3 _ rfl, Z5.out.a 4 _ rfl, Z5.out.a 5 _ rfl, Z5.out.a 6 _ rfl, Z5.out.a 7 _ rfl, Z5.out.a 8 _ rfl, Z5.out.a 9 _ rfl, Z5.out.a 10 _ rfl, Z5.out.a 11 _ rfl, Z5.out.a 12 _ rfl, Z5.out.a 13 _ rfl⟩ (fun hHeld5 => ?_)
  clear hK K
  try simp only [Act.put, List.setIfInBounds_toArray, List.set_cons_zero, List.set_cons_succ]
  refine wpAnyH_ready (rs := [28]) (by kernel_rfl) (by simp) ?_
  refine AllReadyH.cons (o := { dst := some 35, op := Op.call { callee := Callee.value (Operand.func 13), args := #[Operand.tmp 32, Operand.tmp 34], argTypes := #[29, 3] }, type := 3, pos := "law.go:37", after := #[{ on := 25, ground := Ground.data }, { on := 27, ground := Ground.data }, { on := 24, ground := Ground.chain }, { on := 20, ground := Ground.guard }], guard := some (20, true) }) rfl (fun K hK => ?_) AllReadyH.nil
  go_simp
  refine (Halloc2.out _ Z5.out.b).mono ?_
  rintro e z6 ⟨rfl, hb⟩
  have Z6 := hidOf (Z5.out.grow hb)
  clear hb
  refine hK.out _ _ ⟨⟨Z6.out.s 0 _ rfl, Z6.out.s 1 _ rfl, Z6.out.s 2 _ rfl, Z6.out.s 3 _ rfl, Z6.out.s 4 _ rfl, Z6.out.s 5 _ rfl, Z6.out.s 6 _ rfl, Z6.out.s 7 _ rfl, Z6.out.s 8 _ rfl⟩, Z6.out.a 0 _ rfl, Z6.out.a 1 _ rfl, Z6.out.a 2 _ rfl, Z6.out.a 3 _ rfl, Z6.out.a 4 _ rfl, Z6.out.a 5 _ rfl, Z6.out.a 6 _ rfl, Z6.out.a 7 _ rfl, Z6.out.a 8 _ rfl, Z6.out.a 9 _ rfl, Z6.out.a 10 _ rfl, Z6.out.a 11 _ rfl, Z6.out.a 12 _ rfl, Z6.out.a 13 _ rfl⟩ (fun hHeld6 => ?_)
  clear hK K
  try simp only [Act.put, List.setIfInBounds_toArray, List.set_cons_zero, List.set_cons_succ]
  refine wpAnyH_take (i := 29) (oi := { dst := some 36, op := Op.binOp BinOp.eql 3 (Operand.tmp 31) (Operand.tmp 35) 3, type := 4, pos := "law.go:37", after := #[{ on := 24, ground := Ground.data }, { on := 28, ground := Ground.data }, { on := 20, ground := Ground.guard }], guard := some (20, true) }) (v := .bool true) rfl (by kernel_rfl) (by kernel_rfl) (by kernel_rfl) (fun _ _ _ h => h) (Or.inl ⟨by rfl, ?_⟩) hHeld6 ?_
  · (intro w hSw; (try dsimp only at hSw); go_simp)
  try simp only [Act.put, List.setIfInBounds_toArray, List.set_cons_zero, List.set_cons_succ]
  refine wpAnyH_take (i := 30) (oi := { dst := some 37, op := Op.pick (Operand.tmp 27) (Operand.tmp 36) (Operand.const (Value.bool false)), type := 4, pos := "law.go:37", after := #[{ on := 20, ground := Ground.data }, { on := 29, ground := Ground.data }], guard := none }) (v := .bool true) rfl (by kernel_rfl) (by kernel_rfl) (by kernel_rfl) (fun _ _ _ h => h) (Or.inl ⟨by rfl, ?_⟩) hHeld6 ?_
  · (intro w hSw; (try dsimp only at hSw); go_simp)
  try simp only [Act.put, List.setIfInBounds_toArray, List.set_cons_zero, List.set_cons_succ]
  refine wpAnyH_take (i := 31) (oi := { dst := some 5, op := Op.assign (Operand.tmp 37), type := 4, pos := "law.go:37", after := #[{ on := 30, ground := Ground.data }, { on := 28, ground := Ground.chain }, { on := 0, ground := Ground.phase }, { on := 1, ground := Ground.phase }, { on := 2, ground := Ground.phase }, { on := 3, ground := Ground.phase }, { on := 4, ground := Ground.phase }, { on := 5, ground := Ground.phase }, { on := 6, ground := Ground.phase }, { on := 7, ground := Ground.phase }, { on := 8, ground := Ground.phase }, { on := 9, ground := Ground.phase }, { on := 10, ground := Ground.phase }, { on := 11, ground := Ground.phase }, { on := 12, ground := Ground.phase }, { on := 13, ground := Ground.phase }, { on := 14, ground := Ground.phase }, { on := 15, ground := Ground.phase }, { on := 16, ground := Ground.phase }, { on := 17, ground := Ground.phase }, { on := 18, ground := Ground.phase }, { on := 19, ground := Ground.phase }, { on := 20, ground := Ground.phase }, { on := 21, ground := Ground.phase }, { on := 22, ground := Ground.phase }, { on := 23, ground := Ground.phase }, { on := 24, ground := Ground.phase }, { on := 25, ground := Ground.phase }, { on := 26, ground := Ground.phase }, { on := 27, ground := Ground.phase }, { on := 28, ground := Ground.phase }, { on := 29, ground := Ground.phase }, { on := 30, ground := Ground.phase }], guard := none }) (v := .bool true) rfl (by kernel_rfl) (by kernel_rfl) (by kernel_rfl) (fun _ _ _ h => h) (Or.inl ⟨by rfl, ?_⟩) hHeld6 ?_
  · (intro w hSw; (try dsimp only at hSw); go_simp)
  try simp only [Act.put, List.setIfInBounds_toArray, List.set_cons_zero, List.set_cons_succ]
  refine wpAnyH_done (by kernel_rfl) ?_ _
  go_upto_region 2 with (fail)
  have Z6d := hidOf Z6.out.drew
  refine wp_region_held_drew (S := fun wz => (wz.cell? ⟨w.heap.size, 0, none⟩ = some (.int .i64 ix) ∧ wz.cell? ⟨w.heap.size, 1, none⟩ = some (.int .i64 nx) ∧ wz.cell? ⟨w.heap.size, 2, none⟩ = some (.slice a2 J.length c2) ∧ wz.cell? ⟨w.heap.size, 3, none⟩ = some (.slice a3 B.length c3) ∧ wz.cell? ⟨w.heap.size, 4, none⟩ = some (.slice a4 Nn.length c4) ∧ wz.cell? ⟨w.heap.size, 5, none⟩ = some (.slice a5 A.length c5) ∧ wz.cell? ⟨w.heap.size, 6, none⟩ = some (.slice a6 E.length c6) ∧ wz.cell? ⟨w.heap.size, 7, none⟩ = some (.slice a7 D.length c7) ∧ wz.cell? ⟨w.heap.size, 8, none⟩ = some (.slice a8 X.length c8)) ∧ (wz.cell? ⟨w.heap.size + 1, 0, none⟩ = some (.int .i64 id) ∧ wz.cell? ⟨w.heap.size + 1, 1, none⟩ = some (.int .i64 gr) ∧ wz.cell? ⟨w.heap.size + 1, 2, none⟩ = some (.int .i64 ixx) ∧ wz.cell? ⟨w.heap.size + 1, 3, none⟩ = some (.int .i64 x.id) ∧ wz.cell? ⟨w.heap.size + 1, 4, none⟩ = some (.int .i64 x.jb) ∧ wz.cell? ⟨w.heap.size + 1, 5, none⟩ = some (.int .i64 x.ve) ∧ wz.cell? ⟨w.heap.size + 1, 6, none⟩ = some (.int .i64 x.gr) ∧ wz.cell? ⟨w.heap.size + 1, 7, none⟩ = some (.int .i64 x.ix) ∧ wz.cell? ⟨w.heap.size + 1, 8, none⟩ = some (.int .i64 x.nd) ∧ wz.cell? ⟨w.heap.size + 1, 9, none⟩ = some (.int .i64 x.ep) ∧ wz.cell? ⟨w.heap.size + 1, 10, none⟩ = some (.int .i64 x.c) ∧ wz.cell? ⟨w.heap.size + 1, 11, none⟩ = some (.int .i64 x.m) ∧ wz.cell? ⟨w.heap.size + 1, 12, none⟩ = some (.bool x.sp) ∧ wz.cell? ⟨w.heap.size + 1, 13, none⟩ = some (.int .i64 x.st))) (by kernel_rfl) ⟨⟨Z6d.out.s 0 _ rfl, Z6d.out.s 1 _ rfl, Z6d.out.s 2 _ rfl, Z6d.out.s 3 _ rfl, Z6d.out.s 4 _ rfl, Z6d.out.s 5 _ rfl, Z6d.out.s 6 _ rfl, Z6d.out.s 7 _ rfl, Z6d.out.s 8 _ rfl⟩, Z6d.out.a 0 _ rfl, Z6d.out.a 1 _ rfl, Z6d.out.a 2 _ rfl, Z6d.out.a 3 _ rfl, Z6d.out.a 4 _ rfl, Z6d.out.a 5 _ rfl, Z6d.out.a 6 _ rfl, Z6d.out.a 7 _ rfl, Z6d.out.a 8 _ rfl, Z6d.out.a 9 _ rfl, Z6d.out.a 10 _ rfl, Z6d.out.a 11 _ rfl, Z6d.out.a 12 _ rfl, Z6d.out.a 13 _ rfl⟩ (fun hHeld => ?_)
  refine wpAnyH_take (i := 0) (oi := { dst := some 38, op := Op.load 29 (Operand.tmp 2), type := 29, pos := "law.go:38", after := #[], guard := none }) (v := .agg #[.int .i64 ix, .int .i64 nx, .slice a2 J.length c2, .slice a3 B.length c3, .slice a4 Nn.length c4, .slice a5 A.length c5, .slice a6 E.length c6, .slice a7 D.length c7, .slice a8 X.length c8]) rfl (by kernel_rfl) (by kernel_rfl) (by kernel_rfl) (fun _ _ _ h => h) (Or.inl ⟨by rfl, ?_⟩) hHeld ?_
  · (intro w hSw; (try dsimp only at hSw); go_simp)
  try simp only [Act.put, List.setIfInBounds_toArray, List.set_cons_zero, List.set_cons_succ]
  refine wpAnyH_take (i := 1) (oi := { dst := some 39, op := Op.fieldAddr 35 (Operand.tmp 3) 0, type := 0, pos := "law.go:38", after := #[], guard := none }) (v := .pointer (some ⟨w.heap.size + 1, 0, none⟩)) rfl (by kernel_rfl) (by kernel_rfl) (by kernel_rfl) (fun _ _ _ h => h) (Or.inl ⟨by rfl, ?_⟩) hHeld ?_
  · (intro w hSw; (try dsimp only at hSw); go_simp)
  try simp only [Act.put, List.setIfInBounds_toArray, List.set_cons_zero, List.set_cons_succ]
  refine wpAnyH_take (i := 2) (oi := { dst := some 40, op := Op.load 3 (Operand.tmp 39), type := 3, pos := "law.go:38", after := #[{ on := 1, ground := Ground.data }], guard := none }) (v := .int .i64 id) rfl (by kernel_rfl) (by kernel_rfl) (by kernel_rfl) (fun _ _ _ h => h) (Or.inl ⟨by rfl, ?_⟩) hHeld ?_
  · (intro w hSw; (try dsimp only at hSw); go_simp)
  try simp only [Act.put, List.setIfInBounds_toArray, List.set_cons_zero, List.set_cons_succ]
  refine wpAnyH_take (i := 4) (oi := { dst := some 42, op := Op.load 29 (Operand.tmp 2), type := 29, pos := "law.go:38", after := #[], guard := none }) (v := .agg #[.int .i64 ix, .int .i64 nx, .slice a2 J.length c2, .slice a3 B.length c3, .slice a4 Nn.length c4, .slice a5 A.length c5, .slice a6 E.length c6, .slice a7 D.length c7, .slice a8 X.length c8]) rfl (by kernel_rfl) (by kernel_rfl) (by kernel_rfl) (fun _ _ _ h => h) (Or.inl ⟨by rfl, ?_⟩) hHeld ?_
  · (intro w hSw; (try dsimp only at hSw); go_simp)
  try simp only [Act.put, List.setIfInBounds_toArray, List.set_cons_zero, List.set_cons_succ]
  refine wpAnyH_take (i := 5) (oi := { dst := some 43, op := Op.fieldAddr 35 (Operand.tmp 3) 0, type := 0, pos := "law.go:38", after := #[], guard := none }) (v := .pointer (some ⟨w.heap.size + 1, 0, none⟩)) rfl (by kernel_rfl) (by kernel_rfl) (by kernel_rfl) (fun _ _ _ h => h) (Or.inl ⟨by rfl, ?_⟩) hHeld ?_
  · (intro w hSw; (try dsimp only at hSw); go_simp)
  try simp only [Act.put, List.setIfInBounds_toArray, List.set_cons_zero, List.set_cons_succ]
  refine wpAnyH_take (i := 6) (oi := { dst := some 44, op := Op.load 3 (Operand.tmp 43), type := 3, pos := "law.go:38", after := #[{ on := 5, ground := Ground.data }], guard := none }) (v := .int .i64 id) rfl (by kernel_rfl) (by kernel_rfl) (by kernel_rfl) (fun _ _ _ h => h) (Or.inl ⟨by rfl, ?_⟩) hHeld ?_
  · (intro w hSw; (try dsimp only at hSw); go_simp)
  try simp only [Act.put, List.setIfInBounds_toArray, List.set_cons_zero, List.set_cons_succ]
  refine wpAnyH_ready (rs := [3]) (by kernel_rfl) (by simp) ?_
  refine AllReadyH.cons (o := { dst := some 41, op := Op.call { callee := Callee.value (Operand.func 14), args := #[Operand.tmp 38, Operand.tmp 40], argTypes := #[29, 3] }, type := 3, pos := "law.go:38", after := #[{ on := 0, ground := Ground.data }, { on := 2, ground := Ground.data }], guard := none }) rfl (fun K hK => ?_) AllReadyH.nil
  go_simp
  refine (Heval1.out _ Z6d.out.b).mono ?_
  rintro e z7 ⟨rfl, hb⟩
  have Z7 := hidOf (Z6d.out.grow hb)
  clear hb
  refine hK.out _ _ ⟨⟨Z7.out.s 0 _ rfl, Z7.out.s 1 _ rfl, Z7.out.s 2 _ rfl, Z7.out.s 3 _ rfl, Z7.out.s 4 _ rfl, Z7.out.s 5 _ rfl, Z7.out.s 6 _ rfl, Z7.out.s 7 _ rfl, Z7.out.s 8 _ rfl⟩, Z7.out.a 0 _ rfl, Z7.out.a 1 _ rfl, Z7.out.a 2 _ rfl, Z7.out.a 3 _ rfl, Z7.out.a 4 _ rfl, Z7.out.a 5 _ rfl, Z7.out.a 6 _ rfl, Z7.out.a 7 _ rfl, Z7.out.a 8 _ rfl, Z7.out.a 9 _ rfl, Z7.out.a 10 _ rfl, Z7.out.a 11 _ rfl, Z7.out.a 12 _ rfl, Z7.out.a 13 _ rfl⟩ (fun hHeld1 => ?_)
  clear hK K
  try simp only [Act.put, List.setIfInBounds_toArray, List.set_cons_zero, List.set_cons_succ]
  refine wpAnyH_ready (rs := [7]) (by kernel_rfl) (by simp) ?_
  refine AllReadyH.cons (o := { dst := some 45, op := Op.call { callee := Callee.value (Operand.func 15), args := #[Operand.tmp 42, Operand.tmp 44], argTypes := #[29, 3] }, type := 3, pos := "law.go:38", after := #[{ on := 4, ground := Ground.data }, { on := 6, ground := Ground.data }, { on := 3, ground := Ground.chain }], guard := none }) rfl (fun K hK => ?_) AllReadyH.nil
  go_simp
  refine (Heval2.out _ Z7.out.b).mono ?_
  rintro e z8 ⟨rfl, hb⟩
  have Z8 := hidOf (Z7.out.grow hb)
  clear hb
  refine hK.out _ _ ⟨⟨Z8.out.s 0 _ rfl, Z8.out.s 1 _ rfl, Z8.out.s 2 _ rfl, Z8.out.s 3 _ rfl, Z8.out.s 4 _ rfl, Z8.out.s 5 _ rfl, Z8.out.s 6 _ rfl, Z8.out.s 7 _ rfl, Z8.out.s 8 _ rfl⟩, Z8.out.a 0 _ rfl, Z8.out.a 1 _ rfl, Z8.out.a 2 _ rfl, Z8.out.a 3 _ rfl, Z8.out.a 4 _ rfl, Z8.out.a 5 _ rfl, Z8.out.a 6 _ rfl, Z8.out.a 7 _ rfl, Z8.out.a 8 _ rfl, Z8.out.a 9 _ rfl, Z8.out.a 10 _ rfl, Z8.out.a 11 _ rfl, Z8.out.a 12 _ rfl, Z8.out.a 13 _ rfl⟩ (fun hHeld2 => ?_)
  clear hK K
  try simp only [Act.put, List.setIfInBounds_toArray, List.set_cons_zero, List.set_cons_succ]
  refine wpAnyH_take (i := 8) (oi := { dst := some 46, op := Op.binOp BinOp.eql 3 (Operand.tmp 41) (Operand.tmp 45) 3, type := 4, pos := "law.go:38", after := #[{ on := 3, ground := Ground.data }, { on := 7, ground := Ground.data }], guard := none }) (v := .bool true) rfl (by kernel_rfl) (by kernel_rfl) (by kernel_rfl) (fun _ _ _ h => h) (Or.inl ⟨by rfl, ?_⟩) hHeld2 ?_
  · (intro w hSw; (try dsimp only at hSw); go_simp)
  try simp only [Act.put, List.setIfInBounds_toArray, List.set_cons_zero, List.set_cons_succ]
  refine wpAnyH_take (i := 9) (oi := { dst := some 47, op := Op.move (Operand.tmp 46), type := 4, pos := "law.go:38", after := #[{ on := 8, ground := Ground.data }, { on := 7, ground := Ground.chain }], guard := none }) (v := .bool true) rfl (by kernel_rfl) (by kernel_rfl) (by kernel_rfl) (fun _ _ _ h => h) (Or.inl ⟨by rfl, ?_⟩) hHeld2 ?_
  · (intro w hSw; (try dsimp only at hSw); go_simp)
  try simp only [Act.put, List.setIfInBounds_toArray, List.set_cons_zero, List.set_cons_succ]
  refine wpAnyH_take (i := 10) (oi := { dst := some 48, op := Op.load 29 (Operand.tmp 2), type := 29, pos := "law.go:38", after := #[{ on := 9, ground := Ground.guard }], guard := some (9, true) }) (v := .agg #[.int .i64 ix, .int .i64 nx, .slice a2 J.length c2, .slice a3 B.length c3, .slice a4 Nn.length c4, .slice a5 A.length c5, .slice a6 E.length c6, .slice a7 D.length c7, .slice a8 X.length c8]) rfl (by kernel_rfl) (by kernel_rfl) (by kernel_rfl) (fun _ _ _ h => h) (Or.inl ⟨by rfl, ?_⟩) hHeld2 ?_
  · (intro w hSw; (try dsimp only at hSw); go_simp)
  try simp only [Act.put, List.setIfInBounds_toArray, List.set_cons_zero, List.set_cons_succ]
  refine wpAnyH_take (i := 11) (oi := { dst := some 49, op := Op.fieldAddr 35 (Operand.tmp 3) 0, type := 0, pos := "law.go:38", after := #[{ on := 9, ground := Ground.guard }], guard := some (9, true) }) (v := .pointer (some ⟨w.heap.size + 1, 0, none⟩)) rfl (by kernel_rfl) (by kernel_rfl) (by kernel_rfl) (fun _ _ _ h => h) (Or.inl ⟨by rfl, ?_⟩) hHeld2 ?_
  · (intro w hSw; (try dsimp only at hSw); go_simp)
  try simp only [Act.put, List.setIfInBounds_toArray, List.set_cons_zero, List.set_cons_succ]
  refine wpAnyH_take (i := 12) (oi := { dst := some 50, op := Op.load 3 (Operand.tmp 49), type := 3, pos := "law.go:38", after := #[{ on := 11, ground := Ground.data }, { on := 9, ground := Ground.guard }], guard := some (9, true) }) (v := .int .i64 id) rfl (by kernel_rfl) (by kernel_rfl) (by kernel_rfl) (fun _ _ _ h => h) (Or.inl ⟨by rfl, ?_⟩) hHeld2 ?_
  · (intro w hSw; (try dsimp only at hSw); go_simp)
  try simp only [Act.put, List.setIfInBounds_toArray, List.set_cons_zero, List.set_cons_succ]
  refine wpAnyH_take (i := 14) (oi := { dst := some 52, op := Op.load 29 (Operand.tmp 2), type := 29, pos := "law.go:38", after := #[{ on := 9, ground := Ground.guard }], guard := some (9, true) }) (v := .agg #[.int .i64 ix, .int .i64 nx, .slice a2 J.length c2, .slice a3 B.length c3, .slice a4 Nn.length c4, .slice a5 A.length c5, .slice a6 E.length c6, .slice a7 D.length c7, .slice a8 X.length c8]) rfl (by kernel_rfl) (by kernel_rfl) (by kernel_rfl) (fun _ _ _ h => h) (Or.inl ⟨by rfl, ?_⟩) hHeld2 ?_
  · (intro w hSw; (try dsimp only at hSw); go_simp)
  try simp only [Act.put, List.setIfInBounds_toArray, List.set_cons_zero, List.set_cons_succ]
  refine wpAnyH_take (i := 15) (oi := { dst := some 53, op := Op.fieldAddr 35 (Operand.tmp 3) 0, type := 0, pos := "law.go:38", after := #[{ on := 9, ground := Ground.guard }], guard := some (9, true) }) (v := .pointer (some ⟨w.heap.size + 1, 0, none⟩)) rfl (by kernel_rfl) (by kernel_rfl) (by kernel_rfl) (fun _ _ _ h => h) (Or.inl ⟨by rfl, ?_⟩) hHeld2 ?_
  · (intro w hSw; (try dsimp only at hSw); go_simp)
  try simp only [Act.put, List.setIfInBounds_toArray, List.set_cons_zero, List.set_cons_succ]
  refine wpAnyH_take (i := 16) (oi := { dst := some 54, op := Op.load 3 (Operand.tmp 53), type := 3, pos := "law.go:38", after := #[{ on := 15, ground := Ground.data }, { on := 9, ground := Ground.guard }], guard := some (9, true) }) (v := .int .i64 id) rfl (by kernel_rfl) (by kernel_rfl) (by kernel_rfl) (fun _ _ _ h => h) (Or.inl ⟨by rfl, ?_⟩) hHeld2 ?_
  · (intro w hSw; (try dsimp only at hSw); go_simp)
  try simp only [Act.put, List.setIfInBounds_toArray, List.set_cons_zero, List.set_cons_succ]
  refine wpAnyH_ready (rs := [13]) (by kernel_rfl) (by simp) ?_
  refine AllReadyH.cons (o := { dst := some 51, op := Op.call { callee := Callee.value (Operand.func 16), args := #[Operand.tmp 48, Operand.tmp 50], argTypes := #[29, 3] }, type := 3, pos := "law.go:38", after := #[{ on := 10, ground := Ground.data }, { on := 12, ground := Ground.data }, { on := 9, ground := Ground.chain }, { on := 9, ground := Ground.guard }], guard := some (9, true) }) rfl (fun K hK => ?_) AllReadyH.nil
  go_simp
  refine (Hdeploy1.out _ Z8.out.b).mono ?_
  rintro e z9 ⟨rfl, hb⟩
  have Z9 := hidOf (Z8.out.grow hb)
  clear hb
  refine hK.out _ _ ⟨⟨Z9.out.s 0 _ rfl, Z9.out.s 1 _ rfl, Z9.out.s 2 _ rfl, Z9.out.s 3 _ rfl, Z9.out.s 4 _ rfl, Z9.out.s 5 _ rfl, Z9.out.s 6 _ rfl, Z9.out.s 7 _ rfl, Z9.out.s 8 _ rfl⟩, Z9.out.a 0 _ rfl, Z9.out.a 1 _ rfl, Z9.out.a 2 _ rfl, Z9.out.a 3 _ rfl, Z9.out.a 4 _ rfl, Z9.out.a 5 _ rfl, Z9.out.a 6 _ rfl, Z9.out.a 7 _ rfl, Z9.out.a 8 _ rfl, Z9.out.a 9 _ rfl, Z9.out.a 10 _ rfl, Z9.out.a 11 _ rfl, Z9.out.a 12 _ rfl, Z9.out.a 13 _ rfl⟩ (fun hHeld3 => ?_)
  clear hK K
  try simp only [Act.put, List.setIfInBounds_toArray, List.set_cons_zero, List.set_cons_succ]
  refine wpAnyH_ready (rs := [17]) (by kernel_rfl) (by simp) ?_
  refine AllReadyH.cons (o := { dst := some 55, op := Op.call { callee := Callee.value (Operand.func 17), args := #[Operand.tmp 52, Operand.tmp 54], argTypes := #[29, 3] }, type := 3, pos := "law.go:38", after := #[{ on := 14, ground := Ground.data }, { on := 16, ground := Ground.data }, { on := 13, ground := Ground.chain }, { on := 9, ground := Ground.guard }], guard := some (9, true) }) rfl (fun K hK => ?_) AllReadyH.nil
  go_simp
  refine (Hdeploy2.out _ Z9.out.b).mono ?_
  rintro e z10 ⟨rfl, hb⟩
  have Z10 := hidOf (Z9.out.grow hb)
  clear hb
  refine hK.out _ _ ⟨⟨Z10.out.s 0 _ rfl, Z10.out.s 1 _ rfl, Z10.out.s 2 _ rfl, Z10.out.s 3 _ rfl, Z10.out.s 4 _ rfl, Z10.out.s 5 _ rfl, Z10.out.s 6 _ rfl, Z10.out.s 7 _ rfl, Z10.out.s 8 _ rfl⟩, Z10.out.a 0 _ rfl, Z10.out.a 1 _ rfl, Z10.out.a 2 _ rfl, Z10.out.a 3 _ rfl, Z10.out.a 4 _ rfl, Z10.out.a 5 _ rfl, Z10.out.a 6 _ rfl, Z10.out.a 7 _ rfl, Z10.out.a 8 _ rfl, Z10.out.a 9 _ rfl, Z10.out.a 10 _ rfl, Z10.out.a 11 _ rfl, Z10.out.a 12 _ rfl, Z10.out.a 13 _ rfl⟩ (fun hHeld4 => ?_)
  clear hK K
  try simp only [Act.put, List.setIfInBounds_toArray, List.set_cons_zero, List.set_cons_succ]
  refine wpAnyH_take (i := 18) (oi := { dst := some 56, op := Op.binOp BinOp.eql 3 (Operand.tmp 51) (Operand.tmp 55) 3, type := 4, pos := "law.go:38", after := #[{ on := 13, ground := Ground.data }, { on := 17, ground := Ground.data }, { on := 9, ground := Ground.guard }], guard := some (9, true) }) (v := .bool true) rfl (by kernel_rfl) (by kernel_rfl) (by kernel_rfl) (fun _ _ _ h => h) (Or.inl ⟨by rfl, ?_⟩) hHeld4 ?_
  · (intro w hSw; (try dsimp only at hSw); go_simp)
  try simp only [Act.put, List.setIfInBounds_toArray, List.set_cons_zero, List.set_cons_succ]
  refine wpAnyH_take (i := 19) (oi := { dst := some 57, op := Op.pick (Operand.tmp 47) (Operand.tmp 56) (Operand.const (Value.bool false)), type := 4, pos := "law.go:38", after := #[{ on := 9, ground := Ground.data }, { on := 18, ground := Ground.data }], guard := none }) (v := .bool true) rfl (by kernel_rfl) (by kernel_rfl) (by kernel_rfl) (fun _ _ _ h => h) (Or.inl ⟨by rfl, ?_⟩) hHeld4 ?_
  · (intro w hSw; (try dsimp only at hSw); go_simp)
  try simp only [Act.put, List.setIfInBounds_toArray, List.set_cons_zero, List.set_cons_succ]
  refine wpAnyH_take (i := 20) (oi := { dst := some 58, op := Op.move (Operand.tmp 57), type := 4, pos := "law.go:38", after := #[{ on := 19, ground := Ground.data }, { on := 17, ground := Ground.chain }], guard := none }) (v := .bool true) rfl (by kernel_rfl) (by kernel_rfl) (by kernel_rfl) (fun _ _ _ h => h) (Or.inl ⟨by rfl, ?_⟩) hHeld4 ?_
  · (intro w hSw; (try dsimp only at hSw); go_simp)
  try simp only [Act.put, List.setIfInBounds_toArray, List.set_cons_zero, List.set_cons_succ]
  refine wpAnyH_take (i := 21) (oi := { dst := some 59, op := Op.load 29 (Operand.tmp 2), type := 29, pos := "law.go:38", after := #[{ on := 20, ground := Ground.guard }], guard := some (20, true) }) (v := .agg #[.int .i64 ix, .int .i64 nx, .slice a2 J.length c2, .slice a3 B.length c3, .slice a4 Nn.length c4, .slice a5 A.length c5, .slice a6 E.length c6, .slice a7 D.length c7, .slice a8 X.length c8]) rfl (by kernel_rfl) (by kernel_rfl) (by kernel_rfl) (fun _ _ _ h => h) (Or.inl ⟨by rfl, ?_⟩) hHeld4 ?_
  · (intro w hSw; (try dsimp only at hSw); go_simp)
  try simp only [Act.put, List.setIfInBounds_toArray, List.set_cons_zero, List.set_cons_succ]
  refine wpAnyH_take (i := 22) (oi := { dst := some 60, op := Op.fieldAddr 35 (Operand.tmp 3) 0, type := 0, pos := "law.go:38", after := #[{ on := 20, ground := Ground.guard }], guard := some (20, true) }) (v := .pointer (some ⟨w.heap.size + 1, 0, none⟩)) rfl (by kernel_rfl) (by kernel_rfl) (by kernel_rfl) (fun _ _ _ h => h) (Or.inl ⟨by rfl, ?_⟩) hHeld4 ?_
  · (intro w hSw; (try dsimp only at hSw); go_simp)
  try simp only [Act.put, List.setIfInBounds_toArray, List.set_cons_zero, List.set_cons_succ]
  refine wpAnyH_take (i := 23) (oi := { dst := some 61, op := Op.load 3 (Operand.tmp 60), type := 3, pos := "law.go:38", after := #[{ on := 22, ground := Ground.data }, { on := 20, ground := Ground.guard }], guard := some (20, true) }) (v := .int .i64 id) rfl (by kernel_rfl) (by kernel_rfl) (by kernel_rfl) (fun _ _ _ h => h) (Or.inl ⟨by rfl, ?_⟩) hHeld4 ?_
  · (intro w hSw; (try dsimp only at hSw); go_simp)
  try simp only [Act.put, List.setIfInBounds_toArray, List.set_cons_zero, List.set_cons_succ]
  refine wpAnyH_take (i := 25) (oi := { dst := some 63, op := Op.load 29 (Operand.tmp 2), type := 29, pos := "law.go:38", after := #[{ on := 20, ground := Ground.guard }], guard := some (20, true) }) (v := .agg #[.int .i64 ix, .int .i64 nx, .slice a2 J.length c2, .slice a3 B.length c3, .slice a4 Nn.length c4, .slice a5 A.length c5, .slice a6 E.length c6, .slice a7 D.length c7, .slice a8 X.length c8]) rfl (by kernel_rfl) (by kernel_rfl) (by kernel_rfl) (fun _ _ _ h => h) (Or.inl ⟨by rfl, ?_⟩) hHeld4 ?_
  · (intro w hSw; (try dsimp only at hSw); go_simp)
  try simp only [Act.put, List.setIfInBounds_toArray, List.set_cons_zero, List.set_cons_succ]
  refine wpAnyH_take (i := 26) (oi := { dst := some 64, op := Op.fieldAddr 35 (Operand.tmp 3) 0, type := 0, pos := "law.go:38", after := #[{ on := 20, ground := Ground.guard }], guard := some (20, true) }) (v := .pointer (some ⟨w.heap.size + 1, 0, none⟩)) rfl (by kernel_rfl) (by kernel_rfl) (by kernel_rfl) (fun _ _ _ h => h) (Or.inl ⟨by rfl, ?_⟩) hHeld4 ?_
  · (intro w hSw; (try dsimp only at hSw); go_simp)
  try simp only [Act.put, List.setIfInBounds_toArray, List.set_cons_zero, List.set_cons_succ]
  refine wpAnyH_take (i := 27) (oi := { dst := some 65, op := Op.load 3 (Operand.tmp 64), type := 3, pos := "law.go:38", after := #[{ on := 26, ground := Ground.data }, { on := 20, ground := Ground.guard }], guard := some (20, true) }) (v := .int .i64 id) rfl (by kernel_rfl) (by kernel_rfl) (by kernel_rfl) (fun _ _ _ h => h) (Or.inl ⟨by rfl, ?_⟩) hHeld4 ?_
  · (intro w hSw; (try dsimp only at hSw); go_simp)
  try simp only [Act.put, List.setIfInBounds_toArray, List.set_cons_zero, List.set_cons_succ]
  refine wpAnyH_ready (rs := [24]) (by kernel_rfl) (by simp) ?_
  refine AllReadyH.cons (o := { dst := some 62, op := Op.call { callee := Callee.value (Operand.func 18), args := #[Operand.tmp 59, Operand.tmp 61], argTypes := #[29, 3] }, type := 3, pos := "law.go:38", after := #[{ on := 21, ground := Ground.data }, { on := 23, ground := Ground.data }, { on := 20, ground := Ground.chain }, { on := 20, ground := Ground.guard }], guard := some (20, true) }) rfl (fun K hK => ?_) AllReadyH.nil
  go_simp
  refine (Hstable1.out _ Z10.out.b).mono ?_
  rintro e z11 ⟨rfl, hb⟩
  have Z11 := hidOf (Z10.out.grow hb)
  clear hb
  refine hK.out _ _ ⟨⟨Z11.out.s 0 _ rfl, Z11.out.s 1 _ rfl, Z11.out.s 2 _ rfl, Z11.out.s 3 _ rfl, Z11.out.s 4 _ rfl, Z11.out.s 5 _ rfl, Z11.out.s 6 _ rfl, Z11.out.s 7 _ rfl, Z11.out.s 8 _ rfl⟩, Z11.out.a 0 _ rfl, Z11.out.a 1 _ rfl, Z11.out.a 2 _ rfl, Z11.out.a 3 _ rfl, Z11.out.a 4 _ rfl, Z11.out.a 5 _ rfl, Z11.out.a 6 _ rfl, Z11.out.a 7 _ rfl, Z11.out.a 8 _ rfl, Z11.out.a 9 _ rfl, Z11.out.a 10 _ rfl, Z11.out.a 11 _ rfl, Z11.out.a 12 _ rfl, Z11.out.a 13 _ rfl⟩ (fun hHeld5 => ?_)
  clear hK K
  try simp only [Act.put, List.setIfInBounds_toArray, List.set_cons_zero, List.set_cons_succ]
  refine wpAnyH_ready (rs := [28]) (by kernel_rfl) (by simp) ?_
  refine AllReadyH.cons (o := { dst := some 66, op := Op.call { callee := Callee.value (Operand.func 19), args := #[Operand.tmp 63, Operand.tmp 65], argTypes := #[29, 3] }, type := 3, pos := "law.go:38", after := #[{ on := 25, ground := Ground.data }, { on := 27, ground := Ground.data }, { on := 24, ground := Ground.chain }, { on := 20, ground := Ground.guard }], guard := some (20, true) }) rfl (fun K hK => ?_) AllReadyH.nil
  go_simp
  refine (Hstable2.out _ Z11.out.b).mono ?_
  rintro e z12 ⟨rfl, hb⟩
  have Z12 := hidOf (Z11.out.grow hb)
  clear hb
  refine hK.out _ _ ⟨⟨Z12.out.s 0 _ rfl, Z12.out.s 1 _ rfl, Z12.out.s 2 _ rfl, Z12.out.s 3 _ rfl, Z12.out.s 4 _ rfl, Z12.out.s 5 _ rfl, Z12.out.s 6 _ rfl, Z12.out.s 7 _ rfl, Z12.out.s 8 _ rfl⟩, Z12.out.a 0 _ rfl, Z12.out.a 1 _ rfl, Z12.out.a 2 _ rfl, Z12.out.a 3 _ rfl, Z12.out.a 4 _ rfl, Z12.out.a 5 _ rfl, Z12.out.a 6 _ rfl, Z12.out.a 7 _ rfl, Z12.out.a 8 _ rfl, Z12.out.a 9 _ rfl, Z12.out.a 10 _ rfl, Z12.out.a 11 _ rfl, Z12.out.a 12 _ rfl, Z12.out.a 13 _ rfl⟩ (fun hHeld6 => ?_)
  clear hK K
  try simp only [Act.put, List.setIfInBounds_toArray, List.set_cons_zero, List.set_cons_succ]
  refine wpAnyH_take (i := 29) (oi := { dst := some 67, op := Op.binOp BinOp.eql 3 (Operand.tmp 62) (Operand.tmp 66) 3, type := 4, pos := "law.go:38", after := #[{ on := 24, ground := Ground.data }, { on := 28, ground := Ground.data }, { on := 20, ground := Ground.guard }], guard := some (20, true) }) (v := .bool true) rfl (by kernel_rfl) (by kernel_rfl) (by kernel_rfl) (fun _ _ _ h => h) (Or.inl ⟨by rfl, ?_⟩) hHeld6 ?_
  · (intro w hSw; (try dsimp only at hSw); go_simp)
  try simp only [Act.put, List.setIfInBounds_toArray, List.set_cons_zero, List.set_cons_succ]
  refine wpAnyH_take (i := 30) (oi := { dst := some 68, op := Op.pick (Operand.tmp 58) (Operand.tmp 67) (Operand.const (Value.bool false)), type := 4, pos := "law.go:38", after := #[{ on := 20, ground := Ground.data }, { on := 29, ground := Ground.data }], guard := none }) (v := .bool true) rfl (by kernel_rfl) (by kernel_rfl) (by kernel_rfl) (fun _ _ _ h => h) (Or.inl ⟨by rfl, ?_⟩) hHeld6 ?_
  · (intro w hSw; (try dsimp only at hSw); go_simp)
  try simp only [Act.put, List.setIfInBounds_toArray, List.set_cons_zero, List.set_cons_succ]
  refine wpAnyH_take (i := 31) (oi := { dst := some 6, op := Op.assign (Operand.tmp 68), type := 4, pos := "law.go:38", after := #[{ on := 30, ground := Ground.data }, { on := 28, ground := Ground.chain }, { on := 0, ground := Ground.phase }, { on := 1, ground := Ground.phase }, { on := 2, ground := Ground.phase }, { on := 3, ground := Ground.phase }, { on := 4, ground := Ground.phase }, { on := 5, ground := Ground.phase }, { on := 6, ground := Ground.phase }, { on := 7, ground := Ground.phase }, { on := 8, ground := Ground.phase }, { on := 9, ground := Ground.phase }, { on := 10, ground := Ground.phase }, { on := 11, ground := Ground.phase }, { on := 12, ground := Ground.phase }, { on := 13, ground := Ground.phase }, { on := 14, ground := Ground.phase }, { on := 15, ground := Ground.phase }, { on := 16, ground := Ground.phase }, { on := 17, ground := Ground.phase }, { on := 18, ground := Ground.phase }, { on := 19, ground := Ground.phase }, { on := 20, ground := Ground.phase }, { on := 21, ground := Ground.phase }, { on := 22, ground := Ground.phase }, { on := 23, ground := Ground.phase }, { on := 24, ground := Ground.phase }, { on := 25, ground := Ground.phase }, { on := 26, ground := Ground.phase }, { on := 27, ground := Ground.phase }, { on := 28, ground := Ground.phase }, { on := 29, ground := Ground.phase }, { on := 30, ground := Ground.phase }], guard := none }) (v := .bool true) rfl (by kernel_rfl) (by kernel_rfl) (by kernel_rfl) (fun _ _ _ h => h) (Or.inl ⟨by rfl, ?_⟩) hHeld6 ?_
  · (intro w hSw; (try dsimp only at hSw); go_simp)
  try simp only [Act.put, List.setIfInBounds_toArray, List.set_cons_zero, List.set_cons_succ]
  refine wpAnyH_done (by kernel_rfl) ?_ _
  go_upto_region 3 with (fail)
  have Z12d := hidOf Z12.out.drew
  refine wp_region_held_drew (S := fun wz => (wz.cell? ⟨w.heap.size, 0, none⟩ = some (.int .i64 ix) ∧ wz.cell? ⟨w.heap.size, 1, none⟩ = some (.int .i64 nx) ∧ wz.cell? ⟨w.heap.size, 2, none⟩ = some (.slice a2 J.length c2) ∧ wz.cell? ⟨w.heap.size, 3, none⟩ = some (.slice a3 B.length c3) ∧ wz.cell? ⟨w.heap.size, 4, none⟩ = some (.slice a4 Nn.length c4) ∧ wz.cell? ⟨w.heap.size, 5, none⟩ = some (.slice a5 A.length c5) ∧ wz.cell? ⟨w.heap.size, 6, none⟩ = some (.slice a6 E.length c6) ∧ wz.cell? ⟨w.heap.size, 7, none⟩ = some (.slice a7 D.length c7) ∧ wz.cell? ⟨w.heap.size, 8, none⟩ = some (.slice a8 X.length c8)) ∧ (wz.cell? ⟨w.heap.size + 1, 0, none⟩ = some (.int .i64 id) ∧ wz.cell? ⟨w.heap.size + 1, 1, none⟩ = some (.int .i64 gr) ∧ wz.cell? ⟨w.heap.size + 1, 2, none⟩ = some (.int .i64 ixx) ∧ wz.cell? ⟨w.heap.size + 1, 3, none⟩ = some (.int .i64 x.id) ∧ wz.cell? ⟨w.heap.size + 1, 4, none⟩ = some (.int .i64 x.jb) ∧ wz.cell? ⟨w.heap.size + 1, 5, none⟩ = some (.int .i64 x.ve) ∧ wz.cell? ⟨w.heap.size + 1, 6, none⟩ = some (.int .i64 x.gr) ∧ wz.cell? ⟨w.heap.size + 1, 7, none⟩ = some (.int .i64 x.ix) ∧ wz.cell? ⟨w.heap.size + 1, 8, none⟩ = some (.int .i64 x.nd) ∧ wz.cell? ⟨w.heap.size + 1, 9, none⟩ = some (.int .i64 x.ep) ∧ wz.cell? ⟨w.heap.size + 1, 10, none⟩ = some (.int .i64 x.c) ∧ wz.cell? ⟨w.heap.size + 1, 11, none⟩ = some (.int .i64 x.m) ∧ wz.cell? ⟨w.heap.size + 1, 12, none⟩ = some (.bool x.sp) ∧ wz.cell? ⟨w.heap.size + 1, 13, none⟩ = some (.int .i64 x.st))) (by kernel_rfl) ⟨⟨Z12d.out.s 0 _ rfl, Z12d.out.s 1 _ rfl, Z12d.out.s 2 _ rfl, Z12d.out.s 3 _ rfl, Z12d.out.s 4 _ rfl, Z12d.out.s 5 _ rfl, Z12d.out.s 6 _ rfl, Z12d.out.s 7 _ rfl, Z12d.out.s 8 _ rfl⟩, Z12d.out.a 0 _ rfl, Z12d.out.a 1 _ rfl, Z12d.out.a 2 _ rfl, Z12d.out.a 3 _ rfl, Z12d.out.a 4 _ rfl, Z12d.out.a 5 _ rfl, Z12d.out.a 6 _ rfl, Z12d.out.a 7 _ rfl, Z12d.out.a 8 _ rfl, Z12d.out.a 9 _ rfl, Z12d.out.a 10 _ rfl, Z12d.out.a 11 _ rfl, Z12d.out.a 12 _ rfl, Z12d.out.a 13 _ rfl⟩ (fun hHeld => ?_)
  refine wpAnyH_take (i := 0) (oi := { dst := some 69, op := Op.move (Operand.tmp 5), type := 4, pos := "law.go:39", after := #[], guard := none }) (v := .bool true) rfl (by kernel_rfl) (by kernel_rfl) (by kernel_rfl) (fun _ _ _ h => h) (Or.inl ⟨by rfl, ?_⟩) hHeld ?_
  · (intro w hSw; (try dsimp only at hSw); go_simp)
  try simp only [Act.put, List.setIfInBounds_toArray, List.set_cons_zero, List.set_cons_succ]
  refine wpAnyH_take (i := 1) (oi := { dst := some 70, op := Op.move (Operand.tmp 69), type := 4, pos := "law.go:39", after := #[{ on := 0, ground := Ground.data }], guard := none }) (v := .bool true) rfl (by kernel_rfl) (by kernel_rfl) (by kernel_rfl) (fun _ _ _ h => h) (Or.inl ⟨by rfl, ?_⟩) hHeld ?_
  · (intro w hSw; (try dsimp only at hSw); go_simp)
  try simp only [Act.put, List.setIfInBounds_toArray, List.set_cons_zero, List.set_cons_succ]
  refine wpAnyH_take (i := 2) (oi := { dst := some 71, op := Op.move (Operand.tmp 6), type := 4, pos := "law.go:39", after := #[{ on := 1, ground := Ground.guard }], guard := some (1, true) }) (v := .bool true) rfl (by kernel_rfl) (by kernel_rfl) (by kernel_rfl) (fun _ _ _ h => h) (Or.inl ⟨by rfl, ?_⟩) hHeld ?_
  · (intro w hSw; (try dsimp only at hSw); go_simp)
  try simp only [Act.put, List.setIfInBounds_toArray, List.set_cons_zero, List.set_cons_succ]
  refine wpAnyH_take (i := 3) (oi := { dst := some 72, op := Op.pick (Operand.tmp 70) (Operand.tmp 71) (Operand.const (Value.bool false)), type := 4, pos := "law.go:39", after := #[{ on := 1, ground := Ground.data }, { on := 2, ground := Ground.data }], guard := none }) (v := .bool true) rfl (by kernel_rfl) (by kernel_rfl) (by kernel_rfl) (fun _ _ _ h => h) (Or.inl ⟨by rfl, ?_⟩) hHeld ?_
  · (intro w hSw; (try dsimp only at hSw); go_simp)
  try simp only [Act.put, List.setIfInBounds_toArray, List.set_cons_zero, List.set_cons_succ]
  refine wpAnyH_take (i := 4) (oi := { dst := some 73, op := Op.move (Operand.tmp 72), type := 4, pos := "law.go:39", after := #[{ on := 3, ground := Ground.data }, { on := 1, ground := Ground.chain }], guard := none }) (v := .bool true) rfl (by kernel_rfl) (by kernel_rfl) (by kernel_rfl) (fun _ _ _ h => h) (Or.inl ⟨by rfl, ?_⟩) hHeld ?_
  · (intro w hSw; (try dsimp only at hSw); go_simp)
  try simp only [Act.put, List.setIfInBounds_toArray, List.set_cons_zero, List.set_cons_succ]
  refine wpAnyH_take (i := 5) (oi := { dst := some 74, op := Op.fieldAddr 35 (Operand.tmp 3) 3, type := 0, pos := "law.go:39", after := #[{ on := 4, ground := Ground.guard }], guard := some (4, true) }) (v := .pointer (some ⟨w.heap.size + 1, 3, none⟩)) rfl (by kernel_rfl) (by kernel_rfl) (by kernel_rfl) (fun _ _ _ h => h) (Or.inl ⟨by rfl, ?_⟩) hHeld ?_
  · (intro w hSw; (try dsimp only at hSw); go_simp)
  try simp only [Act.put, List.setIfInBounds_toArray, List.set_cons_zero, List.set_cons_succ]
  refine wpAnyH_take (i := 6) (oi := { dst := some 75, op := Op.load 33 (Operand.tmp 74), type := 33, pos := "law.go:39", after := #[{ on := 5, ground := Ground.data }, { on := 4, ground := Ground.guard }], guard := some (4, true) }) (v := .agg #[.int .i64 x.id, .int .i64 x.jb, .int .i64 x.ve, .int .i64 x.gr, .int .i64 x.ix, .int .i64 x.nd, .int .i64 x.ep, .int .i64 x.c, .int .i64 x.m, .bool x.sp, .int .i64 x.st]) rfl (by kernel_rfl) (by kernel_rfl) (by kernel_rfl) (fun _ _ _ h => h) (Or.inl ⟨by rfl, ?_⟩) hHeld ?_
  · (intro w hSw; (try dsimp only at hSw); go_simp)
  try simp only [Act.put, List.setIfInBounds_toArray, List.set_cons_zero, List.set_cons_succ]
  refine wpAnyH_take (i := 8) (oi := { dst := some 77, op := Op.fieldAddr 35 (Operand.tmp 3) 3, type := 0, pos := "law.go:39", after := #[{ on := 4, ground := Ground.guard }], guard := some (4, true) }) (v := .pointer (some ⟨w.heap.size + 1, 3, none⟩)) rfl (by kernel_rfl) (by kernel_rfl) (by kernel_rfl) (fun _ _ _ h => h) (Or.inl ⟨by rfl, ?_⟩) hHeld ?_
  · (intro w hSw; (try dsimp only at hSw); go_simp)
  try simp only [Act.put, List.setIfInBounds_toArray, List.set_cons_zero, List.set_cons_succ]
  refine wpAnyH_take (i := 9) (oi := { dst := some 78, op := Op.load 33 (Operand.tmp 77), type := 33, pos := "law.go:39", after := #[{ on := 8, ground := Ground.data }, { on := 4, ground := Ground.guard }], guard := some (4, true) }) (v := .agg #[.int .i64 x.id, .int .i64 x.jb, .int .i64 x.ve, .int .i64 x.gr, .int .i64 x.ix, .int .i64 x.nd, .int .i64 x.ep, .int .i64 x.c, .int .i64 x.m, .bool x.sp, .int .i64 x.st]) rfl (by kernel_rfl) (by kernel_rfl) (by kernel_rfl) (fun _ _ _ h => h) (Or.inl ⟨by rfl, ?_⟩) hHeld ?_
  · (intro w hSw; (try dsimp only at hSw); go_simp)
  try simp only [Act.put, List.setIfInBounds_toArray, List.set_cons_zero, List.set_cons_succ]
  refine wpAnyH_ready (rs := [7]) (by kernel_rfl) (by simp) ?_
  refine AllReadyH.cons (o := { dst := some 76, op := Op.call { callee := Callee.value (Operand.func 20), args := #[Operand.tmp 75], argTypes := #[33] }, type := 4, pos := "law.go:39", after := #[{ on := 6, ground := Ground.data }, { on := 4, ground := Ground.chain }, { on := 4, ground := Ground.guard }], guard := some (4, true) }) rfl (fun K hK => ?_) AllReadyH.nil
  go_simp
  refine (over_any x _).mono ?_
  rintro e z13 ⟨rfl, hb⟩
  have Z13 := hidOf (Z12d.out.grow hb)
  clear hb
  refine hK.out _ _ ⟨⟨Z13.out.s 0 _ rfl, Z13.out.s 1 _ rfl, Z13.out.s 2 _ rfl, Z13.out.s 3 _ rfl, Z13.out.s 4 _ rfl, Z13.out.s 5 _ rfl, Z13.out.s 6 _ rfl, Z13.out.s 7 _ rfl, Z13.out.s 8 _ rfl⟩, Z13.out.a 0 _ rfl, Z13.out.a 1 _ rfl, Z13.out.a 2 _ rfl, Z13.out.a 3 _ rfl, Z13.out.a 4 _ rfl, Z13.out.a 5 _ rfl, Z13.out.a 6 _ rfl, Z13.out.a 7 _ rfl, Z13.out.a 8 _ rfl, Z13.out.a 9 _ rfl, Z13.out.a 10 _ rfl, Z13.out.a 11 _ rfl, Z13.out.a 12 _ rfl, Z13.out.a 13 _ rfl⟩ (fun hHeld1 => ?_)
  clear hK K
  try simp only [Act.put, List.setIfInBounds_toArray, List.set_cons_zero, List.set_cons_succ]
  refine wpAnyH_ready (rs := [10]) (by kernel_rfl) (by simp) ?_
  refine AllReadyH.cons (o := { dst := some 79, op := Op.call { callee := Callee.value (Operand.func 21), args := #[Operand.tmp 78], argTypes := #[33] }, type := 4, pos := "law.go:39", after := #[{ on := 9, ground := Ground.data }, { on := 7, ground := Ground.chain }, { on := 4, ground := Ground.guard }], guard := some (4, true) }) rfl (fun K hK => ?_) AllReadyH.nil
  go_simp
  refine (refOver_any x _).mono ?_
  rintro e z14 ⟨rfl, hb⟩
  have Z14 := hidOf (Z13.out.grow hb)
  clear hb
  refine hK.out _ _ ⟨⟨Z14.out.s 0 _ rfl, Z14.out.s 1 _ rfl, Z14.out.s 2 _ rfl, Z14.out.s 3 _ rfl, Z14.out.s 4 _ rfl, Z14.out.s 5 _ rfl, Z14.out.s 6 _ rfl, Z14.out.s 7 _ rfl, Z14.out.s 8 _ rfl⟩, Z14.out.a 0 _ rfl, Z14.out.a 1 _ rfl, Z14.out.a 2 _ rfl, Z14.out.a 3 _ rfl, Z14.out.a 4 _ rfl, Z14.out.a 5 _ rfl, Z14.out.a 6 _ rfl, Z14.out.a 7 _ rfl, Z14.out.a 8 _ rfl, Z14.out.a 9 _ rfl, Z14.out.a 10 _ rfl, Z14.out.a 11 _ rfl, Z14.out.a 12 _ rfl, Z14.out.a 13 _ rfl⟩ (fun hHeld2 => ?_)
  clear hK K
  try simp only [Act.put, List.setIfInBounds_toArray, List.set_cons_zero, List.set_cons_succ]
  refine wpAnyH_take (i := 11) (oi := { dst := some 80, op := Op.binOp BinOp.eql 4 (Operand.tmp 76) (Operand.tmp 79) 4, type := 4, pos := "law.go:39", after := #[{ on := 7, ground := Ground.data }, { on := 10, ground := Ground.data }, { on := 4, ground := Ground.guard }], guard := some (4, true) }) (v := .bool true) rfl (by kernel_rfl) (by kernel_rfl) (by kernel_rfl) (fun _ _ _ h => h) (Or.inl ⟨by rfl, ?_⟩) hHeld2 ?_
  · (intro w hSw; (try dsimp only at hSw); go_simp)
  try simp only [Act.put, List.setIfInBounds_toArray, List.set_cons_zero, List.set_cons_succ]
  refine wpAnyH_take (i := 12) (oi := { dst := some 81, op := Op.pick (Operand.tmp 73) (Operand.tmp 80) (Operand.const (Value.bool false)), type := 4, pos := "law.go:39", after := #[{ on := 4, ground := Ground.data }, { on := 11, ground := Ground.data }], guard := none }) (v := .bool true) rfl (by kernel_rfl) (by kernel_rfl) (by kernel_rfl) (fun _ _ _ h => h) (Or.inl ⟨by rfl, ?_⟩) hHeld2 ?_
  · (intro w hSw; (try dsimp only at hSw); go_simp)
  try simp only [Act.put, List.setIfInBounds_toArray, List.set_cons_zero, List.set_cons_succ]
  refine wpAnyH_take (i := 13) (oi := { dst := some 82, op := Op.move (Operand.tmp 81), type := 4, pos := "law.go:39", after := #[{ on := 12, ground := Ground.data }, { on := 10, ground := Ground.chain }], guard := none }) (v := .bool true) rfl (by kernel_rfl) (by kernel_rfl) (by kernel_rfl) (fun _ _ _ h => h) (Or.inl ⟨by rfl, ?_⟩) hHeld2 ?_
  · (intro w hSw; (try dsimp only at hSw); go_simp)
  try simp only [Act.put, List.setIfInBounds_toArray, List.set_cons_zero, List.set_cons_succ]
  refine wpAnyH_ready (rs := [14]) (by kernel_rfl) (by simp) ?_
  refine AllReadyH.cons (o := { dst := some 83, op := Op.call { callee := Callee.value (Operand.func 22), args := #[], argTypes := #[] }, type := 4, pos := "law.go:39", after := #[{ on := 13, ground := Ground.chain }, { on := 13, ground := Ground.guard }], guard := some (13, true) }) rfl (fun K hK => ?_) AllReadyH.nil
  go_simp
  refine (lives_any _).mono ?_
  rintro e z15 ⟨rfl, hb⟩
  have Z15 := hidOf (Z14.out.grow hb)
  clear hb
  refine hK.out _ _ ⟨⟨Z15.out.s 0 _ rfl, Z15.out.s 1 _ rfl, Z15.out.s 2 _ rfl, Z15.out.s 3 _ rfl, Z15.out.s 4 _ rfl, Z15.out.s 5 _ rfl, Z15.out.s 6 _ rfl, Z15.out.s 7 _ rfl, Z15.out.s 8 _ rfl⟩, Z15.out.a 0 _ rfl, Z15.out.a 1 _ rfl, Z15.out.a 2 _ rfl, Z15.out.a 3 _ rfl, Z15.out.a 4 _ rfl, Z15.out.a 5 _ rfl, Z15.out.a 6 _ rfl, Z15.out.a 7 _ rfl, Z15.out.a 8 _ rfl, Z15.out.a 9 _ rfl, Z15.out.a 10 _ rfl, Z15.out.a 11 _ rfl, Z15.out.a 12 _ rfl, Z15.out.a 13 _ rfl⟩ (fun hHeld3 => ?_)
  clear hK K
  try simp only [Act.put, List.setIfInBounds_toArray, List.set_cons_zero, List.set_cons_succ]
  refine wpAnyH_take (i := 15) (oi := { dst := some 84, op := Op.pick (Operand.tmp 82) (Operand.tmp 83) (Operand.const (Value.bool false)), type := 4, pos := "law.go:39", after := #[{ on := 13, ground := Ground.data }, { on := 14, ground := Ground.data }], guard := none }) (v := .bool true) rfl (by kernel_rfl) (by kernel_rfl) (by kernel_rfl) (fun _ _ _ h => h) (Or.inl ⟨by rfl, ?_⟩) hHeld3 ?_
  · (intro w hSw; (try dsimp only at hSw); go_simp)
  try simp only [Act.put, List.setIfInBounds_toArray, List.set_cons_zero, List.set_cons_succ]
  refine wpAnyH_take (i := 16) (oi := { dst := some 4, op := Op.assign (Operand.tmp 84), type := 4, pos := "law.go:39", after := #[{ on := 15, ground := Ground.data }, { on := 14, ground := Ground.chain }, { on := 0, ground := Ground.phase }, { on := 1, ground := Ground.phase }, { on := 2, ground := Ground.phase }, { on := 3, ground := Ground.phase }, { on := 4, ground := Ground.phase }, { on := 5, ground := Ground.phase }, { on := 6, ground := Ground.phase }, { on := 7, ground := Ground.phase }, { on := 8, ground := Ground.phase }, { on := 9, ground := Ground.phase }, { on := 10, ground := Ground.phase }, { on := 11, ground := Ground.phase }, { on := 12, ground := Ground.phase }, { on := 13, ground := Ground.phase }, { on := 14, ground := Ground.phase }, { on := 15, ground := Ground.phase }], guard := none }) (v := .bool true) rfl (by kernel_rfl) (by kernel_rfl) (by kernel_rfl) (fun _ _ _ h => h) (Or.inl ⟨by rfl, ?_⟩) hHeld3 ?_
  · (intro w hSw; (try dsimp only at hSw); go_simp)
  try simp only [Act.put, List.setIfInBounds_toArray, List.set_cons_zero, List.set_cons_succ]
  refine wpAnyH_done (by kernel_rfl) ?_ _
  go_wp2
  go_ret
  exact ⟨rfl, Z15.out.b⟩
end Go.Proofs.Ytkokkdekbilkjaa
