/- What is used, who holds a slot, how many slots run: as the document says. -/
import Derived.Test.YtkokkdekbilkjaaLf
import Derived.Test.YtkokkdekbilkjaaUr
import Derived.Test.YtkokkdekbilkjaaRq
import Derived.Test.YtkokkdekbilkjaaRs
namespace Go.Proofs.Ytkokkdekbilkjaa
open Go.RowKit Go.Shelf
attribute [local go_sem] Oper.semAt_some
set_option maxRecDepth 100000 in
set_option maxHeartbeats 8000000 in
theorem lawCounts (s : Sc) (id gr ixx : Int) (x : Al) (J B : List Js) (L : List Jb) (Nn : List Nd) (A : List Al) (E D : List Qd) (X : List Ss) (w : World) (hs : StF w (fun b => b < w.heap.size) s J B Nn A E D X) (hj : JbR w (fun b => b < w.heap.size) s.a2 J L) :
    Calls Try.prog 4 #[.agg #[.int .i64 s.ix, .int .i64 s.nx, .slice s.a2 s.n2 s.c2, .slice s.a3 s.n3 s.c3, .slice s.a4 s.n4 s.c4, .slice s.a5 s.n5 s.c5, .slice s.a6 s.n6 s.c6, .slice s.a7 s.n7 s.c7, .slice s.a8 s.n8 s.c8], .agg #[.int .i64 id, .int .i64 gr, .int .i64 ixx, .int .i64 x.id, .int .i64 x.jb, .int .i64 x.ve, .int .i64 x.gr, .int .i64 x.ix, .int .i64 x.nd, .int .i64 x.ep, .int .i64 x.c, .int .i64 x.m, .bool x.sp, .int .i64 x.st]] w fun e w' => e = .returned (.bool true) ∧ Below w.heap.size w w' := by
  obtain ⟨ix, nx, a2, n2, c2, a3, n3, c3, a4, n4, c4, a5, n5, c5, a6, n6, c6, a7, n7, c7, a8, n8, c8⟩ := s
  obtain ⟨h2, h3, h4, h5, h6, h7, h8⟩ : n2 = J.length ∧ n3 = B.length ∧ n4 = Nn.length ∧ n5 = A.length ∧ n6 = E.length ∧ n7 = D.length ∧ n8 = X.length := ⟨hs.n2, hs.n3, hs.n4, hs.n5, hs.n6, hs.n7, hs.n8⟩
  subst h2
  subst h3
  subst h4
  subst h5
  subst h6
  subst h7
  subst h8
  have hju : ∀ W, Below w.heap.size w W → JbR W (fun b => b < W.heap.size) a2 J L := fun W hb => hj.kept (fun b h => hb.block b h) (fun b h => Nat.lt_of_lt_of_le h hb.size)
  have HS1 := hidOf (fun (W : World) (hW : Below w.heap.size w W) => slots_any ⟨ix, nx, a2, J.length, c2, a3, B.length, c3, a4, Nn.length, c4, a5, A.length, c5, a6, E.length, c6, a7, D.length, c7, a8, X.length, c8⟩ id J L A W rfl rfl (hju W hW) (hs.up hW).f5)
  have HS2 := hidOf (fun (W : World) (hW : Below w.heap.size w W) => refSlots_any ⟨ix, nx, a2, J.length, c2, a3, B.length, c3, a4, Nn.length, c4, a5, A.length, c5, a6, E.length, c6, a7, D.length, c7, a8, X.length, c8⟩ id J L A W rfl rfl (hju W hW) (hs.up hW).f5)
  have HU1 := hidOf (fun (W : World) (hW : Below w.heap.size w W) => used_any ⟨ix, nx, a2, J.length, c2, a3, B.length, c3, a4, Nn.length, c4, a5, A.length, c5, a6, E.length, c6, a7, D.length, c7, a8, X.length, c8⟩ id A W rfl (hs.up hW).f5)
  have HU2 := hidOf (fun (W : World) (hW : Below w.heap.size w W) => refUsed_any ⟨ix, nx, a2, J.length, c2, a3, B.length, c3, a4, Nn.length, c4, a5, A.length, c5, a6, E.length, c6, a7, D.length, c7, a8, X.length, c8⟩ id A W rfl (hs.up hW).f5)
  have HL1 := hidOf (fun (W : World) (hW : Below w.heap.size w W) => slot_any ⟨ix, nx, a2, J.length, c2, a3, B.length, c3, a4, Nn.length, c4, a5, A.length, c5, a6, E.length, c6, a7, D.length, c7, a8, X.length, c8⟩ id gr ixx A W rfl (hs.up hW).f5)
  have HL2 := hidOf (fun (W : World) (hW : Below w.heap.size w W) => refSlot_any ⟨ix, nx, a2, J.length, c2, a3, B.length, c3, a4, Nn.length, c4, a5, A.length, c5, a6, E.length, c6, a7, D.length, c7, a8, X.length, c8⟩ id gr ixx A W rfl (hs.up hW).f5)
  dsimp only at HS1 HS2 HU1 HU2 HL1 HL2
  generalize (slotsV id L A).1 = v1 at HS1 HS2
  generalize (slotsV id L A).2 = v2 at HS1 HS2
  generalize (usedV id A).1 = u1 at HU1 HU2
  generalize (usedV id A).2 = u2 at HU1 HU2
  generalize fi (slB id gr ixx) A = l1 at HL1 HL2
  clear hs hj hju
  dsimp only
  have Z0 := hidOf (FdS.begin w [.int .i64 ix, .int .i64 nx, .slice a2 J.length c2, .slice a3 B.length c3, .slice a4 Nn.length c4, .slice a5 A.length c5, .slice a6 E.length c6, .slice a7 D.length c7, .slice a8 X.length c8] [.int .i64 id, .int .i64 gr, .int .i64 ixx, .int .i64 x.id, .int .i64 x.jb, .int .i64 x.ve, .int .i64 x.gr, .int .i64 x.ix, .int .i64 x.nd, .int .i64 x.ep, .int .i64 x.c, .int .i64 x.m, .bool x.sp, .int .i64 x.st] 29 35)
  go_enter Try.func4, Try.ntmps4
  go_upto_region 3 with (first
    | (go_at_call 23; refine (HS1.out _ Z0.out.b).mono ?_; rintro e z1 ⟨rfl, hb⟩; have Z1 := hidOf (Z0.out.grow hb); clear hb; have s0 : z1.cell? ⟨w.heap.size, 0, none⟩ = some (.int .i64 ix) := Z1.out.s 0 _ rfl; have s1 : z1.cell? ⟨w.heap.size, 1, none⟩ = some (.int .i64 nx) := Z1.out.s 1 _ rfl; have s2 : z1.cell? ⟨w.heap.size, 2, none⟩ = some (.slice a2 J.length c2) := Z1.out.s 2 _ rfl; have s3 : z1.cell? ⟨w.heap.size, 3, none⟩ = some (.slice a3 B.length c3) := Z1.out.s 3 _ rfl; have s4 : z1.cell? ⟨w.heap.size, 4, none⟩ = some (.slice a4 Nn.length c4) := Z1.out.s 4 _ rfl; have s5 : z1.cell? ⟨w.heap.size, 5, none⟩ = some (.slice a5 A.length c5) := Z1.out.s 5 _ rfl; have s6 : z1.cell? ⟨w.heap.size, 6, none⟩ = some (.slice a6 E.length c6) := Z1.out.s 6 _ rfl; have s7 : z1.cell? ⟨w.heap.size, 7, none⟩ = some (.slice a7 D.length c7) := Z1.out.s 7 _ rfl; have s8 : z1.cell? ⟨w.heap.size, 8, none⟩ = some (.slice a8 X.length c8) := Z1.out.s 8 _ rfl; have a0 : z1.cell? ⟨w.heap.size + 1, 0, none⟩ = some (.int .i64 id) := Z1.out.a 0 _ rfl; have ll : w.heap.size + 1 < z1.heap.size := Z1.out.l; have ll0 : w.heap.size < z1.heap.size := by omega)
    | (go_at_call 24; refine (HS2.out _ Z1.out.b).mono ?_; rintro e z2 ⟨rfl, hb⟩; have Z2 := hidOf (Z1.out.grow hb); clear hb s0 s1 s2 s3 s4 s5 s6 s7 s8 a0 ll ll0))
  have Z2d := hidOf Z2.out.drew
  refine wp_region_held_drew (S := fun wz => (wz.cell? ⟨w.heap.size, 0, none⟩ = some (.int .i64 ix) ∧ wz.cell? ⟨w.heap.size, 1, none⟩ = some (.int .i64 nx) ∧ wz.cell? ⟨w.heap.size, 2, none⟩ = some (.slice a2 J.length c2) ∧ wz.cell? ⟨w.heap.size, 3, none⟩ = some (.slice a3 B.length c3) ∧ wz.cell? ⟨w.heap.size, 4, none⟩ = some (.slice a4 Nn.length c4) ∧ wz.cell? ⟨w.heap.size, 5, none⟩ = some (.slice a5 A.length c5) ∧ wz.cell? ⟨w.heap.size, 6, none⟩ = some (.slice a6 E.length c6) ∧ wz.cell? ⟨w.heap.size, 7, none⟩ = some (.slice a7 D.length c7) ∧ wz.cell? ⟨w.heap.size, 8, none⟩ = some (.slice a8 X.length c8)) ∧ (wz.cell? ⟨w.heap.size + 1, 0, none⟩ = some (.int .i64 id) ∧ wz.cell? ⟨w.heap.size + 1, 1, none⟩ = some (.int .i64 gr) ∧ wz.cell? ⟨w.heap.size + 1, 2, none⟩ = some (.int .i64 ixx) ∧ wz.cell? ⟨w.heap.size + 1, 3, none⟩ = some (.int .i64 x.id) ∧ wz.cell? ⟨w.heap.size + 1, 4, none⟩ = some (.int .i64 x.jb) ∧ wz.cell? ⟨w.heap.size + 1, 5, none⟩ = some (.int .i64 x.ve) ∧ wz.cell? ⟨w.heap.size + 1, 6, none⟩ = some (.int .i64 x.gr) ∧ wz.cell? ⟨w.heap.size + 1, 7, none⟩ = some (.int .i64 x.ix) ∧ wz.cell? ⟨w.heap.size + 1, 8, none⟩ = some (.int .i64 x.nd) ∧ wz.cell? ⟨w.heap.size + 1, 9, none⟩ = some (.int .i64 x.ep) ∧ wz.cell? ⟨w.heap.size + 1, 10, none⟩ = some (.int .i64 x.c) ∧ wz.cell? ⟨w.heap.size + 1, 11, none⟩ = some (.int .i64 x.m) ∧ wz.cell? ⟨w.heap.size + 1, 12, none⟩ = some (.bool x.sp) ∧ wz.cell? ⟨w.heap.size + 1, 13, none⟩ = some (.int .i64 x.st))) (by kernel_rfl) ⟨⟨Z2d.out.s 0 _ rfl, Z2d.out.s 1 _ rfl, Z2d.out.s 2 _ rfl, Z2d.out.s 3 _ rfl, Z2d.out.s 4 _ rfl, Z2d.out.s 5 _ rfl, Z2d.out.s 6 _ rfl, Z2d.out.s 7 _ rfl, Z2d.out.s 8 _ rfl⟩, Z2d.out.a 0 _ rfl, Z2d.out.a 1 _ rfl, Z2d.out.a 2 _ rfl, Z2d.out.a 3 _ rfl, Z2d.out.a 4 _ rfl, Z2d.out.a 5 _ rfl, Z2d.out.a 6 _ rfl, Z2d.out.a 7 _ rfl, Z2d.out.a 8 _ rfl, Z2d.out.a 9 _ rfl, Z2d.out.a 10 _ rfl, Z2d.out.a 11 _ rfl, Z2d.out.a 12 _ rfl, Z2d.out.a 13 _ rfl⟩ (fun hHeld => ?_)
  refine wpAnyH_take (i := 0) (oi := { dst := some 23, op := Op.load 29 (Operand.tmp 2), type := 29, pos := "law.go:46", after := #[], guard := none }) (v := .agg #[.int .i64 ix, .int .i64 nx, .slice a2 J.length c2, .slice a3 B.length c3, .slice a4 Nn.length c4, .slice a5 A.length c5, .slice a6 E.length c6, .slice a7 D.length c7, .slice a8 X.length c8]) rfl (by kernel_rfl) (by kernel_rfl) (by kernel_rfl) (fun _ _ _ h => h) (Or.inl ⟨by rfl, ?_⟩) hHeld ?_
  · (intro w hSw; (try dsimp only at hSw); go_simp)
  try simp only [Act.put, List.setIfInBounds_toArray, List.set_cons_zero, List.set_cons_succ]
  refine wpAnyH_take (i := 1) (oi := { dst := some 24, op := Op.fieldAddr 35 (Operand.tmp 3) 0, type := 0, pos := "law.go:46", after := #[], guard := none }) (v := .pointer (some ⟨w.heap.size + 1, 0, none⟩)) rfl (by kernel_rfl) (by kernel_rfl) (by kernel_rfl) (fun _ _ _ h => h) (Or.inl ⟨by rfl, ?_⟩) hHeld ?_
  · (intro w hSw; (try dsimp only at hSw); go_simp)
  try simp only [Act.put, List.setIfInBounds_toArray, List.set_cons_zero, List.set_cons_succ]
  refine wpAnyH_take (i := 2) (oi := { dst := some 25, op := Op.load 3 (Operand.tmp 24), type := 3, pos := "law.go:46", after := #[{ on := 1, ground := Ground.data }], guard := none }) (v := .int .i64 id) rfl (by kernel_rfl) (by kernel_rfl) (by kernel_rfl) (fun _ _ _ h => h) (Or.inl ⟨by rfl, ?_⟩) hHeld ?_
  · (intro w hSw; (try dsimp only at hSw); go_simp)
  try simp only [Act.put, List.setIfInBounds_toArray, List.set_cons_zero, List.set_cons_succ]
  refine wpAnyH_take (i := 4) (oi := { dst := some 27, op := Op.load 29 (Operand.tmp 2), type := 29, pos := "law.go:46", after := #[], guard := none }) (v := .agg #[.int .i64 ix, .int .i64 nx, .slice a2 J.length c2, .slice a3 B.length c3, .slice a4 Nn.length c4, .slice a5 A.length c5, .slice a6 E.length c6, .slice a7 D.length c7, .slice a8 X.length c8]) rfl (by kernel_rfl) (by kernel_rfl) (by kernel_rfl) (fun _ _ _ h => h) (Or.inl ⟨by rfl, ?_⟩) hHeld ?_
  · (intro w hSw; (try dsimp only at hSw); go_simp)
  try simp only [Act.put, List.setIfInBounds_toArray, List.set_cons_zero, List.set_cons_succ]
  refine wpAnyH_take (i := 5) (oi := { dst := some 28, op := Op.fieldAddr 35 (Operand.tmp 3) 0, type := 0, pos := "law.go:46", after := #[], guard := none }) (v := .pointer (some ⟨w.heap.size + 1, 0, none⟩)) rfl (by kernel_rfl) (by kernel_rfl) (by kernel_rfl) (fun _ _ _ h => h) (Or.inl ⟨by rfl, ?_⟩) hHeld ?_
  · (intro w hSw; (try dsimp only at hSw); go_simp)
  try simp only [Act.put, List.setIfInBounds_toArray, List.set_cons_zero, List.set_cons_succ]
  refine wpAnyH_take (i := 6) (oi := { dst := some 29, op := Op.load 3 (Operand.tmp 28), type := 3, pos := "law.go:46", after := #[{ on := 5, ground := Ground.data }], guard := none }) (v := .int .i64 id) rfl (by kernel_rfl) (by kernel_rfl) (by kernel_rfl) (fun _ _ _ h => h) (Or.inl ⟨by rfl, ?_⟩) hHeld ?_
  · (intro w hSw; (try dsimp only at hSw); go_simp)
  try simp only [Act.put, List.setIfInBounds_toArray, List.set_cons_zero, List.set_cons_succ]
  refine wpAnyH_ready (rs := [3]) (by kernel_rfl) (by simp) ?_
  refine AllReadyH.cons (o := { dst := some 26, op := Op.call { callee := Callee.value (Operand.func 25), args := #[Operand.tmp 23, Operand.tmp 25], argTypes := #[29, 3] }, type := 31, pos := "law.go:46", after := #[{ on := 0, ground := Ground.data }, { on := 2, ground := Ground.data }], guard := none }) rfl (fun K hK => ?_) AllReadyH.nil
  go_simp
  refine (HU1.out _ Z2d.out.b).mono ?_
  rintro e z3 ⟨rfl, hb⟩
  have Z3 := hidOf (Z2d.out.grow hb)
  clear hb
  refine hK.out _ _ ⟨⟨Z3.out.s 0 _ rfl, Z3.out.s 1 _ rfl, Z3.out.s 2 _ rfl, Z3.out.s 3 _ rfl, Z3.out.s 4 _ rfl, Z3.out.s 5 _ rfl, Z3.out.s 6 _ rfl, Z3.out.s 7 _ rfl, Z3.out.s 8 _ rfl⟩, Z3.out.a 0 _ rfl, Z3.out.a 1 _ rfl, Z3.out.a 2 _ rfl, Z3.out.a 3 _ rfl, Z3.out.a 4 _ rfl, Z3.out.a 5 _ rfl, Z3.out.a 6 _ rfl, Z3.out.a 7 _ rfl, Z3.out.a 8 _ rfl, Z3.out.a 9 _ rfl, Z3.out.a 10 _ rfl, Z3.out.a 11 _ rfl, Z3.out.a 12 _ rfl, Z3.out.a 13 _ rfl⟩ (fun hHeld1 => ?_)
  clear hK K
  try simp only [Act.put, List.setIfInBounds_toArray, List.set_cons_zero, List.set_cons_succ]
  refine wpAnyH_ready (rs := [7]) (by kernel_rfl) (by simp) ?_
  refine AllReadyH.cons (o := { dst := some 30, op := Op.call { callee := Callee.value (Operand.func 26), args := #[Operand.tmp 27, Operand.tmp 29], argTypes := #[29, 3] }, type := 31, pos := "law.go:46", after := #[{ on := 4, ground := Ground.data }, { on := 6, ground := Ground.data }, { on := 3, ground := Ground.chain }], guard := none }) rfl (fun K hK => ?_) AllReadyH.nil
  go_simp
  refine (HU2.out _ Z3.out.b).mono ?_
  rintro e z4 ⟨rfl, hb⟩
  have Z4 := hidOf (Z3.out.grow hb)
  clear hb
  refine hK.out _ _ ⟨⟨Z4.out.s 0 _ rfl, Z4.out.s 1 _ rfl, Z4.out.s 2 _ rfl, Z4.out.s 3 _ rfl, Z4.out.s 4 _ rfl, Z4.out.s 5 _ rfl, Z4.out.s 6 _ rfl, Z4.out.s 7 _ rfl, Z4.out.s 8 _ rfl⟩, Z4.out.a 0 _ rfl, Z4.out.a 1 _ rfl, Z4.out.a 2 _ rfl, Z4.out.a 3 _ rfl, Z4.out.a 4 _ rfl, Z4.out.a 5 _ rfl, Z4.out.a 6 _ rfl, Z4.out.a 7 _ rfl, Z4.out.a 8 _ rfl, Z4.out.a 9 _ rfl, Z4.out.a 10 _ rfl, Z4.out.a 11 _ rfl, Z4.out.a 12 _ rfl, Z4.out.a 13 _ rfl⟩ (fun hHeld2 => ?_)
  clear hK K
  try simp only [Act.put, List.setIfInBounds_toArray, List.set_cons_zero, List.set_cons_succ]
  refine wpAnyH_take (i := 8) (oi := { dst := some 31, op := Op.binOp BinOp.eql 31 (Operand.tmp 26) (Operand.tmp 30) 31, type := 4, pos := "law.go:46", after := #[{ on := 3, ground := Ground.data }, { on := 7, ground := Ground.data }], guard := none }) (v := .bool true) rfl (by kernel_rfl) (by kernel_rfl) (by kernel_rfl) (fun _ _ _ h => h) (Or.inl ⟨by rfl, ?_⟩) hHeld2 ?_
  · (intro w hSw; clear hSw; go_simp)
  try simp only [Act.put, List.setIfInBounds_toArray, List.set_cons_zero, List.set_cons_succ]
  refine wpAnyH_take (i := 9) (oi := { dst := some 32, op := Op.move (Operand.tmp 31), type := 4, pos := "law.go:46", after := #[{ on := 8, ground := Ground.data }, { on := 7, ground := Ground.chain }], guard := none }) (v := .bool true) rfl (by kernel_rfl) (by kernel_rfl) (by kernel_rfl) (fun _ _ _ h => h) (Or.inl ⟨by rfl, ?_⟩) hHeld2 ?_
  · (intro w hSw; (try dsimp only at hSw); go_simp)
  try simp only [Act.put, List.setIfInBounds_toArray, List.set_cons_zero, List.set_cons_succ]
  refine wpAnyH_take (i := 10) (oi := { dst := some 33, op := Op.load 29 (Operand.tmp 2), type := 29, pos := "law.go:46", after := #[{ on := 9, ground := Ground.guard }], guard := some (9, true) }) (v := .agg #[.int .i64 ix, .int .i64 nx, .slice a2 J.length c2, .slice a3 B.length c3, .slice a4 Nn.length c4, .slice a5 A.length c5, .slice a6 E.length c6, .slice a7 D.length c7, .slice a8 X.length c8]) rfl (by kernel_rfl) (by kernel_rfl) (by kernel_rfl) (fun _ _ _ h => h) (Or.inl ⟨by rfl, ?_⟩) hHeld2 ?_
  · (intro w hSw; (try dsimp only at hSw); go_simp)
  try simp only [Act.put, List.setIfInBounds_toArray, List.set_cons_zero, List.set_cons_succ]
  refine wpAnyH_take (i := 11) (oi := { dst := some 34, op := Op.fieldAddr 35 (Operand.tmp 3) 0, type := 0, pos := "law.go:46", after := #[{ on := 9, ground := Ground.guard }], guard := some (9, true) }) (v := .pointer (some ⟨w.heap.size + 1, 0, none⟩)) rfl (by kernel_rfl) (by kernel_rfl) (by kernel_rfl) (fun _ _ _ h => h) (Or.inl ⟨by rfl, ?_⟩) hHeld2 ?_
  · (intro w hSw; (try dsimp only at hSw); go_simp)
  try simp only [Act.put, List.setIfInBounds_toArray, List.set_cons_zero, List.set_cons_succ]
  refine wpAnyH_take (i := 12) (oi := { dst := some 35, op := Op.load 3 (Operand.tmp 34), type := 3, pos := "law.go:46", after := #[{ on := 11, ground := Ground.data }, { on := 9, ground := Ground.guard }], guard := some (9, true) }) (v := .int .i64 id) rfl (by kernel_rfl) (by kernel_rfl) (by kernel_rfl) (fun _ _ _ h => h) (Or.inl ⟨by rfl, ?_⟩) hHeld2 ?_
  · (intro w hSw; (try dsimp only at hSw); go_simp)
  try simp only [Act.put, List.setIfInBounds_toArray, List.set_cons_zero, List.set_cons_succ]
  refine wpAnyH_take (i := 13) (oi := { dst := some 36, op := Op.fieldAddr 35 (Operand.tmp 3) 1, type := 0, pos := "law.go:46", after := #[{ on := 9, ground := Ground.guard }], guard := some (9, true) }) (v := .pointer (some ⟨w.heap.size + 1, 1, none⟩)) rfl (by kernel_rfl) (by kernel_rfl) (by kernel_rfl) (fun _ _ _ h => h) (Or.inl ⟨by rfl, ?_⟩) hHeld2 ?_
  · (intro w hSw; (try dsimp only at hSw); go_simp)
  try simp only [Act.put, List.setIfInBounds_toArray, List.set_cons_zero, List.set_cons_succ]
  refine wpAnyH_take (i := 14) (oi := { dst := some 37, op := Op.load 3 (Operand.tmp 36), type := 3, pos := "law.go:46", after := #[{ on := 13, ground := Ground.data }, { on := 9, ground := Ground.guard }], guard := some (9, true) }) (v := .int .i64 gr) rfl (by kernel_rfl) (by kernel_rfl) (by kernel_rfl) (fun _ _ _ h => h) (Or.inl ⟨by rfl, ?_⟩) hHeld2 ?_
  · (intro w hSw; (try dsimp only at hSw); go_simp)
  try simp only [Act.put, List.setIfInBounds_toArray, List.set_cons_zero, List.set_cons_succ]
  refine wpAnyH_take (i := 15) (oi := { dst := some 38, op := Op.fieldAddr 35 (Operand.tmp 3) 2, type := 0, pos := "law.go:46", after := #[{ on := 9, ground := Ground.guard }], guard := some (9, true) }) (v := .pointer (some ⟨w.heap.size + 1, 2, none⟩)) rfl (by kernel_rfl) (by kernel_rfl) (by kernel_rfl) (fun _ _ _ h => h) (Or.inl ⟨by rfl, ?_⟩) hHeld2 ?_
  · (intro w hSw; (try dsimp only at hSw); go_simp)
  try simp only [Act.put, List.setIfInBounds_toArray, List.set_cons_zero, List.set_cons_succ]
  refine wpAnyH_take (i := 16) (oi := { dst := some 39, op := Op.load 3 (Operand.tmp 38), type := 3, pos := "law.go:46", after := #[{ on := 15, ground := Ground.data }, { on := 9, ground := Ground.guard }], guard := some (9, true) }) (v := .int .i64 ixx) rfl (by kernel_rfl) (by kernel_rfl) (by kernel_rfl) (fun _ _ _ h => h) (Or.inl ⟨by rfl, ?_⟩) hHeld2 ?_
  · (intro w hSw; (try dsimp only at hSw); go_simp)
  try simp only [Act.put, List.setIfInBounds_toArray, List.set_cons_zero, List.set_cons_succ]
  refine wpAnyH_take (i := 18) (oi := { dst := some 41, op := Op.load 29 (Operand.tmp 2), type := 29, pos := "law.go:46", after := #[{ on := 9, ground := Ground.guard }], guard := some (9, true) }) (v := .agg #[.int .i64 ix, .int .i64 nx, .slice a2 J.length c2, .slice a3 B.length c3, .slice a4 Nn.length c4, .slice a5 A.length c5, .slice a6 E.length c6, .slice a7 D.length c7, .slice a8 X.length c8]) rfl (by kernel_rfl) (by kernel_rfl) (by kernel_rfl) (fun _ _ _ h => h) (Or.inl ⟨by rfl, ?_⟩) hHeld2 ?_
  · (intro w hSw; (try dsimp only at hSw); go_simp)
  try simp only [Act.put, List.setIfInBounds_toArray, List.set_cons_zero, List.set_cons_succ]
  refine wpAnyH_take (i := 19) (oi := { dst := some 42, op := Op.fieldAddr 35 (Operand.tmp 3) 0, type := 0, pos := "law.go:46", after := #[{ on := 9, ground := Ground.guard }], guard := some (9, true) }) (v := .pointer (some ⟨w.heap.size + 1, 0, none⟩)) rfl (by kernel_rfl) (by kernel_rfl) (by kernel_rfl) (fun _ _ _ h => h) (Or.inl ⟨by rfl, ?_⟩) hHeld2 ?_
  · (intro w hSw; (try dsimp only at hSw); go_simp)
  try simp only [Act.put, List.setIfInBounds_toArray, List.set_cons_zero, List.set_cons_succ]
  refine wpAnyH_take (i := 20) (oi := { dst := some 43, op := Op.load 3 (Operand.tmp 42), type := 3, pos := "law.go:46", after := #[{ on := 19, ground := Ground.data }, { on := 9, ground := Ground.guard }], guard := some (9, true) }) (v := .int .i64 id) rfl (by kernel_rfl) (by kernel_rfl) (by kernel_rfl) (fun _ _ _ h => h) (Or.inl ⟨by rfl, ?_⟩) hHeld2 ?_
  · (intro w hSw; (try dsimp only at hSw); go_simp)
  try simp only [Act.put, List.setIfInBounds_toArray, List.set_cons_zero, List.set_cons_succ]
  refine wpAnyH_take (i := 21) (oi := { dst := some 44, op := Op.fieldAddr 35 (Operand.tmp 3) 1, type := 0, pos := "law.go:46", after := #[{ on := 9, ground := Ground.guard }], guard := some (9, true) }) (v := .pointer (some ⟨w.heap.size + 1, 1, none⟩)) rfl (by kernel_rfl) (by kernel_rfl) (by kernel_rfl) (fun _ _ _ h => h) (Or.inl ⟨by rfl, ?_⟩) hHeld2 ?_
  · (intro w hSw; (try dsimp only at hSw); go_simp)
  try simp only [Act.put, List.setIfInBounds_toArray, List.set_cons_zero, List.set_cons_succ]
  refine wpAnyH_take (i := 22) (oi := { dst := some 45, op := Op.load 3 (Operand.tmp 44), type := 3, pos := "law.go:46", after := #[{ on := 21, ground := Ground.data }, { on := 9, ground := Ground.guard }], guard := some (9, true) }) (v := .int .i64 gr) rfl (by kernel_rfl) (by kernel_rfl) (by kernel_rfl) (fun _ _ _ h => h) (Or.inl ⟨by rfl, ?_⟩) hHeld2 ?_
  · (intro w hSw; (try dsimp only at hSw); go_simp)
  try simp only [Act.put, List.setIfInBounds_toArray, List.set_cons_zero, List.set_cons_succ]
  refine wpAnyH_take (i := 23) (oi := { dst := some 46, op := Op.fieldAddr 35 (Operand.tmp 3) 2, type := 0, pos := "law.go:46", after := #[{ on := 9, ground := Ground.guard }], guard := some (9, true) }) (v := .pointer (some ⟨w.heap.size + 1, 2, none⟩)) rfl (by kernel_rfl) (by kernel_rfl) (by kernel_rfl) (fun _ _ _ h => h) (Or.inl ⟨by rfl, ?_⟩) hHeld2 ?_
  · (intro w hSw; (try dsimp only at hSw); go_simp)
  try simp only [Act.put, List.setIfInBounds_toArray, List.set_cons_zero, List.set_cons_succ]
  refine wpAnyH_take (i := 24) (oi := { dst := some 47, op := Op.load 3 (Operand.tmp 46), type := 3, pos := "law.go:46", after := #[{ on := 23, ground := Ground.data }, { on := 9, ground := Ground.guard }], guard := some (9, true) }) (v := .int .i64 ixx) rfl (by kernel_rfl) (by kernel_rfl) (by kernel_rfl) (fun _ _ _ h => h) (Or.inl ⟨by rfl, ?_⟩) hHeld2 ?_
  · (intro w hSw; (try dsimp only at hSw); go_simp)
  try simp only [Act.put, List.setIfInBounds_toArray, List.set_cons_zero, List.set_cons_succ]
  refine wpAnyH_ready (rs := [17]) (by kernel_rfl) (by simp) ?_
  refine AllReadyH.cons (o := { dst := some 40, op := Op.call { callee := Callee.value (Operand.func 27), args := #[Operand.tmp 33, Operand.tmp 35, Operand.tmp 37, Operand.tmp 39], argTypes := #[29, 3, 3, 3] }, type := 3, pos := "law.go:46", after := #[{ on := 10, ground := Ground.data }, { on := 12, ground := Ground.data }, { on := 14, ground := Ground.data }, { on := 16, ground := Ground.data }, { on := 9, ground := Ground.chain }, { on := 9, ground := Ground.guard }], guard := some (9, true) }) rfl (fun K hK => ?_) AllReadyH.nil
  go_simp
  refine (HL1.out _ Z4.out.b).mono ?_
  rintro e z5 ⟨rfl, hb⟩
  have Z5 := hidOf (Z4.out.grow hb)
  clear hb
  refine hK.out _ _ ⟨⟨Z5.out.s 0 _ rfl, Z5.out.s 1 _ rfl, Z5.out.s 2 _ rfl, Z5.out.s 3 _ rfl, Z5.out.s 4 _ rfl, Z5.out.s 5 _ rfl, Z5.out.s 6 _ rfl, Z5.out.s 7 _ rfl, Z5.out.s 8 _ rfl⟩, Z5.out.a 0 _ rfl, Z5.out.a 1 _ rfl, Z5.out.a 2 _ rfl, Z5.out.a 3 _ rfl, Z5.out.a 4 _ rfl, Z5.out.a 5 _ rfl, Z5.out.a 6 _ rfl, Z5.out.a 7 _ rfl, Z5.out.a 8 _ rfl, Z5.out.a 9 _ rfl, Z5.out.a 10 _ rfl, Z5.out.a 11 _ rfl, Z5.out.a 12 _ rfl, Z5.out.a 13 _ rfl⟩ (fun hHeld3 => ?_)
  clear hK K
  try simp only [Act.put, List.setIfInBounds_toArray, List.set_cons_zero, List.set_cons_succ]
  refine wpAnyH_ready (rs := [25]) (by kernel_rfl) (by simp) ?_
  refine AllReadyH.cons (o := { dst := some 48, op := Op.call { callee := Callee.value (Operand.func 28), args := #[Operand.tmp 41, Operand.tmp 43, Operand.tmp 45, Operand.tmp 47], argTypes := #[29, 3, 3, 3] }, type := 3, pos := "law.go:46", after := #[{ on := 18, ground := Ground.data }, { on := 20, ground := Ground.data }, { on := 22, ground := Ground.data }, { on := 24, ground := Ground.data }, { on := 17, ground := Ground.chain }, { on := 9, ground := Ground.guard }], guard := some (9, true) }) rfl (fun K hK => ?_) AllReadyH.nil
  go_simp
  refine (HL2.out _ Z5.out.b).mono ?_
  rintro e z6 ⟨rfl, hb⟩
  have Z6 := hidOf (Z5.out.grow hb)
  clear hb
  refine hK.out _ _ ⟨⟨Z6.out.s 0 _ rfl, Z6.out.s 1 _ rfl, Z6.out.s 2 _ rfl, Z6.out.s 3 _ rfl, Z6.out.s 4 _ rfl, Z6.out.s 5 _ rfl, Z6.out.s 6 _ rfl, Z6.out.s 7 _ rfl, Z6.out.s 8 _ rfl⟩, Z6.out.a 0 _ rfl, Z6.out.a 1 _ rfl, Z6.out.a 2 _ rfl, Z6.out.a 3 _ rfl, Z6.out.a 4 _ rfl, Z6.out.a 5 _ rfl, Z6.out.a 6 _ rfl, Z6.out.a 7 _ rfl, Z6.out.a 8 _ rfl, Z6.out.a 9 _ rfl, Z6.out.a 10 _ rfl, Z6.out.a 11 _ rfl, Z6.out.a 12 _ rfl, Z6.out.a 13 _ rfl⟩ (fun hHeld4 => ?_)
  clear hK K
  try simp only [Act.put, List.setIfInBounds_toArray, List.set_cons_zero, List.set_cons_succ]
  refine wpAnyH_take (i := 26) (oi := { dst := some 49, op := Op.binOp BinOp.eql 3 (Operand.tmp 40) (Operand.tmp 48) 3, type := 4, pos := "law.go:46", after := #[{ on := 17, ground := Ground.data }, { on := 25, ground := Ground.data }, { on := 9, ground := Ground.guard }], guard := some (9, true) }) (v := .bool true) rfl (by kernel_rfl) (by kernel_rfl) (by kernel_rfl) (fun _ _ _ h => h) (Or.inl ⟨by rfl, ?_⟩) hHeld4 ?_
  · (intro w hSw; (try dsimp only at hSw); go_simp)
  try simp only [Act.put, List.setIfInBounds_toArray, List.set_cons_zero, List.set_cons_succ]
  refine wpAnyH_take (i := 27) (oi := { dst := some 50, op := Op.pick (Operand.tmp 32) (Operand.tmp 49) (Operand.const (Value.bool false)), type := 4, pos := "law.go:46", after := #[{ on := 9, ground := Ground.data }, { on := 26, ground := Ground.data }], guard := none }) (v := .bool true) rfl (by kernel_rfl) (by kernel_rfl) (by kernel_rfl) (fun _ _ _ h => h) (Or.inl ⟨by rfl, ?_⟩) hHeld4 ?_
  · (intro w hSw; (try dsimp only at hSw); go_simp)
  try simp only [Act.put, List.setIfInBounds_toArray, List.set_cons_zero, List.set_cons_succ]
  refine wpAnyH_take (i := 28) (oi := { dst := some 51, op := Op.move (Operand.tmp 50), type := 4, pos := "law.go:46", after := #[{ on := 27, ground := Ground.data }, { on := 25, ground := Ground.chain }], guard := none }) (v := .bool true) rfl (by kernel_rfl) (by kernel_rfl) (by kernel_rfl) (fun _ _ _ h => h) (Or.inl ⟨by rfl, ?_⟩) hHeld4 ?_
  · (intro w hSw; (try dsimp only at hSw); go_simp)
  try simp only [Act.put, List.setIfInBounds_toArray, List.set_cons_zero, List.set_cons_succ]
  refine wpAnyH_take (i := 29) (oi := { dst := some 52, op := Op.move (Operand.tmp 5), type := 3, pos := "law.go:46", after := #[{ on := 28, ground := Ground.guard }], guard := some (28, true) }) (v := .int .i64 v1) rfl (by kernel_rfl) (by kernel_rfl) (by kernel_rfl) (fun _ _ _ h => h) (Or.inl ⟨by rfl, ?_⟩) hHeld4 ?_
  · (intro w hSw; (try dsimp only at hSw); go_simp)
  try simp only [Act.put, List.setIfInBounds_toArray, List.set_cons_zero, List.set_cons_succ]
  refine wpAnyH_take (i := 30) (oi := { dst := some 53, op := Op.move (Operand.tmp 7), type := 3, pos := "law.go:46", after := #[{ on := 28, ground := Ground.guard }], guard := some (28, true) }) (v := .int .i64 v1) rfl (by kernel_rfl) (by kernel_rfl) (by kernel_rfl) (fun _ _ _ h => h) (Or.inl ⟨by rfl, ?_⟩) hHeld4 ?_
  · (intro w hSw; (try dsimp only at hSw); go_simp)
  try simp only [Act.put, List.setIfInBounds_toArray, List.set_cons_zero, List.set_cons_succ]
  refine wpAnyH_take (i := 31) (oi := { dst := some 54, op := Op.binOp BinOp.eql 3 (Operand.tmp 52) (Operand.tmp 53) 3, type := 4, pos := "law.go:46", after := #[{ on := 29, ground := Ground.data }, { on := 30, ground := Ground.data }, { on := 28, ground := Ground.guard }], guard := some (28, true) }) (v := .bool true) rfl (by kernel_rfl) (by kernel_rfl) (by kernel_rfl) (fun _ _ _ h => h) (Or.inl ⟨by rfl, ?_⟩) hHeld4 ?_
  · (intro w hSw; (try dsimp only at hSw); go_simp)
  try simp only [Act.put, List.setIfInBounds_toArray, List.set_cons_zero, List.set_cons_succ]
  refine wpAnyH_take (i := 32) (oi := { dst := some 55, op := Op.pick (Operand.tmp 51) (Operand.tmp 54) (Operand.const (Value.bool false)), type := 4, pos := "law.go:46", after := #[{ on := 28, ground := Ground.data }, { on := 31, ground := Ground.data }], guard := none }) (v := .bool true) rfl (by kernel_rfl) (by kernel_rfl) (by kernel_rfl) (fun _ _ _ h => h) (Or.inl ⟨by rfl, ?_⟩) hHeld4 ?_
  · (intro w hSw; (try dsimp only at hSw); go_simp)
  try simp only [Act.put, List.setIfInBounds_toArray, List.set_cons_zero, List.set_cons_succ]
  refine wpAnyH_take (i := 33) (oi := { dst := some 56, op := Op.move (Operand.tmp 55), type := 4, pos := "law.go:46", after := #[{ on := 32, ground := Ground.data }, { on := 28, ground := Ground.chain }], guard := none }) (v := .bool true) rfl (by kernel_rfl) (by kernel_rfl) (by kernel_rfl) (fun _ _ _ h => h) (Or.inl ⟨by rfl, ?_⟩) hHeld4 ?_
  · (intro w hSw; (try dsimp only at hSw); go_simp)
  try simp only [Act.put, List.setIfInBounds_toArray, List.set_cons_zero, List.set_cons_succ]
  refine wpAnyH_take (i := 34) (oi := { dst := some 57, op := Op.move (Operand.tmp 6), type := 3, pos := "law.go:46", after := #[{ on := 33, ground := Ground.guard }], guard := some (33, true) }) (v := .int .i64 v2) rfl (by kernel_rfl) (by kernel_rfl) (by kernel_rfl) (fun _ _ _ h => h) (Or.inl ⟨by rfl, ?_⟩) hHeld4 ?_
  · (intro w hSw; (try dsimp only at hSw); go_simp)
  try simp only [Act.put, List.setIfInBounds_toArray, List.set_cons_zero, List.set_cons_succ]
  refine wpAnyH_take (i := 35) (oi := { dst := some 58, op := Op.move (Operand.tmp 8), type := 3, pos := "law.go:46", after := #[{ on := 33, ground := Ground.guard }], guard := some (33, true) }) (v := .int .i64 v2) rfl (by kernel_rfl) (by kernel_rfl) (by kernel_rfl) (fun _ _ _ h => h) (Or.inl ⟨by rfl, ?_⟩) hHeld4 ?_
  · (intro w hSw; (try dsimp only at hSw); go_simp)
  try simp only [Act.put, List.setIfInBounds_toArray, List.set_cons_zero, List.set_cons_succ]
  refine wpAnyH_take (i := 36) (oi := { dst := some 59, op := Op.binOp BinOp.eql 3 (Operand.tmp 57) (Operand.tmp 58) 3, type := 4, pos := "law.go:46", after := #[{ on := 34, ground := Ground.data }, { on := 35, ground := Ground.data }, { on := 33, ground := Ground.guard }], guard := some (33, true) }) (v := .bool true) rfl (by kernel_rfl) (by kernel_rfl) (by kernel_rfl) (fun _ _ _ h => h) (Or.inl ⟨by rfl, ?_⟩) hHeld4 ?_
  · (intro w hSw; (try dsimp only at hSw); go_simp)
  try simp only [Act.put, List.setIfInBounds_toArray, List.set_cons_zero, List.set_cons_succ]
  refine wpAnyH_take (i := 37) (oi := { dst := some 60, op := Op.pick (Operand.tmp 56) (Operand.tmp 59) (Operand.const (Value.bool false)), type := 4, pos := "law.go:46", after := #[{ on := 33, ground := Ground.data }, { on := 36, ground := Ground.data }], guard := none }) (v := .bool true) rfl (by kernel_rfl) (by kernel_rfl) (by kernel_rfl) (fun _ _ _ h => h) (Or.inl ⟨by rfl, ?_⟩) hHeld4 ?_
  · (intro w hSw; (try dsimp only at hSw); go_simp)
  try simp only [Act.put, List.setIfInBounds_toArray, List.set_cons_zero, List.set_cons_succ]
  refine wpAnyH_take (i := 38) (oi := { dst := some 61, op := Op.move (Operand.tmp 60), type := 4, pos := "law.go:46", after := #[{ on := 37, ground := Ground.data }, { on := 33, ground := Ground.chain }], guard := none }) (v := .bool true) rfl (by kernel_rfl) (by kernel_rfl) (by kernel_rfl) (fun _ _ _ h => h) (Or.inl ⟨by rfl, ?_⟩) hHeld4 ?_
  · (intro w hSw; (try dsimp only at hSw); go_simp)
  try simp only [Act.put, List.setIfInBounds_toArray, List.set_cons_zero, List.set_cons_succ]
  refine wpAnyH_ready (rs := [39]) (by kernel_rfl) (by simp) ?_
  refine AllReadyH.cons (o := { dst := some 62, op := Op.call { callee := Callee.value (Operand.func 22), args := #[], argTypes := #[] }, type := 4, pos := "law.go:46", after := #[{ on := 38, ground := Ground.chain }, { on := 38, ground := Ground.guard }], guard := some (38, true) }) rfl (fun K hK => ?_) AllReadyH.nil
  go_simp
  refine (lives_any _).mono ?_
  rintro e z7 ⟨rfl, hb⟩
  have Z7 := hidOf (Z6.out.grow hb)
  clear hb
  refine hK.out _ _ ⟨⟨Z7.out.s 0 _ rfl, Z7.out.s 1 _ rfl, Z7.out.s 2 _ rfl, Z7.out.s 3 _ rfl, Z7.out.s 4 _ rfl, Z7.out.s 5 _ rfl, Z7.out.s 6 _ rfl, Z7.out.s 7 _ rfl, Z7.out.s 8 _ rfl⟩, Z7.out.a 0 _ rfl, Z7.out.a 1 _ rfl, Z7.out.a 2 _ rfl, Z7.out.a 3 _ rfl, Z7.out.a 4 _ rfl, Z7.out.a 5 _ rfl, Z7.out.a 6 _ rfl, Z7.out.a 7 _ rfl, Z7.out.a 8 _ rfl, Z7.out.a 9 _ rfl, Z7.out.a 10 _ rfl, Z7.out.a 11 _ rfl, Z7.out.a 12 _ rfl, Z7.out.a 13 _ rfl⟩ (fun hHeld5 => ?_)
  clear hK K
  try simp only [Act.put, List.setIfInBounds_toArray, List.set_cons_zero, List.set_cons_succ]
  refine wpAnyH_take (i := 40) (oi := { dst := some 63, op := Op.pick (Operand.tmp 61) (Operand.tmp 62) (Operand.const (Value.bool false)), type := 4, pos := "law.go:46", after := #[{ on := 38, ground := Ground.data }, { on := 39, ground := Ground.data }], guard := none }) (v := .bool true) rfl (by kernel_rfl) (by kernel_rfl) (by kernel_rfl) (fun _ _ _ h => h) (Or.inl ⟨by rfl, ?_⟩) hHeld5 ?_
  · (intro w hSw; (try dsimp only at hSw); go_simp)
  try simp only [Act.put, List.setIfInBounds_toArray, List.set_cons_zero, List.set_cons_succ]
  refine wpAnyH_take (i := 41) (oi := { dst := some 4, op := Op.assign (Operand.tmp 63), type := 4, pos := "law.go:46", after := #[{ on := 40, ground := Ground.data }, { on := 39, ground := Ground.chain }, { on := 0, ground := Ground.phase }, { on := 1, ground := Ground.phase }, { on := 2, ground := Ground.phase }, { on := 3, ground := Ground.phase }, { on := 4, ground := Ground.phase }, { on := 5, ground := Ground.phase }, { on := 6, ground := Ground.phase }, { on := 7, ground := Ground.phase }, { on := 8, ground := Ground.phase }, { on := 9, ground := Ground.phase }, { on := 10, ground := Ground.phase }, { on := 11, ground := Ground.phase }, { on := 12, ground := Ground.phase }, { on := 13, ground := Ground.phase }, { on := 14, ground := Ground.phase }, { on := 15, ground := Ground.phase }, { on := 16, ground := Ground.phase }, { on := 17, ground := Ground.phase }, { on := 18, ground := Ground.phase }, { on := 19, ground := Ground.phase }, { on := 20, ground := Ground.phase }, { on := 21, ground := Ground.phase }, { on := 22, ground := Ground.phase }, { on := 23, ground := Ground.phase }, { on := 24, ground := Ground.phase }, { on := 25, ground := Ground.phase }, { on := 26, ground := Ground.phase }, { on := 27, ground := Ground.phase }, { on := 28, ground := Ground.phase }, { on := 29, ground := Ground.phase }, { on := 30, ground := Ground.phase }, { on := 31, ground := Ground.phase }, { on := 32, ground := Ground.phase }, { on := 33, ground := Ground.phase }, { on := 34, ground := Ground.phase }, { on := 35, ground := Ground.phase }, { on := 36, ground := Ground.phase }, { on := 37, ground := Ground.phase }, { on := 38, ground := Ground.phase }, { on := 39, ground := Ground.phase }, { on := 40, ground := Ground.phase }], guard := none }) (v := .bool true) rfl (by kernel_rfl) (by kernel_rfl) (by kernel_rfl) (fun _ _ _ h => h) (Or.inl ⟨by rfl, ?_⟩) hHeld5 ?_
  · (intro w hSw; (try dsimp only at hSw); go_simp)
  try simp only [Act.put, List.setIfInBounds_toArray, List.set_cons_zero, List.set_cons_succ]
  refine wpAnyH_done (by kernel_rfl) ?_ _
  go_wp2
  go_ret
  exact ⟨rfl, Z7.out.b⟩
end Go.Proofs.Ytkokkdekbilkjaa
