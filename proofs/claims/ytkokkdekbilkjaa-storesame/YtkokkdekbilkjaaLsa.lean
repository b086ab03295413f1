/- StoreSame walked. -/
import Derived.DataShut
import Derived.Test.YtkokkdekbilkjaaCh
import Derived.Test.YtkokkdekbilkjaaRm
import Derived.Test.YtkokkdekbilkjaaCs
import Derived.Test.YtkokkdekbilkjaaRc
import Derived.Test.YtkokkdekbilkjaaLi
namespace Go.Proofs.Ytkokkdekbilkjaa
open Go.RowKit Go.Shelf
attribute [local go_sem] Oper.semAt_some
set_option maxRecDepth 100000 in
set_option maxHeartbeats 16000000 in
theorem lawSame (s : Sc) (J B : List Js) (X : List Ss) (d : St) (s' : Sc) (J' B' : List Js) (X' : List Ss) (d' : St) (wh : Int) (w : World) (hi1 : -9223372036854775808 ≤ wh) (hi2 : wh ≤ 9223372036854775807) (ha : StR w (fun b => b < w.heap.size) s J B X d) (hb : StR w (fun b => b < w.heap.size) s' J' B' X' d') :
    Calls Try.prog 5 #[.agg #[.int .i64 s.ix, .int .i64 s.nx, .slice s.a2 s.n2 s.c2, .slice s.a3 s.n3 s.c3, .slice s.a4 s.n4 s.c4, .slice s.a5 s.n5 s.c5, .slice s.a6 s.n6 s.c6, .slice s.a7 s.n7 s.c7, .slice s.a8 s.n8 s.c8], .agg #[.int .i64 s'.ix, .int .i64 s'.nx, .slice s'.a2 s'.n2 s'.c2, .slice s'.a3 s'.n3 s'.c3, .slice s'.a4 s'.n4 s'.c4, .slice s'.a5 s'.n5 s'.c5, .slice s'.a6 s'.n6 s'.c6, .slice s'.a7 s'.n7 s'.c7, .slice s'.a8 s'.n8 s'.c8], .int .i64 wh] w fun e w' => e = .returned (.bool true) ∧ Below w.heap.size w w' := by
  obtain ⟨ix, nx, a2, n2, c2, a3, n3, c3, a4, n4, c4, a5, n5, c5, a6, n6, c6, a7, n7, c7, a8, n8, c8⟩ := s
  obtain ⟨ix', nx', a2', n2', c2', a3', n3', c3', a4', n4', c4', a5', n5', c5', a6', n6', c6', a7', n7', c7', a8', n8', c8'⟩ := s'
  dsimp only
  have HA := hidOf (fun (W : World) (hW : Below w.heap.size w W) => ha.kept (w' := W) (S' := fun b => b < W.heap.size) (fun b hb => hW.block b hb) (fun b (h : b < w.heap.size) => Nat.lt_of_lt_of_le h hW.size))
  have HBB := hidOf (fun (W : World) (hW : Below w.heap.size w W) => hb.kept (w' := W) (S' := fun b => b < W.heap.size) (fun b hb => hW.block b hb) (fun b (h : b < w.heap.size) => Nat.lt_of_lt_of_le h hW.size))
  have HSM := hidOf (fun (W : World) (hW : Below w.heap.size w W) => same_any _ _ J B J' B' X X' d d' (fun b => b < W.heap.size) W (fun _ h => h) (HA.out W hW) (HBB.out W hW))
  have HRM := hidOf (fun (W : World) (hW : Below w.heap.size w W) => refSame_any _ _ J B J' B' X X' d d' (fun b => b < W.heap.size) W (fun _ h => h) (HA.out W hW) (HBB.out W hW))
  have HCP := hidOf (fun (W : World) (hW : Below w.heap.size w W) => refCopy_any _ J B X d W (HA.out W hW))
  clear ha hb
  dsimp only at HSM HRM HCP
  generalize decide (d = d') = bv at *
  have Z0' := FdS.begin w [.int .i64 ix, .int .i64 nx, .slice a2 n2 c2, .slice a3 n3 c3, .slice a4 n4 c4, .slice a5 n5 c5, .slice a6 n6 c6, .slice a7 n7 c7, .slice a8 n8 c8] [.int .i64 ix', .int .i64 nx', .slice a2' n2' c2', .slice a3' n3' c3', .slice a4' n4' c4', .slice a5' n5' c5', .slice a6' n6' c6', .slice a7' n7' c7', .slice a8' n8' c8'] 29 29
  have SZ : Hid (∀ W, FdS w W [.int .i64 ix, .int .i64 nx, .slice a2 n2 c2, .slice a3 n3 c3, .slice a4 n4 c4, .slice a5 n5 c5, .slice a6 n6 c6, .slice a7 n7 c7, .slice a8 n8 c8] [.int .i64 ix', .int .i64 nx', .slice a2' n2' c2', .slice a3' n3' c3', .slice a4' n4' c4', .slice a5' n5' c5', .slice a6' n6' c6', .slice a7' n7' c7', .slice a8' n8' c8'] → (W.cell? ⟨w.heap.size, 0, none⟩ = some (.int .i64 ix) ∧ W.cell? ⟨w.heap.size, 1, none⟩ = some (.int .i64 nx) ∧ W.cell? ⟨w.heap.size, 2, none⟩ = some (.slice a2 n2 c2) ∧ W.cell? ⟨w.heap.size, 3, none⟩ = some (.slice a3 n3 c3) ∧ W.cell? ⟨w.heap.size, 4, none⟩ = some (.slice a4 n4 c4) ∧ W.cell? ⟨w.heap.size, 5, none⟩ = some (.slice a5 n5 c5) ∧ W.cell? ⟨w.heap.size, 6, none⟩ = some (.slice a6 n6 c6) ∧ W.cell? ⟨w.heap.size, 7, none⟩ = some (.slice a7 n7 c7) ∧ W.cell? ⟨w.heap.size, 8, none⟩ = some (.slice a8 n8 c8)) ∧ (W.cell? ⟨w.heap.size + 1, 0, none⟩ = some (.int .i64 ix') ∧ W.cell? ⟨w.heap.size + 1, 1, none⟩ = some (.int .i64 nx') ∧ W.cell? ⟨w.heap.size + 1, 2, none⟩ = some (.slice a2' n2' c2') ∧ W.cell? ⟨w.heap.size + 1, 3, none⟩ = some (.slice a3' n3' c3') ∧ W.cell? ⟨w.heap.size + 1, 4, none⟩ = some (.slice a4' n4' c4') ∧ W.cell? ⟨w.heap.size + 1, 5, none⟩ = some (.slice a5' n5' c5') ∧ W.cell? ⟨w.heap.size + 1, 6, none⟩ = some (.slice a6' n6' c6') ∧ W.cell? ⟨w.heap.size + 1, 7, none⟩ = some (.slice a7' n7' c7') ∧ W.cell? ⟨w.heap.size + 1, 8, none⟩ = some (.slice a8' n8' c8'))) := hidOf (fun W z => ⟨⟨z.s 0 _ rfl, z.s 1 _ rfl, z.s 2 _ rfl, z.s 3 _ rfl, z.s 4 _ rfl, z.s 5 _ rfl, z.s 6 _ rfl, z.s 7 _ rfl, z.s 8 _ rfl⟩, z.a 0 _ rfl, z.a 1 _ rfl, z.a 2 _ rfl, z.a 3 _ rfl, z.a 4 _ rfl, z.a 5 _ rfl, z.a 6 _ rfl, z.a 7 _ rfl, z.a 8 _ rfl⟩)
  go_enter Try.func5, Try.ntmps5
  go_upto_region 1 with (fail)
  obtain ⟨W, hW⟩ : ∃ yy, yy = (w.alloc (.cells #[.int .i64 ix, .int .i64 nx, .slice a2 n2 c2, .slice a3 n3 c3, .slice a4 n4 c4, .slice a5 n5 c5, .slice a6 n6 c6, .slice a7 n7 c7, .slice a8 n8 c8] 29)).alloc (.cells #[.int .i64 ix', .int .i64 nx', .slice a2' n2' c2', .slice a3' n3' c3', .slice a4' n4' c4', .slice a5' n5' c5', .slice a6' n6' c6', .slice a7' n7' c7', .slice a8' n8' c8'] 29) := ⟨_, rfl⟩
  rw [← hW]
  have Z0 : Hid (FdS w W [.int .i64 ix, .int .i64 nx, .slice a2 n2 c2, .slice a3 n3 c3, .slice a4 n4 c4, .slice a5 n5 c5, .slice a6 n6 c6, .slice a7 n7 c7, .slice a8 n8 c8] [.int .i64 ix', .int .i64 nx', .slice a2' n2' c2', .slice a3' n3' c3', .slice a4' n4' c4', .slice a5' n5' c5', .slice a6' n6' c6', .slice a7' n7' c7', .slice a8' n8' c8']) := hidOf (by rw [hW]; exact Z0')
  have HB0 : Hid (Below w.heap.size w W.drew) := hidOf (Z0.out.grow (bdrew W)).b
  clear hW Z0'
  refine wp_region_held_drew (S := fun wz => (wz.cell? ⟨w.heap.size, 0, none⟩ = some (.int .i64 ix) ∧ wz.cell? ⟨w.heap.size, 1, none⟩ = some (.int .i64 nx) ∧ wz.cell? ⟨w.heap.size, 2, none⟩ = some (.slice a2 n2 c2) ∧ wz.cell? ⟨w.heap.size, 3, none⟩ = some (.slice a3 n3 c3) ∧ wz.cell? ⟨w.heap.size, 4, none⟩ = some (.slice a4 n4 c4) ∧ wz.cell? ⟨w.heap.size, 5, none⟩ = some (.slice a5 n5 c5) ∧ wz.cell? ⟨w.heap.size, 6, none⟩ = some (.slice a6 n6 c6) ∧ wz.cell? ⟨w.heap.size, 7, none⟩ = some (.slice a7 n7 c7) ∧ wz.cell? ⟨w.heap.size, 8, none⟩ = some (.slice a8 n8 c8)) ∧ (wz.cell? ⟨w.heap.size + 1, 0, none⟩ = some (.int .i64 ix') ∧ wz.cell? ⟨w.heap.size + 1, 1, none⟩ = some (.int .i64 nx') ∧ wz.cell? ⟨w.heap.size + 1, 2, none⟩ = some (.slice a2' n2' c2') ∧ wz.cell? ⟨w.heap.size + 1, 3, none⟩ = some (.slice a3' n3' c3') ∧ wz.cell? ⟨w.heap.size + 1, 4, none⟩ = some (.slice a4' n4' c4') ∧ wz.cell? ⟨w.heap.size + 1, 5, none⟩ = some (.slice a5' n5' c5') ∧ wz.cell? ⟨w.heap.size + 1, 6, none⟩ = some (.slice a6' n6' c6') ∧ wz.cell? ⟨w.heap.size + 1, 7, none⟩ = some (.slice a7' n7' c7') ∧ wz.cell? ⟨w.heap.size + 1, 8, none⟩ = some (.slice a8' n8' c8'))) (by kernel_rfl) (SZ.out W Z0.out) (fun hHeld => ?_)
  refine wpAnyH_take (i := 0) (oi := { dst := some 8, op := Op.load 29 (Operand.tmp 3), type := 29, pos := "law.go:51", after := #[], guard := none }) (v := .agg #[.int .i64 ix, .int .i64 nx, .slice a2 n2 c2, .slice a3 n3 c3, .slice a4 n4 c4, .slice a5 n5 c5, .slice a6 n6 c6, .slice a7 n7 c7, .slice a8 n8 c8]) rfl (by kernel_rfl) (by kernel_rfl) (by kernel_rfl) (fun _ _ _ h => h) (Or.inl ⟨by rfl, ?_⟩) hHeld ?_
  · (intro w hSw; (try dsimp only at hSw); go_simp)
  try simp only [Act.put, List.setIfInBounds_toArray, List.set_cons_zero, List.set_cons_succ]
  refine wpAnyH_take (i := 1) (oi := { dst := some 9, op := Op.load 29 (Operand.tmp 4), type := 29, pos := "law.go:51", after := #[], guard := none }) (v := .agg #[.int .i64 ix', .int .i64 nx', .slice a2' n2' c2', .slice a3' n3' c3', .slice a4' n4' c4', .slice a5' n5' c5', .slice a6' n6' c6', .slice a7' n7' c7', .slice a8' n8' c8']) rfl (by kernel_rfl) (by kernel_rfl) (by kernel_rfl) (fun _ _ _ h => h) (Or.inl ⟨by rfl, ?_⟩) hHeld ?_
  · (intro w hSw; (try dsimp only at hSw); go_simp)
  try simp only [Act.put, List.setIfInBounds_toArray, List.set_cons_zero, List.set_cons_succ]
  refine wpAnyH_take (i := 3) (oi := { dst := some 11, op := Op.load 29 (Operand.tmp 3), type := 29, pos := "law.go:51", after := #[], guard := none }) (v := .agg #[.int .i64 ix, .int .i64 nx, .slice a2 n2 c2, .slice a3 n3 c3, .slice a4 n4 c4, .slice a5 n5 c5, .slice a6 n6 c6, .slice a7 n7 c7, .slice a8 n8 c8]) rfl (by kernel_rfl) (by kernel_rfl) (by kernel_rfl) (fun _ _ _ h => h) (Or.inl ⟨by rfl, ?_⟩) hHeld ?_
  · (intro w hSw; (try dsimp only at hSw); go_simp)
  try simp only [Act.put, List.setIfInBounds_toArray, List.set_cons_zero, List.set_cons_succ]
  refine wpAnyH_take (i := 4) (oi := { dst := some 12, op := Op.load 29 (Operand.tmp 4), type := 29, pos := "law.go:51", after := #[], guard := none }) (v := .agg #[.int .i64 ix', .int .i64 nx', .slice a2' n2' c2', .slice a3' n3' c3', .slice a4' n4' c4', .slice a5' n5' c5', .slice a6' n6' c6', .slice a7' n7' c7', .slice a8' n8' c8']) rfl (by kernel_rfl) (by kernel_rfl) (by kernel_rfl) (fun _ _ _ h => h) (Or.inl ⟨by rfl, ?_⟩) hHeld ?_
  · (intro w hSw; (try dsimp only at hSw); go_simp)
  try simp only [Act.put, List.setIfInBounds_toArray, List.set_cons_zero, List.set_cons_succ]
  refine wpAnyH_ready (rs := [2]) (by kernel_rfl) (by simp) ?_
  refine AllReadyH.cons (o := { dst := some 10, op := Op.call { callee := Callee.value (Operand.func 29), args := #[Operand.tmp 8, Operand.tmp 9], argTypes := #[29, 29] }, type := 4, pos := "law.go:51", after := #[{ on := 0, ground := Ground.data }, { on := 1, ground := Ground.data }], guard := none }) rfl (fun K hK => ?_) AllReadyH.nil
  go_simp
  refine (HSM.out _ HB0.out).mono ?_
  rintro e w1 ⟨rfl, hb⟩
  have Z1 := hidOf ((Z0.out.grow (bdrew W)).grow hb)
  clear hb
  refine hK.out _ _ (SZ.out w1 Z1.out) (fun hHeld1 => ?_)
  clear hK K
  try simp only [Act.put, List.setIfInBounds_toArray, List.set_cons_zero, List.set_cons_succ]
  refine wpAnyH_ready (rs := [5]) (by kernel_rfl) (by simp) ?_
  refine AllReadyH.cons (o := { dst := some 13, op := Op.call { callee := Callee.value (Operand.func 30), args := #[Operand.tmp 11, Operand.tmp 12], argTypes := #[29, 29] }, type := 4, pos := "law.go:51", after := #[{ on := 3, ground := Ground.data }, { on := 4, ground := Ground.data }, { on := 2, ground := Ground.chain }], guard := none }) rfl (fun K hK => ?_) AllReadyH.nil
  go_simp
  refine (HRM.out _ Z1.out.b).mono ?_
  rintro e w2 ⟨rfl, hb⟩
  have Z2 := hidOf (Z1.out.grow hb)
  clear hb
  refine hK.out _ _ (SZ.out w2 Z2.out) (fun hHeld2 => ?_)
  clear hK K
  try simp only [Act.put, List.setIfInBounds_toArray, List.set_cons_zero, List.set_cons_succ]
  refine wpAnyH_take (i := 6) (oi := { dst := some 14, op := Op.binOp BinOp.neq 4 (Operand.tmp 10) (Operand.tmp 13) 4, type := 4, pos := "law.go:51", after := #[{ on := 2, ground := Ground.data }, { on := 5, ground := Ground.data }], guard := none }) (v := .bool false) rfl (by kernel_rfl) (by kernel_rfl) (by kernel_rfl) (fun _ _ _ h => h) (Or.inl ⟨by rfl, ?_⟩) hHeld2 ?_
  · (intro w hSw; clear hSw; go_simp)
  try simp only [Act.put, List.setIfInBounds_toArray, List.set_cons_zero, List.set_cons_succ]
  refine wpAnyH_take (i := 7) (oi := { dst := some 15, op := Op.move (Operand.tmp 14), type := 4, pos := "law.go:51", after := #[{ on := 6, ground := Ground.data }, { on := 5, ground := Ground.chain }], guard := none }) (v := .bool false) rfl (by kernel_rfl) (by kernel_rfl) (by kernel_rfl) (fun _ _ _ h => h) (Or.inl ⟨by rfl, ?_⟩) hHeld2 ?_
  · (intro w hSw; (try dsimp only at hSw); go_simp)
  try simp only [Act.put, List.setIfInBounds_toArray, List.set_cons_zero, List.set_cons_succ]
  refine wpAnyH_take (i := 8) (oi := { dst := some 16, op := Op.load 29 (Operand.tmp 3), type := 29, pos := "law.go:51", after := #[{ on := 7, ground := Ground.guard }], guard := some (7, false) }) (v := .agg #[.int .i64 ix, .int .i64 nx, .slice a2 n2 c2, .slice a3 n3 c3, .slice a4 n4 c4, .slice a5 n5 c5, .slice a6 n6 c6, .slice a7 n7 c7, .slice a8 n8 c8]) rfl (by kernel_rfl) (by kernel_rfl) (by kernel_rfl) (fun _ _ _ h => h) (Or.inl ⟨by rfl, ?_⟩) hHeld2 ?_
  · (intro w hSw; (try dsimp only at hSw); go_simp)
  try simp only [Act.put, List.setIfInBounds_toArray, List.set_cons_zero, List.set_cons_succ]
  refine wpAnyH_take (i := 9) (oi := { dst := some 17, op := Op.load 29 (Operand.tmp 3), type := 29, pos := "law.go:51", after := #[{ on := 7, ground := Ground.guard }], guard := some (7, false) }) (v := .agg #[.int .i64 ix, .int .i64 nx, .slice a2 n2 c2, .slice a3 n3 c3, .slice a4 n4 c4, .slice a5 n5 c5, .slice a6 n6 c6, .slice a7 n7 c7, .slice a8 n8 c8]) rfl (by kernel_rfl) (by kernel_rfl) (by kernel_rfl) (fun _ _ _ h => h) (Or.inl ⟨by rfl, ?_⟩) hHeld2 ?_
  · (intro w hSw; (try dsimp only at hSw); go_simp)
  try simp only [Act.put, List.setIfInBounds_toArray, List.set_cons_zero, List.set_cons_succ]
  refine wpAnyH_ready (rs := [10]) (by kernel_rfl) (by simp) ?_
  refine AllReadyH.cons (o := { dst := some 18, op := Op.call { callee := Callee.value (Operand.func 31), args := #[Operand.tmp 17], argTypes := #[29] }, type := 29, pos := "law.go:51", after := #[{ on := 9, ground := Ground.data }, { on := 7, ground := Ground.chain }, { on := 7, ground := Ground.guard }], guard := some (7, false) }) rfl (fun K hK => ?_) AllReadyH.nil
  go_simp
  refine (HCP.out _ Z2.out.b).mono ?_
  rintro e w3 ⟨s3, J3, B3, X3, rfl, hs3, hb, _⟩
  have Z3 := hidOf (Z2.out.grow hb)
  have HS3 := hidOf hs3
  clear hb hs3
  refine hK.out _ _ (SZ.out w3 Z3.out) (fun hHeld3 => ?_)
  clear hK K
  try simp only [Act.put, List.setIfInBounds_toArray, List.set_cons_zero, List.set_cons_succ]
  refine wpAnyH_ready (rs := [11]) (by kernel_rfl) (by simp) ?_
  refine AllReadyH.cons (o := { dst := some 19, op := Op.call { callee := Callee.value (Operand.func 29), args := #[Operand.tmp 16, Operand.tmp 18], argTypes := #[29, 29] }, type := 4, pos := "law.go:51", after := #[{ on := 8, ground := Ground.data }, { on := 10, ground := Ground.data }, { on := 10, ground := Ground.chain }, { on := 7, ground := Ground.guard }], guard := some (7, false) }) rfl (fun K hK => ?_) AllReadyH.nil
  go_simp
  refine (same_any _ s3 J B J3 B3 X X3 d d (fun b => b < w3.heap.size) w3 (fun _ h => h) (HA.out w3 Z3.out.b) (HS3.out.kept (fun _ _ => rfl) (fun b hb => hb.2.1))).mono ?_
  rintro e w4 ⟨rfl, hb⟩
  have Z4 := hidOf (Z3.out.grow hb)
  have hdd : decide (d = d) = true := decide_eq_true rfl
  rw [hdd]
  clear hb hdd
  refine hK.out _ _ (SZ.out w4 Z4.out) (fun hHeld4 => ?_)
  clear hK K
  try simp only [Act.put, List.setIfInBounds_toArray, List.set_cons_zero, List.set_cons_succ]
  refine wpAnyH_take (i := 12) (oi := { dst := some 20, op := Op.unOp UnOp.not 4 (Operand.tmp 19), type := 4, pos := "law.go:51", after := #[{ on := 11, ground := Ground.data }, { on := 7, ground := Ground.guard }], guard := some (7, false) }) (v := .bool false) rfl (by kernel_rfl) (by kernel_rfl) (by kernel_rfl) (fun _ _ _ h => h) (Or.inl ⟨by rfl, ?_⟩) hHeld4 ?_
  · (intro w hSw; (try dsimp only at hSw); go_simp)
  try simp only [Act.put, List.setIfInBounds_toArray, List.set_cons_zero, List.set_cons_succ]
  refine wpAnyH_take (i := 13) (oi := { dst := some 21, op := Op.pick (Operand.tmp 15) (Operand.const (Value.bool true)) (Operand.tmp 20), type := 4, pos := "law.go:51", after := #[{ on := 7, ground := Ground.data }, { on := 12, ground := Ground.data }], guard := none }) (v := .bool false) rfl (by kernel_rfl) (by kernel_rfl) (by kernel_rfl) (fun _ _ _ h => h) (Or.inl ⟨by rfl, ?_⟩) hHeld4 ?_
  · (intro w hSw; (try dsimp only at hSw); go_simp)
  try simp only [Act.put, List.setIfInBounds_toArray, List.set_cons_zero, List.set_cons_succ]
  refine wpAnyH_done (by kernel_rfl) ?_ _
  have x0 : w4.cell? ⟨w.heap.size, 0, none⟩ = some (.int .i64 ix) := Z4.out.s 0 _ rfl
  have x1 : w4.cell? ⟨w.heap.size, 1, none⟩ = some (.int .i64 nx) := Z4.out.s 1 _ rfl
  have x2 : w4.cell? ⟨w.heap.size, 2, none⟩ = some (.slice a2 n2 c2) := Z4.out.s 2 _ rfl
  have x3 : w4.cell? ⟨w.heap.size, 3, none⟩ = some (.slice a3 n3 c3) := Z4.out.s 3 _ rfl
  have x4 : w4.cell? ⟨w.heap.size, 4, none⟩ = some (.slice a4 n4 c4) := Z4.out.s 4 _ rfl
  have x5 : w4.cell? ⟨w.heap.size, 5, none⟩ = some (.slice a5 n5 c5) := Z4.out.s 5 _ rfl
  have x6 : w4.cell? ⟨w.heap.size, 6, none⟩ = some (.slice a6 n6 c6) := Z4.out.s 6 _ rfl
  have x7 : w4.cell? ⟨w.heap.size, 7, none⟩ = some (.slice a7 n7 c7) := Z4.out.s 7 _ rfl
  have x8 : w4.cell? ⟨w.heap.size, 8, none⟩ = some (.slice a8 n8 c8) := Z4.out.s 8 _ rfl
  go_upto_region 4 with (first
    | (go_at_call 31; refine (HCP.out _ Z4.out.b).mono ?_; rintro e w5 ⟨s5, J5, B5, X5, rfl, hs5, hb, _⟩; have Z5 := hidOf (Z4.out.grow hb); have HS5 := hidOf hs5; have HB5 := hidOf hb; clear hb hs5 x0 x1 x2 x3 x4 x5 x6 x7 x8)
    | (go_at_call 32; refine (changed_any s5 J5 B5 X5 d w4.heap.size wh w5 HB5.out.size hi1 hi2 HS5.out).mono ?_; rintro e w6 ⟨s6, J6, B6, X6, d6, rfl, hs6, hb⟩; have HS6 := hidOf hs6; have Z6 := hidOf (Z4.out.grow (HB5.out.trans hb)); clear hb hs6))
  obtain ⟨W7, hW7⟩ : ∃ yy, yy = w6.alloc (.cells #[.int .i64 s6.ix, .int .i64 s6.nx, .slice s6.a2 s6.n2 s6.c2, .slice s6.a3 s6.n3 s6.c3, .slice s6.a4 s6.n4 s6.c4, .slice s6.a5 s6.n5 s6.c5, .slice s6.a6 s6.n6 s6.c6, .slice s6.a7 s6.n7 s6.c7, .slice s6.a8 s6.n8 s6.c8] 29) := ⟨_, rfl⟩
  rw [← hW7]
  have hb7 : Below w6.heap.size w6 W7 := by rw [hW7]; exact below1 w6 _
  have HX7 : Hid (W7.heap[w6.heap.size]? = some (.cells #[.int .i64 s6.ix, .int .i64 s6.nx, .slice s6.a2 s6.n2 s6.c2, .slice s6.a3 s6.n3 s6.c3, .slice s6.a4 s6.n4 s6.c4, .slice s6.a5 s6.n5 s6.c5, .slice s6.a6 s6.n6 s6.c6, .slice s6.a7 s6.n7 s6.c7, .slice s6.a8 s6.n8 s6.c8] 29 (0, 0))) := hidOf (by rw [hW7]; exact heap_alloc_new w6 _)
  have Z7 := hidOf (Z6.out.grow hb7)
  have HB7 : Hid (Below w.heap.size w W7.drew) := hidOf (Z7.out.grow (bdrew W7)).b
  have HS7 : Hid (StR W7 (fun b => b < W7.heap.size) s6 J6 B6 X6 d6) := hidOf (HS6.out.kept (fun b hb => hb7.block b hb.2.1) (fun b hb => Nat.lt_of_lt_of_le hb.2.1 hb7.size))
  clear hW7 hb7
  refine wp_region_held_drew (S := fun wz => (wz.cell? ⟨w.heap.size, 0, none⟩ = some (.int .i64 ix) ∧ wz.cell? ⟨w.heap.size, 1, none⟩ = some (.int .i64 nx) ∧ wz.cell? ⟨w.heap.size, 2, none⟩ = some (.slice a2 n2 c2) ∧ wz.cell? ⟨w.heap.size, 3, none⟩ = some (.slice a3 n3 c3) ∧ wz.cell? ⟨w.heap.size, 4, none⟩ = some (.slice a4 n4 c4) ∧ wz.cell? ⟨w.heap.size, 5, none⟩ = some (.slice a5 n5 c5) ∧ wz.cell? ⟨w.heap.size, 6, none⟩ = some (.slice a6 n6 c6) ∧ wz.cell? ⟨w.heap.size, 7, none⟩ = some (.slice a7 n7 c7) ∧ wz.cell? ⟨w.heap.size, 8, none⟩ = some (.slice a8 n8 c8)) ∧ (wz.cell? ⟨w6.heap.size, 0, none⟩ = some (.int .i64 s6.ix) ∧ wz.cell? ⟨w6.heap.size, 1, none⟩ = some (.int .i64 s6.nx) ∧ wz.cell? ⟨w6.heap.size, 2, none⟩ = some (.slice s6.a2 s6.n2 s6.c2) ∧ wz.cell? ⟨w6.heap.size, 3, none⟩ = some (.slice s6.a3 s6.n3 s6.c3) ∧ wz.cell? ⟨w6.heap.size, 4, none⟩ = some (.slice s6.a4 s6.n4 s6.c4) ∧ wz.cell? ⟨w6.heap.size, 5, none⟩ = some (.slice s6.a5 s6.n5 s6.c5) ∧ wz.cell? ⟨w6.heap.size, 6, none⟩ = some (.slice s6.a6 s6.n6 s6.c6) ∧ wz.cell? ⟨w6.heap.size, 7, none⟩ = some (.slice s6.a7 s6.n7 s6.c7) ∧ wz.cell? ⟨w6.heap.size, 8, none⟩ = some (.slice s6.a8 s6.n8 s6.c8))) (by kernel_rfl) ⟨⟨Z7.out.s 0 _ rfl, Z7.out.s 1 _ rfl, Z7.out.s 2 _ rfl, Z7.out.s 3 _ rfl, Z7.out.s 4 _ rfl, Z7.out.s 5 _ rfl, Z7.out.s 6 _ rfl, Z7.out.s 7 _ rfl, Z7.out.s 8 _ rfl⟩, (cell_of_row W7 _ 0 _ 29 (0, 0) HX7.out).trans rfl, (cell_of_row W7 _ 1 _ 29 (0, 0) HX7.out).trans rfl, (cell_of_row W7 _ 2 _ 29 (0, 0) HX7.out).trans rfl, (cell_of_row W7 _ 3 _ 29 (0, 0) HX7.out).trans rfl, (cell_of_row W7 _ 4 _ 29 (0, 0) HX7.out).trans rfl, (cell_of_row W7 _ 5 _ 29 (0, 0) HX7.out).trans rfl, (cell_of_row W7 _ 6 _ 29 (0, 0) HX7.out).trans rfl, (cell_of_row W7 _ 7 _ 29 (0, 0) HX7.out).trans rfl, (cell_of_row W7 _ 8 _ 29 (0, 0) HX7.out).trans rfl⟩ (fun hHeld => ?_)
  refine wpAnyH_take (i := 0) (oi := { dst := some 26, op := Op.load 29 (Operand.tmp 3), type := 29, pos := "law.go:55", after := #[], guard := none }) (v := .agg #[.int .i64 ix, .int .i64 nx, .slice a2 n2 c2, .slice a3 n3 c3, .slice a4 n4 c4, .slice a5 n5 c5, .slice a6 n6 c6, .slice a7 n7 c7, .slice a8 n8 c8]) rfl (by kernel_rfl) (by kernel_rfl) (by kernel_rfl) (fun _ _ _ h => h) (Or.inl ⟨by rfl, ?_⟩) hHeld ?_
  · (intro w hSw; (try dsimp only at hSw); go_simp)
  try simp only [Act.put, List.setIfInBounds_toArray, List.set_cons_zero, List.set_cons_succ]
  refine wpAnyH_take (i := 1) (oi := { dst := some 27, op := Op.load 29 (Operand.tmp 7), type := 29, pos := "law.go:55", after := #[], guard := none }) (v := .agg #[.int .i64 s6.ix, .int .i64 s6.nx, .slice s6.a2 s6.n2 s6.c2, .slice s6.a3 s6.n3 s6.c3, .slice s6.a4 s6.n4 s6.c4, .slice s6.a5 s6.n5 s6.c5, .slice s6.a6 s6.n6 s6.c6, .slice s6.a7 s6.n7 s6.c7, .slice s6.a8 s6.n8 s6.c8]) rfl (by kernel_rfl) (by kernel_rfl) (by kernel_rfl) (fun _ _ _ h => h) (Or.inl ⟨by rfl, ?_⟩) hHeld ?_
  · (intro w hSw; (try dsimp only at hSw); go_simp)
  try simp only [Act.put, List.setIfInBounds_toArray, List.set_cons_zero, List.set_cons_succ]
  refine wpAnyH_take (i := 3) (oi := { dst := some 29, op := Op.load 29 (Operand.tmp 3), type := 29, pos := "law.go:55", after := #[], guard := none }) (v := .agg #[.int .i64 ix, .int .i64 nx, .slice a2 n2 c2, .slice a3 n3 c3, .slice a4 n4 c4, .slice a5 n5 c5, .slice a6 n6 c6, .slice a7 n7 c7, .slice a8 n8 c8]) rfl (by kernel_rfl) (by kernel_rfl) (by kernel_rfl) (fun _ _ _ h => h) (Or.inl ⟨by rfl, ?_⟩) hHeld ?_
  · (intro w hSw; (try dsimp only at hSw); go_simp)
  try simp only [Act.put, List.setIfInBounds_toArray, List.set_cons_zero, List.set_cons_succ]
  refine wpAnyH_take (i := 4) (oi := { dst := some 30, op := Op.load 29 (Operand.tmp 7), type := 29, pos := "law.go:55", after := #[], guard := none }) (v := .agg #[.int .i64 s6.ix, .int .i64 s6.nx, .slice s6.a2 s6.n2 s6.c2, .slice s6.a3 s6.n3 s6.c3, .slice s6.a4 s6.n4 s6.c4, .slice s6.a5 s6.n5 s6.c5, .slice s6.a6 s6.n6 s6.c6, .slice s6.a7 s6.n7 s6.c7, .slice s6.a8 s6.n8 s6.c8]) rfl (by kernel_rfl) (by kernel_rfl) (by kernel_rfl) (fun _ _ _ h => h) (Or.inl ⟨by rfl, ?_⟩) hHeld ?_
  · (intro w hSw; (try dsimp only at hSw); go_simp)
  try simp only [Act.put, List.setIfInBounds_toArray, List.set_cons_zero, List.set_cons_succ]
  refine wpAnyH_ready (rs := [2]) (by kernel_rfl) (by simp) ?_
  refine AllReadyH.cons (o := { dst := some 28, op := Op.call { callee := Callee.value (Operand.func 29), args := #[Operand.tmp 26, Operand.tmp 27], argTypes := #[29, 29] }, type := 4, pos := "law.go:55", after := #[{ on := 0, ground := Ground.data }, { on := 1, ground := Ground.data }], guard := none }) rfl (fun K hK => ?_) AllReadyH.nil
  go_simp
  refine (same_any _ s6 J B J6 B6 X X6 d d6 (fun b => b < W7.heap.size) W7.drew (fun _ h => h) (HA.out W7.drew HB7.out) (HS7.out.kept (fun _ _ => rfl) (fun _ h => h))).mono ?_
  rintro e w8 ⟨rfl, hb0⟩
  have hb : Below W7.heap.size W7 w8 := (bdrew W7).trans hb0
  have Z8 := hidOf (Z7.out.grow hb)
  have HB8 := hidOf hb
  have hx8 : w8.heap[w6.heap.size]? = _ := (hb.block _ (heap_lt HX7.out)).trans HX7.out
  have HX8 := hidOf hx8
  clear hb hb0 hx8
  refine hK.out _ _ ⟨⟨Z8.out.s 0 _ rfl, Z8.out.s 1 _ rfl, Z8.out.s 2 _ rfl, Z8.out.s 3 _ rfl, Z8.out.s 4 _ rfl, Z8.out.s 5 _ rfl, Z8.out.s 6 _ rfl, Z8.out.s 7 _ rfl, Z8.out.s 8 _ rfl⟩, (cell_of_row w8 _ 0 _ 29 (0, 0) HX8.out).trans rfl, (cell_of_row w8 _ 1 _ 29 (0, 0) HX8.out).trans rfl, (cell_of_row w8 _ 2 _ 29 (0, 0) HX8.out).trans rfl, (cell_of_row w8 _ 3 _ 29 (0, 0) HX8.out).trans rfl, (cell_of_row w8 _ 4 _ 29 (0, 0) HX8.out).trans rfl, (cell_of_row w8 _ 5 _ 29 (0, 0) HX8.out).trans rfl, (cell_of_row w8 _ 6 _ 29 (0, 0) HX8.out).trans rfl, (cell_of_row w8 _ 7 _ 29 (0, 0) HX8.out).trans rfl, (cell_of_row w8 _ 8 _ 29 (0, 0) HX8.out).trans rfl⟩ (fun hHeld1 => ?_)
  clear hK K
  try simp only [Act.put, List.setIfInBounds_toArray, List.set_cons_zero, List.set_cons_succ]
  refine wpAnyH_ready (rs := [5]) (by kernel_rfl) (by simp) ?_
  refine AllReadyH.cons (o := { dst := some 31, op := Op.call { callee := Callee.value (Operand.func 30), args := #[Operand.tmp 29, Operand.tmp 30], argTypes := #[29, 29] }, type := 4, pos := "law.go:55", after := #[{ on := 3, ground := Ground.data }, { on := 4, ground := Ground.data }, { on := 2, ground := Ground.chain }], guard := none }) rfl (fun K hK => ?_) AllReadyH.nil
  go_simp
  refine (refSame_any _ s6 J B J6 B6 X X6 d d6 (fun b => b < w8.heap.size) w8 (fun _ h => h) (HA.out w8 Z8.out.b) (HS7.out.kept (fun b hb => HB8.out.block b hb) (fun b (h : b < W7.heap.size) => Nat.lt_of_lt_of_le h HB8.out.size))).mono ?_
  rintro e w9 ⟨rfl, hb⟩
  have Z9 := hidOf (Z8.out.grow hb)
  have hx9 : w9.heap[w6.heap.size]? = _ := (hb.block _ (heap_lt HX8.out)).trans HX8.out
  have HX9 := hidOf hx9
  clear hb hx9
  refine hK.out _ _ ⟨⟨Z9.out.s 0 _ rfl, Z9.out.s 1 _ rfl, Z9.out.s 2 _ rfl, Z9.out.s 3 _ rfl, Z9.out.s 4 _ rfl, Z9.out.s 5 _ rfl, Z9.out.s 6 _ rfl, Z9.out.s 7 _ rfl, Z9.out.s 8 _ rfl⟩, (cell_of_row w9 _ 0 _ 29 (0, 0) HX9.out).trans rfl, (cell_of_row w9 _ 1 _ 29 (0, 0) HX9.out).trans rfl, (cell_of_row w9 _ 2 _ 29 (0, 0) HX9.out).trans rfl, (cell_of_row w9 _ 3 _ 29 (0, 0) HX9.out).trans rfl, (cell_of_row w9 _ 4 _ 29 (0, 0) HX9.out).trans rfl, (cell_of_row w9 _ 5 _ 29 (0, 0) HX9.out).trans rfl, (cell_of_row w9 _ 6 _ 29 (0, 0) HX9.out).trans rfl, (cell_of_row w9 _ 7 _ 29 (0, 0) HX9.out).trans rfl, (cell_of_row w9 _ 8 _ 29 (0, 0) HX9.out).trans rfl⟩ (fun hHeld2 => ?_)
  clear hK K
  try simp only [Act.put, List.setIfInBounds_toArray, List.set_cons_zero, List.set_cons_succ]
  refine wpAnyH_take (i := 6) (oi := { dst := some 32, op := Op.binOp BinOp.neq 4 (Operand.tmp 28) (Operand.tmp 31) 4, type := 4, pos := "law.go:55", after := #[{ on := 2, ground := Ground.data }, { on := 5, ground := Ground.data }], guard := none }) (v := .bool false) rfl (by kernel_rfl) (by kernel_rfl) (by kernel_rfl) (fun _ _ _ h => h) (Or.inl ⟨by rfl, ?_⟩) hHeld2 ?_
  · (intro w hSw; clear hSw; go_simp)
  try simp only [Act.put, List.setIfInBounds_toArray, List.set_cons_zero, List.set_cons_succ]
  refine wpAnyH_done (by kernel_rfl) ?_ _
  go_wp2_with (go_at_call 22; refine (lives_any _).mono ?_; rintro e w10 ⟨rfl, hb⟩; have HB10 := hidOf (Z9.out.b.trans (hb.mono Z9.out.b.size)); clear hb)
  go_ret
  exact ⟨rfl, HB10.out⟩
theorem walkSame (s : Sc) (J B : List Js) (X : List Ss) (d : St) (s' : Sc) (J' B' : List Js) (X' : List Ss) (d' : St) (wh : Int) (w : World) (ha : StR w (fun b => b < w.heap.size) s J B X d) (_ha : d.allocs.length * 88 ≤ reachBytes) (hb : StR w (fun b => b < w.heap.size) s' J' B' X' d') (_hb : d'.allocs.length * 88 ≤ reachBytes) (hw : (Lit.int .i64 wh).wf = true) :
    Calls Try.prog 5 #[.agg #[.int .i64 s.ix, .int .i64 s.nx, .slice s.a2 s.n2 s.c2, .slice s.a3 s.n3 s.c3, .slice s.a4 s.n4 s.c4, .slice s.a5 s.n5 s.c5, .slice s.a6 s.n6 s.c6, .slice s.a7 s.n7 s.c7, .slice s.a8 s.n8 s.c8], .agg #[.int .i64 s'.ix, .int .i64 s'.nx, .slice s'.a2 s'.n2 s'.c2, .slice s'.a3 s'.n3 s'.c3, .slice s'.a4 s'.n4 s'.c4, .slice s'.a5 s'.n5 s'.c5, .slice s'.a6 s'.n6 s'.c6, .slice s'.a7 s'.n7 s'.c7, .slice s'.a8 s'.n8 s'.c8], .int .i64 wh] w fun e w' => e = .returned (.bool true) ∧ Below w.heap.size w w' :=
  lawSame s J B X d s' J' B' X' d' wh w ((Lit.wf_int_iff _ _).1 hw).1 ((Lit.wf_int_iff _ _).1 hw).2 ha hb
end Go.Proofs.Ytkokkdekbilkjaa
