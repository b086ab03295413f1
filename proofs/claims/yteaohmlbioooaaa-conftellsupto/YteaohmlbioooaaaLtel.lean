/- ConfTells, walked. -/
import Derived.Test.YteaohmlbioooaaaCput
import Derived.Test.YteaohmlbioooaaaCref4
import Derived.Test.YteaohmlbioooaaaCopn
import Derived.Deep.RegionHeld3
namespace Go.Proofs.Yteaohmlbioooaaa
open Go.RowKit

theorem same_self (V L : List Int) : sameB V L V L = true := by simp [sameB]
theorem Db.drew {w z : World} {av al bv bl : Option Addr} {V L V' L' : List Int} {cv cl dv dl : Nat} (h : Db w z av al bv bl V L V' L' cv cl dv dl) : Db w z.drew av al bv bl V L V' L' cv cl dv dl := h.grow ⟨rfl, rfl, rfl, Nat.le_refl _, fun _ _ => rfl⟩
set_option maxHeartbeats 8000000 in
theorem lawTells (w : World) (av al : Option Addr) (V L : List Int) (cv cl : Nat) (hV : Ints w av V) (hL : Ints w al L) (bV : V.length ≤ 1048576) (bL : L.length ≤ 1048576) (_kV : V.length ≤ cv) (_kL : L.length ≤ cl) (_wV : Wf V) (_wL : Wf L)
    (bv bl : Option Addr) (V' L' : List Int) (dv dl : Nat) (hV' : Ints w bv V') (hL' : Ints w bl L') (_bV' : V'.length ≤ 1048576) (_bL' : L'.length ≤ 1048576) (_kV' : V'.length ≤ dv) (_kL' : L'.length ≤ dl) (_wV' : Wf V') (_wL' : Wf L') (s : Int) (_hs : (Lit.int .i64 s).wf = true) : Calls Try.prog 3 #[.agg #[.slice av V.length cv, .slice al L.length cl], .agg #[.slice bv V'.length dv, .slice bl L'.length dl], .int .i64 s] w fun e w' => e = .returned (.bool true) ∧ Below w.heap.size w w' := by
  have H0 := hidOf (Db.begin cv cl dv dl ⟨hV, hL⟩ ⟨hV', hL'⟩)
  have Z0 := hidOf H0.out.drew
  have HLN : Hid (V.length + L.length ≤ 17592186044416) := hidOf (by omega)
  have hM1 := fun z h => may_any z av al V L cv cl h
  have hM2 := fun z h => rmay_any z av al V L cv cl h
  have hE1 := fun z h h' => csame_any z av al V L cv cl bv bl V' L' dv dl h h'
  have hE2 := fun z h h' => rsame_any z av al V L cv cl bv bl V' L' dv dl h h'
  have hV1 := fun z h => voter_any z av al V L cv cl s h
  have hV2 := fun z h => in_any z av V cv s h
  generalize mayB V L = b1 at hM1 hM2
  generalize sameB V L V' L' = b2 at hE1 hE2
  generalize V.contains s = b3 at hV1 hV2
  have HM1 := hidOf hM1
  have HM2 := hidOf hM2
  have HE1 := hidOf hE1
  have HE2 := hidOf hE2
  have HV1 := hidOf hV1
  have HV2 := hidOf hV2
  clear hM1 hM2 hE1 hE2 hV1 hV2 hV hL hV' hL'
  have c0 := H0.out.cs.bx.c0
  have c1 := H0.out.cs.bx.c1
  go_enter Try.func3, Try.ntmps3
  go_wp2_with (fail)
  refine wp_region_held_drew (S := fun wz => wz.cell? ⟨w.heap.size, 0, none⟩ = some (.slice av V.length cv) ∧ wz.cell? ⟨w.heap.size, 1, none⟩ = some (.slice al L.length cl)) (by kernel_rfl) ⟨c0, c1⟩ (fun hHeld => ?_)
  refine wpAnyH_take (i := 0) (oi := { dst := some 8, op := Op.load 24 (Operand.tmp 3), type := 24, pos := "law.go:32", after := #[], guard := none }) (v := .agg #[.slice av V.length cv, .slice al L.length cl]) rfl (by kernel_rfl) (by kernel_rfl) (by kernel_rfl) (fun _ _ _ h => h) (Or.inl ⟨by rfl, ?_⟩) hHeld ?_
  · (intro w hSw; (try dsimp only at hSw); go_simp)
  try simp only [Act.put, List.setIfInBounds_toArray, List.set_cons_zero, List.set_cons_succ]
  refine wpAnyH_take (i := 2) (oi := { dst := some 10, op := Op.load 24 (Operand.tmp 3), type := 24, pos := "law.go:32", after := #[], guard := none }) (v := .agg #[.slice av V.length cv, .slice al L.length cl]) rfl (by kernel_rfl) (by kernel_rfl) (by kernel_rfl) (fun _ _ _ h => h) (Or.inl ⟨by rfl, ?_⟩) hHeld ?_
  · (intro w hSw; (try dsimp only at hSw); go_simp)
  try simp only [Act.put, List.setIfInBounds_toArray, List.set_cons_zero, List.set_cons_succ]
  refine wpAnyH_ready (rs := [1]) (by kernel_rfl) (by simp) ?_
  refine AllReadyH.cons (o := { dst := some 9, op := Op.call { callee := Callee.value (Operand.func 10), args := #[Operand.tmp 8], argTypes := #[24] }, type := 22, pos := "law.go:32", after := #[{ on := 0, ground := Ground.data }], guard := none }) rfl (fun K hK => ?_) AllReadyH.nil
  go_simp
  refine (members_any _ av al V L cv cl Z0.out.cs.cf HLN.out).mono ?_
  rintro e z1 ⟨m1, k1, rfl, hi1, hb⟩
  have Z1 := hidOf (Z0.out.grow hb)
  have HI1 := hidOf hi1
  clear hb hi1
  refine hK.out _ _ ⟨Z1.out.cs.bx.c0, Z1.out.cs.bx.c1⟩ (fun hHeld1 => ?_)
  clear hK K
  try simp only [Act.put, List.setIfInBounds_toArray, List.set_cons_zero, List.set_cons_succ]
  refine wpAnyH_ready (rs := [3]) (by kernel_rfl) (by simp) ?_
  refine AllReadyH.cons (o := { dst := some 11, op := Op.call { callee := Callee.value (Operand.func 11), args := #[Operand.tmp 10], argTypes := #[24] }, type := 22, pos := "law.go:32", after := #[{ on := 2, ground := Ground.data }, { on := 1, ground := Ground.chain }], guard := none }) rfl (fun K hK => ?_) AllReadyH.nil
  go_simp
  refine (rmembers_any _ av al V L cv cl Z1.out.cs.cf HLN.out).mono ?_
  rintro e z2 ⟨m2, k2, rfl, hi2, hb⟩
  have Z2 := hidOf (Z1.out.grow hb)
  have HI2 := hidOf hi2
  have HI12 := hidOf (HI1.out.grow hb)
  clear hb hi2
  refine hK.out _ _ ⟨Z2.out.cs.bx.c0, Z2.out.cs.bx.c1⟩ (fun hHeld2 => ?_)
  clear hK K
  try simp only [Act.put, List.setIfInBounds_toArray, List.set_cons_zero, List.set_cons_succ]
  refine wpAnyH_ready (rs := [4]) (by kernel_rfl) (by simp) ?_
  refine AllReadyH.cons (o := { dst := some 12, op := Op.call { callee := Callee.value (Operand.func 9), args := #[Operand.tmp 9, Operand.tmp 11], argTypes := #[22, 22] }, type := 4, pos := "law.go:32", after := #[{ on := 1, ground := Ground.data }, { on := 3, ground := Ground.data }, { on := 3, ground := Ground.chain }], guard := none }) rfl (fun K hK => ?_) AllReadyH.nil
  go_simp
  have hnu := numbers_any z2 m1 m2 (mem V L) (mem V L) k1 k2 HI12.out HI2.out
  rw [show ((mem V L) == (mem V L)) = true from by simp] at hnu
  refine hnu.mono ?_
  clear hnu
  rintro e z3 ⟨rfl, hb⟩
  have Z3 := hidOf (Z2.out.grow hb)
  clear hb
  refine hK.out _ _ ⟨Z3.out.cs.bx.c0, Z3.out.cs.bx.c1⟩ (fun hHeld3 => ?_)
  clear hK K
  try simp only [Act.put, List.setIfInBounds_toArray, List.set_cons_zero, List.set_cons_succ]
  refine wpAnyH_take (i := 5) (oi := { dst := some 7, op := Op.assign (Operand.tmp 12), type := 4, pos := "law.go:32", after := #[{ on := 4, ground := Ground.data }, { on := 4, ground := Ground.chain }, { on := 0, ground := Ground.phase }, { on := 1, ground := Ground.phase }, { on := 2, ground := Ground.phase }, { on := 3, ground := Ground.phase }, { on := 4, ground := Ground.phase }], guard := none }) (v := .bool true) rfl (by kernel_rfl) (by kernel_rfl) (by kernel_rfl) (fun _ _ _ h => h) (Or.inl ⟨by rfl, ?_⟩) hHeld3 ?_
  · (intro w hSw; (try dsimp only at hSw); go_simp)
  try simp only [Act.put, List.setIfInBounds_toArray, List.set_cons_zero, List.set_cons_succ]
  refine wpAnyH_done (by kernel_rfl) ?_ _
  go_wp2_with (fail)
  clear c0 c1
  have Y0 := hidOf Z3.out.drew
  have c0 := Z3.out.cs.bx.c0
  have c1 := Z3.out.cs.bx.c1
  have d0 : z3.cell? ⟨w.heap.size + 1, 0, none⟩ = _ := Z3.out.ds.bx.c0
  have d1 : z3.cell? ⟨w.heap.size + 1, 1, none⟩ = _ := Z3.out.ds.bx.c1
  refine wp_region_held_drew (S := fun wz => (wz.cell? ⟨w.heap.size, 0, none⟩ = some (.slice av V.length cv) ∧ wz.cell? ⟨w.heap.size, 1, none⟩ = some (.slice al L.length cl)) ∧ (wz.cell? ⟨w.heap.size + 1, 0, none⟩ = some (.slice bv V'.length dv) ∧ wz.cell? ⟨w.heap.size + 1, 1, none⟩ = some (.slice bl L'.length dl))) (by kernel_rfl) ⟨⟨c0, c1⟩, d0, d1⟩ (fun hHeld => ?_)
  refine wpAnyH_take (i := 0) (oi := { dst := some 13, op := Op.move (Operand.tmp 7), type := 4, pos := "law.go:33", after := #[], guard := none }) (v := .bool true) rfl (by kernel_rfl) (by kernel_rfl) (by kernel_rfl) (fun _ _ _ h => h) (Or.inl ⟨by rfl, ?_⟩) hHeld ?_
  · (intro w hSw; (try dsimp only at hSw); go_simp)
  try simp only [Act.put, List.setIfInBounds_toArray, List.set_cons_zero, List.set_cons_succ]
  refine wpAnyH_take (i := 1) (oi := { dst := some 14, op := Op.move (Operand.tmp 13), type := 4, pos := "law.go:33", after := #[{ on := 0, ground := Ground.data }], guard := none }) (v := .bool true) rfl (by kernel_rfl) (by kernel_rfl) (by kernel_rfl) (fun _ _ _ h => h) (Or.inl ⟨by rfl, ?_⟩) hHeld ?_
  · (intro w hSw; (try dsimp only at hSw); go_simp)
  try simp only [Act.put, List.setIfInBounds_toArray, List.set_cons_zero, List.set_cons_succ]
  refine wpAnyH_take (i := 2) (oi := { dst := some 15, op := Op.load 24 (Operand.tmp 3), type := 24, pos := "law.go:33", after := #[{ on := 1, ground := Ground.guard }], guard := some (1, true) }) (v := .agg #[.slice av V.length cv, .slice al L.length cl]) rfl (by kernel_rfl) (by kernel_rfl) (by kernel_rfl) (fun _ _ _ h => h) (Or.inl ⟨by rfl, ?_⟩) hHeld ?_
  · (intro w hSw; (try dsimp only at hSw); go_simp)
  try simp only [Act.put, List.setIfInBounds_toArray, List.set_cons_zero, List.set_cons_succ]
  refine wpAnyH_take (i := 4) (oi := { dst := some 17, op := Op.load 24 (Operand.tmp 3), type := 24, pos := "law.go:33", after := #[{ on := 1, ground := Ground.guard }], guard := some (1, true) }) (v := .agg #[.slice av V.length cv, .slice al L.length cl]) rfl (by kernel_rfl) (by kernel_rfl) (by kernel_rfl) (fun _ _ _ h => h) (Or.inl ⟨by rfl, ?_⟩) hHeld ?_
  · (intro w hSw; (try dsimp only at hSw); go_simp)
  try simp only [Act.put, List.setIfInBounds_toArray, List.set_cons_zero, List.set_cons_succ]
  refine wpAnyH_ready (rs := [3]) (by kernel_rfl) (by simp) ?_
  refine AllReadyH.cons (o := { dst := some 16, op := Op.call { callee := Callee.value (Operand.func 12), args := #[Operand.tmp 15], argTypes := #[24] }, type := 4, pos := "law.go:33", after := #[{ on := 2, ground := Ground.data }, { on := 1, ground := Ground.chain }, { on := 1, ground := Ground.guard }], guard := some (1, true) }) rfl (fun K hK => ?_) AllReadyH.nil
  go_simp
  refine (HM1.out _ Y0.out.cs.cf).mono ?_
  rintro e y1 ⟨rfl, hb⟩
  have Y1 := hidOf (Y0.out.grow hb)
  clear hb
  refine hK.out _ _ ⟨⟨Y1.out.cs.bx.c0, Y1.out.cs.bx.c1⟩, Y1.out.ds.bx.c0, Y1.out.ds.bx.c1⟩ (fun hHeld1 => ?_)
  clear hK K
  try simp only [Act.put, List.setIfInBounds_toArray, List.set_cons_zero, List.set_cons_succ]
  refine wpAnyH_ready (rs := [5]) (by kernel_rfl) (by simp) ?_
  refine AllReadyH.cons (o := { dst := some 18, op := Op.call { callee := Callee.value (Operand.func 13), args := #[Operand.tmp 17], argTypes := #[24] }, type := 4, pos := "law.go:33", after := #[{ on := 4, ground := Ground.data }, { on := 3, ground := Ground.chain }, { on := 1, ground := Ground.guard }], guard := some (1, true) }) rfl (fun K hK => ?_) AllReadyH.nil
  go_simp
  refine (HM2.out _ Y1.out.cs.cf).mono ?_
  rintro e y2 ⟨rfl, hb⟩
  have Y2 := hidOf (Y1.out.grow hb)
  clear hb
  refine hK.out _ _ ⟨⟨Y2.out.cs.bx.c0, Y2.out.cs.bx.c1⟩, Y2.out.ds.bx.c0, Y2.out.ds.bx.c1⟩ (fun hHeld2 => ?_)
  clear hK K
  try simp only [Act.put, List.setIfInBounds_toArray, List.set_cons_zero, List.set_cons_succ]
  refine wpAnyH_take (i := 6) (oi := { dst := some 19, op := Op.binOp BinOp.eql 4 (Operand.tmp 16) (Operand.tmp 18) 4, type := 4, pos := "law.go:33", after := #[{ on := 3, ground := Ground.data }, { on := 5, ground := Ground.data }, { on := 1, ground := Ground.guard }], guard := some (1, true) }) (v := .bool true) rfl (by kernel_rfl) (by kernel_rfl) (by kernel_rfl) (fun _ _ _ h => h) (Or.inl ⟨by rfl, ?_⟩) hHeld2 ?_
  · (intro w hSw; (try dsimp only at hSw); go_simp)
  try simp only [Act.put, List.setIfInBounds_toArray, List.set_cons_zero, List.set_cons_succ]
  refine wpAnyH_take (i := 7) (oi := { dst := some 20, op := Op.pick (Operand.tmp 14) (Operand.tmp 19) (Operand.const (Value.bool false)), type := 4, pos := "law.go:33", after := #[{ on := 1, ground := Ground.data }, { on := 6, ground := Ground.data }], guard := none }) (v := .bool true) rfl (by kernel_rfl) (by kernel_rfl) (by kernel_rfl) (fun _ _ _ h => h) (Or.inl ⟨by rfl, ?_⟩) hHeld2 ?_
  · (intro w hSw; (try dsimp only at hSw); go_simp)
  try simp only [Act.put, List.setIfInBounds_toArray, List.set_cons_zero, List.set_cons_succ]
  refine wpAnyH_take (i := 8) (oi := { dst := some 21, op := Op.move (Operand.tmp 20), type := 4, pos := "law.go:33", after := #[{ on := 7, ground := Ground.data }, { on := 5, ground := Ground.chain }], guard := none }) (v := .bool true) rfl (by kernel_rfl) (by kernel_rfl) (by kernel_rfl) (fun _ _ _ h => h) (Or.inl ⟨by rfl, ?_⟩) hHeld2 ?_
  · (intro w hSw; (try dsimp only at hSw); go_simp)
  try simp only [Act.put, List.setIfInBounds_toArray, List.set_cons_zero, List.set_cons_succ]
  refine wpAnyH_take (i := 9) (oi := { dst := some 22, op := Op.load 24 (Operand.tmp 3), type := 24, pos := "law.go:33", after := #[{ on := 8, ground := Ground.guard }], guard := some (8, true) }) (v := .agg #[.slice av V.length cv, .slice al L.length cl]) rfl (by kernel_rfl) (by kernel_rfl) (by kernel_rfl) (fun _ _ _ h => h) (Or.inl ⟨by rfl, ?_⟩) hHeld2 ?_
  · (intro w hSw; (try dsimp only at hSw); go_simp)
  try simp only [Act.put, List.setIfInBounds_toArray, List.set_cons_zero, List.set_cons_succ]
  refine wpAnyH_take (i := 10) (oi := { dst := some 23, op := Op.load 24 (Operand.tmp 4), type := 24, pos := "law.go:33", after := #[{ on := 8, ground := Ground.guard }], guard := some (8, true) }) (v := .agg #[.slice bv V'.length dv, .slice bl L'.length dl]) rfl (by kernel_rfl) (by kernel_rfl) (by kernel_rfl) (fun _ _ _ h => h) (Or.inl ⟨by rfl, ?_⟩) hHeld2 ?_
  · (intro w hSw; (try dsimp only at hSw); go_simp)
  try simp only [Act.put, List.setIfInBounds_toArray, List.set_cons_zero, List.set_cons_succ]
  refine wpAnyH_take (i := 12) (oi := { dst := some 25, op := Op.load 24 (Operand.tmp 3), type := 24, pos := "law.go:33", after := #[{ on := 8, ground := Ground.guard }], guard := some (8, true) }) (v := .agg #[.slice av V.length cv, .slice al L.length cl]) rfl (by kernel_rfl) (by kernel_rfl) (by kernel_rfl) (fun _ _ _ h => h) (Or.inl ⟨by rfl, ?_⟩) hHeld2 ?_
  · (intro w hSw; (try dsimp only at hSw); go_simp)
  try simp only [Act.put, List.setIfInBounds_toArray, List.set_cons_zero, List.set_cons_succ]
  refine wpAnyH_take (i := 13) (oi := { dst := some 26, op := Op.load 24 (Operand.tmp 4), type := 24, pos := "law.go:33", after := #[{ on := 8, ground := Ground.guard }], guard := some (8, true) }) (v := .agg #[.slice bv V'.length dv, .slice bl L'.length dl]) rfl (by kernel_rfl) (by kernel_rfl) (by kernel_rfl) (fun _ _ _ h => h) (Or.inl ⟨by rfl, ?_⟩) hHeld2 ?_
  · (intro w hSw; (try dsimp only at hSw); go_simp)
  try simp only [Act.put, List.setIfInBounds_toArray, List.set_cons_zero, List.set_cons_succ]
  refine wpAnyH_ready (rs := [11]) (by kernel_rfl) (by simp) ?_
  refine AllReadyH.cons (o := { dst := some 24, op := Op.call { callee := Callee.value (Operand.func 14), args := #[Operand.tmp 22, Operand.tmp 23], argTypes := #[24, 24] }, type := 4, pos := "law.go:33", after := #[{ on := 9, ground := Ground.data }, { on := 10, ground := Ground.data }, { on := 8, ground := Ground.chain }, { on := 8, ground := Ground.guard }], guard := some (8, true) }) rfl (fun K hK => ?_) AllReadyH.nil
  go_simp
  refine (HE1.out _ Y2.out.cs.cf Y2.out.ds.cf).mono ?_
  rintro e y3 ⟨rfl, hb⟩
  have Y3 := hidOf (Y2.out.grow hb)
  clear hb
  refine hK.out _ _ ⟨⟨Y3.out.cs.bx.c0, Y3.out.cs.bx.c1⟩, Y3.out.ds.bx.c0, Y3.out.ds.bx.c1⟩ (fun hHeld3 => ?_)
  clear hK K
  try simp only [Act.put, List.setIfInBounds_toArray, List.set_cons_zero, List.set_cons_succ]
  refine wpAnyH_ready (rs := [14]) (by kernel_rfl) (by simp) ?_
  refine AllReadyH.cons (o := { dst := some 27, op := Op.call { callee := Callee.value (Operand.func 15), args := #[Operand.tmp 25, Operand.tmp 26], argTypes := #[24, 24] }, type := 4, pos := "law.go:33", after := #[{ on := 12, ground := Ground.data }, { on := 13, ground := Ground.data }, { on := 11, ground := Ground.chain }, { on := 8, ground := Ground.guard }], guard := some (8, true) }) rfl (fun K hK => ?_) AllReadyH.nil
  go_simp
  refine (HE2.out _ Y3.out.cs.cf Y3.out.ds.cf).mono ?_
  rintro e y4 ⟨rfl, hb⟩
  have Y4 := hidOf (Y3.out.grow hb)
  clear hb
  refine hK.out _ _ ⟨⟨Y4.out.cs.bx.c0, Y4.out.cs.bx.c1⟩, Y4.out.ds.bx.c0, Y4.out.ds.bx.c1⟩ (fun hHeld4 => ?_)
  clear hK K
  try simp only [Act.put, List.setIfInBounds_toArray, List.set_cons_zero, List.set_cons_succ]
  refine wpAnyH_take (i := 15) (oi := { dst := some 28, op := Op.binOp BinOp.eql 4 (Operand.tmp 24) (Operand.tmp 27) 4, type := 4, pos := "law.go:33", after := #[{ on := 11, ground := Ground.data }, { on := 14, ground := Ground.data }, { on := 8, ground := Ground.guard }], guard := some (8, true) }) (v := .bool true) rfl (by kernel_rfl) (by kernel_rfl) (by kernel_rfl) (fun _ _ _ h => h) (Or.inl ⟨by rfl, ?_⟩) hHeld4 ?_
  · (intro w hSw; (try dsimp only at hSw); go_simp)
  try simp only [Act.put, List.setIfInBounds_toArray, List.set_cons_zero, List.set_cons_succ]
  refine wpAnyH_take (i := 16) (oi := { dst := some 29, op := Op.pick (Operand.tmp 21) (Operand.tmp 28) (Operand.const (Value.bool false)), type := 4, pos := "law.go:33", after := #[{ on := 8, ground := Ground.data }, { on := 15, ground := Ground.data }], guard := none }) (v := .bool true) rfl (by kernel_rfl) (by kernel_rfl) (by kernel_rfl) (fun _ _ _ h => h) (Or.inl ⟨by rfl, ?_⟩) hHeld4 ?_
  · (intro w hSw; (try dsimp only at hSw); go_simp)
  try simp only [Act.put, List.setIfInBounds_toArray, List.set_cons_zero, List.set_cons_succ]
  refine wpAnyH_take (i := 17) (oi := { dst := some 30, op := Op.move (Operand.tmp 29), type := 4, pos := "law.go:33", after := #[{ on := 16, ground := Ground.data }, { on := 14, ground := Ground.chain }], guard := none }) (v := .bool true) rfl (by kernel_rfl) (by kernel_rfl) (by kernel_rfl) (fun _ _ _ h => h) (Or.inl ⟨by rfl, ?_⟩) hHeld4 ?_
  · (intro w hSw; (try dsimp only at hSw); go_simp)
  try simp only [Act.put, List.setIfInBounds_toArray, List.set_cons_zero, List.set_cons_succ]
  refine wpAnyH_take (i := 18) (oi := { dst := some 31, op := Op.load 24 (Operand.tmp 3), type := 24, pos := "law.go:33", after := #[{ on := 17, ground := Ground.guard }], guard := some (17, true) }) (v := .agg #[.slice av V.length cv, .slice al L.length cl]) rfl (by kernel_rfl) (by kernel_rfl) (by kernel_rfl) (fun _ _ _ h => h) (Or.inl ⟨by rfl, ?_⟩) hHeld4 ?_
  · (intro w hSw; (try dsimp only at hSw); go_simp)
  try simp only [Act.put, List.setIfInBounds_toArray, List.set_cons_zero, List.set_cons_succ]
  refine wpAnyH_take (i := 19) (oi := { dst := some 32, op := Op.load 24 (Operand.tmp 3), type := 24, pos := "law.go:33", after := #[{ on := 17, ground := Ground.guard }], guard := some (17, true) }) (v := .agg #[.slice av V.length cv, .slice al L.length cl]) rfl (by kernel_rfl) (by kernel_rfl) (by kernel_rfl) (fun _ _ _ h => h) (Or.inl ⟨by rfl, ?_⟩) hHeld4 ?_
  · (intro w hSw; (try dsimp only at hSw); go_simp)
  try simp only [Act.put, List.setIfInBounds_toArray, List.set_cons_zero, List.set_cons_succ]
  refine wpAnyH_ready (rs := [20]) (by kernel_rfl) (by simp) ?_
  refine AllReadyH.cons (o := { dst := some 33, op := Op.call { callee := Callee.value (Operand.func 14), args := #[Operand.tmp 31, Operand.tmp 32], argTypes := #[24, 24] }, type := 4, pos := "law.go:33", after := #[{ on := 18, ground := Ground.data }, { on := 19, ground := Ground.data }, { on := 17, ground := Ground.chain }, { on := 17, ground := Ground.guard }], guard := some (17, true) }) rfl (fun K hK => ?_) AllReadyH.nil
  go_simp
  have hsa := csame_any _ av al V L cv cl av al V L cv cl Y4.out.cs.cf Y4.out.cs.cf
  rw [same_self] at hsa
  refine hsa.mono ?_
  clear hsa
  rintro e y5 ⟨rfl, hb⟩
  have Y5 := hidOf (Y4.out.grow hb)
  clear hb
  refine hK.out _ _ ⟨⟨Y5.out.cs.bx.c0, Y5.out.cs.bx.c1⟩, Y5.out.ds.bx.c0, Y5.out.ds.bx.c1⟩ (fun hHeld5 => ?_)
  clear hK K
  try simp only [Act.put, List.setIfInBounds_toArray, List.set_cons_zero, List.set_cons_succ]
  refine wpAnyH_take (i := 21) (oi := { dst := some 34, op := Op.pick (Operand.tmp 30) (Operand.tmp 33) (Operand.const (Value.bool false)), type := 4, pos := "law.go:33", after := #[{ on := 17, ground := Ground.data }, { on := 20, ground := Ground.data }], guard := none }) (v := .bool true) rfl (by kernel_rfl) (by kernel_rfl) (by kernel_rfl) (fun _ _ _ h => h) (Or.inl ⟨by rfl, ?_⟩) hHeld5 ?_
  · (intro w hSw; (try dsimp only at hSw); go_simp)
  try simp only [Act.put, List.setIfInBounds_toArray, List.set_cons_zero, List.set_cons_succ]
  refine wpAnyH_take (i := 22) (oi := { dst := some 35, op := Op.move (Operand.tmp 34), type := 4, pos := "law.go:33", after := #[{ on := 21, ground := Ground.data }, { on := 20, ground := Ground.chain }], guard := none }) (v := .bool true) rfl (by kernel_rfl) (by kernel_rfl) (by kernel_rfl) (fun _ _ _ h => h) (Or.inl ⟨by rfl, ?_⟩) hHeld5 ?_
  · (intro w hSw; (try dsimp only at hSw); go_simp)
  try simp only [Act.put, List.setIfInBounds_toArray, List.set_cons_zero, List.set_cons_succ]
  refine wpAnyH_take (i := 23) (oi := { dst := some 36, op := Op.load 24 (Operand.tmp 3), type := 24, pos := "law.go:33", after := #[{ on := 22, ground := Ground.guard }], guard := some (22, true) }) (v := .agg #[.slice av V.length cv, .slice al L.length cl]) rfl (by kernel_rfl) (by kernel_rfl) (by kernel_rfl) (fun _ _ _ h => h) (Or.inl ⟨by rfl, ?_⟩) hHeld5 ?_
  · (intro w hSw; (try dsimp only at hSw); go_simp)
  try simp only [Act.put, List.setIfInBounds_toArray, List.set_cons_zero, List.set_cons_succ]
  refine wpAnyH_take (i := 24) (oi := { dst := some 37, op := Op.move (Operand.tmp 2), type := 3, pos := "law.go:33", after := #[{ on := 22, ground := Ground.guard }], guard := some (22, true) }) (v := .int .i64 s) rfl (by kernel_rfl) (by kernel_rfl) (by kernel_rfl) (fun _ _ _ h => h) (Or.inl ⟨by rfl, ?_⟩) hHeld5 ?_
  · (intro w hSw; (try dsimp only at hSw); go_simp)
  try simp only [Act.put, List.setIfInBounds_toArray, List.set_cons_zero, List.set_cons_succ]
  refine wpAnyH_take (i := 26) (oi := { dst := some 39, op := Op.fieldAddr 24 (Operand.tmp 3) 0, type := 0, pos := "law.go:33", after := #[{ on := 22, ground := Ground.guard }], guard := some (22, true) }) (v := .pointer (some ⟨w.heap.size, 0, none⟩)) rfl (by kernel_rfl) (by kernel_rfl) (by kernel_rfl) (fun _ _ _ h => h) (Or.inl ⟨by rfl, ?_⟩) hHeld5 ?_
  · (intro w hSw; (try dsimp only at hSw); go_simp)
  try simp only [Act.put, List.setIfInBounds_toArray, List.set_cons_zero, List.set_cons_succ]
  refine wpAnyH_take (i := 27) (oi := { dst := some 40, op := Op.load 22 (Operand.tmp 39), type := 22, pos := "law.go:33", after := #[{ on := 26, ground := Ground.data }, { on := 22, ground := Ground.guard }], guard := some (22, true) }) (v := .slice av V.length cv) rfl (by kernel_rfl) (by kernel_rfl) (by kernel_rfl) (fun _ _ _ h => h) (Or.inl ⟨by rfl, ?_⟩) hHeld5 ?_
  · (intro w hSw; (try dsimp only at hSw); go_simp)
  try simp only [Act.put, List.setIfInBounds_toArray, List.set_cons_zero, List.set_cons_succ]
  refine wpAnyH_take (i := 28) (oi := { dst := some 41, op := Op.move (Operand.tmp 2), type := 3, pos := "law.go:33", after := #[{ on := 22, ground := Ground.guard }], guard := some (22, true) }) (v := .int .i64 s) rfl (by kernel_rfl) (by kernel_rfl) (by kernel_rfl) (fun _ _ _ h => h) (Or.inl ⟨by rfl, ?_⟩) hHeld5 ?_
  · (intro w hSw; (try dsimp only at hSw); go_simp)
  try simp only [Act.put, List.setIfInBounds_toArray, List.set_cons_zero, List.set_cons_succ]
  refine wpAnyH_ready (rs := [25]) (by kernel_rfl) (by simp) ?_
  refine AllReadyH.cons (o := { dst := some 38, op := Op.call { callee := Callee.value (Operand.func 16), args := #[Operand.tmp 36, Operand.tmp 37], argTypes := #[24, 3] }, type := 4, pos := "law.go:33", after := #[{ on := 23, ground := Ground.data }, { on := 24, ground := Ground.data }, { on := 22, ground := Ground.chain }, { on := 22, ground := Ground.guard }], guard := some (22, true) }) rfl (fun K hK => ?_) AllReadyH.nil
  go_simp
  refine (HV1.out _ Y5.out.cs.cf.v).mono ?_
  rintro e y6 ⟨rfl, hb⟩
  have Y6 := hidOf (Y5.out.grow hb)
  clear hb
  refine hK.out _ _ ⟨⟨Y6.out.cs.bx.c0, Y6.out.cs.bx.c1⟩, Y6.out.ds.bx.c0, Y6.out.ds.bx.c1⟩ (fun hHeld6 => ?_)
  clear hK K
  try simp only [Act.put, List.setIfInBounds_toArray, List.set_cons_zero, List.set_cons_succ]
  refine wpAnyH_ready (rs := [29]) (by kernel_rfl) (by simp) ?_
  refine AllReadyH.cons (o := { dst := some 42, op := Op.call { callee := Callee.value (Operand.func 17), args := #[Operand.tmp 40, Operand.tmp 41], argTypes := #[22, 3] }, type := 4, pos := "law.go:33", after := #[{ on := 27, ground := Ground.data }, { on := 28, ground := Ground.data }, { on := 25, ground := Ground.chain }, { on := 22, ground := Ground.guard }], guard := some (22, true) }) rfl (fun K hK => ?_) AllReadyH.nil
  go_simp
  refine (HV2.out _ Y6.out.cs.cf.v).mono ?_
  rintro e y7 ⟨rfl, hw⟩
  subst y7
  refine hK.out _ _ ⟨⟨Y6.out.cs.bx.c0, Y6.out.cs.bx.c1⟩, Y6.out.ds.bx.c0, Y6.out.ds.bx.c1⟩ (fun hHeld7 => ?_)
  clear hK K
  try simp only [Act.put, List.setIfInBounds_toArray, List.set_cons_zero, List.set_cons_succ]
  refine wpAnyH_take (i := 30) (oi := { dst := some 43, op := Op.binOp BinOp.eql 4 (Operand.tmp 38) (Operand.tmp 42) 4, type := 4, pos := "law.go:33", after := #[{ on := 25, ground := Ground.data }, { on := 29, ground := Ground.data }, { on := 22, ground := Ground.guard }], guard := some (22, true) }) (v := .bool true) rfl (by kernel_rfl) (by kernel_rfl) (by kernel_rfl) (fun _ _ _ h => h) (Or.inl ⟨by rfl, ?_⟩) hHeld7 ?_
  · (intro w hSw; (try dsimp only at hSw); go_simp)
  try simp only [Act.put, List.setIfInBounds_toArray, List.set_cons_zero, List.set_cons_succ]
  refine wpAnyH_take (i := 31) (oi := { dst := some 44, op := Op.pick (Operand.tmp 35) (Operand.tmp 43) (Operand.const (Value.bool false)), type := 4, pos := "law.go:33", after := #[{ on := 22, ground := Ground.data }, { on := 30, ground := Ground.data }], guard := none }) (v := .bool true) rfl (by kernel_rfl) (by kernel_rfl) (by kernel_rfl) (fun _ _ _ h => h) (Or.inl ⟨by rfl, ?_⟩) hHeld7 ?_
  · (intro w hSw; (try dsimp only at hSw); go_simp)
  try simp only [Act.put, List.setIfInBounds_toArray, List.set_cons_zero, List.set_cons_succ]
  refine wpAnyH_take (i := 32) (oi := { dst := some 45, op := Op.move (Operand.tmp 44), type := 4, pos := "law.go:33", after := #[{ on := 31, ground := Ground.data }, { on := 29, ground := Ground.chain }], guard := none }) (v := .bool true) rfl (by kernel_rfl) (by kernel_rfl) (by kernel_rfl) (fun _ _ _ h => h) (Or.inl ⟨by rfl, ?_⟩) hHeld7 ?_
  · (intro w hSw; (try dsimp only at hSw); go_simp)
  try simp only [Act.put, List.setIfInBounds_toArray, List.set_cons_zero, List.set_cons_succ]
  refine wpAnyH_ready (rs := [33]) (by kernel_rfl) (by simp) ?_
  refine AllReadyH.cons (o := { dst := some 46, op := Op.call { callee := Callee.value (Operand.func 18), args := #[], argTypes := #[] }, type := 4, pos := "law.go:33", after := #[{ on := 32, ground := Ground.chain }, { on := 32, ground := Ground.guard }], guard := some (32, true) }) rfl (fun K hK => ?_) AllReadyH.nil
  go_simp
  refine (lives_any _).mono ?_
  rintro e y8 ⟨rfl, hb⟩
  have Y8 := hidOf (Y6.out.grow hb)
  clear hb
  refine hK.out _ _ ⟨⟨Y8.out.cs.bx.c0, Y8.out.cs.bx.c1⟩, Y8.out.ds.bx.c0, Y8.out.ds.bx.c1⟩ (fun hHeld8 => ?_)
  clear hK K
  try simp only [Act.put, List.setIfInBounds_toArray, List.set_cons_zero, List.set_cons_succ]
  refine wpAnyH_take (i := 34) (oi := { dst := some 47, op := Op.pick (Operand.tmp 45) (Operand.tmp 46) (Operand.const (Value.bool false)), type := 4, pos := "law.go:33", after := #[{ on := 32, ground := Ground.data }, { on := 33, ground := Ground.data }], guard := none }) (v := .bool true) rfl (by kernel_rfl) (by kernel_rfl) (by kernel_rfl) (fun _ _ _ h => h) (Or.inl ⟨by rfl, ?_⟩) hHeld8 ?_
  · (intro w hSw; (try dsimp only at hSw); go_simp)
  try simp only [Act.put, List.setIfInBounds_toArray, List.set_cons_zero, List.set_cons_succ]
  refine wpAnyH_take (i := 35) (oi := { dst := some 6, op := Op.assign (Operand.tmp 47), type := 4, pos := "law.go:33", after := #[{ on := 34, ground := Ground.data }, { on := 33, ground := Ground.chain }, { on := 0, ground := Ground.phase }, { on := 1, ground := Ground.phase }, { on := 2, ground := Ground.phase }, { on := 3, ground := Ground.phase }, { on := 4, ground := Ground.phase }, { on := 5, ground := Ground.phase }, { on := 6, ground := Ground.phase }, { on := 7, ground := Ground.phase }, { on := 8, ground := Ground.phase }, { on := 9, ground := Ground.phase }, { on := 10, ground := Ground.phase }, { on := 11, ground := Ground.phase }, { on := 12, ground := Ground.phase }, { on := 13, ground := Ground.phase }, { on := 14, ground := Ground.phase }, { on := 15, ground := Ground.phase }, { on := 16, ground := Ground.phase }, { on := 17, ground := Ground.phase }, { on := 18, ground := Ground.phase }, { on := 19, ground := Ground.phase }, { on := 20, ground := Ground.phase }, { on := 21, ground := Ground.phase }, { on := 22, ground := Ground.phase }, { on := 23, ground := Ground.phase }, { on := 24, ground := Ground.phase }, { on := 25, ground := Ground.phase }, { on := 26, ground := Ground.phase }, { on := 27, ground := Ground.phase }, { on := 28, ground := Ground.phase }, { on := 29, ground := Ground.phase }, { on := 30, ground := Ground.phase }, { on := 31, ground := Ground.phase }, { on := 32, ground := Ground.phase }, { on := 33, ground := Ground.phase }, { on := 34, ground := Ground.phase }], guard := none }) (v := .bool true) rfl (by kernel_rfl) (by kernel_rfl) (by kernel_rfl) (fun _ _ _ h => h) (Or.inl ⟨by rfl, ?_⟩) hHeld8 ?_
  · (intro w hSw; (try dsimp only at hSw); go_simp)
  try simp only [Act.put, List.setIfInBounds_toArray, List.set_cons_zero, List.set_cons_succ]
  refine wpAnyH_done (by kernel_rfl) ?_ _
  go_wp2
  go_ret
  exact ⟨rfl, Y8.out.cs.bel⟩
end Go.Proofs.Yteaohmlbioooaaa
