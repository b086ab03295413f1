/- ConfCounts, walked. -/
import Derived.Test.YteaohmlbioooaaaCref3
import Derived.Test.YteaohmlbioooaaaCopn
import Derived.Deep.RegionHeld3
namespace Go.Proofs.Yteaohmlbioooaaa
open Go.RowKit

structure Co (w z : World) (av al : Option Addr) (V L : List Int) (cv cl : Nat) (ay am : Option Addr) (Y M : List Int) : Prop where
  cs : Cs w z w.heap.size av al V L cv cl
  y : Ints z ay Y
  m : Ints z am M
theorem Co.grow {w z z' : World} {av al : Option Addr} {V L : List Int} {cv cl : Nat} {ay am : Option Addr} {Y M : List Int} (h : Co w z av al V L cv cl ay am Y M) (hb : Below z.heap.size z z') : Co w z' av al V L cv cl ay am Y M := ⟨h.cs.grow hb, h.y.grow hb, h.m.grow hb⟩
set_option maxHeartbeats 8000000 in
theorem lawCounts (w : World) (av al : Option Addr) (V L : List Int) (cv cl : Nat) (hV : Ints w av V) (hL : Ints w al L) (_bV : V.length ≤ 17592186043904) (_bL : L.length ≤ 17592186043904) (_kV : V.length ≤ cv) (_kL : L.length ≤ cl) (_wV : Wf V) (_wL : Wf L) (ay : Option Addr) (Y : List Int) (cy : Nat) (hY : Ints w ay Y) (_bY : Y.length ≤ 17592186043904) (_kY : Y.length ≤ cy) (_wY : Wf Y) (am : Option Addr) (M : List Int) (cm : Nat) (hM : Ints w am M) (bM : M.length ≤ 17592186043904) (_kM : M.length ≤ cm) (_wM : Wf M) : Calls Try.prog 4 #[.agg #[.slice av V.length cv, .slice al L.length cl], .slice ay Y.length cy, .slice am M.length cm] w fun e w' => e = .returned (.bool true) ∧ Below w.heap.size w w' := by
  have H0 := hidOf (⟨Cs.begin cv cl ⟨hV, hL⟩, hY.grow (below1 w _), hM.grow (below1 w _)⟩ : Co w (w.alloc (.cells #[.slice av V.length cv, .slice al L.length cl] 24)) av al V L cv cl ay am Y M)
  have Z0 := hidOf (H0.out.grow ⟨rfl, rfl, rfl, Nat.le_refl _, fun _ _ => rfl⟩ : Co w (w.alloc (.cells #[.slice av V.length cv, .slice al L.length cl] 24)).drew av al V L cv cl ay am Y M)
  have hM1 := fun z h h' => majority_any z av al V L cv cl ay Y cy h h'
  have hM2 := fun z h h' => rmajority_any z av al V L cv cl ay Y cy h h'
  have hA1 := fun z h h' => agreed_any z av al V L cv cl am M cm h h'
  have hA2 := fun z h h' => ragreed_any z av al V L cv cl am M cm h h' (by omega)
  generalize majB V Y = b2 at hM1 hM2
  generalize agr V M = n3 at hA1 hA2
  have HM1 := hidOf hM1
  have HM2 := hidOf hM2
  have HA1 := hidOf hA1
  have HA2 := hidOf hA2
  clear hM1 hM2 hA1 hA2 hV hL hY hM
  have c0 := H0.out.cs.bx.c0
  have c1 := H0.out.cs.bx.c1
  go_enter Try.func4, Try.ntmps4
  go_wp2_with (fail)
  refine wp_region_held_drew (S := fun wz => wz.cell? ⟨w.heap.size, 0, none⟩ = some (.slice av V.length cv) ∧ wz.cell? ⟨w.heap.size, 1, none⟩ = some (.slice al L.length cl)) (by kernel_rfl) ⟨c0, c1⟩ (fun hHeld => ?_)
  refine wpAnyH_take (i := 0) (oi := { dst := some 7, op := Op.load 24 (Operand.tmp 3), type := 24, pos := "law.go:38", after := #[], guard := none }) (v := .agg #[.slice av V.length cv, .slice al L.length cl]) rfl (by kernel_rfl) (by kernel_rfl) (by kernel_rfl) (fun _ _ _ h => h) (Or.inl ⟨by rfl, ?_⟩) hHeld ?_
  · (intro w hSw; (try dsimp only at hSw); go_simp)
  try simp only [Act.put, List.setIfInBounds_toArray, List.set_cons_zero, List.set_cons_succ]
  refine wpAnyH_take (i := 1) (oi := { dst := some 8, op := Op.move (Operand.tmp 1), type := 22, pos := "law.go:38", after := #[], guard := none }) (v := .slice ay Y.length cy) rfl (by kernel_rfl) (by kernel_rfl) (by kernel_rfl) (fun _ _ _ h => h) (Or.inl ⟨by rfl, ?_⟩) hHeld ?_
  · (intro w hSw; (try dsimp only at hSw); go_simp)
  try simp only [Act.put, List.setIfInBounds_toArray, List.set_cons_zero, List.set_cons_succ]
  refine wpAnyH_take (i := 3) (oi := { dst := some 10, op := Op.load 24 (Operand.tmp 3), type := 24, pos := "law.go:38", after := #[], guard := none }) (v := .agg #[.slice av V.length cv, .slice al L.length cl]) rfl (by kernel_rfl) (by kernel_rfl) (by kernel_rfl) (fun _ _ _ h => h) (Or.inl ⟨by rfl, ?_⟩) hHeld ?_
  · (intro w hSw; (try dsimp only at hSw); go_simp)
  try simp only [Act.put, List.setIfInBounds_toArray, List.set_cons_zero, List.set_cons_succ]
  refine wpAnyH_take (i := 4) (oi := { dst := some 11, op := Op.move (Operand.tmp 1), type := 22, pos := "law.go:38", after := #[], guard := none }) (v := .slice ay Y.length cy) rfl (by kernel_rfl) (by kernel_rfl) (by kernel_rfl) (fun _ _ _ h => h) (Or.inl ⟨by rfl, ?_⟩) hHeld ?_
  · (intro w hSw; (try dsimp only at hSw); go_simp)
  try simp only [Act.put, List.setIfInBounds_toArray, List.set_cons_zero, List.set_cons_succ]
  refine wpAnyH_ready (rs := [2]) (by kernel_rfl) (by simp) ?_
  refine AllReadyH.cons (o := { dst := some 9, op := Op.call { callee := Callee.value (Operand.func 19), args := #[Operand.tmp 7, Operand.tmp 8], argTypes := #[24, 22] }, type := 4, pos := "law.go:38", after := #[{ on := 0, ground := Ground.data }, { on := 1, ground := Ground.data }], guard := none }) rfl (fun K hK => ?_) AllReadyH.nil
  go_simp
  refine (HM1.out _ Z0.out.cs.cf Z0.out.y).mono ?_
  rintro e z1 ⟨rfl, hb⟩
  have Z1 := hidOf (Z0.out.grow hb)
  clear hb
  refine hK.out _ _ ⟨Z1.out.cs.bx.c0, Z1.out.cs.bx.c1⟩ (fun hHeld1 => ?_)
  clear hK K
  try simp only [Act.put, List.setIfInBounds_toArray, List.set_cons_zero, List.set_cons_succ]
  refine wpAnyH_ready (rs := [5]) (by kernel_rfl) (by simp) ?_
  refine AllReadyH.cons (o := { dst := some 12, op := Op.call { callee := Callee.value (Operand.func 20), args := #[Operand.tmp 10, Operand.tmp 11], argTypes := #[24, 22] }, type := 4, pos := "law.go:38", after := #[{ on := 3, ground := Ground.data }, { on := 4, ground := Ground.data }, { on := 2, ground := Ground.chain }], guard := none }) rfl (fun K hK => ?_) AllReadyH.nil
  go_simp
  refine (HM2.out _ Z1.out.cs.cf Z1.out.y).mono ?_
  rintro e z2 ⟨rfl, hb⟩
  have Z2 := hidOf (Z1.out.grow hb)
  clear hb
  refine hK.out _ _ ⟨Z2.out.cs.bx.c0, Z2.out.cs.bx.c1⟩ (fun hHeld2 => ?_)
  clear hK K
  try simp only [Act.put, List.setIfInBounds_toArray, List.set_cons_zero, List.set_cons_succ]
  refine wpAnyH_take (i := 6) (oi := { dst := some 13, op := Op.binOp BinOp.eql 4 (Operand.tmp 9) (Operand.tmp 12) 4, type := 4, pos := "law.go:38", after := #[{ on := 2, ground := Ground.data }, { on := 5, ground := Ground.data }], guard := none }) (v := .bool true) rfl (by kernel_rfl) (by kernel_rfl) (by kernel_rfl) (fun _ _ _ h => h) (Or.inl ⟨by rfl, ?_⟩) hHeld2 ?_
  · (intro w hSw; (try dsimp only at hSw); go_simp)
  try simp only [Act.put, List.setIfInBounds_toArray, List.set_cons_zero, List.set_cons_succ]
  refine wpAnyH_take (i := 7) (oi := { dst := some 14, op := Op.move (Operand.tmp 13), type := 4, pos := "law.go:38", after := #[{ on := 6, ground := Ground.data }, { on := 5, ground := Ground.chain }], guard := none }) (v := .bool true) rfl (by kernel_rfl) (by kernel_rfl) (by kernel_rfl) (fun _ _ _ h => h) (Or.inl ⟨by rfl, ?_⟩) hHeld2 ?_
  · (intro w hSw; (try dsimp only at hSw); go_simp)
  try simp only [Act.put, List.setIfInBounds_toArray, List.set_cons_zero, List.set_cons_succ]
  refine wpAnyH_take (i := 8) (oi := { dst := some 15, op := Op.load 24 (Operand.tmp 3), type := 24, pos := "law.go:38", after := #[{ on := 7, ground := Ground.guard }], guard := some (7, true) }) (v := .agg #[.slice av V.length cv, .slice al L.length cl]) rfl (by kernel_rfl) (by kernel_rfl) (by kernel_rfl) (fun _ _ _ h => h) (Or.inl ⟨by rfl, ?_⟩) hHeld2 ?_
  · (intro w hSw; (try dsimp only at hSw); go_simp)
  try simp only [Act.put, List.setIfInBounds_toArray, List.set_cons_zero, List.set_cons_succ]
  refine wpAnyH_take (i := 9) (oi := { dst := some 16, op := Op.move (Operand.tmp 2), type := 22, pos := "law.go:38", after := #[{ on := 7, ground := Ground.guard }], guard := some (7, true) }) (v := .slice am M.length cm) rfl (by kernel_rfl) (by kernel_rfl) (by kernel_rfl) (fun _ _ _ h => h) (Or.inl ⟨by rfl, ?_⟩) hHeld2 ?_
  · (intro w hSw; (try dsimp only at hSw); go_simp)
  try simp only [Act.put, List.setIfInBounds_toArray, List.set_cons_zero, List.set_cons_succ]
  refine wpAnyH_take (i := 11) (oi := { dst := some 18, op := Op.load 24 (Operand.tmp 3), type := 24, pos := "law.go:38", after := #[{ on := 7, ground := Ground.guard }], guard := some (7, true) }) (v := .agg #[.slice av V.length cv, .slice al L.length cl]) rfl (by kernel_rfl) (by kernel_rfl) (by kernel_rfl) (fun _ _ _ h => h) (Or.inl ⟨by rfl, ?_⟩) hHeld2 ?_
  · (intro w hSw; (try dsimp only at hSw); go_simp)
  try simp only [Act.put, List.setIfInBounds_toArray, List.set_cons_zero, List.set_cons_succ]
  refine wpAnyH_take (i := 12) (oi := { dst := some 19, op := Op.move (Operand.tmp 2), type := 22, pos := "law.go:38", after := #[{ on := 7, ground := Ground.guard }], guard := some (7, true) }) (v := .slice am M.length cm) rfl (by kernel_rfl) (by kernel_rfl) (by kernel_rfl) (fun _ _ _ h => h) (Or.inl ⟨by rfl, ?_⟩) hHeld2 ?_
  · (intro w hSw; (try dsimp only at hSw); go_simp)
  try simp only [Act.put, List.setIfInBounds_toArray, List.set_cons_zero, List.set_cons_succ]
  refine wpAnyH_ready (rs := [10]) (by kernel_rfl) (by simp) ?_
  refine AllReadyH.cons (o := { dst := some 17, op := Op.call { callee := Callee.value (Operand.func 21), args := #[Operand.tmp 15, Operand.tmp 16], argTypes := #[24, 22] }, type := 3, pos := "law.go:38", after := #[{ on := 8, ground := Ground.data }, { on := 9, ground := Ground.data }, { on := 7, ground := Ground.chain }, { on := 7, ground := Ground.guard }], guard := some (7, true) }) rfl (fun K hK => ?_) AllReadyH.nil
  go_simp
  refine (HA1.out _ Z2.out.cs.cf Z2.out.m).mono ?_
  rintro e z3 ⟨rfl, hb⟩
  have Z3 := hidOf (Z2.out.grow hb)
  clear hb
  refine hK.out _ _ ⟨Z3.out.cs.bx.c0, Z3.out.cs.bx.c1⟩ (fun hHeld3 => ?_)
  clear hK K
  try simp only [Act.put, List.setIfInBounds_toArray, List.set_cons_zero, List.set_cons_succ]
  refine wpAnyH_ready (rs := [13]) (by kernel_rfl) (by simp) ?_
  refine AllReadyH.cons (o := { dst := some 20, op := Op.call { callee := Callee.value (Operand.func 22), args := #[Operand.tmp 18, Operand.tmp 19], argTypes := #[24, 22] }, type := 3, pos := "law.go:38", after := #[{ on := 11, ground := Ground.data }, { on := 12, ground := Ground.data }, { on := 10, ground := Ground.chain }, { on := 7, ground := Ground.guard }], guard := some (7, true) }) rfl (fun K hK => ?_) AllReadyH.nil
  go_simp
  refine (HA2.out _ Z3.out.cs.cf Z3.out.m).mono ?_
  rintro e z4 ⟨rfl, hb⟩
  have Z4 := hidOf (Z3.out.grow hb)
  clear hb
  refine hK.out _ _ ⟨Z4.out.cs.bx.c0, Z4.out.cs.bx.c1⟩ (fun hHeld4 => ?_)
  clear hK K
  try simp only [Act.put, List.setIfInBounds_toArray, List.set_cons_zero, List.set_cons_succ]
  refine wpAnyH_take (i := 14) (oi := { dst := some 21, op := Op.binOp BinOp.eql 3 (Operand.tmp 17) (Operand.tmp 20) 3, type := 4, pos := "law.go:38", after := #[{ on := 10, ground := Ground.data }, { on := 13, ground := Ground.data }, { on := 7, ground := Ground.guard }], guard := some (7, true) }) (v := .bool true) rfl (by kernel_rfl) (by kernel_rfl) (by kernel_rfl) (fun _ _ _ h => h) (Or.inl ⟨by rfl, ?_⟩) hHeld4 ?_
  · (intro w hSw; (try dsimp only at hSw); go_simp)
  try simp only [Act.put, List.setIfInBounds_toArray, List.set_cons_zero, List.set_cons_succ]
  refine wpAnyH_take (i := 15) (oi := { dst := some 22, op := Op.pick (Operand.tmp 14) (Operand.tmp 21) (Operand.const (Value.bool false)), type := 4, pos := "law.go:38", after := #[{ on := 7, ground := Ground.data }, { on := 14, ground := Ground.data }], guard := none }) (v := .bool true) rfl (by kernel_rfl) (by kernel_rfl) (by kernel_rfl) (fun _ _ _ h => h) (Or.inl ⟨by rfl, ?_⟩) hHeld4 ?_
  · (intro w hSw; (try dsimp only at hSw); go_simp)
  try simp only [Act.put, List.setIfInBounds_toArray, List.set_cons_zero, List.set_cons_succ]
  refine wpAnyH_take (i := 16) (oi := { dst := some 23, op := Op.move (Operand.tmp 22), type := 4, pos := "law.go:38", after := #[{ on := 15, ground := Ground.data }, { on := 13, ground := Ground.chain }], guard := none }) (v := .bool true) rfl (by kernel_rfl) (by kernel_rfl) (by kernel_rfl) (fun _ _ _ h => h) (Or.inl ⟨by rfl, ?_⟩) hHeld4 ?_
  · (intro w hSw; (try dsimp only at hSw); go_simp)
  try simp only [Act.put, List.setIfInBounds_toArray, List.set_cons_zero, List.set_cons_succ]
  refine wpAnyH_ready (rs := [17]) (by kernel_rfl) (by simp) ?_
  refine AllReadyH.cons (o := { dst := some 24, op := Op.call { callee := Callee.value (Operand.func 18), args := #[], argTypes := #[] }, type := 4, pos := "law.go:38", after := #[{ on := 16, ground := Ground.chain }, { on := 16, ground := Ground.guard }], guard := some (16, true) }) rfl (fun K hK => ?_) AllReadyH.nil
  go_simp
  refine (lives_any _).mono ?_
  rintro e z5 ⟨rfl, hb⟩
  have Z5 := hidOf (Z4.out.grow hb)
  clear hb
  refine hK.out _ _ ⟨Z5.out.cs.bx.c0, Z5.out.cs.bx.c1⟩ (fun hHeld5 => ?_)
  clear hK K
  try simp only [Act.put, List.setIfInBounds_toArray, List.set_cons_zero, List.set_cons_succ]
  refine wpAnyH_take (i := 18) (oi := { dst := some 25, op := Op.pick (Operand.tmp 23) (Operand.tmp 24) (Operand.const (Value.bool false)), type := 4, pos := "law.go:38", after := #[{ on := 16, ground := Ground.data }, { on := 17, ground := Ground.data }], guard := none }) (v := .bool true) rfl (by kernel_rfl) (by kernel_rfl) (by kernel_rfl) (fun _ _ _ h => h) (Or.inl ⟨by rfl, ?_⟩) hHeld5 ?_
  · (intro w hSw; (try dsimp only at hSw); go_simp)
  try simp only [Act.put, List.setIfInBounds_toArray, List.set_cons_zero, List.set_cons_succ]
  refine wpAnyH_take (i := 19) (oi := { dst := some 6, op := Op.assign (Operand.tmp 25), type := 4, pos := "law.go:38", after := #[{ on := 18, ground := Ground.data }, { on := 17, ground := Ground.chain }, { on := 0, ground := Ground.phase }, { on := 1, ground := Ground.phase }, { on := 2, ground := Ground.phase }, { on := 3, ground := Ground.phase }, { on := 4, ground := Ground.phase }, { on := 5, ground := Ground.phase }, { on := 6, ground := Ground.phase }, { on := 7, ground := Ground.phase }, { on := 8, ground := Ground.phase }, { on := 9, ground := Ground.phase }, { on := 10, ground := Ground.phase }, { on := 11, ground := Ground.phase }, { on := 12, ground := Ground.phase }, { on := 13, ground := Ground.phase }, { on := 14, ground := Ground.phase }, { on := 15, ground := Ground.phase }, { on := 16, ground := Ground.phase }, { on := 17, ground := Ground.phase }, { on := 18, ground := Ground.phase }], guard := none }) (v := .bool true) rfl (by kernel_rfl) (by kernel_rfl) (by kernel_rfl) (fun _ _ _ h => h) (Or.inl ⟨by rfl, ?_⟩) hHeld5 ?_
  · (intro w hSw; (try dsimp only at hSw); go_simp)
  try simp only [Act.put, List.setIfInBounds_toArray, List.set_cons_zero, List.set_cons_succ]
  refine wpAnyH_done (by kernel_rfl) ?_ _
  go_wp2
  go_ret
  exact ⟨rfl, Z5.out.cs.bel⟩
end Go.Proofs.Yteaohmlbioooaaa
