/- message (reg). -/
import Derived.Test.YtkienmncifonnaaDoorMg0
namespace Go.Proofs.YtkienmncifonnaaDoor
open Go.RowKit Go.Maps
variable {D : Nat} {w w' : World} {p : Nat} {s : Sg} {n c pd : Nat} {mv : Value} {G : Nat → Prop}
set_option maxHeartbeats 2000000 in
set_option maxRecDepth 100000 in
theorem regm_any (h : AgS D w p s n c) (he : s.a.ep = 0) (hid : 0 ≤ s.a.id ∧ s.a.id ≤ 4) (hsv : 1 ≤ s.a.sv ∧ s.a.sv ≤ 5) (hsn : 0 ≤ s.a.sn ∧ s.a.sn ≤ 1099511627776) :
    Calls Tryd.prog 20 #[.pointer (some ⟨p, 0, none⟩)] w fun e w' => e = .returned (.agg (mgC 9 (100 + s.a.id) (srT s.a) s.a.bt 5 s.a.id s.a.c1 s.a.c2 s.a.bt 0 0 nilS)) ∧ AgS D w' p { s with a := srA s.a } n c ∧ FrA D w w' := by
  obtain ⟨pd, mv, G, h⟩ := h
  obtain ⟨W0, hW0⟩ : ∃ y, y = w.alloc (.cells #[.int .i64 0, .int .i64 0, .int .i64 0, .int .i64 0, .int .i64 0, .int .i64 0, .int .i64 0, .bool false, .int .i64 0, .int .i64 0, .int .i64 0, .int .i64 0, .slice none 0 0, .slice none 0 0, .slice none 0 0, .slice none 0 0, .int .i64 0, .int .i64 0, .int .i64 0, .int .i64 0, .int .i64 0, .int .i64 0, .int .i64 0, .slice none 0 0, .int .i64 0, .bool false, .int .i64 0, .int .i64 0, .int .i64 0, .bool false, .bool false, .int .i64 0, .int .i64 0, .int .i64 0, .slice none 0 0, .int .i64 0, .int .i64 0, .int .i64 0, .slice none 0 0, .slice none 0 0, .bool false, .slice none 0 0, .slice none 0 0, .int .i64 0, .int .i64 0, .slice none 0 0] 51) := ⟨_, rfl⟩
  have hb : Below w.heap.size w W0.drew := by rw [hW0]; exact (below1 w _).drew
  have HD0 := hidOf (h.below hb)
  have HF0 : Hid (FrA D w W0.drew) := hidOf (.of_below hb)
  have HR0 : Hid (W0.drew.heap[w.heap.size]? = some (.cells #[.int .i64 0, .int .i64 0, .int .i64 0, .int .i64 0, .int .i64 0, .int .i64 0, .int .i64 0, .bool false, .int .i64 0, .int .i64 0, .int .i64 0, .int .i64 0, .slice none 0 0, .slice none 0 0, .slice none 0 0, .slice none 0 0, .int .i64 0, .int .i64 0, .int .i64 0, .int .i64 0, .int .i64 0, .int .i64 0, .int .i64 0, .slice none 0 0, .int .i64 0, .bool false, .int .i64 0, .int .i64 0, .int .i64 0, .bool false, .bool false, .int .i64 0, .int .i64 0, .int .i64 0, .slice none 0 0, .int .i64 0, .int .i64 0, .int .i64 0, .slice none 0 0, .slice none 0 0, .bool false, .slice none 0 0, .slice none 0 0, .int .i64 0, .int .i64 0, .slice none 0 0] 51 (0, 0))) := hidOf (by rw [hW0]; exact heap_alloc_new w _)
  have HL0 : Hid (w.heap.size < W0.drew.heap.size) := hidOf (heap_lt HR0.out)
  have HSV := hidOf hsv
  have HSN := hidOf hsn
  obtain ⟨hi0, hi1⟩ := hid
  have hwr : IntKind.i64.wrap (100 + s.a.id) = 100 + s.a.id := IntWalk.i64_in _ (by omega)
  have lp : p < W0.heap.size := HD0.out.b.lt

  clear h hb hsv hsn
  go_enter Tryd.func20, Tryd.ntmps20
  go_upto_region 1 with (fail)
  rw [← hW0]
  clear hW0
  refine wp_region_L (fun Y : World => Y.cell? ⟨p, 0, none⟩ = some (.int .i64 s.a.id)) 9 (by kernel_rfl) ?_
  have hHeld : (fun Y : World => Y.cell? ⟨p, 0, none⟩ = some (.int .i64 s.a.id)) _ := HD0.out.b.at_ 0
  refine wpAnyL_take (i := 0) (oi := { dst := some 4, op := Op.move (Operand.tmp 0), type := 23, pos := "message.go:7", after := #[], guard := none }) (v := .pointer (some ⟨p, 0, none⟩)) rfl (by kernel_rfl) (by kernel_rfl) (by kernel_rfl) (by kernel_rfl) (fun _ _ _ h => h) (Or.inl ⟨by rfl, ?_⟩) hHeld ?_
  · (intro w hSw; (try dsimp only at hSw); go_simp)
  try simp only [Act.put, List.setIfInBounds_toArray, List.set_cons_zero, List.set_cons_succ]
  refine wpAnyL_take (i := 1) (oi := { dst := some 5, op := Op.nilCheck (Operand.tmp 4), type := 0, pos := "message.go:7", after := #[{ on := 0, ground := Ground.data }], guard := none }) (v := .pointer (some ⟨p, 0, none⟩)) rfl (by kernel_rfl) (by kernel_rfl) (by kernel_rfl) (by kernel_rfl) (fun _ _ _ h => h) (Or.inl ⟨by rfl, ?_⟩) hHeld ?_
  · (intro w hSw; (try dsimp only at hSw); go_simp)
  try simp only [Act.put, List.setIfInBounds_toArray, List.set_cons_zero, List.set_cons_succ]
  refine wpAnyL_take (i := 2) (oi := { dst := some 6, op := Op.fieldAddr 77 (Operand.tmp 5) 0, type := 0, pos := "message.go:7", after := #[{ on := 1, ground := Ground.data }], guard := none }) (v := .pointer (some ⟨p, 0, none⟩)) rfl (by kernel_rfl) (by kernel_rfl) (by kernel_rfl) (by kernel_rfl) (fun _ _ _ h => h) (Or.inl ⟨by rfl, ?_⟩) hHeld ?_
  · (intro w hSw; (try dsimp only at hSw); go_simp)
  try simp only [Act.put, List.setIfInBounds_toArray, List.set_cons_zero, List.set_cons_succ]
  refine wpAnyL_take (i := 3) (oi := { dst := some 7, op := Op.load 3 (Operand.tmp 6), type := 3, pos := "message.go:7", after := #[{ on := 2, ground := Ground.data }], guard := none }) (v := .int .i64 s.a.id) rfl (by kernel_rfl) (by kernel_rfl) (by kernel_rfl) (by kernel_rfl) (fun _ _ _ h => h) (Or.inl ⟨by rfl, ?_⟩) hHeld ?_
  · (intro w hSw; (try dsimp only at hSw); go_simp)
  try simp only [Act.put, List.setIfInBounds_toArray, List.set_cons_zero, List.set_cons_succ]
  refine wpAnyL_take (i := 4) (oi := { dst := some 8, op := Op.binOp BinOp.add 3 (Operand.const (Value.int IntKind.i64 100)) (Operand.tmp 7) 3, type := 3, pos := "message.go:7", after := #[{ on := 3, ground := Ground.data }], guard := none }) (v := .int .i64 (100 + s.a.id)) rfl (by kernel_rfl) (by kernel_rfl) (by kernel_rfl) (by kernel_rfl) (fun _ _ _ h => h) (Or.inl ⟨by rfl, ?_⟩) hHeld ?_
  · (intro w hSw; (try dsimp only at hSw); go_simp)
  try simp only [Act.put, List.setIfInBounds_toArray, List.set_cons_zero, List.set_cons_succ]
  refine wpAnyL_take (i := 5) (oi := { dst := some 9, op := Op.move (Operand.tmp 0), type := 23, pos := "message.go:7", after := #[], guard := none }) (v := .pointer (some ⟨p, 0, none⟩)) rfl (by kernel_rfl) (by kernel_rfl) (by kernel_rfl) (by kernel_rfl) (fun _ _ _ h => h) (Or.inl ⟨by rfl, ?_⟩) hHeld ?_
  · (intro w hSw; (try dsimp only at hSw); go_simp)
  try simp only [Act.put, List.setIfInBounds_toArray, List.set_cons_zero, List.set_cons_succ]
  refine wpAnyL_two (i := 6) (j := 8) (oi := { dst := some 10, op := Op.call { callee := Callee.value (Operand.func 31), args := #[Operand.tmp 9], argTypes := #[23] }, type := 3, pos := "message.go:7", after := #[{ on := 5, ground := Ground.data }], guard := none }) (oj := { dst := some 3, op := Op.alloc 51, type := 0, pos := "message.go:7", after := #[], guard := none }) (by kernel_rfl) rfl rfl (fun K hK => ?_) (fun K hK => ?_)
  · rw [if_pos (by rfl)]
    go_simp
    refine (server_any ⟨pd, mv, G, HD0.out⟩ HSV.out HSN.out).mono ?_
    rintro e w1 ⟨rfl, ha, hf⟩
    obtain ⟨pd1, mv1, G1, ha⟩ := ha
    have HA1 := hidOf ha
    have HF1 := hidOf hf
    clear ha hf
    refine hK.out _ _ (fun _ => (HA1.out.b.at_ 0)) ?_
    clear hK K
    try simp only [Act.put, List.setIfInBounds_toArray, List.set_cons_zero, List.set_cons_succ]
    have hHeld1 : w1.cell? ⟨p, 0, none⟩ = some (.int .i64 s.a.id) := HA1.out.b.at_ 0
    refine wpAnyL_take (i := 7) (oi := { dst := some 11, op := Op.build 51 #[(0, Operand.const (Value.int IntKind.i64 9)), (1, Operand.tmp 8), (2, Operand.tmp 10)], type := 51, pos := "message.go:7", after := #[{ on := 4, ground := Ground.data }, { on := 6, ground := Ground.data }], guard := none }) (v := .agg (mgC 9 (100 + s.a.id) (srT s.a) 0 0 0 0 0 0 0 0 nilS)) rfl (by kernel_rfl) (by kernel_rfl) (by kernel_rfl) (by kernel_rfl) (fun _ _ _ h => h) (yieldsIf_build (by rfl) 51 #[(0, .const (.int .i64 9)), (1, .tmp 8), (2, .tmp 10)] rfl [(0, .int .i64 9), (1, .int .i64 (100 + s.a.id)), (2, .int .i64 (srT s.a))] (by kernel_rfl) _ (built51 _ _)) hHeld1 ?_
    try simp only [Act.put, List.setIfInBounds_toArray, List.set_cons_zero, List.set_cons_succ]
    refine wpAnyL_one (i := 8) (o := { dst := some 3, op := Op.alloc 51, type := 0, pos := "message.go:7", after := #[], guard := none }) (by kernel_rfl) rfl (fun K hK => ?_)
    rw [if_pos (by rfl)]
    go_simp
    have HA2 := hidOf (HA1.out.below (below1 w1 (.cells #[.int .i64 0, .int .i64 0, .int .i64 0, .int .i64 0, .int .i64 0, .int .i64 0, .int .i64 0, .bool false, .int .i64 0, .int .i64 0, .int .i64 0, .int .i64 0, .slice none 0 0, .slice none 0 0, .slice none 0 0, .slice none 0 0, .int .i64 0, .int .i64 0, .int .i64 0, .int .i64 0, .int .i64 0, .int .i64 0, .int .i64 0, .slice none 0 0, .int .i64 0, .bool false, .int .i64 0, .int .i64 0, .int .i64 0, .bool false, .bool false, .int .i64 0, .int .i64 0, .int .i64 0, .slice none 0 0, .int .i64 0, .int .i64 0, .int .i64 0, .slice none 0 0, .slice none 0 0, .bool false, .slice none 0 0, .slice none 0 0, .int .i64 0, .int .i64 0, .slice none 0 0] 51)))
    refine hK.out _ _ (fun _ => HA2.out.b.at_ 0) ?_
    clear hK K
    try simp only [Act.put, List.setIfInBounds_toArray, List.set_cons_zero, List.set_cons_succ]
    refine wpAnyL_one (i := 9) (o := { dst := none, op := Op.store 51 (Operand.tmp 3) (Operand.tmp 11), type := 0, pos := "message.go:7", after := #[{ on := 8, ground := Ground.data }, { on := 7, ground := Ground.data }, { on := 6, ground := Ground.chain }, { on := 0, ground := Ground.phase }, { on := 1, ground := Ground.phase }, { on := 2, ground := Ground.phase }, { on := 3, ground := Ground.phase }, { on := 4, ground := Ground.phase }, { on := 5, ground := Ground.phase }, { on := 6, ground := Ground.phase }, { on := 7, ground := Ground.phase }, { on := 8, ground := Ground.phase }], guard := none }) (by kernel_rfl) rfl (fun K hK => ?_)
    rw [if_pos (by rfl)]
    obtain ⟨m, hm⟩ : ∃ m, m = w1.heap.size := ⟨_, rfl⟩
    obtain ⟨V1, hV1⟩ : ∃ y, y = w1.alloc (.cells #[.int .i64 0, .int .i64 0, .int .i64 0, .int .i64 0, .int .i64 0, .int .i64 0, .int .i64 0, .bool false, .int .i64 0, .int .i64 0, .int .i64 0, .int .i64 0, .slice none 0 0, .slice none 0 0, .slice none 0 0, .slice none 0 0, .int .i64 0, .int .i64 0, .int .i64 0, .int .i64 0, .int .i64 0, .int .i64 0, .int .i64 0, .slice none 0 0, .int .i64 0, .bool false, .int .i64 0, .int .i64 0, .int .i64 0, .bool false, .bool false, .int .i64 0, .int .i64 0, .int .i64 0, .slice none 0 0, .int .i64 0, .int .i64 0, .int .i64 0, .slice none 0 0, .slice none 0 0, .bool false, .slice none 0 0, .slice none 0 0, .int .i64 0, .int .i64 0, .slice none 0 0] 51) := ⟨_, rfl⟩
    have HM1 : Hid (V1.heap[m]? = some (.cells #[.int .i64 0, .int .i64 0, .int .i64 0, .int .i64 0, .int .i64 0, .int .i64 0, .int .i64 0, .bool false, .int .i64 0, .int .i64 0, .int .i64 0, .int .i64 0, .slice none 0 0, .slice none 0 0, .slice none 0 0, .slice none 0 0, .int .i64 0, .int .i64 0, .int .i64 0, .int .i64 0, .int .i64 0, .int .i64 0, .int .i64 0, .slice none 0 0, .int .i64 0, .bool false, .int .i64 0, .int .i64 0, .int .i64 0, .bool false, .bool false, .int .i64 0, .int .i64 0, .int .i64 0, .slice none 0 0, .int .i64 0, .int .i64 0, .int .i64 0, .slice none 0 0, .slice none 0 0, .bool false, .slice none 0 0, .slice none 0 0, .int .i64 0, .int .i64 0, .slice none 0 0] 51 (0, 0))) := hidOf (by rw [hV1, hm]; exact heap_alloc_new w1 _)
    have HF2 : Hid (FrA D w V1) := hidOf (by rw [hV1]; exact (HF0.out.trans HF1.out).trans (.of_below (below1 w1 _)))
    have hmr : w.heap.size < m := by rw [hm]; exact Nat.lt_of_lt_of_le HL0.out HF1.out.size
    have HR1 : Hid (V1.heap[w.heap.size]? = some (.cells #[.int .i64 0, .int .i64 0, .int .i64 0, .int .i64 0, .int .i64 0, .int .i64 0, .int .i64 0, .bool false, .int .i64 0, .int .i64 0, .int .i64 0, .int .i64 0, .slice none 0 0, .slice none 0 0, .slice none 0 0, .slice none 0 0, .int .i64 0, .int .i64 0, .int .i64 0, .int .i64 0, .int .i64 0, .int .i64 0, .int .i64 0, .slice none 0 0, .int .i64 0, .bool false, .int .i64 0, .int .i64 0, .int .i64 0, .bool false, .bool false, .int .i64 0, .int .i64 0, .int .i64 0, .slice none 0 0, .int .i64 0, .int .i64 0, .int .i64 0, .slice none 0 0, .slice none 0 0, .bool false, .slice none 0 0, .slice none 0 0, .int .i64 0, .int .i64 0, .slice none 0 0] 51 (0, 0))) := hidOf (by rw [hV1]; exact ((below1 w1 _).block _ (heap_lt (HF1.out.cells HR0.out (by decide)))).trans (HF1.out.cells HR0.out (by decide)))
    rw [← hV1] at HA2 ⊢
    rw [← hm]
    clear hV1 hm
    refine wp_store_row 51 (.tmp 3) (.tmp 11) rfl m (mgC 9 (100 + s.a.id) (srT s.a) 0 0 0 0 0 0 0 0 nilS) rfl rfl 51 #[.int .i64 0, .int .i64 0, .int .i64 0, .int .i64 0, .int .i64 0, .int .i64 0, .int .i64 0, .bool false, .int .i64 0, .int .i64 0, .int .i64 0, .int .i64 0, .slice none 0 0, .slice none 0 0, .slice none 0 0, .slice none 0 0, .int .i64 0, .int .i64 0, .int .i64 0, .int .i64 0, .int .i64 0, .int .i64 0, .int .i64 0, .slice none 0 0, .int .i64 0, .bool false, .int .i64 0, .int .i64 0, .int .i64 0, .bool false, .bool false, .int .i64 0, .int .i64 0, .int .i64 0, .slice none 0 0, .int .i64 0, .int .i64 0, .int .i64 0, .slice none 0 0, .slice none 0 0, .bool false, .slice none 0 0, .slice none 0 0, .int .i64 0, .int .i64 0, .slice none 0 0] HM1.out info51 rfl (mg_all ..) ?_
    refine hK.out _ _ (fun h => absurd rfl h) ?_
    clear hK K
    try simp only [Act.put]
    refine wpAnyL_done (by kernel_rfl) ?_ _
    obtain ⟨V, hV⟩ : ∃ y, y = V1.setRow m (mgC 9 (100 + s.a.id) (srT s.a) 0 0 0 0 0 0 0 0 nilS) := ⟨_, rfl⟩
    have hu : Upd V1 V m := by rw [hV]; exact Upd.row V1 m _
    have HM : Hid (V.heap[m]? = some (.cells (mgC 9 (100 + s.a.id) (srT s.a) 0 0 0 0 0 0 0 0 nilS) 51 (0, 0))) := hidOf (by rw [hV]; exact setRow_at HM1.out)
    have HA := hidOf (HA2.out.keepA (hu.keepA HM1.out (no51 _)))
    have HF := hidOf (HF2.out.upd hu (Nat.le_of_lt hmr))
    have HR : Hid (V.heap[w.heap.size]? = some (.cells #[.int .i64 0, .int .i64 0, .int .i64 0, .int .i64 0, .int .i64 0, .int .i64 0, .int .i64 0, .bool false, .int .i64 0, .int .i64 0, .int .i64 0, .int .i64 0, .slice none 0 0, .slice none 0 0, .slice none 0 0, .slice none 0 0, .int .i64 0, .int .i64 0, .int .i64 0, .int .i64 0, .int .i64 0, .int .i64 0, .int .i64 0, .slice none 0 0, .int .i64 0, .bool false, .int .i64 0, .int .i64 0, .int .i64 0, .bool false, .bool false, .int .i64 0, .int .i64 0, .int .i64 0, .slice none 0 0, .int .i64 0, .int .i64 0, .int .i64 0, .slice none 0 0, .slice none 0 0, .bool false, .slice none 0 0, .slice none 0 0, .int .i64 0, .int .i64 0, .slice none 0 0] 51 (0, 0))) := hidOf ((hu.block _ (heap_lt HR1.out) (Nat.ne_of_lt hmr)).trans HR1.out)
    rw [← hV]
    clear hV hu HM1 HF2 HA2 HR1 HF1
    have c9 : V.cell? ⟨p, 9, none⟩ = some (.int .i64 0) := by have := HA.out.b.at_ 9; rw [← he]; exact this
    have c5 : V.cell? ⟨p, 5, none⟩ = some (.int .i64 s.a.bt) := HA.out.b.at_ 5
    have lpv : p < V.heap.size := HA.out.b.lt
    have lm : m < V.heap.size := heap_lt HM.out
    have m8 : V.cell? ⟨m, 8, none⟩ = some (.int .i64 0) := (cell_of_row _ _ 8 _ 51 (0, 0) HM.out).trans rfl
    have fm : ∀ j, V.frozen? ⟨m, j, none⟩ = false := fun j => by simp [World.frozen?, HM.out]
    have HC1 : Hid (∀ Y : World, KeepA V Y → Y.cell? ⟨p, 0, none⟩ = some (.int .i64 s.a.id) ∧ Y.cell? ⟨p, 1, none⟩ = some (.int .i64 s.a.c1) ∧ Y.cell? ⟨p, 2, none⟩ = some (.int .i64 s.a.c2) ∧ Y.cell? ⟨p, 5, none⟩ = some (.int .i64 s.a.bt)) := hidOf (fun Y k => ⟨(HA.out.keepA k).b.at_ 0, (HA.out.keepA k).b.at_ 1, (HA.out.keepA k).b.at_ 2, (HA.out.keepA k).b.at_ 5⟩)
    go_upto_region 4 with (fail)
    obtain ⟨U, hU⟩ : ∃ y, y = V.setCell ⟨m, 8, none⟩ (.int .i64 s.a.bt) := ⟨_, rfl⟩
    have HMU : Hid (U.drew.heap[m]? = some (.cells (mgC 9 (100 + s.a.id) (srT s.a) s.a.bt 0 0 0 0 0 0 0 nilS) 51 (0, 0))) := hidOf (by rw [hU]; exact heap_setCell_same V m 8 _ 51 (.int .i64 s.a.bt) HM.out)
    have HU : Hid (Upd V U.drew m) := hidOf (by rw [hU]; exact (Upd.cell V m 8 _).trans (.of_below m ⟨rfl, rfl, rfl, Nat.le_refl _, fun _ _ => rfl⟩))
    rw [← hU]
    clear hU
    refine wp_region_L (fun Y : World => Y.cell? ⟨p, 0, none⟩ = some (.int .i64 s.a.id) ∧ Y.cell? ⟨p, 1, none⟩ = some (.int .i64 s.a.c1) ∧ Y.cell? ⟨p, 2, none⟩ = some (.int .i64 s.a.c2) ∧ Y.cell? ⟨p, 5, none⟩ = some (.int .i64 s.a.bt)) 15 (by kernel_rfl) ?_
    have hHeld : (fun Y : World => Y.cell? ⟨p, 0, none⟩ = some (.int .i64 s.a.id) ∧ Y.cell? ⟨p, 1, none⟩ = some (.int .i64 s.a.c1) ∧ Y.cell? ⟨p, 2, none⟩ = some (.int .i64 s.a.c2) ∧ Y.cell? ⟨p, 5, none⟩ = some (.int .i64 s.a.bt)) _ := HC1.out _ (HU.out.keepA HM.out (no51 _))
    refine wpAnyL_take (i := 0) (oi := { dst := some 22, op := Op.move (Operand.tmp 0), type := 23, pos := "message.go:10", after := #[], guard := none }) (v := .pointer (some ⟨p, 0, none⟩)) rfl (by kernel_rfl) (by kernel_rfl) (by kernel_rfl) (by kernel_rfl) (fun _ _ _ h => h) (Or.inl ⟨by rfl, ?_⟩) hHeld ?_
    · (intro w hSw; (try dsimp only at hSw); go_simp)
    try simp only [Act.put, List.setIfInBounds_toArray, List.set_cons_zero, List.set_cons_succ]
    refine wpAnyL_take (i := 1) (oi := { dst := some 23, op := Op.nilCheck (Operand.tmp 22), type := 0, pos := "message.go:10", after := #[{ on := 0, ground := Ground.data }], guard := none }) (v := .pointer (some ⟨p, 0, none⟩)) rfl (by kernel_rfl) (by kernel_rfl) (by kernel_rfl) (by kernel_rfl) (fun _ _ _ h => h) (Or.inl ⟨by rfl, ?_⟩) hHeld ?_
    · (intro w hSw; (try dsimp only at hSw); go_simp)
    try simp only [Act.put, List.setIfInBounds_toArray, List.set_cons_zero, List.set_cons_succ]
    refine wpAnyL_take (i := 2) (oi := { dst := some 24, op := Op.fieldAddr 77 (Operand.tmp 23) 0, type := 0, pos := "message.go:10", after := #[{ on := 1, ground := Ground.data }], guard := none }) (v := .pointer (some ⟨p, 0, none⟩)) rfl (by kernel_rfl) (by kernel_rfl) (by kernel_rfl) (by kernel_rfl) (fun _ _ _ h => h) (Or.inl ⟨by rfl, ?_⟩) hHeld ?_
    · (intro w hSw; (try dsimp only at hSw); go_simp)
    try simp only [Act.put, List.setIfInBounds_toArray, List.set_cons_zero, List.set_cons_succ]
    refine wpAnyL_take (i := 3) (oi := { dst := some 25, op := Op.load 3 (Operand.tmp 24), type := 3, pos := "message.go:10", after := #[{ on := 2, ground := Ground.data }], guard := none }) (v := .int .i64 s.a.id) rfl (by kernel_rfl) (by kernel_rfl) (by kernel_rfl) (by kernel_rfl) (fun _ _ _ h => h) (Or.inl ⟨by rfl, ?_⟩) hHeld ?_
    · (intro w hSw; (try dsimp only at hSw); go_simp)
    try simp only [Act.put, List.setIfInBounds_toArray, List.set_cons_zero, List.set_cons_succ]
    refine wpAnyL_take (i := 4) (oi := { dst := some 26, op := Op.move (Operand.tmp 0), type := 23, pos := "message.go:10", after := #[], guard := none }) (v := .pointer (some ⟨p, 0, none⟩)) rfl (by kernel_rfl) (by kernel_rfl) (by kernel_rfl) (by kernel_rfl) (fun _ _ _ h => h) (Or.inl ⟨by rfl, ?_⟩) hHeld ?_
    · (intro w hSw; (try dsimp only at hSw); go_simp)
    try simp only [Act.put, List.setIfInBounds_toArray, List.set_cons_zero, List.set_cons_succ]
    refine wpAnyL_take (i := 5) (oi := { dst := some 27, op := Op.nilCheck (Operand.tmp 26), type := 0, pos := "message.go:10", after := #[{ on := 4, ground := Ground.data }], guard := none }) (v := .pointer (some ⟨p, 0, none⟩)) rfl (by kernel_rfl) (by kernel_rfl) (by kernel_rfl) (by kernel_rfl) (fun _ _ _ h => h) (Or.inl ⟨by rfl, ?_⟩) hHeld ?_
    · (intro w hSw; (try dsimp only at hSw); go_simp)
    try simp only [Act.put, List.setIfInBounds_toArray, List.set_cons_zero, List.set_cons_succ]
    refine wpAnyL_take (i := 6) (oi := { dst := some 28, op := Op.fieldAddr 77 (Operand.tmp 27) 1, type := 0, pos := "message.go:10", after := #[{ on := 5, ground := Ground.data }], guard := none }) (v := .pointer (some ⟨p, 1, none⟩)) rfl (by kernel_rfl) (by kernel_rfl) (by kernel_rfl) (by kernel_rfl) (fun _ _ _ h => h) (Or.inl ⟨by rfl, ?_⟩) hHeld ?_
    · (intro w hSw; (try dsimp only at hSw); go_simp)
    try simp only [Act.put, List.setIfInBounds_toArray, List.set_cons_zero, List.set_cons_succ]
    refine wpAnyL_take (i := 7) (oi := { dst := some 29, op := Op.load 28 (Operand.tmp 28), type := 28, pos := "message.go:10", after := #[{ on := 6, ground := Ground.data }], guard := none }) (v := .agg #[.int .i64 s.a.c1, .int .i64 s.a.c2]) rfl (by kernel_rfl) (by kernel_rfl) (by kernel_rfl) (by kernel_rfl) (fun _ _ _ h => h) (Or.inl ⟨by rfl, ?_⟩) hHeld ?_
    · (intro w hSw; (try dsimp only at hSw); go_simp)
    try simp only [Act.put, List.setIfInBounds_toArray, List.set_cons_zero, List.set_cons_succ]
    refine wpAnyL_take (i := 8) (oi := { dst := some 30, op := Op.move (Operand.tmp 0), type := 23, pos := "message.go:10", after := #[], guard := none }) (v := .pointer (some ⟨p, 0, none⟩)) rfl (by kernel_rfl) (by kernel_rfl) (by kernel_rfl) (by kernel_rfl) (fun _ _ _ h => h) (Or.inl ⟨by rfl, ?_⟩) hHeld ?_
    · (intro w hSw; (try dsimp only at hSw); go_simp)
    try simp only [Act.put, List.setIfInBounds_toArray, List.set_cons_zero, List.set_cons_succ]
    refine wpAnyL_take (i := 9) (oi := { dst := some 31, op := Op.nilCheck (Operand.tmp 30), type := 0, pos := "message.go:10", after := #[{ on := 8, ground := Ground.data }], guard := none }) (v := .pointer (some ⟨p, 0, none⟩)) rfl (by kernel_rfl) (by kernel_rfl) (by kernel_rfl) (by kernel_rfl) (fun _ _ _ h => h) (Or.inl ⟨by rfl, ?_⟩) hHeld ?_
    · (intro w hSw; (try dsimp only at hSw); go_simp)
    try simp only [Act.put, List.setIfInBounds_toArray, List.set_cons_zero, List.set_cons_succ]
    refine wpAnyL_take (i := 10) (oi := { dst := some 32, op := Op.fieldAddr 77 (Operand.tmp 31) 4, type := 0, pos := "message.go:10", after := #[{ on := 9, ground := Ground.data }], guard := none }) (v := .pointer (some ⟨p, 5, none⟩)) rfl (by kernel_rfl) (by kernel_rfl) (by kernel_rfl) (by kernel_rfl) (fun _ _ _ h => h) (Or.inl ⟨by rfl, ?_⟩) hHeld ?_
    · (intro w hSw; (try dsimp only at hSw); go_simp)
    try simp only [Act.put, List.setIfInBounds_toArray, List.set_cons_zero, List.set_cons_succ]
    refine wpAnyL_take (i := 11) (oi := { dst := some 33, op := Op.load 3 (Operand.tmp 32), type := 3, pos := "message.go:10", after := #[{ on := 10, ground := Ground.data }], guard := none }) (v := .int .i64 s.a.bt) rfl (by kernel_rfl) (by kernel_rfl) (by kernel_rfl) (by kernel_rfl) (fun _ _ _ h => h) (Or.inl ⟨by rfl, ?_⟩) hHeld ?_
    · (intro w hSw; (try dsimp only at hSw); go_simp)
    try simp only [Act.put, List.setIfInBounds_toArray, List.set_cons_zero, List.set_cons_succ]
    refine wpAnyL_take (i := 12) (oi := { dst := some 34, op := Op.build 30 #[(0, Operand.tmp 25), (1, Operand.tmp 29), (4, Operand.tmp 33)], type := 30, pos := "message.go:10", after := #[{ on := 3, ground := Ground.data }, { on := 7, ground := Ground.data }, { on := 11, ground := Ground.data }], guard := none }) (v := .agg (ndC s.a.id s.a.c1 s.a.c2 s.a.bt 0 0)) rfl (by kernel_rfl) (by kernel_rfl) (by kernel_rfl) (by kernel_rfl) (fun _ _ _ h => h) (yieldsIf_build (by rfl) 30 #[(0, .tmp 25), (1, .tmp 29), (4, .tmp 33)] rfl [(0, .int .i64 s.a.id), (1, .agg #[.int .i64 s.a.c1, .int .i64 s.a.c2]), (4, .int .i64 s.a.bt)] (by kernel_rfl) _ (built30r _ _ _ _)) hHeld ?_
    try simp only [Act.put, List.setIfInBounds_toArray, List.set_cons_zero, List.set_cons_succ]
    refine wpAnyL_take (i := 13) (oi := { dst := some 35, op := Op.build 47 #[(0, Operand.const (Value.int IntKind.i64 5)), (4, Operand.tmp 34)], type := 47, pos := "message.go:10", after := #[{ on := 12, ground := Ground.data }], guard := none }) (v := .agg (cmC 5 s.a.id s.a.c1 s.a.c2 s.a.bt 0 0 nilS)) rfl (by kernel_rfl) (by kernel_rfl) (by kernel_rfl) (by kernel_rfl) (fun _ _ _ h => h) (yieldsIf_build (by rfl) 47 #[(0, .const (.int .i64 5)), (4, .tmp 34)] rfl [(0, .int .i64 5), (4, .agg (ndC s.a.id s.a.c1 s.a.c2 s.a.bt 0 0))] (by kernel_rfl) _ (built47r _ _ _ _)) hHeld ?_
    try simp only [Act.put, List.setIfInBounds_toArray, List.set_cons_zero, List.set_cons_succ]
    refine wpAnyL_take (i := 14) (oi := { dst := some 36, op := Op.fieldAddr 51 (Operand.tmp 3) 15, type := 0, pos := "message.go:10", after := #[{ on := 0, ground := Ground.phase }, { on := 1, ground := Ground.phase }, { on := 2, ground := Ground.phase }, { on := 3, ground := Ground.phase }, { on := 4, ground := Ground.phase }, { on := 5, ground := Ground.phase }, { on := 6, ground := Ground.phase }, { on := 7, ground := Ground.phase }, { on := 8, ground := Ground.phase }, { on := 9, ground := Ground.phase }, { on := 10, ground := Ground.phase }, { on := 11, ground := Ground.phase }, { on := 12, ground := Ground.phase }, { on := 13, ground := Ground.phase }], guard := none }) (v := .pointer (some ⟨m, 16, none⟩)) rfl (by kernel_rfl) (by kernel_rfl) (by kernel_rfl) (by kernel_rfl) (fun _ _ _ h => h) (Or.inl ⟨by rfl, ?_⟩) hHeld ?_
    · (intro w hSw; (try dsimp only at hSw); go_simp)
    try simp only [Act.put, List.setIfInBounds_toArray, List.set_cons_zero, List.set_cons_succ]
    refine wpAnyL_one (i := 15) (o := { dst := none, op := Op.store 47 (Operand.tmp 36) (Operand.tmp 35), type := 0, pos := "message.go:10", after := #[{ on := 14, ground := Ground.data }, { on := 13, ground := Ground.data }, { on := 0, ground := Ground.phase }, { on := 1, ground := Ground.phase }, { on := 2, ground := Ground.phase }, { on := 3, ground := Ground.phase }, { on := 4, ground := Ground.phase }, { on := 5, ground := Ground.phase }, { on := 6, ground := Ground.phase }, { on := 7, ground := Ground.phase }, { on := 8, ground := Ground.phase }, { on := 9, ground := Ground.phase }, { on := 10, ground := Ground.phase }, { on := 11, ground := Ground.phase }, { on := 12, ground := Ground.phase }, { on := 13, ground := Ground.phase }], guard := none }) (by kernel_rfl) rfl (fun K hK => ?_)
    rw [if_pos (by rfl)]
    refine wp_store_mid 47 (.tmp 36) (.tmp 35) rfl m 16 (cmC 5 s.a.id s.a.c1 s.a.c2 s.a.bt 0 0 nilS) rfl rfl (there_row HMU.out (show 16 + 27 ≤ 46 by decide)) info47 (cm_all ..) ?_
    refine hK.out _ _ (fun h => absurd rfl h) ?_
    clear hK K
    try simp only [Act.put]
    refine wpAnyL_done (by kernel_rfl) ?_ _
    obtain ⟨Z, hZ⟩ : ∃ y, y = U.drew.setCells m 16 (cmC 5 s.a.id s.a.c1 s.a.c2 s.a.bt 0 0 nilS).toList := ⟨_, rfl⟩
    have HMZ : Hid (Z.heap[m]? = some (.cells (mgC 9 (100 + s.a.id) (srT s.a) s.a.bt 5 s.a.id s.a.c1 s.a.c2 s.a.bt 0 0 nilS) 51 (0, 0))) := hidOf (by rw [hZ]; have := setCells_row m 51 (cmC 5 s.a.id s.a.c1 s.a.c2 s.a.bt 0 0 nilS).toList 16 U.drew _ HMU.out; rw [setAll_cmd] at this; exact this)
    have HZU : Hid (Upd V Z m) := hidOf (by rw [hZ]; exact HU.out.trans (Upd.cells m _ 16 U.drew))
    have HRZ : Hid (Z.heap[w.heap.size]? = some (.cells #[.int .i64 0, .int .i64 0, .int .i64 0, .int .i64 0, .int .i64 0, .int .i64 0, .int .i64 0, .bool false, .int .i64 0, .int .i64 0, .int .i64 0, .int .i64 0, .slice none 0 0, .slice none 0 0, .slice none 0 0, .slice none 0 0, .int .i64 0, .int .i64 0, .int .i64 0, .int .i64 0, .int .i64 0, .int .i64 0, .int .i64 0, .slice none 0 0, .int .i64 0, .bool false, .int .i64 0, .int .i64 0, .int .i64 0, .bool false, .bool false, .int .i64 0, .int .i64 0, .int .i64 0, .slice none 0 0, .int .i64 0, .int .i64 0, .int .i64 0, .slice none 0 0, .slice none 0 0, .bool false, .slice none 0 0, .slice none 0 0, .int .i64 0, .int .i64 0, .slice none 0 0] 51 (0, 0))) := hidOf ((HZU.out.block _ (heap_lt HR.out) (Nat.ne_of_lt hmr)).trans HR.out)
    rw [← hZ]
    clear hZ
    go_upto_region 5 with (fail)
    refine wp_region_lit ?_
    refine wpList_load_row rfl 51 (.tmp 3) rfl m rfl 51 (mgC 9 (100 + s.a.id) (srT s.a) s.a.bt 5 s.a.id s.a.c1 s.a.c2 s.a.bt 0 0 nilS) (0, 0) _ HMZ.out Tryd.underlying51 rfl info51 ?_
    try simp only [Act.put, List.setIfInBounds_toArray, List.set_cons_zero, List.set_cons_succ]
    refine wpList_store_row rfl 51 (.tmp 2) (.tmp 37) rfl w.heap.size (mgC 9 (100 + s.a.id) (srT s.a) s.a.bt 5 s.a.id s.a.c1 s.a.c2 s.a.bt 0 0 nilS) rfl rfl 51 #[.int .i64 0, .int .i64 0, .int .i64 0, .int .i64 0, .int .i64 0, .int .i64 0, .int .i64 0, .bool false, .int .i64 0, .int .i64 0, .int .i64 0, .int .i64 0, .slice none 0 0, .slice none 0 0, .slice none 0 0, .slice none 0 0, .int .i64 0, .int .i64 0, .int .i64 0, .int .i64 0, .int .i64 0, .int .i64 0, .int .i64 0, .slice none 0 0, .int .i64 0, .bool false, .int .i64 0, .int .i64 0, .int .i64 0, .bool false, .bool false, .int .i64 0, .int .i64 0, .int .i64 0, .slice none 0 0, .int .i64 0, .int .i64 0, .int .i64 0, .slice none 0 0, .slice none 0 0, .bool false, .slice none 0 0, .slice none 0 0, .int .i64 0, .int .i64 0, .slice none 0 0] HRZ.out info51 rfl (mg_all ..) ?_
    try simp only [Act.put]
    obtain ⟨E, hE⟩ : ∃ y, y = Z.setRow w.heap.size (mgC 9 (100 + s.a.id) (srT s.a) s.a.bt 5 s.a.id s.a.c1 s.a.c2 s.a.bt 0 0 nilS) := ⟨_, rfl⟩
    have HRE : Hid (E.heap[w.heap.size]? = some (.cells (mgC 9 (100 + s.a.id) (srT s.a) s.a.bt 5 s.a.id s.a.c1 s.a.c2 s.a.bt 0 0 nilS) 51 (0, 0))) := hidOf (by rw [hE]; exact setRow_at HRZ.out)
    have HUE : Hid (Upd Z E w.heap.size) := hidOf (by rw [hE]; exact Upd.row Z _ _)
    have HFF : Hid (FrA D w E) := hidOf ((HF.out.upd HZU.out (Nat.le_of_lt hmr)).upd HUE.out (Nat.le_refl _))
    have HWF := HZU
    have HKE : Hid (KeepA Z E) := hidOf (HUE.out.keepA HRZ.out (no51 _))
    rw [← hE]
    clear hE
    go_wp2
    refine bodyPost_ret (results_cell1 Tryd.results20 _ _ w.heap.size 51 (mgC 9 (100 + s.a.id) (srT s.a) s.a.bt 5 s.a.id s.a.c1 s.a.c2 s.a.bt 0 0 nilS) (0, 0) _ rfl HRE.out Tryd.underlying51 rfl info51) rfl ?_
    exact ⟨rfl, ⟨pd1, mv1, G1, (HA.out.keepA (HWF.out.keepA HM.out (no51 _))).keepA HKE.out⟩, HFF.out⟩
  · rw [if_pos (by rfl)]
    go_simp
    have HD1 := hidOf (HD0.out.below (below1 W0.drew (.cells #[.int .i64 0, .int .i64 0, .int .i64 0, .int .i64 0, .int .i64 0, .int .i64 0, .int .i64 0, .bool false, .int .i64 0, .int .i64 0, .int .i64 0, .int .i64 0, .slice none 0 0, .slice none 0 0, .slice none 0 0, .slice none 0 0, .int .i64 0, .int .i64 0, .int .i64 0, .int .i64 0, .int .i64 0, .int .i64 0, .int .i64 0, .slice none 0 0, .int .i64 0, .bool false, .int .i64 0, .int .i64 0, .int .i64 0, .bool false, .bool false, .int .i64 0, .int .i64 0, .int .i64 0, .slice none 0 0, .int .i64 0, .int .i64 0, .int .i64 0, .slice none 0 0, .slice none 0 0, .bool false, .slice none 0 0, .slice none 0 0, .int .i64 0, .int .i64 0, .slice none 0 0] 51)))
    refine hK.out _ _ (fun _ => HD1.out.b.at_ 0) ?_
    clear hK K
    try simp only [Act.put, List.setIfInBounds_toArray, List.set_cons_zero, List.set_cons_succ]
    refine wpAnyL_one (i := 6) (o := { dst := some 10, op := Op.call { callee := Callee.value (Operand.func 31), args := #[Operand.tmp 9], argTypes := #[23] }, type := 3, pos := "message.go:7", after := #[{ on := 5, ground := Ground.data }], guard := none }) (by kernel_rfl) rfl (fun K hK => ?_)
    rw [if_pos (by rfl)]
    go_simp
    refine (server_any ⟨pd, mv, G, HD1.out⟩ HSV.out HSN.out).mono ?_
    rintro e w1 ⟨rfl, ha, hf⟩
    obtain ⟨pd1, mv1, G1, ha⟩ := ha
    have HA1 := hidOf ha
    have HF1 := hidOf hf
    clear ha hf
    refine hK.out _ _ (fun _ => (HA1.out.b.at_ 0)) ?_
    clear hK K
    try simp only [Act.put, List.setIfInBounds_toArray, List.set_cons_zero, List.set_cons_succ]
    have hHeld1 : w1.cell? ⟨p, 0, none⟩ = some (.int .i64 s.a.id) := HA1.out.b.at_ 0
    refine wpAnyL_take (i := 7) (oi := { dst := some 11, op := Op.build 51 #[(0, Operand.const (Value.int IntKind.i64 9)), (1, Operand.tmp 8), (2, Operand.tmp 10)], type := 51, pos := "message.go:7", after := #[{ on := 4, ground := Ground.data }, { on := 6, ground := Ground.data }], guard := none }) (v := .agg (mgC 9 (100 + s.a.id) (srT s.a) 0 0 0 0 0 0 0 0 nilS)) rfl (by kernel_rfl) (by kernel_rfl) (by kernel_rfl) (by kernel_rfl) (fun _ _ _ h => h) (yieldsIf_build (by rfl) 51 #[(0, .const (.int .i64 9)), (1, .tmp 8), (2, .tmp 10)] rfl [(0, .int .i64 9), (1, .int .i64 (100 + s.a.id)), (2, .int .i64 (srT s.a))] (by kernel_rfl) _ (built51 _ _)) hHeld1 ?_
    try simp only [Act.put, List.setIfInBounds_toArray, List.set_cons_zero, List.set_cons_succ]
    refine wpAnyL_one (i := 9) (o := { dst := none, op := Op.store 51 (Operand.tmp 3) (Operand.tmp 11), type := 0, pos := "message.go:7", after := #[{ on := 8, ground := Ground.data }, { on := 7, ground := Ground.data }, { on := 6, ground := Ground.chain }, { on := 0, ground := Ground.phase }, { on := 1, ground := Ground.phase }, { on := 2, ground := Ground.phase }, { on := 3, ground := Ground.phase }, { on := 4, ground := Ground.phase }, { on := 5, ground := Ground.phase }, { on := 6, ground := Ground.phase }, { on := 7, ground := Ground.phase }, { on := 8, ground := Ground.phase }], guard := none }) (by kernel_rfl) rfl (fun K hK => ?_)
    rw [if_pos (by rfl)]
    obtain ⟨m, hm⟩ : ∃ m, m = W0.drew.heap.size := ⟨_, rfl⟩
    obtain ⟨V1, hV1⟩ : ∃ y, y = w1 := ⟨_, rfl⟩
    have HM1 : Hid (V1.heap[m]? = some (.cells #[.int .i64 0, .int .i64 0, .int .i64 0, .int .i64 0, .int .i64 0, .int .i64 0, .int .i64 0, .bool false, .int .i64 0, .int .i64 0, .int .i64 0, .int .i64 0, .slice none 0 0, .slice none 0 0, .slice none 0 0, .slice none 0 0, .int .i64 0, .int .i64 0, .int .i64 0, .int .i64 0, .int .i64 0, .int .i64 0, .int .i64 0, .slice none 0 0, .int .i64 0, .bool false, .int .i64 0, .int .i64 0, .int .i64 0, .bool false, .bool false, .int .i64 0, .int .i64 0, .int .i64 0, .slice none 0 0, .int .i64 0, .int .i64 0, .int .i64 0, .slice none 0 0, .slice none 0 0, .bool false, .slice none 0 0, .slice none 0 0, .int .i64 0, .int .i64 0, .slice none 0 0] 51 (0, 0))) := hidOf (by rw [hV1, hm]; exact HF1.out.cells (heap_alloc_new W0.drew _) (by decide))
    have HF2 : Hid (FrA D w V1) := hidOf (by rw [hV1]; exact (HF0.out.trans (.of_below (below1 W0.drew _))).trans HF1.out)
    have HA2 := HA1
    rw [← hV1] at HA2
    have HR1 : Hid (V1.heap[w.heap.size]? = some (.cells #[.int .i64 0, .int .i64 0, .int .i64 0, .int .i64 0, .int .i64 0, .int .i64 0, .int .i64 0, .bool false, .int .i64 0, .int .i64 0, .int .i64 0, .int .i64 0, .slice none 0 0, .slice none 0 0, .slice none 0 0, .slice none 0 0, .int .i64 0, .int .i64 0, .int .i64 0, .int .i64 0, .int .i64 0, .int .i64 0, .int .i64 0, .slice none 0 0, .int .i64 0, .bool false, .int .i64 0, .int .i64 0, .int .i64 0, .bool false, .bool false, .int .i64 0, .int .i64 0, .int .i64 0, .slice none 0 0, .int .i64 0, .int .i64 0, .int .i64 0, .slice none 0 0, .slice none 0 0, .bool false, .slice none 0 0, .slice none 0 0, .int .i64 0, .int .i64 0, .slice none 0 0] 51 (0, 0))) := hidOf (by rw [hV1]; exact HF1.out.cells (((below1 W0.drew _).block _ HL0.out).trans HR0.out) (by decide))
    have hmr : w.heap.size < m := by rw [hm]; exact HL0.out
    have hmd : W0.heap.size = m := hm.symm
    rw [← hV1]
    first | rw [← hm] | rw [hmd]
    clear hV1 hm hmd
    refine wp_store_row 51 (.tmp 3) (.tmp 11) rfl m (mgC 9 (100 + s.a.id) (srT s.a) 0 0 0 0 0 0 0 0 nilS) rfl rfl 51 #[.int .i64 0, .int .i64 0, .int .i64 0, .int .i64 0, .int .i64 0, .int .i64 0, .int .i64 0, .bool false, .int .i64 0, .int .i64 0, .int .i64 0, .int .i64 0, .slice none 0 0, .slice none 0 0, .slice none 0 0, .slice none 0 0, .int .i64 0, .int .i64 0, .int .i64 0, .int .i64 0, .int .i64 0, .int .i64 0, .int .i64 0, .slice none 0 0, .int .i64 0, .bool false, .int .i64 0, .int .i64 0, .int .i64 0, .bool false, .bool false, .int .i64 0, .int .i64 0, .int .i64 0, .slice none 0 0, .int .i64 0, .int .i64 0, .int .i64 0, .slice none 0 0, .slice none 0 0, .bool false, .slice none 0 0, .slice none 0 0, .int .i64 0, .int .i64 0, .slice none 0 0] HM1.out info51 rfl (mg_all ..) ?_
    refine hK.out _ _ (fun h => absurd rfl h) ?_
    clear hK K
    try simp only [Act.put]
    refine wpAnyL_done (by kernel_rfl) ?_ _
    obtain ⟨V, hV⟩ : ∃ y, y = V1.setRow m (mgC 9 (100 + s.a.id) (srT s.a) 0 0 0 0 0 0 0 0 nilS) := ⟨_, rfl⟩
    have hu : Upd V1 V m := by rw [hV]; exact Upd.row V1 m _
    have HM : Hid (V.heap[m]? = some (.cells (mgC 9 (100 + s.a.id) (srT s.a) 0 0 0 0 0 0 0 0 nilS) 51 (0, 0))) := hidOf (by rw [hV]; exact setRow_at HM1.out)
    have HA := hidOf (HA2.out.keepA (hu.keepA HM1.out (no51 _)))
    have HF := hidOf (HF2.out.upd hu (Nat.le_of_lt hmr))
    have HR : Hid (V.heap[w.heap.size]? = some (.cells #[.int .i64 0, .int .i64 0, .int .i64 0, .int .i64 0, .int .i64 0, .int .i64 0, .int .i64 0, .bool false, .int .i64 0, .int .i64 0, .int .i64 0, .int .i64 0, .slice none 0 0, .slice none 0 0, .slice none 0 0, .slice none 0 0, .int .i64 0, .int .i64 0, .int .i64 0, .int .i64 0, .int .i64 0, .int .i64 0, .int .i64 0, .slice none 0 0, .int .i64 0, .bool false, .int .i64 0, .int .i64 0, .int .i64 0, .bool false, .bool false, .int .i64 0, .int .i64 0, .int .i64 0, .slice none 0 0, .int .i64 0, .int .i64 0, .int .i64 0, .slice none 0 0, .slice none 0 0, .bool false, .slice none 0 0, .slice none 0 0, .int .i64 0, .int .i64 0, .slice none 0 0] 51 (0, 0))) := hidOf ((hu.block _ (heap_lt HR1.out) (Nat.ne_of_lt hmr)).trans HR1.out)
    rw [← hV]
    clear hV hu HM1 HF2 HA2 HR1 HF1
    have c9 : V.cell? ⟨p, 9, none⟩ = some (.int .i64 0) := by have := HA.out.b.at_ 9; rw [← he]; exact this
    have c5 : V.cell? ⟨p, 5, none⟩ = some (.int .i64 s.a.bt) := HA.out.b.at_ 5
    have lpv : p < V.heap.size := HA.out.b.lt
    have lm : m < V.heap.size := heap_lt HM.out
    have m8 : V.cell? ⟨m, 8, none⟩ = some (.int .i64 0) := (cell_of_row _ _ 8 _ 51 (0, 0) HM.out).trans rfl
    have fm : ∀ j, V.frozen? ⟨m, j, none⟩ = false := fun j => by simp [World.frozen?, HM.out]
    have HC1 : Hid (∀ Y : World, KeepA V Y → Y.cell? ⟨p, 0, none⟩ = some (.int .i64 s.a.id) ∧ Y.cell? ⟨p, 1, none⟩ = some (.int .i64 s.a.c1) ∧ Y.cell? ⟨p, 2, none⟩ = some (.int .i64 s.a.c2) ∧ Y.cell? ⟨p, 5, none⟩ = some (.int .i64 s.a.bt)) := hidOf (fun Y k => ⟨(HA.out.keepA k).b.at_ 0, (HA.out.keepA k).b.at_ 1, (HA.out.keepA k).b.at_ 2, (HA.out.keepA k).b.at_ 5⟩)
    go_upto_region 4 with (fail)
    obtain ⟨U, hU⟩ : ∃ y, y = V.setCell ⟨m, 8, none⟩ (.int .i64 s.a.bt) := ⟨_, rfl⟩
    have HMU : Hid (U.drew.heap[m]? = some (.cells (mgC 9 (100 + s.a.id) (srT s.a) s.a.bt 0 0 0 0 0 0 0 nilS) 51 (0, 0))) := hidOf (by rw [hU]; exact heap_setCell_same V m 8 _ 51 (.int .i64 s.a.bt) HM.out)
    have HU : Hid (Upd V U.drew m) := hidOf (by rw [hU]; exact (Upd.cell V m 8 _).trans (.of_below m ⟨rfl, rfl, rfl, Nat.le_refl _, fun _ _ => rfl⟩))
    rw [← hU]
    clear hU
    refine wp_region_L (fun Y : World => Y.cell? ⟨p, 0, none⟩ = some (.int .i64 s.a.id) ∧ Y.cell? ⟨p, 1, none⟩ = some (.int .i64 s.a.c1) ∧ Y.cell? ⟨p, 2, none⟩ = some (.int .i64 s.a.c2) ∧ Y.cell? ⟨p, 5, none⟩ = some (.int .i64 s.a.bt)) 15 (by kernel_rfl) ?_
    have hHeld : (fun Y : World => Y.cell? ⟨p, 0, none⟩ = some (.int .i64 s.a.id) ∧ Y.cell? ⟨p, 1, none⟩ = some (.int .i64 s.a.c1) ∧ Y.cell? ⟨p, 2, none⟩ = some (.int .i64 s.a.c2) ∧ Y.cell? ⟨p, 5, none⟩ = some (.int .i64 s.a.bt)) _ := HC1.out _ (HU.out.keepA HM.out (no51 _))
    refine wpAnyL_take (i := 0) (oi := { dst := some 22, op := Op.move (Operand.tmp 0), type := 23, pos := "message.go:10", after := #[], guard := none }) (v := .pointer (some ⟨p, 0, none⟩)) rfl (by kernel_rfl) (by kernel_rfl) (by kernel_rfl) (by kernel_rfl) (fun _ _ _ h => h) (Or.inl ⟨by rfl, ?_⟩) hHeld ?_
    · (intro w hSw; (try dsimp only at hSw); go_simp)
    try simp only [Act.put, List.setIfInBounds_toArray, List.set_cons_zero, List.set_cons_succ]
    refine wpAnyL_take (i := 1) (oi := { dst := some 23, op := Op.nilCheck (Operand.tmp 22), type := 0, pos := "message.go:10", after := #[{ on := 0, ground := Ground.data }], guard := none }) (v := .pointer (some ⟨p, 0, none⟩)) rfl (by kernel_rfl) (by kernel_rfl) (by kernel_rfl) (by kernel_rfl) (fun _ _ _ h => h) (Or.inl ⟨by rfl, ?_⟩) hHeld ?_
    · (intro w hSw; (try dsimp only at hSw); go_simp)
    try simp only [Act.put, List.setIfInBounds_toArray, List.set_cons_zero, List.set_cons_succ]
    refine wpAnyL_take (i := 2) (oi := { dst := some 24, op := Op.fieldAddr 77 (Operand.tmp 23) 0, type := 0, pos := "message.go:10", after := #[{ on := 1, ground := Ground.data }], guard := none }) (v := .pointer (some ⟨p, 0, none⟩)) rfl (by kernel_rfl) (by kernel_rfl) (by kernel_rfl) (by kernel_rfl) (fun _ _ _ h => h) (Or.inl ⟨by rfl, ?_⟩) hHeld ?_
    · (intro w hSw; (try dsimp only at hSw); go_simp)
    try simp only [Act.put, List.setIfInBounds_toArray, List.set_cons_zero, List.set_cons_succ]
    refine wpAnyL_take (i := 3) (oi := { dst := some 25, op := Op.load 3 (Operand.tmp 24), type := 3, pos := "message.go:10", after := #[{ on := 2, ground := Ground.data }], guard := none }) (v := .int .i64 s.a.id) rfl (by kernel_rfl) (by kernel_rfl) (by kernel_rfl) (by kernel_rfl) (fun _ _ _ h => h) (Or.inl ⟨by rfl, ?_⟩) hHeld ?_
    · (intro w hSw; (try dsimp only at hSw); go_simp)
    try simp only [Act.put, List.setIfInBounds_toArray, List.set_cons_zero, List.set_cons_succ]
    refine wpAnyL_take (i := 4) (oi := { dst := some 26, op := Op.move (Operand.tmp 0), type := 23, pos := "message.go:10", after := #[], guard := none }) (v := .pointer (some ⟨p, 0, none⟩)) rfl (by kernel_rfl) (by kernel_rfl) (by kernel_rfl) (by kernel_rfl) (fun _ _ _ h => h) (Or.inl ⟨by rfl, ?_⟩) hHeld ?_
    · (intro w hSw; (try dsimp only at hSw); go_simp)
    try simp only [Act.put, List.setIfInBounds_toArray, List.set_cons_zero, List.set_cons_succ]
    refine wpAnyL_take (i := 5) (oi := { dst := some 27, op := Op.nilCheck (Operand.tmp 26), type := 0, pos := "message.go:10", after := #[{ on := 4, ground := Ground.data }], guard := none }) (v := .pointer (some ⟨p, 0, none⟩)) rfl (by kernel_rfl) (by kernel_rfl) (by kernel_rfl) (by kernel_rfl) (fun _ _ _ h => h) (Or.inl ⟨by rfl, ?_⟩) hHeld ?_
    · (intro w hSw; (try dsimp only at hSw); go_simp)
    try simp only [Act.put, List.setIfInBounds_toArray, List.set_cons_zero, List.set_cons_succ]
    refine wpAnyL_take (i := 6) (oi := { dst := some 28, op := Op.fieldAddr 77 (Operand.tmp 27) 1, type := 0, pos := "message.go:10", after := #[{ on := 5, ground := Ground.data }], guard := none }) (v := .pointer (some ⟨p, 1, none⟩)) rfl (by kernel_rfl) (by kernel_rfl) (by kernel_rfl) (by kernel_rfl) (fun _ _ _ h => h) (Or.inl ⟨by rfl, ?_⟩) hHeld ?_
    · (intro w hSw; (try dsimp only at hSw); go_simp)
    try simp only [Act.put, List.setIfInBounds_toArray, List.set_cons_zero, List.set_cons_succ]
    refine wpAnyL_take (i := 7) (oi := { dst := some 29, op := Op.load 28 (Operand.tmp 28), type := 28, pos := "message.go:10", after := #[{ on := 6, ground := Ground.data }], guard := none }) (v := .agg #[.int .i64 s.a.c1, .int .i64 s.a.c2]) rfl (by kernel_rfl) (by kernel_rfl) (by kernel_rfl) (by kernel_rfl) (fun _ _ _ h => h) (Or.inl ⟨by rfl, ?_⟩) hHeld ?_
    · (intro w hSw; (try dsimp only at hSw); go_simp)
    try simp only [Act.put, List.setIfInBounds_toArray, List.set_cons_zero, List.set_cons_succ]
    refine wpAnyL_take (i := 8) (oi := { dst := some 30, op := Op.move (Operand.tmp 0), type := 23, pos := "message.go:10", after := #[], guard := none }) (v := .pointer (some ⟨p, 0, none⟩)) rfl (by kernel_rfl) (by kernel_rfl) (by kernel_rfl) (by kernel_rfl) (fun _ _ _ h => h) (Or.inl ⟨by rfl, ?_⟩) hHeld ?_
    · (intro w hSw; (try dsimp only at hSw); go_simp)
    try simp only [Act.put, List.setIfInBounds_toArray, List.set_cons_zero, List.set_cons_succ]
    refine wpAnyL_take (i := 9) (oi := { dst := some 31, op := Op.nilCheck (Operand.tmp 30), type := 0, pos := "message.go:10", after := #[{ on := 8, ground := Ground.data }], guard := none }) (v := .pointer (some ⟨p, 0, none⟩)) rfl (by kernel_rfl) (by kernel_rfl) (by kernel_rfl) (by kernel_rfl) (fun _ _ _ h => h) (Or.inl ⟨by rfl, ?_⟩) hHeld ?_
    · (intro w hSw; (try dsimp only at hSw); go_simp)
    try simp only [Act.put, List.setIfInBounds_toArray, List.set_cons_zero, List.set_cons_succ]
    refine wpAnyL_take (i := 10) (oi := { dst := some 32, op := Op.fieldAddr 77 (Operand.tmp 31) 4, type := 0, pos := "message.go:10", after := #[{ on := 9, ground := Ground.data }], guard := none }) (v := .pointer (some ⟨p, 5, none⟩)) rfl (by kernel_rfl) (by kernel_rfl) (by kernel_rfl) (by kernel_rfl) (fun _ _ _ h => h) (Or.inl ⟨by rfl, ?_⟩) hHeld ?_
    · (intro w hSw; (try dsimp only at hSw); go_simp)
    try simp only [Act.put, List.setIfInBounds_toArray, List.set_cons_zero, List.set_cons_succ]
    refine wpAnyL_take (i := 11) (oi := { dst := some 33, op := Op.load 3 (Operand.tmp 32), type := 3, pos := "message.go:10", after := #[{ on := 10, ground := Ground.data }], guard := none }) (v := .int .i64 s.a.bt) rfl (by kernel_rfl) (by kernel_rfl) (by kernel_rfl) (by kernel_rfl) (fun _ _ _ h => h) (Or.inl ⟨by rfl, ?_⟩) hHeld ?_
    · (intro w hSw; (try dsimp only at hSw); go_simp)
    try simp only [Act.put, List.setIfInBounds_toArray, List.set_cons_zero, List.set_cons_succ]
    refine wpAnyL_take (i := 12) (oi := { dst := some 34, op := Op.build 30 #[(0, Operand.tmp 25), (1, Operand.tmp 29), (4, Operand.tmp 33)], type := 30, pos := "message.go:10", after := #[{ on := 3, ground := Ground.data }, { on := 7, ground := Ground.data }, { on := 11, ground := Ground.data }], guard := none }) (v := .agg (ndC s.a.id s.a.c1 s.a.c2 s.a.bt 0 0)) rfl (by kernel_rfl) (by kernel_rfl) (by kernel_rfl) (by kernel_rfl) (fun _ _ _ h => h) (yieldsIf_build (by rfl) 30 #[(0, .tmp 25), (1, .tmp 29), (4, .tmp 33)] rfl [(0, .int .i64 s.a.id), (1, .agg #[.int .i64 s.a.c1, .int .i64 s.a.c2]), (4, .int .i64 s.a.bt)] (by kernel_rfl) _ (built30r _ _ _ _)) hHeld ?_
    try simp only [Act.put, List.setIfInBounds_toArray, List.set_cons_zero, List.set_cons_succ]
    refine wpAnyL_take (i := 13) (oi := { dst := some 35, op := Op.build 47 #[(0, Operand.const (Value.int IntKind.i64 5)), (4, Operand.tmp 34)], type := 47, pos := "message.go:10", after := #[{ on := 12, ground := Ground.data }], guard := none }) (v := .agg (cmC 5 s.a.id s.a.c1 s.a.c2 s.a.bt 0 0 nilS)) rfl (by kernel_rfl) (by kernel_rfl) (by kernel_rfl) (by kernel_rfl) (fun _ _ _ h => h) (yieldsIf_build (by rfl) 47 #[(0, .const (.int .i64 5)), (4, .tmp 34)] rfl [(0, .int .i64 5), (4, .agg (ndC s.a.id s.a.c1 s.a.c2 s.a.bt 0 0))] (by kernel_rfl) _ (built47r _ _ _ _)) hHeld ?_
    try simp only [Act.put, List.setIfInBounds_toArray, List.set_cons_zero, List.set_cons_succ]
    refine wpAnyL_take (i := 14) (oi := { dst := some 36, op := Op.fieldAddr 51 (Operand.tmp 3) 15, type := 0, pos := "message.go:10", after := #[{ on := 0, ground := Ground.phase }, { on := 1, ground := Ground.phase }, { on := 2, ground := Ground.phase }, { on := 3, ground := Ground.phase }, { on := 4, ground := Ground.phase }, { on := 5, ground := Ground.phase }, { on := 6, ground := Ground.phase }, { on := 7, ground := Ground.phase }, { on := 8, ground := Ground.phase }, { on := 9, ground := Ground.phase }, { on := 10, ground := Ground.phase }, { on := 11, ground := Ground.phase }, { on := 12, ground := Ground.phase }, { on := 13, ground := Ground.phase }], guard := none }) (v := .pointer (some ⟨m, 16, none⟩)) rfl (by kernel_rfl) (by kernel_rfl) (by kernel_rfl) (by kernel_rfl) (fun _ _ _ h => h) (Or.inl ⟨by rfl, ?_⟩) hHeld ?_
    · (intro w hSw; (try dsimp only at hSw); go_simp)
    try simp only [Act.put, List.setIfInBounds_toArray, List.set_cons_zero, List.set_cons_succ]
    refine wpAnyL_one (i := 15) (o := { dst := none, op := Op.store 47 (Operand.tmp 36) (Operand.tmp 35), type := 0, pos := "message.go:10", after := #[{ on := 14, ground := Ground.data }, { on := 13, ground := Ground.data }, { on := 0, ground := Ground.phase }, { on := 1, ground := Ground.phase }, { on := 2, ground := Ground.phase }, { on := 3, ground := Ground.phase }, { on := 4, ground := Ground.phase }, { on := 5, ground := Ground.phase }, { on := 6, ground := Ground.phase }, { on := 7, ground := Ground.phase }, { on := 8, ground := Ground.phase }, { on := 9, ground := Ground.phase }, { on := 10, ground := Ground.phase }, { on := 11, ground := Ground.phase }, { on := 12, ground := Ground.phase }, { on := 13, ground := Ground.phase }], guard := none }) (by kernel_rfl) rfl (fun K hK => ?_)
    rw [if_pos (by rfl)]
    refine wp_store_mid 47 (.tmp 36) (.tmp 35) rfl m 16 (cmC 5 s.a.id s.a.c1 s.a.c2 s.a.bt 0 0 nilS) rfl rfl (there_row HMU.out (show 16 + 27 ≤ 46 by decide)) info47 (cm_all ..) ?_
    refine hK.out _ _ (fun h => absurd rfl h) ?_
    clear hK K
    try simp only [Act.put]
    refine wpAnyL_done (by kernel_rfl) ?_ _
    obtain ⟨Z, hZ⟩ : ∃ y, y = U.drew.setCells m 16 (cmC 5 s.a.id s.a.c1 s.a.c2 s.a.bt 0 0 nilS).toList := ⟨_, rfl⟩
    have HMZ : Hid (Z.heap[m]? = some (.cells (mgC 9 (100 + s.a.id) (srT s.a) s.a.bt 5 s.a.id s.a.c1 s.a.c2 s.a.bt 0 0 nilS) 51 (0, 0))) := hidOf (by rw [hZ]; have := setCells_row m 51 (cmC 5 s.a.id s.a.c1 s.a.c2 s.a.bt 0 0 nilS).toList 16 U.drew _ HMU.out; rw [setAll_cmd] at this; exact this)
    have HZU : Hid (Upd V Z m) := hidOf (by rw [hZ]; exact HU.out.trans (Upd.cells m _ 16 U.drew))
    have HRZ : Hid (Z.heap[w.heap.size]? = some (.cells #[.int .i64 0, .int .i64 0, .int .i64 0, .int .i64 0, .int .i64 0, .int .i64 0, .int .i64 0, .bool false, .int .i64 0, .int .i64 0, .int .i64 0, .int .i64 0, .slice none 0 0, .slice none 0 0, .slice none 0 0, .slice none 0 0, .int .i64 0, .int .i64 0, .int .i64 0, .int .i64 0, .int .i64 0, .int .i64 0, .int .i64 0, .slice none 0 0, .int .i64 0, .bool false, .int .i64 0, .int .i64 0, .int .i64 0, .bool false, .bool false, .int .i64 0, .int .i64 0, .int .i64 0, .slice none 0 0, .int .i64 0, .int .i64 0, .int .i64 0, .slice none 0 0, .slice none 0 0, .bool false, .slice none 0 0, .slice none 0 0, .int .i64 0, .int .i64 0, .slice none 0 0] 51 (0, 0))) := hidOf ((HZU.out.block _ (heap_lt HR.out) (Nat.ne_of_lt hmr)).trans HR.out)
    rw [← hZ]
    clear hZ
    go_upto_region 5 with (fail)
    refine wp_region_lit ?_
    refine wpList_load_row rfl 51 (.tmp 3) rfl m rfl 51 (mgC 9 (100 + s.a.id) (srT s.a) s.a.bt 5 s.a.id s.a.c1 s.a.c2 s.a.bt 0 0 nilS) (0, 0) _ HMZ.out Tryd.underlying51 rfl info51 ?_
    try simp only [Act.put, List.setIfInBounds_toArray, List.set_cons_zero, List.set_cons_succ]
    refine wpList_store_row rfl 51 (.tmp 2) (.tmp 37) rfl w.heap.size (mgC 9 (100 + s.a.id) (srT s.a) s.a.bt 5 s.a.id s.a.c1 s.a.c2 s.a.bt 0 0 nilS) rfl rfl 51 #[.int .i64 0, .int .i64 0, .int .i64 0, .int .i64 0, .int .i64 0, .int .i64 0, .int .i64 0, .bool false, .int .i64 0, .int .i64 0, .int .i64 0, .int .i64 0, .slice none 0 0, .slice none 0 0, .slice none 0 0, .slice none 0 0, .int .i64 0, .int .i64 0, .int .i64 0, .int .i64 0, .int .i64 0, .int .i64 0, .int .i64 0, .slice none 0 0, .int .i64 0, .bool false, .int .i64 0, .int .i64 0, .int .i64 0, .bool false, .bool false, .int .i64 0, .int .i64 0, .int .i64 0, .slice none 0 0, .int .i64 0, .int .i64 0, .int .i64 0, .slice none 0 0, .slice none 0 0, .bool false, .slice none 0 0, .slice none 0 0, .int .i64 0, .int .i64 0, .slice none 0 0] HRZ.out info51 rfl (mg_all ..) ?_
    try simp only [Act.put]
    obtain ⟨E, hE⟩ : ∃ y, y = Z.setRow w.heap.size (mgC 9 (100 + s.a.id) (srT s.a) s.a.bt 5 s.a.id s.a.c1 s.a.c2 s.a.bt 0 0 nilS) := ⟨_, rfl⟩
    have HRE : Hid (E.heap[w.heap.size]? = some (.cells (mgC 9 (100 + s.a.id) (srT s.a) s.a.bt 5 s.a.id s.a.c1 s.a.c2 s.a.bt 0 0 nilS) 51 (0, 0))) := hidOf (by rw [hE]; exact setRow_at HRZ.out)
    have HUE : Hid (Upd Z E w.heap.size) := hidOf (by rw [hE]; exact Upd.row Z _ _)
    have HFF : Hid (FrA D w E) := hidOf ((HF.out.upd HZU.out (Nat.le_of_lt hmr)).upd HUE.out (Nat.le_refl _))
    have HWF := HZU
    have HKE : Hid (KeepA Z E) := hidOf (HUE.out.keepA HRZ.out (no51 _))
    rw [← hE]
    clear hE
    go_wp2
    refine bodyPost_ret (results_cell1 Tryd.results20 _ _ w.heap.size 51 (mgC 9 (100 + s.a.id) (srT s.a) s.a.bt 5 s.a.id s.a.c1 s.a.c2 s.a.bt 0 0 nilS) (0, 0) _ rfl HRE.out Tryd.underlying51 rfl info51) rfl ?_
    exact ⟨rfl, ⟨pd1, mv1, G1, (HA.out.keepA (HWF.out.keepA HM.out (no51 _))).keepA HKE.out⟩, HFF.out⟩
end Go.Proofs.YtkienmncifonnaaDoor
