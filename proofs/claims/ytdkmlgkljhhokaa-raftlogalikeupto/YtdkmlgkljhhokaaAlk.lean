/- alike: do both logs begin and end alike, with the same entries between? -/
import Derived.Test.YtdkmlgkljhhokaaDoe
namespace Go.Proofs.Ytdkmlgkljhhokaa
open Go.RowKit

theorem slice_all {M : Lg} (h : M.L.length ≤ 33554432) : sliceM M (M.bi + 1) 1073741824 = M.L := by
  unfold sliceM
  by_cases hl : M.L = []
  · rw [if_pos (by unfold lastI; rw [hl]; simp; omega), hl]
  · have h0 : 0 < M.L.length := List.length_pos_iff.2 hl
    rw [if_neg (by unfold lastI; omega), show (M.bi + 1 - M.bi - 1).toNat = 0 by omega, List.drop_zero, List.take_of_length_le (by omega)]
section
variable {w0 w : World} {p q : Nat} {M : Lg}
set_option maxHeartbeats 8000000 in
set_option maxRecDepth 100000 in
theorem alike_any (h : TwL w0 w p q M) : Calls Try.prog 12 #[.pointer (some ⟨p, 0, none⟩), .pointer (some ⟨q, 0, none⟩)] w fun e w' => e = .returned (.bool true) ∧ TwL w0 w' p q M ∧ Below w.heap.size w w' := by
  obtain ⟨v, u, h⟩ := h
  have HT := hidOf h
  have HSA := hidOf (slice_all h.c.len)
  have HML : Hid (M.L.length ≤ 67108864) := hidOf (by have := h.c.len; omega)
  have hb0 := h.c.wf.b0
  have hb1 := h.c.wf.b1
  have HBA := hidOf (base_any h.c)
  obtain ⟨ua, uc, hu⟩ := h.r.form
  subst hu
  obtain ⟨un, hun⟩ : ∃ n, n = M.L.length := ⟨_, rfl⟩
  rw [← hun] at HT h
  clear hun
  have HLA := hidOf (fun (w' : World) (hb : Below w.heap.size w w') => last_any (h.c.below hb))
  have HLR := hidOf (fun (w' : World) (hb : Below w.heap.size w w') => rlast_any (h.r.below hb))
  clear h
  obtain ⟨bi, bt, hbi, hbt⟩ : ∃ a b, a = M.bi ∧ b = M.bt := ⟨_, _, rfl, rfl⟩
  rw [← hbi] at HSA hb0 hb1
  rw [← hbi, ← hbt] at HBA
  have HBI := hidOf hbi
  have HBT := hidOf hbt
  clear hbi hbt
  generalize lastI M = li at *
  generalize lastT M = lt at *
  go_enter Try.func12, Try.ntmps12
  go_upto_region 4 with (first
    | (go_at_call 21; refine HBA.out.mono ?_; rintro e w1 ⟨rfl, hd⟩; have B1 := hidOf hd.bel; clear hd)
    | (go_at_call 16; refine (HLA.out _ B1.out).mono ?_; rintro e w2 ⟨rfl, hd⟩; have B2 := hidOf (B1.out.trans (hd.bel.mono B1.out.size)); clear hd)
    | (go_at_call 32; refine (HLR.out _ B2.out).mono ?_; rintro e w4 ⟨rfl, hw4⟩; subst w4))
  have HTd := hidOf (HT.out.below (B2.out.trans ((bdrew w2).mono B2.out.size)))
  have d2 := HTd.out.r.cells.2.2.1
  refine wp_region_held_drew (S := fun wz : World => wz.cell? ⟨q, 2, none⟩ = some (.slice ua un uc)) (by kernel_rfl) d2 (fun hHeld => ?_)
  refine wpAnyH_take (i := 0) (oi := { dst := some 27, op := Op.move (Operand.tmp 0), type := 23, pos := "law.go:85", after := #[], guard := none }) (v := .pointer (some ⟨p, 0, none⟩)) rfl (by kernel_rfl) (by kernel_rfl) (by kernel_rfl) (fun _ _ _ h => h) (Or.inl ⟨by rfl, ?_⟩) hHeld ?_
  · (intro w hSw; (try dsimp only at hSw); go_simp)
  try simp only [Act.put, List.setIfInBounds_toArray, List.set_cons_zero, List.set_cons_succ]
  refine wpAnyH_take (i := 1) (oi := { dst := some 28, op := Op.move (Operand.tmp 5), type := 3, pos := "law.go:85", after := #[], guard := none }) (v := .int .i64 bi) rfl (by kernel_rfl) (by kernel_rfl) (by kernel_rfl) (fun _ _ _ h => h) (Or.inl ⟨by rfl, ?_⟩) hHeld ?_
  · (intro w hSw; (try dsimp only at hSw); go_simp)
  try simp only [Act.put, List.setIfInBounds_toArray, List.set_cons_zero, List.set_cons_succ]
  refine wpAnyH_take (i := 2) (oi := { dst := some 29, op := Op.binOp BinOp.add 3 (Operand.tmp 28) (Operand.const (Value.int IntKind.i64 1)) 3, type := 3, pos := "law.go:85", after := #[{ on := 1, ground := Ground.data }], guard := none }) (v := .int .i64 (bi + 1)) rfl (by kernel_rfl) (by kernel_rfl) (by kernel_rfl) (fun _ _ _ h => h) (Or.inl ⟨by rfl, ?_⟩) hHeld ?_
  · (intro w hSw; (try dsimp only at hSw); go_simp; exact IntWalk.i64_in _ (by omega))
  try simp only [Act.put, List.setIfInBounds_toArray, List.set_cons_zero, List.set_cons_succ]
  refine wpAnyH_take (i := 4) (oi := { dst := some 31, op := Op.move (Operand.tmp 1), type := 25, pos := "law.go:85", after := #[], guard := none }) (v := .pointer (some ⟨q, 0, none⟩)) rfl (by kernel_rfl) (by kernel_rfl) (by kernel_rfl) (fun _ _ _ h => h) (Or.inl ⟨by rfl, ?_⟩) hHeld ?_
  · (intro w hSw; (try dsimp only at hSw); go_simp)
  try simp only [Act.put, List.setIfInBounds_toArray, List.set_cons_zero, List.set_cons_succ]
  refine wpAnyH_take (i := 5) (oi := { dst := some 32, op := Op.nilCheck (Operand.tmp 31), type := 0, pos := "law.go:85", after := #[{ on := 4, ground := Ground.data }], guard := none }) (v := .pointer (some ⟨q, 0, none⟩)) rfl (by kernel_rfl) (by kernel_rfl) (by kernel_rfl) (fun _ _ _ h => h) (Or.inl ⟨by rfl, ?_⟩) hHeld ?_
  · (intro w hSw; (try dsimp only at hSw); go_simp)
  try simp only [Act.put, List.setIfInBounds_toArray, List.set_cons_zero, List.set_cons_succ]
  refine wpAnyH_take (i := 6) (oi := { dst := some 33, op := Op.fieldAddr 69 (Operand.tmp 32) 2, type := 0, pos := "law.go:85", after := #[{ on := 5, ground := Ground.data }], guard := none }) (v := .pointer (some ⟨q, 2, none⟩)) rfl (by kernel_rfl) (by kernel_rfl) (by kernel_rfl) (fun _ _ _ h => h) (Or.inl ⟨by rfl, ?_⟩) hHeld ?_
  · (intro w hSw; (try dsimp only at hSw); go_simp)
  try simp only [Act.put, List.setIfInBounds_toArray, List.set_cons_zero, List.set_cons_succ]
  refine wpAnyH_take (i := 7) (oi := { dst := some 34, op := Op.load 28 (Operand.tmp 33), type := 28, pos := "law.go:85", after := #[{ on := 6, ground := Ground.data }], guard := none }) (v := .slice ua un uc) rfl (by kernel_rfl) (by kernel_rfl) (by kernel_rfl) (fun _ _ _ h => h) (Or.inl ⟨by rfl, ?_⟩) hHeld ?_
  · (intro w hSw; go_simp)
  try simp only [Act.put, List.setIfInBounds_toArray, List.set_cons_zero, List.set_cons_succ]
  refine wpAnyH_ready (rs := [3]) (by kernel_rfl) (by simp) ?_
  refine AllReadyH.cons (o := { dst := some 30, op := Op.call { callee := Callee.value (Operand.func 19), args := #[Operand.tmp 27, Operand.tmp 29, Operand.const (Value.int IntKind.i64 1073741824)], argTypes := #[23, 3, 3] }, type := 28, pos := "law.go:85", after := #[{ on := 0, ground := Ground.data }, { on := 2, ground := Ground.data }], guard := none }) rfl (fun K hK => ?_) AllReadyH.nil
  go_simp
  refine (slice_any HTd.out.c (bi + 1) 1073741824).mono ?_
  rintro en w3 ⟨s3, rfl, o3, b3, n3⟩
  rw [HSA.out] at o3
  have HT3 := hidOf (HTd.out.below b3)
  have B3X := hidOf ((B2.out.trans ((bdrew w2).mono B2.out.size)).trans (b3.mono B2.out.size))
  have HO3 := hidOf o3
  have e2 := HT3.out.r.cells.2.2.1
  clear o3 b3 n3
  refine hK.out _ _ e2 (fun hHeld1 => ?_)
  clear hK K
  try simp only [Act.put, List.setIfInBounds_toArray, List.set_cons_zero, List.set_cons_succ]
  refine wpAnyH_ready (rs := [8]) (by kernel_rfl) (by simp) ?_
  refine AllReadyH.cons (o := { dst := some 35, op := Op.call { callee := Callee.value (Operand.func 20), args := #[Operand.tmp 30, Operand.tmp 34], argTypes := #[28, 28] }, type := 4, pos := "law.go:85", after := #[{ on := 3, ground := Ground.data }, { on := 7, ground := Ground.data }, { on := 3, ground := Ground.chain }], guard := none }) rfl (fun K hK => ?_) AllReadyH.nil
  go_simp
  have hS := entries_any w0 w3 HT3.out.w0le s3 _ _ _ HO3.out.es HT3.out.r.own.es ⟨HML.out, HML.out⟩
  rw [show decide (M.L = M.L) = true by simp] at hS
  refine hS.mono ?_
  rintro en w5 ⟨rfl, b5⟩
  have HT5 := hidOf (HT3.out.below b5)
  have B5X := hidOf (B3X.out.trans (b5.mono B3X.out.size))
  have e3 := HT5.out.r.cells.2.2.1
  clear b5 hS
  refine hK.out _ _ e3 (fun hHeld2 => ?_)
  clear hK K
  try simp only [Act.put, List.setIfInBounds_toArray, List.set_cons_zero, List.set_cons_succ]
  refine wpAnyH_take (i := 9) (oi := { dst := some 11, op := Op.assign (Operand.tmp 35), type := 4, pos := "law.go:85", after := #[{ on := 8, ground := Ground.data }, { on := 8, ground := Ground.chain }, { on := 0, ground := Ground.phase }, { on := 1, ground := Ground.phase }, { on := 2, ground := Ground.phase }, { on := 3, ground := Ground.phase }, { on := 4, ground := Ground.phase }, { on := 5, ground := Ground.phase }, { on := 6, ground := Ground.phase }, { on := 7, ground := Ground.phase }, { on := 8, ground := Ground.phase }], guard := none }) (v := .bool true) rfl (by kernel_rfl) (by kernel_rfl) (by kernel_rfl) (fun _ _ _ h => h) (Or.inl ⟨by rfl, ?_⟩) hHeld2 ?_
  · (intro w hSw; (try dsimp only at hSw); go_simp)
  try simp only [Act.put, List.setIfInBounds_toArray, List.set_cons_zero, List.set_cons_succ]
  refine wpAnyH_done (by kernel_rfl) ?_ _
  have HB5 : Hid (Below w.heap.size w w5) := hidOf B5X.out
  obtain ⟨f0, f1, f2, f3, f4⟩ := HT5.out.r.cells
  rw [← HBI.out] at f0
  rw [← HBT.out] at f1
  go_wp2
  go_ret
  exact ⟨by simp, ⟨_, _, HT5.out⟩, HB5.out⟩
end
end Go.Proofs.Ytdkmlgkljhhokaa
