/- Remove and Rename, by the document. -/
import Derived.Test.YtkbmfookdhlphaaRww
import Derived.Deep.RegionHeld3
namespace Go.Proofs.Ytkbmfookdhlphaa
open Go.RowKit Go.Sort

set_option maxHeartbeats 4000000 in
set_option maxRecDepth 100000 in
theorem mv2_bad1 (q : Nat) (M : Md) (a : Option Addr) (cap : Nat) (l : List Fe) (dn : Value) (G : List Ge) (w : World) (m : Nat) (_h : RfR w q M a cap l dn G) (_hr : RcM M m) (s t : ByteArray) (hs : s.size ≤ maxLen) (ht : t.size ≤ maxLen) (hn : nameL s.data.toList = false) : Calls Try.prog 57 #[.pointer (some ⟨q, 0, none⟩), .agg #[.int .i64 2, .string s, .string t, .slice none 0 0]] w fun e w' => e = .returned (.int .i64 1) ∧ Below w.heap.size w w' := by
  have HN := fun (w : World) => rname_any s w hs
  have HT := fun (w : World) => rname_any t w ht
  rw [hn] at HN
  have HN := hidOf HN
  have HT := hidOf HT
  have TT : True := trivial
  have HB0 : Hid (Below w.heap.size w (w.alloc (.cells #[.int .i64 2, .string s, .string t, .slice none 0 0] 82))) := hidOf (below1 w _)
  have hbx := geAt_new w ⟨2, s, t, none, 0, []⟩
  obtain ⟨b0, b1, b2, b3⟩ := hbx
  have b0 : (w.alloc (.cells #[.int .i64 2, .string s, .string t, .slice none 0 0] 82)).cell? ⟨w.heap.size, 0, none⟩ = some (.int .i64 2) := b0
  have b1 : (w.alloc (.cells #[.int .i64 2, .string s, .string t, .slice none 0 0] 82)).cell? ⟨w.heap.size, 1, none⟩ = some (.string s) := b1
  have b2 : (w.alloc (.cells #[.int .i64 2, .string s, .string t, .slice none 0 0] 82)).cell? ⟨w.heap.size, 2, none⟩ = some (.string t) := b2
  have b3 : (w.alloc (.cells #[.int .i64 2, .string s, .string t, .slice none 0 0] 82)).cell? ⟨w.heap.size, 3, none⟩ = some (.slice none 0 0) := b3
  have HBX : Hid (GeAt (w.alloc (.cells #[.int .i64 2, .string s, .string t, .slice none 0 0] 82)).drew w.heap.size ⟨2, s, t, none, 0, []⟩) := hidOf (geAt_new w ⟨2, s, t, none, 0, []⟩)
  clear _h _hr hs ht hn
  go_enter Try.func57, Try.ntmps57
  go_wp2_with (first
    | (go_at_call 55; have hh := TT; clear TT; refine (HN.out _).mono ?_; rintro e w' ⟨rfl, hw⟩; replace hw := hw.symm; subst hw)
    | (go_at_call 55; refine (HT.out _).mono ?_; rintro e w' ⟨rfl, hw⟩; replace hw := hw.symm; subst hw))
  go_ret
  exact ⟨rfl, HB0.out⟩
set_option maxHeartbeats 4000000 in
set_option maxRecDepth 100000 in
theorem mv2_bad2 (q : Nat) (M : Md) (a : Option Addr) (cap : Nat) (l : List Fe) (dn : Value) (G : List Ge) (w : World) (m : Nat) (_h : RfR w q M a cap l dn G) (_hr : RcM M m) (s t : ByteArray) (hs : s.size ≤ maxLen) (ht : t.size ≤ maxLen) (hn : nameL s.data.toList = true) (hn2 : nameL t.data.toList = false) : Calls Try.prog 57 #[.pointer (some ⟨q, 0, none⟩), .agg #[.int .i64 2, .string s, .string t, .slice none 0 0]] w fun e w' => e = .returned (.int .i64 1) ∧ Below w.heap.size w w' := by
  have HN := fun (w : World) => rname_any s w hs
  have HT := fun (w : World) => rname_any t w ht
  rw [hn] at HN
  rw [hn2] at HT
  have HN := hidOf HN
  have HT := hidOf HT
  have TT : True := trivial
  have HB0 : Hid (Below w.heap.size w (w.alloc (.cells #[.int .i64 2, .string s, .string t, .slice none 0 0] 82))) := hidOf (below1 w _)
  have hbx := geAt_new w ⟨2, s, t, none, 0, []⟩
  obtain ⟨b0, b1, b2, b3⟩ := hbx
  have b0 : (w.alloc (.cells #[.int .i64 2, .string s, .string t, .slice none 0 0] 82)).cell? ⟨w.heap.size, 0, none⟩ = some (.int .i64 2) := b0
  have b1 : (w.alloc (.cells #[.int .i64 2, .string s, .string t, .slice none 0 0] 82)).cell? ⟨w.heap.size, 1, none⟩ = some (.string s) := b1
  have b2 : (w.alloc (.cells #[.int .i64 2, .string s, .string t, .slice none 0 0] 82)).cell? ⟨w.heap.size, 2, none⟩ = some (.string t) := b2
  have b3 : (w.alloc (.cells #[.int .i64 2, .string s, .string t, .slice none 0 0] 82)).cell? ⟨w.heap.size, 3, none⟩ = some (.slice none 0 0) := b3
  have HBX : Hid (GeAt (w.alloc (.cells #[.int .i64 2, .string s, .string t, .slice none 0 0] 82)).drew w.heap.size ⟨2, s, t, none, 0, []⟩) := hidOf (geAt_new w ⟨2, s, t, none, 0, []⟩)
  clear _h _hr hs ht hn hn2
  go_enter Try.func57, Try.ntmps57
  go_wp2_with (first
    | (go_at_call 55; have hh := TT; clear TT; refine (HN.out _).mono ?_; rintro e w' ⟨rfl, hw⟩; replace hw := hw.symm; subst hw)
    | (go_at_call 55; refine (HT.out _).mono ?_; rintro e w' ⟨rfl, hw⟩; replace hw := hw.symm; subst hw))
  go_ret
  exact ⟨rfl, HB0.out⟩
set_option maxHeartbeats 4000000 in
set_option maxRecDepth 100000 in
theorem mv2_cut (q : Nat) (M : Md) (a : Option Addr) (cap : Nat) (l : List Fe) (dn : Value) (G : List Ge) (w : World) (m : Nat) (h : RfR w q M a cap l dn G) (_hr : RcM M m) (s t : ByteArray) (hs : s.size ≤ maxLen) (ht : t.size ≤ maxLen) (hn : nameL s.data.toList = true) (hn2 : nameL t.data.toList = true) (hl : M.left = 0) : Calls Try.prog 57 #[.pointer (some ⟨q, 0, none⟩), .agg #[.int .i64 2, .string s, .string t, .slice none 0 0]] w fun e w' => e = .returned (.int .i64 11) ∧ Below w.heap.size w w' := by
  have HN := fun (w : World) => rname_any s w hs
  have HT := fun (w : World) => rname_any t w ht
  rw [hn] at HN
  rw [hn2] at HT
  have HN := hidOf HN
  have HT := hidOf HT
  have TT : True := trivial
  have HB0 : Hid (Below w.heap.size w (w.alloc (.cells #[.int .i64 2, .string s, .string t, .slice none 0 0] 82))) := hidOf (below1 w _)
  have hbx := geAt_new w ⟨2, s, t, none, 0, []⟩
  obtain ⟨b0, b1, b2, b3⟩ := hbx
  have b0 : (w.alloc (.cells #[.int .i64 2, .string s, .string t, .slice none 0 0] 82)).cell? ⟨w.heap.size, 0, none⟩ = some (.int .i64 2) := b0
  have b1 : (w.alloc (.cells #[.int .i64 2, .string s, .string t, .slice none 0 0] 82)).cell? ⟨w.heap.size, 1, none⟩ = some (.string s) := b1
  have b2 : (w.alloc (.cells #[.int .i64 2, .string s, .string t, .slice none 0 0] 82)).cell? ⟨w.heap.size, 2, none⟩ = some (.string t) := b2
  have b3 : (w.alloc (.cells #[.int .i64 2, .string s, .string t, .slice none 0 0] 82)).cell? ⟨w.heap.size, 3, none⟩ = some (.slice none 0 0) := b3
  have HBX : Hid (GeAt (w.alloc (.cells #[.int .i64 2, .string s, .string t, .slice none 0 0] 82)).drew w.heap.size ⟨2, s, t, none, 0, []⟩) := hidOf (geAt_new w ⟨2, s, t, none, 0, []⟩)
  have lq := h.blk.lt
  have c2 : (w.alloc (.cells #[.int .i64 2, .string s, .string t, .slice none 0 0] 82)).cell? ⟨q, 2, none⟩ = some (.int .i64 M.left) := (HB0.out.cell (p := ⟨q, 2, none⟩) lq).trans h.blk.c2
  have lq2 : q < (w.alloc (.cells #[.int .i64 2, .string s, .string t, .slice none 0 0] 82)).heap.size := Nat.lt_of_lt_of_le lq HB0.out.size
  rw [hl] at c2
  clear h _hr hs ht hn hn2 hl
  go_enter Try.func57, Try.ntmps57
  go_wp2_with (first
    | (go_at_call 55; have hh := TT; clear TT; refine (HN.out _).mono ?_; rintro e w' ⟨rfl, hw⟩; replace hw := hw.symm; subst hw)
    | (go_at_call 55; refine (HT.out _).mono ?_; rintro e w' ⟨rfl, hw⟩; replace hw := hw.symm; subst hw))
  go_ret
  exact ⟨rfl, HB0.out⟩
set_option maxHeartbeats 4000000 in
set_option maxRecDepth 100000 in
theorem mv2_none (q : Nat) (M : Md) (a : Option Addr) (cap : Nat) (l : List Fe) (dn : Value) (G : List Ge) (w : World) (m : Nat) (h : RfR w q M a cap l dn G) (hr : RcM M m) (s t : ByteArray) (hs : s.size ≤ maxLen) (ht : t.size ≤ maxLen) (hn : nameL s.data.toList = true) (hn2 : nameL t.data.toList = true) (hl : M.left ≠ 0) (hf : M.files s.data.toList = none) : Calls Try.prog 57 #[.pointer (some ⟨q, 0, none⟩), .agg #[.int .i64 2, .string s, .string t, .slice none 0 0]] w fun e w' => e = .returned (.int .i64 12) ∧ Below w.heap.size w w' := by
  have HN := fun (w : World) => rname_any s w hs
  have HT := fun (w : World) => rname_any t w ht
  rw [hn] at HN
  rw [hn2] at HT
  have HN := hidOf HN
  have HT := hidOf HT
  have TT : True := trivial
  have HB0 : Hid (Below w.heap.size w (w.alloc (.cells #[.int .i64 2, .string s, .string t, .slice none 0 0] 82))) := hidOf (below1 w _)
  have hbx := geAt_new w ⟨2, s, t, none, 0, []⟩
  obtain ⟨b0, b1, b2, b3⟩ := hbx
  have b0 : (w.alloc (.cells #[.int .i64 2, .string s, .string t, .slice none 0 0] 82)).cell? ⟨w.heap.size, 0, none⟩ = some (.int .i64 2) := b0
  have b1 : (w.alloc (.cells #[.int .i64 2, .string s, .string t, .slice none 0 0] 82)).cell? ⟨w.heap.size, 1, none⟩ = some (.string s) := b1
  have b2 : (w.alloc (.cells #[.int .i64 2, .string s, .string t, .slice none 0 0] 82)).cell? ⟨w.heap.size, 2, none⟩ = some (.string t) := b2
  have b3 : (w.alloc (.cells #[.int .i64 2, .string s, .string t, .slice none 0 0] 82)).cell? ⟨w.heap.size, 3, none⟩ = some (.slice none 0 0) := b3
  have HBX : Hid (GeAt (w.alloc (.cells #[.int .i64 2, .string s, .string t, .slice none 0 0] 82)).drew w.heap.size ⟨2, s, t, none, 0, []⟩) := hidOf (geAt_new w ⟨2, s, t, none, 0, []⟩)
  have lq := h.blk.lt
  have c2 : (w.alloc (.cells #[.int .i64 2, .string s, .string t, .slice none 0 0] 82)).cell? ⟨q, 2, none⟩ = some (.int .i64 M.left) := (HB0.out.cell (p := ⟨q, 2, none⟩) lq).trans h.blk.c2
  have lq2 : q < (w.alloc (.cells #[.int .i64 2, .string s, .string t, .slice none 0 0] 82)).heap.size := Nat.lt_of_lt_of_le lq HB0.out.size
  have hl0 : (M.left == 0) = false := beq_false_of_ne hl
  have HF := hidOf hf
  have H := hidOf h
  have HM := hidOf hr
  have H33 := hidOf (rfiles_any q M a cap l dn G (w.alloc (.cells #[.int .i64 2, .string s, .string t, .slice none 0 0] 82)).drew (h.grow HB0.out.drew) hr.rk hr.ok (by have := hr.n; omega))
  clear h hr hs ht hn hn2 hl hf
  go_enter Try.func57, Try.ntmps57
  go_wp2_with (first
    | (go_at_call 55; have hh := TT; clear TT; refine (HN.out _).mono ?_; rintro e w' ⟨rfl, hw⟩; replace hw := hw.symm; subst hw)
    | (go_at_call 55; refine (HT.out _).mono ?_; rintro e w' ⟨rfl, hw⟩; replace hw := hw.symm; subst hw))
  refine wp_region_held_drew (S := fun wz : World => wz.cell? ⟨w.heap.size, 1, none⟩ = some (.string s)) (by kernel_rfl) b1 (fun hHeld => ?_)
  refine wpAnyH_take (i := 0) (oi := { dst := some 20, op := Op.move (Operand.tmp 0), type := 25, pos := "ref.go:193", after := #[], guard := none }) (v := .pointer (some ⟨q, 0, none⟩)) rfl (by kernel_rfl) (by kernel_rfl) (by kernel_rfl) (fun _ _ _ h => h) (Or.inl ⟨by rfl, ?_⟩) hHeld ?_
  · (intro w hSw; (try dsimp only at hSw); go_simp)
  try simp only [Act.put, List.setIfInBounds_toArray, List.set_cons_zero, List.set_cons_succ]
  refine wpAnyH_take (i := 2) (oi := { dst := some 22, op := Op.fieldAddr 82 (Operand.tmp 3) 1, type := 0, pos := "ref.go:193", after := #[], guard := none }) (v := .pointer (some ⟨w.heap.size, 1, none⟩)) rfl (by kernel_rfl) (by kernel_rfl) (by kernel_rfl) (fun _ _ _ h => h) (Or.inl ⟨by rfl, ?_⟩) hHeld ?_
  · (intro w hSw; (try dsimp only at hSw); go_simp)
  try simp only [Act.put, List.setIfInBounds_toArray, List.set_cons_zero, List.set_cons_succ]
  refine wpAnyH_take (i := 3) (oi := { dst := some 23, op := Op.load 9 (Operand.tmp 22), type := 9, pos := "ref.go:193", after := #[{ on := 2, ground := Ground.data }], guard := none }) (v := .string s) rfl (by kernel_rfl) (by kernel_rfl) (by kernel_rfl) (fun _ _ _ h => h) (Or.inl ⟨by rfl, ?_⟩) hHeld ?_
  · (intro w hSw; (try dsimp only at hSw); go_simp)
  try simp only [Act.put, List.setIfInBounds_toArray, List.set_cons_zero, List.set_cons_succ]
  refine wpAnyH_ready (rs := [1]) (by kernel_rfl) (by simp) ?_
  refine AllReadyH.cons (o := { dst := some 21, op := Op.call { callee := Callee.value (Operand.func 33), args := #[Operand.tmp 20], argTypes := #[25] }, type := 57, pos := "ref.go:193", after := #[{ on := 0, ground := Ground.data }], guard := none }) rfl (fun K hK => ?_) AllReadyH.nil
  go_simp
  refine H33.out.mono ?_
  rintro e w1 ⟨a', l', c', rfl, hF, hK, hb⟩
  have hlm : l'.length = m := Card.len hF.lst HM.out.card
  have hl64 : l'.length ≤ 64 := (by rw [hlm]; exact HM.out.rk.few M.done.length m (by rw [List.take_length, ← HM.out.ok.fl]; exact HM.out.card))
  have hfi := hF.lst.no HF.out
  have HFI := hidOf hfi
  have HFS := hidOf hF
  have HB1 : Hid (Below w.heap.size w w1) := hidOf ((show Below w.heap.size w _ from HB0.out.drew).trans (hb.mono (show w.heap.size ≤ (w.alloc (.cells #[.int .i64 2, .string s, .string t, .slice none 0 0] 82)).drew.heap.size from HB0.out.size)))
  have HG1 := hidOf (HBX.out.grow hb (by show w.heap.size < (w.alloc (.cells #[.int .i64 2, .string s, .string t, .slice none 0 0] 82)).heap.size; simp))
  have hsz1 : w.heap.size < w1.heap.size := Nat.lt_of_lt_of_le (show w.heap.size < (w.alloc (.cells #[.int .i64 2, .string s, .string t, .slice none 0 0] 82)).heap.size by simp) hb.size
  clear hF hK hb hfi hlm
  refine hK.out _ _ HG1.out.2.1 (fun hHeld1 => ?_)
  clear hK K
  try simp only [Act.put, List.setIfInBounds_toArray, List.set_cons_zero, List.set_cons_succ]
  refine wpAnyH_ready (rs := [4]) (by kernel_rfl) (by simp) ?_
  refine AllReadyH.cons (o := { dst := some 24, op := Op.call { callee := Callee.value (Operand.func 56), args := #[Operand.tmp 21, Operand.tmp 23], argTypes := #[57, 9] }, type := 3, pos := "ref.go:193", after := #[{ on := 1, ground := Ground.data }, { on := 3, ground := Ground.data }, { on := 1, ground := Ground.chain }], guard := none }) rfl (fun K hK => ?_) AllReadyH.nil
  go_simp
  have hC := find_any a' c' l' s _ HFS.out.fls (by omega)
  rw [HFI.out] at hC
  refine hC.mono ?_
  rintro e w2 ⟨rfl, hw⟩
  replace hw := hw.symm
  subst hw
  clear hC
  refine hK.out _ _ HG1.out.2.1 (fun hHeld2 => ?_)
  clear hK K
  try simp only [Act.put, List.setIfInBounds_toArray, List.set_cons_zero, List.set_cons_succ]
  refine wpAnyH_take (i := 5) (oi := { dst := some 25, op := Op.binOp BinOp.lss 3 (Operand.tmp 24) (Operand.const (Value.int IntKind.i64 0)) 3, type := 4, pos := "ref.go:193", after := #[{ on := 4, ground := Ground.data }], guard := none }) (v := .bool true) rfl (by kernel_rfl) (by kernel_rfl) (by kernel_rfl) (fun _ _ _ h => h) (Or.inl ⟨by rfl, ?_⟩) hHeld2 ?_
  · (intro w hSw; (try dsimp only at hSw); go_simp)
  try simp only [Act.put, List.setIfInBounds_toArray, List.set_cons_zero, List.set_cons_succ]
  refine wpAnyH_done (by kernel_rfl) ?_ _
  go_wp2
  go_ret
  exact ⟨rfl, HB1.out⟩
set_option maxHeartbeats 4000000 in
set_option maxRecDepth 100000 in
theorem mv2_ok (q : Nat) (M : Md) (a : Option Addr) (cap : Nat) (l : List Fe) (dn : Value) (G : List Ge) (w : World) (m : Nat) (h : RfR w q M a cap l dn G) (hr : RcM M m) (s t : ByteArray) (hs : s.size ≤ maxLen) (ht : t.size ≤ maxLen) (hn : nameL s.data.toList = true) (hn2 : nameL t.data.toList = true) (hl : M.left ≠ 0) (d0 : List UInt8) (hf : M.files s.data.toList = some d0) : Calls Try.prog 57 #[.pointer (some ⟨q, 0, none⟩), .agg #[.int .i64 2, .string s, .string t, .slice none 0 0]] w fun e w' => e = .returned (.int .i64 0) ∧ ∃ dn' G', RfR w' q (stepM M (.rm s.data.toList) 1) a cap l dn' G' ∧ Fr w w' (RtF q a l dn G) (RtF q a l dn' G') ∧ Kp82 w w' := by
  have HN := fun (w : World) => rname_any s w hs
  have HT := fun (w : World) => rname_any t w ht
  rw [hn] at HN
  rw [hn2] at HT
  have HN := hidOf HN
  have HT := hidOf HT
  have TT : True := trivial
  have HB0 : Hid (Below w.heap.size w (w.alloc (.cells #[.int .i64 2, .string s, .string t, .slice none 0 0] 82))) := hidOf (below1 w _)
  have hbx := geAt_new w ⟨2, s, t, none, 0, []⟩
  obtain ⟨b0, b1, b2, b3⟩ := hbx
  have b0 : (w.alloc (.cells #[.int .i64 2, .string s, .string t, .slice none 0 0] 82)).cell? ⟨w.heap.size, 0, none⟩ = some (.int .i64 2) := b0
  have b1 : (w.alloc (.cells #[.int .i64 2, .string s, .string t, .slice none 0 0] 82)).cell? ⟨w.heap.size, 1, none⟩ = some (.string s) := b1
  have b2 : (w.alloc (.cells #[.int .i64 2, .string s, .string t, .slice none 0 0] 82)).cell? ⟨w.heap.size, 2, none⟩ = some (.string t) := b2
  have b3 : (w.alloc (.cells #[.int .i64 2, .string s, .string t, .slice none 0 0] 82)).cell? ⟨w.heap.size, 3, none⟩ = some (.slice none 0 0) := b3
  have HBX : Hid (GeAt (w.alloc (.cells #[.int .i64 2, .string s, .string t, .slice none 0 0] 82)).drew w.heap.size ⟨2, s, t, none, 0, []⟩) := hidOf (geAt_new w ⟨2, s, t, none, 0, []⟩)
  have lq := h.blk.lt
  have c2 : (w.alloc (.cells #[.int .i64 2, .string s, .string t, .slice none 0 0] 82)).cell? ⟨q, 2, none⟩ = some (.int .i64 M.left) := (HB0.out.cell (p := ⟨q, 2, none⟩) lq).trans h.blk.c2
  have lq2 : q < (w.alloc (.cells #[.int .i64 2, .string s, .string t, .slice none 0 0] 82)).heap.size := Nat.lt_of_lt_of_le lq HB0.out.size
  have hl0 : (M.left == 0) = false := beq_false_of_ne hl
  have HF := hidOf hf
  have H := hidOf h
  have HM := hidOf hr
  have H33 := hidOf (rfiles_any q M a cap l dn G (w.alloc (.cells #[.int .i64 2, .string s, .string t, .slice none 0 0] 82)).drew (h.grow HB0.out.drew) hr.rk hr.ok (by have := hr.n; omega))
  clear h hr hs ht hn hn2 hl hf
  go_enter Try.func57, Try.ntmps57
  go_wp2_with (first
    | (go_at_call 55; have hh := TT; clear TT; refine (HN.out _).mono ?_; rintro e w' ⟨rfl, hw⟩; replace hw := hw.symm; subst hw)
    | (go_at_call 55; refine (HT.out _).mono ?_; rintro e w' ⟨rfl, hw⟩; replace hw := hw.symm; subst hw))
  refine wp_region_held_drew (S := fun wz : World => wz.cell? ⟨w.heap.size, 1, none⟩ = some (.string s)) (by kernel_rfl) b1 (fun hHeld => ?_)
  refine wpAnyH_take (i := 0) (oi := { dst := some 20, op := Op.move (Operand.tmp 0), type := 25, pos := "ref.go:193", after := #[], guard := none }) (v := .pointer (some ⟨q, 0, none⟩)) rfl (by kernel_rfl) (by kernel_rfl) (by kernel_rfl) (fun _ _ _ h => h) (Or.inl ⟨by rfl, ?_⟩) hHeld ?_
  · (intro w hSw; (try dsimp only at hSw); go_simp)
  try simp only [Act.put, List.setIfInBounds_toArray, List.set_cons_zero, List.set_cons_succ]
  refine wpAnyH_take (i := 2) (oi := { dst := some 22, op := Op.fieldAddr 82 (Operand.tmp 3) 1, type := 0, pos := "ref.go:193", after := #[], guard := none }) (v := .pointer (some ⟨w.heap.size, 1, none⟩)) rfl (by kernel_rfl) (by kernel_rfl) (by kernel_rfl) (fun _ _ _ h => h) (Or.inl ⟨by rfl, ?_⟩) hHeld ?_
  · (intro w hSw; (try dsimp only at hSw); go_simp)
  try simp only [Act.put, List.setIfInBounds_toArray, List.set_cons_zero, List.set_cons_succ]
  refine wpAnyH_take (i := 3) (oi := { dst := some 23, op := Op.load 9 (Operand.tmp 22), type := 9, pos := "ref.go:193", after := #[{ on := 2, ground := Ground.data }], guard := none }) (v := .string s) rfl (by kernel_rfl) (by kernel_rfl) (by kernel_rfl) (fun _ _ _ h => h) (Or.inl ⟨by rfl, ?_⟩) hHeld ?_
  · (intro w hSw; (try dsimp only at hSw); go_simp)
  try simp only [Act.put, List.setIfInBounds_toArray, List.set_cons_zero, List.set_cons_succ]
  refine wpAnyH_ready (rs := [1]) (by kernel_rfl) (by simp) ?_
  refine AllReadyH.cons (o := { dst := some 21, op := Op.call { callee := Callee.value (Operand.func 33), args := #[Operand.tmp 20], argTypes := #[25] }, type := 57, pos := "ref.go:193", after := #[{ on := 0, ground := Ground.data }], guard := none }) rfl (fun K hK => ?_) AllReadyH.nil
  go_simp
  refine H33.out.mono ?_
  rintro e w1 ⟨a', l', c', rfl, hF, hK, hb⟩
  have hlm : l'.length = m := Card.len hF.lst HM.out.card
  have hl64 : l'.length ≤ 64 := (by rw [hlm]; exact HM.out.rk.few M.done.length m (by rw [List.take_length, ← HM.out.ok.fl]; exact HM.out.card))
  obtain ⟨i, f, hi, hfi, hk, hd0⟩ := hF.lst.yes HF.out
  have HFI := hidOf hfi
  have HFS := hidOf hF
  have HB1 : Hid (Below w.heap.size w w1) := hidOf ((show Below w.heap.size w _ from HB0.out.drew).trans (hb.mono (show w.heap.size ≤ (w.alloc (.cells #[.int .i64 2, .string s, .string t, .slice none 0 0] 82)).drew.heap.size from HB0.out.size)))
  have HG1 := hidOf (HBX.out.grow hb (by show w.heap.size < (w.alloc (.cells #[.int .i64 2, .string s, .string t, .slice none 0 0] 82)).heap.size; simp))
  have hsz1 : w.heap.size < w1.heap.size := Nat.lt_of_lt_of_le (show w.heap.size < (w.alloc (.cells #[.int .i64 2, .string s, .string t, .slice none 0 0] 82)).heap.size by simp) hb.size
  clear hF hK hb hfi hlm hi hk hd0
  refine hK.out _ _ HG1.out.2.1 (fun hHeld1 => ?_)
  clear hK K
  try simp only [Act.put, List.setIfInBounds_toArray, List.set_cons_zero, List.set_cons_succ]
  refine wpAnyH_ready (rs := [4]) (by kernel_rfl) (by simp) ?_
  refine AllReadyH.cons (o := { dst := some 24, op := Op.call { callee := Callee.value (Operand.func 56), args := #[Operand.tmp 21, Operand.tmp 23], argTypes := #[57, 9] }, type := 3, pos := "ref.go:193", after := #[{ on := 1, ground := Ground.data }, { on := 3, ground := Ground.data }, { on := 1, ground := Ground.chain }], guard := none }) rfl (fun K hK => ?_) AllReadyH.nil
  go_simp
  have hC := find_any a' c' l' s _ HFS.out.fls (by omega)
  rw [HFI.out] at hC
  refine hC.mono ?_
  rintro e w2 ⟨rfl, hw⟩
  replace hw := hw.symm
  subst hw
  clear hC
  refine hK.out _ _ HG1.out.2.1 (fun hHeld2 => ?_)
  clear hK K
  try simp only [Act.put, List.setIfInBounds_toArray, List.set_cons_zero, List.set_cons_succ]
  refine wpAnyH_take (i := 5) (oi := { dst := some 25, op := Op.binOp BinOp.lss 3 (Operand.tmp 24) (Operand.const (Value.int IntKind.i64 0)) 3, type := 4, pos := "ref.go:193", after := #[{ on := 4, ground := Ground.data }], guard := none }) (v := .bool false) rfl (by kernel_rfl) (by kernel_rfl) (by kernel_rfl) (fun _ _ _ h => h) (Or.inl ⟨by rfl, ?_⟩) hHeld2 ?_
  · (intro w hSw; (try dsimp only at hSw); go_simp)
  try simp only [Act.put, List.setIfInBounds_toArray, List.set_cons_zero, List.set_cons_succ]
  refine wpAnyH_done (by kernel_rfl) ?_ _
  obtain ⟨d0, d1, d2, d3⟩ := HG1.out
  have d0 : w1.cell? ⟨w.heap.size, 0, none⟩ = some (.int .i64 2) := d0
  have d1 : w1.cell? ⟨w.heap.size, 1, none⟩ = some (.string s) := d1
  have d2 : w1.cell? ⟨w.heap.size, 2, none⟩ = some (.string t) := d2
  have d3 : w1.cell? ⟨w.heap.size, 3, none⟩ = some (.slice none 0 0) := d3
  go_wp2_with (go_at_call 66; refine (did_any q M a cap l dn G _ (H.out.grow HB1.out) ⟨2, s, t, none, 0, []⟩ 1 (.rm s.data.toList) ⟨⟨Nat.zero_le _, fun e => absurd rfl e⟩, fun _ => rfl, Nat.zero_le _, Nat.le_refl _⟩ (fun k hk => by obtain ⟨_, e, _⟩ := hk; cases e) ⟨⟨rfl, rfl⟩, rfl⟩ HM.out.le HM.out.n).mono ?_; rintro e w5 ⟨rfl, hp⟩; have HP := hidOf hp; clear hp)
  go_ret
  obtain ⟨dn', g1, g2, g3⟩ := HP.out
  exact ⟨rfl, dn', _, g1, Fr.fresh2 HB1.out (fun k hk => by obtain ⟨_, e, _⟩ := hk; cases e) g2, (Kp82.below HB1.out).trans g3⟩
set_option maxHeartbeats 4000000 in
set_option maxRecDepth 100000 in
theorem mv3_bad1 (q : Nat) (M : Md) (a : Option Addr) (cap : Nat) (l : List Fe) (dn : Value) (G : List Ge) (w : World) (m : Nat) (_h : RfR w q M a cap l dn G) (_hr : RcM M m) (s t : ByteArray) (hs : s.size ≤ maxLen) (ht : t.size ≤ maxLen) (hn : nameL s.data.toList = false) : Calls Try.prog 57 #[.pointer (some ⟨q, 0, none⟩), .agg #[.int .i64 3, .string s, .string t, .slice none 0 0]] w fun e w' => e = .returned (.int .i64 1) ∧ Below w.heap.size w w' := by
  have HN := fun (w : World) => rname_any s w hs
  have HT := fun (w : World) => rname_any t w ht
  rw [hn] at HN
  have HN := hidOf HN
  have HT := hidOf HT
  have TT : True := trivial
  have HB0 : Hid (Below w.heap.size w (w.alloc (.cells #[.int .i64 3, .string s, .string t, .slice none 0 0] 82))) := hidOf (below1 w _)
  have hbx := geAt_new w ⟨3, s, t, none, 0, []⟩
  obtain ⟨b0, b1, b2, b3⟩ := hbx
  have b0 : (w.alloc (.cells #[.int .i64 3, .string s, .string t, .slice none 0 0] 82)).cell? ⟨w.heap.size, 0, none⟩ = some (.int .i64 3) := b0
  have b1 : (w.alloc (.cells #[.int .i64 3, .string s, .string t, .slice none 0 0] 82)).cell? ⟨w.heap.size, 1, none⟩ = some (.string s) := b1
  have b2 : (w.alloc (.cells #[.int .i64 3, .string s, .string t, .slice none 0 0] 82)).cell? ⟨w.heap.size, 2, none⟩ = some (.string t) := b2
  have b3 : (w.alloc (.cells #[.int .i64 3, .string s, .string t, .slice none 0 0] 82)).cell? ⟨w.heap.size, 3, none⟩ = some (.slice none 0 0) := b3
  have HBX : Hid (GeAt (w.alloc (.cells #[.int .i64 3, .string s, .string t, .slice none 0 0] 82)).drew w.heap.size ⟨3, s, t, none, 0, []⟩) := hidOf (geAt_new w ⟨3, s, t, none, 0, []⟩)
  clear _h _hr hs ht hn
  go_enter Try.func57, Try.ntmps57
  go_wp2_with (first
    | (go_at_call 55; have hh := TT; clear TT; refine (HN.out _).mono ?_; rintro e w' ⟨rfl, hw⟩; replace hw := hw.symm; subst hw)
    | (go_at_call 55; refine (HT.out _).mono ?_; rintro e w' ⟨rfl, hw⟩; replace hw := hw.symm; subst hw))
  go_ret
  exact ⟨rfl, HB0.out⟩
set_option maxHeartbeats 4000000 in
set_option maxRecDepth 100000 in
theorem mv3_bad2 (q : Nat) (M : Md) (a : Option Addr) (cap : Nat) (l : List Fe) (dn : Value) (G : List Ge) (w : World) (m : Nat) (_h : RfR w q M a cap l dn G) (_hr : RcM M m) (s t : ByteArray) (hs : s.size ≤ maxLen) (ht : t.size ≤ maxLen) (hn : nameL s.data.toList = true) (hn2 : nameL t.data.toList = false) : Calls Try.prog 57 #[.pointer (some ⟨q, 0, none⟩), .agg #[.int .i64 3, .string s, .string t, .slice none 0 0]] w fun e w' => e = .returned (.int .i64 1) ∧ Below w.heap.size w w' := by
  have HN := fun (w : World) => rname_any s w hs
  have HT := fun (w : World) => rname_any t w ht
  rw [hn] at HN
  rw [hn2] at HT
  have HN := hidOf HN
  have HT := hidOf HT
  have TT : True := trivial
  have HB0 : Hid (Below w.heap.size w (w.alloc (.cells #[.int .i64 3, .string s, .string t, .slice none 0 0] 82))) := hidOf (below1 w _)
  have hbx := geAt_new w ⟨3, s, t, none, 0, []⟩
  obtain ⟨b0, b1, b2, b3⟩ := hbx
  have b0 : (w.alloc (.cells #[.int .i64 3, .string s, .string t, .slice none 0 0] 82)).cell? ⟨w.heap.size, 0, none⟩ = some (.int .i64 3) := b0
  have b1 : (w.alloc (.cells #[.int .i64 3, .string s, .string t, .slice none 0 0] 82)).cell? ⟨w.heap.size, 1, none⟩ = some (.string s) := b1
  have b2 : (w.alloc (.cells #[.int .i64 3, .string s, .string t, .slice none 0 0] 82)).cell? ⟨w.heap.size, 2, none⟩ = some (.string t) := b2
  have b3 : (w.alloc (.cells #[.int .i64 3, .string s, .string t, .slice none 0 0] 82)).cell? ⟨w.heap.size, 3, none⟩ = some (.slice none 0 0) := b3
  have HBX : Hid (GeAt (w.alloc (.cells #[.int .i64 3, .string s, .string t, .slice none 0 0] 82)).drew w.heap.size ⟨3, s, t, none, 0, []⟩) := hidOf (geAt_new w ⟨3, s, t, none, 0, []⟩)
  clear _h _hr hs ht hn hn2
  go_enter Try.func57, Try.ntmps57
  go_wp2_with (first
    | (go_at_call 55; have hh := TT; clear TT; refine (HN.out _).mono ?_; rintro e w' ⟨rfl, hw⟩; replace hw := hw.symm; subst hw)
    | (go_at_call 55; refine (HT.out _).mono ?_; rintro e w' ⟨rfl, hw⟩; replace hw := hw.symm; subst hw))
  go_ret
  exact ⟨rfl, HB0.out⟩
set_option maxHeartbeats 4000000 in
set_option maxRecDepth 100000 in
theorem mv3_cut (q : Nat) (M : Md) (a : Option Addr) (cap : Nat) (l : List Fe) (dn : Value) (G : List Ge) (w : World) (m : Nat) (h : RfR w q M a cap l dn G) (_hr : RcM M m) (s t : ByteArray) (hs : s.size ≤ maxLen) (ht : t.size ≤ maxLen) (hn : nameL s.data.toList = true) (hn2 : nameL t.data.toList = true) (hl : M.left = 0) : Calls Try.prog 57 #[.pointer (some ⟨q, 0, none⟩), .agg #[.int .i64 3, .string s, .string t, .slice none 0 0]] w fun e w' => e = .returned (.int .i64 11) ∧ Below w.heap.size w w' := by
  have HN := fun (w : World) => rname_any s w hs
  have HT := fun (w : World) => rname_any t w ht
  rw [hn] at HN
  rw [hn2] at HT
  have HN := hidOf HN
  have HT := hidOf HT
  have TT : True := trivial
  have HB0 : Hid (Below w.heap.size w (w.alloc (.cells #[.int .i64 3, .string s, .string t, .slice none 0 0] 82))) := hidOf (below1 w _)
  have hbx := geAt_new w ⟨3, s, t, none, 0, []⟩
  obtain ⟨b0, b1, b2, b3⟩ := hbx
  have b0 : (w.alloc (.cells #[.int .i64 3, .string s, .string t, .slice none 0 0] 82)).cell? ⟨w.heap.size, 0, none⟩ = some (.int .i64 3) := b0
  have b1 : (w.alloc (.cells #[.int .i64 3, .string s, .string t, .slice none 0 0] 82)).cell? ⟨w.heap.size, 1, none⟩ = some (.string s) := b1
  have b2 : (w.alloc (.cells #[.int .i64 3, .string s, .string t, .slice none 0 0] 82)).cell? ⟨w.heap.size, 2, none⟩ = some (.string t) := b2
  have b3 : (w.alloc (.cells #[.int .i64 3, .string s, .string t, .slice none 0 0] 82)).cell? ⟨w.heap.size, 3, none⟩ = some (.slice none 0 0) := b3
  have HBX : Hid (GeAt (w.alloc (.cells #[.int .i64 3, .string s, .string t, .slice none 0 0] 82)).drew w.heap.size ⟨3, s, t, none, 0, []⟩) := hidOf (geAt_new w ⟨3, s, t, none, 0, []⟩)
  have lq := h.blk.lt
  have c2 : (w.alloc (.cells #[.int .i64 3, .string s, .string t, .slice none 0 0] 82)).cell? ⟨q, 2, none⟩ = some (.int .i64 M.left) := (HB0.out.cell (p := ⟨q, 2, none⟩) lq).trans h.blk.c2
  have lq2 : q < (w.alloc (.cells #[.int .i64 3, .string s, .string t, .slice none 0 0] 82)).heap.size := Nat.lt_of_lt_of_le lq HB0.out.size
  rw [hl] at c2
  clear h _hr hs ht hn hn2 hl
  go_enter Try.func57, Try.ntmps57
  go_wp2_with (first
    | (go_at_call 55; have hh := TT; clear TT; refine (HN.out _).mono ?_; rintro e w' ⟨rfl, hw⟩; replace hw := hw.symm; subst hw)
    | (go_at_call 55; refine (HT.out _).mono ?_; rintro e w' ⟨rfl, hw⟩; replace hw := hw.symm; subst hw))
  go_ret
  exact ⟨rfl, HB0.out⟩
set_option maxHeartbeats 4000000 in
set_option maxRecDepth 100000 in
theorem mv3_none (q : Nat) (M : Md) (a : Option Addr) (cap : Nat) (l : List Fe) (dn : Value) (G : List Ge) (w : World) (m : Nat) (h : RfR w q M a cap l dn G) (hr : RcM M m) (s t : ByteArray) (hs : s.size ≤ maxLen) (ht : t.size ≤ maxLen) (hn : nameL s.data.toList = true) (hn2 : nameL t.data.toList = true) (hl : M.left ≠ 0) (hf : M.files s.data.toList = none) : Calls Try.prog 57 #[.pointer (some ⟨q, 0, none⟩), .agg #[.int .i64 3, .string s, .string t, .slice none 0 0]] w fun e w' => e = .returned (.int .i64 12) ∧ Below w.heap.size w w' := by
  have HN := fun (w : World) => rname_any s w hs
  have HT := fun (w : World) => rname_any t w ht
  rw [hn] at HN
  rw [hn2] at HT
  have HN := hidOf HN
  have HT := hidOf HT
  have TT : True := trivial
  have HB0 : Hid (Below w.heap.size w (w.alloc (.cells #[.int .i64 3, .string s, .string t, .slice none 0 0] 82))) := hidOf (below1 w _)
  have hbx := geAt_new w ⟨3, s, t, none, 0, []⟩
  obtain ⟨b0, b1, b2, b3⟩ := hbx
  have b0 : (w.alloc (.cells #[.int .i64 3, .string s, .string t, .slice none 0 0] 82)).cell? ⟨w.heap.size, 0, none⟩ = some (.int .i64 3) := b0
  have b1 : (w.alloc (.cells #[.int .i64 3, .string s, .string t, .slice none 0 0] 82)).cell? ⟨w.heap.size, 1, none⟩ = some (.string s) := b1
  have b2 : (w.alloc (.cells #[.int .i64 3, .string s, .string t, .slice none 0 0] 82)).cell? ⟨w.heap.size, 2, none⟩ = some (.string t) := b2
  have b3 : (w.alloc (.cells #[.int .i64 3, .string s, .string t, .slice none 0 0] 82)).cell? ⟨w.heap.size, 3, none⟩ = some (.slice none 0 0) := b3
  have HBX : Hid (GeAt (w.alloc (.cells #[.int .i64 3, .string s, .string t, .slice none 0 0] 82)).drew w.heap.size ⟨3, s, t, none, 0, []⟩) := hidOf (geAt_new w ⟨3, s, t, none, 0, []⟩)
  have lq := h.blk.lt
  have c2 : (w.alloc (.cells #[.int .i64 3, .string s, .string t, .slice none 0 0] 82)).cell? ⟨q, 2, none⟩ = some (.int .i64 M.left) := (HB0.out.cell (p := ⟨q, 2, none⟩) lq).trans h.blk.c2
  have lq2 : q < (w.alloc (.cells #[.int .i64 3, .string s, .string t, .slice none 0 0] 82)).heap.size := Nat.lt_of_lt_of_le lq HB0.out.size
  have hl0 : (M.left == 0) = false := beq_false_of_ne hl
  have HF := hidOf hf
  have H := hidOf h
  have HM := hidOf hr
  have H33 := hidOf (rfiles_any q M a cap l dn G (w.alloc (.cells #[.int .i64 3, .string s, .string t, .slice none 0 0] 82)).drew (h.grow HB0.out.drew) hr.rk hr.ok (by have := hr.n; omega))
  clear h hr hs ht hn hn2 hl hf
  go_enter Try.func57, Try.ntmps57
  go_wp2_with (first
    | (go_at_call 55; have hh := TT; clear TT; refine (HN.out _).mono ?_; rintro e w' ⟨rfl, hw⟩; replace hw := hw.symm; subst hw)
    | (go_at_call 55; refine (HT.out _).mono ?_; rintro e w' ⟨rfl, hw⟩; replace hw := hw.symm; subst hw))
  refine wp_region_held_drew (S := fun wz : World => wz.cell? ⟨w.heap.size, 1, none⟩ = some (.string s)) (by kernel_rfl) b1 (fun hHeld => ?_)
  refine wpAnyH_take (i := 0) (oi := { dst := some 20, op := Op.move (Operand.tmp 0), type := 25, pos := "ref.go:193", after := #[], guard := none }) (v := .pointer (some ⟨q, 0, none⟩)) rfl (by kernel_rfl) (by kernel_rfl) (by kernel_rfl) (fun _ _ _ h => h) (Or.inl ⟨by rfl, ?_⟩) hHeld ?_
  · (intro w hSw; (try dsimp only at hSw); go_simp)
  try simp only [Act.put, List.setIfInBounds_toArray, List.set_cons_zero, List.set_cons_succ]
  refine wpAnyH_take (i := 2) (oi := { dst := some 22, op := Op.fieldAddr 82 (Operand.tmp 3) 1, type := 0, pos := "ref.go:193", after := #[], guard := none }) (v := .pointer (some ⟨w.heap.size, 1, none⟩)) rfl (by kernel_rfl) (by kernel_rfl) (by kernel_rfl) (fun _ _ _ h => h) (Or.inl ⟨by rfl, ?_⟩) hHeld ?_
  · (intro w hSw; (try dsimp only at hSw); go_simp)
  try simp only [Act.put, List.setIfInBounds_toArray, List.set_cons_zero, List.set_cons_succ]
  refine wpAnyH_take (i := 3) (oi := { dst := some 23, op := Op.load 9 (Operand.tmp 22), type := 9, pos := "ref.go:193", after := #[{ on := 2, ground := Ground.data }], guard := none }) (v := .string s) rfl (by kernel_rfl) (by kernel_rfl) (by kernel_rfl) (fun _ _ _ h => h) (Or.inl ⟨by rfl, ?_⟩) hHeld ?_
  · (intro w hSw; (try dsimp only at hSw); go_simp)
  try simp only [Act.put, List.setIfInBounds_toArray, List.set_cons_zero, List.set_cons_succ]
  refine wpAnyH_ready (rs := [1]) (by kernel_rfl) (by simp) ?_
  refine AllReadyH.cons (o := { dst := some 21, op := Op.call { callee := Callee.value (Operand.func 33), args := #[Operand.tmp 20], argTypes := #[25] }, type := 57, pos := "ref.go:193", after := #[{ on := 0, ground := Ground.data }], guard := none }) rfl (fun K hK => ?_) AllReadyH.nil
  go_simp
  refine H33.out.mono ?_
  rintro e w1 ⟨a', l', c', rfl, hF, hK, hb⟩
  have hlm : l'.length = m := Card.len hF.lst HM.out.card
  have hl64 : l'.length ≤ 64 := (by rw [hlm]; exact HM.out.rk.few M.done.length m (by rw [List.take_length, ← HM.out.ok.fl]; exact HM.out.card))
  have hfi := hF.lst.no HF.out
  have HFI := hidOf hfi
  have HFS := hidOf hF
  have HB1 : Hid (Below w.heap.size w w1) := hidOf ((show Below w.heap.size w _ from HB0.out.drew).trans (hb.mono (show w.heap.size ≤ (w.alloc (.cells #[.int .i64 3, .string s, .string t, .slice none 0 0] 82)).drew.heap.size from HB0.out.size)))
  have HG1 := hidOf (HBX.out.grow hb (by show w.heap.size < (w.alloc (.cells #[.int .i64 3, .string s, .string t, .slice none 0 0] 82)).heap.size; simp))
  have hsz1 : w.heap.size < w1.heap.size := Nat.lt_of_lt_of_le (show w.heap.size < (w.alloc (.cells #[.int .i64 3, .string s, .string t, .slice none 0 0] 82)).heap.size by simp) hb.size
  clear hF hK hb hfi hlm
  refine hK.out _ _ HG1.out.2.1 (fun hHeld1 => ?_)
  clear hK K
  try simp only [Act.put, List.setIfInBounds_toArray, List.set_cons_zero, List.set_cons_succ]
  refine wpAnyH_ready (rs := [4]) (by kernel_rfl) (by simp) ?_
  refine AllReadyH.cons (o := { dst := some 24, op := Op.call { callee := Callee.value (Operand.func 56), args := #[Operand.tmp 21, Operand.tmp 23], argTypes := #[57, 9] }, type := 3, pos := "ref.go:193", after := #[{ on := 1, ground := Ground.data }, { on := 3, ground := Ground.data }, { on := 1, ground := Ground.chain }], guard := none }) rfl (fun K hK => ?_) AllReadyH.nil
  go_simp
  have hC := find_any a' c' l' s _ HFS.out.fls (by omega)
  rw [HFI.out] at hC
  refine hC.mono ?_
  rintro e w2 ⟨rfl, hw⟩
  replace hw := hw.symm
  subst hw
  clear hC
  refine hK.out _ _ HG1.out.2.1 (fun hHeld2 => ?_)
  clear hK K
  try simp only [Act.put, List.setIfInBounds_toArray, List.set_cons_zero, List.set_cons_succ]
  refine wpAnyH_take (i := 5) (oi := { dst := some 25, op := Op.binOp BinOp.lss 3 (Operand.tmp 24) (Operand.const (Value.int IntKind.i64 0)) 3, type := 4, pos := "ref.go:193", after := #[{ on := 4, ground := Ground.data }], guard := none }) (v := .bool true) rfl (by kernel_rfl) (by kernel_rfl) (by kernel_rfl) (fun _ _ _ h => h) (Or.inl ⟨by rfl, ?_⟩) hHeld2 ?_
  · (intro w hSw; (try dsimp only at hSw); go_simp)
  try simp only [Act.put, List.setIfInBounds_toArray, List.set_cons_zero, List.set_cons_succ]
  refine wpAnyH_done (by kernel_rfl) ?_ _
  go_wp2
  go_ret
  exact ⟨rfl, HB1.out⟩
set_option maxHeartbeats 4000000 in
set_option maxRecDepth 100000 in
theorem mv3_ok (q : Nat) (M : Md) (a : Option Addr) (cap : Nat) (l : List Fe) (dn : Value) (G : List Ge) (w : World) (m : Nat) (h : RfR w q M a cap l dn G) (hr : RcM M m) (s t : ByteArray) (hs : s.size ≤ maxLen) (ht : t.size ≤ maxLen) (hn : nameL s.data.toList = true) (hn2 : nameL t.data.toList = true) (hl : M.left ≠ 0) (d0 : List UInt8) (hf : M.files s.data.toList = some d0) : Calls Try.prog 57 #[.pointer (some ⟨q, 0, none⟩), .agg #[.int .i64 3, .string s, .string t, .slice none 0 0]] w fun e w' => e = .returned (.int .i64 0) ∧ ∃ dn' G', RfR w' q (stepM M (.rn s.data.toList t.data.toList) 1) a cap l dn' G' ∧ Fr w w' (RtF q a l dn G) (RtF q a l dn' G') ∧ Kp82 w w' := by
  have HN := fun (w : World) => rname_any s w hs
  have HT := fun (w : World) => rname_any t w ht
  rw [hn] at HN
  rw [hn2] at HT
  have HN := hidOf HN
  have HT := hidOf HT
  have TT : True := trivial
  have HB0 : Hid (Below w.heap.size w (w.alloc (.cells #[.int .i64 3, .string s, .string t, .slice none 0 0] 82))) := hidOf (below1 w _)
  have hbx := geAt_new w ⟨3, s, t, none, 0, []⟩
  obtain ⟨b0, b1, b2, b3⟩ := hbx
  have b0 : (w.alloc (.cells #[.int .i64 3, .string s, .string t, .slice none 0 0] 82)).cell? ⟨w.heap.size, 0, none⟩ = some (.int .i64 3) := b0
  have b1 : (w.alloc (.cells #[.int .i64 3, .string s, .string t, .slice none 0 0] 82)).cell? ⟨w.heap.size, 1, none⟩ = some (.string s) := b1
  have b2 : (w.alloc (.cells #[.int .i64 3, .string s, .string t, .slice none 0 0] 82)).cell? ⟨w.heap.size, 2, none⟩ = some (.string t) := b2
  have b3 : (w.alloc (.cells #[.int .i64 3, .string s, .string t, .slice none 0 0] 82)).cell? ⟨w.heap.size, 3, none⟩ = some (.slice none 0 0) := b3
  have HBX : Hid (GeAt (w.alloc (.cells #[.int .i64 3, .string s, .string t, .slice none 0 0] 82)).drew w.heap.size ⟨3, s, t, none, 0, []⟩) := hidOf (geAt_new w ⟨3, s, t, none, 0, []⟩)
  have lq := h.blk.lt
  have c2 : (w.alloc (.cells #[.int .i64 3, .string s, .string t, .slice none 0 0] 82)).cell? ⟨q, 2, none⟩ = some (.int .i64 M.left) := (HB0.out.cell (p := ⟨q, 2, none⟩) lq).trans h.blk.c2
  have lq2 : q < (w.alloc (.cells #[.int .i64 3, .string s, .string t, .slice none 0 0] 82)).heap.size := Nat.lt_of_lt_of_le lq HB0.out.size
  have hl0 : (M.left == 0) = false := beq_false_of_ne hl
  have HF := hidOf hf
  have H := hidOf h
  have HM := hidOf hr
  have H33 := hidOf (rfiles_any q M a cap l dn G (w.alloc (.cells #[.int .i64 3, .string s, .string t, .slice none 0 0] 82)).drew (h.grow HB0.out.drew) hr.rk hr.ok (by have := hr.n; omega))
  clear h hr hs ht hn hn2 hl hf
  go_enter Try.func57, Try.ntmps57
  go_wp2_with (first
    | (go_at_call 55; have hh := TT; clear TT; refine (HN.out _).mono ?_; rintro e w' ⟨rfl, hw⟩; replace hw := hw.symm; subst hw)
    | (go_at_call 55; refine (HT.out _).mono ?_; rintro e w' ⟨rfl, hw⟩; replace hw := hw.symm; subst hw))
  refine wp_region_held_drew (S := fun wz : World => wz.cell? ⟨w.heap.size, 1, none⟩ = some (.string s)) (by kernel_rfl) b1 (fun hHeld => ?_)
  refine wpAnyH_take (i := 0) (oi := { dst := some 20, op := Op.move (Operand.tmp 0), type := 25, pos := "ref.go:193", after := #[], guard := none }) (v := .pointer (some ⟨q, 0, none⟩)) rfl (by kernel_rfl) (by kernel_rfl) (by kernel_rfl) (fun _ _ _ h => h) (Or.inl ⟨by rfl, ?_⟩) hHeld ?_
  · (intro w hSw; (try dsimp only at hSw); go_simp)
  try simp only [Act.put, List.setIfInBounds_toArray, List.set_cons_zero, List.set_cons_succ]
  refine wpAnyH_take (i := 2) (oi := { dst := some 22, op := Op.fieldAddr 82 (Operand.tmp 3) 1, type := 0, pos := "ref.go:193", after := #[], guard := none }) (v := .pointer (some ⟨w.heap.size, 1, none⟩)) rfl (by kernel_rfl) (by kernel_rfl) (by kernel_rfl) (fun _ _ _ h => h) (Or.inl ⟨by rfl, ?_⟩) hHeld ?_
  · (intro w hSw; (try dsimp only at hSw); go_simp)
  try simp only [Act.put, List.setIfInBounds_toArray, List.set_cons_zero, List.set_cons_succ]
  refine wpAnyH_take (i := 3) (oi := { dst := some 23, op := Op.load 9 (Operand.tmp 22), type := 9, pos := "ref.go:193", after := #[{ on := 2, ground := Ground.data }], guard := none }) (v := .string s) rfl (by kernel_rfl) (by kernel_rfl) (by kernel_rfl) (fun _ _ _ h => h) (Or.inl ⟨by rfl, ?_⟩) hHeld ?_
  · (intro w hSw; (try dsimp only at hSw); go_simp)
  try simp only [Act.put, List.setIfInBounds_toArray, List.set_cons_zero, List.set_cons_succ]
  refine wpAnyH_ready (rs := [1]) (by kernel_rfl) (by simp) ?_
  refine AllReadyH.cons (o := { dst := some 21, op := Op.call { callee := Callee.value (Operand.func 33), args := #[Operand.tmp 20], argTypes := #[25] }, type := 57, pos := "ref.go:193", after := #[{ on := 0, ground := Ground.data }], guard := none }) rfl (fun K hK => ?_) AllReadyH.nil
  go_simp
  refine H33.out.mono ?_
  rintro e w1 ⟨a', l', c', rfl, hF, hK, hb⟩
  have hlm : l'.length = m := Card.len hF.lst HM.out.card
  have hl64 : l'.length ≤ 64 := (by rw [hlm]; exact HM.out.rk.few M.done.length m (by rw [List.take_length, ← HM.out.ok.fl]; exact HM.out.card))
  obtain ⟨i, f, hi, hfi, hk, hd0⟩ := hF.lst.yes HF.out
  have HFI := hidOf hfi
  have HFS := hidOf hF
  have HB1 : Hid (Below w.heap.size w w1) := hidOf ((show Below w.heap.size w _ from HB0.out.drew).trans (hb.mono (show w.heap.size ≤ (w.alloc (.cells #[.int .i64 3, .string s, .string t, .slice none 0 0] 82)).drew.heap.size from HB0.out.size)))
  have HG1 := hidOf (HBX.out.grow hb (by show w.heap.size < (w.alloc (.cells #[.int .i64 3, .string s, .string t, .slice none 0 0] 82)).heap.size; simp))
  have hsz1 : w.heap.size < w1.heap.size := Nat.lt_of_lt_of_le (show w.heap.size < (w.alloc (.cells #[.int .i64 3, .string s, .string t, .slice none 0 0] 82)).heap.size by simp) hb.size
  clear hF hK hb hfi hlm hi hk hd0
  refine hK.out _ _ HG1.out.2.1 (fun hHeld1 => ?_)
  clear hK K
  try simp only [Act.put, List.setIfInBounds_toArray, List.set_cons_zero, List.set_cons_succ]
  refine wpAnyH_ready (rs := [4]) (by kernel_rfl) (by simp) ?_
  refine AllReadyH.cons (o := { dst := some 24, op := Op.call { callee := Callee.value (Operand.func 56), args := #[Operand.tmp 21, Operand.tmp 23], argTypes := #[57, 9] }, type := 3, pos := "ref.go:193", after := #[{ on := 1, ground := Ground.data }, { on := 3, ground := Ground.data }, { on := 1, ground := Ground.chain }], guard := none }) rfl (fun K hK => ?_) AllReadyH.nil
  go_simp
  have hC := find_any a' c' l' s _ HFS.out.fls (by omega)
  rw [HFI.out] at hC
  refine hC.mono ?_
  rintro e w2 ⟨rfl, hw⟩
  replace hw := hw.symm
  subst hw
  clear hC
  refine hK.out _ _ HG1.out.2.1 (fun hHeld2 => ?_)
  clear hK K
  try simp only [Act.put, List.setIfInBounds_toArray, List.set_cons_zero, List.set_cons_succ]
  refine wpAnyH_take (i := 5) (oi := { dst := some 25, op := Op.binOp BinOp.lss 3 (Operand.tmp 24) (Operand.const (Value.int IntKind.i64 0)) 3, type := 4, pos := "ref.go:193", after := #[{ on := 4, ground := Ground.data }], guard := none }) (v := .bool false) rfl (by kernel_rfl) (by kernel_rfl) (by kernel_rfl) (fun _ _ _ h => h) (Or.inl ⟨by rfl, ?_⟩) hHeld2 ?_
  · (intro w hSw; (try dsimp only at hSw); go_simp)
  try simp only [Act.put, List.setIfInBounds_toArray, List.set_cons_zero, List.set_cons_succ]
  refine wpAnyH_done (by kernel_rfl) ?_ _
  obtain ⟨d0, d1, d2, d3⟩ := HG1.out
  have d0 : w1.cell? ⟨w.heap.size, 0, none⟩ = some (.int .i64 3) := d0
  have d1 : w1.cell? ⟨w.heap.size, 1, none⟩ = some (.string s) := d1
  have d2 : w1.cell? ⟨w.heap.size, 2, none⟩ = some (.string t) := d2
  have d3 : w1.cell? ⟨w.heap.size, 3, none⟩ = some (.slice none 0 0) := d3
  go_wp2_with (go_at_call 66; refine (did_any q M a cap l dn G _ (H.out.grow HB1.out) ⟨3, s, t, none, 0, []⟩ 1 (.rn s.data.toList t.data.toList) ⟨⟨Nat.zero_le _, fun e => absurd rfl e⟩, fun _ => rfl, Nat.zero_le _, Nat.le_refl _⟩ (fun k hk => by obtain ⟨_, e, _⟩ := hk; cases e) ⟨⟨rfl, rfl, rfl⟩, rfl⟩ HM.out.le HM.out.n).mono ?_; rintro e w5 ⟨rfl, hp⟩; have HP := hidOf hp; clear hp)
  go_ret
  obtain ⟨dn', g1, g2, g3⟩ := HP.out
  exact ⟨rfl, dn', _, g1, Fr.fresh2 HB1.out (fun k hk => by obtain ⟨_, e, _⟩ := hk; cases e) g2, (Kp82.below HB1.out).trans g3⟩
end Go.Proofs.Ytkbmfookdhlphaa
