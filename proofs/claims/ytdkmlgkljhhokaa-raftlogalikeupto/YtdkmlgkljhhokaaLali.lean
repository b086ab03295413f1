/- RaftlogAlike, walked. -/
import Derived.Test.YtdkmlgkljhhokaaLal
namespace Go.Proofs.Ytdkmlgkljhhokaa
open Go.RowKit

theorem cell_up {w0 w : World} (hb : Below w0.heap.size w0 w) {b o : Nat} (hl : b < w0.heap.size) {x : Value} (h : w0.cell? ⟨b, o, none⟩ = some x) : w.cell? ⟨b, o, none⟩ = some x := (World.cell?_of_block (w := w0) (hb.block b hl)).trans h
def Ta (w0 w : World) (p q : Nat) (A B : Lg) : Prop := ∃ v u, TwA w0 w p q A B v u
theorem ta_new (w : World) : Ta w ((w.alloc (.cells #[.int .i64 0, .int .i64 0, .slice none 0 0] 72)).alloc (.cells #[.int .i64 0, .int .i64 0, .slice none 0 0] 72)) w.heap.size (w.alloc (.cells #[.int .i64 0, .int .i64 0, .slice none 0 0] 72)).heap.size ⟨0, 0, []⟩ ⟨0, 0, []⟩ :=
  ⟨.slice none 0 0, .slice none 0 0, (lg_new (Nat.le_refl _) 72 (by decide)).below (below1 _ _), lg_new (by simp) 72 (by decide), by simp, fun k hk => (by cases hk), (below1 w _).trans ((below1 _ _).mono (by simp))⟩
theorem tail_eq {A B : List En} {k : Nat} (h : A.take (k + 1) = B.take (k + 1)) : (A.drop k).take 1 = (B.drop k).take 1 ∧ A.take k = B.take k := by
  have h1 : (A.take (k + 1)).drop k = (B.take (k + 1)).drop k := by rw [h]
  have h2 : (A.take (k + 1)).take k = (B.take (k + 1)).take k := by rw [h]
  rw [List.drop_take, List.drop_take, show k + 1 - k = 1 by omega] at h1
  rw [List.take_take, List.take_take, Nat.min_eq_left (by omega)] at h2
  exact ⟨h1, h2⟩
set_option maxHeartbeats 1600000 in
set_option maxRecDepth 100000 in
theorem lawAlike (a : Option Addr) (cap : Nat) (L : List Dee) (a2 : Option Addr) (cap2 : Nat) (L2 : List Dee) (a3 : Option Addr) (cap3 : Nat) (L3 : List Dee) (w : World) (hO : Dees w a L) (hL : wt L ≤ 1048576) (hO2 : Dees w a2 L2) (hL2 : wt L2 ≤ 1048576) (hO3 : Dees w a3 L3) (hL3 : wt L3 ≤ 1048576) : Calls Try.prog 4 #[.slice a L.length cap, .slice a2 L2.length cap2, .slice a3 L3.length cap3] w fun e w' => e = .returned (.bool true) ∧ Below w.heap.size w w' := by
  have HO := hidOf hO
  have HL := hidOf hL
  have HO2 := hidOf hO2
  have HL2 := hidOf hL2
  have HO3 := hidOf hO3
  have HL3 := hidOf hL3
  have HLV := hidOf lives_any
  have HTW := hidOf (ta_new w)
  clear hO hL hO2 hL2 hO3 hL3
  go_enter Try.func4, Try.ntmps4
  go_wp2_with (first
    | (go_at_call 9; refine (new_yes 0 0 w (by decide)).mono ?_; rintro e w1 ⟨rfl, hw1⟩; rw [← hw1] at HTW; have HW1 := hidOf hw1; clear hw1)
    | (go_at_call 9; refine (new_yes 0 0 w1 (by decide)).mono ?_; rintro e w2 ⟨rfl, hw2⟩; rw [← hw2] at HTW; clear hw2))
  obtain ⟨q, hq⟩ : ∃ q, q = w1.heap.size := ⟨_, rfl⟩
  rw [← hq] at HTW
  rw [← hq]
  clear hq HW1
  go_loopw [9] (fun i wr => ∃ (k : Nat) (M : Lg), i = .int .i64 (k : Int) ∧ k ≤ L.length ∧ Hid (Ta w wr w.heap.size q M ⟨0, 0, []⟩ ∧ M.bi = 0 ∧ M.L.length ≤ k ∧ ∀ e ∈ M.L, e.tm % 2 = 0)) (fun i _ => L.length - (intOf i).toNat)
  case atStart => exact ⟨0, _, rfl, Nat.zero_le _, hidOf ⟨HTW.out, rfl, Nat.zero_le _, fun e he => by cases he⟩⟩
  case round =>
    obtain ⟨j, M, rfl, hk, H⟩ := hrel
    have hJ : j ≤ 1048576 := by
      have h1 := pre_len L
      have := HL.out
      omega
    by_cases hlt : j < L.length
    · have hltz : (j : Int) < (L.length : Int) := by omega
      obtain ⟨v, u, ht⟩ := H.out.1
      obtain ⟨b, off, hab, hbl, _, _, z2, z3, _, hB⟩ := HO.out.at (Below.refl _ w) j hlt
      subst hab
      have HPK := hidOf (fun w' => pick_any (dt L j).tm 50 w' hB.1.2.2 (by omega))
      have hpk := pickZ_range (dt L j).tm (show (0 : Int) < 50 by omega)
      generalize pickZ (dt L j).tm 50 = pk at *
      generalize (dt L j).tm = tm at *
      generalize (dt L j).op = op at *
      have c2 := cell_up ht.bel hbl z2
      have c3 := cell_up ht.bel hbl z3
      have hbw : b < wr.heap.size := Nat.lt_of_lt_of_le hbl ht.bel.size
      have HTd := hidOf (ht.below (bdrew wr))
      have HLE : Hid (M.L.length + 1 ≤ 33554432) := hidOf (by have := H.out.2.2.1; omega)
      clear ht hB
      go_upto_region 8 with (fail)
      refine wp_region_held_drew (S := fun wz : World => wz.cell? ⟨b, off + j * 5 + 2, none⟩ = some (.int .i64 tm) ∧ wz.cell? ⟨b, off + j * 5 + 3, none⟩ = some (.int .i64 op) ∧ b < wz.heap.size) (by kernel_rfl) ⟨c2, c3, hbw⟩ (fun hHeld => ?_)
      refine wpAnyH_take (i := 0) (oi := { dst := some 42, op := Op.move (Operand.tmp 7), type := 23, pos := "law.go:126", after := #[], guard := none }) (v := .pointer (some ⟨w.heap.size, 0, none⟩)) rfl (by kernel_rfl) (by kernel_rfl) (by kernel_rfl) (fun _ _ _ h => h) (Or.inl ⟨by rfl, ?_⟩) hHeld ?_
      · (intro w hSw; (try dsimp only at hSw); go_simp)
      try simp only [Act.put, List.setIfInBounds_toArray, List.set_cons_zero, List.set_cons_succ]
      refine wpAnyH_take (i := 1) (oi := { dst := some 43, op := Op.move (Operand.tmp 0), type := 22, pos := "law.go:126", after := #[], guard := none }) (v := .slice (some ⟨b, off, none⟩) L.length cap) rfl (by kernel_rfl) (by kernel_rfl) (by kernel_rfl) (fun _ _ _ h => h) (Or.inl ⟨by rfl, ?_⟩) hHeld ?_
      · (intro w hSw; (try dsimp only at hSw); go_simp)
      try simp only [Act.put, List.setIfInBounds_toArray, List.set_cons_zero, List.set_cons_succ]
      refine wpAnyH_take (i := 2) (oi := { dst := some 44, op := Op.move (Operand.tmp 9), type := 3, pos := "law.go:126", after := #[], guard := none }) (v := .int .i64 (j : Int)) rfl (by kernel_rfl) (by kernel_rfl) (by kernel_rfl) (fun _ _ _ h => h) (Or.inl ⟨by rfl, ?_⟩) hHeld ?_
      · (intro w hSw; (try dsimp only at hSw); go_simp)
      try simp only [Act.put, List.setIfInBounds_toArray, List.set_cons_zero, List.set_cons_succ]
      refine wpAnyH_take (i := 3) (oi := { dst := some 45, op := Op.indexAddr 22 (Operand.tmp 43) (Operand.tmp 44), type := 0, pos := "law.go:126", after := #[{ on := 1, ground := Ground.data }, { on := 2, ground := Ground.data }], guard := none }) (v := .pointer (some ⟨b, off + j * 5, none⟩)) rfl (by kernel_rfl) (by kernel_rfl) (by kernel_rfl) (fun _ _ _ h => h) (Or.inl ⟨by rfl, ?_⟩) hHeld ?_
      · (intro w hSw; (try dsimp only at hSw); go_simp)
      try simp only [Act.put, List.setIfInBounds_toArray, List.set_cons_zero, List.set_cons_succ]
      refine wpAnyH_take (i := 4) (oi := { dst := some 46, op := Op.fieldAddr 30 (Operand.tmp 45) 2, type := 0, pos := "law.go:126", after := #[{ on := 3, ground := Ground.data }], guard := none }) (v := .pointer (some ⟨b, off + j * 5 + 2, none⟩)) rfl (by kernel_rfl) (by kernel_rfl) (by kernel_rfl) (fun _ _ _ h => h) (Or.inl ⟨by rfl, ?_⟩) hHeld ?_
      · (intro w hSw; (try dsimp only at hSw); go_simp)
      try simp only [Act.put, List.setIfInBounds_toArray, List.set_cons_zero, List.set_cons_succ]
      refine wpAnyH_take (i := 5) (oi := { dst := some 47, op := Op.load 3 (Operand.tmp 46), type := 3, pos := "law.go:126", after := #[{ on := 4, ground := Ground.data }], guard := none }) (v := .int .i64 tm) rfl (by kernel_rfl) (by kernel_rfl) (by kernel_rfl) (fun _ _ _ h => h) (Or.inl ⟨by rfl, ?_⟩) hHeld ?_
      · (intro w hSw; obtain ⟨s2, s3, sl⟩ := hSw; go_simp)
      try simp only [Act.put, List.setIfInBounds_toArray, List.set_cons_zero, List.set_cons_succ]
      refine wpAnyH_take (i := 9) (oi := { dst := some 51, op := Op.move (Operand.tmp 0), type := 22, pos := "law.go:126", after := #[], guard := none }) (v := .slice (some ⟨b, off, none⟩) L.length cap) rfl (by kernel_rfl) (by kernel_rfl) (by kernel_rfl) (fun _ _ _ h => h) (Or.inl ⟨by rfl, ?_⟩) hHeld ?_
      · (intro w hSw; (try dsimp only at hSw); go_simp)
      try simp only [Act.put, List.setIfInBounds_toArray, List.set_cons_zero, List.set_cons_succ]
      refine wpAnyH_take (i := 10) (oi := { dst := some 52, op := Op.move (Operand.tmp 9), type := 3, pos := "law.go:126", after := #[], guard := none }) (v := .int .i64 (j : Int)) rfl (by kernel_rfl) (by kernel_rfl) (by kernel_rfl) (fun _ _ _ h => h) (Or.inl ⟨by rfl, ?_⟩) hHeld ?_
      · (intro w hSw; (try dsimp only at hSw); go_simp)
      try simp only [Act.put, List.setIfInBounds_toArray, List.set_cons_zero, List.set_cons_succ]
      refine wpAnyH_take (i := 11) (oi := { dst := some 53, op := Op.indexAddr 22 (Operand.tmp 51) (Operand.tmp 52), type := 0, pos := "law.go:126", after := #[{ on := 9, ground := Ground.data }, { on := 10, ground := Ground.data }], guard := none }) (v := .pointer (some ⟨b, off + j * 5, none⟩)) rfl (by kernel_rfl) (by kernel_rfl) (by kernel_rfl) (fun _ _ _ h => h) (Or.inl ⟨by rfl, ?_⟩) hHeld ?_
      · (intro w hSw; (try dsimp only at hSw); go_simp)
      try simp only [Act.put, List.setIfInBounds_toArray, List.set_cons_zero, List.set_cons_succ]
      refine wpAnyH_take (i := 12) (oi := { dst := some 54, op := Op.fieldAddr 30 (Operand.tmp 53) 3, type := 0, pos := "law.go:126", after := #[{ on := 11, ground := Ground.data }], guard := none }) (v := .pointer (some ⟨b, off + j * 5 + 3, none⟩)) rfl (by kernel_rfl) (by kernel_rfl) (by kernel_rfl) (fun _ _ _ h => h) (Or.inl ⟨by rfl, ?_⟩) hHeld ?_
      · (intro w hSw; (try dsimp only at hSw); go_simp)
      try simp only [Act.put, List.setIfInBounds_toArray, List.set_cons_zero, List.set_cons_succ]
      refine wpAnyH_take (i := 13) (oi := { dst := some 55, op := Op.load 3 (Operand.tmp 54), type := 3, pos := "law.go:126", after := #[{ on := 12, ground := Ground.data }], guard := none }) (v := .int .i64 op) rfl (by kernel_rfl) (by kernel_rfl) (by kernel_rfl) (fun _ _ _ h => h) (Or.inl ⟨by rfl, ?_⟩) hHeld ?_
      · (intro w hSw; obtain ⟨s2, s3, sl⟩ := hSw; go_simp)
      try simp only [Act.put, List.setIfInBounds_toArray, List.set_cons_zero, List.set_cons_succ]
      refine wpAnyH_take (i := 14) (oi := { dst := some 56, op := Op.build 49 #[(0, Operand.tmp 55)], type := 49, pos := "law.go:126", after := #[{ on := 13, ground := Ground.data }], guard := none }) (v := .agg (Zm op)) rfl (by kernel_rfl) (by kernel_rfl) (by kernel_rfl) (fun _ _ _ h => h) (Or.inl ⟨by rfl, ?_⟩) hHeld ?_
      · (intro w hSw; (try dsimp only at hSw); go_simp; rfl)
      try simp only [Act.put, List.setIfInBounds_toArray, List.set_cons_zero, List.set_cons_succ]
      refine wpAnyH_ready (rs := [6]) (by kernel_rfl) (by simp) ?_
      refine AllReadyH.cons (o := { dst := some 48, op := Op.call { callee := Callee.value (Operand.func 15), args := #[Operand.tmp 47, Operand.const (Value.int IntKind.i64 50)], argTypes := #[3, 3] }, type := 3, pos := "law.go:126", after := #[{ on := 5, ground := Ground.data }], guard := none }) rfl (fun K hK => ?_) AllReadyH.nil
      go_simp
      refine (HPK.out _).mono ?_
      rintro en w3 ⟨rfl, hw3⟩
      subst w3
      refine hK.out _ _ ⟨c2, c3, hbw⟩ (fun hHeld1 => ?_)
      clear hK K
      try simp only [Act.put, List.setIfInBounds_toArray, List.set_cons_zero, List.set_cons_succ]
      refine wpAnyH_take (i := 7) (oi := { dst := some 49, op := Op.binOp BinOp.mul 3 (Operand.const (Value.int IntKind.i64 2)) (Operand.tmp 48) 3, type := 3, pos := "law.go:126", after := #[{ on := 6, ground := Ground.data }], guard := none }) (v := .int .i64 (2 * pk)) rfl (by kernel_rfl) (by kernel_rfl) (by kernel_rfl) (fun _ _ _ h => h) (Or.inl ⟨by rfl, ?_⟩) hHeld1 ?_
      · (intro w hSw; (try dsimp only at hSw); go_simp; exact IntWalk.i64_in _ (by omega))
      try simp only [Act.put, List.setIfInBounds_toArray, List.set_cons_zero, List.set_cons_succ]
      refine wpAnyH_take (i := 8) (oi := { dst := some 50, op := Op.binOp BinOp.add 3 (Operand.tmp 49) (Operand.const (Value.int IntKind.i64 2)) 3, type := 3, pos := "law.go:126", after := #[{ on := 7, ground := Ground.data }], guard := none }) (v := .int .i64 (2 * pk + 2)) rfl (by kernel_rfl) (by kernel_rfl) (by kernel_rfl) (fun _ _ _ h => h) (Or.inl ⟨by rfl, ?_⟩) hHeld1 ?_
      · (intro w hSw; (try dsimp only at hSw); go_simp; exact IntWalk.i64_in _ (by omega))
      try simp only [Act.put, List.setIfInBounds_toArray, List.set_cons_zero, List.set_cons_succ]
      refine wpAnyH_ready (rs := [15]) (by kernel_rfl) (by simp) ?_
      refine AllReadyH.cons (o := { dst := some 57, op := Op.call { callee := Callee.value (Operand.func 14), args := #[Operand.tmp 42, Operand.tmp 50, Operand.tmp 56], argTypes := #[23, 3, 49] }, type := 53, pos := "law.go:126", after := #[{ on := 0, ground := Ground.data }, { on := 8, ground := Ground.data }, { on := 14, ground := Ground.data }, { on := 6, ground := Ground.chain }], guard := none }) rfl (fun K hK => ?_) AllReadyH.nil
      go_simp
      refine (put_any HTd.out.c (2 * pk + 2) op HLE.out).mono ?_
      rintro en w4 ⟨k4, v4, rfl, e4, l4, g4, n4⟩
      have HT4 := hidOf (HTd.out.first l4 g4 n4)
      have c2b := cell_up HT4.out.bel hbl z2
      have c3b := cell_up HT4.out.bel hbl z3
      have hbw4 : b < w4.heap.size := Nat.lt_of_lt_of_le hbl HT4.out.bel.size
      clear e4 l4 g4 n4
      refine hK.out _ _ ⟨c2b, c3b, hbw4⟩ (fun hHeld2 => ?_)
      clear hK K
      try simp only [Act.put, List.setIfInBounds_toArray, List.set_cons_zero, List.set_cons_succ]
      refine wpAnyH_done (by kernel_rfl) ?_ _
      have HF := hidOf (putM_facts (M := M) (t := 2 * pk + 2) (op := op))
      generalize putM M (2 * pk + 2) op 0 = M4 at *
      go_wp2
      go_roundw
      case rel => exact ⟨j + 1, M4, by go_num, by omega, hidOf ⟨⟨_, _, HT4.out⟩, by rw [HF.out.1]; exact H.out.2.1, by have h1 := HF.out.2.2.1; have h2 := H.out.2.2.1; omega, HF.out.2.2.2 _ (by omega) H.out.2.2.2⟩⟩
      case measure => simp [intOf]; omega
    · have hltz : ¬ (j : Int) < (L.length : Int) := by omega
      obtain ⟨A, hA⟩ : ∃ A, A = M := ⟨_, rfl⟩
      rw [← hA] at H
      have HTA := hidOf H.out.1
      have HA0 := hidOf H.out.2.1
      have HAL : Hid (A.L.length ≤ 1048576) := hidOf (by have := H.out.2.2.1; omega)
      have HAE := hidOf H.out.2.2.2
      clear hA H
      go_wp2_with (fail)
      go_loopw [10] (fun i wr => ∃ (k : Nat) (M : Lg), i = .int .i64 (k : Int) ∧ k ≤ L2.length ∧ Hid (Ta w wr w.heap.size q A M ∧ M.bi = 0 ∧ M.L.length ≤ k ∧ ∀ e ∈ M.L, e.tm % 2 = 1)) (fun i _ => L2.length - (intOf i).toNat)
      case atStart => exact ⟨0, _, rfl, Nat.zero_le _, hidOf ⟨HTA.out, rfl, Nat.zero_le _, fun e he => by cases he⟩⟩
      case round =>
        obtain ⟨j, M, rfl, hk, H⟩ := hrel
        have hJ : j ≤ 1048576 := by
          have h1 := pre_len L2
          have := HL2.out
          omega
        by_cases hlt : j < L2.length
        · have hltz : (j : Int) < (L2.length : Int) := by omega
          obtain ⟨v, u, ht⟩ := H.out.1
          obtain ⟨b, off, hab, hbl, _, _, z2, z3, _, hB⟩ := HO2.out.at (Below.refl _ w) j hlt
          subst hab
          have HPK := hidOf (fun w' => pick_any (dt L2 j).tm 50 w' hB.1.2.2 (by omega))
          have hpk := pickZ_range (dt L2 j).tm (show (0 : Int) < 50 by omega)
          generalize pickZ (dt L2 j).tm 50 = pk at *
          generalize (dt L2 j).tm = tm at *
          generalize (dt L2 j).op = op at *
          have c2 := cell_up ht.bel hbl z2
          have c3 := cell_up ht.bel hbl z3
          have hbw : b < wr.heap.size := Nat.lt_of_lt_of_le hbl ht.bel.size
          have HTd := hidOf (ht.below (bdrew wr))
          have HLE : Hid (M.L.length + 1 ≤ 33554432) := hidOf (by have := H.out.2.2.1; omega)
          clear ht hB
          go_upto_region 12 with (fail)
          refine wp_region_held_drew (S := fun wz : World => wz.cell? ⟨b, off + j * 5 + 2, none⟩ = some (.int .i64 tm) ∧ wz.cell? ⟨b, off + j * 5 + 3, none⟩ = some (.int .i64 op) ∧ b < wz.heap.size) (by kernel_rfl) ⟨c2, c3, hbw⟩ (fun hHeld => ?_)
          refine wpAnyH_take (i := 0) (oi := { dst := some 64, op := Op.move (Operand.tmp 8), type := 23, pos := "law.go:129", after := #[], guard := none }) (v := .pointer (some ⟨q, 0, none⟩)) rfl (by kernel_rfl) (by kernel_rfl) (by kernel_rfl) (fun _ _ _ h => h) (Or.inl ⟨by rfl, ?_⟩) hHeld ?_
          · (intro w hSw; (try dsimp only at hSw); go_simp)
          try simp only [Act.put, List.setIfInBounds_toArray, List.set_cons_zero, List.set_cons_succ]
          refine wpAnyH_take (i := 1) (oi := { dst := some 65, op := Op.move (Operand.tmp 1), type := 22, pos := "law.go:129", after := #[], guard := none }) (v := .slice (some ⟨b, off, none⟩) L2.length cap2) rfl (by kernel_rfl) (by kernel_rfl) (by kernel_rfl) (fun _ _ _ h => h) (Or.inl ⟨by rfl, ?_⟩) hHeld ?_
          · (intro w hSw; (try dsimp only at hSw); go_simp)
          try simp only [Act.put, List.setIfInBounds_toArray, List.set_cons_zero, List.set_cons_succ]
          refine wpAnyH_take (i := 2) (oi := { dst := some 66, op := Op.move (Operand.tmp 10), type := 3, pos := "law.go:129", after := #[], guard := none }) (v := .int .i64 (j : Int)) rfl (by kernel_rfl) (by kernel_rfl) (by kernel_rfl) (fun _ _ _ h => h) (Or.inl ⟨by rfl, ?_⟩) hHeld ?_
          · (intro w hSw; (try dsimp only at hSw); go_simp)
          try simp only [Act.put, List.setIfInBounds_toArray, List.set_cons_zero, List.set_cons_succ]
          refine wpAnyH_take (i := 3) (oi := { dst := some 67, op := Op.indexAddr 22 (Operand.tmp 65) (Operand.tmp 66), type := 0, pos := "law.go:129", after := #[{ on := 1, ground := Ground.data }, { on := 2, ground := Ground.data }], guard := none }) (v := .pointer (some ⟨b, off + j * 5, none⟩)) rfl (by kernel_rfl) (by kernel_rfl) (by kernel_rfl) (fun _ _ _ h => h) (Or.inl ⟨by rfl, ?_⟩) hHeld ?_
          · (intro w hSw; (try dsimp only at hSw); go_simp)
          try simp only [Act.put, List.setIfInBounds_toArray, List.set_cons_zero, List.set_cons_succ]
          refine wpAnyH_take (i := 4) (oi := { dst := some 68, op := Op.fieldAddr 30 (Operand.tmp 67) 2, type := 0, pos := "law.go:129", after := #[{ on := 3, ground := Ground.data }], guard := none }) (v := .pointer (some ⟨b, off + j * 5 + 2, none⟩)) rfl (by kernel_rfl) (by kernel_rfl) (by kernel_rfl) (fun _ _ _ h => h) (Or.inl ⟨by rfl, ?_⟩) hHeld ?_
          · (intro w hSw; (try dsimp only at hSw); go_simp)
          try simp only [Act.put, List.setIfInBounds_toArray, List.set_cons_zero, List.set_cons_succ]
          refine wpAnyH_take (i := 5) (oi := { dst := some 69, op := Op.load 3 (Operand.tmp 68), type := 3, pos := "law.go:129", after := #[{ on := 4, ground := Ground.data }], guard := none }) (v := .int .i64 tm) rfl (by kernel_rfl) (by kernel_rfl) (by kernel_rfl) (fun _ _ _ h => h) (Or.inl ⟨by rfl, ?_⟩) hHeld ?_
          · (intro w hSw; obtain ⟨s2, s3, sl⟩ := hSw; go_simp)
          try simp only [Act.put, List.setIfInBounds_toArray, List.set_cons_zero, List.set_cons_succ]
          refine wpAnyH_take (i := 9) (oi := { dst := some 73, op := Op.move (Operand.tmp 1), type := 22, pos := "law.go:129", after := #[], guard := none }) (v := .slice (some ⟨b, off, none⟩) L2.length cap2) rfl (by kernel_rfl) (by kernel_rfl) (by kernel_rfl) (fun _ _ _ h => h) (Or.inl ⟨by rfl, ?_⟩) hHeld ?_
          · (intro w hSw; (try dsimp only at hSw); go_simp)
          try simp only [Act.put, List.setIfInBounds_toArray, List.set_cons_zero, List.set_cons_succ]
          refine wpAnyH_take (i := 10) (oi := { dst := some 74, op := Op.move (Operand.tmp 10), type := 3, pos := "law.go:129", after := #[], guard := none }) (v := .int .i64 (j : Int)) rfl (by kernel_rfl) (by kernel_rfl) (by kernel_rfl) (fun _ _ _ h => h) (Or.inl ⟨by rfl, ?_⟩) hHeld ?_
          · (intro w hSw; (try dsimp only at hSw); go_simp)
          try simp only [Act.put, List.setIfInBounds_toArray, List.set_cons_zero, List.set_cons_succ]
          refine wpAnyH_take (i := 11) (oi := { dst := some 75, op := Op.indexAddr 22 (Operand.tmp 73) (Operand.tmp 74), type := 0, pos := "law.go:129", after := #[{ on := 9, ground := Ground.data }, { on := 10, ground := Ground.data }], guard := none }) (v := .pointer (some ⟨b, off + j * 5, none⟩)) rfl (by kernel_rfl) (by kernel_rfl) (by kernel_rfl) (fun _ _ _ h => h) (Or.inl ⟨by rfl, ?_⟩) hHeld ?_
          · (intro w hSw; (try dsimp only at hSw); go_simp)
          try simp only [Act.put, List.setIfInBounds_toArray, List.set_cons_zero, List.set_cons_succ]
          refine wpAnyH_take (i := 12) (oi := { dst := some 76, op := Op.fieldAddr 30 (Operand.tmp 75) 3, type := 0, pos := "law.go:129", after := #[{ on := 11, ground := Ground.data }], guard := none }) (v := .pointer (some ⟨b, off + j * 5 + 3, none⟩)) rfl (by kernel_rfl) (by kernel_rfl) (by kernel_rfl) (fun _ _ _ h => h) (Or.inl ⟨by rfl, ?_⟩) hHeld ?_
          · (intro w hSw; (try dsimp only at hSw); go_simp)
          try simp only [Act.put, List.setIfInBounds_toArray, List.set_cons_zero, List.set_cons_succ]
          refine wpAnyH_take (i := 13) (oi := { dst := some 77, op := Op.load 3 (Operand.tmp 76), type := 3, pos := "law.go:129", after := #[{ on := 12, ground := Ground.data }], guard := none }) (v := .int .i64 op) rfl (by kernel_rfl) (by kernel_rfl) (by kernel_rfl) (fun _ _ _ h => h) (Or.inl ⟨by rfl, ?_⟩) hHeld ?_
          · (intro w hSw; obtain ⟨s2, s3, sl⟩ := hSw; go_simp)
          try simp only [Act.put, List.setIfInBounds_toArray, List.set_cons_zero, List.set_cons_succ]
          refine wpAnyH_take (i := 14) (oi := { dst := some 78, op := Op.build 49 #[(0, Operand.tmp 77)], type := 49, pos := "law.go:129", after := #[{ on := 13, ground := Ground.data }], guard := none }) (v := .agg (Zm op)) rfl (by kernel_rfl) (by kernel_rfl) (by kernel_rfl) (fun _ _ _ h => h) (Or.inl ⟨by rfl, ?_⟩) hHeld ?_
          · (intro w hSw; (try dsimp only at hSw); go_simp; rfl)
          try simp only [Act.put, List.setIfInBounds_toArray, List.set_cons_zero, List.set_cons_succ]
          refine wpAnyH_ready (rs := [6]) (by kernel_rfl) (by simp) ?_
          refine AllReadyH.cons (o := { dst := some 70, op := Op.call { callee := Callee.value (Operand.func 15), args := #[Operand.tmp 69, Operand.const (Value.int IntKind.i64 50)], argTypes := #[3, 3] }, type := 3, pos := "law.go:129", after := #[{ on := 5, ground := Ground.data }], guard := none }) rfl (fun K hK => ?_) AllReadyH.nil
          go_simp
          refine (HPK.out _).mono ?_
          rintro en w3 ⟨rfl, hw3⟩
          subst w3
          refine hK.out _ _ ⟨c2, c3, hbw⟩ (fun hHeld1 => ?_)
          clear hK K
          try simp only [Act.put, List.setIfInBounds_toArray, List.set_cons_zero, List.set_cons_succ]
          refine wpAnyH_take (i := 7) (oi := { dst := some 71, op := Op.binOp BinOp.mul 3 (Operand.const (Value.int IntKind.i64 2)) (Operand.tmp 70) 3, type := 3, pos := "law.go:129", after := #[{ on := 6, ground := Ground.data }], guard := none }) (v := .int .i64 (2 * pk)) rfl (by kernel_rfl) (by kernel_rfl) (by kernel_rfl) (fun _ _ _ h => h) (Or.inl ⟨by rfl, ?_⟩) hHeld1 ?_
          · (intro w hSw; (try dsimp only at hSw); go_simp; exact IntWalk.i64_in _ (by omega))
          try simp only [Act.put, List.setIfInBounds_toArray, List.set_cons_zero, List.set_cons_succ]
          refine wpAnyH_take (i := 8) (oi := { dst := some 72, op := Op.binOp BinOp.add 3 (Operand.tmp 71) (Operand.const (Value.int IntKind.i64 1)) 3, type := 3, pos := "law.go:129", after := #[{ on := 7, ground := Ground.data }], guard := none }) (v := .int .i64 (2 * pk + 1)) rfl (by kernel_rfl) (by kernel_rfl) (by kernel_rfl) (fun _ _ _ h => h) (Or.inl ⟨by rfl, ?_⟩) hHeld1 ?_
          · (intro w hSw; (try dsimp only at hSw); go_simp; exact IntWalk.i64_in _ (by omega))
          try simp only [Act.put, List.setIfInBounds_toArray, List.set_cons_zero, List.set_cons_succ]
          refine wpAnyH_ready (rs := [15]) (by kernel_rfl) (by simp) ?_
          refine AllReadyH.cons (o := { dst := some 79, op := Op.call { callee := Callee.value (Operand.func 14), args := #[Operand.tmp 64, Operand.tmp 72, Operand.tmp 78], argTypes := #[23, 3, 49] }, type := 53, pos := "law.go:129", after := #[{ on := 0, ground := Ground.data }, { on := 8, ground := Ground.data }, { on := 14, ground := Ground.data }, { on := 6, ground := Ground.chain }], guard := none }) rfl (fun K hK => ?_) AllReadyH.nil
          go_simp
          refine (put_any HTd.out.r (2 * pk + 1) op HLE.out).mono ?_
          rintro en w4 ⟨k4, v4, rfl, e4, l4, g4, n4⟩
          have HT4 := hidOf ((HTd.out.swap.first l4 g4 n4).swap)
          have c2b := cell_up HT4.out.bel hbl z2
          have c3b := cell_up HT4.out.bel hbl z3
          have hbw4 : b < w4.heap.size := Nat.lt_of_lt_of_le hbl HT4.out.bel.size
          clear e4 l4 g4 n4
          refine hK.out _ _ ⟨c2b, c3b, hbw4⟩ (fun hHeld2 => ?_)
          clear hK K
          try simp only [Act.put, List.setIfInBounds_toArray, List.set_cons_zero, List.set_cons_succ]
          refine wpAnyH_done (by kernel_rfl) ?_ _
          have HF := hidOf (putM_facts (M := M) (t := 2 * pk + 1) (op := op))
          generalize putM M (2 * pk + 1) op 0 = M4 at *
          go_wp2
          go_roundw
          case rel => exact ⟨j + 1, M4, by go_num, by omega, hidOf ⟨⟨_, _, HT4.out⟩, by rw [HF.out.1]; exact H.out.2.1, by have h1 := HF.out.2.2.1; have h2 := H.out.2.2.1; omega, HF.out.2.2.2 _ (by omega) H.out.2.2.2⟩⟩
          case measure => simp [intOf]; omega
        · have hltz : ¬ (j : Int) < (L2.length : Int) := by omega
          have HAG := hidOf (agr_odd HAE.out H.out.2.2.2)
          have HTB := hidOf H.out.1
          have HB0 := hidOf H.out.2.1
          have HBL : Hid (M.L.length ≤ 2097152) := hidOf (by have := H.out.2.2.1; omega)
          clear H HTA HAE hltz
          go_wp2_with (fail)
          go_loopw [11] (fun i wr => ∃ (k : Nat) (B : Lg), i = .int .i64 (k : Int) ∧ k ≤ L3.length ∧ Hid (Ta w wr w.heap.size q A B ∧ B.bi = 0 ∧ B.L.length ≤ 2097152 ∧ Agr A.L B.L)) (fun i _ => L3.length - (intOf i).toNat)
          case atStart => exact ⟨0, _, rfl, Nat.zero_le _, hidOf ⟨HTB.out, HB0.out, HBL.out, HAG.out⟩⟩
          case round =>
            obtain ⟨i3, B, rfl, hk3, H⟩ := hrel
            have hJ3 : i3 ≤ 1048576 := by
              have h1 := pre_len L3
              have := HL3.out
              omega
            by_cases hlt : i3 < L3.length
            · have hltz : (i3 : Int) < (L3.length : Int) := by omega
              obtain ⟨v, u, ht⟩ := H.out.1
              obtain ⟨b, off, hab, hbl, _, z1, z2, _, _, hB⟩ := HO3.out.at (Below.refl _ w) i3 hlt
              subst hab
              obtain ⟨la, HLA⟩ : ∃ n, Hid (n = A.L.length) := ⟨_, hidOf rfl⟩
              have hla : la ≤ 1048576 := by have := HLA.out; have := HAL.out; omega
              have HLI : Hid (lastI A = (la : Int)) := hidOf (by unfold lastI; rw [HA0.out, HLA.out]; omega)
              have HPK := hidOf (fun w' => pick_any (dt L3 i3).ix ((la : Int) + 1) w' hB.1.2.1 (by omega))
              have hf0 := pickZ_range (dt L3 i3).ix (show (0 : Int) < (la : Int) + 1 by omega)
              obtain ⟨f, hf⟩ : ∃ f : Nat, pickZ (dt L3 i3).ix ((la : Int) + 1) = f := ⟨(pickZ (dt L3 i3).ix ((la : Int) + 1)).toNat, by omega⟩
              rw [hf] at HPK hf0
              have HPK2 := hidOf (fun w' => pick_any (dt L3 i3).tm 9 w' hB.1.2.2 (by omega))
              have hc0 := pickZ_range (dt L3 i3).tm (show (0 : Int) < 9 by omega)
              obtain ⟨c, hc⟩ : ∃ c : Nat, pickZ (dt L3 i3).tm 9 = c := ⟨(pickZ (dt L3 i3).tm 9).toNat, by omega⟩
              rw [hc] at HPK2 hc0
              clear hf hc hB
              generalize (dt L3 i3).ix = ix at *
              generalize (dt L3 i3).tm = tm at *
              have hfl : f ≤ la := by omega
              have HTE : Hid (termE A (f : Int) = 0) := hidOf (by unfold termE; rw [HA0.out, HLI.out, if_neg (by omega), if_neg (by omega)])
              have HSN := hidOf (slice_nat HA0.out (show f ≤ A.L.length by have := HLA.out; omega) (c : Int))
              have HACC := hidOf (acc_agr ht.c.wf HA0.out H.out.2.1 H.out.2.2.2 (show f ≤ A.L.length by have := HLA.out; omega) (c : Int).toNat)
              obtain ⟨D, HD⟩ : ∃ d, Hid (d = (A.L.drop f).take (c : Int).toNat) := ⟨_, hidOf rfl⟩
              rw [← HD.out] at HSN HACC
              have HDL : Hid (D.length ≤ 9) := hidOf (by rw [HD.out, List.length_take]; omega)
              obtain ⟨tA, HTT⟩ : ∃ t, Hid (t = termT A (f : Int)) := ⟨_, hidOf rfl⟩
              rw [← HTT.out] at HACC
              obtain ⟨B2, HB2⟩ : ∃ b, Hid (b = accM B (f : Int) tA D) := ⟨_, hidOf rfl⟩
              rw [← HB2.out] at HACC
              have HG : Hid (B2.bi = 0 ∧ B2.L.length ≤ 2097152 ∧ Agr A.L B2.L) := hidOf (by
                rcases HACC.out with e | e
                · rw [e]; exact H.out.2
                · rw [e]
                  refine ⟨H.out.2.1, ?_, agr_take _ _⟩
                  show (A.L.take _).length ≤ _
                  rw [List.length_take]
                  have := HAL.out
                  omega)
              have c1 := cell_up ht.bel hbl z1
              have c2 := cell_up ht.bel hbl z2
              have hbw : b < wr.heap.size := Nat.lt_of_lt_of_le hbl ht.bel.size
              have HT := hidOf ht
              have HBL2 := hidOf H.out.2.2.1
              clear ht H HACC
              go_wp2_with (first
                | (go_at_call 16; refine (last_any HT.out.c).mono ?_; rintro e w3 ⟨he, hd⟩; rw [HLI.out] at he; generalize lastT A = lt3 at he; subst he; have HT3 := hidOf (HT.out.below hd.bel); clear c1 c2 hbw; have c1 := cell_up HT3.out.bel hbl z1; have c2 := cell_up HT3.out.bel hbl z2; have hbw := Nat.lt_of_lt_of_le hbl HT3.out.bel.size; clear hd HT)
                | (go_at_call 15; refine (HPK.out _).mono ?_; rintro e w4 ⟨rfl, hw4⟩; subst w4; clear HPK)
                | (go_at_call 17; refine (term_any HT3.out.c (f : Int)).mono ?_; rintro e w5 ⟨he, hd⟩; rw [HTE.out, ← HTT.out] at he; subst he; have HT5 := hidOf (HT3.out.below hd.bel); clear c1 c2 hbw; have c1 := cell_up HT5.out.bel hbl z1; have c2 := cell_up HT5.out.bel hbl z2; have hbw := Nat.lt_of_lt_of_le hbl HT5.out.bel.size; clear hd HT3)
                | (go_at_call 15; refine (HPK2.out _).mono ?_; rintro e w4 ⟨rfl, hw4⟩; subst w4; clear HPK2)
                | (go_at_call 19; refine (slice_any HT5.out.c ((f : Int) + 1) (c : Int)).mono ?_; rintro e w6 ⟨s6, rfl, o6, b6, n6⟩; rw [HSN.out] at o6; obtain ⟨sa, sc, hs⟩ := o6.es.form; subst hs; have HS6 := hidOf o6; have HT6 := hidOf (HT5.out.below b6); have HN6 := hidOf (fun k hk => HT5.out.swap.notP (n6 k hk)); clear o6 b6 n6 HT5)
                | (go_at_call 18; refine (accept_any HT6.out.r (f : Int) tA sa sc D HS6.out.es (fun _ e => HN6.out _ e (Or.inl rfl)) (fun _ b e1 e2 => HN6.out b e1 (Or.inr e2)) (by have := HBL2.out; have := HDL.out; omega)).mono ?_; rintro e w7 ⟨v7, he, l7, g7, n7⟩; generalize accX B (f : Int) tA D = x7 at he; generalize accB B (f : Int) tA D = y7 at he; subst he; rw [← HB2.out] at l7; have HT7 := hidOf ((HT6.out.swap.first l7 g7 n7).swap); clear l7 g7 n7 HS6 HT6 HN6)
                | (go_at_call 16; refine (last_any HT7.out.r).mono ?_; rintro e w8 ⟨he, hd⟩; generalize lastT B2 = lt8 at he; rw [show lastI B2 = (B2.L.length : Int) by unfold lastI; rw [HG.out.1]; omega] at he; subst he; have HT8 := hidOf (HT7.out.below hd.bel); clear hd HT7))
              obtain ⟨mb, HMB⟩ : ∃ n, Hid (n = B2.L.length) := ⟨_, hidOf rfl⟩
              rw [← HMB.out]
              have hmb : mb ≤ 2097152 := by have := HMB.out; have := HG.out.2.1; omega
              go_loopw [19, 20] (fun fv kv wr => ∃ (fl : Bool) (k : Nat), fv = .bool fl ∧ kv = .int .i64 (k : Int) ∧ k ≤ mb ∧ Hid (Ta w wr w.heap.size q A B2 ∧ (fl = true → A.L.take k = B2.L.take k))) (fun _ kv _ => (intOf kv).toNat)
              case atStart => exact ⟨false, mb, rfl, rfl, Nat.le_refl _, hidOf ⟨⟨_, _, HT8.out⟩, fun h => by cases h⟩⟩
              case round =>
                obtain ⟨fl, k, rfl, rfl, hkm, HI⟩ := hrel
                cases k with
                | zero =>
                  go_wp2
                  go_roundw
                  case rel => exact ⟨i3 + 1, B2, by go_num, by omega, hidOf ⟨HI.out.1, HG.out⟩⟩
                  case measure => simp [intOf]; omega
                | succ k1 =>
                  rw [show ((k1 + 1 : Nat) : Int) = (k1 : Int) + 1 by omega]
                  have hpos : (0 : Int) < (k1 : Int) + 1 := by omega
                  obtain ⟨v9, u9, ht⟩ := HI.out.1
                  have HT := hidOf ht
                  have HFL := hidOf HI.out.2
                  clear ht HI
                  have HYE : Hid (termE B2 ((k1 : Int) + 1) = 0) := hidOf (by unfold termE lastI; rw [HG.out.1, ← HMB.out, if_neg (by omega), if_neg (by omega)])
                  obtain ⟨y, HYT⟩ : ∃ t, Hid (termT B2 ((k1 : Int) + 1) = t) := ⟨_, hidOf rfl⟩
                  obtain ⟨x, HXT⟩ : ∃ t, Hid (termT A ((k1 : Int) + 1) = t) := ⟨_, hidOf rfl⟩
                  by_cases hkA : k1 < la
                  · have HXE : Hid (termE A ((k1 : Int) + 1) = 0) := hidOf (by unfold termE; rw [HA0.out, HLI.out, if_neg (by omega), if_neg (by omega)])
                    obtain ⟨PA, HPA'⟩ : ∃ d, Hid (d = (A.L.drop k1).take 1) := ⟨_, hidOf rfl⟩
                    obtain ⟨PB, HPB'⟩ : ∃ d, Hid (d = (B2.L.drop k1).take 1) := ⟨_, hidOf rfl⟩
                    have HPA : Hid (sliceM A ((k1 : Int) + 1) 1 = PA) := hidOf (by rw [slice_nat HA0.out (by have := HLA.out; omega), HPA'.out]; rfl)
                    have HPB : Hid (sliceM B2 ((k1 : Int) + 1) 1 = PB) := hidOf (by rw [slice_nat HG.out.1 (by have := HMB.out; omega), HPB'.out]; rfl)
                    have HNA : Hid (PA.length ≤ 67108864) := hidOf (by rw [HPA'.out, List.length_take]; omega)
                    have HNB : Hid (PB.length ≤ 67108864) := hidOf (by rw [HPB'.out, List.length_take]; omega)
                    have HXY : Hid (x = y → A.L.take (k1 + 1) = B2.L.take (k1 + 1)) := hidOf (fun e => by
                      obtain ⟨ea, ha⟩ : ∃ e, A.L[k1]? = some e := ⟨_, List.getElem?_eq_getElem (by have := HLA.out; omega)⟩
                      obtain ⟨eb, hb⟩ : ∃ e, B2.L[k1]? = some e := ⟨_, List.getElem?_eq_getElem (by have := HMB.out; omega)⟩
                      refine HG.out.2.2 k1 ea eb ha hb ?_
                      rw [← term_nat HA0.out ha, ← term_nat HG.out.1 hb]
                      show termT A (((k1 + 1 : Nat)) : Int) = termT B2 (((k1 + 1 : Nat)) : Int)
                      rw [show ((k1 + 1 : Nat) : Int) = (k1 : Int) + 1 by omega, HXT.out, HYT.out]
                      exact e)
                    by_cases hc : fl = true ∨ x = y
                    · have HTK : Hid (A.L.take (k1 + 1) = B2.L.take (k1 + 1)) := hidOf (by
                        rcases hc with e | e
                        · exact HFL.out e
                        · exact HXY.out e)
                      have HPE : Hid (PA = PB) := hidOf (by rw [HPA'.out, HPB'.out]; exact (tail_eq HTK.out).1)
                      cases fl with
                      | true =>
                        go_wp2_with (first
                          | (go_at_call 17; refine (term_any HT.out.c ((k1 : Int) + 1)).mono ?_; rintro e w5 ⟨he, hd⟩; rw [HXT.out, HXE.out] at he; subst he; have HT5 := hidOf (HT.out.below hd.bel); clear hd HT)
                          | (go_at_call 17; refine (term_any HT5.out.r ((k1 : Int) + 1)).mono ?_; rintro e w6 ⟨he, hd⟩; rw [HYT.out, HYE.out] at he; subst he; have HT6 := hidOf (HT5.out.below hd.bel); clear hd HT5)
                          | (go_at_call 19; refine (slice_any HT6.out.c ((k1 : Int) + 1) 1).mono ?_; rintro e w7 ⟨s7, rfl, o7, b7, _⟩; rw [HPA.out] at o7; have HS7 := hidOf o7; have HT7 := hidOf (HT6.out.below b7); clear o7 b7 HT6)
                          | (go_at_call 19; refine (slice_any HT7.out.r ((k1 : Int) + 1) 1).mono ?_; rintro e w8 ⟨s8, rfl, o8, b8, _⟩; rw [HPB.out] at o8; have HS8 := hidOf o8; have HS78 := hidOf (HS7.out.below HT7.out.w0le b8); have HT8 := hidOf (HT7.out.below b8); clear o8 b8 HS7 HT7)
                          | (go_at_call 20; have hS := entries_any w w8 HT8.out.w0le s7 s8 PA PB HS78.out.es HS8.out.es ⟨HNA.out, HNB.out⟩; rw [show decide (PA = PB) = true by rw [HPE.out]; simp] at hS; refine hS.mono ?_; rintro e w9 ⟨rfl, b9⟩; have HT9 := hidOf (HT8.out.below b9); clear b9 hS HS78 HS8 HT8))
                        go_roundw
                        case rel => exact ⟨true, k1, rfl, by go_num, by omega, hidOf ⟨⟨_, _, HT9.out⟩, fun _ => (tail_eq HTK.out).2⟩⟩
                        case measure => simp [intOf]
                      | false =>
                        have hxy : x = y := by simpa using hc
                        subst hxy
                        go_wp2_with (first
                          | (go_at_call 17; refine (term_any HT.out.c ((k1 : Int) + 1)).mono ?_; rintro e w5 ⟨he, hd⟩; rw [HXT.out, HXE.out] at he; subst he; have HT5 := hidOf (HT.out.below hd.bel); clear hd HT)
                          | (go_at_call 17; refine (term_any HT5.out.r ((k1 : Int) + 1)).mono ?_; rintro e w6 ⟨he, hd⟩; rw [HYT.out, HYE.out] at he; subst he; have HT6 := hidOf (HT5.out.below hd.bel); clear hd HT5)
                          | (go_at_call 19; refine (slice_any HT6.out.c ((k1 : Int) + 1) 1).mono ?_; rintro e w7 ⟨s7, rfl, o7, b7, _⟩; rw [HPA.out] at o7; have HS7 := hidOf o7; have HT7 := hidOf (HT6.out.below b7); clear o7 b7 HT6)
                          | (go_at_call 19; refine (slice_any HT7.out.r ((k1 : Int) + 1) 1).mono ?_; rintro e w8 ⟨s8, rfl, o8, b8, _⟩; rw [HPB.out] at o8; have HS8 := hidOf o8; have HS78 := hidOf (HS7.out.below HT7.out.w0le b8); have HT8 := hidOf (HT7.out.below b8); clear o8 b8 HS7 HT7)
                          | (go_at_call 20; have hS := entries_any w w8 HT8.out.w0le s7 s8 PA PB HS78.out.es HS8.out.es ⟨HNA.out, HNB.out⟩; rw [show decide (PA = PB) = true by rw [HPE.out]; simp] at hS; refine hS.mono ?_; rintro e w9 ⟨rfl, b9⟩; have HT9 := hidOf (HT8.out.below b9); clear b9 hS HS78 HS8 HT8))
                        go_roundw
                        case rel => exact ⟨true, k1, rfl, by go_num, by omega, hidOf ⟨⟨_, _, HT9.out⟩, fun _ => (tail_eq HTK.out).2⟩⟩
                        case measure => simp [intOf]
                    · have hfl : fl = false := by cases fl <;> simp_all
                      subst hfl
                      have hxy : ¬ x = y := fun e => hc (Or.inr e)
                      have hxyb : (x == y) = false := beq_false_of_ne hxy
                      clear hc
                      go_wp2_with (first
                        | (go_at_call 17; refine (term_any HT.out.c ((k1 : Int) + 1)).mono ?_; rintro e w5 ⟨he, hd⟩; rw [HXT.out, HXE.out] at he; subst he; have HT5 := hidOf (HT.out.below hd.bel); clear hd HT)
                        | (go_at_call 17; refine (term_any HT5.out.r ((k1 : Int) + 1)).mono ?_; rintro e w6 ⟨he, hd⟩; rw [HYT.out, HYE.out] at he; subst he; have HT6 := hidOf (HT5.out.below hd.bel); clear hd HT5)
                        | (go_at_call 19; refine (slice_any HT6.out.c ((k1 : Int) + 1) 1).mono ?_; rintro e w7 ⟨s7, rfl, o7, b7, _⟩; rw [HPA.out] at o7; have HS7 := hidOf o7; have HT7 := hidOf (HT6.out.below b7); clear o7 b7 HT6)
                        | (go_at_call 19; refine (slice_any HT7.out.r ((k1 : Int) + 1) 1).mono ?_; rintro e w8 ⟨s8, rfl, o8, b8, _⟩; rw [HPB.out] at o8; have HS8 := hidOf o8; have HS78 := hidOf (HS7.out.below HT7.out.w0le b8); have HT8 := hidOf (HT7.out.below b8); clear o8 b8 HS7 HT7)
                        | (go_at_call 20; have hS := entries_any w w8 HT8.out.w0le s7 s8 PA PB HS78.out.es HS8.out.es ⟨HNA.out, HNB.out⟩; generalize decide (PA = PB) = sb at hS; refine hS.mono ?_; rintro e w9 ⟨rfl, b9⟩; have HT9 := hidOf (HT8.out.below b9); clear b9 hS HS78 HS8 HT8))
                      go_roundw
                      case rel => exact ⟨false, k1, rfl, by go_num, by omega, hidOf ⟨⟨_, _, HT9.out⟩, fun h => by cases h⟩⟩
                      case measure => simp [intOf]
                  · have HXE : Hid (termE A ((k1 : Int) + 1) = 3) := hidOf (by unfold termE; rw [HA0.out, HLI.out, if_neg (by omega), if_pos (by omega)])
                    go_wp2_with (first
                      | (go_at_call 17; refine (term_any HT.out.c ((k1 : Int) + 1)).mono ?_; rintro e w5 ⟨he, hd⟩; rw [HXT.out, HXE.out] at he; subst he; have HT5 := hidOf (HT.out.below hd.bel); clear hd HT) | (go_at_call 17; refine (term_any HT5.out.r ((k1 : Int) + 1)).mono ?_; rintro e w6 ⟨he, hd⟩; rw [HYT.out, HYE.out] at he; subst he; have HT6 := hidOf (HT5.out.below hd.bel); clear hd HT5))
                    go_roundw
                    case rel => exact ⟨fl, k1, rfl, by go_num, by omega, hidOf ⟨⟨_, _, HT6.out⟩, fun e => (tail_eq (HFL.out e)).2⟩⟩
                    case measure => simp [intOf]
            · have hltz : ¬ (i3 : Int) < (L3.length : Int) := by omega
              go_wp2_with (go_at_call 13; refine (HLV.out _).mono ?_; rintro e w6 ⟨rfl, hb⟩; have HB := hidOf (show Below w.heap.size w w6 by obtain ⟨v, u, ht⟩ := H.out.1; exact ht.bel.trans (hb.mono ht.bel.size)); clear hb)
              go_ret
              exact ⟨rfl, HB.out⟩
end Go.Proofs.Ytdkmlgkljhhokaa
