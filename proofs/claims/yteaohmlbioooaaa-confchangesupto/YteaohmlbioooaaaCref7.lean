/- The document's Single; its changes, told alike. -/
import Derived.Test.YteaohmlbioooaaaCref6
namespace Go.Proofs.Yteaohmlbioooaaa
open Go.RowKit

theorem lt_two (q : Nat) : decide ((q : Int) < 2) = decide (q ≤ 1) := by
  rw [Bool.eq_iff_iff, decide_eq_true_eq, decide_eq_true_eq]; omega
set_option maxHeartbeats 4000000 in
theorem rsingle_any (w : World) (av al : Option Addr) (V L : List Int) (cv cl : Nat) (bv bl : Option Addr) (V' L' : List Int) (dv dl : Nat) (h : Cf w av al V L) (h' : Cf w bv bl V' L') : Calls Try.prog 24 #[.agg #[.slice av V.length cv, .slice al L.length cl], .agg #[.slice bv V'.length dv, .slice bl L'.length dl]] w fun e w' => e = .returned (.bool (sglB V L V' L')) ∧ Below w.heap.size w w' := by
  have H0 := hidOf (Db.begin cv cl dv dl h h')
  have hm := rmay_any _ av al V L cv cl H0.out.cs.cf
  clear h h'
  obtain ⟨m2, hm2⟩ : ∃ m, m = mayB V' L' := ⟨_, rfl⟩
  have HE2 := hidOf hm2.symm
  cases e1 : mayB V L with
  | false =>
    have e : sglB V L V' L' = false := by rw [sglB, e1]; rfl
    rw [e]
    rw [e1] at hm
    have HM := hidOf hm
    clear hm e e1 hm2
    go_enter Try.func24, Try.ntmps24
    go_wp2_with (first
      | (go_at_call 13; refine HM.out.mono ?_; rintro e w1 ⟨rfl, hb⟩; have H1 := hidOf (H0.out.grow hb); clear hb HM; have c0 : w1.cell? ⟨w.heap.size + 1, 0, none⟩ = _ := H1.out.ds.bx.c0; have c1 : w1.cell? ⟨w.heap.size + 1, 1, none⟩ = _ := H1.out.ds.bx.c1; have lt0 : w.heap.size + 1 < w1.heap.size := H1.out.ds.bx.lt; have hm2 := rmay_any w1 bv bl V' L' dv dl H1.out.ds.cf; rw [HE2.out] at hm2; have HM2 := hidOf hm2; clear hm2)
      | (go_at_call 13; refine HM2.out.mono ?_; rintro e w2 ⟨rfl, hb⟩; have H2 := hidOf (H1.out.grow hb); clear hb HM2 c0 c1 lt0))
    go_ret
    exact ⟨rfl, H2.out.cs.bel⟩
  | true =>
    rw [e1] at hm
    have HM := hidOf hm
    clear hm
    cases m2 with
    | false =>
      have e : sglB V L V' L' = false := by rw [sglB, e1, ← hm2]; rfl
      rw [e]
      clear e e1 hm2
      go_enter Try.func24, Try.ntmps24
      go_wp2_with (first
        | (go_at_call 13; refine HM.out.mono ?_; rintro e w1 ⟨rfl, hb⟩; have H1 := hidOf (H0.out.grow hb); clear hb HM; have c0 : w1.cell? ⟨w.heap.size + 1, 0, none⟩ = _ := H1.out.ds.bx.c0; have c1 : w1.cell? ⟨w.heap.size + 1, 1, none⟩ = _ := H1.out.ds.bx.c1; have lt0 : w.heap.size + 1 < w1.heap.size := H1.out.ds.bx.lt; have hm2 := rmay_any w1 bv bl V' L' dv dl H1.out.ds.cf; rw [HE2.out] at hm2; have HM2 := hidOf hm2; clear hm2)
        | (go_at_call 13; refine HM2.out.mono ?_; rintro e w2 ⟨rfl, hb⟩; have H2 := hidOf (H1.out.grow hb); clear hb HM2 c0 c1 lt0))
      go_ret
      exact ⟨rfl, H2.out.cs.bel⟩
    | true =>
      have EE : Hid (sglB V L V' L' = decide (dif V V' 5 ≤ 1)) := hidOf (by rw [sglB, e1, ← hm2]; rfl)
      clear e1 hm2
      go_enter Try.func24, Try.ntmps24
      go_wp2_with (first
        | (go_at_call 13; refine HM.out.mono ?_; rintro e w1 ⟨rfl, hb⟩; have H1 := hidOf (H0.out.grow hb); clear hb HM; have c0 : w1.cell? ⟨w.heap.size + 1, 0, none⟩ = _ := H1.out.ds.bx.c0; have c1 : w1.cell? ⟨w.heap.size + 1, 1, none⟩ = _ := H1.out.ds.bx.c1; have lt0 : w.heap.size + 1 < w1.heap.size := H1.out.ds.bx.lt; have hm2 := rmay_any w1 bv bl V' L' dv dl H1.out.ds.cf; rw [HE2.out] at hm2; have HM2 := hidOf hm2; clear hm2)
        | (go_at_call 13; refine HM2.out.mono ?_; rintro e w2 ⟨rfl, hb⟩; have H2 := hidOf (H1.out.grow hb); clear hb HM2 c0 c1 lt0))
      go_loopw [7, 8] (fun c i wr => ∃ k : Nat, c = .int .i64 ((dif V V' k : Nat) : Int) ∧ i = .int .i64 ((k : Int) + 1) ∧ k ≤ 5 ∧ Hid (Db w wr av al bv bl V L V' L' cv cl dv dl)) (fun _ i _ => 6 - (intOf i).toNat)
      case atStart => exact ⟨0, rfl, rfl, Nat.zero_le _, H2⟩
      case round =>
        obtain ⟨k, rfl, rfl, hk, HC⟩ := hrel
        by_cases hlt : k < 5
        · have hltz : (k : Int) + 1 ≤ 5 := by omega
          have hdk : dif V V' k ≤ k := dif_le_k V V' k
          have ED : Hid (dif V V' (k + 1) = dif V V' k + if V.contains ((k : Int) + 1) = V'.contains ((k : Int) + 1) then 0 else 1) := hidOf rfl
          have hv1 := in_any wr.drew av V cv ((k : Int) + 1) (HC.out.cs.cf.v.grow ⟨rfl, rfl, rfl, Nat.le_refl _, fun _ _ => rfl⟩)
          have hv2 := in_any wr.drew bv V' dv ((k : Int) + 1) (HC.out.ds.cf.v.grow ⟨rfl, rfl, rfl, Nat.le_refl _, fun _ _ => rfl⟩)
          generalize dif V V' k = q at hdk ED ⊢
          cases e3 : V.contains ((k : Int) + 1) with
          | false =>
            rw [e3] at hv1
            have HV := hidOf hv1
            clear hv1
            cases e4 : V'.contains ((k : Int) + 1) with
            | false =>
              rw [e4] at hv2
              have HV2 := hidOf hv2
              clear hv2
              rw [e3, e4] at ED
              clear e3 e4
              go_wp2_with (fail)
              have c0 := HC.out.cs.bx.c0
              have d0 : wr.cell? ⟨w.heap.size + 1, 0, none⟩ = _ := HC.out.ds.bx.c0
              have lt0 := HC.out.cs.bx.lt
              have lt1 : w.heap.size + 1 < wr.heap.size := HC.out.ds.bx.lt
              refine wp_region_held_drew (S := fun wz => wz.cell? ⟨w.heap.size, 0, none⟩ = some (.slice av V.length cv) ∧ wz.cell? ⟨w.heap.size + 1, 0, none⟩ = some (.slice bv V'.length dv)) (by kernel_rfl) ⟨c0, d0⟩ (fun hHeld => ?_)
              refine wpAnyH_take (i := 0) (oi := { dst := some 23, op := Op.fieldAddr 24 (Operand.tmp 2) 0, type := 0, pos := "ref.go:131", after := #[], guard := none }) (v := .pointer (some ⟨w.heap.size, 0, none⟩)) rfl (by kernel_rfl) (by kernel_rfl) (by kernel_rfl) (fun _ _ _ h => h) (Or.inl ⟨by rfl, ?_⟩) hHeld ?_
              · (intro w hSw; (try dsimp only at hSw); go_simp)
              try simp only [Act.put, List.setIfInBounds_toArray, List.set_cons_zero, List.set_cons_succ]
              refine wpAnyH_take (i := 1) (oi := { dst := some 24, op := Op.load 22 (Operand.tmp 23), type := 22, pos := "ref.go:131", after := #[{ on := 0, ground := Ground.data }], guard := none }) (v := .slice av V.length cv) rfl (by kernel_rfl) (by kernel_rfl) (by kernel_rfl) (fun _ _ _ h => h) (Or.inl ⟨by rfl, ?_⟩) hHeld ?_
              · (intro w hSw; (try dsimp only at hSw); go_simp)
              try simp only [Act.put, List.setIfInBounds_toArray, List.set_cons_zero, List.set_cons_succ]
              refine wpAnyH_take (i := 2) (oi := { dst := some 25, op := Op.move (Operand.tmp 8), type := 3, pos := "ref.go:131", after := #[], guard := none }) (v := .int .i64 ((k : Int) + 1)) rfl (by kernel_rfl) (by kernel_rfl) (by kernel_rfl) (fun _ _ _ h => h) (Or.inl ⟨by rfl, ?_⟩) hHeld ?_
              · (intro w hSw; (try dsimp only at hSw); go_simp)
              try simp only [Act.put, List.setIfInBounds_toArray, List.set_cons_zero, List.set_cons_succ]
              refine wpAnyH_take (i := 4) (oi := { dst := some 27, op := Op.fieldAddr 24 (Operand.tmp 3) 0, type := 0, pos := "ref.go:131", after := #[], guard := none }) (v := .pointer (some ⟨w.heap.size + 1, 0, none⟩)) rfl (by kernel_rfl) (by kernel_rfl) (by kernel_rfl) (fun _ _ _ h => h) (Or.inl ⟨by rfl, ?_⟩) hHeld ?_
              · (intro w hSw; (try dsimp only at hSw); go_simp)
              try simp only [Act.put, List.setIfInBounds_toArray, List.set_cons_zero, List.set_cons_succ]
              refine wpAnyH_take (i := 5) (oi := { dst := some 28, op := Op.load 22 (Operand.tmp 27), type := 22, pos := "ref.go:131", after := #[{ on := 4, ground := Ground.data }], guard := none }) (v := .slice bv V'.length dv) rfl (by kernel_rfl) (by kernel_rfl) (by kernel_rfl) (fun _ _ _ h => h) (Or.inl ⟨by rfl, ?_⟩) hHeld ?_
              · (intro w hSw; (try dsimp only at hSw); go_simp)
              try simp only [Act.put, List.setIfInBounds_toArray, List.set_cons_zero, List.set_cons_succ]
              refine wpAnyH_take (i := 6) (oi := { dst := some 29, op := Op.move (Operand.tmp 8), type := 3, pos := "ref.go:131", after := #[], guard := none }) (v := .int .i64 ((k : Int) + 1)) rfl (by kernel_rfl) (by kernel_rfl) (by kernel_rfl) (fun _ _ _ h => h) (Or.inl ⟨by rfl, ?_⟩) hHeld ?_
              · (intro w hSw; (try dsimp only at hSw); go_simp)
              try simp only [Act.put, List.setIfInBounds_toArray, List.set_cons_zero, List.set_cons_succ]
              refine wpAnyH_ready (rs := [3]) (by kernel_rfl) (by simp) ?_
              refine AllReadyH.cons (o := { dst := some 26, op := Op.call { callee := Callee.value (Operand.func 17), args := #[Operand.tmp 24, Operand.tmp 25], argTypes := #[22, 3] }, type := 4, pos := "ref.go:131", after := #[{ on := 1, ground := Ground.data }, { on := 2, ground := Ground.data }], guard := none }) rfl (fun K hK => ?_) AllReadyH.nil
              go_simp
              refine HV.out.mono ?_
              rintro e zz ⟨rfl, hw⟩
              subst zz
              refine hK.out _ _ ⟨c0, d0⟩ (fun hHeld1 => ?_)
              clear hK K
              try simp only [Act.put, List.setIfInBounds_toArray, List.set_cons_zero, List.set_cons_succ]
              refine wpAnyH_ready (rs := [7]) (by kernel_rfl) (by simp) ?_
              refine AllReadyH.cons (o := { dst := some 30, op := Op.call { callee := Callee.value (Operand.func 17), args := #[Operand.tmp 28, Operand.tmp 29], argTypes := #[22, 3] }, type := 4, pos := "ref.go:131", after := #[{ on := 5, ground := Ground.data }, { on := 6, ground := Ground.data }, { on := 3, ground := Ground.chain }], guard := none }) rfl (fun K hK => ?_) AllReadyH.nil
              go_simp
              refine HV2.out.mono ?_
              rintro e zz ⟨rfl, hw⟩
              subst zz
              refine hK.out _ _ ⟨c0, d0⟩ (fun hHeld2 => ?_)
              clear hK K
              try simp only [Act.put, List.setIfInBounds_toArray, List.set_cons_zero, List.set_cons_succ]
              refine wpAnyH_take (i := 8) (oi := { dst := some 31, op := Op.binOp BinOp.neq 4 (Operand.tmp 26) (Operand.tmp 30) 4, type := 4, pos := "ref.go:131", after := #[{ on := 3, ground := Ground.data }, { on := 7, ground := Ground.data }], guard := none }) (v := .bool false) rfl (by kernel_rfl) (by kernel_rfl) (by kernel_rfl) (fun _ _ _ h => h) (Or.inl ⟨by rfl, ?_⟩) hHeld2 ?_
              · (intro w hSw; (try dsimp only at hSw); go_simp)
              try simp only [Act.put, List.setIfInBounds_toArray, List.set_cons_zero, List.set_cons_succ]
              refine wpAnyH_done (by kernel_rfl) ?_ _
              go_wp2
              go_roundw
              case rel => exact ⟨k + 1, by rw [ED.out]; go_num, by go_num, by omega, hidOf (HC.out.grow ⟨rfl, rfl, rfl, Nat.le_refl _, fun _ _ => rfl⟩)⟩
              case measure => simp [intOf]; omega
            | true =>
              rw [e4] at hv2
              have HV2 := hidOf hv2
              clear hv2
              rw [e3, e4] at ED
              clear e3 e4
              go_wp2_with (fail)
              have c0 := HC.out.cs.bx.c0
              have d0 : wr.cell? ⟨w.heap.size + 1, 0, none⟩ = _ := HC.out.ds.bx.c0
              have lt0 := HC.out.cs.bx.lt
              have lt1 : w.heap.size + 1 < wr.heap.size := HC.out.ds.bx.lt
              refine wp_region_held_drew (S := fun wz => wz.cell? ⟨w.heap.size, 0, none⟩ = some (.slice av V.length cv) ∧ wz.cell? ⟨w.heap.size + 1, 0, none⟩ = some (.slice bv V'.length dv)) (by kernel_rfl) ⟨c0, d0⟩ (fun hHeld => ?_)
              refine wpAnyH_take (i := 0) (oi := { dst := some 23, op := Op.fieldAddr 24 (Operand.tmp 2) 0, type := 0, pos := "ref.go:131", after := #[], guard := none }) (v := .pointer (some ⟨w.heap.size, 0, none⟩)) rfl (by kernel_rfl) (by kernel_rfl) (by kernel_rfl) (fun _ _ _ h => h) (Or.inl ⟨by rfl, ?_⟩) hHeld ?_
              · (intro w hSw; (try dsimp only at hSw); go_simp)
              try simp only [Act.put, List.setIfInBounds_toArray, List.set_cons_zero, List.set_cons_succ]
              refine wpAnyH_take (i := 1) (oi := { dst := some 24, op := Op.load 22 (Operand.tmp 23), type := 22, pos := "ref.go:131", after := #[{ on := 0, ground := Ground.data }], guard := none }) (v := .slice av V.length cv) rfl (by kernel_rfl) (by kernel_rfl) (by kernel_rfl) (fun _ _ _ h => h) (Or.inl ⟨by rfl, ?_⟩) hHeld ?_
              · (intro w hSw; (try dsimp only at hSw); go_simp)
              try simp only [Act.put, List.setIfInBounds_toArray, List.set_cons_zero, List.set_cons_succ]
              refine wpAnyH_take (i := 2) (oi := { dst := some 25, op := Op.move (Operand.tmp 8), type := 3, pos := "ref.go:131", after := #[], guard := none }) (v := .int .i64 ((k : Int) + 1)) rfl (by kernel_rfl) (by kernel_rfl) (by kernel_rfl) (fun _ _ _ h => h) (Or.inl ⟨by rfl, ?_⟩) hHeld ?_
              · (intro w hSw; (try dsimp only at hSw); go_simp)
              try simp only [Act.put, List.setIfInBounds_toArray, List.set_cons_zero, List.set_cons_succ]
              refine wpAnyH_take (i := 4) (oi := { dst := some 27, op := Op.fieldAddr 24 (Operand.tmp 3) 0, type := 0, pos := "ref.go:131", after := #[], guard := none }) (v := .pointer (some ⟨w.heap.size + 1, 0, none⟩)) rfl (by kernel_rfl) (by kernel_rfl) (by kernel_rfl) (fun _ _ _ h => h) (Or.inl ⟨by rfl, ?_⟩) hHeld ?_
              · (intro w hSw; (try dsimp only at hSw); go_simp)
              try simp only [Act.put, List.setIfInBounds_toArray, List.set_cons_zero, List.set_cons_succ]
              refine wpAnyH_take (i := 5) (oi := { dst := some 28, op := Op.load 22 (Operand.tmp 27), type := 22, pos := "ref.go:131", after := #[{ on := 4, ground := Ground.data }], guard := none }) (v := .slice bv V'.length dv) rfl (by kernel_rfl) (by kernel_rfl) (by kernel_rfl) (fun _ _ _ h => h) (Or.inl ⟨by rfl, ?_⟩) hHeld ?_
              · (intro w hSw; (try dsimp only at hSw); go_simp)
              try simp only [Act.put, List.setIfInBounds_toArray, List.set_cons_zero, List.set_cons_succ]
              refine wpAnyH_take (i := 6) (oi := { dst := some 29, op := Op.move (Operand.tmp 8), type := 3, pos := "ref.go:131", after := #[], guard := none }) (v := .int .i64 ((k : Int) + 1)) rfl (by kernel_rfl) (by kernel_rfl) (by kernel_rfl) (fun _ _ _ h => h) (Or.inl ⟨by rfl, ?_⟩) hHeld ?_
              · (intro w hSw; (try dsimp only at hSw); go_simp)
              try simp only [Act.put, List.setIfInBounds_toArray, List.set_cons_zero, List.set_cons_succ]
              refine wpAnyH_ready (rs := [3]) (by kernel_rfl) (by simp) ?_
              refine AllReadyH.cons (o := { dst := some 26, op := Op.call { callee := Callee.value (Operand.func 17), args := #[Operand.tmp 24, Operand.tmp 25], argTypes := #[22, 3] }, type := 4, pos := "ref.go:131", after := #[{ on := 1, ground := Ground.data }, { on := 2, ground := Ground.data }], guard := none }) rfl (fun K hK => ?_) AllReadyH.nil
              go_simp
              refine HV.out.mono ?_
              rintro e zz ⟨rfl, hw⟩
              subst zz
              refine hK.out _ _ ⟨c0, d0⟩ (fun hHeld1 => ?_)
              clear hK K
              try simp only [Act.put, List.setIfInBounds_toArray, List.set_cons_zero, List.set_cons_succ]
              refine wpAnyH_ready (rs := [7]) (by kernel_rfl) (by simp) ?_
              refine AllReadyH.cons (o := { dst := some 30, op := Op.call { callee := Callee.value (Operand.func 17), args := #[Operand.tmp 28, Operand.tmp 29], argTypes := #[22, 3] }, type := 4, pos := "ref.go:131", after := #[{ on := 5, ground := Ground.data }, { on := 6, ground := Ground.data }, { on := 3, ground := Ground.chain }], guard := none }) rfl (fun K hK => ?_) AllReadyH.nil
              go_simp
              refine HV2.out.mono ?_
              rintro e zz ⟨rfl, hw⟩
              subst zz
              refine hK.out _ _ ⟨c0, d0⟩ (fun hHeld2 => ?_)
              clear hK K
              try simp only [Act.put, List.setIfInBounds_toArray, List.set_cons_zero, List.set_cons_succ]
              refine wpAnyH_take (i := 8) (oi := { dst := some 31, op := Op.binOp BinOp.neq 4 (Operand.tmp 26) (Operand.tmp 30) 4, type := 4, pos := "ref.go:131", after := #[{ on := 3, ground := Ground.data }, { on := 7, ground := Ground.data }], guard := none }) (v := .bool true) rfl (by kernel_rfl) (by kernel_rfl) (by kernel_rfl) (fun _ _ _ h => h) (Or.inl ⟨by rfl, ?_⟩) hHeld2 ?_
              · (intro w hSw; (try dsimp only at hSw); go_simp)
              try simp only [Act.put, List.setIfInBounds_toArray, List.set_cons_zero, List.set_cons_succ]
              refine wpAnyH_done (by kernel_rfl) ?_ _
              go_wp2
              go_roundw
              case rel => exact ⟨k + 1, by rw [ED.out]; go_num, by go_num, by omega, hidOf (HC.out.grow ⟨rfl, rfl, rfl, Nat.le_refl _, fun _ _ => rfl⟩)⟩
              case measure => simp [intOf]; omega
          | true =>
            rw [e3] at hv1
            have HV := hidOf hv1
            clear hv1
            cases e4 : V'.contains ((k : Int) + 1) with
            | false =>
              rw [e4] at hv2
              have HV2 := hidOf hv2
              clear hv2
              rw [e3, e4] at ED
              clear e3 e4
              go_wp2_with (fail)
              have c0 := HC.out.cs.bx.c0
              have d0 : wr.cell? ⟨w.heap.size + 1, 0, none⟩ = _ := HC.out.ds.bx.c0
              have lt0 := HC.out.cs.bx.lt
              have lt1 : w.heap.size + 1 < wr.heap.size := HC.out.ds.bx.lt
              refine wp_region_held_drew (S := fun wz => wz.cell? ⟨w.heap.size, 0, none⟩ = some (.slice av V.length cv) ∧ wz.cell? ⟨w.heap.size + 1, 0, none⟩ = some (.slice bv V'.length dv)) (by kernel_rfl) ⟨c0, d0⟩ (fun hHeld => ?_)
              refine wpAnyH_take (i := 0) (oi := { dst := some 23, op := Op.fieldAddr 24 (Operand.tmp 2) 0, type := 0, pos := "ref.go:131", after := #[], guard := none }) (v := .pointer (some ⟨w.heap.size, 0, none⟩)) rfl (by kernel_rfl) (by kernel_rfl) (by kernel_rfl) (fun _ _ _ h => h) (Or.inl ⟨by rfl, ?_⟩) hHeld ?_
              · (intro w hSw; (try dsimp only at hSw); go_simp)
              try simp only [Act.put, List.setIfInBounds_toArray, List.set_cons_zero, List.set_cons_succ]
              refine wpAnyH_take (i := 1) (oi := { dst := some 24, op := Op.load 22 (Operand.tmp 23), type := 22, pos := "ref.go:131", after := #[{ on := 0, ground := Ground.data }], guard := none }) (v := .slice av V.length cv) rfl (by kernel_rfl) (by kernel_rfl) (by kernel_rfl) (fun _ _ _ h => h) (Or.inl ⟨by rfl, ?_⟩) hHeld ?_
              · (intro w hSw; (try dsimp only at hSw); go_simp)
              try simp only [Act.put, List.setIfInBounds_toArray, List.set_cons_zero, List.set_cons_succ]
              refine wpAnyH_take (i := 2) (oi := { dst := some 25, op := Op.move (Operand.tmp 8), type := 3, pos := "ref.go:131", after := #[], guard := none }) (v := .int .i64 ((k : Int) + 1)) rfl (by kernel_rfl) (by kernel_rfl) (by kernel_rfl) (fun _ _ _ h => h) (Or.inl ⟨by rfl, ?_⟩) hHeld ?_
              · (intro w hSw; (try dsimp only at hSw); go_simp)
              try simp only [Act.put, List.setIfInBounds_toArray, List.set_cons_zero, List.set_cons_succ]
              refine wpAnyH_take (i := 4) (oi := { dst := some 27, op := Op.fieldAddr 24 (Operand.tmp 3) 0, type := 0, pos := "ref.go:131", after := #[], guard := none }) (v := .pointer (some ⟨w.heap.size + 1, 0, none⟩)) rfl (by kernel_rfl) (by kernel_rfl) (by kernel_rfl) (fun _ _ _ h => h) (Or.inl ⟨by rfl, ?_⟩) hHeld ?_
              · (intro w hSw; (try dsimp only at hSw); go_simp)
              try simp only [Act.put, List.setIfInBounds_toArray, List.set_cons_zero, List.set_cons_succ]
              refine wpAnyH_take (i := 5) (oi := { dst := some 28, op := Op.load 22 (Operand.tmp 27), type := 22, pos := "ref.go:131", after := #[{ on := 4, ground := Ground.data }], guard := none }) (v := .slice bv V'.length dv) rfl (by kernel_rfl) (by kernel_rfl) (by kernel_rfl) (fun _ _ _ h => h) (Or.inl ⟨by rfl, ?_⟩) hHeld ?_
              · (intro w hSw; (try dsimp only at hSw); go_simp)
              try simp only [Act.put, List.setIfInBounds_toArray, List.set_cons_zero, List.set_cons_succ]
              refine wpAnyH_take (i := 6) (oi := { dst := some 29, op := Op.move (Operand.tmp 8), type := 3, pos := "ref.go:131", after := #[], guard := none }) (v := .int .i64 ((k : Int) + 1)) rfl (by kernel_rfl) (by kernel_rfl) (by kernel_rfl) (fun _ _ _ h => h) (Or.inl ⟨by rfl, ?_⟩) hHeld ?_
              · (intro w hSw; (try dsimp only at hSw); go_simp)
              try simp only [Act.put, List.setIfInBounds_toArray, List.set_cons_zero, List.set_cons_succ]
              refine wpAnyH_ready (rs := [3]) (by kernel_rfl) (by simp) ?_
              refine AllReadyH.cons (o := { dst := some 26, op := Op.call { callee := Callee.value (Operand.func 17), args := #[Operand.tmp 24, Operand.tmp 25], argTypes := #[22, 3] }, type := 4, pos := "ref.go:131", after := #[{ on := 1, ground := Ground.data }, { on := 2, ground := Ground.data }], guard := none }) rfl (fun K hK => ?_) AllReadyH.nil
              go_simp
              refine HV.out.mono ?_
              rintro e zz ⟨rfl, hw⟩
              subst zz
              refine hK.out _ _ ⟨c0, d0⟩ (fun hHeld1 => ?_)
              clear hK K
              try simp only [Act.put, List.setIfInBounds_toArray, List.set_cons_zero, List.set_cons_succ]
              refine wpAnyH_ready (rs := [7]) (by kernel_rfl) (by simp) ?_
              refine AllReadyH.cons (o := { dst := some 30, op := Op.call { callee := Callee.value (Operand.func 17), args := #[Operand.tmp 28, Operand.tmp 29], argTypes := #[22, 3] }, type := 4, pos := "ref.go:131", after := #[{ on := 5, ground := Ground.data }, { on := 6, ground := Ground.data }, { on := 3, ground := Ground.chain }], guard := none }) rfl (fun K hK => ?_) AllReadyH.nil
              go_simp
              refine HV2.out.mono ?_
              rintro e zz ⟨rfl, hw⟩
              subst zz
              refine hK.out _ _ ⟨c0, d0⟩ (fun hHeld2 => ?_)
              clear hK K
              try simp only [Act.put, List.setIfInBounds_toArray, List.set_cons_zero, List.set_cons_succ]
              refine wpAnyH_take (i := 8) (oi := { dst := some 31, op := Op.binOp BinOp.neq 4 (Operand.tmp 26) (Operand.tmp 30) 4, type := 4, pos := "ref.go:131", after := #[{ on := 3, ground := Ground.data }, { on := 7, ground := Ground.data }], guard := none }) (v := .bool true) rfl (by kernel_rfl) (by kernel_rfl) (by kernel_rfl) (fun _ _ _ h => h) (Or.inl ⟨by rfl, ?_⟩) hHeld2 ?_
              · (intro w hSw; (try dsimp only at hSw); go_simp)
              try simp only [Act.put, List.setIfInBounds_toArray, List.set_cons_zero, List.set_cons_succ]
              refine wpAnyH_done (by kernel_rfl) ?_ _
              go_wp2
              go_roundw
              case rel => exact ⟨k + 1, by rw [ED.out]; go_num, by go_num, by omega, hidOf (HC.out.grow ⟨rfl, rfl, rfl, Nat.le_refl _, fun _ _ => rfl⟩)⟩
              case measure => simp [intOf]; omega
            | true =>
              rw [e4] at hv2
              have HV2 := hidOf hv2
              clear hv2
              rw [e3, e4] at ED
              clear e3 e4
              go_wp2_with (fail)
              have c0 := HC.out.cs.bx.c0
              have d0 : wr.cell? ⟨w.heap.size + 1, 0, none⟩ = _ := HC.out.ds.bx.c0
              have lt0 := HC.out.cs.bx.lt
              have lt1 : w.heap.size + 1 < wr.heap.size := HC.out.ds.bx.lt
              refine wp_region_held_drew (S := fun wz => wz.cell? ⟨w.heap.size, 0, none⟩ = some (.slice av V.length cv) ∧ wz.cell? ⟨w.heap.size + 1, 0, none⟩ = some (.slice bv V'.length dv)) (by kernel_rfl) ⟨c0, d0⟩ (fun hHeld => ?_)
              refine wpAnyH_take (i := 0) (oi := { dst := some 23, op := Op.fieldAddr 24 (Operand.tmp 2) 0, type := 0, pos := "ref.go:131", after := #[], guard := none }) (v := .pointer (some ⟨w.heap.size, 0, none⟩)) rfl (by kernel_rfl) (by kernel_rfl) (by kernel_rfl) (fun _ _ _ h => h) (Or.inl ⟨by rfl, ?_⟩) hHeld ?_
              · (intro w hSw; (try dsimp only at hSw); go_simp)
              try simp only [Act.put, List.setIfInBounds_toArray, List.set_cons_zero, List.set_cons_succ]
              refine wpAnyH_take (i := 1) (oi := { dst := some 24, op := Op.load 22 (Operand.tmp 23), type := 22, pos := "ref.go:131", after := #[{ on := 0, ground := Ground.data }], guard := none }) (v := .slice av V.length cv) rfl (by kernel_rfl) (by kernel_rfl) (by kernel_rfl) (fun _ _ _ h => h) (Or.inl ⟨by rfl, ?_⟩) hHeld ?_
              · (intro w hSw; (try dsimp only at hSw); go_simp)
              try simp only [Act.put, List.setIfInBounds_toArray, List.set_cons_zero, List.set_cons_succ]
              refine wpAnyH_take (i := 2) (oi := { dst := some 25, op := Op.move (Operand.tmp 8), type := 3, pos := "ref.go:131", after := #[], guard := none }) (v := .int .i64 ((k : Int) + 1)) rfl (by kernel_rfl) (by kernel_rfl) (by kernel_rfl) (fun _ _ _ h => h) (Or.inl ⟨by rfl, ?_⟩) hHeld ?_
              · (intro w hSw; (try dsimp only at hSw); go_simp)
              try simp only [Act.put, List.setIfInBounds_toArray, List.set_cons_zero, List.set_cons_succ]
              refine wpAnyH_take (i := 4) (oi := { dst := some 27, op := Op.fieldAddr 24 (Operand.tmp 3) 0, type := 0, pos := "ref.go:131", after := #[], guard := none }) (v := .pointer (some ⟨w.heap.size + 1, 0, none⟩)) rfl (by kernel_rfl) (by kernel_rfl) (by kernel_rfl) (fun _ _ _ h => h) (Or.inl ⟨by rfl, ?_⟩) hHeld ?_
              · (intro w hSw; (try dsimp only at hSw); go_simp)
              try simp only [Act.put, List.setIfInBounds_toArray, List.set_cons_zero, List.set_cons_succ]
              refine wpAnyH_take (i := 5) (oi := { dst := some 28, op := Op.load 22 (Operand.tmp 27), type := 22, pos := "ref.go:131", after := #[{ on := 4, ground := Ground.data }], guard := none }) (v := .slice bv V'.length dv) rfl (by kernel_rfl) (by kernel_rfl) (by kernel_rfl) (fun _ _ _ h => h) (Or.inl ⟨by rfl, ?_⟩) hHeld ?_
              · (intro w hSw; (try dsimp only at hSw); go_simp)
              try simp only [Act.put, List.setIfInBounds_toArray, List.set_cons_zero, List.set_cons_succ]
              refine wpAnyH_take (i := 6) (oi := { dst := some 29, op := Op.move (Operand.tmp 8), type := 3, pos := "ref.go:131", after := #[], guard := none }) (v := .int .i64 ((k : Int) + 1)) rfl (by kernel_rfl) (by kernel_rfl) (by kernel_rfl) (fun _ _ _ h => h) (Or.inl ⟨by rfl, ?_⟩) hHeld ?_
              · (intro w hSw; (try dsimp only at hSw); go_simp)
              try simp only [Act.put, List.setIfInBounds_toArray, List.set_cons_zero, List.set_cons_succ]
              refine wpAnyH_ready (rs := [3]) (by kernel_rfl) (by simp) ?_
              refine AllReadyH.cons (o := { dst := some 26, op := Op.call { callee := Callee.value (Operand.func 17), args := #[Operand.tmp 24, Operand.tmp 25], argTypes := #[22, 3] }, type := 4, pos := "ref.go:131", after := #[{ on := 1, ground := Ground.data }, { on := 2, ground := Ground.data }], guard := none }) rfl (fun K hK => ?_) AllReadyH.nil
              go_simp
              refine HV.out.mono ?_
              rintro e zz ⟨rfl, hw⟩
              subst zz
              refine hK.out _ _ ⟨c0, d0⟩ (fun hHeld1 => ?_)
              clear hK K
              try simp only [Act.put, List.setIfInBounds_toArray, List.set_cons_zero, List.set_cons_succ]
              refine wpAnyH_ready (rs := [7]) (by kernel_rfl) (by simp) ?_
              refine AllReadyH.cons (o := { dst := some 30, op := Op.call { callee := Callee.value (Operand.func 17), args := #[Operand.tmp 28, Operand.tmp 29], argTypes := #[22, 3] }, type := 4, pos := "ref.go:131", after := #[{ on := 5, ground := Ground.data }, { on := 6, ground := Ground.data }, { on := 3, ground := Ground.chain }], guard := none }) rfl (fun K hK => ?_) AllReadyH.nil
              go_simp
              refine HV2.out.mono ?_
              rintro e zz ⟨rfl, hw⟩
              subst zz
              refine hK.out _ _ ⟨c0, d0⟩ (fun hHeld2 => ?_)
              clear hK K
              try simp only [Act.put, List.setIfInBounds_toArray, List.set_cons_zero, List.set_cons_succ]
              refine wpAnyH_take (i := 8) (oi := { dst := some 31, op := Op.binOp BinOp.neq 4 (Operand.tmp 26) (Operand.tmp 30) 4, type := 4, pos := "ref.go:131", after := #[{ on := 3, ground := Ground.data }, { on := 7, ground := Ground.data }], guard := none }) (v := .bool false) rfl (by kernel_rfl) (by kernel_rfl) (by kernel_rfl) (fun _ _ _ h => h) (Or.inl ⟨by rfl, ?_⟩) hHeld2 ?_
              · (intro w hSw; (try dsimp only at hSw); go_simp)
              try simp only [Act.put, List.setIfInBounds_toArray, List.set_cons_zero, List.set_cons_succ]
              refine wpAnyH_done (by kernel_rfl) ?_ _
              go_wp2
              go_roundw
              case rel => exact ⟨k + 1, by rw [ED.out]; go_num, by go_num, by omega, hidOf (HC.out.grow ⟨rfl, rfl, rfl, Nat.le_refl _, fun _ _ => rfl⟩)⟩
              case measure => simp [intOf]; omega
        · obtain rfl : k = 5 := by omega
          have hltz : ¬ ((5 : Nat) : Int) + 1 ≤ 5 := by omega
          have EF := hidOf (EE.out.trans (lt_two (dif V V' 5)).symm)
          generalize dif V V' 5 = q at EF ⊢
          go_wp2
          go_ret
          exact ⟨by rw [EF.out]; rfl, HC.out.cs.bel⟩
theorem radd_ch (w : World) (av al : Option Addr) (V L : List Int) (cv cl : Nat) (s : Int) (h : Cf w av al V L) (HLN : Hid (V.length + L.length ≤ 17592186044416)) : Calls Try.prog 26 #[.agg #[.slice av V.length cv, .slice al L.length cl], .int .i64 s] w fun e w' => ∃ a1 k1 a2 k2, e = .returned (.tuple #[.agg #[.slice a1 (addV V L s).length k1, .slice a2 (addL V L s).length k2], .int .i64 (addE V L s)]) ∧ Ints w' a1 (addV V L s) ∧ Ints w' a2 (addL V L s) ∧ Below w.heap.size w w' := by
  cases hb : addB V L s with
  | false =>
    have e1 : addV V L s = [] := by unfold addV; rw [hb]; rfl
    have e2 : addL V L s = [] := by unfold addL; rw [hb]; rfl
    have e3 : addE V L s = 22 := by unfold addE; rw [hb]; rfl
    rw [e1, e2, e3]
    exact radd_no w av al V L cv cl s h HLN hb
  | true =>
    have e1 : addV V L s = V := by unfold addV; rw [hb]; rfl
    have e2 : addL V L s = wth L s := by unfold addL; rw [hb]; rfl
    have e3 : addE V L s = 0 := by unfold addE; rw [hb]; rfl
    rw [e1, e2, e3]
    exact radd_yes w av al V L cv cl s h HLN hb
theorem rpromote_ch (w : World) (av al : Option Addr) (V L : List Int) (cv cl : Nat) (s : Int) (h : Cf w av al V L) (_HLN : Hid (V.length + L.length ≤ 17592186044416)) : Calls Try.prog 28 #[.agg #[.slice av V.length cv, .slice al L.length cl], .int .i64 s] w fun e w' => ∃ a1 k1 a2 k2, e = .returned (.tuple #[.agg #[.slice a1 (proV V L s).length k1, .slice a2 (proL V L s).length k2], .int .i64 (proE V L s)]) ∧ Ints w' a1 (proV V L s) ∧ Ints w' a2 (proL V L s) ∧ Below w.heap.size w w' := by
  cases hb : proB V L s with
  | false =>
    have e1 : proV V L s = [] := by unfold proV; rw [hb]; rfl
    have e2 : proL V L s = [] := by unfold proL; rw [hb]; rfl
    have e3 : proE V L s = 22 := by unfold proE; rw [hb]; rfl
    rw [e1, e2, e3]
    exact rpromote_no w av al V L cv cl s h hb
  | true =>
    have e1 : proV V L s = wth V s := by unfold proV; rw [hb]; rfl
    have e2 : proL V L s = wto L s := by unfold proL; rw [hb]; rfl
    have e3 : proE V L s = 0 := by unfold proE; rw [hb]; rfl
    rw [e1, e2, e3]
    exact rpromote_yes w av al V L cv cl s h hb
theorem rremove_ch (w : World) (av al : Option Addr) (V L : List Int) (cv cl : Nat) (s : Int) (h : Cf w av al V L) (HLN : Hid (V.length + L.length ≤ 17592186044416)) : Calls Try.prog 30 #[.agg #[.slice av V.length cv, .slice al L.length cl], .int .i64 s] w fun e w' => ∃ a1 k1 a2 k2, e = .returned (.tuple #[.agg #[.slice a1 (remV V L s).length k1, .slice a2 (remL V L s).length k2], .int .i64 (remE V L s)]) ∧ Ints w' a1 (remV V L s) ∧ Ints w' a2 (remL V L s) ∧ Below w.heap.size w w' := by
  cases hb : remB V L s with
  | false =>
    have e1 : remV V L s = [] := by unfold remV; rw [hb]; rfl
    have e2 : remL V L s = [] := by unfold remL; rw [hb]; rfl
    have e3 : remE V L s = 22 := by unfold remE; rw [hb]; rfl
    rw [e1, e2, e3]
    exact rremove_no w av al V L cv cl s h HLN hb
  | true =>
    have e1 : remV V L s = wto V s := by unfold remV; rw [hb]; rfl
    have e2 : remL V L s = wto L s := by unfold remL; rw [hb]; rfl
    have e3 : remE V L s = 0 := by unfold remE; rw [hb]; rfl
    rw [e1, e2, e3]
    exact rremove_yes w av al V L cv cl s h HLN hb
end Go.Proofs.Yteaohmlbioooaaa
