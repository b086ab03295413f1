/- Where a demand may be placed, and where best: code and document. -/
import Derived.Test.YtajfhknfknedmaaXh
import Derived.Test.YtajfhknfknedmaaDp
namespace Go.Proofs.Ytajfhknfknedmaa
open Go.RowKit Go.Shelf
attribute [local go_sem] Oper.semAt_some
set_option maxRecDepth 100000 in
set_option maxHeartbeats 4000000 in
theorem walkPlaces (s : Sc) (J B : List Js) (X : List Ss) (d : St) (am : Option Addr) (M : List Al) (cm : Nat) (a b : Int) (w : World) (hS : StR w (fun b => b < w.heap.size) s J B X d) (_hz : d.allocs.length * 88 ≤ reachBytes) (hM : Mr w am M) (_hm : M.length * 88 ≤ reachBytes) :
    Calls Try.prog 3 #[.agg #[.int .i64 s.ix, .int .i64 s.nx, .slice s.a2 s.n2 s.c2, .slice s.a3 s.n3 s.c3, .slice s.a4 s.n4 s.c4, .slice s.a5 s.n5 s.c5, .slice s.a6 s.n6 s.c6, .slice s.a7 s.n7 s.c7, .slice s.a8 s.n8 s.c8], .slice am M.length cm, .agg #[.int .i64 a, .int .i64 b]] w fun e w' => e = .returned (.bool true) ∧ Below w.heap.size w w' := by
  have hs : Sg w s d.nodes d.allocs := ⟨hS.f.n4, hS.f.n5, hS.f.f4, hS.f.f5⟩
  clear hS
  generalize d.nodes = N at *
  generalize d.allocs = A at *
  obtain ⟨ix, nx, a2, n2, c2, a3, n3, c3, a4, n4, c4, a5, n5, c5, a6, n6, c6, a7, n7, c7, a8, n8, c8⟩ := s
  obtain ⟨e4, e5⟩ : n4 = N.length ∧ n5 = A.length := ⟨hs.n4, hs.n5⟩
  subst e4
  subst e5
  have HCA := hidOf (fun (W : World) (hW : Below w.heap.size w W) => caps_any ⟨ix, nx, a2, n2, c2, a3, n3, c3, a4, N.length, c4, a5, A.length, c5, a6, n6, c6, a7, n7, c7, a8, n8, c8⟩ N A W (hs.up hW))
  have HLV := hidOf lives_any
  dsimp only at HCA
  have Z0 := hidOf (FdS.begin w [.int .i64 ix, .int .i64 nx, .slice a2 n2 c2, .slice a3 n3 c3, .slice a4 N.length c4, .slice a5 A.length c5, .slice a6 n6 c6, .slice a7 n7 c7, .slice a8 n8 c8] [.int .i64 a, .int .i64 b] 29 31)
  cases hcap : cpL N with
  | false =>
    rw [hcap] at HCA
    clear hs hM hcap
    go_enter Try.func3, Try.ntmps3
    go_wp2_with (first
      | (go_at_call 6; refine (HCA.out _ Z0.out.b).mono ?_; rintro e w1 ⟨rfl, hb⟩; have Z1 := hidOf (Z0.out.grow hb); clear hb)
      | (go_at_call 7; refine (HLV.out _).mono ?_; rintro e wl ⟨rfl, hb⟩; have HBL := hidOf hb; clear hb))
    go_ret
    exact ⟨rfl, Z1.out.b.trans (HBL.out.mono Z1.out.b.size)⟩
  | true =>
    have HMA := hidOf (fun (nd : Int) (W : World) (hW : Below w.heap.size w W) => may_any ⟨ix, nx, a2, n2, c2, a3, n3, c3, a4, N.length, c4, a5, A.length, c5, a6, n6, c6, a7, n7, c7, a8, n8, c8⟩ nd a b N A M am cm W (hs.up hW) (mr_up hM hW) hcap)
    have HMB := hidOf (fun (nd : Int) (W : World) (hW : Below w.heap.size w W) => refMay_any ⟨ix, nx, a2, n2, c2, a3, n3, c3, a4, N.length, c4, a5, A.length, c5, a6, n6, c6, a7, n7, c7, a8, n8, c8⟩ nd a b N A M am cm W (hs.up hW) (mr_up hM hW) hcap)
    have HBA := hidOf (fun (W : World) (hW : Below w.heap.size w W) => best_any ⟨ix, nx, a2, n2, c2, a3, n3, c3, a4, N.length, c4, a5, A.length, c5, a6, n6, c6, a7, n7, c7, a8, n8, c8⟩ a b N A M am cm W (hs.up hW) (mr_up hM hW) hcap)
    have HBB := hidOf (fun (W : World) (hW : Below w.heap.size w W) => refBest_any ⟨ix, nx, a2, n2, c2, a3, n3, c3, a4, N.length, c4, a5, A.length, c5, a6, n6, c6, a7, n7, c7, a8, n8, c8⟩ a b N A M am cm W (hs.up hW) (mr_up hM hW) hcap)
    dsimp only at HMA HMB HBA HBB
    rw [hcap] at HCA
    clear hs hM hcap
    go_enter Try.func3, Try.ntmps3
    go_wp2_with (go_at_call 6; refine (HCA.out _ Z0.out.b).mono ?_; rintro e w1 ⟨rfl, hb⟩; have Z1 := hidOf (Z0.out.grow hb); clear hb)
    clear HCA Z0
    go_loopw [8] (fun i wr => ∃ z : Int, -1 ≤ z ∧ z ≤ 6 ∧ i = .int .i64 z ∧ Hid (FdS w wr [.int .i64 ix, .int .i64 nx, .slice a2 n2 c2, .slice a3 n3 c3, .slice a4 N.length c4, .slice a5 A.length c5, .slice a6 n6 c6, .slice a7 n7 c7, .slice a8 n8 c8] [.int .i64 a, .int .i64 b])) (fun i _ => (6 - intOf i).toNat)
    case atStart => exact ⟨-1, by omega, by omega, rfl, Z1⟩
    case round =>
      clear Z1
      obtain ⟨z, hz1, hz2, rfl, Z⟩ := hrel
      by_cases hle : z ≤ 5
      · go_upto_region 7 with (fail)
        generalize chV N A M = ch at HMA HMB
        have Zd := hidOf (Z.out.grow (bdrew _))
        clear Z
        refine wp_region_held_drew (S := fun (wz : World) => wz.cell? ⟨w.heap.size, 0, none⟩ = some (.int .i64 ix) ∧ wz.cell? ⟨w.heap.size, 1, none⟩ = some (.int .i64 nx) ∧ wz.cell? ⟨w.heap.size, 2, none⟩ = some (.slice a2 n2 c2) ∧ wz.cell? ⟨w.heap.size, 3, none⟩ = some (.slice a3 n3 c3) ∧ wz.cell? ⟨w.heap.size, 4, none⟩ = some (.slice a4 N.length c4) ∧ wz.cell? ⟨w.heap.size, 5, none⟩ = some (.slice a5 A.length c5) ∧ wz.cell? ⟨w.heap.size, 6, none⟩ = some (.slice a6 n6 c6) ∧ wz.cell? ⟨w.heap.size, 7, none⟩ = some (.slice a7 n7 c7) ∧ wz.cell? ⟨w.heap.size, 8, none⟩ = some (.slice a8 n8 c8) ∧ wz.cell? ⟨w.heap.size + 1, 0, none⟩ = some (.int .i64 a) ∧ wz.cell? ⟨w.heap.size + 1, 1, none⟩ = some (.int .i64 b)) (by kernel_rfl) ⟨Zd.out.s 0 _ rfl, Zd.out.s 1 _ rfl, Zd.out.s 2 _ rfl, Zd.out.s 3 _ rfl, Zd.out.s 4 _ rfl, Zd.out.s 5 _ rfl, Zd.out.s 6 _ rfl, Zd.out.s 7 _ rfl, Zd.out.s 8 _ rfl, Zd.out.a 0 _ rfl, Zd.out.a 1 _ rfl⟩ (fun hHeld => ?_)
        refine wpAnyH_take (i := 0) (oi := { dst := some 22, op := Op.load 29 (Operand.tmp 3), type := 29, pos := "law.go:40", after := #[], guard := none }) (v := .agg #[.int .i64 ix, .int .i64 nx, .slice a2 n2 c2, .slice a3 n3 c3, .slice a4 N.length c4, .slice a5 A.length c5, .slice a6 n6 c6, .slice a7 n7 c7, .slice a8 n8 c8]) rfl (by kernel_rfl) (by kernel_rfl) (by kernel_rfl) (fun _ _ _ h => h) (Or.inl ⟨by rfl, ?_⟩) hHeld ?_
        · (intro w hSw; (try dsimp only at hSw); go_simp)
        try simp only [Act.put, List.setIfInBounds_toArray, List.set_cons_zero, List.set_cons_succ]
        refine wpAnyH_take (i := 1) (oi := { dst := some 23, op := Op.move (Operand.tmp 1), type := 24, pos := "law.go:40", after := #[], guard := none }) (v := .slice am M.length cm) rfl (by kernel_rfl) (by kernel_rfl) (by kernel_rfl) (fun _ _ _ h => h) (Or.inl ⟨by rfl, ?_⟩) hHeld ?_
        · (intro w hSw; (try dsimp only at hSw); go_simp)
        try simp only [Act.put, List.setIfInBounds_toArray, List.set_cons_zero, List.set_cons_succ]
        refine wpAnyH_take (i := 2) (oi := { dst := some 24, op := Op.move (Operand.tmp 8), type := 3, pos := "law.go:40", after := #[], guard := none }) (v := .int .i64 z) rfl (by kernel_rfl) (by kernel_rfl) (by kernel_rfl) (fun _ _ _ h => h) (Or.inl ⟨by rfl, ?_⟩) hHeld ?_
        · (intro w hSw; (try dsimp only at hSw); go_simp)
        try simp only [Act.put, List.setIfInBounds_toArray, List.set_cons_zero, List.set_cons_succ]
        refine wpAnyH_take (i := 3) (oi := { dst := some 25, op := Op.load 31 (Operand.tmp 5), type := 31, pos := "law.go:40", after := #[], guard := none }) (v := .agg #[.int .i64 a, .int .i64 b]) rfl (by kernel_rfl) (by kernel_rfl) (by kernel_rfl) (fun _ _ _ h => h) (Or.inl ⟨by rfl, ?_⟩) hHeld ?_
        · (intro w hSw; (try dsimp only at hSw); go_simp)
        try simp only [Act.put, List.setIfInBounds_toArray, List.set_cons_zero, List.set_cons_succ]
        refine wpAnyH_take (i := 5) (oi := { dst := some 27, op := Op.load 29 (Operand.tmp 3), type := 29, pos := "law.go:40", after := #[], guard := none }) (v := .agg #[.int .i64 ix, .int .i64 nx, .slice a2 n2 c2, .slice a3 n3 c3, .slice a4 N.length c4, .slice a5 A.length c5, .slice a6 n6 c6, .slice a7 n7 c7, .slice a8 n8 c8]) rfl (by kernel_rfl) (by kernel_rfl) (by kernel_rfl) (fun _ _ _ h => h) (Or.inl ⟨by rfl, ?_⟩) hHeld ?_
        · (intro w hSw; (try dsimp only at hSw); go_simp)
        try simp only [Act.put, List.setIfInBounds_toArray, List.set_cons_zero, List.set_cons_succ]
        refine wpAnyH_take (i := 6) (oi := { dst := some 28, op := Op.move (Operand.tmp 1), type := 24, pos := "law.go:40", after := #[], guard := none }) (v := .slice am M.length cm) rfl (by kernel_rfl) (by kernel_rfl) (by kernel_rfl) (fun _ _ _ h => h) (Or.inl ⟨by rfl, ?_⟩) hHeld ?_
        · (intro w hSw; (try dsimp only at hSw); go_simp)
        try simp only [Act.put, List.setIfInBounds_toArray, List.set_cons_zero, List.set_cons_succ]
        refine wpAnyH_take (i := 7) (oi := { dst := some 29, op := Op.move (Operand.tmp 8), type := 3, pos := "law.go:40", after := #[], guard := none }) (v := .int .i64 z) rfl (by kernel_rfl) (by kernel_rfl) (by kernel_rfl) (fun _ _ _ h => h) (Or.inl ⟨by rfl, ?_⟩) hHeld ?_
        · (intro w hSw; (try dsimp only at hSw); go_simp)
        try simp only [Act.put, List.setIfInBounds_toArray, List.set_cons_zero, List.set_cons_succ]
        refine wpAnyH_take (i := 8) (oi := { dst := some 30, op := Op.load 31 (Operand.tmp 5), type := 31, pos := "law.go:40", after := #[], guard := none }) (v := .agg #[.int .i64 a, .int .i64 b]) rfl (by kernel_rfl) (by kernel_rfl) (by kernel_rfl) (fun _ _ _ h => h) (Or.inl ⟨by rfl, ?_⟩) hHeld ?_
        · (intro w hSw; (try dsimp only at hSw); go_simp)
        try simp only [Act.put, List.setIfInBounds_toArray, List.set_cons_zero, List.set_cons_succ]
        refine wpAnyH_ready (rs := [4]) (by kernel_rfl) (by simp) ?_
        refine AllReadyH.cons (o := { dst := some 26, op := Op.call { callee := Callee.value (Operand.func 8), args := #[Operand.tmp 22, Operand.tmp 23, Operand.tmp 24, Operand.tmp 25], argTypes := #[29, 24, 3, 31] }, type := 4, pos := "law.go:40", after := #[{ on := 0, ground := Ground.data }, { on := 1, ground := Ground.data }, { on := 2, ground := Ground.data }, { on := 3, ground := Ground.data }], guard := none }) rfl (fun K hK => ?_) AllReadyH.nil
        go_simp
        refine (HMA.out _ _ (Zd.out.b)).mono ?_
        rintro e w2 ⟨rfl, hb2⟩
        have Z2 := hidOf (Zd.out.grow hb2)
        clear hb2
        refine hK.out _ _ ⟨Z2.out.s 0 _ rfl, Z2.out.s 1 _ rfl, Z2.out.s 2 _ rfl, Z2.out.s 3 _ rfl, Z2.out.s 4 _ rfl, Z2.out.s 5 _ rfl, Z2.out.s 6 _ rfl, Z2.out.s 7 _ rfl, Z2.out.s 8 _ rfl, Z2.out.a 0 _ rfl, Z2.out.a 1 _ rfl⟩ (fun hHeld1 => ?_)
        clear hK K
        try simp only [Act.put, List.setIfInBounds_toArray, List.set_cons_zero, List.set_cons_succ]
        refine wpAnyH_ready (rs := [9]) (by kernel_rfl) (by simp) ?_
        refine AllReadyH.cons (o := { dst := some 31, op := Op.call { callee := Callee.value (Operand.func 9), args := #[Operand.tmp 27, Operand.tmp 28, Operand.tmp 29, Operand.tmp 30], argTypes := #[29, 24, 3, 31] }, type := 4, pos := "law.go:40", after := #[{ on := 5, ground := Ground.data }, { on := 6, ground := Ground.data }, { on := 7, ground := Ground.data }, { on := 8, ground := Ground.data }, { on := 4, ground := Ground.chain }], guard := none }) rfl (fun K hK => ?_) AllReadyH.nil
        go_simp
        refine (HMB.out _ _ (Z2.out.b)).mono ?_
        rintro e w3 ⟨rfl, hb3⟩
        have Z3 := hidOf (Z2.out.grow hb3)
        clear hb3
        refine hK.out _ _ ⟨Z3.out.s 0 _ rfl, Z3.out.s 1 _ rfl, Z3.out.s 2 _ rfl, Z3.out.s 3 _ rfl, Z3.out.s 4 _ rfl, Z3.out.s 5 _ rfl, Z3.out.s 6 _ rfl, Z3.out.s 7 _ rfl, Z3.out.s 8 _ rfl, Z3.out.a 0 _ rfl, Z3.out.a 1 _ rfl⟩ (fun hHeld2 => ?_)
        clear hK K
        try simp only [Act.put, List.setIfInBounds_toArray, List.set_cons_zero, List.set_cons_succ]
        refine wpAnyH_take (i := 10) (oi := { dst := some 32, op := Op.binOp BinOp.neq 4 (Operand.tmp 26) (Operand.tmp 31) 4, type := 4, pos := "law.go:40", after := #[{ on := 4, ground := Ground.data }, { on := 9, ground := Ground.data }], guard := none }) (v := .bool false) rfl (by kernel_rfl) (by kernel_rfl) (by kernel_rfl) (fun _ _ _ h => h) (Or.inl ⟨by rfl, ?_⟩) hHeld2 ?_
        · (intro w hSw; (try dsimp only at hSw); go_simp)
        try simp only [Act.put, List.setIfInBounds_toArray, List.set_cons_zero, List.set_cons_succ]
        refine wpAnyH_done (by kernel_rfl) ?_ _
        go_wp2
        go_roundw
        case rel => exact ⟨z + 1, by omega, by omega, by go_num, Z3⟩
        case measure => simp [intOf]; omega
      · have lw : w.heap.size < wr.heap.size := Nat.lt_of_succ_lt Z.out.l
        have la : w.heap.size + 1 < wr.heap.size := Z.out.l
        have s0 : wr.cell? ⟨w.heap.size, 0, none⟩ = some (.int .i64 ix) := Z.out.s 0 _ rfl
        have s1 : wr.cell? ⟨w.heap.size, 1, none⟩ = some (.int .i64 nx) := Z.out.s 1 _ rfl
        have s2 : wr.cell? ⟨w.heap.size, 2, none⟩ = some (.slice a2 n2 c2) := Z.out.s 2 _ rfl
        have s3 : wr.cell? ⟨w.heap.size, 3, none⟩ = some (.slice a3 n3 c3) := Z.out.s 3 _ rfl
        have s4 : wr.cell? ⟨w.heap.size, 4, none⟩ = some (.slice a4 N.length c4) := Z.out.s 4 _ rfl
        have s5 : wr.cell? ⟨w.heap.size, 5, none⟩ = some (.slice a5 A.length c5) := Z.out.s 5 _ rfl
        have s6 : wr.cell? ⟨w.heap.size, 6, none⟩ = some (.slice a6 n6 c6) := Z.out.s 6 _ rfl
        have s7 : wr.cell? ⟨w.heap.size, 7, none⟩ = some (.slice a7 n7 c7) := Z.out.s 7 _ rfl
        have s8 : wr.cell? ⟨w.heap.size, 8, none⟩ = some (.slice a8 n8 c8) := Z.out.s 8 _ rfl
        have a0 : wr.cell? ⟨w.heap.size + 1, 0, none⟩ = some (.int .i64 a) := Z.out.a 0 _ rfl
        have a1 : wr.cell? ⟨w.heap.size + 1, 1, none⟩ = some (.int .i64 b) := Z.out.a 1 _ rfl
        clear HMA HMB
        generalize bV N A M a b = bv at HBA HBB
        generalize bI bv = bi at HBA HBB
        generalize bv.isSome = bo at HBA HBB
        cases bo
        all_goals
          go_upto_region 10 with (go_at_call 10; refine (HBA.out _ Z.out.b).mono ?_; rintro e w2 ⟨rfl, hb⟩; have Z2 := hidOf (Z.out.grow hb); clear hb s0 s1 s2 s3 s4 s5 s6 s7 s8 a0 a1 lw la; have lw : w.heap.size < w2.heap.size := Nat.lt_of_succ_lt Z2.out.l; have la : w.heap.size + 1 < w2.heap.size := Z2.out.l; have s0 : w2.cell? ⟨w.heap.size, 0, none⟩ = some (.int .i64 ix) := Z2.out.s 0 _ rfl; have s1 : w2.cell? ⟨w.heap.size, 1, none⟩ = some (.int .i64 nx) := Z2.out.s 1 _ rfl; have s2 : w2.cell? ⟨w.heap.size, 2, none⟩ = some (.slice a2 n2 c2) := Z2.out.s 2 _ rfl; have s3 : w2.cell? ⟨w.heap.size, 3, none⟩ = some (.slice a3 n3 c3) := Z2.out.s 3 _ rfl; have s4 : w2.cell? ⟨w.heap.size, 4, none⟩ = some (.slice a4 N.length c4) := Z2.out.s 4 _ rfl; have s5 : w2.cell? ⟨w.heap.size, 5, none⟩ = some (.slice a5 A.length c5) := Z2.out.s 5 _ rfl; have s6 : w2.cell? ⟨w.heap.size, 6, none⟩ = some (.slice a6 n6 c6) := Z2.out.s 6 _ rfl; have s7 : w2.cell? ⟨w.heap.size, 7, none⟩ = some (.slice a7 n7 c7) := Z2.out.s 7 _ rfl; have s8 : w2.cell? ⟨w.heap.size, 8, none⟩ = some (.slice a8 n8 c8) := Z2.out.s 8 _ rfl; have a0 : w2.cell? ⟨w.heap.size + 1, 0, none⟩ = some (.int .i64 a) := Z2.out.a 0 _ rfl; have a1 : w2.cell? ⟨w.heap.size + 1, 1, none⟩ = some (.int .i64 b) := Z2.out.a 1 _ rfl)
          go_wp2_with (first
            | (go_at_call 11; refine (HBB.out _ Z2.out.b).mono ?_; rintro e w3 ⟨rfl, hb⟩; have Z3 := hidOf (Z2.out.grow hb); clear hb)
            | (go_at_call 7; refine (HLV.out _).mono ?_; rintro e wl ⟨rfl, hb⟩; have HBL := hidOf hb; clear hb))
          go_ret
          exact ⟨rfl, Z3.out.b.trans (HBL.out.mono Z3.out.b.size)⟩
end Go.Proofs.Ytajfhknfknedmaa
