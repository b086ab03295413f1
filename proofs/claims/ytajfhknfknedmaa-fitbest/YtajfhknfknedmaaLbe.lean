/- The best node leaves the least. -/
import Derived.Test.YtajfhknfknedmaaXh
import Derived.Test.YtajfhknfknedmaaDp
namespace Go.Proofs.Ytajfhknfknedmaa
open Go.RowKit Go.Shelf
attribute [local go_sem] Oper.semAt_some
set_option maxRecDepth 100000 in
set_option maxHeartbeats 8000000 in
theorem walkBest (s : Sc) (J B : List Js) (X : List Ss) (d : St) (a b : Int) (w : World) (hS : StR w (fun b => b < w.heap.size) s J B X d) (_hz : d.allocs.length * 88 ≤ reachBytes) :
    Calls Try.prog 5 #[.agg #[.int .i64 s.ix, .int .i64 s.nx, .slice s.a2 s.n2 s.c2, .slice s.a3 s.n3 s.c3, .slice s.a4 s.n4 s.c4, .slice s.a5 s.n5 s.c5, .slice s.a6 s.n6 s.c6, .slice s.a7 s.n7 s.c7, .slice s.a8 s.n8 s.c8], .agg #[.int .i64 a, .int .i64 b]] w fun e w' => e = .returned (.bool true) ∧ Below w.heap.size w w' := by
  have hs : Sg w s d.nodes d.allocs := ⟨hS.f.n4, hS.f.n5, hS.f.f4, hS.f.f5⟩
  clear hS
  generalize d.nodes = N at *
  generalize d.allocs = A at *
  obtain ⟨ix, nx, a2, n2, c2, a3, n3, c3, a4, n4, c4, a5, n5, c5, a6, n6, c6, a7, n7, c7, a8, n8, c8⟩ := s
  obtain ⟨e4, e5⟩ : n4 = N.length ∧ n5 = A.length := ⟨hs.n4, hs.n5⟩
  subst e4
  subst e5
  have HCA := hidOf (fun (W : World) (hW : Below w.heap.size w W) => caps_any ⟨ix, nx, a2, n2, c2, a3, n3, c3, a4, N.length, c4, a5, A.length, c5, a6, n6, c6, a7, n7, c7, a8, n8, c8⟩ N A W (hs.up hW))
  have HLV := hidOf lives_any
  dsimp only at HCA
  have Z0 := hidOf (FdS.begin w [.int .i64 ix, .int .i64 nx, .slice a2 n2 c2, .slice a3 n3 c3, .slice a4 N.length c4, .slice a5 A.length c5, .slice a6 n6 c6, .slice a7 n7 c7, .slice a8 n8 c8] [.int .i64 a, .int .i64 b] 29 31)
  have hln : N.length ≤ 140737488355328 := Nat.le_trans (Nat.le_mul_of_pos_right _ (by decide)) hs.f4.bd
  cases hcap : cpL N with
  | false =>
    rw [hcap] at HCA
    clear hs hcap
    go_enter Try.func5, Try.ntmps5
    go_wp2_with (first
      | (go_at_call 6; refine (HCA.out _ Z0.out.b).mono ?_; rintro e w1 ⟨rfl, hb⟩; have Z1 := hidOf (Z0.out.grow hb); clear hb)
      | (go_at_call 7; refine (HLV.out _).mono ?_; rintro e wl ⟨rfl, hb⟩; have HBL := hidOf hb; clear hb))
    go_ret
    exact ⟨rfl, Z1.out.b.trans (HBL.out.mono Z1.out.b.size)⟩
  | true =>
    have HMA := hidOf (fun (nd : Int) (W : World) (hW : Below w.heap.size w W) => may_any ⟨ix, nx, a2, n2, c2, a3, n3, c3, a4, N.length, c4, a5, A.length, c5, a6, n6, c6, a7, n7, c7, a8, n8, c8⟩ nd a b N A [] none 0 W (hs.up hW) (Fl.nil _ _ _ _ _ _) hcap)
    have HBA := hidOf (fun (W : World) (hW : Below w.heap.size w W) => best_any ⟨ix, nx, a2, n2, c2, a3, n3, c3, a4, N.length, c4, a5, A.length, c5, a6, n6, c6, a7, n7, c7, a8, n8, c8⟩ a b N A [] none 0 W (hs.up hW) (Fl.nil _ _ _ _ _ _) hcap)
    have HLE := hidOf (fun (nd l : Int) (hch : chV N A [] nd a b = some l) (W : World) (hW : Below w.heap.size w W) => (let h := chV_left hch; lawLeft_any ⟨ix, nx, a2, n2, c2, a3, n3, c3, a4, N.length, c4, a5, A.length, c5, a6, n6, c6, a7, n7, c7, a8, n8, c8⟩ nd N A h.choose h.choose_spec.choose W (hs.up hW) h.choose_spec.choose_spec.1 hcap h.choose_spec.choose_spec.2.2.1.1 h.choose_spec.choose_spec.2.2.2.1.1 h.choose_spec.choose_spec.2.2.2.2.1 h.choose_spec.choose_spec.2.2.2.2.2 : Calls Try.prog 12 #[.agg #[.int .i64 ix, .int .i64 nx, .slice a2 n2 c2, .slice a3 n3 c3, .slice a4 N.length c4, .slice a5 A.length c5, .slice a6 n6 c6, .slice a7 n7 c7, .slice a8 n8 c8], .int .i64 nd] W fun e w' => e = .returned (.int .i64 (lnV N A nd)) ∧ Below W.heap.size W w'))
    have HF4 := hidOf hs.f4
    dsimp only [List.length_nil] at HMA HBA HF4
    rw [hcap] at HCA
    clear hs hcap
    have HIS := hidOf (bF_is N A [] a b N.length (Nat.le_refl _))
    have HLS := hidOf (bF_least N A [] a b N.length (Nat.le_refl _))
    cases hbv : bV N A [] a b with
    | none =>
      rw [hbv] at HBA
      have HNO : Hid (∀ i (hi : i < N.length), (chV N A [] N[i].id a b).isSome = false) := hidOf (fun i hi => by
        cases hc : chV N A [] N[i].id a b with
        | none => rfl
        | some l =>
          obtain ⟨y, hy, _⟩ := HLS.out i hi l hc
          have h2 : bF N A [] a b N.length = none := hbv
          rw [h2] at hy
          cases hy)
      clear hbv HIS HLS HLE
      dsimp only [bI, Option.isSome_none] at HBA
      go_enter Try.func5, Try.ntmps5
      go_upto_region 4 with (go_at_call 6; refine (HCA.out _ Z0.out.b).mono ?_; rintro e w1 ⟨rfl, hb⟩; have Z1 := hidOf (Z0.out.grow hb); clear hb; have lw : w.heap.size < w1.heap.size := Nat.lt_of_succ_lt Z1.out.l; have la : w.heap.size + 1 < w1.heap.size := Z1.out.l; have s0 : w1.cell? ⟨w.heap.size, 0, none⟩ = some (.int .i64 ix) := Z1.out.s 0 _ rfl; have s1 : w1.cell? ⟨w.heap.size, 1, none⟩ = some (.int .i64 nx) := Z1.out.s 1 _ rfl; have s2 : w1.cell? ⟨w.heap.size, 2, none⟩ = some (.slice a2 n2 c2) := Z1.out.s 2 _ rfl; have s3 : w1.cell? ⟨w.heap.size, 3, none⟩ = some (.slice a3 n3 c3) := Z1.out.s 3 _ rfl; have s4 : w1.cell? ⟨w.heap.size, 4, none⟩ = some (.slice a4 N.length c4) := Z1.out.s 4 _ rfl; have s5 : w1.cell? ⟨w.heap.size, 5, none⟩ = some (.slice a5 A.length c5) := Z1.out.s 5 _ rfl; have s6 : w1.cell? ⟨w.heap.size, 6, none⟩ = some (.slice a6 n6 c6) := Z1.out.s 6 _ rfl; have s7 : w1.cell? ⟨w.heap.size, 7, none⟩ = some (.slice a7 n7 c7) := Z1.out.s 7 _ rfl; have s8 : w1.cell? ⟨w.heap.size, 8, none⟩ = some (.slice a8 n8 c8) := Z1.out.s 8 _ rfl; have a0 : w1.cell? ⟨w.heap.size + 1, 0, none⟩ = some (.int .i64 a) := Z1.out.a 0 _ rfl; have a1 : w1.cell? ⟨w.heap.size + 1, 1, none⟩ = some (.int .i64 b) := Z1.out.a 1 _ rfl)
      go_upto_region 6 with (go_at_call 10; refine (HBA.out _ Z1.out.b).mono ?_; rintro e w2 ⟨rfl, hb⟩; have Z2 := hidOf (Z1.out.grow hb); clear hb; clear s0 s1 s2 s3 s4 s5 s6 s7 s8 a0 a1 lw la; have lw : w.heap.size < w2.heap.size := Nat.lt_of_succ_lt Z2.out.l; have la : w.heap.size + 1 < w2.heap.size := Z2.out.l; have s0 : w2.cell? ⟨w.heap.size, 0, none⟩ = some (.int .i64 ix) := Z2.out.s 0 _ rfl; have s1 : w2.cell? ⟨w.heap.size, 1, none⟩ = some (.int .i64 nx) := Z2.out.s 1 _ rfl; have s2 : w2.cell? ⟨w.heap.size, 2, none⟩ = some (.slice a2 n2 c2) := Z2.out.s 2 _ rfl; have s3 : w2.cell? ⟨w.heap.size, 3, none⟩ = some (.slice a3 n3 c3) := Z2.out.s 3 _ rfl; have s4 : w2.cell? ⟨w.heap.size, 4, none⟩ = some (.slice a4 N.length c4) := Z2.out.s 4 _ rfl; have s5 : w2.cell? ⟨w.heap.size, 5, none⟩ = some (.slice a5 A.length c5) := Z2.out.s 5 _ rfl; have s6 : w2.cell? ⟨w.heap.size, 6, none⟩ = some (.slice a6 n6 c6) := Z2.out.s 6 _ rfl; have s7 : w2.cell? ⟨w.heap.size, 7, none⟩ = some (.slice a7 n7 c7) := Z2.out.s 7 _ rfl; have s8 : w2.cell? ⟨w.heap.size, 8, none⟩ = some (.slice a8 n8 c8) := Z2.out.s 8 _ rfl; have a0 : w2.cell? ⟨w.heap.size + 1, 0, none⟩ = some (.int .i64 a) := Z2.out.a 0 _ rfl; have a1 : w2.cell? ⟨w.heap.size + 1, 1, none⟩ = some (.int .i64 b) := Z2.out.a 1 _ rfl)
      clear s0 s1 s2 s3 s4 s5 s6 s7 s8 a0 a1 lw la HCA Z0 Z1 HBA
      go_wp2
      go_loopw [8] (fun i wr => ∃ k : Nat, k ≤ N.length ∧ i = .int .i64 k ∧ Hid (FdS w wr [.int .i64 ix, .int .i64 nx, .slice a2 n2 c2, .slice a3 n3 c3, .slice a4 N.length c4, .slice a5 A.length c5, .slice a6 n6 c6, .slice a7 n7 c7, .slice a8 n8 c8] [.int .i64 a, .int .i64 b])) (fun i _ => N.length - (intOf i).toNat)
      case atStart => exact ⟨0, Nat.zero_le _, rfl, Z2⟩
      case round =>
        clear Z2
        obtain ⟨k, hk, rfl, Z⟩ := hrel
        by_cases hlt : k < N.length
        · obtain ⟨bb, off, ha, hbl0, hc0⟩ := HF4.out.at k hlt
          have hbl : bb < wr.heap.size := Nat.lt_of_lt_of_le hbl0 Z.out.b.size
          have hc := range_of hc0 (Z.out.b.block bb hbl0)
          have HNK := hidOf (HNO.out k hlt)
          clear hbl0 hc0
          subst ha
          have g0 : wr.cell? ⟨bb, off + k * 8, none⟩ = some (.int .i64 N[k].id) := hc 0 _ rfl
          clear hc
          generalize N[k] = n at *
          have HMN := hidOf (HMA.out n.id)
          rw [HNK.out] at HMN
          have s4 : wr.cell? ⟨w.heap.size, 4, none⟩ = some (.slice (some ⟨bb, off, none⟩) N.length c4) := Z.out.s 4 _ rfl
          have lw : w.heap.size < wr.heap.size := Nat.lt_of_succ_lt Z.out.l
          go_upto_region 9 with (fail)
          have Zd := hidOf (Z.out.grow (bdrew _))
          have gd := (hb_cell (bdrew wr) hbl).trans g0
          have hbd := Nat.lt_of_lt_of_le hbl (bdrew wr).size
          have hk0 : ¬ ((k : Int) < 0) := by omega
          have hk1 : (0 : Int) ≤ (k : Int) := by omega
          have hk2 : (k : Int) < (N.length : Int) := by omega
          clear Z g0 hbl s4 lw
          refine wp_region_held_drew (S := fun (wz : World) => wz.cell? ⟨w.heap.size, 0, none⟩ = some (.int .i64 ix) ∧ wz.cell? ⟨w.heap.size, 1, none⟩ = some (.int .i64 nx) ∧ wz.cell? ⟨w.heap.size, 2, none⟩ = some (.slice a2 n2 c2) ∧ wz.cell? ⟨w.heap.size, 3, none⟩ = some (.slice a3 n3 c3) ∧ wz.cell? ⟨w.heap.size, 4, none⟩ = some (.slice (some ⟨bb, off, none⟩) N.length c4) ∧ wz.cell? ⟨w.heap.size, 5, none⟩ = some (.slice a5 A.length c5) ∧ wz.cell? ⟨w.heap.size, 6, none⟩ = some (.slice a6 n6 c6) ∧ wz.cell? ⟨w.heap.size, 7, none⟩ = some (.slice a7 n7 c7) ∧ wz.cell? ⟨w.heap.size, 8, none⟩ = some (.slice a8 n8 c8) ∧ wz.cell? ⟨w.heap.size + 1, 0, none⟩ = some (.int .i64 a) ∧ wz.cell? ⟨w.heap.size + 1, 1, none⟩ = some (.int .i64 b) ∧ wz.cell? ⟨bb, off + k * 8, none⟩ = some (.int .i64 n.id)) (by kernel_rfl) ⟨Zd.out.s 0 _ rfl, Zd.out.s 1 _ rfl, Zd.out.s 2 _ rfl, Zd.out.s 3 _ rfl, Zd.out.s 4 _ rfl, Zd.out.s 5 _ rfl, Zd.out.s 6 _ rfl, Zd.out.s 7 _ rfl, Zd.out.s 8 _ rfl, Zd.out.a 0 _ rfl, Zd.out.a 1 _ rfl, gd⟩ (fun hHeld => ?_)
          refine wpAnyH_take (i := 0) (oi := { dst := some 33, op := Op.load 29 (Operand.tmp 2), type := 29, pos := "law.go:91", after := #[], guard := none }) (v := .agg #[.int .i64 ix, .int .i64 nx, .slice a2 n2 c2, .slice a3 n3 c3, .slice (some ⟨bb, off, none⟩) N.length c4, .slice a5 A.length c5, .slice a6 n6 c6, .slice a7 n7 c7, .slice a8 n8 c8]) rfl (by kernel_rfl) (by kernel_rfl) (by kernel_rfl) (fun _ _ _ h => h) (Or.inl ⟨by rfl, ?_⟩) hHeld ?_
          · (intro w hSw; (try dsimp only at hSw); go_simp)
          try simp only [Act.put, List.setIfInBounds_toArray, List.set_cons_zero, List.set_cons_succ]
          refine wpAnyH_take (i := 1) (oi := { dst := some 34, op := Op.fieldAddr 29 (Operand.tmp 2) 4, type := 0, pos := "law.go:91", after := #[], guard := none }) (v := .pointer (some ⟨w.heap.size, 4, none⟩)) rfl (by kernel_rfl) (by kernel_rfl) (by kernel_rfl) (fun _ _ _ h => h) (Or.inl ⟨by rfl, ?_⟩) hHeld ?_
          · (intro w hSw; (try dsimp only at hSw); go_simp)
          try simp only [Act.put, List.setIfInBounds_toArray, List.set_cons_zero, List.set_cons_succ]
          refine wpAnyH_take (i := 2) (oi := { dst := some 35, op := Op.load 23 (Operand.tmp 34), type := 23, pos := "law.go:91", after := #[{ on := 1, ground := Ground.data }], guard := none }) (v := .slice (some ⟨bb, off, none⟩) N.length c4) rfl (by kernel_rfl) (by kernel_rfl) (by kernel_rfl) (fun _ _ _ h => h) (Or.inl ⟨by rfl, ?_⟩) hHeld ?_
          · (intro w hSw; (try dsimp only at hSw); go_simp)
          try simp only [Act.put, List.setIfInBounds_toArray, List.set_cons_zero, List.set_cons_succ]
          refine wpAnyH_take (i := 3) (oi := { dst := some 36, op := Op.move (Operand.tmp 8), type := 3, pos := "law.go:91", after := #[], guard := none }) (v := .int .i64 k) rfl (by kernel_rfl) (by kernel_rfl) (by kernel_rfl) (fun _ _ _ h => h) (Or.inl ⟨by rfl, ?_⟩) hHeld ?_
          · (intro w hSw; (try dsimp only at hSw); go_simp)
          try simp only [Act.put, List.setIfInBounds_toArray, List.set_cons_zero, List.set_cons_succ]
          refine wpAnyH_take (i := 4) (oi := { dst := some 37, op := Op.indexAddr 23 (Operand.tmp 35) (Operand.tmp 36), type := 0, pos := "law.go:91", after := #[{ on := 2, ground := Ground.data }, { on := 3, ground := Ground.data }], guard := none }) (v := .pointer (some ⟨bb, off + k * 8, none⟩)) rfl (by kernel_rfl) (by kernel_rfl) (by kernel_rfl) (fun _ _ _ h => h) (Or.inl ⟨by rfl, ?_⟩) hHeld ?_
          · (intro w hSw; (try dsimp only at hSw); go_simp)
          try simp only [Act.put, List.setIfInBounds_toArray, List.set_cons_zero, List.set_cons_succ]
          refine wpAnyH_take (i := 5) (oi := { dst := some 38, op := Op.fieldAddr 44 (Operand.tmp 37) 0, type := 0, pos := "law.go:91", after := #[{ on := 4, ground := Ground.data }], guard := none }) (v := .pointer (some ⟨bb, off + k * 8, none⟩)) rfl (by kernel_rfl) (by kernel_rfl) (by kernel_rfl) (fun _ _ _ h => h) (Or.inl ⟨by rfl, ?_⟩) hHeld ?_
          · (intro w hSw; (try dsimp only at hSw); go_simp)
          try simp only [Act.put, List.setIfInBounds_toArray, List.set_cons_zero, List.set_cons_succ]
          refine wpAnyH_take (i := 6) (oi := { dst := some 39, op := Op.load 3 (Operand.tmp 38), type := 3, pos := "law.go:91", after := #[{ on := 5, ground := Ground.data }], guard := none }) (v := .int .i64 n.id) rfl (by kernel_rfl) (by kernel_rfl) (by kernel_rfl) (fun _ _ _ h => h) (Or.inl ⟨by rfl, ?_⟩) hHeld ?_
          · (intro w hSw; (try dsimp only at hSw); go_simp)
          try simp only [Act.put, List.setIfInBounds_toArray, List.set_cons_zero, List.set_cons_succ]
          refine wpAnyH_take (i := 7) (oi := { dst := some 40, op := Op.load 31 (Operand.tmp 3), type := 31, pos := "law.go:91", after := #[], guard := none }) (v := .agg #[.int .i64 a, .int .i64 b]) rfl (by kernel_rfl) (by kernel_rfl) (by kernel_rfl) (fun _ _ _ h => h) (Or.inl ⟨by rfl, ?_⟩) hHeld ?_
          · (intro w hSw; (try dsimp only at hSw); go_simp)
          try simp only [Act.put, List.setIfInBounds_toArray, List.set_cons_zero, List.set_cons_succ]
          refine wpAnyH_ready (rs := [8]) (by kernel_rfl) (by simp) ?_
          refine AllReadyH.cons (o := { dst := some 41, op := Op.call { callee := Callee.value (Operand.func 8), args := #[Operand.tmp 33, Operand.const (Value.slice none 0 0), Operand.tmp 39, Operand.tmp 40], argTypes := #[29, 24, 3, 31] }, type := 4, pos := "law.go:91", after := #[{ on := 0, ground := Ground.data }, { on := 6, ground := Ground.data }, { on := 7, ground := Ground.data }], guard := none }) rfl (fun K hK => ?_) AllReadyH.nil
          go_simp
          refine (HMN.out _ (Zd.out.b)).mono ?_
          rintro e w2 ⟨rfl, hb2⟩
          have Z2 := hidOf (Zd.out.grow hb2)
          refine hK.out _ _ ⟨Z2.out.s 0 _ rfl, Z2.out.s 1 _ rfl, Z2.out.s 2 _ rfl, Z2.out.s 3 _ rfl, Z2.out.s 4 _ rfl, Z2.out.s 5 _ rfl, Z2.out.s 6 _ rfl, Z2.out.s 7 _ rfl, Z2.out.s 8 _ rfl, Z2.out.a 0 _ rfl, Z2.out.a 1 _ rfl, (hb_cell hb2 hbd).trans gd⟩ (fun hHeld1 => ?_)
          clear hK K
          try simp only [Act.put, List.setIfInBounds_toArray, List.set_cons_zero, List.set_cons_succ]
          refine wpAnyH_done (by kernel_rfl) ?_ _
          go_wp2
          go_roundw
          case rel => exact ⟨k + 1, by omega, by go_num, Z2⟩
          case measure => simp [intOf]; omega
        · have hkl : k = N.length := by omega
          subst hkl
          have s4 : wr.cell? ⟨w.heap.size, 4, none⟩ = some (.slice a4 N.length c4) := Z.out.s 4 _ rfl
          have lw : w.heap.size < wr.heap.size := Nat.lt_of_succ_lt Z.out.l
          go_wp2_with (go_at_call 7; refine (HLV.out _).mono ?_; rintro e wl ⟨rfl, hb⟩; have HBL := hidOf hb; clear hb)
          go_ret
          exact ⟨rfl, Z.out.b.trans (HBL.out.mono Z.out.b.size)⟩
    | some y =>
      obtain ⟨y1, y2⟩ := y
      have hys : chV N A [] y1 a b = some y2 := HIS.out _ hbv
      have HL0 := hidOf (HLE.out y1 y2 hys)
      have HMY := hidOf (HMA.out y1)
      rw [hys] at HMY
      dsimp only [Option.isSome_some] at HMY
      have HCMP : Hid (∀ i (hi : i < N.length), ∀ l, chV N A [] N[i].id a b = some l → ¬ lnV N A N[i].id < lnV N A y1 ∧ (lnV N A N[i].id = lnV N A y1 → ¬ N[i].id < y1)) := hidOf (fun i hi l hc => by
        obtain ⟨y, hy, hle⟩ := HLS.out i hi l hc
        have h2 : bF N A [] a b N.length = some (y1, y2) := hbv
        rw [h2] at hy
        cases hy
        obtain ⟨_, _, _, e1, _⟩ := chV_left hc
        obtain ⟨_, _, _, e2, _⟩ := chV_left hys
        dsimp only at hle
        omega)
      rw [hbv] at HBA
      clear hbv HIS HLS hys
      dsimp only [bI, Option.isSome_some] at HBA
      go_enter Try.func5, Try.ntmps5
      go_upto_region 4 with (go_at_call 6; refine (HCA.out _ Z0.out.b).mono ?_; rintro e w1 ⟨rfl, hb⟩; have Z1 := hidOf (Z0.out.grow hb); clear hb; have lw : w.heap.size < w1.heap.size := Nat.lt_of_succ_lt Z1.out.l; have la : w.heap.size + 1 < w1.heap.size := Z1.out.l; have s0 : w1.cell? ⟨w.heap.size, 0, none⟩ = some (.int .i64 ix) := Z1.out.s 0 _ rfl; have s1 : w1.cell? ⟨w.heap.size, 1, none⟩ = some (.int .i64 nx) := Z1.out.s 1 _ rfl; have s2 : w1.cell? ⟨w.heap.size, 2, none⟩ = some (.slice a2 n2 c2) := Z1.out.s 2 _ rfl; have s3 : w1.cell? ⟨w.heap.size, 3, none⟩ = some (.slice a3 n3 c3) := Z1.out.s 3 _ rfl; have s4 : w1.cell? ⟨w.heap.size, 4, none⟩ = some (.slice a4 N.length c4) := Z1.out.s 4 _ rfl; have s5 : w1.cell? ⟨w.heap.size, 5, none⟩ = some (.slice a5 A.length c5) := Z1.out.s 5 _ rfl; have s6 : w1.cell? ⟨w.heap.size, 6, none⟩ = some (.slice a6 n6 c6) := Z1.out.s 6 _ rfl; have s7 : w1.cell? ⟨w.heap.size, 7, none⟩ = some (.slice a7 n7 c7) := Z1.out.s 7 _ rfl; have s8 : w1.cell? ⟨w.heap.size, 8, none⟩ = some (.slice a8 n8 c8) := Z1.out.s 8 _ rfl; have a0 : w1.cell? ⟨w.heap.size + 1, 0, none⟩ = some (.int .i64 a) := Z1.out.a 0 _ rfl; have a1 : w1.cell? ⟨w.heap.size + 1, 1, none⟩ = some (.int .i64 b) := Z1.out.a 1 _ rfl)
      go_upto_region 12 with (go_at_call 10; refine (HBA.out _ Z1.out.b).mono ?_; rintro e w2 ⟨rfl, hb⟩; have Z2 := hidOf (Z1.out.grow hb); clear hb; clear s0 s1 s2 s3 s4 s5 s6 s7 s8 a0 a1 lw la; have lw : w.heap.size < w2.heap.size := Nat.lt_of_succ_lt Z2.out.l; have la : w.heap.size + 1 < w2.heap.size := Z2.out.l; have s0 : w2.cell? ⟨w.heap.size, 0, none⟩ = some (.int .i64 ix) := Z2.out.s 0 _ rfl; have s1 : w2.cell? ⟨w.heap.size, 1, none⟩ = some (.int .i64 nx) := Z2.out.s 1 _ rfl; have s2 : w2.cell? ⟨w.heap.size, 2, none⟩ = some (.slice a2 n2 c2) := Z2.out.s 2 _ rfl; have s3 : w2.cell? ⟨w.heap.size, 3, none⟩ = some (.slice a3 n3 c3) := Z2.out.s 3 _ rfl; have s4 : w2.cell? ⟨w.heap.size, 4, none⟩ = some (.slice a4 N.length c4) := Z2.out.s 4 _ rfl; have s5 : w2.cell? ⟨w.heap.size, 5, none⟩ = some (.slice a5 A.length c5) := Z2.out.s 5 _ rfl; have s6 : w2.cell? ⟨w.heap.size, 6, none⟩ = some (.slice a6 n6 c6) := Z2.out.s 6 _ rfl; have s7 : w2.cell? ⟨w.heap.size, 7, none⟩ = some (.slice a7 n7 c7) := Z2.out.s 7 _ rfl; have s8 : w2.cell? ⟨w.heap.size, 8, none⟩ = some (.slice a8 n8 c8) := Z2.out.s 8 _ rfl; have a0 : w2.cell? ⟨w.heap.size + 1, 0, none⟩ = some (.int .i64 a) := Z2.out.a 0 _ rfl; have a1 : w2.cell? ⟨w.heap.size + 1, 1, none⟩ = some (.int .i64 b) := Z2.out.a 1 _ rfl)
      go_upto_region 13 with (go_at_call 12; refine (HL0.out _ Z2.out.b).mono ?_; rintro e w3 ⟨rfl, hb⟩; have Z3 := hidOf (Z2.out.grow hb); clear hb)
      clear s0 s1 s2 s3 s4 s5 s6 s7 s8 a0 a1 lw la HCA Z0 Z1 HBA HL0 Z2
      go_wp2
      go_loopw [10] (fun i wr => ∃ k : Nat, k ≤ N.length ∧ i = .int .i64 k ∧ Hid (FdS w wr [.int .i64 ix, .int .i64 nx, .slice a2 n2 c2, .slice a3 n3 c3, .slice a4 N.length c4, .slice a5 A.length c5, .slice a6 n6 c6, .slice a7 n7 c7, .slice a8 n8 c8] [.int .i64 a, .int .i64 b])) (fun i _ => N.length - (intOf i).toNat)
      case atStart => exact ⟨0, Nat.zero_le _, rfl, Z3⟩
      case round =>
        clear Z3
        obtain ⟨k, hk, rfl, Z⟩ := hrel
        by_cases hlt : k < N.length
        · obtain ⟨bb, off, ha, hbl0, hc0⟩ := HF4.out.at k hlt
          have hbl : bb < wr.heap.size := Nat.lt_of_lt_of_le hbl0 Z.out.b.size
          have hc := range_of hc0 (Z.out.b.block bb hbl0)
          have HCK := hidOf (HCMP.out k hlt)
          clear hbl0 hc0
          subst ha
          have g0 : wr.cell? ⟨bb, off + k * 8, none⟩ = some (.int .i64 N[k].id) := hc 0 _ rfl
          clear hc
          generalize N[k] = n at *
          have HMN := hidOf (HMA.out n.id)
          have lw : w.heap.size < wr.heap.size := Nat.lt_of_succ_lt Z.out.l
          have la : w.heap.size + 1 < wr.heap.size := Z.out.l
          have s0 : wr.cell? ⟨w.heap.size, 0, none⟩ = some (.int .i64 ix) := Z.out.s 0 _ rfl
          have s1 : wr.cell? ⟨w.heap.size, 1, none⟩ = some (.int .i64 nx) := Z.out.s 1 _ rfl
          have s2 : wr.cell? ⟨w.heap.size, 2, none⟩ = some (.slice a2 n2 c2) := Z.out.s 2 _ rfl
          have s3 : wr.cell? ⟨w.heap.size, 3, none⟩ = some (.slice a3 n3 c3) := Z.out.s 3 _ rfl
          have s4 : wr.cell? ⟨w.heap.size, 4, none⟩ = some (.slice (some ⟨bb, off, none⟩) N.length c4) := Z.out.s 4 _ rfl
          have s5 : wr.cell? ⟨w.heap.size, 5, none⟩ = some (.slice a5 A.length c5) := Z.out.s 5 _ rfl
          have s6 : wr.cell? ⟨w.heap.size, 6, none⟩ = some (.slice a6 n6 c6) := Z.out.s 6 _ rfl
          have s7 : wr.cell? ⟨w.heap.size, 7, none⟩ = some (.slice a7 n7 c7) := Z.out.s 7 _ rfl
          have s8 : wr.cell? ⟨w.heap.size, 8, none⟩ = some (.slice a8 n8 c8) := Z.out.s 8 _ rfl
          have a0 : wr.cell? ⟨w.heap.size + 1, 0, none⟩ = some (.int .i64 a) := Z.out.a 0 _ rfl
          have a1 : wr.cell? ⟨w.heap.size + 1, 1, none⟩ = some (.int .i64 b) := Z.out.a 1 _ rfl
          cases hch : chV N A [] n.id a b with
          | none =>
            rw [hch] at HMN
            dsimp only [Option.isSome_none] at HMN
            clear hch
            go_wp2_with (go_at_call 8; refine (HMN.out _ Z.out.b).mono ?_; rintro e w4 ⟨rfl, hb⟩; have Z4 := hidOf (Z.out.grow hb); clear hb)
            go_roundw
            case rel => exact ⟨k + 1, by omega, by go_num, Z4⟩
            case measure => simp [intOf]; omega
          | some l =>
            rw [hch] at HMN
            dsimp only [Option.isSome_some] at HMN
            have HL1 := hidOf (HLE.out n.id l hch)
            obtain ⟨q1, q2⟩ := HCK.out l hch
            clear hch
            generalize lnV N A n.id = L1 at *
            generalize lnV N A y1 = L0 at *
            by_cases he : L1 = L0
            · subst he
              have q3 := q2 rfl
              clear q2 q1
              have q1 : ¬ L1 < L1 := by omega
              go_wp2_with (first
                | (go_at_call 8; refine (HMN.out _ Z.out.b).mono ?_; rintro e w4 ⟨rfl, hb⟩; have Z4 := hidOf (Z.out.grow hb); clear hb; clear s0 s1 s2 s3 s4 s5 s6 s7 s8 a0 a1 lw la; have lw : w.heap.size < w4.heap.size := Nat.lt_of_succ_lt Z4.out.l; have la : w.heap.size + 1 < w4.heap.size := Z4.out.l; have s0 : w4.cell? ⟨w.heap.size, 0, none⟩ = some (.int .i64 ix) := Z4.out.s 0 _ rfl; have s1 : w4.cell? ⟨w.heap.size, 1, none⟩ = some (.int .i64 nx) := Z4.out.s 1 _ rfl; have s2 : w4.cell? ⟨w.heap.size, 2, none⟩ = some (.slice a2 n2 c2) := Z4.out.s 2 _ rfl; have s3 : w4.cell? ⟨w.heap.size, 3, none⟩ = some (.slice a3 n3 c3) := Z4.out.s 3 _ rfl; have s4 : w4.cell? ⟨w.heap.size, 4, none⟩ = some (.slice (some ⟨bb, off, none⟩) N.length c4) := Z4.out.s 4 _ rfl; have s5 : w4.cell? ⟨w.heap.size, 5, none⟩ = some (.slice a5 A.length c5) := Z4.out.s 5 _ rfl; have s6 : w4.cell? ⟨w.heap.size, 6, none⟩ = some (.slice a6 n6 c6) := Z4.out.s 6 _ rfl; have s7 : w4.cell? ⟨w.heap.size, 7, none⟩ = some (.slice a7 n7 c7) := Z4.out.s 7 _ rfl; have s8 : w4.cell? ⟨w.heap.size, 8, none⟩ = some (.slice a8 n8 c8) := Z4.out.s 8 _ rfl; have a0 : w4.cell? ⟨w.heap.size + 1, 0, none⟩ = some (.int .i64 a) := Z4.out.a 0 _ rfl; have a1 : w4.cell? ⟨w.heap.size + 1, 1, none⟩ = some (.int .i64 b) := Z4.out.a 1 _ rfl)
                | (go_at_call 12; refine (HL1.out _ Z4.out.b).mono ?_; rintro e w5 ⟨rfl, hb⟩; have Z5 := hidOf (Z4.out.grow hb); clear hb))
              go_roundw
              case rel => exact ⟨k + 1, by omega, by go_num, Z5⟩
              case measure => simp [intOf]; omega
            · have q3 : (L1 == L0) = false := by simp [he]
              clear q2 he
              go_wp2_with (first
                | (go_at_call 8; refine (HMN.out _ Z.out.b).mono ?_; rintro e w4 ⟨rfl, hb⟩; have Z4 := hidOf (Z.out.grow hb); clear hb; clear s0 s1 s2 s3 s4 s5 s6 s7 s8 a0 a1 lw la; have lw : w.heap.size < w4.heap.size := Nat.lt_of_succ_lt Z4.out.l; have la : w.heap.size + 1 < w4.heap.size := Z4.out.l; have s0 : w4.cell? ⟨w.heap.size, 0, none⟩ = some (.int .i64 ix) := Z4.out.s 0 _ rfl; have s1 : w4.cell? ⟨w.heap.size, 1, none⟩ = some (.int .i64 nx) := Z4.out.s 1 _ rfl; have s2 : w4.cell? ⟨w.heap.size, 2, none⟩ = some (.slice a2 n2 c2) := Z4.out.s 2 _ rfl; have s3 : w4.cell? ⟨w.heap.size, 3, none⟩ = some (.slice a3 n3 c3) := Z4.out.s 3 _ rfl; have s4 : w4.cell? ⟨w.heap.size, 4, none⟩ = some (.slice (some ⟨bb, off, none⟩) N.length c4) := Z4.out.s 4 _ rfl; have s5 : w4.cell? ⟨w.heap.size, 5, none⟩ = some (.slice a5 A.length c5) := Z4.out.s 5 _ rfl; have s6 : w4.cell? ⟨w.heap.size, 6, none⟩ = some (.slice a6 n6 c6) := Z4.out.s 6 _ rfl; have s7 : w4.cell? ⟨w.heap.size, 7, none⟩ = some (.slice a7 n7 c7) := Z4.out.s 7 _ rfl; have s8 : w4.cell? ⟨w.heap.size, 8, none⟩ = some (.slice a8 n8 c8) := Z4.out.s 8 _ rfl; have a0 : w4.cell? ⟨w.heap.size + 1, 0, none⟩ = some (.int .i64 a) := Z4.out.a 0 _ rfl; have a1 : w4.cell? ⟨w.heap.size + 1, 1, none⟩ = some (.int .i64 b) := Z4.out.a 1 _ rfl)
                | (go_at_call 12; refine (HL1.out _ Z4.out.b).mono ?_; rintro e w5 ⟨rfl, hb⟩; have Z5 := hidOf (Z4.out.grow hb); clear hb))
              go_roundw
              case rel => exact ⟨k + 1, by omega, by go_num, Z5⟩
              case measure => simp [intOf]; omega
        · have hkl : k = N.length := by omega
          subst hkl
          have lw : w.heap.size < wr.heap.size := Nat.lt_of_succ_lt Z.out.l
          have la : w.heap.size + 1 < wr.heap.size := Z.out.l
          have s0 : wr.cell? ⟨w.heap.size, 0, none⟩ = some (.int .i64 ix) := Z.out.s 0 _ rfl
          have s1 : wr.cell? ⟨w.heap.size, 1, none⟩ = some (.int .i64 nx) := Z.out.s 1 _ rfl
          have s2 : wr.cell? ⟨w.heap.size, 2, none⟩ = some (.slice a2 n2 c2) := Z.out.s 2 _ rfl
          have s3 : wr.cell? ⟨w.heap.size, 3, none⟩ = some (.slice a3 n3 c3) := Z.out.s 3 _ rfl
          have s4 : wr.cell? ⟨w.heap.size, 4, none⟩ = some (.slice a4 N.length c4) := Z.out.s 4 _ rfl
          have s5 : wr.cell? ⟨w.heap.size, 5, none⟩ = some (.slice a5 A.length c5) := Z.out.s 5 _ rfl
          have s6 : wr.cell? ⟨w.heap.size, 6, none⟩ = some (.slice a6 n6 c6) := Z.out.s 6 _ rfl
          have s7 : wr.cell? ⟨w.heap.size, 7, none⟩ = some (.slice a7 n7 c7) := Z.out.s 7 _ rfl
          have s8 : wr.cell? ⟨w.heap.size, 8, none⟩ = some (.slice a8 n8 c8) := Z.out.s 8 _ rfl
          have a0 : wr.cell? ⟨w.heap.size + 1, 0, none⟩ = some (.int .i64 a) := Z.out.a 0 _ rfl
          have a1 : wr.cell? ⟨w.heap.size + 1, 1, none⟩ = some (.int .i64 b) := Z.out.a 1 _ rfl
          go_wp2_with (first
            | (go_at_call 8; refine (HMY.out _ Z.out.b).mono ?_; rintro e w4 ⟨rfl, hb⟩; have Z4 := hidOf (Z.out.grow hb); clear hb)
            | (go_at_call 7; refine (HLV.out _).mono ?_; rintro e wl ⟨rfl, hb⟩; have HBL := hidOf hb; clear hb))
          go_ret
          exact ⟨rfl, Z4.out.b.trans (HBL.out.mono Z4.out.b.size)⟩
end Go.Proofs.Ytajfhknfknedmaa
