/- LifePlays walked. -/
import Derived.Test.YtcdbkieimkcogaaLn
import Derived.Test.YtcdbkieimkcogaaLj
namespace Go.Proofs.Ytcdbkieimkcogaa
open Go.RowKit
set_option maxHeartbeats 16000000 in
set_option maxRecDepth 100000 in
theorem plays_any (a : Option Addr) (c : Nat) (L : List Bt) (w : World) (hL : Bts w a L) (hb : wt L ≤ 1048576) :
    Calls Try.prog 3 #[.slice a L.length c] w fun e w' => e = .returned (.bool true) ∧ Below w.heap.size w w' := by
  have HC := hidOf (new_any (D := w.heap.size) w (Nat.le_refl _))
  simp only [ptr] at HC
  have HBT := hidOf hL
  have HLV := hidOf lives_any
  have hLl : L.length ≤ 1048576 := Nat.le_trans (wt_len L) hb
  have HWT := hidOf (fun j (hj : j < L.length) => Nat.le_trans (wt_at hj) hb)
  clear hL hb
  go_enter Try.func3, Try.ntmps3
  go_wp2_with (go_at_call 6; refine HC.out.mono ?_; rintro e w1 ⟨p, mb, rfl, hp, hmb, h1, hb1⟩; have H1 := hidOf h1; have HB1 := hidOf hb1; clear h1 hb1 HC)
  have HLa := hidOf (H1.out.grow (below1 w1 (.cells #[.slice none 0 0] 28)))
  have HRa : Hid (RfR w.heap.size (w1.alloc (.cells #[.slice none 0 0] 28)) w1.heap.size []) := hidOf ⟨⟨_, heap_alloc_new w1 _, OwR.nil⟩, HB1.out.size⟩
  have HBa := hidOf (HB1.out.trans ((below1 w1 (.cells #[.slice none 0 0] 28)).mono HB1.out.size))
  obtain ⟨pR, hpR⟩ : ∃ y, y = w1.heap.size := ⟨_, rfl⟩
  obtain ⟨W, hW⟩ : ∃ y, y = w1.alloc (.cells #[.slice none 0 0] 28) := ⟨_, rfl⟩
  rw [← hW, ← hpR] at HRa
  rw [← hW] at HLa HBa
  rw [← hW, ← hpR]
  clear hW hpR H1 HB1
  go_loopw [5] (fun i wr => ∃ (k mb : Nat) (m : Mp) (R : List Ck), k ≤ L.length ∧ i = .int .i64 (k : Int) ∧ Hid (Okm m) ∧ Hid (look R = m) ∧ Hid (LfR w.heap.size wr p mb m) ∧ Hid (RfR w.heap.size wr pR R) ∧ Hid (Below w.heap.size w wr)) (fun i _ => L.length - (intOf i).toNat)
  case atStart => exact ⟨0, mb, _, [], Nat.zero_le _, rfl, hidOf Okm.nil, hidOf look_nil, HLa, HRa, HBa⟩
  case round =>
    clear HLa HRa HBa
    obtain ⟨k, mb, m, R, hk, rfl, HI, HLK, HL, HR, HB⟩ := hrel
    by_cases hlt : k < L.length
    · have hltz : (k : Int) < (L.length : Int) := by omega
      obtain ⟨b, off, rfl, hbl, b0, b1, b2, b3, HBR0⟩ := HBT.out.at HB.out k hlt
      have HBR := hidOf HBR0
      clear HBR0
      have htm := HBR.out.tm
      have hw := HWT.out k hlt
      go_upto_if 24 with (fail)
      go_cut [24] from 60 (fun _ wc => ∃ (mb : Nat) (m : Mp) (R : List Ck), Hid (Okm m) ∧ Hid (look R = m) ∧ Hid (LfR w.heap.size wc p mb m) ∧ Hid (RfR w.heap.size wc pR R) ∧ Hid (Below w.heap.size w wc))
      case first =>
        cases hld : (bt L k).ld with
        | true =>
          rw [hld] at b0
          have HLD := hidOf (lead_any p mb m _ HL.out)
          have HRD := hidOf (rlead_any (D := w.heap.size) pR R)
          simp only [ptr] at HLD HRD
          go_wp2_with (first
            | (go_at_call 7; refine HLD.out.mono ?_; rintro e w2 ⟨rfl, h1, h2⟩; have H1 := hidOf h1; have H2 := hidOf h2; clear h1 h2)
            | (go_at_call 8; refine (HRD.out _ (HR.out.keepT H2.out (by decide) (by decide))).mono ?_; rintro e w3 ⟨rfl, h1, h2⟩; have HR3 := hidOf h1; have H3 := hidOf h2; clear h1 h2))
          go_meet
          case rel => exact ⟨mb, _, [], hidOf Okm.nil, hidOf look_nil, hidOf (H1.out.keepT H3.out (by decide) (by decide)), HR3, hidOf (HB.out.trans ((H2.out.below HB.out.size).trans (H3.out.below (Nat.le_trans HB.out.size H2.out.size))))⟩
        | false =>
          rw [hld] at b0
          go_wp2
          go_meet
          case rel => exact ⟨mb, m, R, HI, HLK, HL, HR, HB⟩
      case rest =>
        clear HI HLK HL HR HB b0 b1 b2 b3
        obtain ⟨mb, m, R, HI, HLK, HL, HR, HB⟩ := hcut
        obtain ⟨b, off, hab, hbl, b0, b1, b2, b3, -⟩ := HBT.out.at HB.out k hlt
        cases hab
        have HZ := hidOf (below1 wc (.cells #[.int .i64 0, .int .i64 0, .slice none 0 0, .slice none 0 0, .slice none 0 0, .slice none 0 0, .slice none 0 0, .slice none 0 0, .slice none 0 0] 38))
        have hblc := Nat.lt_of_lt_of_le hbl HB.out.size
        have d2 := (HZ.out.drew.cell (p := ⟨b, off + k * 4 + 2, none⟩) hblc).trans b2
        have d3 := (HZ.out.drew.cell (p := ⟨b, off + k * 4 + 3, none⟩) hblc).trans b3
        go_upto_region 11 with (fail)
        go_region
        obtain ⟨W2, hW2⟩ : ∃ y, y = (wc.alloc (.cells #[.int .i64 0, .int .i64 0, .slice none 0 0, .slice none 0 0, .slice (bt L k).na (bt L k).N.length (bt L k).nc, .slice none 0 0, .slice none 0 0, .slice (bt L k).pa (bt L k).P.length (bt L k).pc, .slice none 0 0] 38)).drew := ⟨_, rfl⟩
        obtain ⟨bx, hbx⟩ : ∃ y, y = wc.heap.size := ⟨_, rfl⟩
        have hB1 := (below1 wc (.cells #[.int .i64 0, .int .i64 0, .slice none 0 0, .slice none 0 0, .slice (bt L k).na (bt L k).N.length (bt L k).nc, .slice none 0 0, .slice none 0 0, .slice (bt L k).pa (bt L k).P.length (bt L k).pc, .slice none 0 0] 38)).drew
        have HQ1 : Hid (W2.heap[bx]? = some (.cells #[.int .i64 0, .int .i64 0, .slice none 0 0, .slice none 0 0, .slice (bt L k).na (bt L k).N.length (bt L k).nc, .slice none 0 0, .slice none 0 0, .slice (bt L k).pa (bt L k).P.length (bt L k).pc, .slice none 0 0] 38 (0, 0))) := hidOf (by rw [hW2, hbx]; exact heap_alloc_new wc _)
        have HL1 : Hid (LfR w.heap.size W2 p mb m) := hidOf (by rw [hW2]; exact HL.out.grow hB1)
        have HR1 : Hid (RfR w.heap.size W2 pR R) := hidOf (by rw [hW2]; exact HR.out.grow hB1)
        have HB1w : Hid (Below w.heap.size w W2) := hidOf (by rw [hW2]; exact HB.out.trans (hB1.mono HB.out.size))
        rw [← hW2, ← hbx]
        clear hB1 hW2 hbx HL HR HB HZ d2 d3
        have HPK := hidOf (pick_any (bt L k).tm 45 htm (by decide) (by decide))
        have hpr := pkM_rng (bt L k).tm 45 (by decide)
        obtain ⟨pt, hpt⟩ : ∃ pt : Nat, pkM (bt L k).tm 45 = (pt : Int) := ⟨(pkM (bt L k).tm 45).toNat, by omega⟩
        rw [hpt] at HPK hpr
        have hpt2 : pt < 45 := by omega
        clear hpr hpt
        go_wp2
        go_loopw [7] (fun i wr => ∃ (nn mb : Nat) (m : Mp) (R : List Ck), nn ≤ pt + 1 ∧ i = .int .i64 (nn : Int) ∧ Hid (Okm m) ∧ Hid (look R = m) ∧ Hid (LfR w.heap.size wr p mb m) ∧ Hid (RfR w.heap.size wr pR R) ∧ Hid (Below w.heap.size w wr) ∧ Hid (wr.heap[bx]? = some (.cells #[.int .i64 0, .int .i64 0, .slice none 0 0, .slice none 0 0, .slice (bt L k).na (bt L k).N.length (bt L k).nc, .slice none 0 0, .slice none 0 0, .slice (bt L k).pa (bt L k).P.length (bt L k).pc, .slice none 0 0] 38 (0, 0)))) (fun i _ => pt + 1 - (intOf i).toNat)
        case atStart => exact ⟨0, mb, m, R, Nat.zero_le _, rfl, HI, HLK, HL1, HR1, HB1w, HQ1⟩
        case round =>
          clear HI HLK HL1 HR1 HB1w HQ1 b0 b1 b2 b3
          obtain ⟨nn, mb, m, R, hnn, rfl, HI, HLK, HL, HR, HB, HX⟩ := hrel
          obtain ⟨b', off', hab, hbl', b0, b1, b2, b3, -⟩ := HBT.out.at HB.out k hlt
          cases hab
          by_cases hgo : nn ≤ pt
          · have hgz : (nn : Int) ≤ (pt : Int) := by omega
            have hcl := tkM_len m (bt L k).N (bt L k).P
            go_upto_region 15 with (first
              | (go_at_call 9; refine (HPK.out _).mono ?_; rintro e w2 ⟨rfl, rfl⟩))
            have hD0 := (Below.refl w2.heap.size w2).drew
            have HBd := hidOf (HB.out.trans (hD0.mono HB.out.size))
            have HCK := fun j => cell_of_row w2 bx j _ 38 (0, 0) HX.out
            have s0 := (HCK 0).trans rfl
            have s1 := (HCK 1).trans rfl
            have s2 := (HCK 2).trans rfl
            have s3 := (HCK 3).trans rfl
            have s4 := (HCK 4).trans rfl
            have s5 := (HCK 5).trans rfl
            have s6 := (HCK 6).trans rfl
            have s7 := (HCK 7).trans rfl
            have s8 := (HCK 8).trans rfl
            simp only [List.getElem?_toArray, List.getElem?_cons_zero, List.getElem?_cons_succ] at s0 s1 s2 s3 s4 s5 s6 s7 s8
            clear HCK
            refine wp_region_held_drew (S := fun (Y : World) => Y.cell? ⟨bx, 0, none⟩ = some (.int .i64 0) ∧ Y.cell? ⟨bx, 1, none⟩ = some (.int .i64 0) ∧ Y.cell? ⟨bx, 2, none⟩ = some (.slice none 0 0) ∧ Y.cell? ⟨bx, 3, none⟩ = some (.slice none 0 0) ∧ Y.cell? ⟨bx, 4, none⟩ = some (.slice (bt L k).na (bt L k).N.length (bt L k).nc) ∧ Y.cell? ⟨bx, 5, none⟩ = some (.slice none 0 0) ∧ Y.cell? ⟨bx, 6, none⟩ = some (.slice none 0 0) ∧ Y.cell? ⟨bx, 7, none⟩ = some (.slice (bt L k).pa (bt L k).P.length (bt L k).pc) ∧ Y.cell? ⟨bx, 8, none⟩ = some (.slice none 0 0)) (by kernel_rfl) ⟨s0, s1, s2, s3, s4, s5, s6, s7, s8⟩ (fun hHeld => ?_)
            refine wpAnyH_take (i := 0) (oi := { dst := some 50, op := Op.move (Operand.tmp 3), type := 23, pos := "law.go:71", after := #[], guard := none }) (v := .pointer (some ⟨p, 0, none⟩)) rfl (by kernel_rfl) (by kernel_rfl) (by kernel_rfl) (fun _ _ _ h => h) (Or.inl ⟨by rfl, ?_⟩) hHeld ?_
            · (intro w hSw; (try dsimp only at hSw); go_simp)
            try simp only [Act.put, List.setIfInBounds_toArray, List.set_cons_zero, List.set_cons_succ]
            refine wpAnyH_take (i := 1) (oi := { dst := some 51, op := Op.load 38 (Operand.tmp 6), type := 38, pos := "law.go:71", after := #[], guard := none }) (v := .agg #[.int .i64 0, .int .i64 0, .slice none 0 0, .slice none 0 0, .slice (bt L k).na (bt L k).N.length (bt L k).nc, .slice none 0 0, .slice none 0 0, .slice (bt L k).pa (bt L k).P.length (bt L k).pc, .slice none 0 0]) rfl (by kernel_rfl) (by kernel_rfl) (by kernel_rfl) (fun _ _ _ h => h) (Or.inl ⟨by rfl, ?_⟩) hHeld ?_
            · (intro w hSw; (try dsimp only at hSw); go_simp)
            try simp only [Act.put, List.setIfInBounds_toArray, List.set_cons_zero, List.set_cons_succ]
            refine wpAnyH_take (i := 3) (oi := { dst := some 53, op := Op.move (Operand.tmp 4), type := 25, pos := "law.go:71", after := #[], guard := none }) (v := .pointer (some ⟨pR, 0, none⟩)) rfl (by kernel_rfl) (by kernel_rfl) (by kernel_rfl) (fun _ _ _ h => h) (Or.inl ⟨by rfl, ?_⟩) hHeld ?_
            · (intro w hSw; (try dsimp only at hSw); go_simp)
            try simp only [Act.put, List.setIfInBounds_toArray, List.set_cons_zero, List.set_cons_succ]
            refine wpAnyH_take (i := 4) (oi := { dst := some 54, op := Op.load 38 (Operand.tmp 6), type := 38, pos := "law.go:71", after := #[], guard := none }) (v := .agg #[.int .i64 0, .int .i64 0, .slice none 0 0, .slice none 0 0, .slice (bt L k).na (bt L k).N.length (bt L k).nc, .slice none 0 0, .slice none 0 0, .slice (bt L k).pa (bt L k).P.length (bt L k).pc, .slice none 0 0]) rfl (by kernel_rfl) (by kernel_rfl) (by kernel_rfl) (fun _ _ _ h => h) (Or.inl ⟨by rfl, ?_⟩) hHeld ?_
            · (intro w hSw; (try dsimp only at hSw); go_simp)
            try simp only [Act.put, List.setIfInBounds_toArray, List.set_cons_zero, List.set_cons_succ]
            refine wpAnyH_ready (rs := [2]) (by kernel_rfl) (by simp) ?_
            refine AllReadyH.cons (o := { dst := some 52, op := Op.call { callee := Callee.value (Operand.func 11), args := #[Operand.tmp 50, Operand.tmp 51], argTypes := #[23, 38] }, type := 41, pos := "law.go:71", after := #[{ on := 0, ground := Ground.data }, { on := 1, ground := Ground.data }], guard := none }) rfl (fun K hK => ?_) AllReadyH.nil
            go_simp
            refine (pat_tick w.heap.size _ p mb m (bt L k).N (bt L k).P _ _ _ _ HI.out (by omega) (HL.out.grow hD0) (RdR.low HBR.out.n HBd.out) (RdR.low HBR.out.p HBd.out)).mono ?_
            rintro e w2 ⟨mb3, a9, c9, rfl, h1, h2, h3⟩
            have HL2 := hidOf h1
            have HF2 := hidOf h2
            have HC2 := hidOf h3
            clear h1 h2 h3
            have HX2 := hidOf (HF2.out.cells HX.out (by decide))
            have HR2 := hidOf ((HR.out.grow hD0).keepT HF2.out (by decide) (by decide))
            have HB2 := hidOf (HBd.out.trans (HF2.out.below HBd.out.size))
            have HCL := hidOf (fun j => cell_of_row w2 bx j _ 38 (0, 0) HX2.out)
            refine hK.out _ _ ⟨(HCL.out 0).trans rfl, (HCL.out 1).trans rfl, (HCL.out 2).trans rfl, (HCL.out 3).trans rfl, (HCL.out 4).trans rfl, (HCL.out 5).trans rfl, (HCL.out 6).trans rfl, (HCL.out 7).trans rfl, (HCL.out 8).trans rfl⟩ (fun hHeld1 => ?_)
            clear hK K
            try simp only [Act.put, List.setIfInBounds_toArray, List.set_cons_zero, List.set_cons_succ]
            refine wpAnyH_ready (rs := [5]) (by kernel_rfl) (by simp) ?_
            refine AllReadyH.cons (o := { dst := some 55, op := Op.call { callee := Callee.value (Operand.func 12), args := #[Operand.tmp 53, Operand.tmp 54], argTypes := #[25, 38] }, type := 41, pos := "law.go:71", after := #[{ on := 3, ground := Ground.data }, { on := 4, ground := Ground.data }, { on := 2, ground := Ground.chain }], guard := none }) rfl (fun K hK => ?_) AllReadyH.nil
            go_simp
            have HRT := hidOf (rtick_any (D := w.heap.size) pR R (bt L k).N (bt L k).P (bt L k).na (bt L k).nc (bt L k).pa (bt L k).pc w2 HR2.out HB2.out.size (by rw [HLK.out]; exact HI.out) (RdR.low HBR.out.n HB2.out) (RdR.low HBR.out.p HB2.out) (by omega))
            rw [HLK.out] at HRT
            simp only [ptr] at HRT
            refine HRT.out.mono ?_
            rintro e w3 ⟨v10, R', rfl, h1, h2, h3, h4⟩
            obtain ⟨a10, c10, hv10, -⟩ := h3.slice
            subst hv10
            have HR3 := hidOf h1
            have HLK3 := hidOf h2
            have HC3 := hidOf h3
            have HF3 := hidOf h4
            clear h1 h2 h3 h4
            have HX3 := hidOf (HF3.out.cells HX2.out (by decide))
            have HL3 := hidOf (HL2.out.keepT HF3.out (by decide) (by decide))
            have HB3 := hidOf (HB2.out.trans (HF3.out.below HB2.out.size))
            have HC2b := hidOf (HC2.out.keepT HF3.out (by decide))
            have HCM := hidOf (fun j => cell_of_row w3 bx j _ 38 (0, 0) HX3.out)
            refine hK.out _ _ ⟨(HCM.out 0).trans rfl, (HCM.out 1).trans rfl, (HCM.out 2).trans rfl, (HCM.out 3).trans rfl, (HCM.out 4).trans rfl, (HCM.out 5).trans rfl, (HCM.out 6).trans rfl, (HCM.out 7).trans rfl, (HCM.out 8).trans rfl⟩ (fun hHeld2 => ?_)
            clear hK K
            try simp only [Act.put, List.setIfInBounds_toArray, List.set_cons_zero, List.set_cons_succ]
            refine wpAnyH_ready (rs := [6]) (by kernel_rfl) (by simp) ?_
            refine AllReadyH.cons (o := { dst := some 56, op := Op.call { callee := Callee.value (Operand.func 10), args := #[Operand.tmp 52, Operand.tmp 55], argTypes := #[41, 41] }, type := 4, pos := "law.go:71", after := #[{ on := 2, ground := Ground.data }, { on := 5, ground := Ground.data }, { on := 5, ground := Ground.chain }], guard := none }) rfl (fun K hK => ?_) AllReadyH.nil
            go_simp
            obtain ⟨e1, e2, he1, hrd1⟩ := OwR.rd (D := w3.heap.size) cm_size HC2b.out
            obtain ⟨e3, e4, he3, hrd3⟩ := OwR.rd (D := w3.heap.size) cm_size HC3.out
            cases he1
            cases he3
            refine (cmds_any (tkM m (bt L k).N (bt L k).P).2 _ _ _ _ w3 hrd1 hrd3 (by omega)).mono ?_
            rintro e w4 ⟨rfl, hb4⟩
            have HB4 := hidOf hb4
            clear hb4 hrd1 hrd3
            have HX4 := hidOf ((HB4.out.block _ (heap_lt HX3.out)).trans HX3.out)
            have HCN := hidOf (fun j => cell_of_row w4 bx j _ 38 (0, 0) HX4.out)
            refine hK.out _ _ ⟨(HCN.out 0).trans rfl, (HCN.out 1).trans rfl, (HCN.out 2).trans rfl, (HCN.out 3).trans rfl, (HCN.out 4).trans rfl, (HCN.out 5).trans rfl, (HCN.out 6).trans rfl, (HCN.out 7).trans rfl, (HCN.out 8).trans rfl⟩ (fun hHeld3 => ?_)
            clear hK K
            try simp only [Act.put, List.setIfInBounds_toArray, List.set_cons_zero, List.set_cons_succ]
            refine wpAnyH_take (i := 7) (oi := { dst := some 8, op := Op.assign (Operand.tmp 56), type := 4, pos := "law.go:71", after := #[{ on := 6, ground := Ground.data }, { on := 6, ground := Ground.chain }, { on := 0, ground := Ground.phase }, { on := 1, ground := Ground.phase }, { on := 2, ground := Ground.phase }, { on := 3, ground := Ground.phase }, { on := 4, ground := Ground.phase }, { on := 5, ground := Ground.phase }, { on := 6, ground := Ground.phase }], guard := none }) (v := .bool true) rfl (by kernel_rfl) (by kernel_rfl) (by kernel_rfl) (fun _ _ _ h => h) (Or.inl ⟨by rfl, ?_⟩) hHeld3 ?_
            · (intro w hSw; (try dsimp only at hSw); go_simp)
            try simp only [Act.put, List.setIfInBounds_toArray, List.set_cons_zero, List.set_cons_succ]
            refine wpAnyH_done (by kernel_rfl) ?_ _
            go_wp2
            go_roundw
            case rel => exact ⟨nn + 1, mb3, _, R', by omega, by go_num, hidOf (HI.out.tick _ _), HLK3, hidOf (HL3.out.grow HB4.out), hidOf (HR3.out.grow HB4.out), hidOf (HB3.out.trans (HB4.out.mono HB3.out.size)), HX4⟩
            case measure => simp [intOf]; omega
          · have hnp : nn = pt + 1 := by omega
            subst hnp
            have hgz : ¬ ((pt + 1 : Nat) : Int) ≤ (pt : Int) := by omega
            go_wp2_with (go_at_call 9; refine (HPK.out _).mono ?_; rintro e w2 ⟨rfl, rfl⟩)
            go_roundw
            case rel => exact ⟨k + 1, mb, m, R, by omega, by go_num, HI, HLK, HL, HR, HB⟩
            case measure => simp [intOf]; omega
    · have hltz : ¬ (k : Int) < (L.length : Int) := by omega
      go_wp2_with (go_at_call 13; refine (HLV.out _).mono ?_; rintro e w3 ⟨rfl, hb3⟩; have HB3 := hidOf hb3; clear hb3)
      go_ret
      exact ⟨rfl, HB.out.trans (HB3.out.mono HB.out.size)⟩
end Go.Proofs.Ytcdbkieimkcogaa
