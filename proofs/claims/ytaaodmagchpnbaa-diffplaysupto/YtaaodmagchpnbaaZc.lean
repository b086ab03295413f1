/- What is not wanted as it stands is stopped: the code's stopUnwanted. -/
import Derived.Test.YtaaodmagchpnbaaZb
namespace Go.Proofs.Ytaaodmagchpnbaa
open Go.RowKit Go.Shelf
theorem fd54 (y : Nd) (w : World) : (Instr.field 54 (ndV y) 3).run Try.prog w = .ok (.bool y.dr) w := by
  have hu := Try.underlying54
  unfold Instr.field ndV
  simp [go_sem, asAgg]
theorem ndG (o : Option Nd) : (o.map ndV).getD (.agg #[.int .i64 0, .int .i64 0, .int .i64 0, .bool false, .bool false, .int .i64 0, .int .i64 0, .int .i64 0]) = ndV (o.getD default) := by cases o <;> rfl
theorem ndD_eq (Ln : List Nd) (z : Int) : ndD Ln z = ((fnM Ln Ln.length z).getD default).dr := by unfold ndD; cases fnM Ln Ln.length z <;> rfl
set_option maxRecDepth 100000 in
set_option maxHeartbeats 8000000 in
theorem stopU_any {lo p hb sb : Nat} {d : Jb} {ga : Option Addr} {gc : Nat} {lb : Array Value} {aa : Option Addr} {ac : Nat} {A : List Al} {S : List (Int × Int)} {w : World} (h : LkR lo p hb sb d ga gc lb aa ac A S [] none 0 w) (Ln : List Nd) (na : Option Addr) (nc : Nat) (hN : Fl w (fun b => b < w.heap.size) 8 56 Nd.cs na Ln) :
    Calls Try.prog 22 #[.pointer (some ⟨p, 0, none⟩), .slice na Ln.length nc] w fun e w' => e = .returned (.tuple #[]) ∧ ∃ ia ic, LkR lo p hb sb d ga gc lb aa ac A S (suK d Ln S A A.length) ia ic w' ∧ Frm (LO p sb none) (LO p sb ia) w w' := by
  have hbd := h.al.bd
  have HLK := hidOf h
  have HN := hidOf (nodes_any Ln na nc w hN)
  clear h hN
  go_enter Try.func22, Try.ntmps22
  go_upto_region 1 with (go_at_call 32; refine HN.out.mono ?_; rintro e w1 ⟨rfl, hm1, hb1⟩; have HM1 := hidOf hm1; have HB1 := hidOf hb1; clear hm1 hb1)
  have HL1 := hidOf (HLK.out.bel HB1.out)
  have hp1 := HL1.out.rg
  have p8 : w1.cell? ⟨p, 8, none⟩ = some (.slice aa A.length ac) := hp1 8 _ rfl
  have lp1 : p < w1.heap.size := heap_lt HL1.out.ce
  clear hp1
  have HF1 := hidOf (Frm.bel HLK.out.lo_lt HB1.out)
  obtain ⟨nb, hnb⟩ : ∃ nb, w.heap.size = nb := ⟨_, rfl⟩
  rw [hnb] at HM1 ⊢
  have hnlo : lo ≤ nb := by rw [← hnb]; exact HLK.out.ne.2.2.2.2.2.2
  have hnout : ¬ LO p sb none nb := fun hh => by have := HLK.out.lo_lt nb hh; omega
  have hnlt : nb < w1.heap.size := HM1.out.lt
  clear hnb
  go_wp2
  go_loopw [17] (fun i wr => ∃ (k : Nat) (T : List Int) (ia : Option Addr) (ic : Nat), k ≤ A.length ∧ i = .int .i64 k ∧ Hid (T = suK d Ln S A k) ∧ Hid (LkR lo p hb sb d ga gc lb aa ac A S T ia ic wr) ∧ Hid (Frm (LO p sb none) (LO p sb ia) w1 wr)) (fun i _ => A.length - (intOf i).toNat)
  case atStart => exact ⟨0, [], none, 0, Nat.zero_le _, rfl, hidOf rfl, HL1, hidOf (Frm.refl HL1.out.lo_lt)⟩
  case round =>
    obtain ⟨k, T, ia, ic, hk, rfl, HT, HL, HF⟩ := hrel
    clear p8 lp1
    by_cases hlt : k < A.length
    · obtain ⟨b, off, ha, hQb, hcc⟩ := HL.out.al.at k hlt
      obtain ⟨x, hx⟩ : ∃ x, A[k] = x := ⟨_, rfl⟩
      have HSU := hidOf (suK_at d Ln S A k T HT.out hlt x hx)
      have HBT := hidOf (show (T.length + 1) * 8 ≤ 140737488355328 by have := suK_len d Ln S A k; rw [← HT.out] at this; omega)
      rw [hx] at hcc
      clear hx
      subst ha
      have hbl : b < wr.heap.size := by have := HL.out.ne; have := hQb.1; omega
      have c0 : wr.cell? ⟨b, off + k * 11, none⟩ = some (.int .i64 x.id) := hcc 0 _ rfl
      have c1 : wr.cell? ⟨b, off + k * 11 + 1, none⟩ = some (.int .i64 x.jb) := hcc 1 _ rfl
      have c2 : wr.cell? ⟨b, off + k * 11 + 2, none⟩ = some (.int .i64 x.ve) := hcc 2 _ rfl
      have c3 : wr.cell? ⟨b, off + k * 11 + 3, none⟩ = some (.int .i64 x.gr) := hcc 3 _ rfl
      have c4 : wr.cell? ⟨b, off + k * 11 + 4, none⟩ = some (.int .i64 x.ix) := hcc 4 _ rfl
      have c5 : wr.cell? ⟨b, off + k * 11 + 5, none⟩ = some (.int .i64 x.nd) := hcc 5 _ rfl
      have c6 : wr.cell? ⟨b, off + k * 11 + 6, none⟩ = some (.int .i64 x.ep) := hcc 6 _ rfl
      have c7 : wr.cell? ⟨b, off + k * 11 + 7, none⟩ = some (.int .i64 x.c) := hcc 7 _ rfl
      have c8 : wr.cell? ⟨b, off + k * 11 + 8, none⟩ = some (.int .i64 x.m) := hcc 8 _ rfl
      have c9 : wr.cell? ⟨b, off + k * 11 + 9, none⟩ = some (.bool x.sp) := hcc 9 _ rfl
      have c10 : wr.cell? ⟨b, off + k * 11 + 10, none⟩ = some (.int .i64 x.st) := hcc 10 _ rfl
      have HNB0 := hidOf (HM1.out.keep (HF.out.same nb hnlt hnout))
      have hnlr : nb < wr.heap.size := Nat.lt_of_lt_of_le hnlt HF.out.size
      clear hcc hQb
      go_upto_region 4 with (fail)
      obtain ⟨wA, hwA⟩ : ∃ wA, wr.alloc (.cells #[.int .i64 x.id, .int .i64 x.jb, .int .i64 x.ve, .int .i64 x.gr, .int .i64 x.ix, .int .i64 x.nd, .int .i64 x.ep, .int .i64 x.c, .int .i64 x.m, .bool x.sp, .int .i64 x.st] 47) = wA := ⟨_, rfl⟩
      have hbA : Below wr.heap.size wr wA := by rw [← hwA]; exact below1 _ _
      have hbX : wA.rangeAt wr.heap.size 0 (Al.cs x) := by rw [← hwA]; exact box_new (wr := wr) (cs := Al.cs x) (t := 47) (Below.refl _ _)
      rw [hwA]
      clear hwA c0 c1 c2 c3 c4 c5 c6 c7 c8 c9 c10
      obtain ⟨B, hB⟩ : ∃ B, wr.heap.size = B := ⟨_, rfl⟩
      have hlB : B < wA.heap.size := by rw [← hB]; exact lt_of_cell (hbX 0 _ rfl)
      rw [hB] at hbX ⊢
      clear hB
      have HX : Hid (∀ Y, Below wA.heap.size wA Y → Y.rangeAt B 0 (Al.cs x)) := hidOf fun Y hY => range_of hbX (hY.block B hlB)
      have HLA := hidOf (HL.out.bel hbA)
      have HFA : Hid (∀ Y, Below wA.heap.size wA Y → Frm (LO p sb ia) (LO p sb ia) wr Y) := hidOf fun Y hY => Frm.bel HL.out.lo_lt (hbA.trans (hY.mono hbA.size))
      have HNB : Hid (∀ Y, Below wA.heap.size wA Y → MpR Y nb kI (fnV Ln Ln.length)) := hidOf fun Y hY => (HNB0.out.keep (hbA.block nb hnlr)).keep (hY.block nb (Nat.lt_of_lt_of_le hnlr hbA.size))
      have HYA := hidOf (Below.refl wA.heap.size wA)
      have HYD := hidOf (bdrew wA)
      have lpA : p < wA.heap.size := heap_lt HLA.out.ce
      clear hbA hbX HNB0
      by_cases hj : x.jb = d.id
      · have hjb : (x.jb != d.id) = false := by simp [hj]
        have HJ := hidOf hj
        clear hj
        cases hov : ovr x.st with
        | true =>
          have hc1 := over_any x wA.drew
          rw [hov] at hc1
          have HOV := hidOf hc1
          clear hc1
          refine wp_region_held_drew (S := fun (Y : World) => Y.cell? ⟨B, 1, none⟩ = some (.int .i64 x.jb) ∧ Y.cell? ⟨p, 0, none⟩ = some (.int .i64 d.id) ∧ Y.cell? ⟨B, 0, none⟩ = some (.int .i64 x.id) ∧ Y.cell? ⟨B, 2, none⟩ = some (.int .i64 x.ve) ∧ Y.cell? ⟨B, 3, none⟩ = some (.int .i64 x.gr) ∧ Y.cell? ⟨B, 4, none⟩ = some (.int .i64 x.ix) ∧ Y.cell? ⟨B, 5, none⟩ = some (.int .i64 x.nd) ∧ Y.cell? ⟨B, 6, none⟩ = some (.int .i64 x.ep) ∧ Y.cell? ⟨B, 7, none⟩ = some (.int .i64 x.c) ∧ Y.cell? ⟨B, 8, none⟩ = some (.int .i64 x.m) ∧ Y.cell? ⟨B, 9, none⟩ = some (.bool x.sp) ∧ Y.cell? ⟨B, 10, none⟩ = some (.int .i64 x.st)) (by kernel_rfl) ⟨HX.out _ HYA.out 1 _ rfl, (HLA.out.bel HYA.out).rg 0 _ rfl, HX.out _ HYA.out 0 _ rfl, HX.out _ HYA.out 2 _ rfl, HX.out _ HYA.out 3 _ rfl, HX.out _ HYA.out 4 _ rfl, HX.out _ HYA.out 5 _ rfl, HX.out _ HYA.out 6 _ rfl, HX.out _ HYA.out 7 _ rfl, HX.out _ HYA.out 8 _ rfl, HX.out _ HYA.out 9 _ rfl, HX.out _ HYA.out 10 _ rfl⟩ (fun hHeld => ?_)
          refine wpAnyH_take (i := 0) (oi := { dst := some 22, op := Op.fieldAddr 47 (Operand.tmp 6) 1, type := 0, pos := "diff.go:65", after := #[], guard := none }) (v := .pointer (some ⟨B, 1, none⟩)) rfl (by kernel_rfl) (by kernel_rfl) (by kernel_rfl) (fun _ _ _ h => h) (Or.inl ⟨by rfl, ?_⟩) hHeld ?_
          · (intro w hSw; (try dsimp only at hSw); go_simp)
          try simp only [Act.put, List.setIfInBounds_toArray, List.set_cons_zero, List.set_cons_succ]
          refine wpAnyH_take (i := 1) (oi := { dst := some 23, op := Op.load 3 (Operand.tmp 22), type := 3, pos := "diff.go:65", after := #[{ on := 0, ground := Ground.data }], guard := none }) (v := .int .i64 x.jb) rfl (by kernel_rfl) (by kernel_rfl) (by kernel_rfl) (fun _ _ _ h => h) (Or.inl ⟨by rfl, ?_⟩) hHeld ?_
          · (intro w hSw; (try dsimp only at hSw); go_simp)
          try simp only [Act.put, List.setIfInBounds_toArray, List.set_cons_zero, List.set_cons_succ]
          refine wpAnyH_take (i := 2) (oi := { dst := some 24, op := Op.move (Operand.tmp 0), type := 58, pos := "diff.go:65", after := #[], guard := none }) (v := .pointer (some ⟨p, 0, none⟩)) rfl (by kernel_rfl) (by kernel_rfl) (by kernel_rfl) (fun _ _ _ h => h) (Or.inl ⟨by rfl, ?_⟩) hHeld ?_
          · (intro w hSw; (try dsimp only at hSw); go_simp)
          try simp only [Act.put, List.setIfInBounds_toArray, List.set_cons_zero, List.set_cons_succ]
          refine wpAnyH_take (i := 3) (oi := { dst := some 25, op := Op.nilCheck (Operand.tmp 24), type := 0, pos := "diff.go:65", after := #[{ on := 2, ground := Ground.data }], guard := none }) (v := .pointer (some ⟨p, 0, none⟩)) rfl (by kernel_rfl) (by kernel_rfl) (by kernel_rfl) (fun _ _ _ h => h) (Or.inl ⟨by rfl, ?_⟩) hHeld ?_
          · (intro w hSw; (try dsimp only at hSw); go_simp)
          try simp only [Act.put, List.setIfInBounds_toArray, List.set_cons_zero, List.set_cons_succ]
          refine wpAnyH_take (i := 4) (oi := { dst := some 26, op := Op.fieldAddr 66 (Operand.tmp 25) 0, type := 0, pos := "diff.go:65", after := #[{ on := 3, ground := Ground.data }], guard := none }) (v := .pointer (some ⟨p, 0, none⟩)) rfl (by kernel_rfl) (by kernel_rfl) (by kernel_rfl) (fun _ _ _ h => h) (Or.inl ⟨by rfl, ?_⟩) hHeld ?_
          · (intro w hSw; (try dsimp only at hSw); go_simp)
          try simp only [Act.put, List.setIfInBounds_toArray, List.set_cons_zero, List.set_cons_succ]
          refine wpAnyH_take (i := 5) (oi := { dst := some 27, op := Op.fieldAddr 51 (Operand.tmp 26) 0, type := 0, pos := "diff.go:65", after := #[{ on := 4, ground := Ground.data }], guard := none }) (v := .pointer (some ⟨p, 0, none⟩)) rfl (by kernel_rfl) (by kernel_rfl) (by kernel_rfl) (fun _ _ _ h => h) (Or.inl ⟨by rfl, ?_⟩) hHeld ?_
          · (intro w hSw; (try dsimp only at hSw); go_simp)
          try simp only [Act.put, List.setIfInBounds_toArray, List.set_cons_zero, List.set_cons_succ]
          refine wpAnyH_take (i := 6) (oi := { dst := some 28, op := Op.load 3 (Operand.tmp 27), type := 3, pos := "diff.go:65", after := #[{ on := 5, ground := Ground.data }], guard := none }) (v := .int .i64 d.id) rfl (by kernel_rfl) (by kernel_rfl) (by kernel_rfl) (fun _ _ _ h => h) (Or.inl ⟨by rfl, ?_⟩) hHeld ?_
          · (intro w hSw; (try dsimp only at hSw); go_simp)
          try simp only [Act.put, List.setIfInBounds_toArray, List.set_cons_zero, List.set_cons_succ]
          refine wpAnyH_take (i := 7) (oi := { dst := some 29, op := Op.binOp BinOp.neq 3 (Operand.tmp 23) (Operand.tmp 28) 3, type := 4, pos := "diff.go:65", after := #[{ on := 1, ground := Ground.data }, { on := 6, ground := Ground.data }], guard := none }) (v := .bool false) rfl (by kernel_rfl) (by kernel_rfl) (by kernel_rfl) (fun _ _ _ h => h) (Or.inl ⟨by rfl, ?_⟩) hHeld ?_
          · (intro w hSw; (try dsimp only at hSw); go_simp)
          try simp only [Act.put, List.setIfInBounds_toArray, List.set_cons_zero, List.set_cons_succ]
          refine wpAnyH_take (i := 8) (oi := { dst := some 30, op := Op.move (Operand.tmp 29), type := 4, pos := "diff.go:65", after := #[{ on := 7, ground := Ground.data }], guard := none }) (v := .bool false) rfl (by kernel_rfl) (by kernel_rfl) (by kernel_rfl) (fun _ _ _ h => h) (Or.inl ⟨by rfl, ?_⟩) hHeld ?_
          · (intro w hSw; (try dsimp only at hSw); go_simp)
          try simp only [Act.put, List.setIfInBounds_toArray, List.set_cons_zero, List.set_cons_succ]
          refine wpAnyH_take (i := 9) (oi := { dst := some 31, op := Op.load 47 (Operand.tmp 6), type := 47, pos := "diff.go:65", after := #[{ on := 8, ground := Ground.guard }], guard := some (8, false) }) (v := .agg #[.int .i64 x.id, .int .i64 x.jb, .int .i64 x.ve, .int .i64 x.gr, .int .i64 x.ix, .int .i64 x.nd, .int .i64 x.ep, .int .i64 x.c, .int .i64 x.m, .bool x.sp, .int .i64 x.st]) rfl (by kernel_rfl) (by kernel_rfl) (by kernel_rfl) (fun _ _ _ h => h) (Or.inl ⟨by rfl, ?_⟩) hHeld ?_
          · (intro w hSw; (try dsimp only at hSw); go_simp)
          try simp only [Act.put, List.setIfInBounds_toArray, List.set_cons_zero, List.set_cons_succ]
          refine wpAnyH_ready (rs := [10]) (by kernel_rfl) (by simp) ?_
          refine AllReadyH.cons (o := { dst := some 32, op := Op.call { callee := Callee.value (Operand.func 33), args := #[Operand.tmp 31], argTypes := #[47] }, type := 4, pos := "diff.go:65", after := #[{ on := 9, ground := Ground.data }, { on := 8, ground := Ground.chain }, { on := 8, ground := Ground.guard }], guard := some (8, false) }) rfl (fun K hK => ?_) AllReadyH.nil
          go_simp
          refine HOV.out.mono ?_
          rintro e w2 ⟨rfl, hb2⟩
          have HY2 := hidOf (HYD.out.trans (hb2.mono HYD.out.size))
          clear hb2
          refine hK.out _ _ ⟨HX.out _ HY2.out 1 _ rfl, (HLA.out.bel HY2.out).rg 0 _ rfl, HX.out _ HY2.out 0 _ rfl, HX.out _ HY2.out 2 _ rfl, HX.out _ HY2.out 3 _ rfl, HX.out _ HY2.out 4 _ rfl, HX.out _ HY2.out 5 _ rfl, HX.out _ HY2.out 6 _ rfl, HX.out _ HY2.out 7 _ rfl, HX.out _ HY2.out 8 _ rfl, HX.out _ HY2.out 9 _ rfl, HX.out _ HY2.out 10 _ rfl⟩ (fun hHeld1 => ?_)
          clear hK K
          try simp only [Act.put, List.setIfInBounds_toArray, List.set_cons_zero, List.set_cons_succ]
          refine wpAnyH_take (i := 11) (oi := { dst := some 33, op := Op.pick (Operand.tmp 30) (Operand.const (Value.bool true)) (Operand.tmp 32), type := 4, pos := "diff.go:65", after := #[{ on := 8, ground := Ground.data }, { on := 10, ground := Ground.data }], guard := none }) (v := .bool true) rfl (by kernel_rfl) (by kernel_rfl) (by kernel_rfl) (fun _ _ _ h => h) (Or.inl ⟨by rfl, ?_⟩) hHeld1 ?_
          · (intro w hSw; (try dsimp only at hSw); go_simp)
          try simp only [Act.put, List.setIfInBounds_toArray, List.set_cons_zero, List.set_cons_succ]
          refine wpAnyH_take (i := 12) (oi := { dst := some 34, op := Op.move (Operand.tmp 33), type := 4, pos := "diff.go:65", after := #[{ on := 11, ground := Ground.data }, { on := 10, ground := Ground.chain }], guard := none }) (v := .bool true) rfl (by kernel_rfl) (by kernel_rfl) (by kernel_rfl) (fun _ _ _ h => h) (Or.inl ⟨by rfl, ?_⟩) hHeld1 ?_
          · (intro w hSw; (try dsimp only at hSw); go_simp)
          try simp only [Act.put, List.setIfInBounds_toArray, List.set_cons_zero, List.set_cons_succ]
          refine wpAnyH_take (i := 13) (oi := { dst := some 35, op := Op.fieldAddr 47 (Operand.tmp 6) 8, type := 0, pos := "diff.go:65", after := #[{ on := 12, ground := Ground.guard }], guard := some (12, false) }) (v := undef) rfl (by kernel_rfl) (by kernel_rfl) (by kernel_rfl) (fun _ _ _ h => h) (Or.inr ⟨by rfl, rfl⟩) hHeld1 ?_
          try simp only [Act.put, List.setIfInBounds_toArray, List.set_cons_zero, List.set_cons_succ]
          refine wpAnyH_take (i := 14) (oi := { dst := some 36, op := Op.load 4 (Operand.tmp 35), type := 4, pos := "diff.go:65", after := #[{ on := 13, ground := Ground.data }, { on := 12, ground := Ground.guard }], guard := some (12, false) }) (v := undef) rfl (by kernel_rfl) (by kernel_rfl) (by kernel_rfl) (fun _ _ _ h => h) (Or.inr ⟨by rfl, rfl⟩) hHeld1 ?_
          try simp only [Act.put, List.setIfInBounds_toArray, List.set_cons_zero, List.set_cons_succ]
          refine wpAnyH_take (i := 15) (oi := { dst := some 37, op := Op.pick (Operand.tmp 34) (Operand.const (Value.bool true)) (Operand.tmp 36), type := 4, pos := "diff.go:65", after := #[{ on := 12, ground := Ground.data }, { on := 14, ground := Ground.data }], guard := none }) (v := .bool true) rfl (by kernel_rfl) (by kernel_rfl) (by kernel_rfl) (fun _ _ _ h => h) (Or.inl ⟨by rfl, ?_⟩) hHeld1 ?_
          · (intro w hSw; (try dsimp only at hSw); go_simp)
          try simp only [Act.put, List.setIfInBounds_toArray, List.set_cons_zero, List.set_cons_succ]
          refine wpAnyH_done (by kernel_rfl) ?_ _
          go_wp2
          go_roundw
          case rel => exact ⟨k + 1, T, ia, ic, by omega, by simp, hidOf (by rw [HSU.out, if_neg (fun h => by have := h.1; simp [skB, hov] at this)]), hidOf (HLA.out.bel HY2.out), hidOf (HF.out.trans (HFA.out _ HY2.out))⟩
          case measure => simp [intOf]; omega
        | false =>
          have hc1 := over_any x wA.drew
          rw [hov] at hc1
          have HOV := hidOf hc1
          clear hc1
          cases hsp : x.sp with
          | true =>
            unfold Al.cs at HX
            rw [hsp] at HX HOV
            refine wp_region_held_drew (S := fun (Y : World) => Y.cell? ⟨B, 1, none⟩ = some (.int .i64 x.jb) ∧ Y.cell? ⟨p, 0, none⟩ = some (.int .i64 d.id) ∧ Y.cell? ⟨B, 0, none⟩ = some (.int .i64 x.id) ∧ Y.cell? ⟨B, 2, none⟩ = some (.int .i64 x.ve) ∧ Y.cell? ⟨B, 3, none⟩ = some (.int .i64 x.gr) ∧ Y.cell? ⟨B, 4, none⟩ = some (.int .i64 x.ix) ∧ Y.cell? ⟨B, 5, none⟩ = some (.int .i64 x.nd) ∧ Y.cell? ⟨B, 6, none⟩ = some (.int .i64 x.ep) ∧ Y.cell? ⟨B, 7, none⟩ = some (.int .i64 x.c) ∧ Y.cell? ⟨B, 8, none⟩ = some (.int .i64 x.m) ∧ Y.cell? ⟨B, 9, none⟩ = some (.bool true) ∧ Y.cell? ⟨B, 10, none⟩ = some (.int .i64 x.st)) (by kernel_rfl) ⟨HX.out _ HYA.out 1 _ rfl, (HLA.out.bel HYA.out).rg 0 _ rfl, HX.out _ HYA.out 0 _ rfl, HX.out _ HYA.out 2 _ rfl, HX.out _ HYA.out 3 _ rfl, HX.out _ HYA.out 4 _ rfl, HX.out _ HYA.out 5 _ rfl, HX.out _ HYA.out 6 _ rfl, HX.out _ HYA.out 7 _ rfl, HX.out _ HYA.out 8 _ rfl, HX.out _ HYA.out 9 _ rfl, HX.out _ HYA.out 10 _ rfl⟩ (fun hHeld => ?_)
            refine wpAnyH_take (i := 0) (oi := { dst := some 22, op := Op.fieldAddr 47 (Operand.tmp 6) 1, type := 0, pos := "diff.go:65", after := #[], guard := none }) (v := .pointer (some ⟨B, 1, none⟩)) rfl (by kernel_rfl) (by kernel_rfl) (by kernel_rfl) (fun _ _ _ h => h) (Or.inl ⟨by rfl, ?_⟩) hHeld ?_
            · (intro w hSw; (try dsimp only at hSw); go_simp)
            try simp only [Act.put, List.setIfInBounds_toArray, List.set_cons_zero, List.set_cons_succ]
            refine wpAnyH_take (i := 1) (oi := { dst := some 23, op := Op.load 3 (Operand.tmp 22), type := 3, pos := "diff.go:65", after := #[{ on := 0, ground := Ground.data }], guard := none }) (v := .int .i64 x.jb) rfl (by kernel_rfl) (by kernel_rfl) (by kernel_rfl) (fun _ _ _ h => h) (Or.inl ⟨by rfl, ?_⟩) hHeld ?_
            · (intro w hSw; (try dsimp only at hSw); go_simp)
            try simp only [Act.put, List.setIfInBounds_toArray, List.set_cons_zero, List.set_cons_succ]
            refine wpAnyH_take (i := 2) (oi := { dst := some 24, op := Op.move (Operand.tmp 0), type := 58, pos := "diff.go:65", after := #[], guard := none }) (v := .pointer (some ⟨p, 0, none⟩)) rfl (by kernel_rfl) (by kernel_rfl) (by kernel_rfl) (fun _ _ _ h => h) (Or.inl ⟨by rfl, ?_⟩) hHeld ?_
            · (intro w hSw; (try dsimp only at hSw); go_simp)
            try simp only [Act.put, List.setIfInBounds_toArray, List.set_cons_zero, List.set_cons_succ]
            refine wpAnyH_take (i := 3) (oi := { dst := some 25, op := Op.nilCheck (Operand.tmp 24), type := 0, pos := "diff.go:65", after := #[{ on := 2, ground := Ground.data }], guard := none }) (v := .pointer (some ⟨p, 0, none⟩)) rfl (by kernel_rfl) (by kernel_rfl) (by kernel_rfl) (fun _ _ _ h => h) (Or.inl ⟨by rfl, ?_⟩) hHeld ?_
            · (intro w hSw; (try dsimp only at hSw); go_simp)
            try simp only [Act.put, List.setIfInBounds_toArray, List.set_cons_zero, List.set_cons_succ]
            refine wpAnyH_take (i := 4) (oi := { dst := some 26, op := Op.fieldAddr 66 (Operand.tmp 25) 0, type := 0, pos := "diff.go:65", after := #[{ on := 3, ground := Ground.data }], guard := none }) (v := .pointer (some ⟨p, 0, none⟩)) rfl (by kernel_rfl) (by kernel_rfl) (by kernel_rfl) (fun _ _ _ h => h) (Or.inl ⟨by rfl, ?_⟩) hHeld ?_
            · (intro w hSw; (try dsimp only at hSw); go_simp)
            try simp only [Act.put, List.setIfInBounds_toArray, List.set_cons_zero, List.set_cons_succ]
            refine wpAnyH_take (i := 5) (oi := { dst := some 27, op := Op.fieldAddr 51 (Operand.tmp 26) 0, type := 0, pos := "diff.go:65", after := #[{ on := 4, ground := Ground.data }], guard := none }) (v := .pointer (some ⟨p, 0, none⟩)) rfl (by kernel_rfl) (by kernel_rfl) (by kernel_rfl) (fun _ _ _ h => h) (Or.inl ⟨by rfl, ?_⟩) hHeld ?_
            · (intro w hSw; (try dsimp only at hSw); go_simp)
            try simp only [Act.put, List.setIfInBounds_toArray, List.set_cons_zero, List.set_cons_succ]
            refine wpAnyH_take (i := 6) (oi := { dst := some 28, op := Op.load 3 (Operand.tmp 27), type := 3, pos := "diff.go:65", after := #[{ on := 5, ground := Ground.data }], guard := none }) (v := .int .i64 d.id) rfl (by kernel_rfl) (by kernel_rfl) (by kernel_rfl) (fun _ _ _ h => h) (Or.inl ⟨by rfl, ?_⟩) hHeld ?_
            · (intro w hSw; (try dsimp only at hSw); go_simp)
            try simp only [Act.put, List.setIfInBounds_toArray, List.set_cons_zero, List.set_cons_succ]
            refine wpAnyH_take (i := 7) (oi := { dst := some 29, op := Op.binOp BinOp.neq 3 (Operand.tmp 23) (Operand.tmp 28) 3, type := 4, pos := "diff.go:65", after := #[{ on := 1, ground := Ground.data }, { on := 6, ground := Ground.data }], guard := none }) (v := .bool false) rfl (by kernel_rfl) (by kernel_rfl) (by kernel_rfl) (fun _ _ _ h => h) (Or.inl ⟨by rfl, ?_⟩) hHeld ?_
            · (intro w hSw; (try dsimp only at hSw); go_simp)
            try simp only [Act.put, List.setIfInBounds_toArray, List.set_cons_zero, List.set_cons_succ]
            refine wpAnyH_take (i := 8) (oi := { dst := some 30, op := Op.move (Operand.tmp 29), type := 4, pos := "diff.go:65", after := #[{ on := 7, ground := Ground.data }], guard := none }) (v := .bool false) rfl (by kernel_rfl) (by kernel_rfl) (by kernel_rfl) (fun _ _ _ h => h) (Or.inl ⟨by rfl, ?_⟩) hHeld ?_
            · (intro w hSw; (try dsimp only at hSw); go_simp)
            try simp only [Act.put, List.setIfInBounds_toArray, List.set_cons_zero, List.set_cons_succ]
            refine wpAnyH_take (i := 9) (oi := { dst := some 31, op := Op.load 47 (Operand.tmp 6), type := 47, pos := "diff.go:65", after := #[{ on := 8, ground := Ground.guard }], guard := some (8, false) }) (v := .agg #[.int .i64 x.id, .int .i64 x.jb, .int .i64 x.ve, .int .i64 x.gr, .int .i64 x.ix, .int .i64 x.nd, .int .i64 x.ep, .int .i64 x.c, .int .i64 x.m, .bool true, .int .i64 x.st]) rfl (by kernel_rfl) (by kernel_rfl) (by kernel_rfl) (fun _ _ _ h => h) (Or.inl ⟨by rfl, ?_⟩) hHeld ?_
            · (intro w hSw; (try dsimp only at hSw); go_simp)
            try simp only [Act.put, List.setIfInBounds_toArray, List.set_cons_zero, List.set_cons_succ]
            refine wpAnyH_ready (rs := [10]) (by kernel_rfl) (by simp) ?_
            refine AllReadyH.cons (o := { dst := some 32, op := Op.call { callee := Callee.value (Operand.func 33), args := #[Operand.tmp 31], argTypes := #[47] }, type := 4, pos := "diff.go:65", after := #[{ on := 9, ground := Ground.data }, { on := 8, ground := Ground.chain }, { on := 8, ground := Ground.guard }], guard := some (8, false) }) rfl (fun K hK => ?_) AllReadyH.nil
            go_simp
            refine HOV.out.mono ?_
            rintro e w2 ⟨rfl, hb2⟩
            have HY2 := hidOf (HYD.out.trans (hb2.mono HYD.out.size))
            clear hb2
            refine hK.out _ _ ⟨HX.out _ HY2.out 1 _ rfl, (HLA.out.bel HY2.out).rg 0 _ rfl, HX.out _ HY2.out 0 _ rfl, HX.out _ HY2.out 2 _ rfl, HX.out _ HY2.out 3 _ rfl, HX.out _ HY2.out 4 _ rfl, HX.out _ HY2.out 5 _ rfl, HX.out _ HY2.out 6 _ rfl, HX.out _ HY2.out 7 _ rfl, HX.out _ HY2.out 8 _ rfl, HX.out _ HY2.out 9 _ rfl, HX.out _ HY2.out 10 _ rfl⟩ (fun hHeld1 => ?_)
            clear hK K
            try simp only [Act.put, List.setIfInBounds_toArray, List.set_cons_zero, List.set_cons_succ]
            refine wpAnyH_take (i := 11) (oi := { dst := some 33, op := Op.pick (Operand.tmp 30) (Operand.const (Value.bool true)) (Operand.tmp 32), type := 4, pos := "diff.go:65", after := #[{ on := 8, ground := Ground.data }, { on := 10, ground := Ground.data }], guard := none }) (v := .bool false) rfl (by kernel_rfl) (by kernel_rfl) (by kernel_rfl) (fun _ _ _ h => h) (Or.inl ⟨by rfl, ?_⟩) hHeld1 ?_
            · (intro w hSw; (try dsimp only at hSw); go_simp)
            try simp only [Act.put, List.setIfInBounds_toArray, List.set_cons_zero, List.set_cons_succ]
            refine wpAnyH_take (i := 12) (oi := { dst := some 34, op := Op.move (Operand.tmp 33), type := 4, pos := "diff.go:65", after := #[{ on := 11, ground := Ground.data }, { on := 10, ground := Ground.chain }], guard := none }) (v := .bool false) rfl (by kernel_rfl) (by kernel_rfl) (by kernel_rfl) (fun _ _ _ h => h) (Or.inl ⟨by rfl, ?_⟩) hHeld1 ?_
            · (intro w hSw; (try dsimp only at hSw); go_simp)
            try simp only [Act.put, List.setIfInBounds_toArray, List.set_cons_zero, List.set_cons_succ]
            refine wpAnyH_take (i := 13) (oi := { dst := some 35, op := Op.fieldAddr 47 (Operand.tmp 6) 8, type := 0, pos := "diff.go:65", after := #[{ on := 12, ground := Ground.guard }], guard := some (12, false) }) (v := .pointer (some ⟨B, 9, none⟩)) rfl (by kernel_rfl) (by kernel_rfl) (by kernel_rfl) (fun _ _ _ h => h) (Or.inl ⟨by rfl, ?_⟩) hHeld1 ?_
            · (intro w hSw; (try dsimp only at hSw); go_simp)
            try simp only [Act.put, List.setIfInBounds_toArray, List.set_cons_zero, List.set_cons_succ]
            refine wpAnyH_take (i := 14) (oi := { dst := some 36, op := Op.load 4 (Operand.tmp 35), type := 4, pos := "diff.go:65", after := #[{ on := 13, ground := Ground.data }, { on := 12, ground := Ground.guard }], guard := some (12, false) }) (v := .bool true) rfl (by kernel_rfl) (by kernel_rfl) (by kernel_rfl) (fun _ _ _ h => h) (Or.inl ⟨by rfl, ?_⟩) hHeld1 ?_
            · (intro w hSw; (try dsimp only at hSw); go_simp)
            try simp only [Act.put, List.setIfInBounds_toArray, List.set_cons_zero, List.set_cons_succ]
            refine wpAnyH_take (i := 15) (oi := { dst := some 37, op := Op.pick (Operand.tmp 34) (Operand.const (Value.bool true)) (Operand.tmp 36), type := 4, pos := "diff.go:65", after := #[{ on := 12, ground := Ground.data }, { on := 14, ground := Ground.data }], guard := none }) (v := .bool true) rfl (by kernel_rfl) (by kernel_rfl) (by kernel_rfl) (fun _ _ _ h => h) (Or.inl ⟨by rfl, ?_⟩) hHeld1 ?_
            · (intro w hSw; (try dsimp only at hSw); go_simp)
            try simp only [Act.put, List.setIfInBounds_toArray, List.set_cons_zero, List.set_cons_succ]
            refine wpAnyH_done (by kernel_rfl) ?_ _
            go_wp2
            go_roundw
            case rel => exact ⟨k + 1, T, ia, ic, by omega, by simp, hidOf (by rw [HSU.out, if_neg (fun h => by have := h.1; simp [skB, hsp] at this)]), hidOf (HLA.out.bel HY2.out), hidOf (HF.out.trans (HFA.out _ HY2.out))⟩
            case measure => simp [intOf]; omega
          | false =>
            have HSK := hidOf (show skB d x = false by simp [skB, HJ.out, hov, hsp])
            unfold Al.cs at HX
            rw [hsp] at HX HOV
            refine wp_region_held_drew (S := fun (Y : World) => Y.cell? ⟨B, 1, none⟩ = some (.int .i64 x.jb) ∧ Y.cell? ⟨p, 0, none⟩ = some (.int .i64 d.id) ∧ Y.cell? ⟨B, 0, none⟩ = some (.int .i64 x.id) ∧ Y.cell? ⟨B, 2, none⟩ = some (.int .i64 x.ve) ∧ Y.cell? ⟨B, 3, none⟩ = some (.int .i64 x.gr) ∧ Y.cell? ⟨B, 4, none⟩ = some (.int .i64 x.ix) ∧ Y.cell? ⟨B, 5, none⟩ = some (.int .i64 x.nd) ∧ Y.cell? ⟨B, 6, none⟩ = some (.int .i64 x.ep) ∧ Y.cell? ⟨B, 7, none⟩ = some (.int .i64 x.c) ∧ Y.cell? ⟨B, 8, none⟩ = some (.int .i64 x.m) ∧ Y.cell? ⟨B, 9, none⟩ = some (.bool false) ∧ Y.cell? ⟨B, 10, none⟩ = some (.int .i64 x.st)) (by kernel_rfl) ⟨HX.out _ HYA.out 1 _ rfl, (HLA.out.bel HYA.out).rg 0 _ rfl, HX.out _ HYA.out 0 _ rfl, HX.out _ HYA.out 2 _ rfl, HX.out _ HYA.out 3 _ rfl, HX.out _ HYA.out 4 _ rfl, HX.out _ HYA.out 5 _ rfl, HX.out _ HYA.out 6 _ rfl, HX.out _ HYA.out 7 _ rfl, HX.out _ HYA.out 8 _ rfl, HX.out _ HYA.out 9 _ rfl, HX.out _ HYA.out 10 _ rfl⟩ (fun hHeld => ?_)
            refine wpAnyH_take (i := 0) (oi := { dst := some 22, op := Op.fieldAddr 47 (Operand.tmp 6) 1, type := 0, pos := "diff.go:65", after := #[], guard := none }) (v := .pointer (some ⟨B, 1, none⟩)) rfl (by kernel_rfl) (by kernel_rfl) (by kernel_rfl) (fun _ _ _ h => h) (Or.inl ⟨by rfl, ?_⟩) hHeld ?_
            · (intro w hSw; (try dsimp only at hSw); go_simp)
            try simp only [Act.put, List.setIfInBounds_toArray, List.set_cons_zero, List.set_cons_succ]
            refine wpAnyH_take (i := 1) (oi := { dst := some 23, op := Op.load 3 (Operand.tmp 22), type := 3, pos := "diff.go:65", after := #[{ on := 0, ground := Ground.data }], guard := none }) (v := .int .i64 x.jb) rfl (by kernel_rfl) (by kernel_rfl) (by kernel_rfl) (fun _ _ _ h => h) (Or.inl ⟨by rfl, ?_⟩) hHeld ?_
            · (intro w hSw; (try dsimp only at hSw); go_simp)
            try simp only [Act.put, List.setIfInBounds_toArray, List.set_cons_zero, List.set_cons_succ]
            refine wpAnyH_take (i := 2) (oi := { dst := some 24, op := Op.move (Operand.tmp 0), type := 58, pos := "diff.go:65", after := #[], guard := none }) (v := .pointer (some ⟨p, 0, none⟩)) rfl (by kernel_rfl) (by kernel_rfl) (by kernel_rfl) (fun _ _ _ h => h) (Or.inl ⟨by rfl, ?_⟩) hHeld ?_
            · (intro w hSw; (try dsimp only at hSw); go_simp)
            try simp only [Act.put, List.setIfInBounds_toArray, List.set_cons_zero, List.set_cons_succ]
            refine wpAnyH_take (i := 3) (oi := { dst := some 25, op := Op.nilCheck (Operand.tmp 24), type := 0, pos := "diff.go:65", after := #[{ on := 2, ground := Ground.data }], guard := none }) (v := .pointer (some ⟨p, 0, none⟩)) rfl (by kernel_rfl) (by kernel_rfl) (by kernel_rfl) (fun _ _ _ h => h) (Or.inl ⟨by rfl, ?_⟩) hHeld ?_
            · (intro w hSw; (try dsimp only at hSw); go_simp)
            try simp only [Act.put, List.setIfInBounds_toArray, List.set_cons_zero, List.set_cons_succ]
            refine wpAnyH_take (i := 4) (oi := { dst := some 26, op := Op.fieldAddr 66 (Operand.tmp 25) 0, type := 0, pos := "diff.go:65", after := #[{ on := 3, ground := Ground.data }], guard := none }) (v := .pointer (some ⟨p, 0, none⟩)) rfl (by kernel_rfl) (by kernel_rfl) (by kernel_rfl) (fun _ _ _ h => h) (Or.inl ⟨by rfl, ?_⟩) hHeld ?_
            · (intro w hSw; (try dsimp only at hSw); go_simp)
            try simp only [Act.put, List.setIfInBounds_toArray, List.set_cons_zero, List.set_cons_succ]
            refine wpAnyH_take (i := 5) (oi := { dst := some 27, op := Op.fieldAddr 51 (Operand.tmp 26) 0, type := 0, pos := "diff.go:65", after := #[{ on := 4, ground := Ground.data }], guard := none }) (v := .pointer (some ⟨p, 0, none⟩)) rfl (by kernel_rfl) (by kernel_rfl) (by kernel_rfl) (fun _ _ _ h => h) (Or.inl ⟨by rfl, ?_⟩) hHeld ?_
            · (intro w hSw; (try dsimp only at hSw); go_simp)
            try simp only [Act.put, List.setIfInBounds_toArray, List.set_cons_zero, List.set_cons_succ]
            refine wpAnyH_take (i := 6) (oi := { dst := some 28, op := Op.load 3 (Operand.tmp 27), type := 3, pos := "diff.go:65", after := #[{ on := 5, ground := Ground.data }], guard := none }) (v := .int .i64 d.id) rfl (by kernel_rfl) (by kernel_rfl) (by kernel_rfl) (fun _ _ _ h => h) (Or.inl ⟨by rfl, ?_⟩) hHeld ?_
            · (intro w hSw; (try dsimp only at hSw); go_simp)
            try simp only [Act.put, List.setIfInBounds_toArray, List.set_cons_zero, List.set_cons_succ]
            refine wpAnyH_take (i := 7) (oi := { dst := some 29, op := Op.binOp BinOp.neq 3 (Operand.tmp 23) (Operand.tmp 28) 3, type := 4, pos := "diff.go:65", after := #[{ on := 1, ground := Ground.data }, { on := 6, ground := Ground.data }], guard := none }) (v := .bool false) rfl (by kernel_rfl) (by kernel_rfl) (by kernel_rfl) (fun _ _ _ h => h) (Or.inl ⟨by rfl, ?_⟩) hHeld ?_
            · (intro w hSw; (try dsimp only at hSw); go_simp)
            try simp only [Act.put, List.setIfInBounds_toArray, List.set_cons_zero, List.set_cons_succ]
            refine wpAnyH_take (i := 8) (oi := { dst := some 30, op := Op.move (Operand.tmp 29), type := 4, pos := "diff.go:65", after := #[{ on := 7, ground := Ground.data }], guard := none }) (v := .bool false) rfl (by kernel_rfl) (by kernel_rfl) (by kernel_rfl) (fun _ _ _ h => h) (Or.inl ⟨by rfl, ?_⟩) hHeld ?_
            · (intro w hSw; (try dsimp only at hSw); go_simp)
            try simp only [Act.put, List.setIfInBounds_toArray, List.set_cons_zero, List.set_cons_succ]
            refine wpAnyH_take (i := 9) (oi := { dst := some 31, op := Op.load 47 (Operand.tmp 6), type := 47, pos := "diff.go:65", after := #[{ on := 8, ground := Ground.guard }], guard := some (8, false) }) (v := .agg #[.int .i64 x.id, .int .i64 x.jb, .int .i64 x.ve, .int .i64 x.gr, .int .i64 x.ix, .int .i64 x.nd, .int .i64 x.ep, .int .i64 x.c, .int .i64 x.m, .bool false, .int .i64 x.st]) rfl (by kernel_rfl) (by kernel_rfl) (by kernel_rfl) (fun _ _ _ h => h) (Or.inl ⟨by rfl, ?_⟩) hHeld ?_
            · (intro w hSw; (try dsimp only at hSw); go_simp)
            try simp only [Act.put, List.setIfInBounds_toArray, List.set_cons_zero, List.set_cons_succ]
            refine wpAnyH_ready (rs := [10]) (by kernel_rfl) (by simp) ?_
            refine AllReadyH.cons (o := { dst := some 32, op := Op.call { callee := Callee.value (Operand.func 33), args := #[Operand.tmp 31], argTypes := #[47] }, type := 4, pos := "diff.go:65", after := #[{ on := 9, ground := Ground.data }, { on := 8, ground := Ground.chain }, { on := 8, ground := Ground.guard }], guard := some (8, false) }) rfl (fun K hK => ?_) AllReadyH.nil
            go_simp
            refine HOV.out.mono ?_
            rintro e w2 ⟨rfl, hb2⟩
            have HY2 := hidOf (HYD.out.trans (hb2.mono HYD.out.size))
            clear hb2
            refine hK.out _ _ ⟨HX.out _ HY2.out 1 _ rfl, (HLA.out.bel HY2.out).rg 0 _ rfl, HX.out _ HY2.out 0 _ rfl, HX.out _ HY2.out 2 _ rfl, HX.out _ HY2.out 3 _ rfl, HX.out _ HY2.out 4 _ rfl, HX.out _ HY2.out 5 _ rfl, HX.out _ HY2.out 6 _ rfl, HX.out _ HY2.out 7 _ rfl, HX.out _ HY2.out 8 _ rfl, HX.out _ HY2.out 9 _ rfl, HX.out _ HY2.out 10 _ rfl⟩ (fun hHeld1 => ?_)
            clear hK K
            try simp only [Act.put, List.setIfInBounds_toArray, List.set_cons_zero, List.set_cons_succ]
            refine wpAnyH_take (i := 11) (oi := { dst := some 33, op := Op.pick (Operand.tmp 30) (Operand.const (Value.bool true)) (Operand.tmp 32), type := 4, pos := "diff.go:65", after := #[{ on := 8, ground := Ground.data }, { on := 10, ground := Ground.data }], guard := none }) (v := .bool false) rfl (by kernel_rfl) (by kernel_rfl) (by kernel_rfl) (fun _ _ _ h => h) (Or.inl ⟨by rfl, ?_⟩) hHeld1 ?_
            · (intro w hSw; (try dsimp only at hSw); go_simp)
            try simp only [Act.put, List.setIfInBounds_toArray, List.set_cons_zero, List.set_cons_succ]
            refine wpAnyH_take (i := 12) (oi := { dst := some 34, op := Op.move (Operand.tmp 33), type := 4, pos := "diff.go:65", after := #[{ on := 11, ground := Ground.data }, { on := 10, ground := Ground.chain }], guard := none }) (v := .bool false) rfl (by kernel_rfl) (by kernel_rfl) (by kernel_rfl) (fun _ _ _ h => h) (Or.inl ⟨by rfl, ?_⟩) hHeld1 ?_
            · (intro w hSw; (try dsimp only at hSw); go_simp)
            try simp only [Act.put, List.setIfInBounds_toArray, List.set_cons_zero, List.set_cons_succ]
            refine wpAnyH_take (i := 13) (oi := { dst := some 35, op := Op.fieldAddr 47 (Operand.tmp 6) 8, type := 0, pos := "diff.go:65", after := #[{ on := 12, ground := Ground.guard }], guard := some (12, false) }) (v := .pointer (some ⟨B, 9, none⟩)) rfl (by kernel_rfl) (by kernel_rfl) (by kernel_rfl) (fun _ _ _ h => h) (Or.inl ⟨by rfl, ?_⟩) hHeld1 ?_
            · (intro w hSw; (try dsimp only at hSw); go_simp)
            try simp only [Act.put, List.setIfInBounds_toArray, List.set_cons_zero, List.set_cons_succ]
            refine wpAnyH_take (i := 14) (oi := { dst := some 36, op := Op.load 4 (Operand.tmp 35), type := 4, pos := "diff.go:65", after := #[{ on := 13, ground := Ground.data }, { on := 12, ground := Ground.guard }], guard := some (12, false) }) (v := .bool false) rfl (by kernel_rfl) (by kernel_rfl) (by kernel_rfl) (fun _ _ _ h => h) (Or.inl ⟨by rfl, ?_⟩) hHeld1 ?_
            · (intro w hSw; (try dsimp only at hSw); go_simp)
            try simp only [Act.put, List.setIfInBounds_toArray, List.set_cons_zero, List.set_cons_succ]
            refine wpAnyH_take (i := 15) (oi := { dst := some 37, op := Op.pick (Operand.tmp 34) (Operand.const (Value.bool true)) (Operand.tmp 36), type := 4, pos := "diff.go:65", after := #[{ on := 12, ground := Ground.data }, { on := 14, ground := Ground.data }], guard := none }) (v := .bool false) rfl (by kernel_rfl) (by kernel_rfl) (by kernel_rfl) (fun _ _ _ h => h) (Or.inl ⟨by rfl, ?_⟩) hHeld1 ?_
            · (intro w hSw; (try dsimp only at hSw); go_simp)
            try simp only [Act.put, List.setIfInBounds_toArray, List.set_cons_zero, List.set_cons_succ]
            refine wpAnyH_done (by kernel_rfl) ?_ _
            have HSO := hidOf (slotOf_any x w2.drew)
            rw [hsp] at HSO
            have HY2D := hidOf (HY2.out.trans ((bdrew w2).mono HY2.out.size))
            go_upto_region 5 with (fail)
            by_cases hwn : (x.gr, x.ix) ∈ S
            · skip
              have HWN := hidOf hwn
              obtain ⟨hv, hhv⟩ : ∃ hv, (if (x.gr, x.ix) ∈ S then fiK (slB d.id x.gr x.ix) A A.length else 0) = hv := ⟨_, rfl⟩
              have HLK : Hid (∀ Y, MpR Y hb kS (hoK d.id S A A.length) → (Instr.lookup 63 (.map (some hb)) (.agg #[.int .i64 x.gr, .int .i64 x.ix]) true).run Try.prog Y = .ok (.tuple #[.int .i64 hv, .bool true]) Y) := hidOf fun Y h => by
                have hlk := hoK_look h x.gr x.ix true
                rw [if_pos rfl, hhv, decide_eq_true hwn] at hlk
                exact hlk
              clear hwn hhv
              refine wp_region_held_drew (S := fun (Y : World) => Y.cell? ⟨p, 9, none⟩ = some (.map (some hb)) ∧ Y.cell? ⟨B, 0, none⟩ = some (.int .i64 x.id) ∧ Y.cell? ⟨B, 1, none⟩ = some (.int .i64 x.jb) ∧ Y.cell? ⟨B, 2, none⟩ = some (.int .i64 x.ve) ∧ Y.cell? ⟨B, 3, none⟩ = some (.int .i64 x.gr) ∧ Y.cell? ⟨B, 4, none⟩ = some (.int .i64 x.ix) ∧ Y.cell? ⟨B, 5, none⟩ = some (.int .i64 x.nd) ∧ Y.cell? ⟨B, 6, none⟩ = some (.int .i64 x.ep) ∧ Y.cell? ⟨B, 7, none⟩ = some (.int .i64 x.c) ∧ Y.cell? ⟨B, 8, none⟩ = some (.int .i64 x.m) ∧ Y.cell? ⟨B, 9, none⟩ = some (.bool false) ∧ Y.cell? ⟨B, 10, none⟩ = some (.int .i64 x.st) ∧ MpR Y hb kS (hoK d.id S A A.length)) (by kernel_rfl) ⟨(HLA.out.bel HY2.out).rg 9 _ rfl, HX.out _ HY2.out 0 _ rfl, HX.out _ HY2.out 1 _ rfl, HX.out _ HY2.out 2 _ rfl, HX.out _ HY2.out 3 _ rfl, HX.out _ HY2.out 4 _ rfl, HX.out _ HY2.out 5 _ rfl, HX.out _ HY2.out 6 _ rfl, HX.out _ HY2.out 7 _ rfl, HX.out _ HY2.out 8 _ rfl, HX.out _ HY2.out 9 _ rfl, HX.out _ HY2.out 10 _ rfl, (HLA.out.bel HY2.out).ho⟩ (fun hHeld => ?_)
              refine wpAnyH_take (i := 0) (oi := { dst := some 39, op := Op.move (Operand.tmp 0), type := 58, pos := "diff.go:68", after := #[], guard := none }) (v := .pointer (some ⟨p, 0, none⟩)) rfl (by kernel_rfl) (by kernel_rfl) (by kernel_rfl) (fun _ _ _ h => h) (Or.inl ⟨by rfl, ?_⟩) hHeld ?_
              · (intro w hSw; (try dsimp only at hSw); go_simp)
              try simp only [Act.put, List.setIfInBounds_toArray, List.set_cons_zero, List.set_cons_succ]
              refine wpAnyH_take (i := 1) (oi := { dst := some 40, op := Op.nilCheck (Operand.tmp 39), type := 0, pos := "diff.go:68", after := #[{ on := 0, ground := Ground.data }], guard := none }) (v := .pointer (some ⟨p, 0, none⟩)) rfl (by kernel_rfl) (by kernel_rfl) (by kernel_rfl) (fun _ _ _ h => h) (Or.inl ⟨by rfl, ?_⟩) hHeld ?_
              · (intro w hSw; (try dsimp only at hSw); go_simp)
              try simp only [Act.put, List.setIfInBounds_toArray, List.set_cons_zero, List.set_cons_succ]
              refine wpAnyH_take (i := 2) (oi := { dst := some 41, op := Op.fieldAddr 66 (Operand.tmp 40) 3, type := 0, pos := "diff.go:68", after := #[{ on := 1, ground := Ground.data }], guard := none }) (v := .pointer (some ⟨p, 9, none⟩)) rfl (by kernel_rfl) (by kernel_rfl) (by kernel_rfl) (fun _ _ _ h => h) (Or.inl ⟨by rfl, ?_⟩) hHeld ?_
              · (intro w hSw; (try dsimp only at hSw); go_simp)
              try simp only [Act.put, List.setIfInBounds_toArray, List.set_cons_zero, List.set_cons_succ]
              refine wpAnyH_take (i := 3) (oi := { dst := some 42, op := Op.load 63 (Operand.tmp 41), type := 63, pos := "diff.go:68", after := #[{ on := 2, ground := Ground.data }], guard := none }) (v := .map (some hb)) rfl (by kernel_rfl) (by kernel_rfl) (by kernel_rfl) (fun _ _ _ h => h) (Or.inl ⟨by rfl, ?_⟩) hHeld ?_
              · (intro w hSw; (try dsimp only at hSw); go_simp)
              try simp only [Act.put, List.setIfInBounds_toArray, List.set_cons_zero, List.set_cons_succ]
              refine wpAnyH_take (i := 4) (oi := { dst := some 43, op := Op.load 47 (Operand.tmp 6), type := 47, pos := "diff.go:68", after := #[], guard := none }) (v := .agg #[.int .i64 x.id, .int .i64 x.jb, .int .i64 x.ve, .int .i64 x.gr, .int .i64 x.ix, .int .i64 x.nd, .int .i64 x.ep, .int .i64 x.c, .int .i64 x.m, .bool false, .int .i64 x.st]) rfl (by kernel_rfl) (by kernel_rfl) (by kernel_rfl) (fun _ _ _ h => h) (Or.inl ⟨by rfl, ?_⟩) hHeld ?_
              · (intro w hSw; (try dsimp only at hSw); go_simp)
              try simp only [Act.put, List.setIfInBounds_toArray, List.set_cons_zero, List.set_cons_succ]
              refine wpAnyH_ready (rs := [5]) (by kernel_rfl) (by simp) ?_
              refine AllReadyH.cons (o := { dst := some 44, op := Op.call { callee := Callee.value (Operand.func 34), args := #[Operand.tmp 43], argTypes := #[47] }, type := 39, pos := "diff.go:68", after := #[{ on := 4, ground := Ground.data }], guard := none }) rfl (fun K hK => ?_) AllReadyH.nil
              go_simp
              refine HSO.out.mono ?_
              rintro e w3 ⟨rfl, hb3⟩
              have HY3 := hidOf (HY2D.out.trans (hb3.mono HY2D.out.size))
              clear hb3
              refine hK.out _ _ ⟨(HLA.out.bel HY3.out).rg 9 _ rfl, HX.out _ HY3.out 0 _ rfl, HX.out _ HY3.out 1 _ rfl, HX.out _ HY3.out 2 _ rfl, HX.out _ HY3.out 3 _ rfl, HX.out _ HY3.out 4 _ rfl, HX.out _ HY3.out 5 _ rfl, HX.out _ HY3.out 6 _ rfl, HX.out _ HY3.out 7 _ rfl, HX.out _ HY3.out 8 _ rfl, HX.out _ HY3.out 9 _ rfl, HX.out _ HY3.out 10 _ rfl, (HLA.out.bel HY3.out).ho⟩ (fun hHeld1 => ?_)
              clear hK K
              try simp only [Act.put, List.setIfInBounds_toArray, List.set_cons_zero, List.set_cons_succ]
              refine wpAnyH_take (i := 6) (oi := { dst := some 45, op := Op.lookup 63 (Operand.tmp 42) (Operand.tmp 44) true, type := 85, pos := "diff.go:68", after := #[{ on := 3, ground := Ground.data }, { on := 5, ground := Ground.data }], guard := none }) (v := .tuple #[.int .i64 hv, .bool true]) rfl (by kernel_rfl) (by kernel_rfl) (by kernel_rfl) (fun _ _ _ h => h) (Or.inl ⟨by rfl, ?_⟩) hHeld1 ?_
              · (intro Y hSw; have hlk := HLK.out Y hSw.2.2.2.2.2.2.2.2.2.2.2.2; clear hSw; go_simp)
              try simp only [Act.put, List.setIfInBounds_toArray, List.set_cons_zero, List.set_cons_succ]
              refine wpAnyH_take (i := 7) (oi := { dst := some 38, op := Op.move (Operand.tmp 45), type := 85, pos := "diff.go:68", after := #[{ on := 6, ground := Ground.data }], guard := none }) (v := .tuple #[.int .i64 hv, .bool true]) rfl (by kernel_rfl) (by kernel_rfl) (by kernel_rfl) (fun _ _ _ h => h) (Or.inl ⟨by rfl, ?_⟩) hHeld1 ?_
              · (intro w hSw; (try dsimp only at hSw); go_simp)
              try simp only [Act.put, List.setIfInBounds_toArray, List.set_cons_zero, List.set_cons_succ]
              refine wpAnyH_take (i := 8) (oi := { dst := some 46, op := Op.extract (Operand.tmp 38) 0, type := 3, pos := "diff.go:68", after := #[{ on := 7, ground := Ground.data }], guard := none }) (v := .int .i64 hv) rfl (by kernel_rfl) (by kernel_rfl) (by kernel_rfl) (fun _ _ _ h => h) (Or.inl ⟨by rfl, ?_⟩) hHeld1 ?_
              · (intro w hSw; (try dsimp only at hSw); go_simp)
              try simp only [Act.put, List.setIfInBounds_toArray, List.set_cons_zero, List.set_cons_succ]
              refine wpAnyH_take (i := 9) (oi := { dst := some 47, op := Op.extract (Operand.tmp 38) 1, type := 4, pos := "diff.go:68", after := #[{ on := 7, ground := Ground.data }, { on := 10, ground := Ground.gcOnly Departure.lateStores }], guard := none }) (v := .bool true) rfl (by kernel_rfl) (by kernel_rfl) (by kernel_rfl) (fun _ _ _ h => h) (Or.inl ⟨by rfl, ?_⟩) hHeld1 ?_
              · (intro w hSw; (try dsimp only at hSw); go_simp)
              try simp only [Act.put, List.setIfInBounds_toArray, List.set_cons_zero, List.set_cons_succ]
              refine wpAnyH_take (i := 10) (oi := { dst := some 7, op := Op.assign (Operand.tmp 46), type := 3, pos := "diff.go:68", after := #[{ on := 8, ground := Ground.data }, { on := 5, ground := Ground.chain }, { on := 0, ground := Ground.phase }, { on := 1, ground := Ground.phase }, { on := 2, ground := Ground.phase }, { on := 3, ground := Ground.phase }, { on := 4, ground := Ground.phase }, { on := 5, ground := Ground.phase }, { on := 6, ground := Ground.phase }, { on := 7, ground := Ground.phase }, { on := 8, ground := Ground.phase }, { on := 9, ground := Ground.textOnly Departure.lateStores }], guard := none }) (v := .int .i64 hv) rfl (by kernel_rfl) (by kernel_rfl) (by kernel_rfl) (fun _ _ _ h => h) (Or.inl ⟨by rfl, ?_⟩) hHeld1 ?_
              · (intro w hSw; (try dsimp only at hSw); go_simp)
              try simp only [Act.put, List.setIfInBounds_toArray, List.set_cons_zero, List.set_cons_succ]
              refine wpAnyH_take (i := 11) (oi := { dst := some 8, op := Op.assign (Operand.tmp 47), type := 4, pos := "diff.go:68", after := #[{ on := 9, ground := Ground.data }, { on := 10, ground := Ground.chain }, { on := 0, ground := Ground.phase }, { on := 1, ground := Ground.phase }, { on := 2, ground := Ground.phase }, { on := 3, ground := Ground.phase }, { on := 4, ground := Ground.phase }, { on := 5, ground := Ground.phase }, { on := 6, ground := Ground.phase }, { on := 7, ground := Ground.phase }, { on := 8, ground := Ground.phase }, { on := 9, ground := Ground.phase }, { on := 10, ground := Ground.phase }], guard := none }) (v := .bool true) rfl (by kernel_rfl) (by kernel_rfl) (by kernel_rfl) (fun _ _ _ h => h) (Or.inl ⟨by rfl, ?_⟩) hHeld1 ?_
              · (intro w hSw; (try dsimp only at hSw); go_simp)
              try simp only [Act.put, List.setIfInBounds_toArray, List.set_cons_zero, List.set_cons_succ]
              refine wpAnyH_done (by kernel_rfl) ?_ _
              have HY3D := hidOf (HY3.out.trans ((bdrew w3).mono HY3.out.size))
              go_upto_region 6 with (fail)
              by_cases hty : d.ty = 1
              · have hq : (d.ty != 1) = false := by simp [hty]
                have HTY := hidOf hty
                clear hty
                refine wp_region_held_drew (S := fun (Y : World) => Y.cell? ⟨p, 1, none⟩ = some (.int .i64 d.ty)) (by kernel_rfl) ((HLA.out.bel HY3.out).rg 1 _ rfl) (fun hHeld => ?_)
                refine wpAnyH_take (i := 0) (oi := { dst := some 48, op := Op.move (Operand.tmp 0), type := 58, pos := "diff.go:69", after := #[], guard := none }) (v := .pointer (some ⟨p, 0, none⟩)) rfl (by kernel_rfl) (by kernel_rfl) (by kernel_rfl) (fun _ _ _ h => h) (Or.inl ⟨by rfl, ?_⟩) hHeld ?_
                · (intro w hSw; (try dsimp only at hSw); go_simp)
                try simp only [Act.put, List.setIfInBounds_toArray, List.set_cons_zero, List.set_cons_succ]
                refine wpAnyH_take (i := 1) (oi := { dst := some 49, op := Op.nilCheck (Operand.tmp 48), type := 0, pos := "diff.go:69", after := #[{ on := 0, ground := Ground.data }], guard := none }) (v := .pointer (some ⟨p, 0, none⟩)) rfl (by kernel_rfl) (by kernel_rfl) (by kernel_rfl) (fun _ _ _ h => h) (Or.inl ⟨by rfl, ?_⟩) hHeld ?_
                · (intro w hSw; (try dsimp only at hSw); go_simp)
                try simp only [Act.put, List.setIfInBounds_toArray, List.set_cons_zero, List.set_cons_succ]
                refine wpAnyH_take (i := 2) (oi := { dst := some 50, op := Op.fieldAddr 66 (Operand.tmp 49) 0, type := 0, pos := "diff.go:69", after := #[{ on := 1, ground := Ground.data }], guard := none }) (v := .pointer (some ⟨p, 0, none⟩)) rfl (by kernel_rfl) (by kernel_rfl) (by kernel_rfl) (fun _ _ _ h => h) (Or.inl ⟨by rfl, ?_⟩) hHeld ?_
                · (intro w hSw; (try dsimp only at hSw); go_simp)
                try simp only [Act.put, List.setIfInBounds_toArray, List.set_cons_zero, List.set_cons_succ]
                refine wpAnyH_take (i := 3) (oi := { dst := some 51, op := Op.fieldAddr 51 (Operand.tmp 50) 1, type := 0, pos := "diff.go:69", after := #[{ on := 2, ground := Ground.data }], guard := none }) (v := .pointer (some ⟨p, 1, none⟩)) rfl (by kernel_rfl) (by kernel_rfl) (by kernel_rfl) (fun _ _ _ h => h) (Or.inl ⟨by rfl, ?_⟩) hHeld ?_
                · (intro w hSw; (try dsimp only at hSw); go_simp)
                try simp only [Act.put, List.setIfInBounds_toArray, List.set_cons_zero, List.set_cons_succ]
                refine wpAnyH_take (i := 4) (oi := { dst := some 52, op := Op.load 3 (Operand.tmp 51), type := 3, pos := "diff.go:69", after := #[{ on := 3, ground := Ground.data }], guard := none }) (v := .int .i64 d.ty) rfl (by kernel_rfl) (by kernel_rfl) (by kernel_rfl) (fun _ _ _ h => h) (Or.inl ⟨by rfl, ?_⟩) hHeld ?_
                · (intro w hSw; (try dsimp only at hSw); go_simp)
                try simp only [Act.put, List.setIfInBounds_toArray, List.set_cons_zero, List.set_cons_succ]
                refine wpAnyH_take (i := 5) (oi := { dst := some 53, op := Op.binOp BinOp.neq 3 (Operand.tmp 52) (Operand.const (Value.int IntKind.i64 1)) 3, type := 4, pos := "diff.go:69", after := #[{ on := 4, ground := Ground.data }], guard := none }) (v := .bool false) rfl (by kernel_rfl) (by kernel_rfl) (by kernel_rfl) (fun _ _ _ h => h) (Or.inl ⟨by rfl, ?_⟩) hHeld ?_
                · (intro w hSw; (try dsimp only at hSw); go_simp)
                try simp only [Act.put, List.setIfInBounds_toArray, List.set_cons_zero, List.set_cons_succ]
                refine wpAnyH_take (i := 6) (oi := { dst := some 54, op := Op.move (Operand.tmp 53), type := 4, pos := "diff.go:69", after := #[{ on := 5, ground := Ground.data }], guard := none }) (v := .bool false) rfl (by kernel_rfl) (by kernel_rfl) (by kernel_rfl) (fun _ _ _ h => h) (Or.inl ⟨by rfl, ?_⟩) hHeld ?_
                · (intro w hSw; (try dsimp only at hSw); go_simp)
                try simp only [Act.put, List.setIfInBounds_toArray, List.set_cons_zero, List.set_cons_succ]
                refine wpAnyH_take (i := 7) (oi := { dst := some 55, op := Op.fieldAddr 47 (Operand.tmp 6) 2, type := 0, pos := "diff.go:69", after := #[{ on := 6, ground := Ground.guard }], guard := some (6, true) }) (v := undef) rfl (by kernel_rfl) (by kernel_rfl) (by kernel_rfl) (fun _ _ _ h => h) (Or.inr ⟨by rfl, rfl⟩) hHeld ?_
                try simp only [Act.put, List.setIfInBounds_toArray, List.set_cons_zero, List.set_cons_succ]
                refine wpAnyH_take (i := 8) (oi := { dst := some 56, op := Op.load 3 (Operand.tmp 55), type := 3, pos := "diff.go:69", after := #[{ on := 7, ground := Ground.data }, { on := 6, ground := Ground.guard }], guard := some (6, true) }) (v := undef) rfl (by kernel_rfl) (by kernel_rfl) (by kernel_rfl) (fun _ _ _ h => h) (Or.inr ⟨by rfl, rfl⟩) hHeld ?_
                try simp only [Act.put, List.setIfInBounds_toArray, List.set_cons_zero, List.set_cons_succ]
                refine wpAnyH_take (i := 9) (oi := { dst := some 57, op := Op.move (Operand.tmp 0), type := 58, pos := "diff.go:69", after := #[{ on := 6, ground := Ground.guard }], guard := some (6, true) }) (v := undef) rfl (by kernel_rfl) (by kernel_rfl) (by kernel_rfl) (fun _ _ _ h => h) (Or.inr ⟨by rfl, rfl⟩) hHeld ?_
                try simp only [Act.put, List.setIfInBounds_toArray, List.set_cons_zero, List.set_cons_succ]
                refine wpAnyH_take (i := 10) (oi := { dst := some 58, op := Op.nilCheck (Operand.tmp 57), type := 0, pos := "diff.go:69", after := #[{ on := 9, ground := Ground.data }, { on := 6, ground := Ground.guard }], guard := some (6, true) }) (v := undef) rfl (by kernel_rfl) (by kernel_rfl) (by kernel_rfl) (fun _ _ _ h => h) (Or.inr ⟨by rfl, rfl⟩) hHeld ?_
                try simp only [Act.put, List.setIfInBounds_toArray, List.set_cons_zero, List.set_cons_succ]
                refine wpAnyH_take (i := 11) (oi := { dst := some 59, op := Op.fieldAddr 66 (Operand.tmp 58) 0, type := 0, pos := "diff.go:69", after := #[{ on := 10, ground := Ground.data }, { on := 6, ground := Ground.guard }], guard := some (6, true) }) (v := undef) rfl (by kernel_rfl) (by kernel_rfl) (by kernel_rfl) (fun _ _ _ h => h) (Or.inr ⟨by rfl, rfl⟩) hHeld ?_
                try simp only [Act.put, List.setIfInBounds_toArray, List.set_cons_zero, List.set_cons_succ]
                refine wpAnyH_take (i := 12) (oi := { dst := some 60, op := Op.fieldAddr 51 (Operand.tmp 59) 5, type := 0, pos := "diff.go:69", after := #[{ on := 11, ground := Ground.data }, { on := 6, ground := Ground.guard }], guard := some (6, true) }) (v := undef) rfl (by kernel_rfl) (by kernel_rfl) (by kernel_rfl) (fun _ _ _ h => h) (Or.inr ⟨by rfl, rfl⟩) hHeld ?_
                try simp only [Act.put, List.setIfInBounds_toArray, List.set_cons_zero, List.set_cons_succ]
                refine wpAnyH_take (i := 13) (oi := { dst := some 61, op := Op.load 3 (Operand.tmp 60), type := 3, pos := "diff.go:69", after := #[{ on := 12, ground := Ground.data }, { on := 6, ground := Ground.guard }], guard := some (6, true) }) (v := undef) rfl (by kernel_rfl) (by kernel_rfl) (by kernel_rfl) (fun _ _ _ h => h) (Or.inr ⟨by rfl, rfl⟩) hHeld ?_
                try simp only [Act.put, List.setIfInBounds_toArray, List.set_cons_zero, List.set_cons_succ]
                refine wpAnyH_take (i := 14) (oi := { dst := some 62, op := Op.binOp BinOp.neq 3 (Operand.tmp 56) (Operand.tmp 61) 3, type := 4, pos := "diff.go:69", after := #[{ on := 8, ground := Ground.data }, { on := 13, ground := Ground.data }, { on := 6, ground := Ground.guard }], guard := some (6, true) }) (v := undef) rfl (by kernel_rfl) (by kernel_rfl) (by kernel_rfl) (fun _ _ _ h => h) (Or.inr ⟨by rfl, rfl⟩) hHeld ?_
                try simp only [Act.put, List.setIfInBounds_toArray, List.set_cons_zero, List.set_cons_succ]
                refine wpAnyH_take (i := 15) (oi := { dst := some 63, op := Op.pick (Operand.tmp 54) (Operand.tmp 62) (Operand.const (Value.bool false)), type := 4, pos := "diff.go:69", after := #[{ on := 6, ground := Ground.data }, { on := 14, ground := Ground.data }], guard := none }) (v := .bool false) rfl (by kernel_rfl) (by kernel_rfl) (by kernel_rfl) (fun _ _ _ h => h) (Or.inl ⟨by rfl, ?_⟩) hHeld ?_
                · (intro w hSw; (try dsimp only at hSw); go_simp)
                try simp only [Act.put, List.setIfInBounds_toArray, List.set_cons_zero, List.set_cons_succ]
                refine wpAnyH_take (i := 16) (oi := { dst := some 9, op := Op.assign (Operand.tmp 63), type := 4, pos := "diff.go:69", after := #[{ on := 15, ground := Ground.data }, { on := 6, ground := Ground.chain }, { on := 0, ground := Ground.phase }, { on := 1, ground := Ground.phase }, { on := 2, ground := Ground.phase }, { on := 3, ground := Ground.phase }, { on := 4, ground := Ground.phase }, { on := 5, ground := Ground.phase }, { on := 6, ground := Ground.phase }, { on := 7, ground := Ground.phase }, { on := 8, ground := Ground.phase }, { on := 9, ground := Ground.phase }, { on := 10, ground := Ground.phase }, { on := 11, ground := Ground.phase }, { on := 12, ground := Ground.phase }, { on := 13, ground := Ground.phase }, { on := 14, ground := Ground.phase }, { on := 15, ground := Ground.phase }], guard := none }) (v := .bool false) rfl (by kernel_rfl) (by kernel_rfl) (by kernel_rfl) (fun _ _ _ h => h) (Or.inl ⟨by rfl, ?_⟩) hHeld ?_
                · (intro w hSw; (try dsimp only at hSw); go_simp)
                try simp only [Act.put, List.setIfInBounds_toArray, List.set_cons_zero, List.set_cons_succ]
                refine wpAnyH_done (by kernel_rfl) ?_ _
                obtain ⟨w5, hw5⟩ : ∃ w5, w3.drew = w5 := ⟨_, rfl⟩
                have HY5 : Hid (Below wA.heap.size wA w5) := hidOf (by rw [← hw5]; exact HY3D.out)
                rw [hw5]
                clear hw5
                have e5 : w5.cell? ⟨B, 5, none⟩ = some (.int .i64 x.nd) := HX.out _ HY5.out 5 _ rfl
                have lB5 : B < w5.heap.size := lt_of_cell e5
                have HL5 := hidOf (HLA.out.bel HY5.out)
                have hl5 := HL5.out.ne
                have hlk := fnV_look (HNB.out _ HY5.out) x.nd false
                rw [if_neg (by simp)] at hlk
                rw [ndG] at hlk
                have hnd := ndD_eq Ln x.nd
                obtain ⟨y, hy⟩ : ∃ y, (fnM Ln Ln.length x.nd).getD default = y := ⟨_, rfl⟩
                rw [hy] at hlk hnd
                have HND := hidOf hnd
                clear hnd hy
                have hfd := fun wz => fd54 y wz
                cases hdr : y.dr with
                | true =>
                  rw [hdr] at HND
                  simp only [ndV, hdr] at hlk hfd
                  have HST := hidOf (stop_l HL5.out k hlt HBT.out)
                  go_wp2_with (go_at_call 35; refine HST.out.mono ?_; rintro e w6 ⟨rfl, ia2, ic2, hL6, hF6⟩; have HL6 := hidOf hL6; have HF6 := hidOf hF6; clear hL6 hF6)
                  go_roundw
                  case rel => exact ⟨k + 1, T ++ [(k : Int)], ia2, ic2, by omega, by simp, hidOf (by rw [HSU.out, if_pos ⟨HSK.out, by simp [unB, HND.out]⟩]), HL6, hidOf (HF.out.trans ((HFA.out _ HY5.out).trans HF6.out))⟩
                  case measure => simp [intOf]; omega
                | false =>
                  rw [hdr] at HND
                  simp only [ndV, hdr] at hlk hfd
                  go_wp2
                  go_roundw
                  case rel => exact ⟨k + 1, T, ia, ic, by omega, by simp, hidOf (by rw [HSU.out, if_neg (fun h => by have := h.2; simp [unB, HND.out, HWN.out, HTY.out] at this)]), hidOf (HLA.out.bel HY5.out), hidOf (HF.out.trans (HFA.out _ HY5.out))⟩
                  case measure => simp [intOf]; omega
              · have hq : (d.ty != 1) = true := by simp [hty]
                have HTY := hidOf hty
                clear hty
                by_cases hve : x.ve = d.ve
                · have hq2 : (x.ve != d.ve) = false := by simp [hve]
                  have HVE := hidOf hve
                  clear hve
                  refine wp_region_held_drew (S := fun (Y : World) => Y.cell? ⟨p, 1, none⟩ = some (.int .i64 d.ty) ∧ Y.cell? ⟨B, 2, none⟩ = some (.int .i64 x.ve) ∧ Y.cell? ⟨p, 5, none⟩ = some (.int .i64 d.ve)) (by kernel_rfl) ⟨(HLA.out.bel HY3.out).rg 1 _ rfl, HX.out _ HY3.out 2 _ rfl, (HLA.out.bel HY3.out).rg 5 _ rfl⟩ (fun hHeld => ?_)
                  refine wpAnyH_take (i := 0) (oi := { dst := some 48, op := Op.move (Operand.tmp 0), type := 58, pos := "diff.go:69", after := #[], guard := none }) (v := .pointer (some ⟨p, 0, none⟩)) rfl (by kernel_rfl) (by kernel_rfl) (by kernel_rfl) (fun _ _ _ h => h) (Or.inl ⟨by rfl, ?_⟩) hHeld ?_
                  · (intro w hSw; (try dsimp only at hSw); go_simp)
                  try simp only [Act.put, List.setIfInBounds_toArray, List.set_cons_zero, List.set_cons_succ]
                  refine wpAnyH_take (i := 1) (oi := { dst := some 49, op := Op.nilCheck (Operand.tmp 48), type := 0, pos := "diff.go:69", after := #[{ on := 0, ground := Ground.data }], guard := none }) (v := .pointer (some ⟨p, 0, none⟩)) rfl (by kernel_rfl) (by kernel_rfl) (by kernel_rfl) (fun _ _ _ h => h) (Or.inl ⟨by rfl, ?_⟩) hHeld ?_
                  · (intro w hSw; (try dsimp only at hSw); go_simp)
                  try simp only [Act.put, List.setIfInBounds_toArray, List.set_cons_zero, List.set_cons_succ]
                  refine wpAnyH_take (i := 2) (oi := { dst := some 50, op := Op.fieldAddr 66 (Operand.tmp 49) 0, type := 0, pos := "diff.go:69", after := #[{ on := 1, ground := Ground.data }], guard := none }) (v := .pointer (some ⟨p, 0, none⟩)) rfl (by kernel_rfl) (by kernel_rfl) (by kernel_rfl) (fun _ _ _ h => h) (Or.inl ⟨by rfl, ?_⟩) hHeld ?_
                  · (intro w hSw; (try dsimp only at hSw); go_simp)
                  try simp only [Act.put, List.setIfInBounds_toArray, List.set_cons_zero, List.set_cons_succ]
                  refine wpAnyH_take (i := 3) (oi := { dst := some 51, op := Op.fieldAddr 51 (Operand.tmp 50) 1, type := 0, pos := "diff.go:69", after := #[{ on := 2, ground := Ground.data }], guard := none }) (v := .pointer (some ⟨p, 1, none⟩)) rfl (by kernel_rfl) (by kernel_rfl) (by kernel_rfl) (fun _ _ _ h => h) (Or.inl ⟨by rfl, ?_⟩) hHeld ?_
                  · (intro w hSw; (try dsimp only at hSw); go_simp)
                  try simp only [Act.put, List.setIfInBounds_toArray, List.set_cons_zero, List.set_cons_succ]
                  refine wpAnyH_take (i := 4) (oi := { dst := some 52, op := Op.load 3 (Operand.tmp 51), type := 3, pos := "diff.go:69", after := #[{ on := 3, ground := Ground.data }], guard := none }) (v := .int .i64 d.ty) rfl (by kernel_rfl) (by kernel_rfl) (by kernel_rfl) (fun _ _ _ h => h) (Or.inl ⟨by rfl, ?_⟩) hHeld ?_
                  · (intro w hSw; (try dsimp only at hSw); go_simp)
                  try simp only [Act.put, List.setIfInBounds_toArray, List.set_cons_zero, List.set_cons_succ]
                  refine wpAnyH_take (i := 5) (oi := { dst := some 53, op := Op.binOp BinOp.neq 3 (Operand.tmp 52) (Operand.const (Value.int IntKind.i64 1)) 3, type := 4, pos := "diff.go:69", after := #[{ on := 4, ground := Ground.data }], guard := none }) (v := .bool true) rfl (by kernel_rfl) (by kernel_rfl) (by kernel_rfl) (fun _ _ _ h => h) (Or.inl ⟨by rfl, ?_⟩) hHeld ?_
                  · (intro w hSw; (try dsimp only at hSw); go_simp)
                  try simp only [Act.put, List.setIfInBounds_toArray, List.set_cons_zero, List.set_cons_succ]
                  refine wpAnyH_take (i := 6) (oi := { dst := some 54, op := Op.move (Operand.tmp 53), type := 4, pos := "diff.go:69", after := #[{ on := 5, ground := Ground.data }], guard := none }) (v := .bool true) rfl (by kernel_rfl) (by kernel_rfl) (by kernel_rfl) (fun _ _ _ h => h) (Or.inl ⟨by rfl, ?_⟩) hHeld ?_
                  · (intro w hSw; (try dsimp only at hSw); go_simp)
                  try simp only [Act.put, List.setIfInBounds_toArray, List.set_cons_zero, List.set_cons_succ]
                  refine wpAnyH_take (i := 7) (oi := { dst := some 55, op := Op.fieldAddr 47 (Operand.tmp 6) 2, type := 0, pos := "diff.go:69", after := #[{ on := 6, ground := Ground.guard }], guard := some (6, true) }) (v := .pointer (some ⟨B, 2, none⟩)) rfl (by kernel_rfl) (by kernel_rfl) (by kernel_rfl) (fun _ _ _ h => h) (Or.inl ⟨by rfl, ?_⟩) hHeld ?_
                  · (intro w hSw; (try dsimp only at hSw); go_simp)
                  try simp only [Act.put, List.setIfInBounds_toArray, List.set_cons_zero, List.set_cons_succ]
                  refine wpAnyH_take (i := 8) (oi := { dst := some 56, op := Op.load 3 (Operand.tmp 55), type := 3, pos := "diff.go:69", after := #[{ on := 7, ground := Ground.data }, { on := 6, ground := Ground.guard }], guard := some (6, true) }) (v := .int .i64 x.ve) rfl (by kernel_rfl) (by kernel_rfl) (by kernel_rfl) (fun _ _ _ h => h) (Or.inl ⟨by rfl, ?_⟩) hHeld ?_
                  · (intro w hSw; (try dsimp only at hSw); go_simp)
                  try simp only [Act.put, List.setIfInBounds_toArray, List.set_cons_zero, List.set_cons_succ]
                  refine wpAnyH_take (i := 9) (oi := { dst := some 57, op := Op.move (Operand.tmp 0), type := 58, pos := "diff.go:69", after := #[{ on := 6, ground := Ground.guard }], guard := some (6, true) }) (v := .pointer (some ⟨p, 0, none⟩)) rfl (by kernel_rfl) (by kernel_rfl) (by kernel_rfl) (fun _ _ _ h => h) (Or.inl ⟨by rfl, ?_⟩) hHeld ?_
                  · (intro w hSw; (try dsimp only at hSw); go_simp)
                  try simp only [Act.put, List.setIfInBounds_toArray, List.set_cons_zero, List.set_cons_succ]
                  refine wpAnyH_take (i := 10) (oi := { dst := some 58, op := Op.nilCheck (Operand.tmp 57), type := 0, pos := "diff.go:69", after := #[{ on := 9, ground := Ground.data }, { on := 6, ground := Ground.guard }], guard := some (6, true) }) (v := .pointer (some ⟨p, 0, none⟩)) rfl (by kernel_rfl) (by kernel_rfl) (by kernel_rfl) (fun _ _ _ h => h) (Or.inl ⟨by rfl, ?_⟩) hHeld ?_
                  · (intro w hSw; (try dsimp only at hSw); go_simp)
                  try simp only [Act.put, List.setIfInBounds_toArray, List.set_cons_zero, List.set_cons_succ]
                  refine wpAnyH_take (i := 11) (oi := { dst := some 59, op := Op.fieldAddr 66 (Operand.tmp 58) 0, type := 0, pos := "diff.go:69", after := #[{ on := 10, ground := Ground.data }, { on := 6, ground := Ground.guard }], guard := some (6, true) }) (v := .pointer (some ⟨p, 0, none⟩)) rfl (by kernel_rfl) (by kernel_rfl) (by kernel_rfl) (fun _ _ _ h => h) (Or.inl ⟨by rfl, ?_⟩) hHeld ?_
                  · (intro w hSw; (try dsimp only at hSw); go_simp)
                  try simp only [Act.put, List.setIfInBounds_toArray, List.set_cons_zero, List.set_cons_succ]
                  refine wpAnyH_take (i := 12) (oi := { dst := some 60, op := Op.fieldAddr 51 (Operand.tmp 59) 5, type := 0, pos := "diff.go:69", after := #[{ on := 11, ground := Ground.data }, { on := 6, ground := Ground.guard }], guard := some (6, true) }) (v := .pointer (some ⟨p, 5, none⟩)) rfl (by kernel_rfl) (by kernel_rfl) (by kernel_rfl) (fun _ _ _ h => h) (Or.inl ⟨by rfl, ?_⟩) hHeld ?_
                  · (intro w hSw; (try dsimp only at hSw); go_simp)
                  try simp only [Act.put, List.setIfInBounds_toArray, List.set_cons_zero, List.set_cons_succ]
                  refine wpAnyH_take (i := 13) (oi := { dst := some 61, op := Op.load 3 (Operand.tmp 60), type := 3, pos := "diff.go:69", after := #[{ on := 12, ground := Ground.data }, { on := 6, ground := Ground.guard }], guard := some (6, true) }) (v := .int .i64 d.ve) rfl (by kernel_rfl) (by kernel_rfl) (by kernel_rfl) (fun _ _ _ h => h) (Or.inl ⟨by rfl, ?_⟩) hHeld ?_
                  · (intro w hSw; (try dsimp only at hSw); go_simp)
                  try simp only [Act.put, List.setIfInBounds_toArray, List.set_cons_zero, List.set_cons_succ]
                  refine wpAnyH_take (i := 14) (oi := { dst := some 62, op := Op.binOp BinOp.neq 3 (Operand.tmp 56) (Operand.tmp 61) 3, type := 4, pos := "diff.go:69", after := #[{ on := 8, ground := Ground.data }, { on := 13, ground := Ground.data }, { on := 6, ground := Ground.guard }], guard := some (6, true) }) (v := .bool false) rfl (by kernel_rfl) (by kernel_rfl) (by kernel_rfl) (fun _ _ _ h => h) (Or.inl ⟨by rfl, ?_⟩) hHeld ?_
                  · (intro w hSw; (try dsimp only at hSw); go_simp)
                  try simp only [Act.put, List.setIfInBounds_toArray, List.set_cons_zero, List.set_cons_succ]
                  refine wpAnyH_take (i := 15) (oi := { dst := some 63, op := Op.pick (Operand.tmp 54) (Operand.tmp 62) (Operand.const (Value.bool false)), type := 4, pos := "diff.go:69", after := #[{ on := 6, ground := Ground.data }, { on := 14, ground := Ground.data }], guard := none }) (v := .bool false) rfl (by kernel_rfl) (by kernel_rfl) (by kernel_rfl) (fun _ _ _ h => h) (Or.inl ⟨by rfl, ?_⟩) hHeld ?_
                  · (intro w hSw; (try dsimp only at hSw); go_simp)
                  try simp only [Act.put, List.setIfInBounds_toArray, List.set_cons_zero, List.set_cons_succ]
                  refine wpAnyH_take (i := 16) (oi := { dst := some 9, op := Op.assign (Operand.tmp 63), type := 4, pos := "diff.go:69", after := #[{ on := 15, ground := Ground.data }, { on := 6, ground := Ground.chain }, { on := 0, ground := Ground.phase }, { on := 1, ground := Ground.phase }, { on := 2, ground := Ground.phase }, { on := 3, ground := Ground.phase }, { on := 4, ground := Ground.phase }, { on := 5, ground := Ground.phase }, { on := 6, ground := Ground.phase }, { on := 7, ground := Ground.phase }, { on := 8, ground := Ground.phase }, { on := 9, ground := Ground.phase }, { on := 10, ground := Ground.phase }, { on := 11, ground := Ground.phase }, { on := 12, ground := Ground.phase }, { on := 13, ground := Ground.phase }, { on := 14, ground := Ground.phase }, { on := 15, ground := Ground.phase }], guard := none }) (v := .bool false) rfl (by kernel_rfl) (by kernel_rfl) (by kernel_rfl) (fun _ _ _ h => h) (Or.inl ⟨by rfl, ?_⟩) hHeld ?_
                  · (intro w hSw; (try dsimp only at hSw); go_simp)
                  try simp only [Act.put, List.setIfInBounds_toArray, List.set_cons_zero, List.set_cons_succ]
                  refine wpAnyH_done (by kernel_rfl) ?_ _
                  obtain ⟨w5, hw5⟩ : ∃ w5, w3.drew = w5 := ⟨_, rfl⟩
                  have HY5 : Hid (Below wA.heap.size wA w5) := hidOf (by rw [← hw5]; exact HY3D.out)
                  rw [hw5]
                  clear hw5
                  have e5 : w5.cell? ⟨B, 5, none⟩ = some (.int .i64 x.nd) := HX.out _ HY5.out 5 _ rfl
                  have lB5 : B < w5.heap.size := lt_of_cell e5
                  have HL5 := hidOf (HLA.out.bel HY5.out)
                  have hl5 := HL5.out.ne
                  have hlk := fnV_look (HNB.out _ HY5.out) x.nd false
                  rw [if_neg (by simp)] at hlk
                  rw [ndG] at hlk
                  have hnd := ndD_eq Ln x.nd
                  obtain ⟨y, hy⟩ : ∃ y, (fnM Ln Ln.length x.nd).getD default = y := ⟨_, rfl⟩
                  rw [hy] at hlk hnd
                  have HND := hidOf hnd
                  clear hnd hy
                  have hfd := fun wz => fd54 y wz
                  cases hdr : y.dr with
                  | true =>
                    rw [hdr] at HND
                    simp only [ndV, hdr] at hlk hfd
                    have HST := hidOf (stop_l HL5.out k hlt HBT.out)
                    go_wp2_with (go_at_call 35; refine HST.out.mono ?_; rintro e w6 ⟨rfl, ia2, ic2, hL6, hF6⟩; have HL6 := hidOf hL6; have HF6 := hidOf hF6; clear hL6 hF6)
                    go_roundw
                    case rel => exact ⟨k + 1, T ++ [(k : Int)], ia2, ic2, by omega, by simp, hidOf (by rw [HSU.out, if_pos ⟨HSK.out, by simp [unB, HND.out]⟩]), HL6, hidOf (HF.out.trans ((HFA.out _ HY5.out).trans HF6.out))⟩
                    case measure => simp [intOf]; omega
                  | false =>
                    rw [hdr] at HND
                    simp only [ndV, hdr] at hlk hfd
                    go_wp2
                    go_roundw
                    case rel => exact ⟨k + 1, T, ia, ic, by omega, by simp, hidOf (by rw [HSU.out, if_neg (fun h => by have := h.2; simp [unB, HND.out, HWN.out, HVE.out] at this)]), hidOf (HLA.out.bel HY5.out), hidOf (HF.out.trans (HFA.out _ HY5.out))⟩
                    case measure => simp [intOf]; omega
                · have hq2 : (x.ve != d.ve) = true := by simp [hve]
                  have HVE := hidOf hve
                  clear hve
                  refine wp_region_held_drew (S := fun (Y : World) => Y.cell? ⟨p, 1, none⟩ = some (.int .i64 d.ty) ∧ Y.cell? ⟨B, 2, none⟩ = some (.int .i64 x.ve) ∧ Y.cell? ⟨p, 5, none⟩ = some (.int .i64 d.ve)) (by kernel_rfl) ⟨(HLA.out.bel HY3.out).rg 1 _ rfl, HX.out _ HY3.out 2 _ rfl, (HLA.out.bel HY3.out).rg 5 _ rfl⟩ (fun hHeld => ?_)
                  refine wpAnyH_take (i := 0) (oi := { dst := some 48, op := Op.move (Operand.tmp 0), type := 58, pos := "diff.go:69", after := #[], guard := none }) (v := .pointer (some ⟨p, 0, none⟩)) rfl (by kernel_rfl) (by kernel_rfl) (by kernel_rfl) (fun _ _ _ h => h) (Or.inl ⟨by rfl, ?_⟩) hHeld ?_
                  · (intro w hSw; (try dsimp only at hSw); go_simp)
                  try simp only [Act.put, List.setIfInBounds_toArray, List.set_cons_zero, List.set_cons_succ]
                  refine wpAnyH_take (i := 1) (oi := { dst := some 49, op := Op.nilCheck (Operand.tmp 48), type := 0, pos := "diff.go:69", after := #[{ on := 0, ground := Ground.data }], guard := none }) (v := .pointer (some ⟨p, 0, none⟩)) rfl (by kernel_rfl) (by kernel_rfl) (by kernel_rfl) (fun _ _ _ h => h) (Or.inl ⟨by rfl, ?_⟩) hHeld ?_
                  · (intro w hSw; (try dsimp only at hSw); go_simp)
                  try simp only [Act.put, List.setIfInBounds_toArray, List.set_cons_zero, List.set_cons_succ]
                  refine wpAnyH_take (i := 2) (oi := { dst := some 50, op := Op.fieldAddr 66 (Operand.tmp 49) 0, type := 0, pos := "diff.go:69", after := #[{ on := 1, ground := Ground.data }], guard := none }) (v := .pointer (some ⟨p, 0, none⟩)) rfl (by kernel_rfl) (by kernel_rfl) (by kernel_rfl) (fun _ _ _ h => h) (Or.inl ⟨by rfl, ?_⟩) hHeld ?_
                  · (intro w hSw; (try dsimp only at hSw); go_simp)
                  try simp only [Act.put, List.setIfInBounds_toArray, List.set_cons_zero, List.set_cons_succ]
                  refine wpAnyH_take (i := 3) (oi := { dst := some 51, op := Op.fieldAddr 51 (Operand.tmp 50) 1, type := 0, pos := "diff.go:69", after := #[{ on := 2, ground := Ground.data }], guard := none }) (v := .pointer (some ⟨p, 1, none⟩)) rfl (by kernel_rfl) (by kernel_rfl) (by kernel_rfl) (fun _ _ _ h => h) (Or.inl ⟨by rfl, ?_⟩) hHeld ?_
                  · (intro w hSw; (try dsimp only at hSw); go_simp)
                  try simp only [Act.put, List.setIfInBounds_toArray, List.set_cons_zero, List.set_cons_succ]
                  refine wpAnyH_take (i := 4) (oi := { dst := some 52, op := Op.load 3 (Operand.tmp 51), type := 3, pos := "diff.go:69", after := #[{ on := 3, ground := Ground.data }], guard := none }) (v := .int .i64 d.ty) rfl (by kernel_rfl) (by kernel_rfl) (by kernel_rfl) (fun _ _ _ h => h) (Or.inl ⟨by rfl, ?_⟩) hHeld ?_
                  · (intro w hSw; (try dsimp only at hSw); go_simp)
                  try simp only [Act.put, List.setIfInBounds_toArray, List.set_cons_zero, List.set_cons_succ]
                  refine wpAnyH_take (i := 5) (oi := { dst := some 53, op := Op.binOp BinOp.neq 3 (Operand.tmp 52) (Operand.const (Value.int IntKind.i64 1)) 3, type := 4, pos := "diff.go:69", after := #[{ on := 4, ground := Ground.data }], guard := none }) (v := .bool true) rfl (by kernel_rfl) (by kernel_rfl) (by kernel_rfl) (fun _ _ _ h => h) (Or.inl ⟨by rfl, ?_⟩) hHeld ?_
                  · (intro w hSw; (try dsimp only at hSw); go_simp)
                  try simp only [Act.put, List.setIfInBounds_toArray, List.set_cons_zero, List.set_cons_succ]
                  refine wpAnyH_take (i := 6) (oi := { dst := some 54, op := Op.move (Operand.tmp 53), type := 4, pos := "diff.go:69", after := #[{ on := 5, ground := Ground.data }], guard := none }) (v := .bool true) rfl (by kernel_rfl) (by kernel_rfl) (by kernel_rfl) (fun _ _ _ h => h) (Or.inl ⟨by rfl, ?_⟩) hHeld ?_
                  · (intro w hSw; (try dsimp only at hSw); go_simp)
                  try simp only [Act.put, List.setIfInBounds_toArray, List.set_cons_zero, List.set_cons_succ]
                  refine wpAnyH_take (i := 7) (oi := { dst := some 55, op := Op.fieldAddr 47 (Operand.tmp 6) 2, type := 0, pos := "diff.go:69", after := #[{ on := 6, ground := Ground.guard }], guard := some (6, true) }) (v := .pointer (some ⟨B, 2, none⟩)) rfl (by kernel_rfl) (by kernel_rfl) (by kernel_rfl) (fun _ _ _ h => h) (Or.inl ⟨by rfl, ?_⟩) hHeld ?_
                  · (intro w hSw; (try dsimp only at hSw); go_simp)
                  try simp only [Act.put, List.setIfInBounds_toArray, List.set_cons_zero, List.set_cons_succ]
                  refine wpAnyH_take (i := 8) (oi := { dst := some 56, op := Op.load 3 (Operand.tmp 55), type := 3, pos := "diff.go:69", after := #[{ on := 7, ground := Ground.data }, { on := 6, ground := Ground.guard }], guard := some (6, true) }) (v := .int .i64 x.ve) rfl (by kernel_rfl) (by kernel_rfl) (by kernel_rfl) (fun _ _ _ h => h) (Or.inl ⟨by rfl, ?_⟩) hHeld ?_
                  · (intro w hSw; (try dsimp only at hSw); go_simp)
                  try simp only [Act.put, List.setIfInBounds_toArray, List.set_cons_zero, List.set_cons_succ]
                  refine wpAnyH_take (i := 9) (oi := { dst := some 57, op := Op.move (Operand.tmp 0), type := 58, pos := "diff.go:69", after := #[{ on := 6, ground := Ground.guard }], guard := some (6, true) }) (v := .pointer (some ⟨p, 0, none⟩)) rfl (by kernel_rfl) (by kernel_rfl) (by kernel_rfl) (fun _ _ _ h => h) (Or.inl ⟨by rfl, ?_⟩) hHeld ?_
                  · (intro w hSw; (try dsimp only at hSw); go_simp)
                  try simp only [Act.put, List.setIfInBounds_toArray, List.set_cons_zero, List.set_cons_succ]
                  refine wpAnyH_take (i := 10) (oi := { dst := some 58, op := Op.nilCheck (Operand.tmp 57), type := 0, pos := "diff.go:69", after := #[{ on := 9, ground := Ground.data }, { on := 6, ground := Ground.guard }], guard := some (6, true) }) (v := .pointer (some ⟨p, 0, none⟩)) rfl (by kernel_rfl) (by kernel_rfl) (by kernel_rfl) (fun _ _ _ h => h) (Or.inl ⟨by rfl, ?_⟩) hHeld ?_
                  · (intro w hSw; (try dsimp only at hSw); go_simp)
                  try simp only [Act.put, List.setIfInBounds_toArray, List.set_cons_zero, List.set_cons_succ]
                  refine wpAnyH_take (i := 11) (oi := { dst := some 59, op := Op.fieldAddr 66 (Operand.tmp 58) 0, type := 0, pos := "diff.go:69", after := #[{ on := 10, ground := Ground.data }, { on := 6, ground := Ground.guard }], guard := some (6, true) }) (v := .pointer (some ⟨p, 0, none⟩)) rfl (by kernel_rfl) (by kernel_rfl) (by kernel_rfl) (fun _ _ _ h => h) (Or.inl ⟨by rfl, ?_⟩) hHeld ?_
                  · (intro w hSw; (try dsimp only at hSw); go_simp)
                  try simp only [Act.put, List.setIfInBounds_toArray, List.set_cons_zero, List.set_cons_succ]
                  refine wpAnyH_take (i := 12) (oi := { dst := some 60, op := Op.fieldAddr 51 (Operand.tmp 59) 5, type := 0, pos := "diff.go:69", after := #[{ on := 11, ground := Ground.data }, { on := 6, ground := Ground.guard }], guard := some (6, true) }) (v := .pointer (some ⟨p, 5, none⟩)) rfl (by kernel_rfl) (by kernel_rfl) (by kernel_rfl) (fun _ _ _ h => h) (Or.inl ⟨by rfl, ?_⟩) hHeld ?_
                  · (intro w hSw; (try dsimp only at hSw); go_simp)
                  try simp only [Act.put, List.setIfInBounds_toArray, List.set_cons_zero, List.set_cons_succ]
                  refine wpAnyH_take (i := 13) (oi := { dst := some 61, op := Op.load 3 (Operand.tmp 60), type := 3, pos := "diff.go:69", after := #[{ on := 12, ground := Ground.data }, { on := 6, ground := Ground.guard }], guard := some (6, true) }) (v := .int .i64 d.ve) rfl (by kernel_rfl) (by kernel_rfl) (by kernel_rfl) (fun _ _ _ h => h) (Or.inl ⟨by rfl, ?_⟩) hHeld ?_
                  · (intro w hSw; (try dsimp only at hSw); go_simp)
                  try simp only [Act.put, List.setIfInBounds_toArray, List.set_cons_zero, List.set_cons_succ]
                  refine wpAnyH_take (i := 14) (oi := { dst := some 62, op := Op.binOp BinOp.neq 3 (Operand.tmp 56) (Operand.tmp 61) 3, type := 4, pos := "diff.go:69", after := #[{ on := 8, ground := Ground.data }, { on := 13, ground := Ground.data }, { on := 6, ground := Ground.guard }], guard := some (6, true) }) (v := .bool true) rfl (by kernel_rfl) (by kernel_rfl) (by kernel_rfl) (fun _ _ _ h => h) (Or.inl ⟨by rfl, ?_⟩) hHeld ?_
                  · (intro w hSw; (try dsimp only at hSw); go_simp)
                  try simp only [Act.put, List.setIfInBounds_toArray, List.set_cons_zero, List.set_cons_succ]
                  refine wpAnyH_take (i := 15) (oi := { dst := some 63, op := Op.pick (Operand.tmp 54) (Operand.tmp 62) (Operand.const (Value.bool false)), type := 4, pos := "diff.go:69", after := #[{ on := 6, ground := Ground.data }, { on := 14, ground := Ground.data }], guard := none }) (v := .bool true) rfl (by kernel_rfl) (by kernel_rfl) (by kernel_rfl) (fun _ _ _ h => h) (Or.inl ⟨by rfl, ?_⟩) hHeld ?_
                  · (intro w hSw; (try dsimp only at hSw); go_simp)
                  try simp only [Act.put, List.setIfInBounds_toArray, List.set_cons_zero, List.set_cons_succ]
                  refine wpAnyH_take (i := 16) (oi := { dst := some 9, op := Op.assign (Operand.tmp 63), type := 4, pos := "diff.go:69", after := #[{ on := 15, ground := Ground.data }, { on := 6, ground := Ground.chain }, { on := 0, ground := Ground.phase }, { on := 1, ground := Ground.phase }, { on := 2, ground := Ground.phase }, { on := 3, ground := Ground.phase }, { on := 4, ground := Ground.phase }, { on := 5, ground := Ground.phase }, { on := 6, ground := Ground.phase }, { on := 7, ground := Ground.phase }, { on := 8, ground := Ground.phase }, { on := 9, ground := Ground.phase }, { on := 10, ground := Ground.phase }, { on := 11, ground := Ground.phase }, { on := 12, ground := Ground.phase }, { on := 13, ground := Ground.phase }, { on := 14, ground := Ground.phase }, { on := 15, ground := Ground.phase }], guard := none }) (v := .bool true) rfl (by kernel_rfl) (by kernel_rfl) (by kernel_rfl) (fun _ _ _ h => h) (Or.inl ⟨by rfl, ?_⟩) hHeld ?_
                  · (intro w hSw; (try dsimp only at hSw); go_simp)
                  try simp only [Act.put, List.setIfInBounds_toArray, List.set_cons_zero, List.set_cons_succ]
                  refine wpAnyH_done (by kernel_rfl) ?_ _
                  obtain ⟨w5, hw5⟩ : ∃ w5, w3.drew = w5 := ⟨_, rfl⟩
                  have HY5 : Hid (Below wA.heap.size wA w5) := hidOf (by rw [← hw5]; exact HY3D.out)
                  rw [hw5]
                  clear hw5
                  have e5 : w5.cell? ⟨B, 5, none⟩ = some (.int .i64 x.nd) := HX.out _ HY5.out 5 _ rfl
                  have lB5 : B < w5.heap.size := lt_of_cell e5
                  have HL5 := hidOf (HLA.out.bel HY5.out)
                  have hl5 := HL5.out.ne
                  have HST := hidOf (stop_l HL5.out k hlt HBT.out)
                  go_wp2_with (go_at_call 35; refine HST.out.mono ?_; rintro e w6 ⟨rfl, ia2, ic2, hL6, hF6⟩; have HL6 := hidOf hL6; have HF6 := hidOf hF6; clear hL6 hF6)
                  go_roundw
                  case rel => exact ⟨k + 1, T ++ [(k : Int)], ia2, ic2, by omega, by simp, hidOf (by rw [HSU.out, if_pos ⟨HSK.out, by simp [unB, HTY.out, HVE.out]⟩]), HL6, hidOf (HF.out.trans ((HFA.out _ HY5.out).trans HF6.out))⟩
                  case measure => simp [intOf]; omega
            · skip
              have HWN := hidOf hwn
              obtain ⟨hv, hhv⟩ : ∃ hv, (if (x.gr, x.ix) ∈ S then fiK (slB d.id x.gr x.ix) A A.length else 0) = hv := ⟨_, rfl⟩
              have HLK : Hid (∀ Y, MpR Y hb kS (hoK d.id S A A.length) → (Instr.lookup 63 (.map (some hb)) (.agg #[.int .i64 x.gr, .int .i64 x.ix]) true).run Try.prog Y = .ok (.tuple #[.int .i64 hv, .bool false]) Y) := hidOf fun Y h => by
                have hlk := hoK_look h x.gr x.ix true
                rw [if_pos rfl, hhv, decide_eq_false hwn] at hlk
                exact hlk
              clear hwn hhv
              refine wp_region_held_drew (S := fun (Y : World) => Y.cell? ⟨p, 9, none⟩ = some (.map (some hb)) ∧ Y.cell? ⟨B, 0, none⟩ = some (.int .i64 x.id) ∧ Y.cell? ⟨B, 1, none⟩ = some (.int .i64 x.jb) ∧ Y.cell? ⟨B, 2, none⟩ = some (.int .i64 x.ve) ∧ Y.cell? ⟨B, 3, none⟩ = some (.int .i64 x.gr) ∧ Y.cell? ⟨B, 4, none⟩ = some (.int .i64 x.ix) ∧ Y.cell? ⟨B, 5, none⟩ = some (.int .i64 x.nd) ∧ Y.cell? ⟨B, 6, none⟩ = some (.int .i64 x.ep) ∧ Y.cell? ⟨B, 7, none⟩ = some (.int .i64 x.c) ∧ Y.cell? ⟨B, 8, none⟩ = some (.int .i64 x.m) ∧ Y.cell? ⟨B, 9, none⟩ = some (.bool false) ∧ Y.cell? ⟨B, 10, none⟩ = some (.int .i64 x.st) ∧ MpR Y hb kS (hoK d.id S A A.length)) (by kernel_rfl) ⟨(HLA.out.bel HY2.out).rg 9 _ rfl, HX.out _ HY2.out 0 _ rfl, HX.out _ HY2.out 1 _ rfl, HX.out _ HY2.out 2 _ rfl, HX.out _ HY2.out 3 _ rfl, HX.out _ HY2.out 4 _ rfl, HX.out _ HY2.out 5 _ rfl, HX.out _ HY2.out 6 _ rfl, HX.out _ HY2.out 7 _ rfl, HX.out _ HY2.out 8 _ rfl, HX.out _ HY2.out 9 _ rfl, HX.out _ HY2.out 10 _ rfl, (HLA.out.bel HY2.out).ho⟩ (fun hHeld => ?_)
              refine wpAnyH_take (i := 0) (oi := { dst := some 39, op := Op.move (Operand.tmp 0), type := 58, pos := "diff.go:68", after := #[], guard := none }) (v := .pointer (some ⟨p, 0, none⟩)) rfl (by kernel_rfl) (by kernel_rfl) (by kernel_rfl) (fun _ _ _ h => h) (Or.inl ⟨by rfl, ?_⟩) hHeld ?_
              · (intro w hSw; (try dsimp only at hSw); go_simp)
              try simp only [Act.put, List.setIfInBounds_toArray, List.set_cons_zero, List.set_cons_succ]
              refine wpAnyH_take (i := 1) (oi := { dst := some 40, op := Op.nilCheck (Operand.tmp 39), type := 0, pos := "diff.go:68", after := #[{ on := 0, ground := Ground.data }], guard := none }) (v := .pointer (some ⟨p, 0, none⟩)) rfl (by kernel_rfl) (by kernel_rfl) (by kernel_rfl) (fun _ _ _ h => h) (Or.inl ⟨by rfl, ?_⟩) hHeld ?_
              · (intro w hSw; (try dsimp only at hSw); go_simp)
              try simp only [Act.put, List.setIfInBounds_toArray, List.set_cons_zero, List.set_cons_succ]
              refine wpAnyH_take (i := 2) (oi := { dst := some 41, op := Op.fieldAddr 66 (Operand.tmp 40) 3, type := 0, pos := "diff.go:68", after := #[{ on := 1, ground := Ground.data }], guard := none }) (v := .pointer (some ⟨p, 9, none⟩)) rfl (by kernel_rfl) (by kernel_rfl) (by kernel_rfl) (fun _ _ _ h => h) (Or.inl ⟨by rfl, ?_⟩) hHeld ?_
              · (intro w hSw; (try dsimp only at hSw); go_simp)
              try simp only [Act.put, List.setIfInBounds_toArray, List.set_cons_zero, List.set_cons_succ]
              refine wpAnyH_take (i := 3) (oi := { dst := some 42, op := Op.load 63 (Operand.tmp 41), type := 63, pos := "diff.go:68", after := #[{ on := 2, ground := Ground.data }], guard := none }) (v := .map (some hb)) rfl (by kernel_rfl) (by kernel_rfl) (by kernel_rfl) (fun _ _ _ h => h) (Or.inl ⟨by rfl, ?_⟩) hHeld ?_
              · (intro w hSw; (try dsimp only at hSw); go_simp)
              try simp only [Act.put, List.setIfInBounds_toArray, List.set_cons_zero, List.set_cons_succ]
              refine wpAnyH_take (i := 4) (oi := { dst := some 43, op := Op.load 47 (Operand.tmp 6), type := 47, pos := "diff.go:68", after := #[], guard := none }) (v := .agg #[.int .i64 x.id, .int .i64 x.jb, .int .i64 x.ve, .int .i64 x.gr, .int .i64 x.ix, .int .i64 x.nd, .int .i64 x.ep, .int .i64 x.c, .int .i64 x.m, .bool false, .int .i64 x.st]) rfl (by kernel_rfl) (by kernel_rfl) (by kernel_rfl) (fun _ _ _ h => h) (Or.inl ⟨by rfl, ?_⟩) hHeld ?_
              · (intro w hSw; (try dsimp only at hSw); go_simp)
              try simp only [Act.put, List.setIfInBounds_toArray, List.set_cons_zero, List.set_cons_succ]
              refine wpAnyH_ready (rs := [5]) (by kernel_rfl) (by simp) ?_
              refine AllReadyH.cons (o := { dst := some 44, op := Op.call { callee := Callee.value (Operand.func 34), args := #[Operand.tmp 43], argTypes := #[47] }, type := 39, pos := "diff.go:68", after := #[{ on := 4, ground := Ground.data }], guard := none }) rfl (fun K hK => ?_) AllReadyH.nil
              go_simp
              refine HSO.out.mono ?_
              rintro e w3 ⟨rfl, hb3⟩
              have HY3 := hidOf (HY2D.out.trans (hb3.mono HY2D.out.size))
              clear hb3
              refine hK.out _ _ ⟨(HLA.out.bel HY3.out).rg 9 _ rfl, HX.out _ HY3.out 0 _ rfl, HX.out _ HY3.out 1 _ rfl, HX.out _ HY3.out 2 _ rfl, HX.out _ HY3.out 3 _ rfl, HX.out _ HY3.out 4 _ rfl, HX.out _ HY3.out 5 _ rfl, HX.out _ HY3.out 6 _ rfl, HX.out _ HY3.out 7 _ rfl, HX.out _ HY3.out 8 _ rfl, HX.out _ HY3.out 9 _ rfl, HX.out _ HY3.out 10 _ rfl, (HLA.out.bel HY3.out).ho⟩ (fun hHeld1 => ?_)
              clear hK K
              try simp only [Act.put, List.setIfInBounds_toArray, List.set_cons_zero, List.set_cons_succ]
              refine wpAnyH_take (i := 6) (oi := { dst := some 45, op := Op.lookup 63 (Operand.tmp 42) (Operand.tmp 44) true, type := 85, pos := "diff.go:68", after := #[{ on := 3, ground := Ground.data }, { on := 5, ground := Ground.data }], guard := none }) (v := .tuple #[.int .i64 hv, .bool false]) rfl (by kernel_rfl) (by kernel_rfl) (by kernel_rfl) (fun _ _ _ h => h) (Or.inl ⟨by rfl, ?_⟩) hHeld1 ?_
              · (intro Y hSw; have hlk := HLK.out Y hSw.2.2.2.2.2.2.2.2.2.2.2.2; clear hSw; go_simp)
              try simp only [Act.put, List.setIfInBounds_toArray, List.set_cons_zero, List.set_cons_succ]
              refine wpAnyH_take (i := 7) (oi := { dst := some 38, op := Op.move (Operand.tmp 45), type := 85, pos := "diff.go:68", after := #[{ on := 6, ground := Ground.data }], guard := none }) (v := .tuple #[.int .i64 hv, .bool false]) rfl (by kernel_rfl) (by kernel_rfl) (by kernel_rfl) (fun _ _ _ h => h) (Or.inl ⟨by rfl, ?_⟩) hHeld1 ?_
              · (intro w hSw; (try dsimp only at hSw); go_simp)
              try simp only [Act.put, List.setIfInBounds_toArray, List.set_cons_zero, List.set_cons_succ]
              refine wpAnyH_take (i := 8) (oi := { dst := some 46, op := Op.extract (Operand.tmp 38) 0, type := 3, pos := "diff.go:68", after := #[{ on := 7, ground := Ground.data }], guard := none }) (v := .int .i64 hv) rfl (by kernel_rfl) (by kernel_rfl) (by kernel_rfl) (fun _ _ _ h => h) (Or.inl ⟨by rfl, ?_⟩) hHeld1 ?_
              · (intro w hSw; (try dsimp only at hSw); go_simp)
              try simp only [Act.put, List.setIfInBounds_toArray, List.set_cons_zero, List.set_cons_succ]
              refine wpAnyH_take (i := 9) (oi := { dst := some 47, op := Op.extract (Operand.tmp 38) 1, type := 4, pos := "diff.go:68", after := #[{ on := 7, ground := Ground.data }, { on := 10, ground := Ground.gcOnly Departure.lateStores }], guard := none }) (v := .bool false) rfl (by kernel_rfl) (by kernel_rfl) (by kernel_rfl) (fun _ _ _ h => h) (Or.inl ⟨by rfl, ?_⟩) hHeld1 ?_
              · (intro w hSw; (try dsimp only at hSw); go_simp)
              try simp only [Act.put, List.setIfInBounds_toArray, List.set_cons_zero, List.set_cons_succ]
              refine wpAnyH_take (i := 10) (oi := { dst := some 7, op := Op.assign (Operand.tmp 46), type := 3, pos := "diff.go:68", after := #[{ on := 8, ground := Ground.data }, { on := 5, ground := Ground.chain }, { on := 0, ground := Ground.phase }, { on := 1, ground := Ground.phase }, { on := 2, ground := Ground.phase }, { on := 3, ground := Ground.phase }, { on := 4, ground := Ground.phase }, { on := 5, ground := Ground.phase }, { on := 6, ground := Ground.phase }, { on := 7, ground := Ground.phase }, { on := 8, ground := Ground.phase }, { on := 9, ground := Ground.textOnly Departure.lateStores }], guard := none }) (v := .int .i64 hv) rfl (by kernel_rfl) (by kernel_rfl) (by kernel_rfl) (fun _ _ _ h => h) (Or.inl ⟨by rfl, ?_⟩) hHeld1 ?_
              · (intro w hSw; (try dsimp only at hSw); go_simp)
              try simp only [Act.put, List.setIfInBounds_toArray, List.set_cons_zero, List.set_cons_succ]
              refine wpAnyH_take (i := 11) (oi := { dst := some 8, op := Op.assign (Operand.tmp 47), type := 4, pos := "diff.go:68", after := #[{ on := 9, ground := Ground.data }, { on := 10, ground := Ground.chain }, { on := 0, ground := Ground.phase }, { on := 1, ground := Ground.phase }, { on := 2, ground := Ground.phase }, { on := 3, ground := Ground.phase }, { on := 4, ground := Ground.phase }, { on := 5, ground := Ground.phase }, { on := 6, ground := Ground.phase }, { on := 7, ground := Ground.phase }, { on := 8, ground := Ground.phase }, { on := 9, ground := Ground.phase }, { on := 10, ground := Ground.phase }], guard := none }) (v := .bool false) rfl (by kernel_rfl) (by kernel_rfl) (by kernel_rfl) (fun _ _ _ h => h) (Or.inl ⟨by rfl, ?_⟩) hHeld1 ?_
              · (intro w hSw; (try dsimp only at hSw); go_simp)
              try simp only [Act.put, List.setIfInBounds_toArray, List.set_cons_zero, List.set_cons_succ]
              refine wpAnyH_done (by kernel_rfl) ?_ _
              have HY3D := hidOf (HY3.out.trans ((bdrew w3).mono HY3.out.size))
              go_upto_region 6 with (fail)
              by_cases hty : d.ty = 1
              · have hq : (d.ty != 1) = false := by simp [hty]
                have HTY := hidOf hty
                clear hty
                refine wp_region_held_drew (S := fun (Y : World) => Y.cell? ⟨p, 1, none⟩ = some (.int .i64 d.ty)) (by kernel_rfl) ((HLA.out.bel HY3.out).rg 1 _ rfl) (fun hHeld => ?_)
                refine wpAnyH_take (i := 0) (oi := { dst := some 48, op := Op.move (Operand.tmp 0), type := 58, pos := "diff.go:69", after := #[], guard := none }) (v := .pointer (some ⟨p, 0, none⟩)) rfl (by kernel_rfl) (by kernel_rfl) (by kernel_rfl) (fun _ _ _ h => h) (Or.inl ⟨by rfl, ?_⟩) hHeld ?_
                · (intro w hSw; (try dsimp only at hSw); go_simp)
                try simp only [Act.put, List.setIfInBounds_toArray, List.set_cons_zero, List.set_cons_succ]
                refine wpAnyH_take (i := 1) (oi := { dst := some 49, op := Op.nilCheck (Operand.tmp 48), type := 0, pos := "diff.go:69", after := #[{ on := 0, ground := Ground.data }], guard := none }) (v := .pointer (some ⟨p, 0, none⟩)) rfl (by kernel_rfl) (by kernel_rfl) (by kernel_rfl) (fun _ _ _ h => h) (Or.inl ⟨by rfl, ?_⟩) hHeld ?_
                · (intro w hSw; (try dsimp only at hSw); go_simp)
                try simp only [Act.put, List.setIfInBounds_toArray, List.set_cons_zero, List.set_cons_succ]
                refine wpAnyH_take (i := 2) (oi := { dst := some 50, op := Op.fieldAddr 66 (Operand.tmp 49) 0, type := 0, pos := "diff.go:69", after := #[{ on := 1, ground := Ground.data }], guard := none }) (v := .pointer (some ⟨p, 0, none⟩)) rfl (by kernel_rfl) (by kernel_rfl) (by kernel_rfl) (fun _ _ _ h => h) (Or.inl ⟨by rfl, ?_⟩) hHeld ?_
                · (intro w hSw; (try dsimp only at hSw); go_simp)
                try simp only [Act.put, List.setIfInBounds_toArray, List.set_cons_zero, List.set_cons_succ]
                refine wpAnyH_take (i := 3) (oi := { dst := some 51, op := Op.fieldAddr 51 (Operand.tmp 50) 1, type := 0, pos := "diff.go:69", after := #[{ on := 2, ground := Ground.data }], guard := none }) (v := .pointer (some ⟨p, 1, none⟩)) rfl (by kernel_rfl) (by kernel_rfl) (by kernel_rfl) (fun _ _ _ h => h) (Or.inl ⟨by rfl, ?_⟩) hHeld ?_
                · (intro w hSw; (try dsimp only at hSw); go_simp)
                try simp only [Act.put, List.setIfInBounds_toArray, List.set_cons_zero, List.set_cons_succ]
                refine wpAnyH_take (i := 4) (oi := { dst := some 52, op := Op.load 3 (Operand.tmp 51), type := 3, pos := "diff.go:69", after := #[{ on := 3, ground := Ground.data }], guard := none }) (v := .int .i64 d.ty) rfl (by kernel_rfl) (by kernel_rfl) (by kernel_rfl) (fun _ _ _ h => h) (Or.inl ⟨by rfl, ?_⟩) hHeld ?_
                · (intro w hSw; (try dsimp only at hSw); go_simp)
                try simp only [Act.put, List.setIfInBounds_toArray, List.set_cons_zero, List.set_cons_succ]
                refine wpAnyH_take (i := 5) (oi := { dst := some 53, op := Op.binOp BinOp.neq 3 (Operand.tmp 52) (Operand.const (Value.int IntKind.i64 1)) 3, type := 4, pos := "diff.go:69", after := #[{ on := 4, ground := Ground.data }], guard := none }) (v := .bool false) rfl (by kernel_rfl) (by kernel_rfl) (by kernel_rfl) (fun _ _ _ h => h) (Or.inl ⟨by rfl, ?_⟩) hHeld ?_
                · (intro w hSw; (try dsimp only at hSw); go_simp)
                try simp only [Act.put, List.setIfInBounds_toArray, List.set_cons_zero, List.set_cons_succ]
                refine wpAnyH_take (i := 6) (oi := { dst := some 54, op := Op.move (Operand.tmp 53), type := 4, pos := "diff.go:69", after := #[{ on := 5, ground := Ground.data }], guard := none }) (v := .bool false) rfl (by kernel_rfl) (by kernel_rfl) (by kernel_rfl) (fun _ _ _ h => h) (Or.inl ⟨by rfl, ?_⟩) hHeld ?_
                · (intro w hSw; (try dsimp only at hSw); go_simp)
                try simp only [Act.put, List.setIfInBounds_toArray, List.set_cons_zero, List.set_cons_succ]
                refine wpAnyH_take (i := 7) (oi := { dst := some 55, op := Op.fieldAddr 47 (Operand.tmp 6) 2, type := 0, pos := "diff.go:69", after := #[{ on := 6, ground := Ground.guard }], guard := some (6, true) }) (v := undef) rfl (by kernel_rfl) (by kernel_rfl) (by kernel_rfl) (fun _ _ _ h => h) (Or.inr ⟨by rfl, rfl⟩) hHeld ?_
                try simp only [Act.put, List.setIfInBounds_toArray, List.set_cons_zero, List.set_cons_succ]
                refine wpAnyH_take (i := 8) (oi := { dst := some 56, op := Op.load 3 (Operand.tmp 55), type := 3, pos := "diff.go:69", after := #[{ on := 7, ground := Ground.data }, { on := 6, ground := Ground.guard }], guard := some (6, true) }) (v := undef) rfl (by kernel_rfl) (by kernel_rfl) (by kernel_rfl) (fun _ _ _ h => h) (Or.inr ⟨by rfl, rfl⟩) hHeld ?_
                try simp only [Act.put, List.setIfInBounds_toArray, List.set_cons_zero, List.set_cons_succ]
                refine wpAnyH_take (i := 9) (oi := { dst := some 57, op := Op.move (Operand.tmp 0), type := 58, pos := "diff.go:69", after := #[{ on := 6, ground := Ground.guard }], guard := some (6, true) }) (v := undef) rfl (by kernel_rfl) (by kernel_rfl) (by kernel_rfl) (fun _ _ _ h => h) (Or.inr ⟨by rfl, rfl⟩) hHeld ?_
                try simp only [Act.put, List.setIfInBounds_toArray, List.set_cons_zero, List.set_cons_succ]
                refine wpAnyH_take (i := 10) (oi := { dst := some 58, op := Op.nilCheck (Operand.tmp 57), type := 0, pos := "diff.go:69", after := #[{ on := 9, ground := Ground.data }, { on := 6, ground := Ground.guard }], guard := some (6, true) }) (v := undef) rfl (by kernel_rfl) (by kernel_rfl) (by kernel_rfl) (fun _ _ _ h => h) (Or.inr ⟨by rfl, rfl⟩) hHeld ?_
                try simp only [Act.put, List.setIfInBounds_toArray, List.set_cons_zero, List.set_cons_succ]
                refine wpAnyH_take (i := 11) (oi := { dst := some 59, op := Op.fieldAddr 66 (Operand.tmp 58) 0, type := 0, pos := "diff.go:69", after := #[{ on := 10, ground := Ground.data }, { on := 6, ground := Ground.guard }], guard := some (6, true) }) (v := undef) rfl (by kernel_rfl) (by kernel_rfl) (by kernel_rfl) (fun _ _ _ h => h) (Or.inr ⟨by rfl, rfl⟩) hHeld ?_
                try simp only [Act.put, List.setIfInBounds_toArray, List.set_cons_zero, List.set_cons_succ]
                refine wpAnyH_take (i := 12) (oi := { dst := some 60, op := Op.fieldAddr 51 (Operand.tmp 59) 5, type := 0, pos := "diff.go:69", after := #[{ on := 11, ground := Ground.data }, { on := 6, ground := Ground.guard }], guard := some (6, true) }) (v := undef) rfl (by kernel_rfl) (by kernel_rfl) (by kernel_rfl) (fun _ _ _ h => h) (Or.inr ⟨by rfl, rfl⟩) hHeld ?_
                try simp only [Act.put, List.setIfInBounds_toArray, List.set_cons_zero, List.set_cons_succ]
                refine wpAnyH_take (i := 13) (oi := { dst := some 61, op := Op.load 3 (Operand.tmp 60), type := 3, pos := "diff.go:69", after := #[{ on := 12, ground := Ground.data }, { on := 6, ground := Ground.guard }], guard := some (6, true) }) (v := undef) rfl (by kernel_rfl) (by kernel_rfl) (by kernel_rfl) (fun _ _ _ h => h) (Or.inr ⟨by rfl, rfl⟩) hHeld ?_
                try simp only [Act.put, List.setIfInBounds_toArray, List.set_cons_zero, List.set_cons_succ]
                refine wpAnyH_take (i := 14) (oi := { dst := some 62, op := Op.binOp BinOp.neq 3 (Operand.tmp 56) (Operand.tmp 61) 3, type := 4, pos := "diff.go:69", after := #[{ on := 8, ground := Ground.data }, { on := 13, ground := Ground.data }, { on := 6, ground := Ground.guard }], guard := some (6, true) }) (v := undef) rfl (by kernel_rfl) (by kernel_rfl) (by kernel_rfl) (fun _ _ _ h => h) (Or.inr ⟨by rfl, rfl⟩) hHeld ?_
                try simp only [Act.put, List.setIfInBounds_toArray, List.set_cons_zero, List.set_cons_succ]
                refine wpAnyH_take (i := 15) (oi := { dst := some 63, op := Op.pick (Operand.tmp 54) (Operand.tmp 62) (Operand.const (Value.bool false)), type := 4, pos := "diff.go:69", after := #[{ on := 6, ground := Ground.data }, { on := 14, ground := Ground.data }], guard := none }) (v := .bool false) rfl (by kernel_rfl) (by kernel_rfl) (by kernel_rfl) (fun _ _ _ h => h) (Or.inl ⟨by rfl, ?_⟩) hHeld ?_
                · (intro w hSw; (try dsimp only at hSw); go_simp)
                try simp only [Act.put, List.setIfInBounds_toArray, List.set_cons_zero, List.set_cons_succ]
                refine wpAnyH_take (i := 16) (oi := { dst := some 9, op := Op.assign (Operand.tmp 63), type := 4, pos := "diff.go:69", after := #[{ on := 15, ground := Ground.data }, { on := 6, ground := Ground.chain }, { on := 0, ground := Ground.phase }, { on := 1, ground := Ground.phase }, { on := 2, ground := Ground.phase }, { on := 3, ground := Ground.phase }, { on := 4, ground := Ground.phase }, { on := 5, ground := Ground.phase }, { on := 6, ground := Ground.phase }, { on := 7, ground := Ground.phase }, { on := 8, ground := Ground.phase }, { on := 9, ground := Ground.phase }, { on := 10, ground := Ground.phase }, { on := 11, ground := Ground.phase }, { on := 12, ground := Ground.phase }, { on := 13, ground := Ground.phase }, { on := 14, ground := Ground.phase }, { on := 15, ground := Ground.phase }], guard := none }) (v := .bool false) rfl (by kernel_rfl) (by kernel_rfl) (by kernel_rfl) (fun _ _ _ h => h) (Or.inl ⟨by rfl, ?_⟩) hHeld ?_
                · (intro w hSw; (try dsimp only at hSw); go_simp)
                try simp only [Act.put, List.setIfInBounds_toArray, List.set_cons_zero, List.set_cons_succ]
                refine wpAnyH_done (by kernel_rfl) ?_ _
                obtain ⟨w5, hw5⟩ : ∃ w5, w3.drew = w5 := ⟨_, rfl⟩
                have HY5 : Hid (Below wA.heap.size wA w5) := hidOf (by rw [← hw5]; exact HY3D.out)
                rw [hw5]
                clear hw5
                have e5 : w5.cell? ⟨B, 5, none⟩ = some (.int .i64 x.nd) := HX.out _ HY5.out 5 _ rfl
                have lB5 : B < w5.heap.size := lt_of_cell e5
                have HL5 := hidOf (HLA.out.bel HY5.out)
                have hl5 := HL5.out.ne
                have HST := hidOf (stop_l HL5.out k hlt HBT.out)
                go_wp2_with (go_at_call 35; refine HST.out.mono ?_; rintro e w6 ⟨rfl, ia2, ic2, hL6, hF6⟩; have HL6 := hidOf hL6; have HF6 := hidOf hF6; clear hL6 hF6)
                go_roundw
                case rel => exact ⟨k + 1, T ++ [(k : Int)], ia2, ic2, by omega, by simp, hidOf (by rw [HSU.out, if_pos ⟨HSK.out, by simp [unB, HWN.out]⟩]), HL6, hidOf (HF.out.trans ((HFA.out _ HY5.out).trans HF6.out))⟩
                case measure => simp [intOf]; omega
              · have hq : (d.ty != 1) = true := by simp [hty]
                have HTY := hidOf hty
                clear hty
                by_cases hve : x.ve = d.ve
                · have hq2 : (x.ve != d.ve) = false := by simp [hve]
                  have HVE := hidOf hve
                  clear hve
                  refine wp_region_held_drew (S := fun (Y : World) => Y.cell? ⟨p, 1, none⟩ = some (.int .i64 d.ty) ∧ Y.cell? ⟨B, 2, none⟩ = some (.int .i64 x.ve) ∧ Y.cell? ⟨p, 5, none⟩ = some (.int .i64 d.ve)) (by kernel_rfl) ⟨(HLA.out.bel HY3.out).rg 1 _ rfl, HX.out _ HY3.out 2 _ rfl, (HLA.out.bel HY3.out).rg 5 _ rfl⟩ (fun hHeld => ?_)
                  refine wpAnyH_take (i := 0) (oi := { dst := some 48, op := Op.move (Operand.tmp 0), type := 58, pos := "diff.go:69", after := #[], guard := none }) (v := .pointer (some ⟨p, 0, none⟩)) rfl (by kernel_rfl) (by kernel_rfl) (by kernel_rfl) (fun _ _ _ h => h) (Or.inl ⟨by rfl, ?_⟩) hHeld ?_
                  · (intro w hSw; (try dsimp only at hSw); go_simp)
                  try simp only [Act.put, List.setIfInBounds_toArray, List.set_cons_zero, List.set_cons_succ]
                  refine wpAnyH_take (i := 1) (oi := { dst := some 49, op := Op.nilCheck (Operand.tmp 48), type := 0, pos := "diff.go:69", after := #[{ on := 0, ground := Ground.data }], guard := none }) (v := .pointer (some ⟨p, 0, none⟩)) rfl (by kernel_rfl) (by kernel_rfl) (by kernel_rfl) (fun _ _ _ h => h) (Or.inl ⟨by rfl, ?_⟩) hHeld ?_
                  · (intro w hSw; (try dsimp only at hSw); go_simp)
                  try simp only [Act.put, List.setIfInBounds_toArray, List.set_cons_zero, List.set_cons_succ]
                  refine wpAnyH_take (i := 2) (oi := { dst := some 50, op := Op.fieldAddr 66 (Operand.tmp 49) 0, type := 0, pos := "diff.go:69", after := #[{ on := 1, ground := Ground.data }], guard := none }) (v := .pointer (some ⟨p, 0, none⟩)) rfl (by kernel_rfl) (by kernel_rfl) (by kernel_rfl) (fun _ _ _ h => h) (Or.inl ⟨by rfl, ?_⟩) hHeld ?_
                  · (intro w hSw; (try dsimp only at hSw); go_simp)
                  try simp only [Act.put, List.setIfInBounds_toArray, List.set_cons_zero, List.set_cons_succ]
                  refine wpAnyH_take (i := 3) (oi := { dst := some 51, op := Op.fieldAddr 51 (Operand.tmp 50) 1, type := 0, pos := "diff.go:69", after := #[{ on := 2, ground := Ground.data }], guard := none }) (v := .pointer (some ⟨p, 1, none⟩)) rfl (by kernel_rfl) (by kernel_rfl) (by kernel_rfl) (fun _ _ _ h => h) (Or.inl ⟨by rfl, ?_⟩) hHeld ?_
                  · (intro w hSw; (try dsimp only at hSw); go_simp)
                  try simp only [Act.put, List.setIfInBounds_toArray, List.set_cons_zero, List.set_cons_succ]
                  refine wpAnyH_take (i := 4) (oi := { dst := some 52, op := Op.load 3 (Operand.tmp 51), type := 3, pos := "diff.go:69", after := #[{ on := 3, ground := Ground.data }], guard := none }) (v := .int .i64 d.ty) rfl (by kernel_rfl) (by kernel_rfl) (by kernel_rfl) (fun _ _ _ h => h) (Or.inl ⟨by rfl, ?_⟩) hHeld ?_
                  · (intro w hSw; (try dsimp only at hSw); go_simp)
                  try simp only [Act.put, List.setIfInBounds_toArray, List.set_cons_zero, List.set_cons_succ]
                  refine wpAnyH_take (i := 5) (oi := { dst := some 53, op := Op.binOp BinOp.neq 3 (Operand.tmp 52) (Operand.const (Value.int IntKind.i64 1)) 3, type := 4, pos := "diff.go:69", after := #[{ on := 4, ground := Ground.data }], guard := none }) (v := .bool true) rfl (by kernel_rfl) (by kernel_rfl) (by kernel_rfl) (fun _ _ _ h => h) (Or.inl ⟨by rfl, ?_⟩) hHeld ?_
                  · (intro w hSw; (try dsimp only at hSw); go_simp)
                  try simp only [Act.put, List.setIfInBounds_toArray, List.set_cons_zero, List.set_cons_succ]
                  refine wpAnyH_take (i := 6) (oi := { dst := some 54, op := Op.move (Operand.tmp 53), type := 4, pos := "diff.go:69", after := #[{ on := 5, ground := Ground.data }], guard := none }) (v := .bool true) rfl (by kernel_rfl) (by kernel_rfl) (by kernel_rfl) (fun _ _ _ h => h) (Or.inl ⟨by rfl, ?_⟩) hHeld ?_
                  · (intro w hSw; (try dsimp only at hSw); go_simp)
                  try simp only [Act.put, List.setIfInBounds_toArray, List.set_cons_zero, List.set_cons_succ]
                  refine wpAnyH_take (i := 7) (oi := { dst := some 55, op := Op.fieldAddr 47 (Operand.tmp 6) 2, type := 0, pos := "diff.go:69", after := #[{ on := 6, ground := Ground.guard }], guard := some (6, true) }) (v := .pointer (some ⟨B, 2, none⟩)) rfl (by kernel_rfl) (by kernel_rfl) (by kernel_rfl) (fun _ _ _ h => h) (Or.inl ⟨by rfl, ?_⟩) hHeld ?_
                  · (intro w hSw; (try dsimp only at hSw); go_simp)
                  try simp only [Act.put, List.setIfInBounds_toArray, List.set_cons_zero, List.set_cons_succ]
                  refine wpAnyH_take (i := 8) (oi := { dst := some 56, op := Op.load 3 (Operand.tmp 55), type := 3, pos := "diff.go:69", after := #[{ on := 7, ground := Ground.data }, { on := 6, ground := Ground.guard }], guard := some (6, true) }) (v := .int .i64 x.ve) rfl (by kernel_rfl) (by kernel_rfl) (by kernel_rfl) (fun _ _ _ h => h) (Or.inl ⟨by rfl, ?_⟩) hHeld ?_
                  · (intro w hSw; (try dsimp only at hSw); go_simp)
                  try simp only [Act.put, List.setIfInBounds_toArray, List.set_cons_zero, List.set_cons_succ]
                  refine wpAnyH_take (i := 9) (oi := { dst := some 57, op := Op.move (Operand.tmp 0), type := 58, pos := "diff.go:69", after := #[{ on := 6, ground := Ground.guard }], guard := some (6, true) }) (v := .pointer (some ⟨p, 0, none⟩)) rfl (by kernel_rfl) (by kernel_rfl) (by kernel_rfl) (fun _ _ _ h => h) (Or.inl ⟨by rfl, ?_⟩) hHeld ?_
                  · (intro w hSw; (try dsimp only at hSw); go_simp)
                  try simp only [Act.put, List.setIfInBounds_toArray, List.set_cons_zero, List.set_cons_succ]
                  refine wpAnyH_take (i := 10) (oi := { dst := some 58, op := Op.nilCheck (Operand.tmp 57), type := 0, pos := "diff.go:69", after := #[{ on := 9, ground := Ground.data }, { on := 6, ground := Ground.guard }], guard := some (6, true) }) (v := .pointer (some ⟨p, 0, none⟩)) rfl (by kernel_rfl) (by kernel_rfl) (by kernel_rfl) (fun _ _ _ h => h) (Or.inl ⟨by rfl, ?_⟩) hHeld ?_
                  · (intro w hSw; (try dsimp only at hSw); go_simp)
                  try simp only [Act.put, List.setIfInBounds_toArray, List.set_cons_zero, List.set_cons_succ]
                  refine wpAnyH_take (i := 11) (oi := { dst := some 59, op := Op.fieldAddr 66 (Operand.tmp 58) 0, type := 0, pos := "diff.go:69", after := #[{ on := 10, ground := Ground.data }, { on := 6, ground := Ground.guard }], guard := some (6, true) }) (v := .pointer (some ⟨p, 0, none⟩)) rfl (by kernel_rfl) (by kernel_rfl) (by kernel_rfl) (fun _ _ _ h => h) (Or.inl ⟨by rfl, ?_⟩) hHeld ?_
                  · (intro w hSw; (try dsimp only at hSw); go_simp)
                  try simp only [Act.put, List.setIfInBounds_toArray, List.set_cons_zero, List.set_cons_succ]
                  refine wpAnyH_take (i := 12) (oi := { dst := some 60, op := Op.fieldAddr 51 (Operand.tmp 59) 5, type := 0, pos := "diff.go:69", after := #[{ on := 11, ground := Ground.data }, { on := 6, ground := Ground.guard }], guard := some (6, true) }) (v := .pointer (some ⟨p, 5, none⟩)) rfl (by kernel_rfl) (by kernel_rfl) (by kernel_rfl) (fun _ _ _ h => h) (Or.inl ⟨by rfl, ?_⟩) hHeld ?_
                  · (intro w hSw; (try dsimp only at hSw); go_simp)
                  try simp only [Act.put, List.setIfInBounds_toArray, List.set_cons_zero, List.set_cons_succ]
                  refine wpAnyH_take (i := 13) (oi := { dst := some 61, op := Op.load 3 (Operand.tmp 60), type := 3, pos := "diff.go:69", after := #[{ on := 12, ground := Ground.data }, { on := 6, ground := Ground.guard }], guard := some (6, true) }) (v := .int .i64 d.ve) rfl (by kernel_rfl) (by kernel_rfl) (by kernel_rfl) (fun _ _ _ h => h) (Or.inl ⟨by rfl, ?_⟩) hHeld ?_
                  · (intro w hSw; (try dsimp only at hSw); go_simp)
                  try simp only [Act.put, List.setIfInBounds_toArray, List.set_cons_zero, List.set_cons_succ]
                  refine wpAnyH_take (i := 14) (oi := { dst := some 62, op := Op.binOp BinOp.neq 3 (Operand.tmp 56) (Operand.tmp 61) 3, type := 4, pos := "diff.go:69", after := #[{ on := 8, ground := Ground.data }, { on := 13, ground := Ground.data }, { on := 6, ground := Ground.guard }], guard := some (6, true) }) (v := .bool false) rfl (by kernel_rfl) (by kernel_rfl) (by kernel_rfl) (fun _ _ _ h => h) (Or.inl ⟨by rfl, ?_⟩) hHeld ?_
                  · (intro w hSw; (try dsimp only at hSw); go_simp)
                  try simp only [Act.put, List.setIfInBounds_toArray, List.set_cons_zero, List.set_cons_succ]
                  refine wpAnyH_take (i := 15) (oi := { dst := some 63, op := Op.pick (Operand.tmp 54) (Operand.tmp 62) (Operand.const (Value.bool false)), type := 4, pos := "diff.go:69", after := #[{ on := 6, ground := Ground.data }, { on := 14, ground := Ground.data }], guard := none }) (v := .bool false) rfl (by kernel_rfl) (by kernel_rfl) (by kernel_rfl) (fun _ _ _ h => h) (Or.inl ⟨by rfl, ?_⟩) hHeld ?_
                  · (intro w hSw; (try dsimp only at hSw); go_simp)
                  try simp only [Act.put, List.setIfInBounds_toArray, List.set_cons_zero, List.set_cons_succ]
                  refine wpAnyH_take (i := 16) (oi := { dst := some 9, op := Op.assign (Operand.tmp 63), type := 4, pos := "diff.go:69", after := #[{ on := 15, ground := Ground.data }, { on := 6, ground := Ground.chain }, { on := 0, ground := Ground.phase }, { on := 1, ground := Ground.phase }, { on := 2, ground := Ground.phase }, { on := 3, ground := Ground.phase }, { on := 4, ground := Ground.phase }, { on := 5, ground := Ground.phase }, { on := 6, ground := Ground.phase }, { on := 7, ground := Ground.phase }, { on := 8, ground := Ground.phase }, { on := 9, ground := Ground.phase }, { on := 10, ground := Ground.phase }, { on := 11, ground := Ground.phase }, { on := 12, ground := Ground.phase }, { on := 13, ground := Ground.phase }, { on := 14, ground := Ground.phase }, { on := 15, ground := Ground.phase }], guard := none }) (v := .bool false) rfl (by kernel_rfl) (by kernel_rfl) (by kernel_rfl) (fun _ _ _ h => h) (Or.inl ⟨by rfl, ?_⟩) hHeld ?_
                  · (intro w hSw; (try dsimp only at hSw); go_simp)
                  try simp only [Act.put, List.setIfInBounds_toArray, List.set_cons_zero, List.set_cons_succ]
                  refine wpAnyH_done (by kernel_rfl) ?_ _
                  obtain ⟨w5, hw5⟩ : ∃ w5, w3.drew = w5 := ⟨_, rfl⟩
                  have HY5 : Hid (Below wA.heap.size wA w5) := hidOf (by rw [← hw5]; exact HY3D.out)
                  rw [hw5]
                  clear hw5
                  have e5 : w5.cell? ⟨B, 5, none⟩ = some (.int .i64 x.nd) := HX.out _ HY5.out 5 _ rfl
                  have lB5 : B < w5.heap.size := lt_of_cell e5
                  have HL5 := hidOf (HLA.out.bel HY5.out)
                  have hl5 := HL5.out.ne
                  have HST := hidOf (stop_l HL5.out k hlt HBT.out)
                  go_wp2_with (go_at_call 35; refine HST.out.mono ?_; rintro e w6 ⟨rfl, ia2, ic2, hL6, hF6⟩; have HL6 := hidOf hL6; have HF6 := hidOf hF6; clear hL6 hF6)
                  go_roundw
                  case rel => exact ⟨k + 1, T ++ [(k : Int)], ia2, ic2, by omega, by simp, hidOf (by rw [HSU.out, if_pos ⟨HSK.out, by simp [unB, HWN.out]⟩]), HL6, hidOf (HF.out.trans ((HFA.out _ HY5.out).trans HF6.out))⟩
                  case measure => simp [intOf]; omega
                · have hq2 : (x.ve != d.ve) = true := by simp [hve]
                  have HVE := hidOf hve
                  clear hve
                  refine wp_region_held_drew (S := fun (Y : World) => Y.cell? ⟨p, 1, none⟩ = some (.int .i64 d.ty) ∧ Y.cell? ⟨B, 2, none⟩ = some (.int .i64 x.ve) ∧ Y.cell? ⟨p, 5, none⟩ = some (.int .i64 d.ve)) (by kernel_rfl) ⟨(HLA.out.bel HY3.out).rg 1 _ rfl, HX.out _ HY3.out 2 _ rfl, (HLA.out.bel HY3.out).rg 5 _ rfl⟩ (fun hHeld => ?_)
                  refine wpAnyH_take (i := 0) (oi := { dst := some 48, op := Op.move (Operand.tmp 0), type := 58, pos := "diff.go:69", after := #[], guard := none }) (v := .pointer (some ⟨p, 0, none⟩)) rfl (by kernel_rfl) (by kernel_rfl) (by kernel_rfl) (fun _ _ _ h => h) (Or.inl ⟨by rfl, ?_⟩) hHeld ?_
                  · (intro w hSw; (try dsimp only at hSw); go_simp)
                  try simp only [Act.put, List.setIfInBounds_toArray, List.set_cons_zero, List.set_cons_succ]
                  refine wpAnyH_take (i := 1) (oi := { dst := some 49, op := Op.nilCheck (Operand.tmp 48), type := 0, pos := "diff.go:69", after := #[{ on := 0, ground := Ground.data }], guard := none }) (v := .pointer (some ⟨p, 0, none⟩)) rfl (by kernel_rfl) (by kernel_rfl) (by kernel_rfl) (fun _ _ _ h => h) (Or.inl ⟨by rfl, ?_⟩) hHeld ?_
                  · (intro w hSw; (try dsimp only at hSw); go_simp)
                  try simp only [Act.put, List.setIfInBounds_toArray, List.set_cons_zero, List.set_cons_succ]
                  refine wpAnyH_take (i := 2) (oi := { dst := some 50, op := Op.fieldAddr 66 (Operand.tmp 49) 0, type := 0, pos := "diff.go:69", after := #[{ on := 1, ground := Ground.data }], guard := none }) (v := .pointer (some ⟨p, 0, none⟩)) rfl (by kernel_rfl) (by kernel_rfl) (by kernel_rfl) (fun _ _ _ h => h) (Or.inl ⟨by rfl, ?_⟩) hHeld ?_
                  · (intro w hSw; (try dsimp only at hSw); go_simp)
                  try simp only [Act.put, List.setIfInBounds_toArray, List.set_cons_zero, List.set_cons_succ]
                  refine wpAnyH_take (i := 3) (oi := { dst := some 51, op := Op.fieldAddr 51 (Operand.tmp 50) 1, type := 0, pos := "diff.go:69", after := #[{ on := 2, ground := Ground.data }], guard := none }) (v := .pointer (some ⟨p, 1, none⟩)) rfl (by kernel_rfl) (by kernel_rfl) (by kernel_rfl) (fun _ _ _ h => h) (Or.inl ⟨by rfl, ?_⟩) hHeld ?_
                  · (intro w hSw; (try dsimp only at hSw); go_simp)
                  try simp only [Act.put, List.setIfInBounds_toArray, List.set_cons_zero, List.set_cons_succ]
                  refine wpAnyH_take (i := 4) (oi := { dst := some 52, op := Op.load 3 (Operand.tmp 51), type := 3, pos := "diff.go:69", after := #[{ on := 3, ground := Ground.data }], guard := none }) (v := .int .i64 d.ty) rfl (by kernel_rfl) (by kernel_rfl) (by kernel_rfl) (fun _ _ _ h => h) (Or.inl ⟨by rfl, ?_⟩) hHeld ?_
                  · (intro w hSw; (try dsimp only at hSw); go_simp)
                  try simp only [Act.put, List.setIfInBounds_toArray, List.set_cons_zero, List.set_cons_succ]
                  refine wpAnyH_take (i := 5) (oi := { dst := some 53, op := Op.binOp BinOp.neq 3 (Operand.tmp 52) (Operand.const (Value.int IntKind.i64 1)) 3, type := 4, pos := "diff.go:69", after := #[{ on := 4, ground := Ground.data }], guard := none }) (v := .bool true) rfl (by kernel_rfl) (by kernel_rfl) (by kernel_rfl) (fun _ _ _ h => h) (Or.inl ⟨by rfl, ?_⟩) hHeld ?_
                  · (intro w hSw; (try dsimp only at hSw); go_simp)
                  try simp only [Act.put, List.setIfInBounds_toArray, List.set_cons_zero, List.set_cons_succ]
                  refine wpAnyH_take (i := 6) (oi := { dst := some 54, op := Op.move (Operand.tmp 53), type := 4, pos := "diff.go:69", after := #[{ on := 5, ground := Ground.data }], guard := none }) (v := .bool true) rfl (by kernel_rfl) (by kernel_rfl) (by kernel_rfl) (fun _ _ _ h => h) (Or.inl ⟨by rfl, ?_⟩) hHeld ?_
                  · (intro w hSw; (try dsimp only at hSw); go_simp)
                  try simp only [Act.put, List.setIfInBounds_toArray, List.set_cons_zero, List.set_cons_succ]
                  refine wpAnyH_take (i := 7) (oi := { dst := some 55, op := Op.fieldAddr 47 (Operand.tmp 6) 2, type := 0, pos := "diff.go:69", after := #[{ on := 6, ground := Ground.guard }], guard := some (6, true) }) (v := .pointer (some ⟨B, 2, none⟩)) rfl (by kernel_rfl) (by kernel_rfl) (by kernel_rfl) (fun _ _ _ h => h) (Or.inl ⟨by rfl, ?_⟩) hHeld ?_
                  · (intro w hSw; (try dsimp only at hSw); go_simp)
                  try simp only [Act.put, List.setIfInBounds_toArray, List.set_cons_zero, List.set_cons_succ]
                  refine wpAnyH_take (i := 8) (oi := { dst := some 56, op := Op.load 3 (Operand.tmp 55), type := 3, pos := "diff.go:69", after := #[{ on := 7, ground := Ground.data }, { on := 6, ground := Ground.guard }], guard := some (6, true) }) (v := .int .i64 x.ve) rfl (by kernel_rfl) (by kernel_rfl) (by kernel_rfl) (fun _ _ _ h => h) (Or.inl ⟨by rfl, ?_⟩) hHeld ?_
                  · (intro w hSw; (try dsimp only at hSw); go_simp)
                  try simp only [Act.put, List.setIfInBounds_toArray, List.set_cons_zero, List.set_cons_succ]
                  refine wpAnyH_take (i := 9) (oi := { dst := some 57, op := Op.move (Operand.tmp 0), type := 58, pos := "diff.go:69", after := #[{ on := 6, ground := Ground.guard }], guard := some (6, true) }) (v := .pointer (some ⟨p, 0, none⟩)) rfl (by kernel_rfl) (by kernel_rfl) (by kernel_rfl) (fun _ _ _ h => h) (Or.inl ⟨by rfl, ?_⟩) hHeld ?_
                  · (intro w hSw; (try dsimp only at hSw); go_simp)
                  try simp only [Act.put, List.setIfInBounds_toArray, List.set_cons_zero, List.set_cons_succ]
                  refine wpAnyH_take (i := 10) (oi := { dst := some 58, op := Op.nilCheck (Operand.tmp 57), type := 0, pos := "diff.go:69", after := #[{ on := 9, ground := Ground.data }, { on := 6, ground := Ground.guard }], guard := some (6, true) }) (v := .pointer (some ⟨p, 0, none⟩)) rfl (by kernel_rfl) (by kernel_rfl) (by kernel_rfl) (fun _ _ _ h => h) (Or.inl ⟨by rfl, ?_⟩) hHeld ?_
                  · (intro w hSw; (try dsimp only at hSw); go_simp)
                  try simp only [Act.put, List.setIfInBounds_toArray, List.set_cons_zero, List.set_cons_succ]
                  refine wpAnyH_take (i := 11) (oi := { dst := some 59, op := Op.fieldAddr 66 (Operand.tmp 58) 0, type := 0, pos := "diff.go:69", after := #[{ on := 10, ground := Ground.data }, { on := 6, ground := Ground.guard }], guard := some (6, true) }) (v := .pointer (some ⟨p, 0, none⟩)) rfl (by kernel_rfl) (by kernel_rfl) (by kernel_rfl) (fun _ _ _ h => h) (Or.inl ⟨by rfl, ?_⟩) hHeld ?_
                  · (intro w hSw; (try dsimp only at hSw); go_simp)
                  try simp only [Act.put, List.setIfInBounds_toArray, List.set_cons_zero, List.set_cons_succ]
                  refine wpAnyH_take (i := 12) (oi := { dst := some 60, op := Op.fieldAddr 51 (Operand.tmp 59) 5, type := 0, pos := "diff.go:69", after := #[{ on := 11, ground := Ground.data }, { on := 6, ground := Ground.guard }], guard := some (6, true) }) (v := .pointer (some ⟨p, 5, none⟩)) rfl (by kernel_rfl) (by kernel_rfl) (by kernel_rfl) (fun _ _ _ h => h) (Or.inl ⟨by rfl, ?_⟩) hHeld ?_
                  · (intro w hSw; (try dsimp only at hSw); go_simp)
                  try simp only [Act.put, List.setIfInBounds_toArray, List.set_cons_zero, List.set_cons_succ]
                  refine wpAnyH_take (i := 13) (oi := { dst := some 61, op := Op.load 3 (Operand.tmp 60), type := 3, pos := "diff.go:69", after := #[{ on := 12, ground := Ground.data }, { on := 6, ground := Ground.guard }], guard := some (6, true) }) (v := .int .i64 d.ve) rfl (by kernel_rfl) (by kernel_rfl) (by kernel_rfl) (fun _ _ _ h => h) (Or.inl ⟨by rfl, ?_⟩) hHeld ?_
                  · (intro w hSw; (try dsimp only at hSw); go_simp)
                  try simp only [Act.put, List.setIfInBounds_toArray, List.set_cons_zero, List.set_cons_succ]
                  refine wpAnyH_take (i := 14) (oi := { dst := some 62, op := Op.binOp BinOp.neq 3 (Operand.tmp 56) (Operand.tmp 61) 3, type := 4, pos := "diff.go:69", after := #[{ on := 8, ground := Ground.data }, { on := 13, ground := Ground.data }, { on := 6, ground := Ground.guard }], guard := some (6, true) }) (v := .bool true) rfl (by kernel_rfl) (by kernel_rfl) (by kernel_rfl) (fun _ _ _ h => h) (Or.inl ⟨by rfl, ?_⟩) hHeld ?_
                  · (intro w hSw; (try dsimp only at hSw); go_simp)
                  try simp only [Act.put, List.setIfInBounds_toArray, List.set_cons_zero, List.set_cons_succ]
                  refine wpAnyH_take (i := 15) (oi := { dst := some 63, op := Op.pick (Operand.tmp 54) (Operand.tmp 62) (Operand.const (Value.bool false)), type := 4, pos := "diff.go:69", after := #[{ on := 6, ground := Ground.data }, { on := 14, ground := Ground.data }], guard := none }) (v := .bool true) rfl (by kernel_rfl) (by kernel_rfl) (by kernel_rfl) (fun _ _ _ h => h) (Or.inl ⟨by rfl, ?_⟩) hHeld ?_
                  · (intro w hSw; (try dsimp only at hSw); go_simp)
                  try simp only [Act.put, List.setIfInBounds_toArray, List.set_cons_zero, List.set_cons_succ]
                  refine wpAnyH_take (i := 16) (oi := { dst := some 9, op := Op.assign (Operand.tmp 63), type := 4, pos := "diff.go:69", after := #[{ on := 15, ground := Ground.data }, { on := 6, ground := Ground.chain }, { on := 0, ground := Ground.phase }, { on := 1, ground := Ground.phase }, { on := 2, ground := Ground.phase }, { on := 3, ground := Ground.phase }, { on := 4, ground := Ground.phase }, { on := 5, ground := Ground.phase }, { on := 6, ground := Ground.phase }, { on := 7, ground := Ground.phase }, { on := 8, ground := Ground.phase }, { on := 9, ground := Ground.phase }, { on := 10, ground := Ground.phase }, { on := 11, ground := Ground.phase }, { on := 12, ground := Ground.phase }, { on := 13, ground := Ground.phase }, { on := 14, ground := Ground.phase }, { on := 15, ground := Ground.phase }], guard := none }) (v := .bool true) rfl (by kernel_rfl) (by kernel_rfl) (by kernel_rfl) (fun _ _ _ h => h) (Or.inl ⟨by rfl, ?_⟩) hHeld ?_
                  · (intro w hSw; (try dsimp only at hSw); go_simp)
                  try simp only [Act.put, List.setIfInBounds_toArray, List.set_cons_zero, List.set_cons_succ]
                  refine wpAnyH_done (by kernel_rfl) ?_ _
                  obtain ⟨w5, hw5⟩ : ∃ w5, w3.drew = w5 := ⟨_, rfl⟩
                  have HY5 : Hid (Below wA.heap.size wA w5) := hidOf (by rw [← hw5]; exact HY3D.out)
                  rw [hw5]
                  clear hw5
                  have e5 : w5.cell? ⟨B, 5, none⟩ = some (.int .i64 x.nd) := HX.out _ HY5.out 5 _ rfl
                  have lB5 : B < w5.heap.size := lt_of_cell e5
                  have HL5 := hidOf (HLA.out.bel HY5.out)
                  have hl5 := HL5.out.ne
                  have HST := hidOf (stop_l HL5.out k hlt HBT.out)
                  go_wp2_with (go_at_call 35; refine HST.out.mono ?_; rintro e w6 ⟨rfl, ia2, ic2, hL6, hF6⟩; have HL6 := hidOf hL6; have HF6 := hidOf hF6; clear hL6 hF6)
                  go_roundw
                  case rel => exact ⟨k + 1, T ++ [(k : Int)], ia2, ic2, by omega, by simp, hidOf (by rw [HSU.out, if_pos ⟨HSK.out, by simp [unB, HWN.out]⟩]), HL6, hidOf (HF.out.trans ((HFA.out _ HY5.out).trans HF6.out))⟩
                  case measure => simp [intOf]; omega
      · have hjb : (x.jb != d.id) = true := by simp [hj]
        have HJ := hidOf hj
        clear hj
        refine wp_region_held_drew (S := fun (Y : World) => Y.cell? ⟨B, 1, none⟩ = some (.int .i64 x.jb) ∧ Y.cell? ⟨p, 0, none⟩ = some (.int .i64 d.id)) (by kernel_rfl) ⟨HX.out _ HYA.out 1 _ rfl, (HLA.out.bel HYA.out).rg 0 _ rfl⟩ (fun hHeld => ?_)
        refine wpAnyH_take (i := 0) (oi := { dst := some 22, op := Op.fieldAddr 47 (Operand.tmp 6) 1, type := 0, pos := "diff.go:65", after := #[], guard := none }) (v := .pointer (some ⟨B, 1, none⟩)) rfl (by kernel_rfl) (by kernel_rfl) (by kernel_rfl) (fun _ _ _ h => h) (Or.inl ⟨by rfl, ?_⟩) hHeld ?_
        · (intro w hSw; (try dsimp only at hSw); go_simp)
        try simp only [Act.put, List.setIfInBounds_toArray, List.set_cons_zero, List.set_cons_succ]
        refine wpAnyH_take (i := 1) (oi := { dst := some 23, op := Op.load 3 (Operand.tmp 22), type := 3, pos := "diff.go:65", after := #[{ on := 0, ground := Ground.data }], guard := none }) (v := .int .i64 x.jb) rfl (by kernel_rfl) (by kernel_rfl) (by kernel_rfl) (fun _ _ _ h => h) (Or.inl ⟨by rfl, ?_⟩) hHeld ?_
        · (intro w hSw; (try dsimp only at hSw); go_simp)
        try simp only [Act.put, List.setIfInBounds_toArray, List.set_cons_zero, List.set_cons_succ]
        refine wpAnyH_take (i := 2) (oi := { dst := some 24, op := Op.move (Operand.tmp 0), type := 58, pos := "diff.go:65", after := #[], guard := none }) (v := .pointer (some ⟨p, 0, none⟩)) rfl (by kernel_rfl) (by kernel_rfl) (by kernel_rfl) (fun _ _ _ h => h) (Or.inl ⟨by rfl, ?_⟩) hHeld ?_
        · (intro w hSw; (try dsimp only at hSw); go_simp)
        try simp only [Act.put, List.setIfInBounds_toArray, List.set_cons_zero, List.set_cons_succ]
        refine wpAnyH_take (i := 3) (oi := { dst := some 25, op := Op.nilCheck (Operand.tmp 24), type := 0, pos := "diff.go:65", after := #[{ on := 2, ground := Ground.data }], guard := none }) (v := .pointer (some ⟨p, 0, none⟩)) rfl (by kernel_rfl) (by kernel_rfl) (by kernel_rfl) (fun _ _ _ h => h) (Or.inl ⟨by rfl, ?_⟩) hHeld ?_
        · (intro w hSw; (try dsimp only at hSw); go_simp)
        try simp only [Act.put, List.setIfInBounds_toArray, List.set_cons_zero, List.set_cons_succ]
        refine wpAnyH_take (i := 4) (oi := { dst := some 26, op := Op.fieldAddr 66 (Operand.tmp 25) 0, type := 0, pos := "diff.go:65", after := #[{ on := 3, ground := Ground.data }], guard := none }) (v := .pointer (some ⟨p, 0, none⟩)) rfl (by kernel_rfl) (by kernel_rfl) (by kernel_rfl) (fun _ _ _ h => h) (Or.inl ⟨by rfl, ?_⟩) hHeld ?_
        · (intro w hSw; (try dsimp only at hSw); go_simp)
        try simp only [Act.put, List.setIfInBounds_toArray, List.set_cons_zero, List.set_cons_succ]
        refine wpAnyH_take (i := 5) (oi := { dst := some 27, op := Op.fieldAddr 51 (Operand.tmp 26) 0, type := 0, pos := "diff.go:65", after := #[{ on := 4, ground := Ground.data }], guard := none }) (v := .pointer (some ⟨p, 0, none⟩)) rfl (by kernel_rfl) (by kernel_rfl) (by kernel_rfl) (fun _ _ _ h => h) (Or.inl ⟨by rfl, ?_⟩) hHeld ?_
        · (intro w hSw; (try dsimp only at hSw); go_simp)
        try simp only [Act.put, List.setIfInBounds_toArray, List.set_cons_zero, List.set_cons_succ]
        refine wpAnyH_take (i := 6) (oi := { dst := some 28, op := Op.load 3 (Operand.tmp 27), type := 3, pos := "diff.go:65", after := #[{ on := 5, ground := Ground.data }], guard := none }) (v := .int .i64 d.id) rfl (by kernel_rfl) (by kernel_rfl) (by kernel_rfl) (fun _ _ _ h => h) (Or.inl ⟨by rfl, ?_⟩) hHeld ?_
        · (intro w hSw; (try dsimp only at hSw); go_simp)
        try simp only [Act.put, List.setIfInBounds_toArray, List.set_cons_zero, List.set_cons_succ]
        refine wpAnyH_take (i := 7) (oi := { dst := some 29, op := Op.binOp BinOp.neq 3 (Operand.tmp 23) (Operand.tmp 28) 3, type := 4, pos := "diff.go:65", after := #[{ on := 1, ground := Ground.data }, { on := 6, ground := Ground.data }], guard := none }) (v := .bool true) rfl (by kernel_rfl) (by kernel_rfl) (by kernel_rfl) (fun _ _ _ h => h) (Or.inl ⟨by rfl, ?_⟩) hHeld ?_
        · (intro w hSw; (try dsimp only at hSw); go_simp)
        try simp only [Act.put, List.setIfInBounds_toArray, List.set_cons_zero, List.set_cons_succ]
        refine wpAnyH_take (i := 8) (oi := { dst := some 30, op := Op.move (Operand.tmp 29), type := 4, pos := "diff.go:65", after := #[{ on := 7, ground := Ground.data }], guard := none }) (v := .bool true) rfl (by kernel_rfl) (by kernel_rfl) (by kernel_rfl) (fun _ _ _ h => h) (Or.inl ⟨by rfl, ?_⟩) hHeld ?_
        · (intro w hSw; (try dsimp only at hSw); go_simp)
        try simp only [Act.put, List.setIfInBounds_toArray, List.set_cons_zero, List.set_cons_succ]
        refine wpAnyH_take (i := 9) (oi := { dst := some 31, op := Op.load 47 (Operand.tmp 6), type := 47, pos := "diff.go:65", after := #[{ on := 8, ground := Ground.guard }], guard := some (8, false) }) (v := undef) rfl (by kernel_rfl) (by kernel_rfl) (by kernel_rfl) (fun _ _ _ h => h) (Or.inr ⟨by rfl, rfl⟩) hHeld ?_
        try simp only [Act.put, List.setIfInBounds_toArray, List.set_cons_zero, List.set_cons_succ]
        refine wpAnyH_take (i := 10) (oi := { dst := some 32, op := Op.call { callee := Callee.value (Operand.func 33), args := #[Operand.tmp 31], argTypes := #[47] }, type := 4, pos := "diff.go:65", after := #[{ on := 9, ground := Ground.data }, { on := 8, ground := Ground.chain }, { on := 8, ground := Ground.guard }], guard := some (8, false) }) (v := undef) rfl (by kernel_rfl) (by kernel_rfl) (by kernel_rfl) (fun _ _ _ h => h) (Or.inr ⟨by rfl, rfl⟩) hHeld ?_
        try simp only [Act.put, List.setIfInBounds_toArray, List.set_cons_zero, List.set_cons_succ]
        refine wpAnyH_take (i := 11) (oi := { dst := some 33, op := Op.pick (Operand.tmp 30) (Operand.const (Value.bool true)) (Operand.tmp 32), type := 4, pos := "diff.go:65", after := #[{ on := 8, ground := Ground.data }, { on := 10, ground := Ground.data }], guard := none }) (v := .bool true) rfl (by kernel_rfl) (by kernel_rfl) (by kernel_rfl) (fun _ _ _ h => h) (Or.inl ⟨by rfl, ?_⟩) hHeld ?_
        · (intro w hSw; (try dsimp only at hSw); go_simp)
        try simp only [Act.put, List.setIfInBounds_toArray, List.set_cons_zero, List.set_cons_succ]
        refine wpAnyH_take (i := 12) (oi := { dst := some 34, op := Op.move (Operand.tmp 33), type := 4, pos := "diff.go:65", after := #[{ on := 11, ground := Ground.data }, { on := 10, ground := Ground.chain }], guard := none }) (v := .bool true) rfl (by kernel_rfl) (by kernel_rfl) (by kernel_rfl) (fun _ _ _ h => h) (Or.inl ⟨by rfl, ?_⟩) hHeld ?_
        · (intro w hSw; (try dsimp only at hSw); go_simp)
        try simp only [Act.put, List.setIfInBounds_toArray, List.set_cons_zero, List.set_cons_succ]
        refine wpAnyH_take (i := 13) (oi := { dst := some 35, op := Op.fieldAddr 47 (Operand.tmp 6) 8, type := 0, pos := "diff.go:65", after := #[{ on := 12, ground := Ground.guard }], guard := some (12, false) }) (v := undef) rfl (by kernel_rfl) (by kernel_rfl) (by kernel_rfl) (fun _ _ _ h => h) (Or.inr ⟨by rfl, rfl⟩) hHeld ?_
        try simp only [Act.put, List.setIfInBounds_toArray, List.set_cons_zero, List.set_cons_succ]
        refine wpAnyH_take (i := 14) (oi := { dst := some 36, op := Op.load 4 (Operand.tmp 35), type := 4, pos := "diff.go:65", after := #[{ on := 13, ground := Ground.data }, { on := 12, ground := Ground.guard }], guard := some (12, false) }) (v := undef) rfl (by kernel_rfl) (by kernel_rfl) (by kernel_rfl) (fun _ _ _ h => h) (Or.inr ⟨by rfl, rfl⟩) hHeld ?_
        try simp only [Act.put, List.setIfInBounds_toArray, List.set_cons_zero, List.set_cons_succ]
        refine wpAnyH_take (i := 15) (oi := { dst := some 37, op := Op.pick (Operand.tmp 34) (Operand.const (Value.bool true)) (Operand.tmp 36), type := 4, pos := "diff.go:65", after := #[{ on := 12, ground := Ground.data }, { on := 14, ground := Ground.data }], guard := none }) (v := .bool true) rfl (by kernel_rfl) (by kernel_rfl) (by kernel_rfl) (fun _ _ _ h => h) (Or.inl ⟨by rfl, ?_⟩) hHeld ?_
        · (intro w hSw; (try dsimp only at hSw); go_simp)
        try simp only [Act.put, List.setIfInBounds_toArray, List.set_cons_zero, List.set_cons_succ]
        refine wpAnyH_done (by kernel_rfl) ?_ _
        go_wp2
        go_roundw
        case rel => exact ⟨k + 1, T, ia, ic, by omega, by simp, hidOf (by rw [HSU.out, if_neg (fun h => by have := h.1; simp [skB, HJ.out] at this)]), hidOf (HLA.out.bel HYD.out), hidOf (HF.out.trans (HFA.out _ HYD.out))⟩
        case measure => simp [intOf]; omega
    · have hkl : k = A.length := by omega
      subst hkl
      have HTT := HT.out
      subst HTT
      go_wp2
      go_end0
      exact ⟨rfl, ia, ⟨ic, HL.out⟩, HF1.out.trans HF.out⟩
end Go.Proofs.Ytaaodmagchpnbaa
