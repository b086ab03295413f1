/- In which slots a job is done: the code's done. -/
import Derived.Test.YtaaodmagchpnbaaXw
namespace Go.Proofs.Ytaaodmagchpnbaa
open Go.RowKit Go.Shelf
def unP (D : List (Int × Int)) (j : Int × Int) : Option Value := if j ∈ D then some (.agg #[]) else none
theorem unP_snoc (D : List (Int × Int)) (z : Int × Int) : (fun j => if j = z then some (.agg #[]) else unP D j) = unP (D ++ [z]) := by
  funext j
  unfold unP
  by_cases h : j = z
  · simp [h]
  · by_cases h2 : j ∈ D <;> simp [h, h2]
theorem unP_look {w : World} {b : Nat} {D : List (Int × Int)} (h : MpR w b kS (unP D)) (g i : Int) : (Instr.lookup 89 (.map (some b)) (.agg #[.int .i64 g, .int .i64 i]) true).run Try.prog w = .ok (.tuple #[.agg #[], .bool (decide ((g, i) ∈ D))]) w := by
  have := h.look kyS Try.underlying89 (Try.zeroValue91 w) (g, i) true
  rw [if_pos rfl] at this
  refine this.trans ?_
  unfold unP
  by_cases h : (g, i) ∈ D <;> simp [h]
def dnK (d : Jb) (A : List Al) : Nat → List (Int × Int)
  | 0 => []
  | k + 1 => if (A[k]?.getD default).jb = d.id ∧ (A[k]?.getD default).ve = d.ve ∧ (A[k]?.getD default).st = 3 then dnK d A k ++ [((A[k]?.getD default).gr, (A[k]?.getD default).ix)] else dnK d A k
def dnV (d : Jb) (A : List Al) : List (Int × Int) := if d.ty = 2 then dnK d A A.length else []
theorem dnK_at (d : Jb) (A : List Al) (k : Nat) (D : List (Int × Int)) (hD : D = dnK d A k) (h : k < A.length) (x : Al) (hx : A[k] = x) : dnK d A (k + 1) = if x.jb = d.id ∧ x.ve = d.ve ∧ x.st = 3 then D ++ [(x.gr, x.ix)] else D := by
  rw [dnK, ← hD, getD_at A k h, hx]
set_option maxRecDepth 100000 in
set_option maxHeartbeats 4000000 in
theorem done_any (p : Nat) (d : Jb) (ga : Option Addr) (gc : Nat) (lb : Array Value) (aa : Option Addr) (ac : Nat) (A : List Al) (ho st : Option Nat) (ia : Option Addr) (il ic : Nat) (w : World)
    (hp : w.rangeAt p 0 (lkC d ga gc lb aa A.length ac ho st ia il ic)) (lp : p < w.heap.size) (hA : Fl w (fun b => b < w.heap.size) 11 88 Al.cs aa A) :
    Calls Try.prog 37 #[.pointer (some ⟨p, 0, none⟩)] w fun e w' => e = .returned (.map (some w.heap.size)) ∧ MpR w' w.heap.size kS (unP (dnV d A)) ∧ Below w.heap.size w w' := by
  have hbd := hA.bd
  have hmm := @run_makeMap Try.prog
  have hB1 := below1 w (.map #[] 0)
  have HP := hidOf hp
  have hp1 := range_of hp (hB1.block p lp)
  have q1 : (w.alloc (.map #[] 0)).cell? ⟨p, 1, none⟩ = some (.int .i64 d.ty) := hp1 1 _ rfl
  have q8 : (w.alloc (.map #[] 0)).cell? ⟨p, 8, none⟩ = some (.slice aa A.length ac) := hp1 8 _ rfl
  have HA := hidOf hA
  clear hA hp hp1
  by_cases hty : d.ty = 2
  · have h1 : (d.ty != 2) = false := by simp [hty]
    have h2 : (d.ty == 2) = true := by simp [hty]
    have HV : Hid (dnV d A = dnK d A A.length) := hidOf (by unfold dnV; rw [if_pos hty])
    clear hty
    go_enter Try.func37, Try.ntmps37
    go_wp2
    go_loopw [19] (fun i wr => ∃ (k : Nat) (D : List (Int × Int)), k ≤ A.length ∧ i = .int .i64 k ∧ Hid (D = dnK d A k) ∧ Hid (MpR wr w.heap.size kS (unP D)) ∧ Hid (Below w.heap.size w wr) ∧ w.heap.size + 1 ≤ wr.heap.size) (fun i _ => A.length - (intOf i).toNat)
    case atStart => exact ⟨0, [], Nat.zero_le _, rfl, hidOf rfl, hidOf (MpR.new w kS), hidOf hB1, by simp⟩
    case round =>
      obtain ⟨k, D, hk, rfl, HD, HM, HB, hsz⟩ := hrel
      clear q1 q8
      by_cases hlt : k < A.length
      · obtain ⟨b, off, ha, hQb, hcc⟩ := HA.out.at k hlt
        have hbw : b < w.heap.size := hQb
        obtain ⟨x, hx⟩ : ∃ x, A[k] = x := ⟨_, rfl⟩
        have HDK := hidOf (dnK_at d A k D HD.out hlt x hx)
        rw [hx] at hcc
        clear hx
        subst ha
        have hcr := range_of hcc (HB.out.block b hbw)
        have hbl : b < wr.heap.size := by omega
        have lpr : p < wr.heap.size := by omega
        have c0 : wr.cell? ⟨b, off + k * 11, none⟩ = some (.int .i64 x.id) := hcr 0 _ rfl
        have c1 : wr.cell? ⟨b, off + k * 11 + 1, none⟩ = some (.int .i64 x.jb) := hcr 1 _ rfl
        have c2 : wr.cell? ⟨b, off + k * 11 + 2, none⟩ = some (.int .i64 x.ve) := hcr 2 _ rfl
        have c3 : wr.cell? ⟨b, off + k * 11 + 3, none⟩ = some (.int .i64 x.gr) := hcr 3 _ rfl
        have c4 : wr.cell? ⟨b, off + k * 11 + 4, none⟩ = some (.int .i64 x.ix) := hcr 4 _ rfl
        have c5 : wr.cell? ⟨b, off + k * 11 + 5, none⟩ = some (.int .i64 x.nd) := hcr 5 _ rfl
        have c6 : wr.cell? ⟨b, off + k * 11 + 6, none⟩ = some (.int .i64 x.ep) := hcr 6 _ rfl
        have c7 : wr.cell? ⟨b, off + k * 11 + 7, none⟩ = some (.int .i64 x.c) := hcr 7 _ rfl
        have c8 : wr.cell? ⟨b, off + k * 11 + 8, none⟩ = some (.int .i64 x.m) := hcr 8 _ rfl
        have c9 : wr.cell? ⟨b, off + k * 11 + 9, none⟩ = some (.bool x.sp) := hcr 9 _ rfl
        have c10 : wr.cell? ⟨b, off + k * 11 + 10, none⟩ = some (.int .i64 x.st) := hcr 10 _ rfl
        have hpr := range_of HP.out (HB.out.block p lp)
        clear hcc hcr
        go_upto_region 7 with (fail)
        obtain ⟨wA, hwA⟩ : ∃ wA, wr.alloc (.cells #[.int .i64 x.id, .int .i64 x.jb, .int .i64 x.ve, .int .i64 x.gr, .int .i64 x.ix, .int .i64 x.nd, .int .i64 x.ep, .int .i64 x.c, .int .i64 x.m, .bool x.sp, .int .i64 x.st] 47) = wA := ⟨_, rfl⟩
        have hbA : Below wr.heap.size wr wA := by rw [← hwA]; exact below1 _ _
        have hbX : wA.rangeAt wr.heap.size 0 (Al.cs x) := by rw [← hwA]; exact box_new (wr := wr) (cs := Al.cs x) (t := 47) (Below.refl _ _)
        rw [hwA]
        clear hwA c0 c1 c2 c3 c4 c5 c6 c7 c8 c9 c10
        have hpA := range_of hpr (hbA.block p lpr)
        obtain ⟨B, hB⟩ : ∃ B, wr.heap.size = B := ⟨_, rfl⟩
        have hbX : wA.rangeAt B 0 (Al.cs x) := by rw [← hB]; exact hbX
        rw [hB]
        have g1 : wA.cell? ⟨B, 1, none⟩ = some (.int .i64 x.jb) := hbX 1 _ rfl
        have g2 : wA.cell? ⟨B, 2, none⟩ = some (.int .i64 x.ve) := hbX 2 _ rfl
        have g10 : wA.cell? ⟨B, 10, none⟩ = some (.int .i64 x.st) := hbX 10 _ rfl
        have f0 : wA.cell? ⟨p, 0, none⟩ = some (.int .i64 d.id) := hpA 0 _ rfl
        have f5 : wA.cell? ⟨p, 5, none⟩ = some (.int .i64 d.ve) := hpA 5 _ rfl
        have lB : B < wA.heap.size := lt_of_cell g1
        have lpA : p < wA.heap.size := lt_of_cell f0
        have HZD := hidOf (hbA.trans ((bdrew wA).mono hbA.size))
        have HBX := hidOf hbX
        have HBB := hidOf hB
        clear hbX hpA hpr hbA hB
        by_cases hj : x.jb = d.id
        · have hj1 : (x.jb == d.id) = true := by simp [hj]
          have HJ := hidOf hj
          clear hj
          by_cases hv : x.ve = d.ve
          · have hv1 : (x.ve == d.ve) = true := by simp [hv]
            have HVE := hidOf hv
            clear hv
            by_cases hs : x.st = 3
            · have hs1 : (x.st == 3) = true := by simp [hs]
              have HST := hidOf hs
              clear hs
              refine wp_region_held_drew (S := fun (Y : World) => Y.cell? ⟨B, 1, none⟩ = some (.int .i64 x.jb) ∧ Y.cell? ⟨B, 2, none⟩ = some (.int .i64 x.ve) ∧ Y.cell? ⟨B, 10, none⟩ = some (.int .i64 x.st) ∧ Y.cell? ⟨p, 0, none⟩ = some (.int .i64 d.id) ∧ Y.cell? ⟨p, 5, none⟩ = some (.int .i64 d.ve)) (by kernel_rfl) ⟨g1, g2, g10, f0, f5⟩ (fun hHeld => ?_)
              refine wpAnyH_take (i := 0) (oi := { dst := some 23, op := Op.fieldAddr 47 (Operand.tmp 5) 1, type := 0, pos := "diff.go:143", after := #[], guard := none }) (v := .pointer (some ⟨B, 1, none⟩)) rfl (by kernel_rfl) (by kernel_rfl) (by kernel_rfl) (fun _ _ _ h => h) (Or.inl ⟨by rfl, ?_⟩) hHeld ?_
              · (intro w hSw; (try dsimp only at hSw); go_simp)
              try simp only [Act.put, List.setIfInBounds_toArray, List.set_cons_zero, List.set_cons_succ]
              refine wpAnyH_take (i := 1) (oi := { dst := some 24, op := Op.load 3 (Operand.tmp 23), type := 3, pos := "diff.go:143", after := #[{ on := 0, ground := Ground.data }], guard := none }) (v := .int .i64 x.jb) rfl (by kernel_rfl) (by kernel_rfl) (by kernel_rfl) (fun _ _ _ h => h) (Or.inl ⟨by rfl, ?_⟩) hHeld ?_
              · (intro w hSw; (try dsimp only at hSw); go_simp)
              try simp only [Act.put, List.setIfInBounds_toArray, List.set_cons_zero, List.set_cons_succ]
              refine wpAnyH_take (i := 2) (oi := { dst := some 25, op := Op.move (Operand.tmp 0), type := 58, pos := "diff.go:143", after := #[], guard := none }) (v := .pointer (some ⟨p, 0, none⟩)) rfl (by kernel_rfl) (by kernel_rfl) (by kernel_rfl) (fun _ _ _ h => h) (Or.inl ⟨by rfl, ?_⟩) hHeld ?_
              · (intro w hSw; (try dsimp only at hSw); go_simp)
              try simp only [Act.put, List.setIfInBounds_toArray, List.set_cons_zero, List.set_cons_succ]
              refine wpAnyH_take (i := 3) (oi := { dst := some 26, op := Op.nilCheck (Operand.tmp 25), type := 0, pos := "diff.go:143", after := #[{ on := 2, ground := Ground.data }], guard := none }) (v := .pointer (some ⟨p, 0, none⟩)) rfl (by kernel_rfl) (by kernel_rfl) (by kernel_rfl) (fun _ _ _ h => h) (Or.inl ⟨by rfl, ?_⟩) hHeld ?_
              · (intro w hSw; (try dsimp only at hSw); go_simp)
              try simp only [Act.put, List.setIfInBounds_toArray, List.set_cons_zero, List.set_cons_succ]
              refine wpAnyH_take (i := 4) (oi := { dst := some 27, op := Op.fieldAddr 66 (Operand.tmp 26) 0, type := 0, pos := "diff.go:143", after := #[{ on := 3, ground := Ground.data }], guard := none }) (v := .pointer (some ⟨p, 0, none⟩)) rfl (by kernel_rfl) (by kernel_rfl) (by kernel_rfl) (fun _ _ _ h => h) (Or.inl ⟨by rfl, ?_⟩) hHeld ?_
              · (intro w hSw; (try dsimp only at hSw); go_simp)
              try simp only [Act.put, List.setIfInBounds_toArray, List.set_cons_zero, List.set_cons_succ]
              refine wpAnyH_take (i := 5) (oi := { dst := some 28, op := Op.fieldAddr 51 (Operand.tmp 27) 0, type := 0, pos := "diff.go:143", after := #[{ on := 4, ground := Ground.data }], guard := none }) (v := .pointer (some ⟨p, 0, none⟩)) rfl (by kernel_rfl) (by kernel_rfl) (by kernel_rfl) (fun _ _ _ h => h) (Or.inl ⟨by rfl, ?_⟩) hHeld ?_
              · (intro w hSw; (try dsimp only at hSw); go_simp)
              try simp only [Act.put, List.setIfInBounds_toArray, List.set_cons_zero, List.set_cons_succ]
              refine wpAnyH_take (i := 6) (oi := { dst := some 29, op := Op.load 3 (Operand.tmp 28), type := 3, pos := "diff.go:143", after := #[{ on := 5, ground := Ground.data }], guard := none }) (v := .int .i64 d.id) rfl (by kernel_rfl) (by kernel_rfl) (by kernel_rfl) (fun _ _ _ h => h) (Or.inl ⟨by rfl, ?_⟩) hHeld ?_
              · (intro w hSw; (try dsimp only at hSw); go_simp)
              try simp only [Act.put, List.setIfInBounds_toArray, List.set_cons_zero, List.set_cons_succ]
              refine wpAnyH_take (i := 7) (oi := { dst := some 30, op := Op.binOp BinOp.eql 3 (Operand.tmp 24) (Operand.tmp 29) 3, type := 4, pos := "diff.go:143", after := #[{ on := 1, ground := Ground.data }, { on := 6, ground := Ground.data }], guard := none }) (v := .bool true) rfl (by kernel_rfl) (by kernel_rfl) (by kernel_rfl) (fun _ _ _ h => h) (Or.inl ⟨by rfl, ?_⟩) hHeld ?_
              · (intro w hSw; (try dsimp only at hSw); go_simp)
              try simp only [Act.put, List.setIfInBounds_toArray, List.set_cons_zero, List.set_cons_succ]
              refine wpAnyH_take (i := 8) (oi := { dst := some 31, op := Op.move (Operand.tmp 30), type := 4, pos := "diff.go:143", after := #[{ on := 7, ground := Ground.data }], guard := none }) (v := .bool true) rfl (by kernel_rfl) (by kernel_rfl) (by kernel_rfl) (fun _ _ _ h => h) (Or.inl ⟨by rfl, ?_⟩) hHeld ?_
              · (intro w hSw; (try dsimp only at hSw); go_simp)
              try simp only [Act.put, List.setIfInBounds_toArray, List.set_cons_zero, List.set_cons_succ]
              refine wpAnyH_take (i := 9) (oi := { dst := some 32, op := Op.fieldAddr 47 (Operand.tmp 5) 2, type := 0, pos := "diff.go:143", after := #[{ on := 8, ground := Ground.guard }], guard := some (8, true) }) (v := .pointer (some ⟨B, 2, none⟩)) rfl (by kernel_rfl) (by kernel_rfl) (by kernel_rfl) (fun _ _ _ h => h) (Or.inl ⟨by rfl, ?_⟩) hHeld ?_
              · (intro w hSw; (try dsimp only at hSw); go_simp)
              try simp only [Act.put, List.setIfInBounds_toArray, List.set_cons_zero, List.set_cons_succ]
              refine wpAnyH_take (i := 10) (oi := { dst := some 33, op := Op.load 3 (Operand.tmp 32), type := 3, pos := "diff.go:143", after := #[{ on := 9, ground := Ground.data }, { on := 8, ground := Ground.guard }], guard := some (8, true) }) (v := .int .i64 x.ve) rfl (by kernel_rfl) (by kernel_rfl) (by kernel_rfl) (fun _ _ _ h => h) (Or.inl ⟨by rfl, ?_⟩) hHeld ?_
              · (intro w hSw; (try dsimp only at hSw); go_simp)
              try simp only [Act.put, List.setIfInBounds_toArray, List.set_cons_zero, List.set_cons_succ]
              refine wpAnyH_take (i := 11) (oi := { dst := some 34, op := Op.move (Operand.tmp 0), type := 58, pos := "diff.go:143", after := #[{ on := 8, ground := Ground.guard }], guard := some (8, true) }) (v := .pointer (some ⟨p, 0, none⟩)) rfl (by kernel_rfl) (by kernel_rfl) (by kernel_rfl) (fun _ _ _ h => h) (Or.inl ⟨by rfl, ?_⟩) hHeld ?_
              · (intro w hSw; (try dsimp only at hSw); go_simp)
              try simp only [Act.put, List.setIfInBounds_toArray, List.set_cons_zero, List.set_cons_succ]
              refine wpAnyH_take (i := 12) (oi := { dst := some 35, op := Op.nilCheck (Operand.tmp 34), type := 0, pos := "diff.go:143", after := #[{ on := 11, ground := Ground.data }, { on := 8, ground := Ground.guard }], guard := some (8, true) }) (v := .pointer (some ⟨p, 0, none⟩)) rfl (by kernel_rfl) (by kernel_rfl) (by kernel_rfl) (fun _ _ _ h => h) (Or.inl ⟨by rfl, ?_⟩) hHeld ?_
              · (intro w hSw; (try dsimp only at hSw); go_simp)
              try simp only [Act.put, List.setIfInBounds_toArray, List.set_cons_zero, List.set_cons_succ]
              refine wpAnyH_take (i := 13) (oi := { dst := some 36, op := Op.fieldAddr 66 (Operand.tmp 35) 0, type := 0, pos := "diff.go:143", after := #[{ on := 12, ground := Ground.data }, { on := 8, ground := Ground.guard }], guard := some (8, true) }) (v := .pointer (some ⟨p, 0, none⟩)) rfl (by kernel_rfl) (by kernel_rfl) (by kernel_rfl) (fun _ _ _ h => h) (Or.inl ⟨by rfl, ?_⟩) hHeld ?_
              · (intro w hSw; (try dsimp only at hSw); go_simp)
              try simp only [Act.put, List.setIfInBounds_toArray, List.set_cons_zero, List.set_cons_succ]
              refine wpAnyH_take (i := 14) (oi := { dst := some 37, op := Op.fieldAddr 51 (Operand.tmp 36) 5, type := 0, pos := "diff.go:143", after := #[{ on := 13, ground := Ground.data }, { on := 8, ground := Ground.guard }], guard := some (8, true) }) (v := .pointer (some ⟨p, 5, none⟩)) rfl (by kernel_rfl) (by kernel_rfl) (by kernel_rfl) (fun _ _ _ h => h) (Or.inl ⟨by rfl, ?_⟩) hHeld ?_
              · (intro w hSw; (try dsimp only at hSw); go_simp)
              try simp only [Act.put, List.setIfInBounds_toArray, List.set_cons_zero, List.set_cons_succ]
              refine wpAnyH_take (i := 15) (oi := { dst := some 38, op := Op.load 3 (Operand.tmp 37), type := 3, pos := "diff.go:143", after := #[{ on := 14, ground := Ground.data }, { on := 8, ground := Ground.guard }], guard := some (8, true) }) (v := .int .i64 d.ve) rfl (by kernel_rfl) (by kernel_rfl) (by kernel_rfl) (fun _ _ _ h => h) (Or.inl ⟨by rfl, ?_⟩) hHeld ?_
              · (intro w hSw; (try dsimp only at hSw); go_simp)
              try simp only [Act.put, List.setIfInBounds_toArray, List.set_cons_zero, List.set_cons_succ]
              refine wpAnyH_take (i := 16) (oi := { dst := some 39, op := Op.binOp BinOp.eql 3 (Operand.tmp 33) (Operand.tmp 38) 3, type := 4, pos := "diff.go:143", after := #[{ on := 10, ground := Ground.data }, { on := 15, ground := Ground.data }, { on := 8, ground := Ground.guard }], guard := some (8, true) }) (v := .bool true) rfl (by kernel_rfl) (by kernel_rfl) (by kernel_rfl) (fun _ _ _ h => h) (Or.inl ⟨by rfl, ?_⟩) hHeld ?_
              · (intro w hSw; (try dsimp only at hSw); go_simp)
              try simp only [Act.put, List.setIfInBounds_toArray, List.set_cons_zero, List.set_cons_succ]
              refine wpAnyH_take (i := 17) (oi := { dst := some 40, op := Op.pick (Operand.tmp 31) (Operand.tmp 39) (Operand.const (Value.bool false)), type := 4, pos := "diff.go:143", after := #[{ on := 8, ground := Ground.data }, { on := 16, ground := Ground.data }], guard := none }) (v := .bool true) rfl (by kernel_rfl) (by kernel_rfl) (by kernel_rfl) (fun _ _ _ h => h) (Or.inl ⟨by rfl, ?_⟩) hHeld ?_
              · (intro w hSw; (try dsimp only at hSw); go_simp)
              try simp only [Act.put, List.setIfInBounds_toArray, List.set_cons_zero, List.set_cons_succ]
              refine wpAnyH_take (i := 18) (oi := { dst := some 41, op := Op.move (Operand.tmp 40), type := 4, pos := "diff.go:143", after := #[{ on := 17, ground := Ground.data }, { on := 8, ground := Ground.chain }], guard := none }) (v := .bool true) rfl (by kernel_rfl) (by kernel_rfl) (by kernel_rfl) (fun _ _ _ h => h) (Or.inl ⟨by rfl, ?_⟩) hHeld ?_
              · (intro w hSw; (try dsimp only at hSw); go_simp)
              try simp only [Act.put, List.setIfInBounds_toArray, List.set_cons_zero, List.set_cons_succ]
              refine wpAnyH_take (i := 19) (oi := { dst := some 42, op := Op.fieldAddr 47 (Operand.tmp 5) 9, type := 0, pos := "diff.go:143", after := #[{ on := 18, ground := Ground.guard }], guard := some (18, true) }) (v := .pointer (some ⟨B, 10, none⟩)) rfl (by kernel_rfl) (by kernel_rfl) (by kernel_rfl) (fun _ _ _ h => h) (Or.inl ⟨by rfl, ?_⟩) hHeld ?_
              · (intro w hSw; (try dsimp only at hSw); go_simp)
              try simp only [Act.put, List.setIfInBounds_toArray, List.set_cons_zero, List.set_cons_succ]
              refine wpAnyH_take (i := 20) (oi := { dst := some 43, op := Op.load 3 (Operand.tmp 42), type := 3, pos := "diff.go:143", after := #[{ on := 19, ground := Ground.data }, { on := 18, ground := Ground.guard }], guard := some (18, true) }) (v := .int .i64 x.st) rfl (by kernel_rfl) (by kernel_rfl) (by kernel_rfl) (fun _ _ _ h => h) (Or.inl ⟨by rfl, ?_⟩) hHeld ?_
              · (intro w hSw; (try dsimp only at hSw); go_simp)
              try simp only [Act.put, List.setIfInBounds_toArray, List.set_cons_zero, List.set_cons_succ]
              refine wpAnyH_take (i := 21) (oi := { dst := some 44, op := Op.binOp BinOp.eql 3 (Operand.tmp 43) (Operand.const (Value.int IntKind.i64 3)) 3, type := 4, pos := "diff.go:143", after := #[{ on := 20, ground := Ground.data }, { on := 18, ground := Ground.guard }], guard := some (18, true) }) (v := .bool true) rfl (by kernel_rfl) (by kernel_rfl) (by kernel_rfl) (fun _ _ _ h => h) (Or.inl ⟨by rfl, ?_⟩) hHeld ?_
              · (intro w hSw; (try dsimp only at hSw); go_simp)
              try simp only [Act.put, List.setIfInBounds_toArray, List.set_cons_zero, List.set_cons_succ]
              refine wpAnyH_take (i := 22) (oi := { dst := some 45, op := Op.pick (Operand.tmp 41) (Operand.tmp 44) (Operand.const (Value.bool false)), type := 4, pos := "diff.go:143", after := #[{ on := 18, ground := Ground.data }, { on := 21, ground := Ground.data }], guard := none }) (v := .bool true) rfl (by kernel_rfl) (by kernel_rfl) (by kernel_rfl) (fun _ _ _ h => h) (Or.inl ⟨by rfl, ?_⟩) hHeld ?_
              · (intro w hSw; (try dsimp only at hSw); go_simp)
              try simp only [Act.put, List.setIfInBounds_toArray, List.set_cons_zero, List.set_cons_succ]
              refine wpAnyH_done (by kernel_rfl) ?_ _
              have HN : Hid (D ++ [(x.gr, x.ix)] = dnK d A (k + 1)) := hidOf (by rw [HDK.out, if_pos ⟨HJ.out, HVE.out, HST.out⟩])
              obtain ⟨wD, hwD⟩ : ∃ wD, wA.drew = wD := ⟨_, rfl⟩
              have hbX : wD.rangeAt B 0 (Al.cs x) := by rw [← hwD]; exact HBX.out
              have HZ : Hid (Below wr.heap.size wr wD) := hidOf (by rw [← hwD]; exact HZD.out)
              rw [hwD]
              clear hwD HZD
              have lBD : B < wD.heap.size := lt_of_cell (hbX 0 _ rfl)
              have e0 : wD.cell? ⟨B, 0, none⟩ = some (.int .i64 x.id) := hbX 0 _ rfl
              have e1 : wD.cell? ⟨B, 1, none⟩ = some (.int .i64 x.jb) := hbX 1 _ rfl
              have e2 : wD.cell? ⟨B, 2, none⟩ = some (.int .i64 x.ve) := hbX 2 _ rfl
              have e3 : wD.cell? ⟨B, 3, none⟩ = some (.int .i64 x.gr) := hbX 3 _ rfl
              have e4 : wD.cell? ⟨B, 4, none⟩ = some (.int .i64 x.ix) := hbX 4 _ rfl
              have e5 : wD.cell? ⟨B, 5, none⟩ = some (.int .i64 x.nd) := hbX 5 _ rfl
              have e6 : wD.cell? ⟨B, 6, none⟩ = some (.int .i64 x.ep) := hbX 6 _ rfl
              have e7 : wD.cell? ⟨B, 7, none⟩ = some (.int .i64 x.c) := hbX 7 _ rfl
              have e8 : wD.cell? ⟨B, 8, none⟩ = some (.int .i64 x.m) := hbX 8 _ rfl
              have e9 : wD.cell? ⟨B, 9, none⟩ = some (.bool x.sp) := hbX 9 _ rfl
              have e10 : wD.cell? ⟨B, 10, none⟩ = some (.int .i64 x.st) := hbX 10 _ rfl
              have HSO := hidOf (slotOf_any x wD)
              go_wp2_with (first | (go_at_call 34; refine HSO.out.mono ?_; rintro e w2 ⟨rfl, hb⟩; have HB2 := hidOf (HZ.out.trans (hb.mono HZ.out.size)); have HM2 := hidOf (HM.out.keep (HB2.out.block w.heap.size (by omega))); clear hb) | (at_mapUpdate; refine wpList_mapX _ rfl _ _ _ 89 rfl 39 91 kyS Try.underlying89 w.heap.size _ rfl HM2.out (x.gr, x.ix) (.agg #[]) rfl rfl ?_; intro w3 hm3 hs3 hz3 hg3; rw [unP_snoc] at hm3; have HM3 := hidOf hm3; have HG3 := hidOf hg3; have HZ3 := hidOf hz3; clear hm3 hs3 hz3 hg3))
              have hz3 := HZ3.out
              have hz2 := HB2.out.size
              go_roundw
              case rel => exact ⟨k + 1, D ++ [(x.gr, x.ix)], by omega, by simp, HN, HM3, hidOf ((HB.out.trans (HB2.out.mono HB.out.size)).grown HG3.out (by omega) (fun q e => by cases e; exact Nat.le_refl _)), by omega⟩
              case measure => simp [intOf]; omega
            · have hs1 : (x.st == 3) = false := by simp [hs]
              have HST := hidOf hs
              clear hs
              refine wp_region_held_drew (S := fun (Y : World) => Y.cell? ⟨B, 1, none⟩ = some (.int .i64 x.jb) ∧ Y.cell? ⟨B, 2, none⟩ = some (.int .i64 x.ve) ∧ Y.cell? ⟨B, 10, none⟩ = some (.int .i64 x.st) ∧ Y.cell? ⟨p, 0, none⟩ = some (.int .i64 d.id) ∧ Y.cell? ⟨p, 5, none⟩ = some (.int .i64 d.ve)) (by kernel_rfl) ⟨g1, g2, g10, f0, f5⟩ (fun hHeld => ?_)
              refine wpAnyH_take (i := 0) (oi := { dst := some 23, op := Op.fieldAddr 47 (Operand.tmp 5) 1, type := 0, pos := "diff.go:143", after := #[], guard := none }) (v := .pointer (some ⟨B, 1, none⟩)) rfl (by kernel_rfl) (by kernel_rfl) (by kernel_rfl) (fun _ _ _ h => h) (Or.inl ⟨by rfl, ?_⟩) hHeld ?_
              · (intro w hSw; (try dsimp only at hSw); go_simp)
              try simp only [Act.put, List.setIfInBounds_toArray, List.set_cons_zero, List.set_cons_succ]
              refine wpAnyH_take (i := 1) (oi := { dst := some 24, op := Op.load 3 (Operand.tmp 23), type := 3, pos := "diff.go:143", after := #[{ on := 0, ground := Ground.data }], guard := none }) (v := .int .i64 x.jb) rfl (by kernel_rfl) (by kernel_rfl) (by kernel_rfl) (fun _ _ _ h => h) (Or.inl ⟨by rfl, ?_⟩) hHeld ?_
              · (intro w hSw; (try dsimp only at hSw); go_simp)
              try simp only [Act.put, List.setIfInBounds_toArray, List.set_cons_zero, List.set_cons_succ]
              refine wpAnyH_take (i := 2) (oi := { dst := some 25, op := Op.move (Operand.tmp 0), type := 58, pos := "diff.go:143", after := #[], guard := none }) (v := .pointer (some ⟨p, 0, none⟩)) rfl (by kernel_rfl) (by kernel_rfl) (by kernel_rfl) (fun _ _ _ h => h) (Or.inl ⟨by rfl, ?_⟩) hHeld ?_
              · (intro w hSw; (try dsimp only at hSw); go_simp)
              try simp only [Act.put, List.setIfInBounds_toArray, List.set_cons_zero, List.set_cons_succ]
              refine wpAnyH_take (i := 3) (oi := { dst := some 26, op := Op.nilCheck (Operand.tmp 25), type := 0, pos := "diff.go:143", after := #[{ on := 2, ground := Ground.data }], guard := none }) (v := .pointer (some ⟨p, 0, none⟩)) rfl (by kernel_rfl) (by kernel_rfl) (by kernel_rfl) (fun _ _ _ h => h) (Or.inl ⟨by rfl, ?_⟩) hHeld ?_
              · (intro w hSw; (try dsimp only at hSw); go_simp)
              try simp only [Act.put, List.setIfInBounds_toArray, List.set_cons_zero, List.set_cons_succ]
              refine wpAnyH_take (i := 4) (oi := { dst := some 27, op := Op.fieldAddr 66 (Operand.tmp 26) 0, type := 0, pos := "diff.go:143", after := #[{ on := 3, ground := Ground.data }], guard := none }) (v := .pointer (some ⟨p, 0, none⟩)) rfl (by kernel_rfl) (by kernel_rfl) (by kernel_rfl) (fun _ _ _ h => h) (Or.inl ⟨by rfl, ?_⟩) hHeld ?_
              · (intro w hSw; (try dsimp only at hSw); go_simp)
              try simp only [Act.put, List.setIfInBounds_toArray, List.set_cons_zero, List.set_cons_succ]
              refine wpAnyH_take (i := 5) (oi := { dst := some 28, op := Op.fieldAddr 51 (Operand.tmp 27) 0, type := 0, pos := "diff.go:143", after := #[{ on := 4, ground := Ground.data }], guard := none }) (v := .pointer (some ⟨p, 0, none⟩)) rfl (by kernel_rfl) (by kernel_rfl) (by kernel_rfl) (fun _ _ _ h => h) (Or.inl ⟨by rfl, ?_⟩) hHeld ?_
              · (intro w hSw; (try dsimp only at hSw); go_simp)
              try simp only [Act.put, List.setIfInBounds_toArray, List.set_cons_zero, List.set_cons_succ]
              refine wpAnyH_take (i := 6) (oi := { dst := some 29, op := Op.load 3 (Operand.tmp 28), type := 3, pos := "diff.go:143", after := #[{ on := 5, ground := Ground.data }], guard := none }) (v := .int .i64 d.id) rfl (by kernel_rfl) (by kernel_rfl) (by kernel_rfl) (fun _ _ _ h => h) (Or.inl ⟨by rfl, ?_⟩) hHeld ?_
              · (intro w hSw; (try dsimp only at hSw); go_simp)
              try simp only [Act.put, List.setIfInBounds_toArray, List.set_cons_zero, List.set_cons_succ]
              refine wpAnyH_take (i := 7) (oi := { dst := some 30, op := Op.binOp BinOp.eql 3 (Operand.tmp 24) (Operand.tmp 29) 3, type := 4, pos := "diff.go:143", after := #[{ on := 1, ground := Ground.data }, { on := 6, ground := Ground.data }], guard := none }) (v := .bool true) rfl (by kernel_rfl) (by kernel_rfl) (by kernel_rfl) (fun _ _ _ h => h) (Or.inl ⟨by rfl, ?_⟩) hHeld ?_
              · (intro w hSw; (try dsimp only at hSw); go_simp)
              try simp only [Act.put, List.setIfInBounds_toArray, List.set_cons_zero, List.set_cons_succ]
              refine wpAnyH_take (i := 8) (oi := { dst := some 31, op := Op.move (Operand.tmp 30), type := 4, pos := "diff.go:143", after := #[{ on := 7, ground := Ground.data }], guard := none }) (v := .bool true) rfl (by kernel_rfl) (by kernel_rfl) (by kernel_rfl) (fun _ _ _ h => h) (Or.inl ⟨by rfl, ?_⟩) hHeld ?_
              · (intro w hSw; (try dsimp only at hSw); go_simp)
              try simp only [Act.put, List.setIfInBounds_toArray, List.set_cons_zero, List.set_cons_succ]
              refine wpAnyH_take (i := 9) (oi := { dst := some 32, op := Op.fieldAddr 47 (Operand.tmp 5) 2, type := 0, pos := "diff.go:143", after := #[{ on := 8, ground := Ground.guard }], guard := some (8, true) }) (v := .pointer (some ⟨B, 2, none⟩)) rfl (by kernel_rfl) (by kernel_rfl) (by kernel_rfl) (fun _ _ _ h => h) (Or.inl ⟨by rfl, ?_⟩) hHeld ?_
              · (intro w hSw; (try dsimp only at hSw); go_simp)
              try simp only [Act.put, List.setIfInBounds_toArray, List.set_cons_zero, List.set_cons_succ]
              refine wpAnyH_take (i := 10) (oi := { dst := some 33, op := Op.load 3 (Operand.tmp 32), type := 3, pos := "diff.go:143", after := #[{ on := 9, ground := Ground.data }, { on := 8, ground := Ground.guard }], guard := some (8, true) }) (v := .int .i64 x.ve) rfl (by kernel_rfl) (by kernel_rfl) (by kernel_rfl) (fun _ _ _ h => h) (Or.inl ⟨by rfl, ?_⟩) hHeld ?_
              · (intro w hSw; (try dsimp only at hSw); go_simp)
              try simp only [Act.put, List.setIfInBounds_toArray, List.set_cons_zero, List.set_cons_succ]
              refine wpAnyH_take (i := 11) (oi := { dst := some 34, op := Op.move (Operand.tmp 0), type := 58, pos := "diff.go:143", after := #[{ on := 8, ground := Ground.guard }], guard := some (8, true) }) (v := .pointer (some ⟨p, 0, none⟩)) rfl (by kernel_rfl) (by kernel_rfl) (by kernel_rfl) (fun _ _ _ h => h) (Or.inl ⟨by rfl, ?_⟩) hHeld ?_
              · (intro w hSw; (try dsimp only at hSw); go_simp)
              try simp only [Act.put, List.setIfInBounds_toArray, List.set_cons_zero, List.set_cons_succ]
              refine wpAnyH_take (i := 12) (oi := { dst := some 35, op := Op.nilCheck (Operand.tmp 34), type := 0, pos := "diff.go:143", after := #[{ on := 11, ground := Ground.data }, { on := 8, ground := Ground.guard }], guard := some (8, true) }) (v := .pointer (some ⟨p, 0, none⟩)) rfl (by kernel_rfl) (by kernel_rfl) (by kernel_rfl) (fun _ _ _ h => h) (Or.inl ⟨by rfl, ?_⟩) hHeld ?_
              · (intro w hSw; (try dsimp only at hSw); go_simp)
              try simp only [Act.put, List.setIfInBounds_toArray, List.set_cons_zero, List.set_cons_succ]
              refine wpAnyH_take (i := 13) (oi := { dst := some 36, op := Op.fieldAddr 66 (Operand.tmp 35) 0, type := 0, pos := "diff.go:143", after := #[{ on := 12, ground := Ground.data }, { on := 8, ground := Ground.guard }], guard := some (8, true) }) (v := .pointer (some ⟨p, 0, none⟩)) rfl (by kernel_rfl) (by kernel_rfl) (by kernel_rfl) (fun _ _ _ h => h) (Or.inl ⟨by rfl, ?_⟩) hHeld ?_
              · (intro w hSw; (try dsimp only at hSw); go_simp)
              try simp only [Act.put, List.setIfInBounds_toArray, List.set_cons_zero, List.set_cons_succ]
              refine wpAnyH_take (i := 14) (oi := { dst := some 37, op := Op.fieldAddr 51 (Operand.tmp 36) 5, type := 0, pos := "diff.go:143", after := #[{ on := 13, ground := Ground.data }, { on := 8, ground := Ground.guard }], guard := some (8, true) }) (v := .pointer (some ⟨p, 5, none⟩)) rfl (by kernel_rfl) (by kernel_rfl) (by kernel_rfl) (fun _ _ _ h => h) (Or.inl ⟨by rfl, ?_⟩) hHeld ?_
              · (intro w hSw; (try dsimp only at hSw); go_simp)
              try simp only [Act.put, List.setIfInBounds_toArray, List.set_cons_zero, List.set_cons_succ]
              refine wpAnyH_take (i := 15) (oi := { dst := some 38, op := Op.load 3 (Operand.tmp 37), type := 3, pos := "diff.go:143", after := #[{ on := 14, ground := Ground.data }, { on := 8, ground := Ground.guard }], guard := some (8, true) }) (v := .int .i64 d.ve) rfl (by kernel_rfl) (by kernel_rfl) (by kernel_rfl) (fun _ _ _ h => h) (Or.inl ⟨by rfl, ?_⟩) hHeld ?_
              · (intro w hSw; (try dsimp only at hSw); go_simp)
              try simp only [Act.put, List.setIfInBounds_toArray, List.set_cons_zero, List.set_cons_succ]
              refine wpAnyH_take (i := 16) (oi := { dst := some 39, op := Op.binOp BinOp.eql 3 (Operand.tmp 33) (Operand.tmp 38) 3, type := 4, pos := "diff.go:143", after := #[{ on := 10, ground := Ground.data }, { on := 15, ground := Ground.data }, { on := 8, ground := Ground.guard }], guard := some (8, true) }) (v := .bool true) rfl (by kernel_rfl) (by kernel_rfl) (by kernel_rfl) (fun _ _ _ h => h) (Or.inl ⟨by rfl, ?_⟩) hHeld ?_
              · (intro w hSw; (try dsimp only at hSw); go_simp)
              try simp only [Act.put, List.setIfInBounds_toArray, List.set_cons_zero, List.set_cons_succ]
              refine wpAnyH_take (i := 17) (oi := { dst := some 40, op := Op.pick (Operand.tmp 31) (Operand.tmp 39) (Operand.const (Value.bool false)), type := 4, pos := "diff.go:143", after := #[{ on := 8, ground := Ground.data }, { on := 16, ground := Ground.data }], guard := none }) (v := .bool true) rfl (by kernel_rfl) (by kernel_rfl) (by kernel_rfl) (fun _ _ _ h => h) (Or.inl ⟨by rfl, ?_⟩) hHeld ?_
              · (intro w hSw; (try dsimp only at hSw); go_simp)
              try simp only [Act.put, List.setIfInBounds_toArray, List.set_cons_zero, List.set_cons_succ]
              refine wpAnyH_take (i := 18) (oi := { dst := some 41, op := Op.move (Operand.tmp 40), type := 4, pos := "diff.go:143", after := #[{ on := 17, ground := Ground.data }, { on := 8, ground := Ground.chain }], guard := none }) (v := .bool true) rfl (by kernel_rfl) (by kernel_rfl) (by kernel_rfl) (fun _ _ _ h => h) (Or.inl ⟨by rfl, ?_⟩) hHeld ?_
              · (intro w hSw; (try dsimp only at hSw); go_simp)
              try simp only [Act.put, List.setIfInBounds_toArray, List.set_cons_zero, List.set_cons_succ]
              refine wpAnyH_take (i := 19) (oi := { dst := some 42, op := Op.fieldAddr 47 (Operand.tmp 5) 9, type := 0, pos := "diff.go:143", after := #[{ on := 18, ground := Ground.guard }], guard := some (18, true) }) (v := .pointer (some ⟨B, 10, none⟩)) rfl (by kernel_rfl) (by kernel_rfl) (by kernel_rfl) (fun _ _ _ h => h) (Or.inl ⟨by rfl, ?_⟩) hHeld ?_
              · (intro w hSw; (try dsimp only at hSw); go_simp)
              try simp only [Act.put, List.setIfInBounds_toArray, List.set_cons_zero, List.set_cons_succ]
              refine wpAnyH_take (i := 20) (oi := { dst := some 43, op := Op.load 3 (Operand.tmp 42), type := 3, pos := "diff.go:143", after := #[{ on := 19, ground := Ground.data }, { on := 18, ground := Ground.guard }], guard := some (18, true) }) (v := .int .i64 x.st) rfl (by kernel_rfl) (by kernel_rfl) (by kernel_rfl) (fun _ _ _ h => h) (Or.inl ⟨by rfl, ?_⟩) hHeld ?_
              · (intro w hSw; (try dsimp only at hSw); go_simp)
              try simp only [Act.put, List.setIfInBounds_toArray, List.set_cons_zero, List.set_cons_succ]
              refine wpAnyH_take (i := 21) (oi := { dst := some 44, op := Op.binOp BinOp.eql 3 (Operand.tmp 43) (Operand.const (Value.int IntKind.i64 3)) 3, type := 4, pos := "diff.go:143", after := #[{ on := 20, ground := Ground.data }, { on := 18, ground := Ground.guard }], guard := some (18, true) }) (v := .bool false) rfl (by kernel_rfl) (by kernel_rfl) (by kernel_rfl) (fun _ _ _ h => h) (Or.inl ⟨by rfl, ?_⟩) hHeld ?_
              · (intro w hSw; (try dsimp only at hSw); go_simp)
              try simp only [Act.put, List.setIfInBounds_toArray, List.set_cons_zero, List.set_cons_succ]
              refine wpAnyH_take (i := 22) (oi := { dst := some 45, op := Op.pick (Operand.tmp 41) (Operand.tmp 44) (Operand.const (Value.bool false)), type := 4, pos := "diff.go:143", after := #[{ on := 18, ground := Ground.data }, { on := 21, ground := Ground.data }], guard := none }) (v := .bool false) rfl (by kernel_rfl) (by kernel_rfl) (by kernel_rfl) (fun _ _ _ h => h) (Or.inl ⟨by rfl, ?_⟩) hHeld ?_
              · (intro w hSw; (try dsimp only at hSw); go_simp)
              try simp only [Act.put, List.setIfInBounds_toArray, List.set_cons_zero, List.set_cons_succ]
              refine wpAnyH_done (by kernel_rfl) ?_ _
              go_wp2
              go_roundw
              case rel => exact ⟨k + 1, D, by omega, by simp, hidOf (by rw [HDK.out, if_neg (fun h => HST.out h.2.2)]), hidOf (HM.out.keep (HZD.out.block _ (by omega))), hidOf (HB.out.trans (HZD.out.mono HB.out.size)), by have := HZD.out.size; omega⟩
              case measure => simp [intOf]; omega
          · have hv1 : (x.ve == d.ve) = false := by simp [hv]
            have HVE := hidOf hv
            clear hv
            refine wp_region_held_drew (S := fun (Y : World) => Y.cell? ⟨B, 1, none⟩ = some (.int .i64 x.jb) ∧ Y.cell? ⟨B, 2, none⟩ = some (.int .i64 x.ve) ∧ Y.cell? ⟨B, 10, none⟩ = some (.int .i64 x.st) ∧ Y.cell? ⟨p, 0, none⟩ = some (.int .i64 d.id) ∧ Y.cell? ⟨p, 5, none⟩ = some (.int .i64 d.ve)) (by kernel_rfl) ⟨g1, g2, g10, f0, f5⟩ (fun hHeld => ?_)
            refine wpAnyH_take (i := 0) (oi := { dst := some 23, op := Op.fieldAddr 47 (Operand.tmp 5) 1, type := 0, pos := "diff.go:143", after := #[], guard := none }) (v := .pointer (some ⟨B, 1, none⟩)) rfl (by kernel_rfl) (by kernel_rfl) (by kernel_rfl) (fun _ _ _ h => h) (Or.inl ⟨by rfl, ?_⟩) hHeld ?_
            · (intro w hSw; (try dsimp only at hSw); go_simp)
            try simp only [Act.put, List.setIfInBounds_toArray, List.set_cons_zero, List.set_cons_succ]
            refine wpAnyH_take (i := 1) (oi := { dst := some 24, op := Op.load 3 (Operand.tmp 23), type := 3, pos := "diff.go:143", after := #[{ on := 0, ground := Ground.data }], guard := none }) (v := .int .i64 x.jb) rfl (by kernel_rfl) (by kernel_rfl) (by kernel_rfl) (fun _ _ _ h => h) (Or.inl ⟨by rfl, ?_⟩) hHeld ?_
            · (intro w hSw; (try dsimp only at hSw); go_simp)
            try simp only [Act.put, List.setIfInBounds_toArray, List.set_cons_zero, List.set_cons_succ]
            refine wpAnyH_take (i := 2) (oi := { dst := some 25, op := Op.move (Operand.tmp 0), type := 58, pos := "diff.go:143", after := #[], guard := none }) (v := .pointer (some ⟨p, 0, none⟩)) rfl (by kernel_rfl) (by kernel_rfl) (by kernel_rfl) (fun _ _ _ h => h) (Or.inl ⟨by rfl, ?_⟩) hHeld ?_
            · (intro w hSw; (try dsimp only at hSw); go_simp)
            try simp only [Act.put, List.setIfInBounds_toArray, List.set_cons_zero, List.set_cons_succ]
            refine wpAnyH_take (i := 3) (oi := { dst := some 26, op := Op.nilCheck (Operand.tmp 25), type := 0, pos := "diff.go:143", after := #[{ on := 2, ground := Ground.data }], guard := none }) (v := .pointer (some ⟨p, 0, none⟩)) rfl (by kernel_rfl) (by kernel_rfl) (by kernel_rfl) (fun _ _ _ h => h) (Or.inl ⟨by rfl, ?_⟩) hHeld ?_
            · (intro w hSw; (try dsimp only at hSw); go_simp)
            try simp only [Act.put, List.setIfInBounds_toArray, List.set_cons_zero, List.set_cons_succ]
            refine wpAnyH_take (i := 4) (oi := { dst := some 27, op := Op.fieldAddr 66 (Operand.tmp 26) 0, type := 0, pos := "diff.go:143", after := #[{ on := 3, ground := Ground.data }], guard := none }) (v := .pointer (some ⟨p, 0, none⟩)) rfl (by kernel_rfl) (by kernel_rfl) (by kernel_rfl) (fun _ _ _ h => h) (Or.inl ⟨by rfl, ?_⟩) hHeld ?_
            · (intro w hSw; (try dsimp only at hSw); go_simp)
            try simp only [Act.put, List.setIfInBounds_toArray, List.set_cons_zero, List.set_cons_succ]
            refine wpAnyH_take (i := 5) (oi := { dst := some 28, op := Op.fieldAddr 51 (Operand.tmp 27) 0, type := 0, pos := "diff.go:143", after := #[{ on := 4, ground := Ground.data }], guard := none }) (v := .pointer (some ⟨p, 0, none⟩)) rfl (by kernel_rfl) (by kernel_rfl) (by kernel_rfl) (fun _ _ _ h => h) (Or.inl ⟨by rfl, ?_⟩) hHeld ?_
            · (intro w hSw; (try dsimp only at hSw); go_simp)
            try simp only [Act.put, List.setIfInBounds_toArray, List.set_cons_zero, List.set_cons_succ]
            refine wpAnyH_take (i := 6) (oi := { dst := some 29, op := Op.load 3 (Operand.tmp 28), type := 3, pos := "diff.go:143", after := #[{ on := 5, ground := Ground.data }], guard := none }) (v := .int .i64 d.id) rfl (by kernel_rfl) (by kernel_rfl) (by kernel_rfl) (fun _ _ _ h => h) (Or.inl ⟨by rfl, ?_⟩) hHeld ?_
            · (intro w hSw; (try dsimp only at hSw); go_simp)
            try simp only [Act.put, List.setIfInBounds_toArray, List.set_cons_zero, List.set_cons_succ]
            refine wpAnyH_take (i := 7) (oi := { dst := some 30, op := Op.binOp BinOp.eql 3 (Operand.tmp 24) (Operand.tmp 29) 3, type := 4, pos := "diff.go:143", after := #[{ on := 1, ground := Ground.data }, { on := 6, ground := Ground.data }], guard := none }) (v := .bool true) rfl (by kernel_rfl) (by kernel_rfl) (by kernel_rfl) (fun _ _ _ h => h) (Or.inl ⟨by rfl, ?_⟩) hHeld ?_
            · (intro w hSw; (try dsimp only at hSw); go_simp)
            try simp only [Act.put, List.setIfInBounds_toArray, List.set_cons_zero, List.set_cons_succ]
            refine wpAnyH_take (i := 8) (oi := { dst := some 31, op := Op.move (Operand.tmp 30), type := 4, pos := "diff.go:143", after := #[{ on := 7, ground := Ground.data }], guard := none }) (v := .bool true) rfl (by kernel_rfl) (by kernel_rfl) (by kernel_rfl) (fun _ _ _ h => h) (Or.inl ⟨by rfl, ?_⟩) hHeld ?_
            · (intro w hSw; (try dsimp only at hSw); go_simp)
            try simp only [Act.put, List.setIfInBounds_toArray, List.set_cons_zero, List.set_cons_succ]
            refine wpAnyH_take (i := 9) (oi := { dst := some 32, op := Op.fieldAddr 47 (Operand.tmp 5) 2, type := 0, pos := "diff.go:143", after := #[{ on := 8, ground := Ground.guard }], guard := some (8, true) }) (v := .pointer (some ⟨B, 2, none⟩)) rfl (by kernel_rfl) (by kernel_rfl) (by kernel_rfl) (fun _ _ _ h => h) (Or.inl ⟨by rfl, ?_⟩) hHeld ?_
            · (intro w hSw; (try dsimp only at hSw); go_simp)
            try simp only [Act.put, List.setIfInBounds_toArray, List.set_cons_zero, List.set_cons_succ]
            refine wpAnyH_take (i := 10) (oi := { dst := some 33, op := Op.load 3 (Operand.tmp 32), type := 3, pos := "diff.go:143", after := #[{ on := 9, ground := Ground.data }, { on := 8, ground := Ground.guard }], guard := some (8, true) }) (v := .int .i64 x.ve) rfl (by kernel_rfl) (by kernel_rfl) (by kernel_rfl) (fun _ _ _ h => h) (Or.inl ⟨by rfl, ?_⟩) hHeld ?_
            · (intro w hSw; (try dsimp only at hSw); go_simp)
            try simp only [Act.put, List.setIfInBounds_toArray, List.set_cons_zero, List.set_cons_succ]
            refine wpAnyH_take (i := 11) (oi := { dst := some 34, op := Op.move (Operand.tmp 0), type := 58, pos := "diff.go:143", after := #[{ on := 8, ground := Ground.guard }], guard := some (8, true) }) (v := .pointer (some ⟨p, 0, none⟩)) rfl (by kernel_rfl) (by kernel_rfl) (by kernel_rfl) (fun _ _ _ h => h) (Or.inl ⟨by rfl, ?_⟩) hHeld ?_
            · (intro w hSw; (try dsimp only at hSw); go_simp)
            try simp only [Act.put, List.setIfInBounds_toArray, List.set_cons_zero, List.set_cons_succ]
            refine wpAnyH_take (i := 12) (oi := { dst := some 35, op := Op.nilCheck (Operand.tmp 34), type := 0, pos := "diff.go:143", after := #[{ on := 11, ground := Ground.data }, { on := 8, ground := Ground.guard }], guard := some (8, true) }) (v := .pointer (some ⟨p, 0, none⟩)) rfl (by kernel_rfl) (by kernel_rfl) (by kernel_rfl) (fun _ _ _ h => h) (Or.inl ⟨by rfl, ?_⟩) hHeld ?_
            · (intro w hSw; (try dsimp only at hSw); go_simp)
            try simp only [Act.put, List.setIfInBounds_toArray, List.set_cons_zero, List.set_cons_succ]
            refine wpAnyH_take (i := 13) (oi := { dst := some 36, op := Op.fieldAddr 66 (Operand.tmp 35) 0, type := 0, pos := "diff.go:143", after := #[{ on := 12, ground := Ground.data }, { on := 8, ground := Ground.guard }], guard := some (8, true) }) (v := .pointer (some ⟨p, 0, none⟩)) rfl (by kernel_rfl) (by kernel_rfl) (by kernel_rfl) (fun _ _ _ h => h) (Or.inl ⟨by rfl, ?_⟩) hHeld ?_
            · (intro w hSw; (try dsimp only at hSw); go_simp)
            try simp only [Act.put, List.setIfInBounds_toArray, List.set_cons_zero, List.set_cons_succ]
            refine wpAnyH_take (i := 14) (oi := { dst := some 37, op := Op.fieldAddr 51 (Operand.tmp 36) 5, type := 0, pos := "diff.go:143", after := #[{ on := 13, ground := Ground.data }, { on := 8, ground := Ground.guard }], guard := some (8, true) }) (v := .pointer (some ⟨p, 5, none⟩)) rfl (by kernel_rfl) (by kernel_rfl) (by kernel_rfl) (fun _ _ _ h => h) (Or.inl ⟨by rfl, ?_⟩) hHeld ?_
            · (intro w hSw; (try dsimp only at hSw); go_simp)
            try simp only [Act.put, List.setIfInBounds_toArray, List.set_cons_zero, List.set_cons_succ]
            refine wpAnyH_take (i := 15) (oi := { dst := some 38, op := Op.load 3 (Operand.tmp 37), type := 3, pos := "diff.go:143", after := #[{ on := 14, ground := Ground.data }, { on := 8, ground := Ground.guard }], guard := some (8, true) }) (v := .int .i64 d.ve) rfl (by kernel_rfl) (by kernel_rfl) (by kernel_rfl) (fun _ _ _ h => h) (Or.inl ⟨by rfl, ?_⟩) hHeld ?_
            · (intro w hSw; (try dsimp only at hSw); go_simp)
            try simp only [Act.put, List.setIfInBounds_toArray, List.set_cons_zero, List.set_cons_succ]
            refine wpAnyH_take (i := 16) (oi := { dst := some 39, op := Op.binOp BinOp.eql 3 (Operand.tmp 33) (Operand.tmp 38) 3, type := 4, pos := "diff.go:143", after := #[{ on := 10, ground := Ground.data }, { on := 15, ground := Ground.data }, { on := 8, ground := Ground.guard }], guard := some (8, true) }) (v := .bool false) rfl (by kernel_rfl) (by kernel_rfl) (by kernel_rfl) (fun _ _ _ h => h) (Or.inl ⟨by rfl, ?_⟩) hHeld ?_
            · (intro w hSw; (try dsimp only at hSw); go_simp)
            try simp only [Act.put, List.setIfInBounds_toArray, List.set_cons_zero, List.set_cons_succ]
            refine wpAnyH_take (i := 17) (oi := { dst := some 40, op := Op.pick (Operand.tmp 31) (Operand.tmp 39) (Operand.const (Value.bool false)), type := 4, pos := "diff.go:143", after := #[{ on := 8, ground := Ground.data }, { on := 16, ground := Ground.data }], guard := none }) (v := .bool false) rfl (by kernel_rfl) (by kernel_rfl) (by kernel_rfl) (fun _ _ _ h => h) (Or.inl ⟨by rfl, ?_⟩) hHeld ?_
            · (intro w hSw; (try dsimp only at hSw); go_simp)
            try simp only [Act.put, List.setIfInBounds_toArray, List.set_cons_zero, List.set_cons_succ]
            refine wpAnyH_take (i := 18) (oi := { dst := some 41, op := Op.move (Operand.tmp 40), type := 4, pos := "diff.go:143", after := #[{ on := 17, ground := Ground.data }, { on := 8, ground := Ground.chain }], guard := none }) (v := .bool false) rfl (by kernel_rfl) (by kernel_rfl) (by kernel_rfl) (fun _ _ _ h => h) (Or.inl ⟨by rfl, ?_⟩) hHeld ?_
            · (intro w hSw; (try dsimp only at hSw); go_simp)
            try simp only [Act.put, List.setIfInBounds_toArray, List.set_cons_zero, List.set_cons_succ]
            refine wpAnyH_take (i := 19) (oi := { dst := some 42, op := Op.fieldAddr 47 (Operand.tmp 5) 9, type := 0, pos := "diff.go:143", after := #[{ on := 18, ground := Ground.guard }], guard := some (18, true) }) (v := undef) rfl (by kernel_rfl) (by kernel_rfl) (by kernel_rfl) (fun _ _ _ h => h) (Or.inr ⟨by rfl, rfl⟩) hHeld ?_
            try simp only [Act.put, List.setIfInBounds_toArray, List.set_cons_zero, List.set_cons_succ]
            refine wpAnyH_take (i := 20) (oi := { dst := some 43, op := Op.load 3 (Operand.tmp 42), type := 3, pos := "diff.go:143", after := #[{ on := 19, ground := Ground.data }, { on := 18, ground := Ground.guard }], guard := some (18, true) }) (v := undef) rfl (by kernel_rfl) (by kernel_rfl) (by kernel_rfl) (fun _ _ _ h => h) (Or.inr ⟨by rfl, rfl⟩) hHeld ?_
            try simp only [Act.put, List.setIfInBounds_toArray, List.set_cons_zero, List.set_cons_succ]
            refine wpAnyH_take (i := 21) (oi := { dst := some 44, op := Op.binOp BinOp.eql 3 (Operand.tmp 43) (Operand.const (Value.int IntKind.i64 3)) 3, type := 4, pos := "diff.go:143", after := #[{ on := 20, ground := Ground.data }, { on := 18, ground := Ground.guard }], guard := some (18, true) }) (v := undef) rfl (by kernel_rfl) (by kernel_rfl) (by kernel_rfl) (fun _ _ _ h => h) (Or.inr ⟨by rfl, rfl⟩) hHeld ?_
            try simp only [Act.put, List.setIfInBounds_toArray, List.set_cons_zero, List.set_cons_succ]
            refine wpAnyH_take (i := 22) (oi := { dst := some 45, op := Op.pick (Operand.tmp 41) (Operand.tmp 44) (Operand.const (Value.bool false)), type := 4, pos := "diff.go:143", after := #[{ on := 18, ground := Ground.data }, { on := 21, ground := Ground.data }], guard := none }) (v := .bool false) rfl (by kernel_rfl) (by kernel_rfl) (by kernel_rfl) (fun _ _ _ h => h) (Or.inl ⟨by rfl, ?_⟩) hHeld ?_
            · (intro w hSw; (try dsimp only at hSw); go_simp)
            try simp only [Act.put, List.setIfInBounds_toArray, List.set_cons_zero, List.set_cons_succ]
            refine wpAnyH_done (by kernel_rfl) ?_ _
            go_wp2
            go_roundw
            case rel => exact ⟨k + 1, D, by omega, by simp, hidOf (by rw [HDK.out, if_neg (fun h => HVE.out h.2.1)]), hidOf (HM.out.keep (HZD.out.block _ (by omega))), hidOf (HB.out.trans (HZD.out.mono HB.out.size)), by have := HZD.out.size; omega⟩
            case measure => simp [intOf]; omega
        · have hj1 : (x.jb == d.id) = false := by simp [hj]
          have HJ := hidOf hj
          clear hj
          refine wp_region_held_drew (S := fun (Y : World) => Y.cell? ⟨B, 1, none⟩ = some (.int .i64 x.jb) ∧ Y.cell? ⟨B, 2, none⟩ = some (.int .i64 x.ve) ∧ Y.cell? ⟨B, 10, none⟩ = some (.int .i64 x.st) ∧ Y.cell? ⟨p, 0, none⟩ = some (.int .i64 d.id) ∧ Y.cell? ⟨p, 5, none⟩ = some (.int .i64 d.ve)) (by kernel_rfl) ⟨g1, g2, g10, f0, f5⟩ (fun hHeld => ?_)
          refine wpAnyH_take (i := 0) (oi := { dst := some 23, op := Op.fieldAddr 47 (Operand.tmp 5) 1, type := 0, pos := "diff.go:143", after := #[], guard := none }) (v := .pointer (some ⟨B, 1, none⟩)) rfl (by kernel_rfl) (by kernel_rfl) (by kernel_rfl) (fun _ _ _ h => h) (Or.inl ⟨by rfl, ?_⟩) hHeld ?_
          · (intro w hSw; (try dsimp only at hSw); go_simp)
          try simp only [Act.put, List.setIfInBounds_toArray, List.set_cons_zero, List.set_cons_succ]
          refine wpAnyH_take (i := 1) (oi := { dst := some 24, op := Op.load 3 (Operand.tmp 23), type := 3, pos := "diff.go:143", after := #[{ on := 0, ground := Ground.data }], guard := none }) (v := .int .i64 x.jb) rfl (by kernel_rfl) (by kernel_rfl) (by kernel_rfl) (fun _ _ _ h => h) (Or.inl ⟨by rfl, ?_⟩) hHeld ?_
          · (intro w hSw; (try dsimp only at hSw); go_simp)
          try simp only [Act.put, List.setIfInBounds_toArray, List.set_cons_zero, List.set_cons_succ]
          refine wpAnyH_take (i := 2) (oi := { dst := some 25, op := Op.move (Operand.tmp 0), type := 58, pos := "diff.go:143", after := #[], guard := none }) (v := .pointer (some ⟨p, 0, none⟩)) rfl (by kernel_rfl) (by kernel_rfl) (by kernel_rfl) (fun _ _ _ h => h) (Or.inl ⟨by rfl, ?_⟩) hHeld ?_
          · (intro w hSw; (try dsimp only at hSw); go_simp)
          try simp only [Act.put, List.setIfInBounds_toArray, List.set_cons_zero, List.set_cons_succ]
          refine wpAnyH_take (i := 3) (oi := { dst := some 26, op := Op.nilCheck (Operand.tmp 25), type := 0, pos := "diff.go:143", after := #[{ on := 2, ground := Ground.data }], guard := none }) (v := .pointer (some ⟨p, 0, none⟩)) rfl (by kernel_rfl) (by kernel_rfl) (by kernel_rfl) (fun _ _ _ h => h) (Or.inl ⟨by rfl, ?_⟩) hHeld ?_
          · (intro w hSw; (try dsimp only at hSw); go_simp)
          try simp only [Act.put, List.setIfInBounds_toArray, List.set_cons_zero, List.set_cons_succ]
          refine wpAnyH_take (i := 4) (oi := { dst := some 27, op := Op.fieldAddr 66 (Operand.tmp 26) 0, type := 0, pos := "diff.go:143", after := #[{ on := 3, ground := Ground.data }], guard := none }) (v := .pointer (some ⟨p, 0, none⟩)) rfl (by kernel_rfl) (by kernel_rfl) (by kernel_rfl) (fun _ _ _ h => h) (Or.inl ⟨by rfl, ?_⟩) hHeld ?_
          · (intro w hSw; (try dsimp only at hSw); go_simp)
          try simp only [Act.put, List.setIfInBounds_toArray, List.set_cons_zero, List.set_cons_succ]
          refine wpAnyH_take (i := 5) (oi := { dst := some 28, op := Op.fieldAddr 51 (Operand.tmp 27) 0, type := 0, pos := "diff.go:143", after := #[{ on := 4, ground := Ground.data }], guard := none }) (v := .pointer (some ⟨p, 0, none⟩)) rfl (by kernel_rfl) (by kernel_rfl) (by kernel_rfl) (fun _ _ _ h => h) (Or.inl ⟨by rfl, ?_⟩) hHeld ?_
          · (intro w hSw; (try dsimp only at hSw); go_simp)
          try simp only [Act.put, List.setIfInBounds_toArray, List.set_cons_zero, List.set_cons_succ]
          refine wpAnyH_take (i := 6) (oi := { dst := some 29, op := Op.load 3 (Operand.tmp 28), type := 3, pos := "diff.go:143", after := #[{ on := 5, ground := Ground.data }], guard := none }) (v := .int .i64 d.id) rfl (by kernel_rfl) (by kernel_rfl) (by kernel_rfl) (fun _ _ _ h => h) (Or.inl ⟨by rfl, ?_⟩) hHeld ?_
          · (intro w hSw; (try dsimp only at hSw); go_simp)
          try simp only [Act.put, List.setIfInBounds_toArray, List.set_cons_zero, List.set_cons_succ]
          refine wpAnyH_take (i := 7) (oi := { dst := some 30, op := Op.binOp BinOp.eql 3 (Operand.tmp 24) (Operand.tmp 29) 3, type := 4, pos := "diff.go:143", after := #[{ on := 1, ground := Ground.data }, { on := 6, ground := Ground.data }], guard := none }) (v := .bool false) rfl (by kernel_rfl) (by kernel_rfl) (by kernel_rfl) (fun _ _ _ h => h) (Or.inl ⟨by rfl, ?_⟩) hHeld ?_
          · (intro w hSw; (try dsimp only at hSw); go_simp)
          try simp only [Act.put, List.setIfInBounds_toArray, List.set_cons_zero, List.set_cons_succ]
          refine wpAnyH_take (i := 8) (oi := { dst := some 31, op := Op.move (Operand.tmp 30), type := 4, pos := "diff.go:143", after := #[{ on := 7, ground := Ground.data }], guard := none }) (v := .bool false) rfl (by kernel_rfl) (by kernel_rfl) (by kernel_rfl) (fun _ _ _ h => h) (Or.inl ⟨by rfl, ?_⟩) hHeld ?_
          · (intro w hSw; (try dsimp only at hSw); go_simp)
          try simp only [Act.put, List.setIfInBounds_toArray, List.set_cons_zero, List.set_cons_succ]
          refine wpAnyH_take (i := 9) (oi := { dst := some 32, op := Op.fieldAddr 47 (Operand.tmp 5) 2, type := 0, pos := "diff.go:143", after := #[{ on := 8, ground := Ground.guard }], guard := some (8, true) }) (v := undef) rfl (by kernel_rfl) (by kernel_rfl) (by kernel_rfl) (fun _ _ _ h => h) (Or.inr ⟨by rfl, rfl⟩) hHeld ?_
          try simp only [Act.put, List.setIfInBounds_toArray, List.set_cons_zero, List.set_cons_succ]
          refine wpAnyH_take (i := 10) (oi := { dst := some 33, op := Op.load 3 (Operand.tmp 32), type := 3, pos := "diff.go:143", after := #[{ on := 9, ground := Ground.data }, { on := 8, ground := Ground.guard }], guard := some (8, true) }) (v := undef) rfl (by kernel_rfl) (by kernel_rfl) (by kernel_rfl) (fun _ _ _ h => h) (Or.inr ⟨by rfl, rfl⟩) hHeld ?_
          try simp only [Act.put, List.setIfInBounds_toArray, List.set_cons_zero, List.set_cons_succ]
          refine wpAnyH_take (i := 11) (oi := { dst := some 34, op := Op.move (Operand.tmp 0), type := 58, pos := "diff.go:143", after := #[{ on := 8, ground := Ground.guard }], guard := some (8, true) }) (v := undef) rfl (by kernel_rfl) (by kernel_rfl) (by kernel_rfl) (fun _ _ _ h => h) (Or.inr ⟨by rfl, rfl⟩) hHeld ?_
          try simp only [Act.put, List.setIfInBounds_toArray, List.set_cons_zero, List.set_cons_succ]
          refine wpAnyH_take (i := 12) (oi := { dst := some 35, op := Op.nilCheck (Operand.tmp 34), type := 0, pos := "diff.go:143", after := #[{ on := 11, ground := Ground.data }, { on := 8, ground := Ground.guard }], guard := some (8, true) }) (v := undef) rfl (by kernel_rfl) (by kernel_rfl) (by kernel_rfl) (fun _ _ _ h => h) (Or.inr ⟨by rfl, rfl⟩) hHeld ?_
          try simp only [Act.put, List.setIfInBounds_toArray, List.set_cons_zero, List.set_cons_succ]
          refine wpAnyH_take (i := 13) (oi := { dst := some 36, op := Op.fieldAddr 66 (Operand.tmp 35) 0, type := 0, pos := "diff.go:143", after := #[{ on := 12, ground := Ground.data }, { on := 8, ground := Ground.guard }], guard := some (8, true) }) (v := undef) rfl (by kernel_rfl) (by kernel_rfl) (by kernel_rfl) (fun _ _ _ h => h) (Or.inr ⟨by rfl, rfl⟩) hHeld ?_
          try simp only [Act.put, List.setIfInBounds_toArray, List.set_cons_zero, List.set_cons_succ]
          refine wpAnyH_take (i := 14) (oi := { dst := some 37, op := Op.fieldAddr 51 (Operand.tmp 36) 5, type := 0, pos := "diff.go:143", after := #[{ on := 13, ground := Ground.data }, { on := 8, ground := Ground.guard }], guard := some (8, true) }) (v := undef) rfl (by kernel_rfl) (by kernel_rfl) (by kernel_rfl) (fun _ _ _ h => h) (Or.inr ⟨by rfl, rfl⟩) hHeld ?_
          try simp only [Act.put, List.setIfInBounds_toArray, List.set_cons_zero, List.set_cons_succ]
          refine wpAnyH_take (i := 15) (oi := { dst := some 38, op := Op.load 3 (Operand.tmp 37), type := 3, pos := "diff.go:143", after := #[{ on := 14, ground := Ground.data }, { on := 8, ground := Ground.guard }], guard := some (8, true) }) (v := undef) rfl (by kernel_rfl) (by kernel_rfl) (by kernel_rfl) (fun _ _ _ h => h) (Or.inr ⟨by rfl, rfl⟩) hHeld ?_
          try simp only [Act.put, List.setIfInBounds_toArray, List.set_cons_zero, List.set_cons_succ]
          refine wpAnyH_take (i := 16) (oi := { dst := some 39, op := Op.binOp BinOp.eql 3 (Operand.tmp 33) (Operand.tmp 38) 3, type := 4, pos := "diff.go:143", after := #[{ on := 10, ground := Ground.data }, { on := 15, ground := Ground.data }, { on := 8, ground := Ground.guard }], guard := some (8, true) }) (v := undef) rfl (by kernel_rfl) (by kernel_rfl) (by kernel_rfl) (fun _ _ _ h => h) (Or.inr ⟨by rfl, rfl⟩) hHeld ?_
          try simp only [Act.put, List.setIfInBounds_toArray, List.set_cons_zero, List.set_cons_succ]
          refine wpAnyH_take (i := 17) (oi := { dst := some 40, op := Op.pick (Operand.tmp 31) (Operand.tmp 39) (Operand.const (Value.bool false)), type := 4, pos := "diff.go:143", after := #[{ on := 8, ground := Ground.data }, { on := 16, ground := Ground.data }], guard := none }) (v := .bool false) rfl (by kernel_rfl) (by kernel_rfl) (by kernel_rfl) (fun _ _ _ h => h) (Or.inl ⟨by rfl, ?_⟩) hHeld ?_
          · (intro w hSw; (try dsimp only at hSw); go_simp)
          try simp only [Act.put, List.setIfInBounds_toArray, List.set_cons_zero, List.set_cons_succ]
          refine wpAnyH_take (i := 18) (oi := { dst := some 41, op := Op.move (Operand.tmp 40), type := 4, pos := "diff.go:143", after := #[{ on := 17, ground := Ground.data }, { on := 8, ground := Ground.chain }], guard := none }) (v := .bool false) rfl (by kernel_rfl) (by kernel_rfl) (by kernel_rfl) (fun _ _ _ h => h) (Or.inl ⟨by rfl, ?_⟩) hHeld ?_
          · (intro w hSw; (try dsimp only at hSw); go_simp)
          try simp only [Act.put, List.setIfInBounds_toArray, List.set_cons_zero, List.set_cons_succ]
          refine wpAnyH_take (i := 19) (oi := { dst := some 42, op := Op.fieldAddr 47 (Operand.tmp 5) 9, type := 0, pos := "diff.go:143", after := #[{ on := 18, ground := Ground.guard }], guard := some (18, true) }) (v := undef) rfl (by kernel_rfl) (by kernel_rfl) (by kernel_rfl) (fun _ _ _ h => h) (Or.inr ⟨by rfl, rfl⟩) hHeld ?_
          try simp only [Act.put, List.setIfInBounds_toArray, List.set_cons_zero, List.set_cons_succ]
          refine wpAnyH_take (i := 20) (oi := { dst := some 43, op := Op.load 3 (Operand.tmp 42), type := 3, pos := "diff.go:143", after := #[{ on := 19, ground := Ground.data }, { on := 18, ground := Ground.guard }], guard := some (18, true) }) (v := undef) rfl (by kernel_rfl) (by kernel_rfl) (by kernel_rfl) (fun _ _ _ h => h) (Or.inr ⟨by rfl, rfl⟩) hHeld ?_
          try simp only [Act.put, List.setIfInBounds_toArray, List.set_cons_zero, List.set_cons_succ]
          refine wpAnyH_take (i := 21) (oi := { dst := some 44, op := Op.binOp BinOp.eql 3 (Operand.tmp 43) (Operand.const (Value.int IntKind.i64 3)) 3, type := 4, pos := "diff.go:143", after := #[{ on := 20, ground := Ground.data }, { on := 18, ground := Ground.guard }], guard := some (18, true) }) (v := undef) rfl (by kernel_rfl) (by kernel_rfl) (by kernel_rfl) (fun _ _ _ h => h) (Or.inr ⟨by rfl, rfl⟩) hHeld ?_
          try simp only [Act.put, List.setIfInBounds_toArray, List.set_cons_zero, List.set_cons_succ]
          refine wpAnyH_take (i := 22) (oi := { dst := some 45, op := Op.pick (Operand.tmp 41) (Operand.tmp 44) (Operand.const (Value.bool false)), type := 4, pos := "diff.go:143", after := #[{ on := 18, ground := Ground.data }, { on := 21, ground := Ground.data }], guard := none }) (v := .bool false) rfl (by kernel_rfl) (by kernel_rfl) (by kernel_rfl) (fun _ _ _ h => h) (Or.inl ⟨by rfl, ?_⟩) hHeld ?_
          · (intro w hSw; (try dsimp only at hSw); go_simp)
          try simp only [Act.put, List.setIfInBounds_toArray, List.set_cons_zero, List.set_cons_succ]
          refine wpAnyH_done (by kernel_rfl) ?_ _
          go_wp2
          go_roundw
          case rel => exact ⟨k + 1, D, by omega, by simp, hidOf (by rw [HDK.out, if_neg (fun h => HJ.out h.1)]), hidOf (HM.out.keep (HZD.out.block _ (by omega))), hidOf (HB.out.trans (HZD.out.mono HB.out.size)), by have := HZD.out.size; omega⟩
          case measure => simp [intOf]; omega
      · have hkl : k = A.length := by omega
        subst hkl
        have HDD := HD.out
        subst HDD
        go_wp2
        go_ret
        exact ⟨rfl, by rw [HV.out]; exact HM.out, HB.out⟩
  · have h1 : (d.ty != 2) = true := by simp [hty]
    have h2 : (d.ty == 2) = false := by simp [hty]
    have HV : Hid (dnV d A = []) := hidOf (by unfold dnV; rw [if_neg hty])
    clear hty
    go_enter Try.func37, Try.ntmps37
    go_wp2
    go_ret
    exact ⟨rfl, by rw [HV.out]; exact MpR.new w kS, hB1⟩
end Go.Proofs.Ytaaodmagchpnbaa
