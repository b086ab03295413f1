/- Where best, of the code. -/
import Derived.Test.YtblofbdncolikaaTk
import Derived.Test.YtblofbdncolikaaGt
namespace Go.Proofs.Ytblofbdncolikaa
open Go.RowKit Go.Shelf
def oXd_0 : Oper := { dst := some 25, op := Op.move (Operand.tmp 11), type := 117, pos := "fit.go:27", after := #[], guard := none }
def oXd_1 : Oper := { dst := some 26, op := Op.binOp BinOp.neq 117 (Operand.tmp 25) (Operand.const (Value.pointer none)) 117, type := 4, pos := "fit.go:27", after := #[{ on := 0, ground := Ground.data }], guard := none }
def oXd_2 : Oper := { dst := some 27, op := Op.move (Operand.tmp 26), type := 4, pos := "fit.go:27", after := #[{ on := 1, ground := Ground.data }], guard := none }
def oXd_3 : Oper := { dst := some 28, op := Op.move (Operand.tmp 8), type := 117, pos := "fit.go:27", after := #[{ on := 2, ground := Ground.guard }], guard := some (2, true) }
def oXd_4 : Oper := { dst := some 29, op := Op.binOp BinOp.eql 117 (Operand.tmp 28) (Operand.const (Value.pointer none)) 117, type := 4, pos := "fit.go:27", after := #[{ on := 3, ground := Ground.data }, { on := 2, ground := Ground.guard }], guard := some (2, true) }
def oXd_5 : Oper := { dst := some 30, op := Op.move (Operand.tmp 29), type := 4, pos := "fit.go:27", after := #[{ on := 4, ground := Ground.data }, { on := 2, ground := Ground.chain }, { on := 2, ground := Ground.guard }], guard := some (2, true) }
def oXd_6 : Oper := { dst := some 31, op := Op.move (Operand.tmp 11), type := 117, pos := "fit.go:27", after := #[{ on := 5, ground := Ground.guard }], guard := some (5, false) }
def oXd_7 : Oper := { dst := some 32, op := Op.nilCheck (Operand.tmp 31), type := 0, pos := "fit.go:27", after := #[{ on := 6, ground := Ground.data }, { on := 5, ground := Ground.guard }], guard := some (5, false) }
def oXd_8 : Oper := { dst := some 33, op := Op.load 122 (Operand.tmp 32), type := 122, pos := "fit.go:27", after := #[{ on := 7, ground := Ground.data }, { on := 5, ground := Ground.guard }], guard := some (5, false) }
def oXd_9 : Oper := { dst := some 34, op := Op.move (Operand.tmp 8), type := 117, pos := "fit.go:27", after := #[{ on := 5, ground := Ground.guard }], guard := some (5, false) }
def oXd_10 : Oper := { dst := some 35, op := Op.nilCheck (Operand.tmp 34), type := 0, pos := "fit.go:27", after := #[{ on := 9, ground := Ground.data }, { on := 5, ground := Ground.guard }], guard := some (5, false) }
def oXd_11 : Oper := { dst := some 36, op := Op.load 122 (Operand.tmp 35), type := 122, pos := "fit.go:27", after := #[{ on := 10, ground := Ground.data }, { on := 5, ground := Ground.guard }], guard := some (5, false) }
def oXd_12 : Oper := { dst := some 37, op := Op.call { callee := Callee.value (Operand.func 55), args := #[Operand.tmp 33, Operand.tmp 36], argTypes := #[117, 122] }, type := 4, pos := "fit.go:27", after := #[{ on := 8, ground := Ground.data }, { on := 11, ground := Ground.data }, { on := 5, ground := Ground.chain }, { on := 5, ground := Ground.guard }], guard := some (5, false) }
def oXd_13 : Oper := { dst := some 38, op := Op.pick (Operand.tmp 30) (Operand.const (Value.bool true)) (Operand.tmp 37), type := 4, pos := "fit.go:27", after := #[{ on := 5, ground := Ground.data }, { on := 12, ground := Ground.data }, { on := 2, ground := Ground.guard }], guard := some (2, true) }
def oXd_14 : Oper := { dst := some 39, op := Op.pick (Operand.tmp 27) (Operand.tmp 38) (Operand.const (Value.bool false)), type := 4, pos := "fit.go:27", after := #[{ on := 2, ground := Ground.data }, { on := 13, ground := Ground.data }], guard := none }
attribute [local go_sem] Oper.semAt_some
set_option maxRecDepth 100000 in
set_option maxHeartbeats 2000000 in
theorem may_any (s : Sc) (nd a b : Int) (N : List Nd) (A M : List Al) (am : Option Addr) (cm : Nat) (w : World) (hs : Sg w s N A) (hM : Mr w am M) (hcap : cpL N = true) :
  Calls Try.prog 37 #[.agg #[.int .i64 s.ix, .int .i64 s.nx, .slice s.a2 s.n2 s.c2, .slice s.a3 s.n3 s.c3, .slice s.a4 s.n4 s.c4, .slice s.a5 s.n5 s.c5, .slice s.a6 s.n6 s.c6, .slice s.a7 s.n7 s.c7, .slice s.a8 s.n8 s.c8], .slice am M.length cm, .int .i64 nd, .agg #[.int .i64 a, .int .i64 b]] w fun e w' => e = .returned (.bool (chV N A M nd a b).isSome) ∧ Below w.heap.size w w' := by
 obtain ⟨ix, nx, a2, n2, c2, a3, n3, c3, a4, n4, c4, a5, n5, c5, a6, n6, c6, a7, n7, c7, a8, n8, c8⟩ := s
 obtain ⟨e4, e5⟩ : n4 = N.length ∧ n5 = A.length := ⟨hs.n4, hs.n5⟩
 subst e4
 subst e5
 have HC := hidOf (fun (W : World) (hW : Below w.heap.size w W) => choose_any ⟨ix, nx, a2, n2, c2, a3, n3, c3, a4, N.length, c4, a5, A.length, c5, a6, n6, c6, a7, n7, c7, a8, n8, c8⟩ nd a b N A M am cm W (hs.up hW) (mr_up hM hW) hcap)
 dsimp only at HC
 have Z0 := hidOf (FdS.begin w [.int .i64 ix, .int .i64 nx, .slice a2 n2 c2, .slice a3 n3 c3, .slice a4 N.length c4, .slice a5 A.length c5, .slice a6 n6 c6, .slice a7 n7 c7, .slice a8 n8 c8] [.int .i64 a, .int .i64 b] 29 40)
 clear hs hM hcap
 cases hch : chV N A M nd a b with
 | none =>
  rw [hch] at HC
  clear hch
  go_enter Try.func37, Try.ntmps37
  go_wp2_with (go_at_call 54; refine (HC.out _ Z0.out.b).mono ?_; rintro e w1 ⟨rfl, hb⟩; have Z1 := hidOf (Z0.out.grow hb); clear hb)
  go_ret
  exact ⟨rfl, Z1.out.b⟩
 | some l =>
  rw [hch] at HC
  clear hch
  go_enter Try.func37, Try.ntmps37
  go_wp2_with (go_at_call 54; refine (HC.out _ Z0.out.b).mono ?_; rintro e w1 ⟨p, rfl, hcc, hb⟩; have Z1 := hidOf (Z0.out.grow hb); clear hb hcc)
  go_ret
  exact ⟨rfl, Z1.out.b⟩
/- the best until now -/
def BsR (wr : World) (o : Option (Int × Int)) (v : Value) : Prop := match o with
 | none => v = .pointer none
 | some y => ∃ p, v = .pointer (some ⟨p, 0, none⟩) ∧ Ch wr p y.1 y.2
theorem BsR.grow {W W' : World} {o : Option (Int × Int)} {v : Value} (h : BsR W o v) (hb : Below W.heap.size W W') : BsR W' o v := by
 cases o with
 | none => exact h
 | some y => obtain ⟨p, e, hc⟩ := h; exact ⟨p, e, hc.grow hb⟩
def bI (o : Option (Int × Int)) : Int := match o with
 | none => 0
 | some y => y.1
set_option maxRecDepth 100000 in
set_option maxHeartbeats 8000000 in
theorem best_any (s : Sc) (a b : Int) (N : List Nd) (A M : List Al) (am : Option Addr) (cm : Nat) (w : World) (hs : Sg w s N A) (hM : Mr w am M) (hcap : cpL N = true) :
  Calls Try.prog 38 #[.agg #[.int .i64 s.ix, .int .i64 s.nx, .slice s.a2 s.n2 s.c2, .slice s.a3 s.n3 s.c3, .slice s.a4 s.n4 s.c4, .slice s.a5 s.n5 s.c5, .slice s.a6 s.n6 s.c6, .slice s.a7 s.n7 s.c7, .slice s.a8 s.n8 s.c8], .slice am M.length cm, .agg #[.int .i64 a, .int .i64 b]] w fun e w' => e = .returned (.tuple #[.int .i64 (bI (bV N A M a b)), .bool (bV N A M a b).isSome]) ∧ Below w.heap.size w w' := by
 obtain ⟨ix, nx, a2, n2, c2, a3, n3, c3, a4, n4, c4, a5, n5, c5, a6, n6, c6, a7, n7, c7, a8, n8, c8⟩ := s
 obtain ⟨e4, e5⟩ : n4 = N.length ∧ n5 = A.length := ⟨hs.n4, hs.n5⟩
 subst e4
 subst e5
 have HC := hidOf (fun (nd : Int) (W : World) (hW : Below w.heap.size w W) => choose_any ⟨ix, nx, a2, n2, c2, a3, n3, c3, a4, N.length, c4, a5, A.length, c5, a6, n6, c6, a7, n7, c7, a8, n8, c8⟩ nd a b N A M am cm W (hs.up hW) (mr_up hM hW) hcap)
 dsimp only at HC
 have Z0 := hidOf (FdS.begin w [.int .i64 ix, .int .i64 nx, .slice a2 n2 c2, .slice a3 n3 c3, .slice a4 N.length c4, .slice a5 A.length c5, .slice a6 n6 c6, .slice a7 n7 c7, .slice a8 n8 c8] [.int .i64 a, .int .i64 b] 29 40)
 have HF4 := hidOf hs.f4
 dsimp only at HF4
 have hln : N.length ≤ 140737488355328 := Nat.le_trans (Nat.le_mul_of_pos_right _ (by decide)) hs.f4.bd
 clear hs hM hcap
 go_enter Try.func38, Try.ntmps38
 go_wp2
 go_loopw [8, 15] (fun v i wr => ∃ k : Nat, k ≤ N.length ∧ i = .int .i64 k ∧ Hid (BsR wr (bF N A M a b k) v) ∧ Hid (FdS w wr [.int .i64 ix, .int .i64 nx, .slice a2 n2 c2, .slice a3 n3 c3, .slice a4 N.length c4, .slice a5 A.length c5, .slice a6 n6 c6, .slice a7 n7 c7, .slice a8 n8 c8] [.int .i64 a, .int .i64 b])) (fun _ i _ => N.length - (intOf i).toNat)
 case atStart => exact ⟨0, Nat.zero_le _, rfl, hidOf (show BsR _ none _ from rfl), Z0⟩
 case round =>
  clear Z0
  obtain ⟨k, hk, rfl, HBS, Z⟩ := hrel
  by_cases hlt : k < N.length
  ·obtain ⟨bb, off, ha, hbl0, hc0⟩ := HF4.out.at k hlt
   have hbl : bb < wr.heap.size := Nat.lt_of_lt_of_le hbl0 Z.out.b.size
   have hc := range_of hc0 (Z.out.b.block bb hbl0)
   have HST := hidOf (bF_step N A M a b k hlt)
   clear hbl0 hc0
   subst ha
   generalize N[k] = n at *
   have g0 : wr.cell? ⟨bb, off + k * 8, none⟩ = some (.int .i64 n.id) := hc 0 _ rfl
   have g1 : wr.cell? ⟨bb, off + k * 8 + 1, none⟩ = some (.int .i64 n.c) := hc 1 _ rfl
   have g2 : wr.cell? ⟨bb, off + k * 8 + 2, none⟩ = some (.int .i64 n.m) := hc 2 _ rfl
   have g3 : wr.cell? ⟨bb, off + k * 8 + 3, none⟩ = some (.bool n.up) := hc 3 _ rfl
   have g4 : wr.cell? ⟨bb, off + k * 8 + 4, none⟩ = some (.bool n.dr) := hc 4 _ rfl
   have g5 : wr.cell? ⟨bb, off + k * 8 + 5, none⟩ = some (.int .i64 n.bo) := hc 5 _ rfl
   have g6 : wr.cell? ⟨bb, off + k * 8 + 6, none⟩ = some (.int .i64 n.ep) := hc 6 _ rfl
   have g7 : wr.cell? ⟨bb, off + k * 8 + 7, none⟩ = some (.int .i64 n.se) := hc 7 _ rfl
   clear hc
   have lw : w.heap.size < wr.heap.size := Nat.lt_of_succ_lt Z.out.l
   have la : w.heap.size + 1 < wr.heap.size := Z.out.l
   have s0 : wr.cell? ⟨w.heap.size, 0, none⟩ = some (.int .i64 ix) := Z.out.s 0 _ rfl
   have s1 : wr.cell? ⟨w.heap.size, 1, none⟩ = some (.int .i64 nx) := Z.out.s 1 _ rfl
   have s2 : wr.cell? ⟨w.heap.size, 2, none⟩ = some (.slice a2 n2 c2) := Z.out.s 2 _ rfl
   have s3 : wr.cell? ⟨w.heap.size, 3, none⟩ = some (.slice a3 n3 c3) := Z.out.s 3 _ rfl
   have s4 : wr.cell? ⟨w.heap.size, 4, none⟩ = some (.slice (some ⟨bb, off, none⟩) N.length c4) := Z.out.s 4 _ rfl
   have s5 : wr.cell? ⟨w.heap.size, 5, none⟩ = some (.slice a5 A.length c5) := Z.out.s 5 _ rfl
   have s6 : wr.cell? ⟨w.heap.size, 6, none⟩ = some (.slice a6 n6 c6) := Z.out.s 6 _ rfl
   have s7 : wr.cell? ⟨w.heap.size, 7, none⟩ = some (.slice a7 n7 c7) := Z.out.s 7 _ rfl
   have s8 : wr.cell? ⟨w.heap.size, 8, none⟩ = some (.slice a8 n8 c8) := Z.out.s 8 _ rfl
   have a0 : wr.cell? ⟨w.heap.size + 1, 0, none⟩ = some (.int .i64 a) := Z.out.a 0 _ rfl
   have a1 : wr.cell? ⟨w.heap.size + 1, 1, none⟩ = some (.int .i64 b) := Z.out.a 1 _ rfl
   have Z2 := hidOf (Z.out.grow (below1 wr (.cells #[.int .i64 n.id, .int .i64 n.c, .int .i64 n.m, .bool n.up, .bool n.dr, .int .i64 n.bo, .int .i64 n.ep, .int .i64 n.se] 46)))
   have HBS2 := hidOf (HBS.out.grow (below1 wr (.cells #[.int .i64 n.id, .int .i64 n.c, .int .i64 n.m, .bool n.up, .bool n.dr, .int .i64 n.bo, .int .i64 n.ep, .int .i64 n.se] 46)))
   have HCN := hidOf (HC.out n.id)
   clear Z HBS
   cases hch : chV N A M n.id a b with
   | none =>
    rw [hch] at HCN
    have HNX := hidOf (HST.out.trans (bS_none hch _))
    clear hch HST
    go_upto_region 6 with (go_at_call 54; refine (HCN.out _ Z2.out.b).mono ?_; rintro e w1 ⟨rfl, hb⟩; have Z3 := hidOf (Z2.out.grow hb); have HBS3 := hidOf (HBS2.out.grow hb); clear hb)
    clear lw la s0 s1 s2 s3 s4 s5 s6 s7 s8 a0 a1 g0 g1 g2 g3 g4 g5 g6 g7 hbl
    refine wp_region_held_drew (S := fun (_ : World) => True) (by kernel_rfl) trivial (fun hHeld => ?_)
    refine tkH 0 oXd_0 25 (.pointer none) hHeld (by intro w hS; dsimp only [oXd_0] at hS ⊢; go_simp) ?_
    try simp only [pA, pC, pD]
    refine tkH 1 oXd_1 26 (.bool false) hHeld (by intro w hS; dsimp only [oXd_1] at hS ⊢; go_simp) ?_
    try simp only [pA, pC, pD]
    refine tkH 2 oXd_2 27 (.bool false) hHeld (by intro w hS; dsimp only [oXd_2] at hS ⊢; go_simp) ?_
    try simp only [pA, pC, pD]
    refine tkN 3 oXd_3 28 hHeld ?_
    try simp only [pA, pC, pD]
    refine tkN 4 oXd_4 29 hHeld ?_
    try simp only [pA, pC, pD]
    refine tkN 5 oXd_5 30 hHeld ?_
    try simp only [pA, pC, pD]
    refine tkN 6 oXd_6 31 hHeld ?_
    try simp only [pA, pC, pD]
    refine tkN 7 oXd_7 32 hHeld ?_
    try simp only [pA, pC, pD]
    refine tkN 8 oXd_8 33 hHeld ?_
    try simp only [pA, pC, pD]
    refine tkN 9 oXd_9 34 hHeld ?_
    try simp only [pA, pC, pD]
    refine tkN 10 oXd_10 35 hHeld ?_
    try simp only [pA, pC, pD]
    refine tkN 11 oXd_11 36 hHeld ?_
    try simp only [pA, pC, pD]
    refine tkN 12 oXd_12 37 hHeld ?_
    try simp only [pA, pC, pD]
    refine tkN 13 oXd_13 38 hHeld ?_
    try simp only [pA, pC, pD]
    refine tkH 14 oXd_14 39 (.bool false) hHeld (by intro w hS; dsimp only [oXd_14] at hS ⊢; go_simp) ?_
    try simp only [pA, pC, pD]
    refine wpAnyH_done (by kernel_rfl) ?_ _
    go_wp2
    go_roundw
    case rel => exact ⟨k + 1, by omega, by go_num, hidOf (by rw [HNX.out]; exact HBS3.out.grow (bdrew _)), hidOf (Z3.out.grow (bdrew _))⟩
    case measure => simp [intOf]; omega
   | some l =>
    rw [hch] at HCN
    cases hbf : bF N A M a b k with
    | none =>
     rw [hbf] at HBS2 HST
     have HNX := hidOf (HST.out.trans (bS_first hch))
     have hv := HBS2.out
     unfold BsR at hv
     dsimp only at hv
     subst hv
     clear hch HST hbf
     go_upto_region 6 with (go_at_call 54; refine (HCN.out _ Z2.out.b).mono ?_; rintro e w1 ⟨p, rfl, hcc, hb⟩; have Z3 := hidOf (Z2.out.grow hb); have HP := hidOf hcc; clear hb hcc)
     clear lw la s0 s1 s2 s3 s4 s5 s6 s7 s8 a0 a1 g0 g1 g2 g3 g4 g5 g6 g7 hbl
     refine wp_region_held_drew (S := fun (_ : World) => True) (by kernel_rfl) trivial (fun hHeld => ?_)
     refine tkH 0 oXd_0 25 (.pointer (some ⟨p, 0, none⟩)) hHeld (by intro w hS; dsimp only [oXd_0] at hS ⊢; go_simp) ?_
     try simp only [pA, pC, pD]
     refine tkH 1 oXd_1 26 (.bool true) hHeld (by intro w hS; dsimp only [oXd_1] at hS ⊢; go_simp) ?_
     try simp only [pA, pC, pD]
     refine tkH 2 oXd_2 27 (.bool true) hHeld (by intro w hS; dsimp only [oXd_2] at hS ⊢; go_simp) ?_
     try simp only [pA, pC, pD]
     refine tkH 3 oXd_3 28 (.pointer none) hHeld (by intro w hS; dsimp only [oXd_3] at hS ⊢; go_simp) ?_
     try simp only [pA, pC, pD]
     refine tkH 4 oXd_4 29 (.bool true) hHeld (by intro w hS; dsimp only [oXd_4] at hS ⊢; go_simp) ?_
     try simp only [pA, pC, pD]
     refine tkH 5 oXd_5 30 (.bool true) hHeld (by intro w hS; dsimp only [oXd_5] at hS ⊢; go_simp) ?_
     try simp only [pA, pC, pD]
     refine tkN 6 oXd_6 31 hHeld ?_
     try simp only [pA, pC, pD]
     refine tkN 7 oXd_7 32 hHeld ?_
     try simp only [pA, pC, pD]
     refine tkN 8 oXd_8 33 hHeld ?_
     try simp only [pA, pC, pD]
     refine tkN 9 oXd_9 34 hHeld ?_
     try simp only [pA, pC, pD]
     refine tkN 10 oXd_10 35 hHeld ?_
     try simp only [pA, pC, pD]
     refine tkN 11 oXd_11 36 hHeld ?_
     try simp only [pA, pC, pD]
     refine tkN 12 oXd_12 37 hHeld ?_
     try simp only [pA, pC, pD]
     refine tkH 13 oXd_13 38 (.bool true) hHeld (by intro w hS; dsimp only [oXd_13] at hS ⊢; go_simp) ?_
     try simp only [pA, pC, pD]
     refine tkH 14 oXd_14 39 (.bool true) hHeld (by intro w hS; dsimp only [oXd_14] at hS ⊢; go_simp) ?_
     try simp only [pA, pC, pD]
     refine wpAnyH_done (by kernel_rfl) ?_ _
     go_wp2
     go_roundw
     case rel => exact ⟨k + 1, by omega, by go_num, hidOf (by rw [HNX.out]; exact ⟨p, rfl, HP.out.grow (bdrew _)⟩), hidOf (Z3.out.grow (bdrew _))⟩
     case measure => simp [intOf]; omega
    | some y =>
     obtain ⟨y1, y2⟩ := y
     rw [hbf] at HBS2 HST
     have HNX := hidOf (HST.out.trans (bS_some hch _))
     obtain ⟨q, hv, hq⟩ := HBS2.out
     dsimp only at hq
     subst hv
     have HQ0 := hidOf hq
     clear hch HST hbf hq HBS2
     generalize hbt : bt (n.id, l) (y1, y2) = bb2 at HNX
     go_upto_region 6 with (go_at_call 54; refine (HCN.out _ Z2.out.b).mono ?_; rintro e w1 ⟨p, rfl, hcc, hb⟩; have Z3 := hidOf (Z2.out.grow hb); have HP := hidOf hcc; have HQ := hidOf (HQ0.out.grow hb); clear hb hcc)
     clear lw la s0 s1 s2 s3 s4 s5 s6 s7 s8 a0 a1 g0 g1 g2 g3 g4 g5 g6 g7 hbl
     have HBT := hidOf (fun W => better_any n.id l y1 y2 W)
     rw [hbt] at HBT
     clear hbt HQ0
     replace HP := hidOf (HP.out.grow (bdrew _))
     replace HQ := hidOf (HQ.out.grow (bdrew _))
     replace Z3 := hidOf (Z3.out.grow (bdrew _))
     refine wp_region_held_drew (S := fun (wz : World) => wz.cell? ⟨p, 0, none⟩ = some (.int .i64 n.id) ∧ wz.cell? ⟨p, 1, none⟩ = some (.int .u64 l) ∧ wz.cell? ⟨q, 0, none⟩ = some (.int .i64 y1) ∧ wz.cell? ⟨q, 1, none⟩ = some (.int .u64 y2)) (by kernel_rfl) ⟨HP.out.c0, HP.out.c1, HQ.out.c0, HQ.out.c1⟩ (fun hHeld => ?_)
     refine tkH 0 oXd_0 25 (.pointer (some ⟨p, 0, none⟩)) hHeld (by intro w hS; dsimp only [oXd_0] at hS ⊢; go_simp) ?_
     try simp only [pA, pC, pD]
     refine tkH 1 oXd_1 26 (.bool true) hHeld (by intro w hS; dsimp only [oXd_1] at hS ⊢; go_simp) ?_
     try simp only [pA, pC, pD]
     refine tkH 2 oXd_2 27 (.bool true) hHeld (by intro w hS; dsimp only [oXd_2] at hS ⊢; go_simp) ?_
     try simp only [pA, pC, pD]
     refine tkH 3 oXd_3 28 (.pointer (some ⟨q, 0, none⟩)) hHeld (by intro w hS; dsimp only [oXd_3] at hS ⊢; go_simp) ?_
     try simp only [pA, pC, pD]
     refine tkH 4 oXd_4 29 (.bool false) hHeld (by intro w hS; dsimp only [oXd_4] at hS ⊢; go_simp) ?_
     try simp only [pA, pC, pD]
     refine tkH 5 oXd_5 30 (.bool false) hHeld (by intro w hS; dsimp only [oXd_5] at hS ⊢; go_simp) ?_
     try simp only [pA, pC, pD]
     refine tkH 6 oXd_6 31 (.pointer (some ⟨p, 0, none⟩)) hHeld (by intro w hS; dsimp only [oXd_6] at hS ⊢; go_simp) ?_
     try simp only [pA, pC, pD]
     refine tkH 7 oXd_7 32 (.pointer (some ⟨p, 0, none⟩)) hHeld (by intro w hS; dsimp only [oXd_7] at hS ⊢; go_simp) ?_
     try simp only [pA, pC, pD]
     refine tkH 8 oXd_8 33 (.agg #[.int .i64 n.id, .int .u64 l]) hHeld (by intro w hS; dsimp only [oXd_8] at hS ⊢; go_simp) ?_
     try simp only [pA, pC, pD]
     refine tkH 9 oXd_9 34 (.pointer (some ⟨q, 0, none⟩)) hHeld (by intro w hS; dsimp only [oXd_9] at hS ⊢; go_simp) ?_
     try simp only [pA, pC, pD]
     refine tkH 10 oXd_10 35 (.pointer (some ⟨q, 0, none⟩)) hHeld (by intro w hS; dsimp only [oXd_10] at hS ⊢; go_simp) ?_
     try simp only [pA, pC, pD]
     refine tkH 11 oXd_11 36 (.agg #[.int .i64 y1, .int .u64 y2]) hHeld (by intro w hS; dsimp only [oXd_11] at hS ⊢; go_simp) ?_
     try simp only [pA, pC, pD]
     refine wpAnyH_ready (rs := [12]) (by kernel_rfl) (by simp) ?_
     refine AllReadyH.cons (o := { dst := some 37, op := Op.call { callee := Callee.value (Operand.func 55), args := #[Operand.tmp 33, Operand.tmp 36], argTypes := #[117, 122] }, type := 4, pos := "fit.go:27", after := #[{ on := 8, ground := Ground.data }, { on := 11, ground := Ground.data }, { on := 5, ground := Ground.chain }, { on := 5, ground := Ground.guard }], guard := some (5, false) }) rfl (fun K hK => ?_) AllReadyH.nil
     go_simp
     refine (HBT.out _).mono ?_
     rintro e w2 ⟨rfl, hb2⟩
     refine hK.out _ _ ⟨(HP.out.grow hb2).c0, (HP.out.grow hb2).c1, (HQ.out.grow hb2).c0, (HQ.out.grow hb2).c1⟩ (fun hHeld1 => ?_)
     clear hK K
     try simp only [Act.put, List.setIfInBounds_toArray, List.set_cons_zero, List.set_cons_succ]
     refine tkH 13 oXd_13 38 (.bool bb2) hHeld1 (by intro w hS; dsimp only [oXd_13] at hS ⊢; go_simp) ?_
     try simp only [pA, pC, pD]
     refine tkH 14 oXd_14 39 (.bool bb2) hHeld1 (by intro w hS; dsimp only [oXd_14] at hS ⊢; go_simp) ?_
     try simp only [pA, pC, pD]
     refine wpAnyH_done (by kernel_rfl) ?_ _
     cases bb2 with
     | true =>
      go_wp2
      go_roundw
      case rel => exact ⟨k + 1, by omega, by go_num, hidOf (by rw [HNX.out]; exact ⟨p, rfl, HP.out.grow hb2⟩), hidOf (Z3.out.grow hb2)⟩
      case measure => simp [intOf]; omega
     | false =>
      go_wp2
      go_roundw
      case rel => exact ⟨k + 1, by omega, by go_num, hidOf (by rw [HNX.out]; exact ⟨q, rfl, HQ.out.grow hb2⟩), hidOf (Z3.out.grow hb2)⟩
      case measure => simp [intOf]; omega
  ·have hkl : k = N.length := by omega
   subst hkl
   have HV : Hid (BsR wr (bV N A M a b) _) := HBS
   clear HBS HC HF4
   cases hbv : bV N A M a b with
   | none =>
    rw [hbv] at HV
    have hv := HV.out
    unfold BsR at hv
    dsimp only at hv
    subst hv
    have HBV := hidOf hbv
    clear hbv
    go_wp2
    go_ret2
    exact ⟨by rw [HBV.out]; rfl, Z.out.b⟩
   | some y =>
    rw [hbv] at HV
    obtain ⟨q, hv, hq⟩ := HV.out
    subst hv
    have q0 := hq.c0
    have lq := hq.lt
    have HBV := hidOf hbv
    clear hbv hq
    go_wp2
    go_ret2
    exact ⟨by rw [HBV.out]; rfl, Z.out.b⟩
end Go.Proofs.Ytblofbdncolikaa
