/- Where best, of the document; what the laws ask besides. -/
import Derived.Test.YtblofbdncolikaaTe
namespace Go.Proofs.Ytblofbdncolikaa
open Go.RowKit Go.Shelf
attribute [local go_sem] Oper.semAt_some
set_option maxRecDepth 100000 in
set_option maxHeartbeats 2000000 in
theorem refMay_any (s : Sc) (nd a b : Int) (N : List Nd) (A M : List Al) (am : Option Addr) (cm : Nat) (w : World) (hs : Sg w s N A) (hM : Mr w am M) (hcap : cpL N = true) :
  Calls Try.prog 23 #[.agg #[.int .i64 s.ix, .int .i64 s.nx, .slice s.a2 s.n2 s.c2, .slice s.a3 s.n3 s.c3, .slice s.a4 s.n4 s.c4, .slice s.a5 s.n5 s.c5, .slice s.a6 s.n6 s.c6, .slice s.a7 s.n7 s.c7, .slice s.a8 s.n8 s.c8], .slice am M.length cm, .int .i64 nd, .agg #[.int .i64 a, .int .i64 b]] w fun e w' => e = .returned (.bool (chV N A M nd a b).isSome) ∧ Below w.heap.size w w' := by
 obtain ⟨ix, nx, a2, n2, c2, a3, n3, c3, a4, n4, c4, a5, n5, c5, a6, n6, c6, a7, n7, c7, a8, n8, c8⟩ := s
 obtain ⟨e4, e5⟩ : n4 = N.length ∧ n5 = A.length := ⟨hs.n4, hs.n5⟩
 subst e4
 subst e5
 have HC := hidOf (fun (W : World) (hW : Below w.heap.size w W) => refLeft_any ⟨ix, nx, a2, n2, c2, a3, n3, c3, a4, N.length, c4, a5, A.length, c5, a6, n6, c6, a7, n7, c7, a8, n8, c8⟩ nd a b N A M am cm W (hs.up hW) (mr_up hM hW) hcap)
 dsimp only at HC
 have Z0 := hidOf (FdS.begin w [.int .i64 ix, .int .i64 nx, .slice a2 n2 c2, .slice a3 n3 c3, .slice a4 N.length c4, .slice a5 A.length c5, .slice a6 n6 c6, .slice a7 n7 c7, .slice a8 n8 c8] [.int .i64 a, .int .i64 b] 29 40)
 clear hs hM hcap
 go_enter Try.func23, Try.ntmps23
 go_wp2_with (go_at_call 42; refine (HC.out _ Z0.out.b).mono ?_; rintro e w1 ⟨rfl, hb⟩; have Z1 := hidOf (Z0.out.grow hb); clear hb)
 go_ret
 exact ⟨rfl, Z1.out.b⟩
def bL (o : Option (Int × Int)) : Int := match o with
 | none => 0
 | some y => y.2
set_option maxRecDepth 100000 in
set_option maxHeartbeats 8000000 in
theorem refBest_any (s : Sc) (a b : Int) (N : List Nd) (A M : List Al) (am : Option Addr) (cm : Nat) (w : World) (hs : Sg w s N A) (hM : Mr w am M) (hcap : cpL N = true) :
  Calls Try.prog 24 #[.agg #[.int .i64 s.ix, .int .i64 s.nx, .slice s.a2 s.n2 s.c2, .slice s.a3 s.n3 s.c3, .slice s.a4 s.n4 s.c4, .slice s.a5 s.n5 s.c5, .slice s.a6 s.n6 s.c6, .slice s.a7 s.n7 s.c7, .slice s.a8 s.n8 s.c8], .slice am M.length cm, .agg #[.int .i64 a, .int .i64 b]] w fun e w' => e = .returned (.tuple #[.int .i64 (bI (bV N A M a b)), .bool (bV N A M a b).isSome]) ∧ Below w.heap.size w w' := by
 obtain ⟨ix, nx, a2, n2, c2, a3, n3, c3, a4, n4, c4, a5, n5, c5, a6, n6, c6, a7, n7, c7, a8, n8, c8⟩ := s
 obtain ⟨e4, e5⟩ : n4 = N.length ∧ n5 = A.length := ⟨hs.n4, hs.n5⟩
 subst e4
 subst e5
 have HC := hidOf (fun (nd : Int) (W : World) (hW : Below w.heap.size w W) => refLeft_any ⟨ix, nx, a2, n2, c2, a3, n3, c3, a4, N.length, c4, a5, A.length, c5, a6, n6, c6, a7, n7, c7, a8, n8, c8⟩ nd a b N A M am cm W (hs.up hW) (mr_up hM hW) hcap)
 dsimp only at HC
 have Z0 := hidOf (FdS.begin w [.int .i64 ix, .int .i64 nx, .slice a2 n2 c2, .slice a3 n3 c3, .slice a4 N.length c4, .slice a5 A.length c5, .slice a6 n6 c6, .slice a7 n7 c7, .slice a8 n8 c8] [.int .i64 a, .int .i64 b] 29 40)
 have HF4 := hidOf hs.f4
 dsimp only at HF4
 have hln : N.length ≤ 140737488355328 := Nat.le_trans (Nat.le_mul_of_pos_right _ (by decide)) hs.f4.bd
 clear hs hM hcap
 go_enter Try.func24, Try.ntmps24
 go_wp2
 go_loopw [8, 9, 10, 11] (fun v1 v2 v3 i wr => ∃ k : Nat, k ≤ N.length ∧ i = .int .i64 k ∧ Hid (v1 = .int .i64 (bI (bF N A M a b k)) ∧ v2 = .int .i64 (bL (bF N A M a b k)) ∧ v3 = .bool (bF N A M a b k).isSome) ∧ Hid (FdS w wr [.int .i64 ix, .int .i64 nx, .slice a2 n2 c2, .slice a3 n3 c3, .slice a4 N.length c4, .slice a5 A.length c5, .slice a6 n6 c6, .slice a7 n7 c7, .slice a8 n8 c8] [.int .i64 a, .int .i64 b])) (fun _ _ _ i _ => N.length - (intOf i).toNat)
 case atStart => exact ⟨0, Nat.zero_le _, rfl, hidOf ⟨rfl, rfl, rfl⟩, Z0⟩
 case round =>
  clear Z0
  obtain ⟨k, hk, rfl, HV, Z⟩ := hrel
  by_cases hlt : k < N.length
  ·obtain ⟨bb, off, ha, hbl0, hc0⟩ := HF4.out.at k hlt
   have hbl : bb < wr.heap.size := Nat.lt_of_lt_of_le hbl0 Z.out.b.size
   have hc := range_of hc0 (Z.out.b.block bb hbl0)
   have HST := hidOf (bF_step N A M a b k hlt)
   clear hbl0 hc0
   subst ha
   generalize N[k] = n at *
   have g0 : wr.cell? ⟨bb, off + k * 8, none⟩ = some (.int .i64 n.id) := hc 0 _ rfl
   clear hc
   have lw : w.heap.size < wr.heap.size := Nat.lt_of_succ_lt Z.out.l
   have la : w.heap.size + 1 < wr.heap.size := Z.out.l
   have s0 : wr.cell? ⟨w.heap.size, 0, none⟩ = some (.int .i64 ix) := Z.out.s 0 _ rfl
   have s1 : wr.cell? ⟨w.heap.size, 1, none⟩ = some (.int .i64 nx) := Z.out.s 1 _ rfl
   have s2 : wr.cell? ⟨w.heap.size, 2, none⟩ = some (.slice a2 n2 c2) := Z.out.s 2 _ rfl
   have s3 : wr.cell? ⟨w.heap.size, 3, none⟩ = some (.slice a3 n3 c3) := Z.out.s 3 _ rfl
   have s4 : wr.cell? ⟨w.heap.size, 4, none⟩ = some (.slice (some ⟨bb, off, none⟩) N.length c4) := Z.out.s 4 _ rfl
   have s5 : wr.cell? ⟨w.heap.size, 5, none⟩ = some (.slice a5 A.length c5) := Z.out.s 5 _ rfl
   have s6 : wr.cell? ⟨w.heap.size, 6, none⟩ = some (.slice a6 n6 c6) := Z.out.s 6 _ rfl
   have s7 : wr.cell? ⟨w.heap.size, 7, none⟩ = some (.slice a7 n7 c7) := Z.out.s 7 _ rfl
   have s8 : wr.cell? ⟨w.heap.size, 8, none⟩ = some (.slice a8 n8 c8) := Z.out.s 8 _ rfl
   have a0 : wr.cell? ⟨w.heap.size + 1, 0, none⟩ = some (.int .i64 a) := Z.out.a 0 _ rfl
   have a1 : wr.cell? ⟨w.heap.size + 1, 1, none⟩ = some (.int .i64 b) := Z.out.a 1 _ rfl
   have HCN := hidOf (HC.out n.id)
   generalize bF N A M a b k = o at *
   cases hch : chV N A M n.id a b with
   | none =>
    rw [hch] at HCN
    have HNX := hidOf (HST.out.trans (bS_none hch _))
    clear hch HST
    have HR : Hid (_ ∧ _ ∧ _) := HV
    dsimp only [Option.isSome, Option.getD] at HCN
    go_wp2_with (go_at_call 42; refine (HCN.out _ Z.out.b).mono ?_; rintro e w1 ⟨rfl, hb⟩; have Z3 := hidOf (Z.out.grow hb); clear hb)
    go_roundw
    case rel => exact ⟨k + 1, by omega, by go_num, hidOf (by rw [HNX.out]; exact HV.out), Z3⟩
    case measure => simp [intOf]; omega
   | some l =>
    rw [hch] at HCN
    dsimp only [Option.isSome, Option.getD] at HCN
    cases o with
    | none =>
     have HNX := hidOf (HST.out.trans (bS_first hch))
     obtain ⟨rfl, rfl, rfl⟩ := HV.out
     clear hch HST HV
     dsimp only [Option.isSome, bI, bL]
     go_wp2_with (go_at_call 42; refine (HCN.out _ Z.out.b).mono ?_; rintro e w1 ⟨rfl, hb⟩; have Z3 := hidOf (Z.out.grow hb); clear hb)
     go_roundw
     case rel => exact ⟨k + 1, by omega, by go_num, hidOf (by rw [HNX.out]; exact ⟨rfl, rfl, rfl⟩), Z3⟩
     case measure => simp [intOf]; omega
    | some y =>
     obtain ⟨y1, y2⟩ := y
     have HNX := hidOf (HST.out.trans (bS_some hch _))
     obtain ⟨rfl, rfl, rfl⟩ := HV.out
     clear hch HST HV
     dsimp only [Option.isSome, bI, bL]
     by_cases h1 : l < y2
     ·have HB : Hid (bt (n.id, l) (y1, y2) = true) := hidOf (by simp [bt, h1])
      go_wp2_with (go_at_call 42; refine (HCN.out _ Z.out.b).mono ?_; rintro e w1 ⟨rfl, hb⟩; have Z3 := hidOf (Z.out.grow hb); clear hb)
      go_roundw
      case rel => exact ⟨k + 1, by omega, by go_num, hidOf (by rw [HNX.out, if_pos HB.out]; exact ⟨rfl, rfl, rfl⟩), Z3⟩
      case measure => simp [intOf]; omega
     ·by_cases h2 : l = y2
      ·subst h2
       by_cases h3 : n.id < y1
       ·have HB : Hid (bt (n.id, l) (y1, l) = true) := hidOf (by simp [bt, h3])
        go_wp2_with (go_at_call 42; refine (HCN.out _ Z.out.b).mono ?_; rintro e w1 ⟨rfl, hb⟩; have Z3 := hidOf (Z.out.grow hb); clear hb)
        go_roundw
        case rel => exact ⟨k + 1, by omega, by go_num, hidOf (by rw [HNX.out, if_pos HB.out]; exact ⟨rfl, rfl, rfl⟩), Z3⟩
        case measure => simp [intOf]; omega
       ·have HB : Hid (¬ bt (n.id, l) (y1, l) = true) := hidOf (by simp [bt, h3])
        go_wp2_with (go_at_call 42; refine (HCN.out _ Z.out.b).mono ?_; rintro e w1 ⟨rfl, hb⟩; have Z3 := hidOf (Z.out.grow hb); clear hb)
        go_roundw
        case rel => exact ⟨k + 1, by omega, by go_num, hidOf (by rw [HNX.out, if_neg HB.out]; exact ⟨rfl, rfl, rfl⟩), Z3⟩
        case measure => simp [intOf]; omega
      ·have HB : Hid (¬ bt (n.id, l) (y1, y2) = true) := hidOf (by simp [bt, h1, h2])
       have e2 : (l == y2) = false := by simp [h2]
       clear h2
       go_wp2_with (go_at_call 42; refine (HCN.out _ Z.out.b).mono ?_; rintro e w1 ⟨rfl, hb⟩; have Z3 := hidOf (Z.out.grow hb); clear hb)
       go_roundw
       case rel => exact ⟨k + 1, by omega, by go_num, hidOf (by rw [HNX.out, if_neg HB.out]; exact ⟨rfl, rfl, rfl⟩), Z3⟩
       case measure => simp [intOf]; omega
  ·have hkl : k = N.length := by omega
   subst hkl
   obtain ⟨rfl, rfl, rfl⟩ := HV.out
   clear HV HC HF4
   have s4 : wr.cell? ⟨w.heap.size, 4, none⟩ = some (.slice a4 N.length c4) := Z.out.s 4 _ rfl
   have lw : w.heap.size < wr.heap.size := Nat.lt_of_succ_lt Z.out.l
   go_wp2
   go_ret2
   exact ⟨rfl, Z.out.b⟩
theorem cpL_no {N : List Nd} (i : Nat) (hi : i < N.length) (h : cpB N[i] = false) : cpL N = false := by
 cases hc : cpL N with
 | false => rfl
 | true => have := List.all_eq_true.1 hc N[i] (List.getElem_mem hi); rw [h] at this; cases this
theorem cpL_all {N : List Nd} (h : ∀ i (hi : i < N.length), cpB N[i] = true) : cpL N = true := by
 refine List.all_eq_true.2 fun x hx => ?_
 obtain ⟨i, hi, rfl⟩ := List.mem_iff_getElem.1 hx
 exact h i hi
set_option maxRecDepth 100000 in
set_option maxHeartbeats 4000000 in
theorem caps_any (s : Sc) (N : List Nd) (A : List Al) (w : World) (hs : Sg w s N A) :
  Calls Try.prog 6 #[.agg #[.int .i64 s.ix, .int .i64 s.nx, .slice s.a2 s.n2 s.c2, .slice s.a3 s.n3 s.c3, .slice s.a4 s.n4 s.c4, .slice s.a5 s.n5 s.c5, .slice s.a6 s.n6 s.c6, .slice s.a7 s.n7 s.c7, .slice s.a8 s.n8 s.c8]] w fun e w' => e = .returned (.bool (cpL N)) ∧ Below w.heap.size w w' := by
 obtain ⟨ix, nx, a2, n2, c2, a3, n3, c3, a4, n4, c4, a5, n5, c5, a6, n6, c6, a7, n7, c7, a8, n8, c8⟩ := s
 obtain ⟨e4, e5⟩ : n4 = N.length ∧ n5 = A.length := ⟨hs.n4, hs.n5⟩
 subst e4
 subst e5
 have HF4 := hidOf hs.f4
 dsimp only at HF4
 have hln : N.length ≤ 140737488355328 := Nat.le_trans (Nat.le_mul_of_pos_right _ (by decide)) hs.f4.bd
 have HB0 := hidOf (below1 w (.cells #[.int .i64 ix, .int .i64 nx, .slice a2 n2 c2, .slice a3 n3 c3, .slice a4 N.length c4, .slice a5 A.length c5, .slice a6 n6 c6, .slice a7 n7 c7, .slice a8 n8 c8] 29))
 have HS0 : Hid ((w.alloc (.cells #[.int .i64 ix, .int .i64 nx, .slice a2 n2 c2, .slice a3 n3 c3, .slice a4 N.length c4, .slice a5 A.length c5, .slice a6 n6 c6, .slice a7 n7 c7, .slice a8 n8 c8] 29)).cell? ⟨w.heap.size, 4, none⟩ = some (.slice a4 N.length c4)) := hidOf ((box_new (cs := [.int .i64 ix, .int .i64 nx, .slice a2 n2 c2, .slice a3 n3 c3, .slice a4 N.length c4, .slice a5 A.length c5, .slice a6 n6 c6, .slice a7 n7 c7, .slice a8 n8 c8]) (Below.refl _ _)) 4 _ rfl)
 clear hs
 go_enter Try.func6, Try.ntmps6
 go_wp2
 go_loopw [3] (fun i wr => ∃ k : Nat, k ≤ N.length ∧ i = .int .i64 k ∧ Hid (∀ j (hj : j < k) (h : j < N.length), cpB N[j] = true) ∧ Hid (Below w.heap.size w wr ∧ wr.cell? ⟨w.heap.size, 4, none⟩ = some (.slice a4 N.length c4) ∧ w.heap.size < wr.heap.size)) (fun i _ => N.length - (intOf i).toNat)
 case atStart => exact ⟨0, Nat.zero_le _, rfl, hidOf (fun j hj => absurd hj (Nat.not_lt_zero _)), hidOf ⟨HB0.out, HS0.out, by simp⟩⟩
 case round =>
  clear HB0 HS0
  obtain ⟨k, hk, rfl, HV, HI⟩ := hrel
  obtain ⟨hb, s4, lw⟩ := HI.out
  have HB := hidOf hb
  clear hb
  by_cases hlt : k < N.length
  ·obtain ⟨bb, off, ha, hbl0, hc0⟩ := HF4.out.at k hlt
   have hbl : bb < wr.heap.size := Nat.lt_of_lt_of_le hbl0 HB.out.size
   have hc := range_of hc0 (HB.out.block bb hbl0)
   have HNO := hidOf (cpL_no (N := N) k hlt)
   have HYE : Hid (cpB N[k] = true → ∀ j (hj : j < k + 1) (h : j < N.length), cpB N[j] = true) := hidOf (by
    intro hy j hj h
    by_cases e : j = k
    ·subst e; exact hy
    ·exact HV.out j (by omega) h)
   clear hbl0 hc0
   subst ha
   generalize N[k] = n at *
   have g1 : wr.cell? ⟨bb, off + k * 8 + 1, none⟩ = some (.int .i64 n.c) := hc 1 _ rfl
   have g2 : wr.cell? ⟨bb, off + k * 8 + 2, none⟩ = some (.int .i64 n.m) := hc 2 _ rfl
   clear hc
   have HI2 := hidOf (below1 wr (.cells #[.int .i64 n.c, .int .i64 n.m] 40))
   by_cases h1 : n.c ≤ 2305843009213693952
   ·have h1' : ¬ 2305843009213693952 < n.c := by omega
    by_cases h2 : n.m ≤ 2305843009213693952
    ·have h2' : ¬ 2305843009213693952 < n.m := by omega
     have HY := hidOf (HYE.out (by simp [cpB, h1, h2]))
     clear h1 h2 HNO HYE
     go_wp2
     go_roundw
     case rel => exact ⟨k + 1, by omega, by go_num, HY, hidOf ⟨HB.out.trans (HI2.out.mono HB.out.size), (hb_cell HI2.out lw).trans s4, Nat.lt_of_lt_of_le lw HI2.out.size⟩⟩
     case measure => simp [intOf]; omega
    ·have h2' : 2305843009213693952 < n.m := by omega
     have HY := hidOf (HNO.out (by simp [cpB, h2]))
     clear h1 h2 HNO HYE
     go_wp2
     go_ret
     exact ⟨by rw [HY.out]; rfl, HB.out.trans (HI2.out.mono HB.out.size)⟩
   ·have h1' : 2305843009213693952 < n.c := by omega
    have HY := hidOf (HNO.out (by simp [cpB, h1]))
    clear h1 HNO HYE
    go_wp2
    go_ret
    exact ⟨by rw [HY.out]; rfl, HB.out.trans (HI2.out.mono HB.out.size)⟩
  ·have hkl : k = N.length := by omega
   subst hkl
   have HY := hidOf (cpL_all (N := N) (fun i hi => HV.out i hi hi))
   go_wp2
   go_ret
   exact ⟨by rw [HY.out]; rfl, HB.out⟩
end Go.Proofs.Ytblofbdncolikaa
