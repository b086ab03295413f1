/- Two lists of records are compared. -/
import Derived.Test.YtblofbdncolikaaNe
import Derived.BigQuiet
import Derived.Deep.QuietTactic
import Derived.WalkSmall
namespace Go.Proofs.Ytblofbdncolikaa
open Go.RowKit Go.Shelf
attribute [local go_sem] Oper.semAt_some
set_option maxRecDepth 100000 in
set_option maxHeartbeats 4000000 in
theorem eq62_any (a b : Option Addr) (ca cb : Nat) (L M : List Al) (S : Nat → Prop) (w : World) (hL : Fl w S 11 88 Al.cs a L) (hM : Fl w S 11 88 Al.cs b M) :
  Calls Try.prog 14 #[.slice a L.length ca, .slice b M.length cb] w fun e w' => e = .returned (.bool (decide (L = M))) ∧ Below w.heap.size w w' := by
 have hll : L.length ≤ 140737488355328 := by have := hL.bd; omega
 have hml : M.length ≤ 140737488355328 := by have := hM.bd; omega
 have HL := hidOf hL
 have HM := hidOf hM
 clear hL hM
 by_cases hlen : L.length = M.length
 ·have HLE := hidOf hlen
  have HEL : Hid (L.take L.length = M.take L.length → L = M) := hidOf (fun h => by rw [List.take_of_length_le (Nat.le_refl _), List.take_of_length_le (by omega)] at h; exact h)
  have b1 : ((L.length : Int) == (M.length : Int)) = true := by simp [hlen]
  have b2 : ((L.length : Int) != (M.length : Int)) = false := by simp [hlen]
  clear hlen
  go_enter Try.func14, Try.ntmps14
  go_wp2
  go_loopw [5] (fun i wr => ∃ k n : Nat, k ≤ L.length ∧ i = .int .i64 (k : Int) ∧ Hid (L.take k = M.take k) ∧ wr = w.drewN n) (fun i _ => L.length - (intOf i).toNat)
  case atStart => exact ⟨0, 0, Nat.zero_le _, rfl, hidOf rfl, rfl⟩
  case round =>
   obtain ⟨k, n, hk, rfl, HT, hwr⟩ := hrel
   subst hwr
   by_cases hlt : k < L.length
   ·have hlt2 : k < M.length := by rw [← HLE.out]; exact hlt
    obtain ⟨p, o, ha, hSp, hcc⟩ := HL.out.at k hlt
    obtain ⟨q, o2, hb, hSq, hcd⟩ := HM.out.at k hlt2
    subst ha
    subst hb
    have h64 : (k : Int) < (L.length : Int) := by omega
    have h65 : (k : Int) < (M.length : Int) := by omega
    have HN : Hid (L[k] = M[k] → L.take (k + 1) = M.take (k + 1)) := hidOf (fun h => by rw [List.take_succ_eq_append_getElem hlt, List.take_succ_eq_append_getElem hlt2, HT.out, h])
    have HNE : Hid (L[k] ≠ M[k] → L ≠ M) := hidOf (fun h e => h (by subst e; rfl))
    generalize L[k] = x at *
    generalize M[k] = y at *
    have c0 : w.cell? ⟨p, o + k * 11, none⟩ = some (.int .i64 x.id) := hcc 0 _ rfl
    have c1 : w.cell? ⟨p, o + k * 11 + 1, none⟩ = some (.int .i64 x.jb) := hcc 1 _ rfl
    have c2 : w.cell? ⟨p, o + k * 11 + 2, none⟩ = some (.int .i64 x.ve) := hcc 2 _ rfl
    have c3 : w.cell? ⟨p, o + k * 11 + 3, none⟩ = some (.int .i64 x.gr) := hcc 3 _ rfl
    have c4 : w.cell? ⟨p, o + k * 11 + 4, none⟩ = some (.int .i64 x.ix) := hcc 4 _ rfl
    have c5 : w.cell? ⟨p, o + k * 11 + 5, none⟩ = some (.int .i64 x.nd) := hcc 5 _ rfl
    have c6 : w.cell? ⟨p, o + k * 11 + 6, none⟩ = some (.int .i64 x.ep) := hcc 6 _ rfl
    have c7 : w.cell? ⟨p, o + k * 11 + 7, none⟩ = some (.int .i64 x.c) := hcc 7 _ rfl
    have c8 : w.cell? ⟨p, o + k * 11 + 8, none⟩ = some (.int .i64 x.m) := hcc 8 _ rfl
    have c9 : w.cell? ⟨p, o + k * 11 + 9, none⟩ = some (.bool x.sp) := hcc 9 _ rfl
    have c10 : w.cell? ⟨p, o + k * 11 + 10, none⟩ = some (.int .i64 x.st) := hcc 10 _ rfl
    have d0 : w.cell? ⟨q, o2 + k * 11, none⟩ = some (.int .i64 y.id) := hcd 0 _ rfl
    have d1 : w.cell? ⟨q, o2 + k * 11 + 1, none⟩ = some (.int .i64 y.jb) := hcd 1 _ rfl
    have d2 : w.cell? ⟨q, o2 + k * 11 + 2, none⟩ = some (.int .i64 y.ve) := hcd 2 _ rfl
    have d3 : w.cell? ⟨q, o2 + k * 11 + 3, none⟩ = some (.int .i64 y.gr) := hcd 3 _ rfl
    have d4 : w.cell? ⟨q, o2 + k * 11 + 4, none⟩ = some (.int .i64 y.ix) := hcd 4 _ rfl
    have d5 : w.cell? ⟨q, o2 + k * 11 + 5, none⟩ = some (.int .i64 y.nd) := hcd 5 _ rfl
    have d6 : w.cell? ⟨q, o2 + k * 11 + 6, none⟩ = some (.int .i64 y.ep) := hcd 6 _ rfl
    have d7 : w.cell? ⟨q, o2 + k * 11 + 7, none⟩ = some (.int .i64 y.c) := hcd 7 _ rfl
    have d8 : w.cell? ⟨q, o2 + k * 11 + 8, none⟩ = some (.int .i64 y.m) := hcd 8 _ rfl
    have d9 : w.cell? ⟨q, o2 + k * 11 + 9, none⟩ = some (.bool y.sp) := hcd 9 _ rfl
    have d10 : w.cell? ⟨q, o2 + k * 11 + 10, none⟩ = some (.int .i64 y.st) := hcd 10 _ rfl
    clear hcc hcd
    by_cases hxy : x = y
    ·have hne : ∀ wz : World, (binOp .neq 42 (.agg #[.int .i64 x.id, .int .i64 x.jb, .int .i64 x.ve, .int .i64 x.gr, .int .i64 x.ix, .int .i64 x.nd, .int .i64 x.ep, .int .i64 x.c, .int .i64 x.m, .bool x.sp, .int .i64 x.st]) (.agg #[.int .i64 y.id, .int .i64 y.jb, .int .i64 y.ve, .int .i64 y.gr, .int .i64 y.ix, .int .i64 y.nd, .int .i64 y.ep, .int .i64 y.c, .int .i64 y.m, .bool y.sp, .int .i64 y.st])).run Try.prog wz = .ok (.bool false) wz := fun wz => by rw [ne33]; simp [hxy]
     have HXY := hidOf hxy
     clear hxy
     go_wp2
     go_quiet (fail)
     go_wp2
     go_roundw
     case rel => exact ⟨k + 1, n + nq, by omega, by go_num, hidOf (HN.out HXY.out), rfl⟩
     case measure => simp [intOf]; omega
    ·have hne : ∀ wz : World, (binOp .neq 42 (.agg #[.int .i64 x.id, .int .i64 x.jb, .int .i64 x.ve, .int .i64 x.gr, .int .i64 x.ix, .int .i64 x.nd, .int .i64 x.ep, .int .i64 x.c, .int .i64 x.m, .bool x.sp, .int .i64 x.st]) (.agg #[.int .i64 y.id, .int .i64 y.jb, .int .i64 y.ve, .int .i64 y.gr, .int .i64 y.ix, .int .i64 y.nd, .int .i64 y.ep, .int .i64 y.c, .int .i64 y.m, .bool y.sp, .int .i64 y.st])).run Try.prog wz = .ok (.bool true) wz := fun wz => by rw [ne33]; simp [hxy]
     have HXY := hidOf hxy
     clear hxy
     go_wp2
     go_quiet (fail)
     go_wp2
     go_ret
     exact ⟨by rw [decide_eq_false (HNE.out HXY.out)]; rfl, below_drewN (below_drewN (Below.refl _ w) _) _⟩
   ·have hke : k = L.length := by omega
    subst hke
    go_wp2
    go_ret
    exact ⟨by rw [decide_eq_true (HEL.out HT.out)]; rfl, below_drewN (Below.refl _ w) _⟩
 ·have hne : L ≠ M := fun e => hlen (by rw [e])
  have b1 : ((L.length : Int) == (M.length : Int)) = false := by simp; omega
  have b2 : ((L.length : Int) != (M.length : Int)) = true := by simp; omega
  go_enter Try.func14, Try.ntmps14
  go_wp2
  go_ret
  exact ⟨by rw [decide_eq_false hne]; rfl, Below.refl _ w⟩
end Go.Proofs.Ytblofbdncolikaa
