/- Two stores are compared by the document. -/
import Derived.Test.YtblofbdncolikaaGr
namespace Go.Proofs.Ytblofbdncolikaa
open Go.RowKit Go.Shelf
attribute [local go_sem] Oper.semAt_some
set_option maxRecDepth 100000 in
set_option maxHeartbeats 16000000 in
theorem refSame_any (s t : Sc) (J B J' B' : List Js) (X X' : List Ss) (d e : St) (S : Nat → Prop) (w : World) (hS : ∀ b, S b → b < w.heap.size) (hs : StR w S s J B X d) (ht : StR w S t J' B' X' e) :
  Calls Try.prog 12 #[.agg #[.int .i64 s.ix, .int .i64 s.nx, .slice s.a2 s.n2 s.c2, .slice s.a3 s.n3 s.c3, .slice s.a4 s.n4 s.c4, .slice s.a5 s.n5 s.c5, .slice s.a6 s.n6 s.c6, .slice s.a7 s.n7 s.c7, .slice s.a8 s.n8 s.c8], .agg #[.int .i64 t.ix, .int .i64 t.nx, .slice t.a2 t.n2 t.c2, .slice t.a3 t.n3 t.c3, .slice t.a4 t.n4 t.c4, .slice t.a5 t.n5 t.c5, .slice t.a6 t.n6 t.c6, .slice t.a7 t.n7 t.c7, .slice t.a8 t.n8 t.c8]] w fun r w' => r = .returned (.bool (decide (d = e))) ∧ Below w.heap.size w w' := by
 obtain ⟨ix, nx, a2, n2, c2, a3, n3, c3, a4, n4, c4, a5, n5, c5, a6, n6, c6, a7, n7, c7, a8, n8, c8⟩ := s
 obtain ⟨eix, enx, dj, db, dn, da, de, dd, dx⟩ := d
 obtain ⟨h0, h1, h2, h3, h4, h5, h6, h7, h8⟩ : ix = eix ∧ nx = enx ∧ n2 = J.length ∧ n3 = B.length ∧ n4 = dn.length ∧ n5 = da.length ∧ n6 = de.length ∧ n7 = dd.length ∧ n8 = X.length := ⟨hs.ix, hs.nx, hs.f.n2, hs.f.n3, hs.f.n4, hs.f.n5, hs.f.n6, hs.f.n7, hs.f.n8⟩
 subst h0 h1 h2 h3 h4 h5 h6 h7 h8
 obtain ⟨ix', nx', a2', n2', c2', a3', n3', c3', a4', n4', c4', a5', n5', c5', a6', n6', c6', a7', n7', c7', a8', n8', c8'⟩ := t
 obtain ⟨eix', enx', dj', db', dn', da', de', dd', dx'⟩ := e
 obtain ⟨h0, h1, h2, h3, h4, h5, h6, h7, h8⟩ : ix' = eix' ∧ nx' = enx' ∧ n2' = J'.length ∧ n3' = B'.length ∧ n4' = dn'.length ∧ n5' = da'.length ∧ n6' = de'.length ∧ n7' = dd'.length ∧ n8' = X'.length := ⟨ht.ix, ht.nx, ht.f.n2, ht.f.n3, ht.f.n4, ht.f.n5, ht.f.n6, ht.f.n7, ht.f.n8⟩
 subst h0 h1 h2 h3 h4 h5 h6 h7 h8
 have E0 := hidOf (fun (W : World) (hW : Below w.heap.size w W) => refJobs_any a2 a2' c2 c2' J J' dj dj' S W (fun b hb => Nat.lt_of_lt_of_le (hS b hb) hW.size) (hs.j.kept (fun b hb => hW.block b (hS b hb)) (fun b (hb : S b) => hb)) (ht.j.kept (fun b hb => hW.block b (hS b hb)) (fun b (hb : S b) => hb)))
 have E1 := hidOf (fun (W : World) (hW : Below w.heap.size w W) => refJobs_any a3 a3' c3 c3' B B' db db' S W (fun b hb => Nat.lt_of_lt_of_le (hS b hb) hW.size) (hs.b.kept (fun b hb => hW.block b (hS b hb)) (fun b (hb : S b) => hb)) (ht.b.kept (fun b hb => hW.block b (hS b hb)) (fun b (hb : S b) => hb)))
 have E2 := hidOf (fun (W : World) (hW : Below w.heap.size w W) => eq62_any a5 a5' c5 c5' da da' S W (hs.f.f5.kept (fun b hb => hW.block b (hS b hb)) (fun b (hb : S b) => hb)) (ht.f.f5.kept (fun b hb => hW.block b (hS b hb)) (fun b (hb : S b) => hb)))
 have G4 := hidOf (fun (W : World) (hW : Below w.heap.size w W) => hs.f.f4.kept (w' := W) (fun b hb => hW.block b (hS b hb)) (fun b (hb : S b) => hb))
 have K4 := hidOf (fun (W : World) (hW : Below w.heap.size w W) => ht.f.f4.kept (w' := W) (fun b hb => hW.block b (hS b hb)) (fun b (hb : S b) => hb))
 have hl4 : dn.length ≤ 140737488355328 := by have := hs.f.f4.bd; dsimp only at this; omega
 have hm4 : dn'.length ≤ 140737488355328 := by have := ht.f.f4.bd; dsimp only at this; omega
 have G6 := hidOf (fun (W : World) (hW : Below w.heap.size w W) => hs.f.f6.kept (w' := W) (fun b hb => hW.block b (hS b hb)) (fun b (hb : S b) => hb))
 have K6 := hidOf (fun (W : World) (hW : Below w.heap.size w W) => ht.f.f6.kept (w' := W) (fun b hb => hW.block b (hS b hb)) (fun b (hb : S b) => hb))
 have hl6 : de.length ≤ 140737488355328 := by have := hs.f.f6.bd; dsimp only at this; omega
 have hm6 : de'.length ≤ 140737488355328 := by have := ht.f.f6.bd; dsimp only at this; omega
 have G7 := hidOf (fun (W : World) (hW : Below w.heap.size w W) => hs.f.f7.kept (w' := W) (fun b hb => hW.block b (hS b hb)) (fun b (hb : S b) => hb))
 have K7 := hidOf (fun (W : World) (hW : Below w.heap.size w W) => ht.f.f7.kept (w' := W) (fun b hb => hW.block b (hS b hb)) (fun b (hb : S b) => hb))
 have hl7 : dd.length ≤ 140737488355328 := by have := hs.f.f7.bd; dsimp only at this; omega
 have hm7 : dd'.length ≤ 140737488355328 := by have := ht.f.f7.bd; dsimp only at this; omega
 have G8 := hidOf (fun (W : World) (hW : Below w.heap.size w W) => hs.x.kept (w' := W) (fun b hb => hW.block b (hS b hb)) (fun b (hb : S b) => hb))
 have K8 := hidOf (fun (W : World) (hW : Below w.heap.size w W) => ht.x.kept (w' := W) (fun b hb => hW.block b (hS b hb)) (fun b (hb : S b) => hb))
 have hl8 : X.length ≤ 140737488355328 := by have := hs.x.row.bd; omega
 have hm8 : X'.length ≤ 140737488355328 := by have := ht.x.row.bd; omega
 have HXL : Hid (X.length = dx.length) := hidOf hs.x.len
 have HXM : Hid (X'.length = dx'.length) := hidOf ht.x.len
 have HS := hidOf hS
 clear hs ht hS
 dsimp only
 generalize hB : decide ((⟨ix, nx, dj, db, dn, da, de, dd, dx⟩ : St) = ⟨ix', nx', dj', db', dn', da', de', dd', dx'⟩) = Bv
 by_cases g0 : dj = dj'
 ·have D0 := hidOf (decide_eq_true g0)
  by_cases g1 : db = db'
  ·have D1 := hidOf (decide_eq_true g1)
   by_cases g2 : da = da'
   ·have D2 := hidOf (decide_eq_true g2)
    by_cases h3 : ix = ix'
    ·subst h3
     by_cases h4 : nx = nx'
     ·subst h4
      by_cases hl4 : dn.length = dn'.length
      ·have b4 : ((dn.length : Int) != (dn'.length : Int)) = false := by simp [hl4]
       by_cases hl6 : de.length = de'.length
       ·have b6 : ((de.length : Int) != (de'.length : Int)) = false := by simp [hl6]
        by_cases hl7 : dd.length = dd'.length
        ·have b7 : ((dd.length : Int) != (dd'.length : Int)) = false := by simp [hl7]
         by_cases hl8 : X.length = X'.length
         ·have b8 : ((X.length : Int) != (X'.length : Int)) = false := by simp [hl8]
          have HL4 := hidOf hl4
          have HL6 := hidOf hl6
          have HL7 := hidOf hl7
          have HL8 := hidOf hl8
          have HNB : Hid (¬ (dn = dn' ∧ de = de' ∧ dd = dd' ∧ dx = dx') → Bv = false) := hidOf (fun h => by rw [← hB]; refine decide_eq_false (fun e => h ?_); cases e; exact ⟨rfl, rfl, rfl, rfl⟩)
          have HYB : Hid (dn = dn' → de = de' → dd = dd' → dx = dx' → Bv = true) := hidOf (fun h1 h2 h3 h4 => by rw [← hB, g0, g1, g2, h1, h2, h3, h4]; exact decide_eq_true rfl)
          clear hB g0 g1 g2 hl4 hl6 hl7 hl8
          have Z0 := hidOf (FdS.begin w [.int .i64 ix, .int .i64 nx, .slice a2 J.length c2, .slice a3 B.length c3, .slice a4 dn.length c4, .slice a5 da.length c5, .slice a6 de.length c6, .slice a7 dd.length c7, .slice a8 X.length c8] [.int .i64 ix, .int .i64 nx, .slice a2' J'.length c2', .slice a3' B'.length c3', .slice a4' dn'.length c4', .slice a5' da'.length c5', .slice a6' de'.length c6', .slice a7' dd'.length c7', .slice a8' X'.length c8'] 29 29)
          go_enter Try.func12, Try.ntmps12
          go_wp2_with (first
           | (go_at_call 27; refine (E0.out _ Z0.out.b).mono ?_; rintro e z1 ⟨rfl, hb⟩; have Z1 := hidOf (Z0.out.grow hb); clear hb E0; rw [D0.out]; have s3 : z1.cell? ⟨w.heap.size, 3, none⟩ = some (.slice a3 B.length c3) := Z1.out.s 3 _ rfl; have t3 : z1.cell? ⟨w.heap.size + 1, 3, none⟩ = some (.slice a3' B'.length c3') := Z1.out.a 3 _ rfl; have ll : w.heap.size + 1 < z1.heap.size := Z1.out.l; have ll0 : w.heap.size < z1.heap.size := by omega)
           | (go_at_call 27; refine (E1.out _ Z1.out.b).mono ?_; rintro e z2 ⟨rfl, hb⟩; have Z2 := hidOf (Z1.out.grow hb); clear hb E1 s3 t3 ll ll0; rw [D1.out]; have s5 : z2.cell? ⟨w.heap.size, 5, none⟩ = some (.slice a5 da.length c5) := Z2.out.s 5 _ rfl; have t5 : z2.cell? ⟨w.heap.size + 1, 5, none⟩ = some (.slice a5' da'.length c5') := Z2.out.a 5 _ rfl; have ll : w.heap.size + 1 < z2.heap.size := Z2.out.l; have ll0 : w.heap.size < z2.heap.size := by omega)
           | (go_at_call 14; refine (E2.out _ Z2.out.b).mono ?_; rintro e z3 ⟨rfl, hb⟩; have Z3 := hidOf (Z2.out.grow hb); clear hb E2 s5 t5 ll ll0; rw [D2.out]; have s0 : z3.cell? ⟨w.heap.size, 0, none⟩ = some (.int .i64 ix) := Z3.out.s 0 _ rfl; have t0 : z3.cell? ⟨w.heap.size + 1, 0, none⟩ = some (.int .i64 ix) := Z3.out.a 0 _ rfl; have s1 : z3.cell? ⟨w.heap.size, 1, none⟩ = some (.int .i64 nx) := Z3.out.s 1 _ rfl; have t1 : z3.cell? ⟨w.heap.size + 1, 1, none⟩ = some (.int .i64 nx) := Z3.out.a 1 _ rfl; have s4 : z3.cell? ⟨w.heap.size, 4, none⟩ = some (.slice a4 dn.length c4) := Z3.out.s 4 _ rfl; have t4 : z3.cell? ⟨w.heap.size + 1, 4, none⟩ = some (.slice a4' dn'.length c4') := Z3.out.a 4 _ rfl; have s6 : z3.cell? ⟨w.heap.size, 6, none⟩ = some (.slice a6 de.length c6) := Z3.out.s 6 _ rfl; have t6 : z3.cell? ⟨w.heap.size + 1, 6, none⟩ = some (.slice a6' de'.length c6') := Z3.out.a 6 _ rfl; have s7 : z3.cell? ⟨w.heap.size, 7, none⟩ = some (.slice a7 dd.length c7) := Z3.out.s 7 _ rfl; have t7 : z3.cell? ⟨w.heap.size + 1, 7, none⟩ = some (.slice a7' dd'.length c7') := Z3.out.a 7 _ rfl; have s8 : z3.cell? ⟨w.heap.size, 8, none⟩ = some (.slice a8 X.length c8) := Z3.out.s 8 _ rfl; have t8 : z3.cell? ⟨w.heap.size + 1, 8, none⟩ = some (.slice a8' X'.length c8') := Z3.out.a 8 _ rfl; have ll : w.heap.size + 1 < z3.heap.size := Z3.out.l; have ll0 : w.heap.size < z3.heap.size := by omega))
          clear s0 s1 s4 s6 s7 s8 t0 t1 t4 t6 t7 t8 ll ll0
          go_loopw [8] (fun i wr => ∃ k : Nat, k ≤ dn.length ∧ i = .int .i64 (k : Int) ∧ Hid (dn.take k = dn'.take k) ∧ Hid (FdS w wr [.int .i64 ix, .int .i64 nx, .slice a2 J.length c2, .slice a3 B.length c3, .slice a4 dn.length c4, .slice a5 da.length c5, .slice a6 de.length c6, .slice a7 dd.length c7, .slice a8 X.length c8] [.int .i64 ix, .int .i64 nx, .slice a2' J'.length c2', .slice a3' B'.length c3', .slice a4' dn'.length c4', .slice a5' da'.length c5', .slice a6' de'.length c6', .slice a7' dd'.length c7', .slice a8' X'.length c8'])) (fun i _ => dn.length - (intOf i).toNat)
          case atStart => exact ⟨0, Nat.zero_le _, rfl, hidOf rfl, Z3⟩
          case round =>
           clear Z3
           obtain ⟨k, hk, rfl, HT, Z⟩ := hrel
           have s4 : wr.cell? ⟨w.heap.size, 4, none⟩ = some (.slice a4 dn.length c4) := Z.out.s 4 _ rfl
           have t4 : wr.cell? ⟨w.heap.size + 1, 4, none⟩ = some (.slice a4' dn'.length c4') := Z.out.a 4 _ rfl
           have ll : w.heap.size + 1 < wr.heap.size := Z.out.l
           have ll0 : w.heap.size < wr.heap.size := by omega
           by_cases hlt : k < dn.length
           ·have hlt2 : k < dn'.length := by rw [← HL4.out]; exact hlt
            obtain ⟨p, o, ha, hSp, hcc⟩ := (G4.out wr Z.out.b).at k hlt
            obtain ⟨q, o2, hb, hSq, hcd⟩ := (K4.out wr Z.out.b).at k hlt2
            (try simp only at ha hb)
            subst ha
            subst hb
            have h64 : (k : Int) < (dn.length : Int) := by omega
            have h65 : (k : Int) < (dn'.length : Int) := by omega
            have HN : Hid (dn[k] = dn'[k] → dn.take (k + 1) = dn'.take (k + 1)) := hidOf (fun h => by rw [List.take_succ_eq_append_getElem hlt, List.take_succ_eq_append_getElem hlt2, HT.out, h])
            have HNE : Hid (dn[k] ≠ dn'[k] → Bv = false) := hidOf (fun h => HNB.out (fun e => h (by have e2 := e.1; subst e2; rfl)))
            (try dsimp only at hcc hcd)
            generalize dn[k] = x at *
            generalize dn'[k] = y at *
            have c0 : wr.cell? ⟨p, o + k * 8, none⟩ = some (.int .i64 x.id) := hcc 0 _ rfl
            have c1 : wr.cell? ⟨p, o + k * 8 + 1, none⟩ = some (.int .i64 x.c) := hcc 1 _ rfl
            have c2 : wr.cell? ⟨p, o + k * 8 + 2, none⟩ = some (.int .i64 x.m) := hcc 2 _ rfl
            have c3 : wr.cell? ⟨p, o + k * 8 + 3, none⟩ = some (.bool x.up) := hcc 3 _ rfl
            have c4 : wr.cell? ⟨p, o + k * 8 + 4, none⟩ = some (.bool x.dr) := hcc 4 _ rfl
            have c5 : wr.cell? ⟨p, o + k * 8 + 5, none⟩ = some (.int .i64 x.bo) := hcc 5 _ rfl
            have c6 : wr.cell? ⟨p, o + k * 8 + 6, none⟩ = some (.int .i64 x.ep) := hcc 6 _ rfl
            have c7 : wr.cell? ⟨p, o + k * 8 + 7, none⟩ = some (.int .i64 x.se) := hcc 7 _ rfl
            have d0 : wr.cell? ⟨q, o2 + k * 8, none⟩ = some (.int .i64 y.id) := hcd 0 _ rfl
            have d1 : wr.cell? ⟨q, o2 + k * 8 + 1, none⟩ = some (.int .i64 y.c) := hcd 1 _ rfl
            have d2 : wr.cell? ⟨q, o2 + k * 8 + 2, none⟩ = some (.int .i64 y.m) := hcd 2 _ rfl
            have d3 : wr.cell? ⟨q, o2 + k * 8 + 3, none⟩ = some (.bool y.up) := hcd 3 _ rfl
            have d4 : wr.cell? ⟨q, o2 + k * 8 + 4, none⟩ = some (.bool y.dr) := hcd 4 _ rfl
            have d5 : wr.cell? ⟨q, o2 + k * 8 + 5, none⟩ = some (.int .i64 y.bo) := hcd 5 _ rfl
            have d6 : wr.cell? ⟨q, o2 + k * 8 + 6, none⟩ = some (.int .i64 y.ep) := hcd 6 _ rfl
            have d7 : wr.cell? ⟨q, o2 + k * 8 + 7, none⟩ = some (.int .i64 y.se) := hcd 7 _ rfl
            clear hcc hcd
            by_cases hxy : x = y
            ·have hne : ∀ wz : World, (binOp .neq 46 (.agg #[.int .i64 x.id, .int .i64 x.c, .int .i64 x.m, .bool x.up, .bool x.dr, .int .i64 x.bo, .int .i64 x.ep, .int .i64 x.se]) (.agg #[.int .i64 y.id, .int .i64 y.c, .int .i64 y.m, .bool y.up, .bool y.dr, .int .i64 y.bo, .int .i64 y.ep, .int .i64 y.se])).run Try.prog wz = .ok (.bool false) wz := fun wz => by rw [ne64]; simp [hxy]
             have HXY := hidOf hxy
             clear hxy
             go_wp2
             go_quiet (fail)
             go_wp2
             go_roundw
             case rel => exact ⟨k + 1, by omega, by go_num, hidOf (HN.out HXY.out), hidOf (Z.out.grow (bdrewN wr _))⟩
             case measure => simp [intOf]; omega
            ·have hne : ∀ wz : World, (binOp .neq 46 (.agg #[.int .i64 x.id, .int .i64 x.c, .int .i64 x.m, .bool x.up, .bool x.dr, .int .i64 x.bo, .int .i64 x.ep, .int .i64 x.se]) (.agg #[.int .i64 y.id, .int .i64 y.c, .int .i64 y.m, .bool y.up, .bool y.dr, .int .i64 y.bo, .int .i64 y.ep, .int .i64 y.se])).run Try.prog wz = .ok (.bool true) wz := fun wz => by rw [ne64]; simp [hxy]
             have HXY := hidOf hxy
             clear hxy
             go_wp2
             go_quiet (fail)
             go_wp2
             go_ret
             exact ⟨by rw [HNE.out HXY.out]; rfl, below_drewN Z.out.b _⟩
           ·have hke : k = dn.length := by omega
            subst hke
            have Q4 : Hid (dn = dn') := hidOf (by have h := HT.out; rw [List.take_of_length_le (Nat.le_refl _), List.take_of_length_le (by rw [HL4.out]; exact Nat.le_refl _)] at h; exact h)
            clear HT hk hlt
            go_wp2
            clear s4 t4 ll ll0
            obtain ⟨u4, hu4⟩ : ∃ x, x = wr := ⟨_, rfl⟩
            subst hu4
            go_loopw [9] (fun i wr => ∃ k : Nat, k ≤ de.length ∧ i = .int .i64 (k : Int) ∧ Hid (de.take k = de'.take k) ∧ Hid (FdS w wr [.int .i64 ix, .int .i64 nx, .slice a2 J.length c2, .slice a3 B.length c3, .slice a4 dn.length c4, .slice a5 da.length c5, .slice a6 de.length c6, .slice a7 dd.length c7, .slice a8 X.length c8] [.int .i64 ix, .int .i64 nx, .slice a2' J'.length c2', .slice a3' B'.length c3', .slice a4' dn'.length c4', .slice a5' da'.length c5', .slice a6' de'.length c6', .slice a7' dd'.length c7', .slice a8' X'.length c8'])) (fun i _ => de.length - (intOf i).toNat)
            case atStart => exact ⟨0, Nat.zero_le _, rfl, hidOf rfl, Z⟩
            case round =>
             clear Z
             obtain ⟨k, hk, rfl, HT, Z⟩ := hrel
             have s6 : wr.cell? ⟨w.heap.size, 6, none⟩ = some (.slice a6 de.length c6) := Z.out.s 6 _ rfl
             have t6 : wr.cell? ⟨w.heap.size + 1, 6, none⟩ = some (.slice a6' de'.length c6') := Z.out.a 6 _ rfl
             have ll : w.heap.size + 1 < wr.heap.size := Z.out.l
             have ll0 : w.heap.size < wr.heap.size := by omega
             by_cases hlt : k < de.length
             ·have hlt2 : k < de'.length := by rw [← HL6.out]; exact hlt
              obtain ⟨p, o, ha, hSp, hcc⟩ := (G6.out wr Z.out.b).at k hlt
              obtain ⟨q, o2, hb, hSq, hcd⟩ := (K6.out wr Z.out.b).at k hlt2
              (try simp only at ha hb)
              subst ha
              subst hb
              have h64 : (k : Int) < (de.length : Int) := by omega
              have h65 : (k : Int) < (de'.length : Int) := by omega
              have HN : Hid (de[k] = de'[k] → de.take (k + 1) = de'.take (k + 1)) := hidOf (fun h => by rw [List.take_succ_eq_append_getElem hlt, List.take_succ_eq_append_getElem hlt2, HT.out, h])
              have HNE : Hid (de[k] ≠ de'[k] → Bv = false) := hidOf (fun h => HNB.out (fun e => h (by have e2 := e.2.1; subst e2; rfl)))
              (try dsimp only at hcc hcd)
              generalize de[k] = x at *
              generalize de'[k] = y at *
              have c0 : wr.cell? ⟨p, o + k * 4, none⟩ = some (.int .i64 x.a) := hcc 0 _ rfl
              have c1 : wr.cell? ⟨p, o + k * 4 + 1, none⟩ = some (.int .i64 x.b) := hcc 1 _ rfl
              have c2 : wr.cell? ⟨p, o + k * 4 + 2, none⟩ = some (.int .i64 x.c) := hcc 2 _ rfl
              have c3 : wr.cell? ⟨p, o + k * 4 + 3, none⟩ = some (.int .i64 x.d) := hcc 3 _ rfl
              have d0 : wr.cell? ⟨q, o2 + k * 4, none⟩ = some (.int .i64 y.a) := hcd 0 _ rfl
              have d1 : wr.cell? ⟨q, o2 + k * 4 + 1, none⟩ = some (.int .i64 y.b) := hcd 1 _ rfl
              have d2 : wr.cell? ⟨q, o2 + k * 4 + 2, none⟩ = some (.int .i64 y.c) := hcd 2 _ rfl
              have d3 : wr.cell? ⟨q, o2 + k * 4 + 3, none⟩ = some (.int .i64 y.d) := hcd 3 _ rfl
              clear hcc hcd
              by_cases hxy : x = y
              ·have hne : ∀ wz : World, (binOp .neq 53 (.agg #[.int .i64 x.a, .int .i64 x.b, .int .i64 x.c, .int .i64 x.d]) (.agg #[.int .i64 y.a, .int .i64 y.b, .int .i64 y.c, .int .i64 y.d])).run Try.prog wz = .ok (.bool false) wz := fun wz => by rw [ne69]; simp [hxy]
               have HXY := hidOf hxy
               clear hxy
               go_wp2
               go_quiet (fail)
               go_wp2
               go_roundw
               case rel => exact ⟨k + 1, by omega, by go_num, hidOf (HN.out HXY.out), hidOf (Z.out.grow (bdrewN wr _))⟩
               case measure => simp [intOf]; omega
              ·have hne : ∀ wz : World, (binOp .neq 53 (.agg #[.int .i64 x.a, .int .i64 x.b, .int .i64 x.c, .int .i64 x.d]) (.agg #[.int .i64 y.a, .int .i64 y.b, .int .i64 y.c, .int .i64 y.d])).run Try.prog wz = .ok (.bool true) wz := fun wz => by rw [ne69]; simp [hxy]
               have HXY := hidOf hxy
               clear hxy
               go_wp2
               go_quiet (fail)
               go_wp2
               go_ret
               exact ⟨by rw [HNE.out HXY.out]; rfl, below_drewN Z.out.b _⟩
             ·have hke : k = de.length := by omega
              subst hke
              have Q6 : Hid (de = de') := hidOf (by have h := HT.out; rw [List.take_of_length_le (Nat.le_refl _), List.take_of_length_le (by rw [HL6.out]; exact Nat.le_refl _)] at h; exact h)
              clear HT hk hlt
              go_wp2
              clear s6 t6 ll ll0
              obtain ⟨u6, hu6⟩ : ∃ x, x = wr := ⟨_, rfl⟩
              subst hu6
              go_loopw [10] (fun i wr => ∃ k : Nat, k ≤ dd.length ∧ i = .int .i64 (k : Int) ∧ Hid (dd.take k = dd'.take k) ∧ Hid (FdS w wr [.int .i64 ix, .int .i64 nx, .slice a2 J.length c2, .slice a3 B.length c3, .slice a4 dn.length c4, .slice a5 da.length c5, .slice a6 de.length c6, .slice a7 dd.length c7, .slice a8 X.length c8] [.int .i64 ix, .int .i64 nx, .slice a2' J'.length c2', .slice a3' B'.length c3', .slice a4' dn'.length c4', .slice a5' da'.length c5', .slice a6' de'.length c6', .slice a7' dd'.length c7', .slice a8' X'.length c8'])) (fun i _ => dd.length - (intOf i).toNat)
              case atStart => exact ⟨0, Nat.zero_le _, rfl, hidOf rfl, Z⟩
              case round =>
               clear Z
               obtain ⟨k, hk, rfl, HT, Z⟩ := hrel
               have s7 : wr.cell? ⟨w.heap.size, 7, none⟩ = some (.slice a7 dd.length c7) := Z.out.s 7 _ rfl
               have t7 : wr.cell? ⟨w.heap.size + 1, 7, none⟩ = some (.slice a7' dd'.length c7') := Z.out.a 7 _ rfl
               have ll : w.heap.size + 1 < wr.heap.size := Z.out.l
               have ll0 : w.heap.size < wr.heap.size := by omega
               by_cases hlt : k < dd.length
               ·have hlt2 : k < dd'.length := by rw [← HL7.out]; exact hlt
                obtain ⟨p, o, ha, hSp, hcc⟩ := (G7.out wr Z.out.b).at k hlt
                obtain ⟨q, o2, hb, hSq, hcd⟩ := (K7.out wr Z.out.b).at k hlt2
                (try simp only at ha hb)
                subst ha
                subst hb
                have h64 : (k : Int) < (dd.length : Int) := by omega
                have h65 : (k : Int) < (dd'.length : Int) := by omega
                have HN : Hid (dd[k] = dd'[k] → dd.take (k + 1) = dd'.take (k + 1)) := hidOf (fun h => by rw [List.take_succ_eq_append_getElem hlt, List.take_succ_eq_append_getElem hlt2, HT.out, h])
                have HNE : Hid (dd[k] ≠ dd'[k] → Bv = false) := hidOf (fun h => HNB.out (fun e => h (by have e2 := e.2.2.1; subst e2; rfl)))
                (try dsimp only at hcc hcd)
                generalize dd[k] = x at *
                generalize dd'[k] = y at *
                have c0 : wr.cell? ⟨p, o + k * 4, none⟩ = some (.int .i64 x.a) := hcc 0 _ rfl
                have c1 : wr.cell? ⟨p, o + k * 4 + 1, none⟩ = some (.int .i64 x.b) := hcc 1 _ rfl
                have c2 : wr.cell? ⟨p, o + k * 4 + 2, none⟩ = some (.int .i64 x.c) := hcc 2 _ rfl
                have c3 : wr.cell? ⟨p, o + k * 4 + 3, none⟩ = some (.int .i64 x.d) := hcc 3 _ rfl
                have d0 : wr.cell? ⟨q, o2 + k * 4, none⟩ = some (.int .i64 y.a) := hcd 0 _ rfl
                have d1 : wr.cell? ⟨q, o2 + k * 4 + 1, none⟩ = some (.int .i64 y.b) := hcd 1 _ rfl
                have d2 : wr.cell? ⟨q, o2 + k * 4 + 2, none⟩ = some (.int .i64 y.c) := hcd 2 _ rfl
                have d3 : wr.cell? ⟨q, o2 + k * 4 + 3, none⟩ = some (.int .i64 y.d) := hcd 3 _ rfl
                clear hcc hcd
                by_cases hxy : x = y
                ·have hne : ∀ wz : World, (binOp .neq 79 (.agg #[.int .i64 x.a, .int .i64 x.b, .int .i64 x.c, .int .i64 x.d]) (.agg #[.int .i64 y.a, .int .i64 y.b, .int .i64 y.c, .int .i64 y.d])).run Try.prog wz = .ok (.bool false) wz := fun wz => by rw [ne73]; simp [hxy]
                 have HXY := hidOf hxy
                 clear hxy
                 go_wp2
                 go_quiet (fail)
                 go_wp2
                 go_roundw
                 case rel => exact ⟨k + 1, by omega, by go_num, hidOf (HN.out HXY.out), hidOf (Z.out.grow (bdrewN wr _))⟩
                 case measure => simp [intOf]; omega
                ·have hne : ∀ wz : World, (binOp .neq 79 (.agg #[.int .i64 x.a, .int .i64 x.b, .int .i64 x.c, .int .i64 x.d]) (.agg #[.int .i64 y.a, .int .i64 y.b, .int .i64 y.c, .int .i64 y.d])).run Try.prog wz = .ok (.bool true) wz := fun wz => by rw [ne73]; simp [hxy]
                 have HXY := hidOf hxy
                 clear hxy
                 go_wp2
                 go_quiet (fail)
                 go_wp2
                 go_ret
                 exact ⟨by rw [HNE.out HXY.out]; rfl, below_drewN Z.out.b _⟩
               ·have hke : k = dd.length := by omega
                subst hke
                have Q7 : Hid (dd = dd') := hidOf (by have h := HT.out; rw [List.take_of_length_le (Nat.le_refl _), List.take_of_length_le (by rw [HL7.out]; exact Nat.le_refl _)] at h; exact h)
                clear HT hk hlt
                go_wp2
                clear s7 t7 ll ll0
                obtain ⟨u7, hu7⟩ : ∃ x, x = wr := ⟨_, rfl⟩
                subst hu7
                go_loopw [11, 12] (fun i _ wr => ∃ k : Nat, k ≤ X.length ∧ i = .int .i64 (k : Int) ∧ Hid (dx.take k = dx'.take k) ∧ Hid (FdS w wr [.int .i64 ix, .int .i64 nx, .slice a2 J.length c2, .slice a3 B.length c3, .slice a4 dn.length c4, .slice a5 da.length c5, .slice a6 de.length c6, .slice a7 dd.length c7, .slice a8 X.length c8] [.int .i64 ix, .int .i64 nx, .slice a2' J'.length c2', .slice a3' B'.length c3', .slice a4' dn'.length c4', .slice a5' da'.length c5', .slice a6' de'.length c6', .slice a7' dd'.length c7', .slice a8' X'.length c8'])) (fun i _ _ => X.length - (intOf i).toNat)
                case atStart => exact ⟨0, Nat.zero_le _, rfl, hidOf rfl, Z⟩
                case round =>
                 clear Z
                 obtain ⟨k, hk, rfl, HT, Z⟩ := hrel
                 have s8 : wr.cell? ⟨w.heap.size, 8, none⟩ = some (.slice a8 X.length c8) := Z.out.s 8 _ rfl
                 have t8 : wr.cell? ⟨w.heap.size + 1, 8, none⟩ = some (.slice a8' X'.length c8') := Z.out.a 8 _ rfl
                 have ll : w.heap.size + 1 < wr.heap.size := Z.out.l
                 have ll0 : w.heap.size < wr.heap.size := by omega
                 by_cases hlt : k < X.length
                 ·have hlt2 : k < X'.length := by rw [← HL8.out]; exact hlt
                  have hl3 : k < dx.length := by rw [← HXL.out]; exact hlt
                  have hl4 : k < dx'.length := by rw [← HXM.out]; exact hlt2
                  obtain ⟨p, o, ha, hSp, hcc⟩ := (G8.out wr Z.out.b).row.at k hlt
                  obtain ⟨q, o2, hb, hSq, hcd⟩ := (K8.out wr Z.out.b).row.at k hlt2
                  obtain ⟨ga, gc, hx, hg⟩ := (G8.out wr Z.out.b).dp k hlt hl3
                  obtain ⟨gb, gd, hy, hh⟩ := (K8.out wr Z.out.b).dp k hlt2 hl4
                  rw [hx] at hcc
                  rw [hy] at hcd
                  clear hx hy
                  (try simp only at ha hb)
                  subst ha
                  subst hb
                  have h64 : (k : Int) < (X.length : Int) := by omega
                  have h65 : (k : Int) < (X'.length : Int) := by omega
                  have hpl : p < wr.heap.size := Nat.lt_of_lt_of_le (HS.out p hSp) Z.out.b.size
                  have hql : q < wr.heap.size := Nat.lt_of_lt_of_le (HS.out q hSq) Z.out.b.size
                  have HN : Hid (dx[k] = dx'[k] → dx.take (k + 1) = dx'.take (k + 1)) := hidOf (fun h => by rw [List.take_succ_eq_append_getElem hl3, List.take_succ_eq_append_getElem hl4, HT.out, h])
                  have HNE : Hid (dx[k] ≠ dx'[k] → Bv = false) := hidOf (fun h => HNB.out (fun e => h (by have e2 := e.2.2.2; subst e2; rfl)))
                  generalize dx[k] = d at *
                  generalize dx'[k] = e at *
                  have HRS := hidOf (fun (W : World) (hW : Below wr.heap.size wr W) => refResults_any d.co d.va e.co e.va d.al e.al ga gb gc gd S W (fun b hb => Nat.lt_of_lt_of_le (HS.out b hb) (Nat.le_trans Z.out.b.size hW.size)) (hg.kept (fun b hb => hW.block b (Nat.lt_of_lt_of_le (HS.out b hb) Z.out.b.size)) (fun b (hb : S b) => hb)) (hh.kept (fun b hb => hW.block b (Nat.lt_of_lt_of_le (HS.out b hb) Z.out.b.size)) (fun b (hb : S b) => hb)))
                  have pc0 : wr.cell? ⟨p, o + k * 5, none⟩ = some (.int .i64 d.cl) := hcc 0 _ rfl
                  have pc1 : wr.cell? ⟨p, o + k * 5 + 1, none⟩ = some (.int .i64 d.rq) := hcc 1 _ rfl
                  have pc2 : wr.cell? ⟨p, o + k * 5 + 2, none⟩ = some (.int .i64 d.co) := hcc 2 _ rfl
                  have pc3 : wr.cell? ⟨p, o + k * 5 + 3, none⟩ = some (.int .i64 d.va) := hcc 3 _ rfl
                  have pc4 : wr.cell? ⟨p, o + k * 5 + 4, none⟩ = some (.slice ga d.al.length gc) := hcc 4 _ rfl
                  have qc0 : wr.cell? ⟨q, o2 + k * 5, none⟩ = some (.int .i64 e.cl) := hcd 0 _ rfl
                  have qc1 : wr.cell? ⟨q, o2 + k * 5 + 1, none⟩ = some (.int .i64 e.rq) := hcd 1 _ rfl
                  have qc2 : wr.cell? ⟨q, o2 + k * 5 + 2, none⟩ = some (.int .i64 e.co) := hcd 2 _ rfl
                  have qc3 : wr.cell? ⟨q, o2 + k * 5 + 3, none⟩ = some (.int .i64 e.va) := hcd 3 _ rfl
                  have qc4 : wr.cell? ⟨q, o2 + k * 5 + 4, none⟩ = some (.slice gb e.al.length gd) := hcd 4 _ rfl
                  clear hcc hcd hg hh hlt2 hl3 hl4
                  by_cases hr : d.al = e.al ∧ d.co = e.co ∧ d.va = e.va
                  ·by_cases hc : d.cl = e.cl
                   ·have bc : (d.cl != e.cl) = false := by simp [hc]
                    by_cases hq : d.rq = e.rq
                    ·have bq : (d.rq != e.rq) = false := by simp [hq]
                     have HXY : Hid (d = e) := hidOf (by cases d; cases e; dsimp only at hr hc hq; obtain ⟨h1, h2, h3⟩ := hr; subst h1 h2 h3 hc hq; rfl)
                     clear hc hq
                     have HD := hidOf (decide_eq_true hr)
                     clear hr
                     go_upto_region 24 with (fail)
                     go_region_held3 (fun wz => (wz.cell? ⟨w.heap.size, 8, none⟩ = some (.slice (some ⟨p, o, none⟩) X.length c8) ∧ wz.cell? ⟨w.heap.size + 1, 8, none⟩ = some (.slice (some ⟨q, o2, none⟩) X'.length c8')) ∧ (wz.cell? ⟨p, o + k * 5 + 2, none⟩ = some (.int .i64 d.co) ∧ wz.cell? ⟨p, o + k * 5 + 3, none⟩ = some (.int .i64 d.va) ∧ wz.cell? ⟨p, o + k * 5 + 4, none⟩ = some (.slice ga d.al.length gc)) ∧ (wz.cell? ⟨q, o2 + k * 5 + 2, none⟩ = some (.int .i64 e.co) ∧ wz.cell? ⟨q, o2 + k * 5 + 3, none⟩ = some (.int .i64 e.va) ∧ wz.cell? ⟨q, o2 + k * 5 + 4, none⟩ = some (.slice gb e.al.length gd))) (first | go_keep | exact KK.out) (first | (go_at_call 28; refine (HRS.out _ (bdrewN wr _)).mono ?_; rintro e w1 ⟨rfl, hb0⟩; have hb := (bdrewN wr _).trans hb0; have KK : Hid ((w1.cell? ⟨w.heap.size, 8, none⟩ = some (.slice (some ⟨p, o, none⟩) X.length c8) ∧ w1.cell? ⟨w.heap.size + 1, 8, none⟩ = some (.slice (some ⟨q, o2, none⟩) X'.length c8')) ∧ (w1.cell? ⟨p, o + k * 5 + 2, none⟩ = some (.int .i64 d.co) ∧ w1.cell? ⟨p, o + k * 5 + 3, none⟩ = some (.int .i64 d.va) ∧ w1.cell? ⟨p, o + k * 5 + 4, none⟩ = some (.slice ga d.al.length gc)) ∧ (w1.cell? ⟨q, o2 + k * 5 + 2, none⟩ = some (.int .i64 e.co) ∧ w1.cell? ⟨q, o2 + k * 5 + 3, none⟩ = some (.int .i64 e.va) ∧ w1.cell? ⟨q, o2 + k * 5 + 4, none⟩ = some (.slice gb e.al.length gd))) := hidOf ⟨⟨(hb_cell hb ll0).trans s8, (hb_cell hb ll).trans t8⟩, ⟨(hb_cell hb hpl).trans pc2, (hb_cell hb hpl).trans pc3, (hb_cell hb hpl).trans pc4⟩, (hb_cell hb hql).trans qc2, (hb_cell hb hql).trans qc3, (hb_cell hb hql).trans qc4⟩; have Z2 : Hid (FdS w w1 [.int .i64 ix, .int .i64 nx, .slice a2 J.length c2, .slice a3 B.length c3, .slice a4 dn.length c4, .slice a5 da.length c5, .slice a6 de.length c6, .slice a7 dd.length c7, .slice (some ⟨p, o, none⟩) X.length c8] [.int .i64 ix, .int .i64 nx, .slice a2' J'.length c2', .slice a3' B'.length c3', .slice a4' dn'.length c4', .slice a5' da'.length c5', .slice a6' de'.length c6', .slice a7' dd'.length c7', .slice (some ⟨q, o2, none⟩) X'.length c8']) := hidOf (Z.out.grow hb); have HCB := hidOf hb; clear hb hb0; rw [HD.out]))
                     have C0 := hidOf pc0
                     have C1 := hidOf pc1
                     have DD0 := hidOf qc0
                     have DD1 := hidOf qc1
                     clear pc0 pc1 qc0 qc1 pc2 pc3 pc4 qc2 qc3 qc4 s8 t8 ll ll0
                     have s8 : w1.cell? ⟨w.heap.size, 8, none⟩ = some (.slice (some ⟨p, o, none⟩) X.length c8) := Z2.out.s 8 _ rfl
                     have t8 : w1.cell? ⟨w.heap.size + 1, 8, none⟩ = some (.slice (some ⟨q, o2, none⟩) X'.length c8') := Z2.out.a 8 _ rfl
                     have pc0 : w1.cell? ⟨p, o + k * 5, none⟩ = some (.int .i64 d.cl) := (hb_cell HCB.out hpl).trans C0.out
                     have qc0 : w1.cell? ⟨q, o2 + k * 5, none⟩ = some (.int .i64 e.cl) := (hb_cell HCB.out hql).trans DD0.out
                     have pc1 : w1.cell? ⟨p, o + k * 5 + 1, none⟩ = some (.int .i64 d.rq) := (hb_cell HCB.out hpl).trans C1.out
                     have qc1 : w1.cell? ⟨q, o2 + k * 5 + 1, none⟩ = some (.int .i64 e.rq) := (hb_cell HCB.out hql).trans DD1.out
                     have ll : w.heap.size + 1 < w1.heap.size := Z2.out.l
                     have ll0 : w.heap.size < w1.heap.size := by omega
                     have hpl1 : p < w1.heap.size := Nat.lt_of_lt_of_le hpl HCB.out.size
                     have hql1 : q < w1.heap.size := Nat.lt_of_lt_of_le hql HCB.out.size
                     clear C0 C1 DD0 DD1
                     go_wp2
                     go_quiet (fail)
                     go_wp2
                     go_roundw
                     case rel => exact ⟨k + 1, by omega, by go_num, hidOf (HN.out HXY.out), hidOf (Z2.out.grow (bdrewN w1 _))⟩
                     case measure => simp [intOf]; omega
                    ·have bq : (d.rq != e.rq) = true := by simp [hq]
                     have HB : Hid (Bv = false) := hidOf (HNE.out (fun h => hq (by rw [h])))
                     clear hc hq
                     have HD := hidOf (decide_eq_true hr)
                     clear hr
                     go_upto_region 24 with (fail)
                     go_region_held3 (fun wz => (wz.cell? ⟨w.heap.size, 8, none⟩ = some (.slice (some ⟨p, o, none⟩) X.length c8) ∧ wz.cell? ⟨w.heap.size + 1, 8, none⟩ = some (.slice (some ⟨q, o2, none⟩) X'.length c8')) ∧ (wz.cell? ⟨p, o + k * 5 + 2, none⟩ = some (.int .i64 d.co) ∧ wz.cell? ⟨p, o + k * 5 + 3, none⟩ = some (.int .i64 d.va) ∧ wz.cell? ⟨p, o + k * 5 + 4, none⟩ = some (.slice ga d.al.length gc)) ∧ (wz.cell? ⟨q, o2 + k * 5 + 2, none⟩ = some (.int .i64 e.co) ∧ wz.cell? ⟨q, o2 + k * 5 + 3, none⟩ = some (.int .i64 e.va) ∧ wz.cell? ⟨q, o2 + k * 5 + 4, none⟩ = some (.slice gb e.al.length gd))) (first | go_keep | exact KK.out) (first | (go_at_call 28; refine (HRS.out _ (bdrewN wr _)).mono ?_; rintro e w1 ⟨rfl, hb0⟩; have hb := (bdrewN wr _).trans hb0; have KK : Hid ((w1.cell? ⟨w.heap.size, 8, none⟩ = some (.slice (some ⟨p, o, none⟩) X.length c8) ∧ w1.cell? ⟨w.heap.size + 1, 8, none⟩ = some (.slice (some ⟨q, o2, none⟩) X'.length c8')) ∧ (w1.cell? ⟨p, o + k * 5 + 2, none⟩ = some (.int .i64 d.co) ∧ w1.cell? ⟨p, o + k * 5 + 3, none⟩ = some (.int .i64 d.va) ∧ w1.cell? ⟨p, o + k * 5 + 4, none⟩ = some (.slice ga d.al.length gc)) ∧ (w1.cell? ⟨q, o2 + k * 5 + 2, none⟩ = some (.int .i64 e.co) ∧ w1.cell? ⟨q, o2 + k * 5 + 3, none⟩ = some (.int .i64 e.va) ∧ w1.cell? ⟨q, o2 + k * 5 + 4, none⟩ = some (.slice gb e.al.length gd))) := hidOf ⟨⟨(hb_cell hb ll0).trans s8, (hb_cell hb ll).trans t8⟩, ⟨(hb_cell hb hpl).trans pc2, (hb_cell hb hpl).trans pc3, (hb_cell hb hpl).trans pc4⟩, (hb_cell hb hql).trans qc2, (hb_cell hb hql).trans qc3, (hb_cell hb hql).trans qc4⟩; have Z2 : Hid (FdS w w1 [.int .i64 ix, .int .i64 nx, .slice a2 J.length c2, .slice a3 B.length c3, .slice a4 dn.length c4, .slice a5 da.length c5, .slice a6 de.length c6, .slice a7 dd.length c7, .slice (some ⟨p, o, none⟩) X.length c8] [.int .i64 ix, .int .i64 nx, .slice a2' J'.length c2', .slice a3' B'.length c3', .slice a4' dn'.length c4', .slice a5' da'.length c5', .slice a6' de'.length c6', .slice a7' dd'.length c7', .slice (some ⟨q, o2, none⟩) X'.length c8']) := hidOf (Z.out.grow hb); have HCB := hidOf hb; clear hb hb0; rw [HD.out]))
                     have C0 := hidOf pc0
                     have C1 := hidOf pc1
                     have DD0 := hidOf qc0
                     have DD1 := hidOf qc1
                     clear pc0 pc1 qc0 qc1 pc2 pc3 pc4 qc2 qc3 qc4 s8 t8 ll ll0
                     have s8 : w1.cell? ⟨w.heap.size, 8, none⟩ = some (.slice (some ⟨p, o, none⟩) X.length c8) := Z2.out.s 8 _ rfl
                     have t8 : w1.cell? ⟨w.heap.size + 1, 8, none⟩ = some (.slice (some ⟨q, o2, none⟩) X'.length c8') := Z2.out.a 8 _ rfl
                     have pc0 : w1.cell? ⟨p, o + k * 5, none⟩ = some (.int .i64 d.cl) := (hb_cell HCB.out hpl).trans C0.out
                     have qc0 : w1.cell? ⟨q, o2 + k * 5, none⟩ = some (.int .i64 e.cl) := (hb_cell HCB.out hql).trans DD0.out
                     have pc1 : w1.cell? ⟨p, o + k * 5 + 1, none⟩ = some (.int .i64 d.rq) := (hb_cell HCB.out hpl).trans C1.out
                     have qc1 : w1.cell? ⟨q, o2 + k * 5 + 1, none⟩ = some (.int .i64 e.rq) := (hb_cell HCB.out hql).trans DD1.out
                     have ll : w.heap.size + 1 < w1.heap.size := Z2.out.l
                     have ll0 : w.heap.size < w1.heap.size := by omega
                     have hpl1 : p < w1.heap.size := Nat.lt_of_lt_of_le hpl HCB.out.size
                     have hql1 : q < w1.heap.size := Nat.lt_of_lt_of_le hql HCB.out.size
                     clear C0 C1 DD0 DD1
                     go_wp2
                     go_quiet (fail)
                     go_wp2
                     go_ret
                     exact ⟨by rw [HB.out]; rfl, below_drewN Z2.out.b _⟩
                   ·have bc : (d.cl != e.cl) = true := by simp [hc]
                    have HB : Hid (Bv = false) := hidOf (HNE.out (fun h => hc (by rw [h])))
                    clear hc
                    have HD := hidOf (decide_eq_true hr)
                    clear hr
                    go_upto_region 24 with (fail)
                    go_region_held3 (fun wz => (wz.cell? ⟨w.heap.size, 8, none⟩ = some (.slice (some ⟨p, o, none⟩) X.length c8) ∧ wz.cell? ⟨w.heap.size + 1, 8, none⟩ = some (.slice (some ⟨q, o2, none⟩) X'.length c8')) ∧ (wz.cell? ⟨p, o + k * 5 + 2, none⟩ = some (.int .i64 d.co) ∧ wz.cell? ⟨p, o + k * 5 + 3, none⟩ = some (.int .i64 d.va) ∧ wz.cell? ⟨p, o + k * 5 + 4, none⟩ = some (.slice ga d.al.length gc)) ∧ (wz.cell? ⟨q, o2 + k * 5 + 2, none⟩ = some (.int .i64 e.co) ∧ wz.cell? ⟨q, o2 + k * 5 + 3, none⟩ = some (.int .i64 e.va) ∧ wz.cell? ⟨q, o2 + k * 5 + 4, none⟩ = some (.slice gb e.al.length gd))) (first | go_keep | exact KK.out) (first | (go_at_call 28; refine (HRS.out _ (bdrewN wr _)).mono ?_; rintro e w1 ⟨rfl, hb0⟩; have hb := (bdrewN wr _).trans hb0; have KK : Hid ((w1.cell? ⟨w.heap.size, 8, none⟩ = some (.slice (some ⟨p, o, none⟩) X.length c8) ∧ w1.cell? ⟨w.heap.size + 1, 8, none⟩ = some (.slice (some ⟨q, o2, none⟩) X'.length c8')) ∧ (w1.cell? ⟨p, o + k * 5 + 2, none⟩ = some (.int .i64 d.co) ∧ w1.cell? ⟨p, o + k * 5 + 3, none⟩ = some (.int .i64 d.va) ∧ w1.cell? ⟨p, o + k * 5 + 4, none⟩ = some (.slice ga d.al.length gc)) ∧ (w1.cell? ⟨q, o2 + k * 5 + 2, none⟩ = some (.int .i64 e.co) ∧ w1.cell? ⟨q, o2 + k * 5 + 3, none⟩ = some (.int .i64 e.va) ∧ w1.cell? ⟨q, o2 + k * 5 + 4, none⟩ = some (.slice gb e.al.length gd))) := hidOf ⟨⟨(hb_cell hb ll0).trans s8, (hb_cell hb ll).trans t8⟩, ⟨(hb_cell hb hpl).trans pc2, (hb_cell hb hpl).trans pc3, (hb_cell hb hpl).trans pc4⟩, (hb_cell hb hql).trans qc2, (hb_cell hb hql).trans qc3, (hb_cell hb hql).trans qc4⟩; have Z2 : Hid (FdS w w1 [.int .i64 ix, .int .i64 nx, .slice a2 J.length c2, .slice a3 B.length c3, .slice a4 dn.length c4, .slice a5 da.length c5, .slice a6 de.length c6, .slice a7 dd.length c7, .slice (some ⟨p, o, none⟩) X.length c8] [.int .i64 ix, .int .i64 nx, .slice a2' J'.length c2', .slice a3' B'.length c3', .slice a4' dn'.length c4', .slice a5' da'.length c5', .slice a6' de'.length c6', .slice a7' dd'.length c7', .slice (some ⟨q, o2, none⟩) X'.length c8']) := hidOf (Z.out.grow hb); have HCB := hidOf hb; clear hb hb0; rw [HD.out]))
                    have C0 := hidOf pc0
                    have C1 := hidOf pc1
                    have DD0 := hidOf qc0
                    have DD1 := hidOf qc1
                    clear pc0 pc1 qc0 qc1 pc2 pc3 pc4 qc2 qc3 qc4 s8 t8 ll ll0
                    have s8 : w1.cell? ⟨w.heap.size, 8, none⟩ = some (.slice (some ⟨p, o, none⟩) X.length c8) := Z2.out.s 8 _ rfl
                    have t8 : w1.cell? ⟨w.heap.size + 1, 8, none⟩ = some (.slice (some ⟨q, o2, none⟩) X'.length c8') := Z2.out.a 8 _ rfl
                    have pc0 : w1.cell? ⟨p, o + k * 5, none⟩ = some (.int .i64 d.cl) := (hb_cell HCB.out hpl).trans C0.out
                    have qc0 : w1.cell? ⟨q, o2 + k * 5, none⟩ = some (.int .i64 e.cl) := (hb_cell HCB.out hql).trans DD0.out
                    have pc1 : w1.cell? ⟨p, o + k * 5 + 1, none⟩ = some (.int .i64 d.rq) := (hb_cell HCB.out hpl).trans C1.out
                    have qc1 : w1.cell? ⟨q, o2 + k * 5 + 1, none⟩ = some (.int .i64 e.rq) := (hb_cell HCB.out hql).trans DD1.out
                    have ll : w.heap.size + 1 < w1.heap.size := Z2.out.l
                    have ll0 : w.heap.size < w1.heap.size := by omega
                    have hpl1 : p < w1.heap.size := Nat.lt_of_lt_of_le hpl HCB.out.size
                    have hql1 : q < w1.heap.size := Nat.lt_of_lt_of_le hql HCB.out.size
                    clear C0 C1 DD0 DD1
                    go_wp2
                    go_quiet (fail)
                    go_wp2
                    go_ret
                    exact ⟨by rw [HB.out]; rfl, below_drewN Z2.out.b _⟩
                  ·have HB : Hid (Bv = false) := hidOf (HNE.out (fun h => hr (by rw [h]; exact ⟨rfl, rfl, rfl⟩)))
                   have HD := hidOf (decide_eq_false hr)
                   clear hr
                   go_upto_region 24 with (fail)
                   go_region_held3 (fun wz => (wz.cell? ⟨w.heap.size, 8, none⟩ = some (.slice (some ⟨p, o, none⟩) X.length c8) ∧ wz.cell? ⟨w.heap.size + 1, 8, none⟩ = some (.slice (some ⟨q, o2, none⟩) X'.length c8')) ∧ (wz.cell? ⟨p, o + k * 5 + 2, none⟩ = some (.int .i64 d.co) ∧ wz.cell? ⟨p, o + k * 5 + 3, none⟩ = some (.int .i64 d.va) ∧ wz.cell? ⟨p, o + k * 5 + 4, none⟩ = some (.slice ga d.al.length gc)) ∧ (wz.cell? ⟨q, o2 + k * 5 + 2, none⟩ = some (.int .i64 e.co) ∧ wz.cell? ⟨q, o2 + k * 5 + 3, none⟩ = some (.int .i64 e.va) ∧ wz.cell? ⟨q, o2 + k * 5 + 4, none⟩ = some (.slice gb e.al.length gd))) (first | go_keep | exact KK.out) (first | (go_at_call 28; refine (HRS.out _ (bdrewN wr _)).mono ?_; rintro e w1 ⟨rfl, hb0⟩; have hb := (bdrewN wr _).trans hb0; have KK : Hid ((w1.cell? ⟨w.heap.size, 8, none⟩ = some (.slice (some ⟨p, o, none⟩) X.length c8) ∧ w1.cell? ⟨w.heap.size + 1, 8, none⟩ = some (.slice (some ⟨q, o2, none⟩) X'.length c8')) ∧ (w1.cell? ⟨p, o + k * 5 + 2, none⟩ = some (.int .i64 d.co) ∧ w1.cell? ⟨p, o + k * 5 + 3, none⟩ = some (.int .i64 d.va) ∧ w1.cell? ⟨p, o + k * 5 + 4, none⟩ = some (.slice ga d.al.length gc)) ∧ (w1.cell? ⟨q, o2 + k * 5 + 2, none⟩ = some (.int .i64 e.co) ∧ w1.cell? ⟨q, o2 + k * 5 + 3, none⟩ = some (.int .i64 e.va) ∧ w1.cell? ⟨q, o2 + k * 5 + 4, none⟩ = some (.slice gb e.al.length gd))) := hidOf ⟨⟨(hb_cell hb ll0).trans s8, (hb_cell hb ll).trans t8⟩, ⟨(hb_cell hb hpl).trans pc2, (hb_cell hb hpl).trans pc3, (hb_cell hb hpl).trans pc4⟩, (hb_cell hb hql).trans qc2, (hb_cell hb hql).trans qc3, (hb_cell hb hql).trans qc4⟩; have Z2 : Hid (FdS w w1 [.int .i64 ix, .int .i64 nx, .slice a2 J.length c2, .slice a3 B.length c3, .slice a4 dn.length c4, .slice a5 da.length c5, .slice a6 de.length c6, .slice a7 dd.length c7, .slice (some ⟨p, o, none⟩) X.length c8] [.int .i64 ix, .int .i64 nx, .slice a2' J'.length c2', .slice a3' B'.length c3', .slice a4' dn'.length c4', .slice a5' da'.length c5', .slice a6' de'.length c6', .slice a7' dd'.length c7', .slice (some ⟨q, o2, none⟩) X'.length c8']) := hidOf (Z.out.grow hb); have HCB := hidOf hb; clear hb hb0; rw [HD.out]))
                   have C0 := hidOf pc0
                   have C1 := hidOf pc1
                   have DD0 := hidOf qc0
                   have DD1 := hidOf qc1
                   clear pc0 pc1 qc0 qc1 pc2 pc3 pc4 qc2 qc3 qc4 s8 t8 ll ll0
                   have s8 : w1.cell? ⟨w.heap.size, 8, none⟩ = some (.slice (some ⟨p, o, none⟩) X.length c8) := Z2.out.s 8 _ rfl
                   have t8 : w1.cell? ⟨w.heap.size + 1, 8, none⟩ = some (.slice (some ⟨q, o2, none⟩) X'.length c8') := Z2.out.a 8 _ rfl
                   have pc0 : w1.cell? ⟨p, o + k * 5, none⟩ = some (.int .i64 d.cl) := (hb_cell HCB.out hpl).trans C0.out
                   have qc0 : w1.cell? ⟨q, o2 + k * 5, none⟩ = some (.int .i64 e.cl) := (hb_cell HCB.out hql).trans DD0.out
                   have pc1 : w1.cell? ⟨p, o + k * 5 + 1, none⟩ = some (.int .i64 d.rq) := (hb_cell HCB.out hpl).trans C1.out
                   have qc1 : w1.cell? ⟨q, o2 + k * 5 + 1, none⟩ = some (.int .i64 e.rq) := (hb_cell HCB.out hql).trans DD1.out
                   have ll : w.heap.size + 1 < w1.heap.size := Z2.out.l
                   have ll0 : w.heap.size < w1.heap.size := by omega
                   have hpl1 : p < w1.heap.size := Nat.lt_of_lt_of_le hpl HCB.out.size
                   have hql1 : q < w1.heap.size := Nat.lt_of_lt_of_le hql HCB.out.size
                   clear C0 C1 DD0 DD1
                   go_wp2
                   go_quiet (fail)
                   go_wp2
                   go_ret
                   exact ⟨by rw [HB.out]; rfl, below_drewN Z2.out.b _⟩
                 ·have hke : k = X.length := by omega
                  have HX : Hid (Bv = true) := hidOf (HYB.out Q4.out Q6.out Q7.out (by have h := HT.out; rw [hke, List.take_of_length_le (by rw [HXL.out]; exact Nat.le_refl _), List.take_of_length_le (by rw [HL8.out, HXM.out]; exact Nat.le_refl _)] at h; exact h))
                  subst hke
                  go_wp2
                  go_ret
                  exact ⟨by rw [HX.out]; rfl, Z.out.b⟩
         ·have b8 : ((X.length : Int) != (X'.length : Int)) = true := by simp; omega
          have HB : Hid (Bv = false) := hidOf (by rw [← hB]; refine decide_eq_false (fun e => hl8 ?_); cases e; exact HXL.out.trans HXM.out.symm)
          clear hB g0 g1 g2 hl4 hl6 hl7 hl8
          have Z0 := hidOf (FdS.begin w [.int .i64 ix, .int .i64 nx, .slice a2 J.length c2, .slice a3 B.length c3, .slice a4 dn.length c4, .slice a5 da.length c5, .slice a6 de.length c6, .slice a7 dd.length c7, .slice a8 X.length c8] [.int .i64 ix, .int .i64 nx, .slice a2' J'.length c2', .slice a3' B'.length c3', .slice a4' dn'.length c4', .slice a5' da'.length c5', .slice a6' de'.length c6', .slice a7' dd'.length c7', .slice a8' X'.length c8'] 29 29)
          go_enter Try.func12, Try.ntmps12
          go_wp2_with (first
           | (go_at_call 27; refine (E0.out _ Z0.out.b).mono ?_; rintro e z1 ⟨rfl, hb⟩; have Z1 := hidOf (Z0.out.grow hb); clear hb E0; rw [D0.out]; have s3 : z1.cell? ⟨w.heap.size, 3, none⟩ = some (.slice a3 B.length c3) := Z1.out.s 3 _ rfl; have t3 : z1.cell? ⟨w.heap.size + 1, 3, none⟩ = some (.slice a3' B'.length c3') := Z1.out.a 3 _ rfl; have ll : w.heap.size + 1 < z1.heap.size := Z1.out.l; have ll0 : w.heap.size < z1.heap.size := by omega)
           | (go_at_call 27; refine (E1.out _ Z1.out.b).mono ?_; rintro e z2 ⟨rfl, hb⟩; have Z2 := hidOf (Z1.out.grow hb); clear hb E1 s3 t3 ll ll0; rw [D1.out]; have s5 : z2.cell? ⟨w.heap.size, 5, none⟩ = some (.slice a5 da.length c5) := Z2.out.s 5 _ rfl; have t5 : z2.cell? ⟨w.heap.size + 1, 5, none⟩ = some (.slice a5' da'.length c5') := Z2.out.a 5 _ rfl; have ll : w.heap.size + 1 < z2.heap.size := Z2.out.l; have ll0 : w.heap.size < z2.heap.size := by omega)
           | (go_at_call 14; refine (E2.out _ Z2.out.b).mono ?_; rintro e z3 ⟨rfl, hb⟩; have Z3 := hidOf (Z2.out.grow hb); clear hb E2 s5 t5 ll ll0; rw [D2.out]; have s0 : z3.cell? ⟨w.heap.size, 0, none⟩ = some (.int .i64 ix) := Z3.out.s 0 _ rfl; have t0 : z3.cell? ⟨w.heap.size + 1, 0, none⟩ = some (.int .i64 ix) := Z3.out.a 0 _ rfl; have s1 : z3.cell? ⟨w.heap.size, 1, none⟩ = some (.int .i64 nx) := Z3.out.s 1 _ rfl; have t1 : z3.cell? ⟨w.heap.size + 1, 1, none⟩ = some (.int .i64 nx) := Z3.out.a 1 _ rfl; have s4 : z3.cell? ⟨w.heap.size, 4, none⟩ = some (.slice a4 dn.length c4) := Z3.out.s 4 _ rfl; have t4 : z3.cell? ⟨w.heap.size + 1, 4, none⟩ = some (.slice a4' dn'.length c4') := Z3.out.a 4 _ rfl; have s6 : z3.cell? ⟨w.heap.size, 6, none⟩ = some (.slice a6 de.length c6) := Z3.out.s 6 _ rfl; have t6 : z3.cell? ⟨w.heap.size + 1, 6, none⟩ = some (.slice a6' de'.length c6') := Z3.out.a 6 _ rfl; have s7 : z3.cell? ⟨w.heap.size, 7, none⟩ = some (.slice a7 dd.length c7) := Z3.out.s 7 _ rfl; have t7 : z3.cell? ⟨w.heap.size + 1, 7, none⟩ = some (.slice a7' dd'.length c7') := Z3.out.a 7 _ rfl; have s8 : z3.cell? ⟨w.heap.size, 8, none⟩ = some (.slice a8 X.length c8) := Z3.out.s 8 _ rfl; have t8 : z3.cell? ⟨w.heap.size + 1, 8, none⟩ = some (.slice a8' X'.length c8') := Z3.out.a 8 _ rfl; have ll : w.heap.size + 1 < z3.heap.size := Z3.out.l; have ll0 : w.heap.size < z3.heap.size := by omega))
          go_ret
          exact ⟨by rw [HB.out]; rfl, Z3.out.b⟩
        ·have b7 : ((dd.length : Int) != (dd'.length : Int)) = true := by simp; omega
         have HB : Hid (Bv = false) := hidOf (by rw [← hB]; refine decide_eq_false (fun e => hl7 ?_); cases e; rfl)
         clear hB g0 g1 g2 hl4 hl6 hl7
         have Z0 := hidOf (FdS.begin w [.int .i64 ix, .int .i64 nx, .slice a2 J.length c2, .slice a3 B.length c3, .slice a4 dn.length c4, .slice a5 da.length c5, .slice a6 de.length c6, .slice a7 dd.length c7, .slice a8 X.length c8] [.int .i64 ix, .int .i64 nx, .slice a2' J'.length c2', .slice a3' B'.length c3', .slice a4' dn'.length c4', .slice a5' da'.length c5', .slice a6' de'.length c6', .slice a7' dd'.length c7', .slice a8' X'.length c8'] 29 29)
         go_enter Try.func12, Try.ntmps12
         go_wp2_with (first
          | (go_at_call 27; refine (E0.out _ Z0.out.b).mono ?_; rintro e z1 ⟨rfl, hb⟩; have Z1 := hidOf (Z0.out.grow hb); clear hb E0; rw [D0.out]; have s3 : z1.cell? ⟨w.heap.size, 3, none⟩ = some (.slice a3 B.length c3) := Z1.out.s 3 _ rfl; have t3 : z1.cell? ⟨w.heap.size + 1, 3, none⟩ = some (.slice a3' B'.length c3') := Z1.out.a 3 _ rfl; have ll : w.heap.size + 1 < z1.heap.size := Z1.out.l; have ll0 : w.heap.size < z1.heap.size := by omega)
          | (go_at_call 27; refine (E1.out _ Z1.out.b).mono ?_; rintro e z2 ⟨rfl, hb⟩; have Z2 := hidOf (Z1.out.grow hb); clear hb E1 s3 t3 ll ll0; rw [D1.out]; have s5 : z2.cell? ⟨w.heap.size, 5, none⟩ = some (.slice a5 da.length c5) := Z2.out.s 5 _ rfl; have t5 : z2.cell? ⟨w.heap.size + 1, 5, none⟩ = some (.slice a5' da'.length c5') := Z2.out.a 5 _ rfl; have ll : w.heap.size + 1 < z2.heap.size := Z2.out.l; have ll0 : w.heap.size < z2.heap.size := by omega)
          | (go_at_call 14; refine (E2.out _ Z2.out.b).mono ?_; rintro e z3 ⟨rfl, hb⟩; have Z3 := hidOf (Z2.out.grow hb); clear hb E2 s5 t5 ll ll0; rw [D2.out]; have s0 : z3.cell? ⟨w.heap.size, 0, none⟩ = some (.int .i64 ix) := Z3.out.s 0 _ rfl; have t0 : z3.cell? ⟨w.heap.size + 1, 0, none⟩ = some (.int .i64 ix) := Z3.out.a 0 _ rfl; have s1 : z3.cell? ⟨w.heap.size, 1, none⟩ = some (.int .i64 nx) := Z3.out.s 1 _ rfl; have t1 : z3.cell? ⟨w.heap.size + 1, 1, none⟩ = some (.int .i64 nx) := Z3.out.a 1 _ rfl; have s4 : z3.cell? ⟨w.heap.size, 4, none⟩ = some (.slice a4 dn.length c4) := Z3.out.s 4 _ rfl; have t4 : z3.cell? ⟨w.heap.size + 1, 4, none⟩ = some (.slice a4' dn'.length c4') := Z3.out.a 4 _ rfl; have s6 : z3.cell? ⟨w.heap.size, 6, none⟩ = some (.slice a6 de.length c6) := Z3.out.s 6 _ rfl; have t6 : z3.cell? ⟨w.heap.size + 1, 6, none⟩ = some (.slice a6' de'.length c6') := Z3.out.a 6 _ rfl; have s7 : z3.cell? ⟨w.heap.size, 7, none⟩ = some (.slice a7 dd.length c7) := Z3.out.s 7 _ rfl; have t7 : z3.cell? ⟨w.heap.size + 1, 7, none⟩ = some (.slice a7' dd'.length c7') := Z3.out.a 7 _ rfl; have s8 : z3.cell? ⟨w.heap.size, 8, none⟩ = some (.slice a8 X.length c8) := Z3.out.s 8 _ rfl; have t8 : z3.cell? ⟨w.heap.size + 1, 8, none⟩ = some (.slice a8' X'.length c8') := Z3.out.a 8 _ rfl; have ll : w.heap.size + 1 < z3.heap.size := Z3.out.l; have ll0 : w.heap.size < z3.heap.size := by omega))
         go_ret
         exact ⟨by rw [HB.out]; rfl, Z3.out.b⟩
       ·have b6 : ((de.length : Int) != (de'.length : Int)) = true := by simp; omega
        have HB : Hid (Bv = false) := hidOf (by rw [← hB]; refine decide_eq_false (fun e => hl6 ?_); cases e; rfl)
        clear hB g0 g1 g2 hl4 hl6
        have Z0 := hidOf (FdS.begin w [.int .i64 ix, .int .i64 nx, .slice a2 J.length c2, .slice a3 B.length c3, .slice a4 dn.length c4, .slice a5 da.length c5, .slice a6 de.length c6, .slice a7 dd.length c7, .slice a8 X.length c8] [.int .i64 ix, .int .i64 nx, .slice a2' J'.length c2', .slice a3' B'.length c3', .slice a4' dn'.length c4', .slice a5' da'.length c5', .slice a6' de'.length c6', .slice a7' dd'.length c7', .slice a8' X'.length c8'] 29 29)
        go_enter Try.func12, Try.ntmps12
        go_wp2_with (first
         | (go_at_call 27; refine (E0.out _ Z0.out.b).mono ?_; rintro e z1 ⟨rfl, hb⟩; have Z1 := hidOf (Z0.out.grow hb); clear hb E0; rw [D0.out]; have s3 : z1.cell? ⟨w.heap.size, 3, none⟩ = some (.slice a3 B.length c3) := Z1.out.s 3 _ rfl; have t3 : z1.cell? ⟨w.heap.size + 1, 3, none⟩ = some (.slice a3' B'.length c3') := Z1.out.a 3 _ rfl; have ll : w.heap.size + 1 < z1.heap.size := Z1.out.l; have ll0 : w.heap.size < z1.heap.size := by omega)
         | (go_at_call 27; refine (E1.out _ Z1.out.b).mono ?_; rintro e z2 ⟨rfl, hb⟩; have Z2 := hidOf (Z1.out.grow hb); clear hb E1 s3 t3 ll ll0; rw [D1.out]; have s5 : z2.cell? ⟨w.heap.size, 5, none⟩ = some (.slice a5 da.length c5) := Z2.out.s 5 _ rfl; have t5 : z2.cell? ⟨w.heap.size + 1, 5, none⟩ = some (.slice a5' da'.length c5') := Z2.out.a 5 _ rfl; have ll : w.heap.size + 1 < z2.heap.size := Z2.out.l; have ll0 : w.heap.size < z2.heap.size := by omega)
         | (go_at_call 14; refine (E2.out _ Z2.out.b).mono ?_; rintro e z3 ⟨rfl, hb⟩; have Z3 := hidOf (Z2.out.grow hb); clear hb E2 s5 t5 ll ll0; rw [D2.out]; have s0 : z3.cell? ⟨w.heap.size, 0, none⟩ = some (.int .i64 ix) := Z3.out.s 0 _ rfl; have t0 : z3.cell? ⟨w.heap.size + 1, 0, none⟩ = some (.int .i64 ix) := Z3.out.a 0 _ rfl; have s1 : z3.cell? ⟨w.heap.size, 1, none⟩ = some (.int .i64 nx) := Z3.out.s 1 _ rfl; have t1 : z3.cell? ⟨w.heap.size + 1, 1, none⟩ = some (.int .i64 nx) := Z3.out.a 1 _ rfl; have s4 : z3.cell? ⟨w.heap.size, 4, none⟩ = some (.slice a4 dn.length c4) := Z3.out.s 4 _ rfl; have t4 : z3.cell? ⟨w.heap.size + 1, 4, none⟩ = some (.slice a4' dn'.length c4') := Z3.out.a 4 _ rfl; have s6 : z3.cell? ⟨w.heap.size, 6, none⟩ = some (.slice a6 de.length c6) := Z3.out.s 6 _ rfl; have t6 : z3.cell? ⟨w.heap.size + 1, 6, none⟩ = some (.slice a6' de'.length c6') := Z3.out.a 6 _ rfl; have s7 : z3.cell? ⟨w.heap.size, 7, none⟩ = some (.slice a7 dd.length c7) := Z3.out.s 7 _ rfl; have t7 : z3.cell? ⟨w.heap.size + 1, 7, none⟩ = some (.slice a7' dd'.length c7') := Z3.out.a 7 _ rfl; have s8 : z3.cell? ⟨w.heap.size, 8, none⟩ = some (.slice a8 X.length c8) := Z3.out.s 8 _ rfl; have t8 : z3.cell? ⟨w.heap.size + 1, 8, none⟩ = some (.slice a8' X'.length c8') := Z3.out.a 8 _ rfl; have ll : w.heap.size + 1 < z3.heap.size := Z3.out.l; have ll0 : w.heap.size < z3.heap.size := by omega))
        go_ret
        exact ⟨by rw [HB.out]; rfl, Z3.out.b⟩
      ·have b4 : ((dn.length : Int) != (dn'.length : Int)) = true := by simp; omega
       have HB : Hid (Bv = false) := hidOf (by rw [← hB]; refine decide_eq_false (fun e => hl4 ?_); cases e; rfl)
       clear hB g0 g1 g2 hl4
       have Z0 := hidOf (FdS.begin w [.int .i64 ix, .int .i64 nx, .slice a2 J.length c2, .slice a3 B.length c3, .slice a4 dn.length c4, .slice a5 da.length c5, .slice a6 de.length c6, .slice a7 dd.length c7, .slice a8 X.length c8] [.int .i64 ix, .int .i64 nx, .slice a2' J'.length c2', .slice a3' B'.length c3', .slice a4' dn'.length c4', .slice a5' da'.length c5', .slice a6' de'.length c6', .slice a7' dd'.length c7', .slice a8' X'.length c8'] 29 29)
       go_enter Try.func12, Try.ntmps12
       go_wp2_with (first
        | (go_at_call 27; refine (E0.out _ Z0.out.b).mono ?_; rintro e z1 ⟨rfl, hb⟩; have Z1 := hidOf (Z0.out.grow hb); clear hb E0; rw [D0.out]; have s3 : z1.cell? ⟨w.heap.size, 3, none⟩ = some (.slice a3 B.length c3) := Z1.out.s 3 _ rfl; have t3 : z1.cell? ⟨w.heap.size + 1, 3, none⟩ = some (.slice a3' B'.length c3') := Z1.out.a 3 _ rfl; have ll : w.heap.size + 1 < z1.heap.size := Z1.out.l; have ll0 : w.heap.size < z1.heap.size := by omega)
        | (go_at_call 27; refine (E1.out _ Z1.out.b).mono ?_; rintro e z2 ⟨rfl, hb⟩; have Z2 := hidOf (Z1.out.grow hb); clear hb E1 s3 t3 ll ll0; rw [D1.out]; have s5 : z2.cell? ⟨w.heap.size, 5, none⟩ = some (.slice a5 da.length c5) := Z2.out.s 5 _ rfl; have t5 : z2.cell? ⟨w.heap.size + 1, 5, none⟩ = some (.slice a5' da'.length c5') := Z2.out.a 5 _ rfl; have ll : w.heap.size + 1 < z2.heap.size := Z2.out.l; have ll0 : w.heap.size < z2.heap.size := by omega)
        | (go_at_call 14; refine (E2.out _ Z2.out.b).mono ?_; rintro e z3 ⟨rfl, hb⟩; have Z3 := hidOf (Z2.out.grow hb); clear hb E2 s5 t5 ll ll0; rw [D2.out]; have s0 : z3.cell? ⟨w.heap.size, 0, none⟩ = some (.int .i64 ix) := Z3.out.s 0 _ rfl; have t0 : z3.cell? ⟨w.heap.size + 1, 0, none⟩ = some (.int .i64 ix) := Z3.out.a 0 _ rfl; have s1 : z3.cell? ⟨w.heap.size, 1, none⟩ = some (.int .i64 nx) := Z3.out.s 1 _ rfl; have t1 : z3.cell? ⟨w.heap.size + 1, 1, none⟩ = some (.int .i64 nx) := Z3.out.a 1 _ rfl; have s4 : z3.cell? ⟨w.heap.size, 4, none⟩ = some (.slice a4 dn.length c4) := Z3.out.s 4 _ rfl; have t4 : z3.cell? ⟨w.heap.size + 1, 4, none⟩ = some (.slice a4' dn'.length c4') := Z3.out.a 4 _ rfl; have s6 : z3.cell? ⟨w.heap.size, 6, none⟩ = some (.slice a6 de.length c6) := Z3.out.s 6 _ rfl; have t6 : z3.cell? ⟨w.heap.size + 1, 6, none⟩ = some (.slice a6' de'.length c6') := Z3.out.a 6 _ rfl; have s7 : z3.cell? ⟨w.heap.size, 7, none⟩ = some (.slice a7 dd.length c7) := Z3.out.s 7 _ rfl; have t7 : z3.cell? ⟨w.heap.size + 1, 7, none⟩ = some (.slice a7' dd'.length c7') := Z3.out.a 7 _ rfl; have s8 : z3.cell? ⟨w.heap.size, 8, none⟩ = some (.slice a8 X.length c8) := Z3.out.s 8 _ rfl; have t8 : z3.cell? ⟨w.heap.size + 1, 8, none⟩ = some (.slice a8' X'.length c8') := Z3.out.a 8 _ rfl; have ll : w.heap.size + 1 < z3.heap.size := Z3.out.l; have ll0 : w.heap.size < z3.heap.size := by omega))
       go_ret
       exact ⟨by rw [HB.out]; rfl, Z3.out.b⟩
     ·have HB : Hid (Bv = false) := hidOf (by rw [← hB]; simp [h4])
      clear hB g0 g1 g2
      have Z0 := hidOf (FdS.begin w [.int .i64 ix, .int .i64 nx, .slice a2 J.length c2, .slice a3 B.length c3, .slice a4 dn.length c4, .slice a5 da.length c5, .slice a6 de.length c6, .slice a7 dd.length c7, .slice a8 X.length c8] [.int .i64 ix, .int .i64 nx', .slice a2' J'.length c2', .slice a3' B'.length c3', .slice a4' dn'.length c4', .slice a5' da'.length c5', .slice a6' de'.length c6', .slice a7' dd'.length c7', .slice a8' X'.length c8'] 29 29)
      go_enter Try.func12, Try.ntmps12
      go_wp2_with (first
       | (go_at_call 27; refine (E0.out _ Z0.out.b).mono ?_; rintro e z1 ⟨rfl, hb⟩; have Z1 := hidOf (Z0.out.grow hb); clear hb E0; rw [D0.out]; have s3 : z1.cell? ⟨w.heap.size, 3, none⟩ = some (.slice a3 B.length c3) := Z1.out.s 3 _ rfl; have t3 : z1.cell? ⟨w.heap.size + 1, 3, none⟩ = some (.slice a3' B'.length c3') := Z1.out.a 3 _ rfl; have ll : w.heap.size + 1 < z1.heap.size := Z1.out.l; have ll0 : w.heap.size < z1.heap.size := by omega)
       | (go_at_call 27; refine (E1.out _ Z1.out.b).mono ?_; rintro e z2 ⟨rfl, hb⟩; have Z2 := hidOf (Z1.out.grow hb); clear hb E1 s3 t3 ll ll0; rw [D1.out]; have s5 : z2.cell? ⟨w.heap.size, 5, none⟩ = some (.slice a5 da.length c5) := Z2.out.s 5 _ rfl; have t5 : z2.cell? ⟨w.heap.size + 1, 5, none⟩ = some (.slice a5' da'.length c5') := Z2.out.a 5 _ rfl; have ll : w.heap.size + 1 < z2.heap.size := Z2.out.l; have ll0 : w.heap.size < z2.heap.size := by omega)
       | (go_at_call 14; refine (E2.out _ Z2.out.b).mono ?_; rintro e z3 ⟨rfl, hb⟩; have Z3 := hidOf (Z2.out.grow hb); clear hb E2 s5 t5 ll ll0; rw [D2.out]; have s0 : z3.cell? ⟨w.heap.size, 0, none⟩ = some (.int .i64 ix) := Z3.out.s 0 _ rfl; have t0 : z3.cell? ⟨w.heap.size + 1, 0, none⟩ = some (.int .i64 ix) := Z3.out.a 0 _ rfl; have s1 : z3.cell? ⟨w.heap.size, 1, none⟩ = some (.int .i64 nx) := Z3.out.s 1 _ rfl; have t1 : z3.cell? ⟨w.heap.size + 1, 1, none⟩ = some (.int .i64 nx') := Z3.out.a 1 _ rfl; have s4 : z3.cell? ⟨w.heap.size, 4, none⟩ = some (.slice a4 dn.length c4) := Z3.out.s 4 _ rfl; have t4 : z3.cell? ⟨w.heap.size + 1, 4, none⟩ = some (.slice a4' dn'.length c4') := Z3.out.a 4 _ rfl; have s6 : z3.cell? ⟨w.heap.size, 6, none⟩ = some (.slice a6 de.length c6) := Z3.out.s 6 _ rfl; have t6 : z3.cell? ⟨w.heap.size + 1, 6, none⟩ = some (.slice a6' de'.length c6') := Z3.out.a 6 _ rfl; have s7 : z3.cell? ⟨w.heap.size, 7, none⟩ = some (.slice a7 dd.length c7) := Z3.out.s 7 _ rfl; have t7 : z3.cell? ⟨w.heap.size + 1, 7, none⟩ = some (.slice a7' dd'.length c7') := Z3.out.a 7 _ rfl; have s8 : z3.cell? ⟨w.heap.size, 8, none⟩ = some (.slice a8 X.length c8) := Z3.out.s 8 _ rfl; have t8 : z3.cell? ⟨w.heap.size + 1, 8, none⟩ = some (.slice a8' X'.length c8') := Z3.out.a 8 _ rfl; have ll : w.heap.size + 1 < z3.heap.size := Z3.out.l; have ll0 : w.heap.size < z3.heap.size := by omega))
      go_ret
      exact ⟨by rw [HB.out]; rfl, Z3.out.b⟩
    ·have HB : Hid (Bv = false) := hidOf (by rw [← hB]; simp [h3])
     clear hB g0 g1 g2
     have Z0 := hidOf (FdS.begin w [.int .i64 ix, .int .i64 nx, .slice a2 J.length c2, .slice a3 B.length c3, .slice a4 dn.length c4, .slice a5 da.length c5, .slice a6 de.length c6, .slice a7 dd.length c7, .slice a8 X.length c8] [.int .i64 ix', .int .i64 nx', .slice a2' J'.length c2', .slice a3' B'.length c3', .slice a4' dn'.length c4', .slice a5' da'.length c5', .slice a6' de'.length c6', .slice a7' dd'.length c7', .slice a8' X'.length c8'] 29 29)
     go_enter Try.func12, Try.ntmps12
     go_wp2_with (first
      | (go_at_call 27; refine (E0.out _ Z0.out.b).mono ?_; rintro e z1 ⟨rfl, hb⟩; have Z1 := hidOf (Z0.out.grow hb); clear hb E0; rw [D0.out]; have s3 : z1.cell? ⟨w.heap.size, 3, none⟩ = some (.slice a3 B.length c3) := Z1.out.s 3 _ rfl; have t3 : z1.cell? ⟨w.heap.size + 1, 3, none⟩ = some (.slice a3' B'.length c3') := Z1.out.a 3 _ rfl; have ll : w.heap.size + 1 < z1.heap.size := Z1.out.l; have ll0 : w.heap.size < z1.heap.size := by omega)
      | (go_at_call 27; refine (E1.out _ Z1.out.b).mono ?_; rintro e z2 ⟨rfl, hb⟩; have Z2 := hidOf (Z1.out.grow hb); clear hb E1 s3 t3 ll ll0; rw [D1.out]; have s5 : z2.cell? ⟨w.heap.size, 5, none⟩ = some (.slice a5 da.length c5) := Z2.out.s 5 _ rfl; have t5 : z2.cell? ⟨w.heap.size + 1, 5, none⟩ = some (.slice a5' da'.length c5') := Z2.out.a 5 _ rfl; have ll : w.heap.size + 1 < z2.heap.size := Z2.out.l; have ll0 : w.heap.size < z2.heap.size := by omega)
      | (go_at_call 14; refine (E2.out _ Z2.out.b).mono ?_; rintro e z3 ⟨rfl, hb⟩; have Z3 := hidOf (Z2.out.grow hb); clear hb E2 s5 t5 ll ll0; rw [D2.out]; have s0 : z3.cell? ⟨w.heap.size, 0, none⟩ = some (.int .i64 ix) := Z3.out.s 0 _ rfl; have t0 : z3.cell? ⟨w.heap.size + 1, 0, none⟩ = some (.int .i64 ix') := Z3.out.a 0 _ rfl; have s1 : z3.cell? ⟨w.heap.size, 1, none⟩ = some (.int .i64 nx) := Z3.out.s 1 _ rfl; have t1 : z3.cell? ⟨w.heap.size + 1, 1, none⟩ = some (.int .i64 nx') := Z3.out.a 1 _ rfl; have s4 : z3.cell? ⟨w.heap.size, 4, none⟩ = some (.slice a4 dn.length c4) := Z3.out.s 4 _ rfl; have t4 : z3.cell? ⟨w.heap.size + 1, 4, none⟩ = some (.slice a4' dn'.length c4') := Z3.out.a 4 _ rfl; have s6 : z3.cell? ⟨w.heap.size, 6, none⟩ = some (.slice a6 de.length c6) := Z3.out.s 6 _ rfl; have t6 : z3.cell? ⟨w.heap.size + 1, 6, none⟩ = some (.slice a6' de'.length c6') := Z3.out.a 6 _ rfl; have s7 : z3.cell? ⟨w.heap.size, 7, none⟩ = some (.slice a7 dd.length c7) := Z3.out.s 7 _ rfl; have t7 : z3.cell? ⟨w.heap.size + 1, 7, none⟩ = some (.slice a7' dd'.length c7') := Z3.out.a 7 _ rfl; have s8 : z3.cell? ⟨w.heap.size, 8, none⟩ = some (.slice a8 X.length c8) := Z3.out.s 8 _ rfl; have t8 : z3.cell? ⟨w.heap.size + 1, 8, none⟩ = some (.slice a8' X'.length c8') := Z3.out.a 8 _ rfl; have ll : w.heap.size + 1 < z3.heap.size := Z3.out.l; have ll0 : w.heap.size < z3.heap.size := by omega))
     go_ret
     exact ⟨by rw [HB.out]; rfl, Z3.out.b⟩
   ·have D2 := hidOf (decide_eq_false g2)
    have HB : Hid (Bv = false) := hidOf (by rw [← hB]; simp [g2])
    clear hB g0 g1 g2
    have Z0 := hidOf (FdS.begin w [.int .i64 ix, .int .i64 nx, .slice a2 J.length c2, .slice a3 B.length c3, .slice a4 dn.length c4, .slice a5 da.length c5, .slice a6 de.length c6, .slice a7 dd.length c7, .slice a8 X.length c8] [.int .i64 ix', .int .i64 nx', .slice a2' J'.length c2', .slice a3' B'.length c3', .slice a4' dn'.length c4', .slice a5' da'.length c5', .slice a6' de'.length c6', .slice a7' dd'.length c7', .slice a8' X'.length c8'] 29 29)
    go_enter Try.func12, Try.ntmps12
    go_wp2_with (first
     | (go_at_call 27; refine (E0.out _ Z0.out.b).mono ?_; rintro e z1 ⟨rfl, hb⟩; have Z1 := hidOf (Z0.out.grow hb); clear hb E0; rw [D0.out]; have s3 : z1.cell? ⟨w.heap.size, 3, none⟩ = some (.slice a3 B.length c3) := Z1.out.s 3 _ rfl; have t3 : z1.cell? ⟨w.heap.size + 1, 3, none⟩ = some (.slice a3' B'.length c3') := Z1.out.a 3 _ rfl; have ll : w.heap.size + 1 < z1.heap.size := Z1.out.l; have ll0 : w.heap.size < z1.heap.size := by omega)
     | (go_at_call 27; refine (E1.out _ Z1.out.b).mono ?_; rintro e z2 ⟨rfl, hb⟩; have Z2 := hidOf (Z1.out.grow hb); clear hb E1 s3 t3 ll ll0; rw [D1.out]; have s5 : z2.cell? ⟨w.heap.size, 5, none⟩ = some (.slice a5 da.length c5) := Z2.out.s 5 _ rfl; have t5 : z2.cell? ⟨w.heap.size + 1, 5, none⟩ = some (.slice a5' da'.length c5') := Z2.out.a 5 _ rfl; have ll : w.heap.size + 1 < z2.heap.size := Z2.out.l; have ll0 : w.heap.size < z2.heap.size := by omega)
     | (go_at_call 14; refine (E2.out _ Z2.out.b).mono ?_; rintro e z3 ⟨rfl, hb⟩; have Z3 := hidOf (Z2.out.grow hb); clear hb E2 s5 t5 ll ll0; rw [D2.out]; have s0 : z3.cell? ⟨w.heap.size, 0, none⟩ = some (.int .i64 ix) := Z3.out.s 0 _ rfl; have t0 : z3.cell? ⟨w.heap.size + 1, 0, none⟩ = some (.int .i64 ix') := Z3.out.a 0 _ rfl; have s1 : z3.cell? ⟨w.heap.size, 1, none⟩ = some (.int .i64 nx) := Z3.out.s 1 _ rfl; have t1 : z3.cell? ⟨w.heap.size + 1, 1, none⟩ = some (.int .i64 nx') := Z3.out.a 1 _ rfl; have s4 : z3.cell? ⟨w.heap.size, 4, none⟩ = some (.slice a4 dn.length c4) := Z3.out.s 4 _ rfl; have t4 : z3.cell? ⟨w.heap.size + 1, 4, none⟩ = some (.slice a4' dn'.length c4') := Z3.out.a 4 _ rfl; have s6 : z3.cell? ⟨w.heap.size, 6, none⟩ = some (.slice a6 de.length c6) := Z3.out.s 6 _ rfl; have t6 : z3.cell? ⟨w.heap.size + 1, 6, none⟩ = some (.slice a6' de'.length c6') := Z3.out.a 6 _ rfl; have s7 : z3.cell? ⟨w.heap.size, 7, none⟩ = some (.slice a7 dd.length c7) := Z3.out.s 7 _ rfl; have t7 : z3.cell? ⟨w.heap.size + 1, 7, none⟩ = some (.slice a7' dd'.length c7') := Z3.out.a 7 _ rfl; have s8 : z3.cell? ⟨w.heap.size, 8, none⟩ = some (.slice a8 X.length c8) := Z3.out.s 8 _ rfl; have t8 : z3.cell? ⟨w.heap.size + 1, 8, none⟩ = some (.slice a8' X'.length c8') := Z3.out.a 8 _ rfl; have ll : w.heap.size + 1 < z3.heap.size := Z3.out.l; have ll0 : w.heap.size < z3.heap.size := by omega))
    go_ret
    exact ⟨by rw [HB.out]; rfl, Z3.out.b⟩
  ·have D1 := hidOf (decide_eq_false g1)
   have HB : Hid (Bv = false) := hidOf (by rw [← hB]; simp [g1])
   obtain ⟨x2, D2⟩ : ∃ x, Hid (decide (da = da') = x) := ⟨_, hidOf rfl⟩
   clear hB g0 g1
   have Z0 := hidOf (FdS.begin w [.int .i64 ix, .int .i64 nx, .slice a2 J.length c2, .slice a3 B.length c3, .slice a4 dn.length c4, .slice a5 da.length c5, .slice a6 de.length c6, .slice a7 dd.length c7, .slice a8 X.length c8] [.int .i64 ix', .int .i64 nx', .slice a2' J'.length c2', .slice a3' B'.length c3', .slice a4' dn'.length c4', .slice a5' da'.length c5', .slice a6' de'.length c6', .slice a7' dd'.length c7', .slice a8' X'.length c8'] 29 29)
   go_enter Try.func12, Try.ntmps12
   go_wp2_with (first
    | (go_at_call 27; refine (E0.out _ Z0.out.b).mono ?_; rintro e z1 ⟨rfl, hb⟩; have Z1 := hidOf (Z0.out.grow hb); clear hb E0; rw [D0.out]; have s3 : z1.cell? ⟨w.heap.size, 3, none⟩ = some (.slice a3 B.length c3) := Z1.out.s 3 _ rfl; have t3 : z1.cell? ⟨w.heap.size + 1, 3, none⟩ = some (.slice a3' B'.length c3') := Z1.out.a 3 _ rfl; have ll : w.heap.size + 1 < z1.heap.size := Z1.out.l; have ll0 : w.heap.size < z1.heap.size := by omega)
    | (go_at_call 27; refine (E1.out _ Z1.out.b).mono ?_; rintro e z2 ⟨rfl, hb⟩; have Z2 := hidOf (Z1.out.grow hb); clear hb E1 s3 t3 ll ll0; rw [D1.out]; have s5 : z2.cell? ⟨w.heap.size, 5, none⟩ = some (.slice a5 da.length c5) := Z2.out.s 5 _ rfl; have t5 : z2.cell? ⟨w.heap.size + 1, 5, none⟩ = some (.slice a5' da'.length c5') := Z2.out.a 5 _ rfl; have ll : w.heap.size + 1 < z2.heap.size := Z2.out.l; have ll0 : w.heap.size < z2.heap.size := by omega)
    | (go_at_call 14; refine (E2.out _ Z2.out.b).mono ?_; rintro e z3 ⟨rfl, hb⟩; have Z3 := hidOf (Z2.out.grow hb); clear hb E2 s5 t5 ll ll0; rw [D2.out]; have s0 : z3.cell? ⟨w.heap.size, 0, none⟩ = some (.int .i64 ix) := Z3.out.s 0 _ rfl; have t0 : z3.cell? ⟨w.heap.size + 1, 0, none⟩ = some (.int .i64 ix') := Z3.out.a 0 _ rfl; have s1 : z3.cell? ⟨w.heap.size, 1, none⟩ = some (.int .i64 nx) := Z3.out.s 1 _ rfl; have t1 : z3.cell? ⟨w.heap.size + 1, 1, none⟩ = some (.int .i64 nx') := Z3.out.a 1 _ rfl; have s4 : z3.cell? ⟨w.heap.size, 4, none⟩ = some (.slice a4 dn.length c4) := Z3.out.s 4 _ rfl; have t4 : z3.cell? ⟨w.heap.size + 1, 4, none⟩ = some (.slice a4' dn'.length c4') := Z3.out.a 4 _ rfl; have s6 : z3.cell? ⟨w.heap.size, 6, none⟩ = some (.slice a6 de.length c6) := Z3.out.s 6 _ rfl; have t6 : z3.cell? ⟨w.heap.size + 1, 6, none⟩ = some (.slice a6' de'.length c6') := Z3.out.a 6 _ rfl; have s7 : z3.cell? ⟨w.heap.size, 7, none⟩ = some (.slice a7 dd.length c7) := Z3.out.s 7 _ rfl; have t7 : z3.cell? ⟨w.heap.size + 1, 7, none⟩ = some (.slice a7' dd'.length c7') := Z3.out.a 7 _ rfl; have s8 : z3.cell? ⟨w.heap.size, 8, none⟩ = some (.slice a8 X.length c8) := Z3.out.s 8 _ rfl; have t8 : z3.cell? ⟨w.heap.size + 1, 8, none⟩ = some (.slice a8' X'.length c8') := Z3.out.a 8 _ rfl; have ll : w.heap.size + 1 < z3.heap.size := Z3.out.l; have ll0 : w.heap.size < z3.heap.size := by omega))
   go_ret
   exact ⟨by rw [HB.out]; rfl, Z3.out.b⟩
 ·have D0 := hidOf (decide_eq_false g0)
  have HB : Hid (Bv = false) := hidOf (by rw [← hB]; simp [g0])
  obtain ⟨x1, D1⟩ : ∃ x, Hid (decide (db = db') = x) := ⟨_, hidOf rfl⟩
  obtain ⟨x2, D2⟩ : ∃ x, Hid (decide (da = da') = x) := ⟨_, hidOf rfl⟩
  clear hB g0
  have Z0 := hidOf (FdS.begin w [.int .i64 ix, .int .i64 nx, .slice a2 J.length c2, .slice a3 B.length c3, .slice a4 dn.length c4, .slice a5 da.length c5, .slice a6 de.length c6, .slice a7 dd.length c7, .slice a8 X.length c8] [.int .i64 ix', .int .i64 nx', .slice a2' J'.length c2', .slice a3' B'.length c3', .slice a4' dn'.length c4', .slice a5' da'.length c5', .slice a6' de'.length c6', .slice a7' dd'.length c7', .slice a8' X'.length c8'] 29 29)
  go_enter Try.func12, Try.ntmps12
  go_wp2_with (first
   | (go_at_call 27; refine (E0.out _ Z0.out.b).mono ?_; rintro e z1 ⟨rfl, hb⟩; have Z1 := hidOf (Z0.out.grow hb); clear hb E0; rw [D0.out]; have s3 : z1.cell? ⟨w.heap.size, 3, none⟩ = some (.slice a3 B.length c3) := Z1.out.s 3 _ rfl; have t3 : z1.cell? ⟨w.heap.size + 1, 3, none⟩ = some (.slice a3' B'.length c3') := Z1.out.a 3 _ rfl; have ll : w.heap.size + 1 < z1.heap.size := Z1.out.l; have ll0 : w.heap.size < z1.heap.size := by omega)
   | (go_at_call 27; refine (E1.out _ Z1.out.b).mono ?_; rintro e z2 ⟨rfl, hb⟩; have Z2 := hidOf (Z1.out.grow hb); clear hb E1 s3 t3 ll ll0; rw [D1.out]; have s5 : z2.cell? ⟨w.heap.size, 5, none⟩ = some (.slice a5 da.length c5) := Z2.out.s 5 _ rfl; have t5 : z2.cell? ⟨w.heap.size + 1, 5, none⟩ = some (.slice a5' da'.length c5') := Z2.out.a 5 _ rfl; have ll : w.heap.size + 1 < z2.heap.size := Z2.out.l; have ll0 : w.heap.size < z2.heap.size := by omega)
   | (go_at_call 14; refine (E2.out _ Z2.out.b).mono ?_; rintro e z3 ⟨rfl, hb⟩; have Z3 := hidOf (Z2.out.grow hb); clear hb E2 s5 t5 ll ll0; rw [D2.out]; have s0 : z3.cell? ⟨w.heap.size, 0, none⟩ = some (.int .i64 ix) := Z3.out.s 0 _ rfl; have t0 : z3.cell? ⟨w.heap.size + 1, 0, none⟩ = some (.int .i64 ix') := Z3.out.a 0 _ rfl; have s1 : z3.cell? ⟨w.heap.size, 1, none⟩ = some (.int .i64 nx) := Z3.out.s 1 _ rfl; have t1 : z3.cell? ⟨w.heap.size + 1, 1, none⟩ = some (.int .i64 nx') := Z3.out.a 1 _ rfl; have s4 : z3.cell? ⟨w.heap.size, 4, none⟩ = some (.slice a4 dn.length c4) := Z3.out.s 4 _ rfl; have t4 : z3.cell? ⟨w.heap.size + 1, 4, none⟩ = some (.slice a4' dn'.length c4') := Z3.out.a 4 _ rfl; have s6 : z3.cell? ⟨w.heap.size, 6, none⟩ = some (.slice a6 de.length c6) := Z3.out.s 6 _ rfl; have t6 : z3.cell? ⟨w.heap.size + 1, 6, none⟩ = some (.slice a6' de'.length c6') := Z3.out.a 6 _ rfl; have s7 : z3.cell? ⟨w.heap.size, 7, none⟩ = some (.slice a7 dd.length c7) := Z3.out.s 7 _ rfl; have t7 : z3.cell? ⟨w.heap.size + 1, 7, none⟩ = some (.slice a7' dd'.length c7') := Z3.out.a 7 _ rfl; have s8 : z3.cell? ⟨w.heap.size, 8, none⟩ = some (.slice a8 X.length c8) := Z3.out.s 8 _ rfl; have t8 : z3.cell? ⟨w.heap.size + 1, 8, none⟩ = some (.slice a8' X'.length c8') := Z3.out.a 8 _ rfl; have ll : w.heap.size + 1 < z3.heap.size := Z3.out.l; have ll0 : w.heap.size < z3.heap.size := by omega))
  go_ret
  exact ⟨by rw [HB.out]; rfl, Z3.out.b⟩
end Go.Proofs.Ytblofbdncolikaa
