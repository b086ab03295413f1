/- Several texts in one (wip/gen/group.py). -/
import Derived.Test.YtblofbdncolikaaEq
import Derived.Test.YtblofbdncolikaaDp
import Derived.Deep.RegionHeld3
import Derived.Deep.Cut
/- Two jobs are compared by the document. -/
namespace Go.Proofs.Ytblofbdncolikaa
open Go.RowKit Go.Shelf
attribute [local go_sem] Oper.semAt_some
set_option maxRecDepth 100000 in
set_option maxHeartbeats 4000000 in
theorem refSameJob_any (d e : Jb) (ga gb : Option Addr) (gc gd : Nat) (S : Nat → Prop) (w : World) (hS : ∀ b, S b → b < w.heap.size) (hG : Fl w S 3 24 Gp.cs ga d.gs) (hH : Fl w S 3 24 Gp.cs gb e.gs) :
  Calls Try.prog 43 #[.agg #[.int .i64 d.id, .int .i64 d.ty, .int .i64 d.pr, .int .i64 d.pa, .slice ga d.gs.length gc, .int .i64 d.ve, .bool d.sd], .agg #[.int .i64 e.id, .int .i64 e.ty, .int .i64 e.pr, .int .i64 e.pa, .slice gb e.gs.length gd, .int .i64 e.ve, .bool e.sd]] w fun r w' => r = .returned (.bool (decide (d = e))) ∧ Below w.heap.size w w' := by
 obtain ⟨id, ty, pr, pa, gs, ve, sd⟩ := d
 obtain ⟨id', ty', pr', pa', gs', ve', sd'⟩ := e
 dsimp only at hG hH ⊢
 have hll : gs.length ≤ 140737488355328 := by have := hG.bd; omega
 have hml : gs'.length ≤ 140737488355328 := by have := hH.bd; omega
 have HG := hidOf (fun (W : World) (hW : Below w.heap.size w W) => hG.kept (w' := W) (S' := S) (fun b hb => hW.block b (hS b hb)) (fun _ h => h))
 have HH := hidOf (fun (W : World) (hW : Below w.heap.size w W) => hH.kept (w' := W) (S' := S) (fun b hb => hW.block b (hS b hb)) (fun _ h => h))
 clear hG hH
 generalize hB : decide ((⟨id, ty, pr, pa, gs, ve, sd⟩ : Jb) = ⟨id', ty', pr', pa', gs', ve', sd'⟩) = Bv
 by_cases h0 : id = id'
 ·subst h0
  by_cases h1 : ty = ty'
  ·subst h1
   by_cases h2 : pr = pr'
   ·subst h2
    by_cases h3 : pa = pa'
    ·subst h3
     by_cases h4 : ve = ve'
     ·subst h4
      by_cases h5 : sd = sd'
      ·subst h5
       by_cases hlen : gs.length = gs'.length
       ·have HLE := hidOf hlen
        have HEL : Hid (gs.take gs.length = gs'.take gs.length → Bv = true) := hidOf (fun h => by rw [List.take_of_length_le (Nat.le_refl _), List.take_of_length_le (by omega)] at h; rw [← hB]; simp [h])
        have HNB : Hid (gs ≠ gs' → Bv = false) := hidOf (fun h => by rw [← hB]; simp [h])
        have b2 : ((gs.length : Int) != (gs'.length : Int)) = false := by simp [hlen]
        clear hlen hB
        go_enter Try.func43, Try.ntmps43
        go_wp2
        have Z := FdS.begin w [.int .i64 id, .int .i64 ty, .int .i64 pr, .int .i64 pa, .slice ga gs.length gc, .int .i64 ve, .bool sd] [.int .i64 id, .int .i64 ty, .int .i64 pr, .int .i64 pa, .slice gb gs'.length gd, .int .i64 ve, .bool sd] 51 51
        obtain ⟨W, hW⟩ : ∃ x, x = (w.alloc (.cells #[.int .i64 id, .int .i64 ty, .int .i64 pr, .int .i64 pa, .slice ga gs.length gc, .int .i64 ve, .bool sd] 51)).alloc (.cells #[.int .i64 id, .int .i64 ty, .int .i64 pr, .int .i64 pa, .slice gb gs'.length gd, .int .i64 ve, .bool sd] 51) := ⟨_, rfl⟩
        rw [← hW]
        have Z0 : FdS w W [.int .i64 id, .int .i64 ty, .int .i64 pr, .int .i64 pa, .slice ga gs.length gc, .int .i64 ve, .bool sd] [.int .i64 id, .int .i64 ty, .int .i64 pr, .int .i64 pa, .slice gb gs'.length gd, .int .i64 ve, .bool sd] := by rw [hW]; exact Z
        have p4 : W.cell? ⟨w.heap.size, 4, none⟩ = some (.slice ga gs.length gc) := Z0.s 4 _ rfl
        have q4 : W.cell? ⟨w.heap.size + 1, 4, none⟩ = some (.slice gb gs'.length gd) := Z0.a 4 _ rfl
        have HBW := hidOf Z0.b
        clear Z Z0 hW
        go_loopw [5] (fun i wr => ∃ k n : Nat, k ≤ gs.length ∧ i = .int .i64 (k : Int) ∧ Hid (gs.take k = gs'.take k) ∧ wr = W.drewN n) (fun i _ => gs.length - (intOf i).toNat)
        case atStart => exact ⟨0, 0, Nat.zero_le _, rfl, hidOf rfl, rfl⟩
        case round =>
         obtain ⟨k, n, hk, rfl, HT, hwr⟩ := hrel
         subst hwr
         by_cases hlt : k < gs.length
         ·have hlt2 : k < gs'.length := by rw [← HLE.out]; exact hlt
          obtain ⟨p, o, ha, hSp, hcc⟩ := (HG.out W HBW.out).at k hlt
          obtain ⟨q, o2, hb, hSq, hcd⟩ := (HH.out W HBW.out).at k hlt2
          subst ha
          subst hb
          have h64 : (k : Int) < (gs.length : Int) := by omega
          have h65 : (k : Int) < (gs'.length : Int) := by omega
          have HN : Hid (gs[k] = gs'[k] → gs.take (k + 1) = gs'.take (k + 1)) := hidOf (fun h => by rw [List.take_succ_eq_append_getElem hlt, List.take_succ_eq_append_getElem hlt2, HT.out, h])
          have HNE : Hid (gs[k] ≠ gs'[k] → Bv = false) := hidOf (fun h => HNB.out (fun e => h (by subst e; rfl)))
          generalize gs[k] = x at *
          generalize gs'[k] = y at *
          have c0 : W.cell? ⟨p, o + k * 3, none⟩ = some (.int .i64 x.n) := hcc 0 _ rfl
          have d0 : W.cell? ⟨q, o2 + k * 3, none⟩ = some (.int .i64 y.n) := hcd 0 _ rfl
          have c1 : W.cell? ⟨p, o + k * 3 + 1, none⟩ = some (.int .i64 x.c) := hcc 1 _ rfl
          have d1 : W.cell? ⟨q, o2 + k * 3 + 1, none⟩ = some (.int .i64 y.c) := hcd 1 _ rfl
          have c2 : W.cell? ⟨p, o + k * 3 + 2, none⟩ = some (.int .i64 x.m) := hcc 2 _ rfl
          have d2 : W.cell? ⟨q, o2 + k * 3 + 2, none⟩ = some (.int .i64 y.m) := hcd 2 _ rfl
          clear hcc hcd
          by_cases hxy : x = y
          ·have hne : ∀ wz : World, (binOp .neq 48 (.agg #[.int .i64 x.n, .int .i64 x.c, .int .i64 x.m]) (.agg #[.int .i64 y.n, .int .i64 y.c, .int .i64 y.m])).run Try.prog wz = .ok (.bool false) wz := fun wz => by rw [ne57]; simp [hxy]
           have HXY := hidOf hxy
           clear hxy
           go_wp2
           go_quiet (fail)
           go_wp2
           go_roundw
           case rel => exact ⟨k + 1, n + nq, by omega, by go_num, hidOf (HN.out HXY.out), rfl⟩
           case measure => simp [intOf]; omega
          ·have hne : ∀ wz : World, (binOp .neq 48 (.agg #[.int .i64 x.n, .int .i64 x.c, .int .i64 x.m]) (.agg #[.int .i64 y.n, .int .i64 y.c, .int .i64 y.m])).run Try.prog wz = .ok (.bool true) wz := fun wz => by rw [ne57]; simp [hxy]
           have HXY := hidOf hxy
           clear hxy
           go_wp2
           go_quiet (fail)
           go_wp2
           go_ret
           exact ⟨by rw [HNE.out HXY.out]; rfl, below_drewN (below_drewN HBW.out _) _⟩
         ·have hke : k = gs.length := by omega
          subst hke
          go_wp2
          go_ret
          exact ⟨by rw [HEL.out HT.out]; rfl, below_drewN HBW.out _⟩
       ·have HB : Hid (Bv = false) := hidOf (by rw [← hB]; simp; intro e; exact absurd (congrArg List.length e) hlen)
        have b2 : ((gs.length : Int) != (gs'.length : Int)) = true := by simp; omega
        clear hB
        go_enter Try.func43, Try.ntmps43
        go_wp2
        go_ret
        exact ⟨by rw [HB.out]; rfl, below2 w _ _⟩
      ·have HB : Hid (Bv = false) := hidOf (by rw [← hB]; simp [h5])
       have hb5 : (sd != sd') = true := by simp [h5]
       clear hB
       go_enter Try.func43, Try.ntmps43
       go_wp2
       go_ret
       exact ⟨by rw [HB.out]; rfl, below2 w _ _⟩
     ·have HB : Hid (Bv = false) := hidOf (by rw [← hB]; simp [h4])
      clear hB
      go_enter Try.func43, Try.ntmps43
      go_wp2
      go_ret
      exact ⟨by rw [HB.out]; rfl, below2 w _ _⟩
    ·have HB : Hid (Bv = false) := hidOf (by rw [← hB]; simp [h3])
     clear hB
     go_enter Try.func43, Try.ntmps43
     go_wp2
     go_ret
     exact ⟨by rw [HB.out]; rfl, below2 w _ _⟩
   ·have HB : Hid (Bv = false) := hidOf (by rw [← hB]; simp [h2])
    clear hB
    go_enter Try.func43, Try.ntmps43
    go_wp2
    go_ret
    exact ⟨by rw [HB.out]; rfl, below2 w _ _⟩
  ·have HB : Hid (Bv = false) := hidOf (by rw [← hB]; simp [h1])
   clear hB
   go_enter Try.func43, Try.ntmps43
   go_wp2
   go_ret
   exact ⟨by rw [HB.out]; rfl, below2 w _ _⟩
 ·have HB : Hid (Bv = false) := hidOf (by rw [← hB]; simp [h0])
  clear hB
  go_enter Try.func43, Try.ntmps43
  go_wp2
  go_ret
  exact ⟨by rw [HB.out]; rfl, below2 w _ _⟩
end Go.Proofs.Ytblofbdncolikaa

/- Lists of jobs are compared by the document. -/
namespace Go.Proofs.Ytblofbdncolikaa
open Go.RowKit Go.Shelf
attribute [local go_sem] Oper.semAt_some
set_option maxRecDepth 100000 in
set_option maxHeartbeats 4000000 in
theorem refJobs_any (a b : Option Addr) (ca cb : Nat) (Ls Ms : List Js) (L M : List Jb) (S : Nat → Prop) (w : World) (hS : ∀ b, S b → b < w.heap.size) (hL : JbR w S a Ls L) (hM : JbR w S b Ms M) :
  Calls Try.prog 27 #[.slice a Ls.length ca, .slice b Ms.length cb] w fun e w' => e = .returned (.bool (decide (L = M))) ∧ Below w.heap.size w w' := by
 have hll : Ls.length ≤ 140737488355328 := by have := hL.row.bd; omega
 have hml : Ms.length ≤ 140737488355328 := by have := hM.row.bd; omega
 have HL := hidOf (fun (W : World) (hW : Below w.heap.size w W) => hL.kept (fun b hb => hW.block b (hS b hb)) (fun b (hb : S b) => hb))
 have HM := hidOf (fun (W : World) (hW : Below w.heap.size w W) => hM.kept (fun b hb => hW.block b (hS b hb)) (fun b (hb : S b) => hb))
 have HS := hidOf hS
 have HLN := hidOf hL.len
 have HMN := hidOf hM.len
 clear hL hM hS
 by_cases hlen : Ls.length = Ms.length
 ·have HLE := hidOf hlen
  have HEL : Hid (L.take Ls.length = M.take Ls.length → L = M) := hidOf (fun h => by rw [List.take_of_length_le (by rw [HLN.out]; exact Nat.le_refl _), List.take_of_length_le (by rw [hlen, HMN.out]; exact Nat.le_refl _)] at h; exact h)
  have b2 : ((Ls.length : Int) != (Ms.length : Int)) = false := by simp [hlen]
  clear hlen
  go_enter Try.func27, Try.ntmps27
  go_wp2
  go_loopw [5, 6] (fun i _ wr => ∃ k : Nat, k ≤ Ls.length ∧ i = .int .i64 (k : Int) ∧ Hid (L.take k = M.take k) ∧ Hid (Below w.heap.size w wr)) (fun i _ _ => Ls.length - (intOf i).toNat)
  case atStart => exact ⟨0, Nat.zero_le _, rfl, hidOf rfl, hidOf (Below.refl _ w)⟩
  case round =>
   obtain ⟨k, hk, rfl, HT, HB⟩ := hrel
   by_cases hlt : k < Ls.length
   ·have hlt2 : k < Ms.length := by rw [← HLE.out]; exact hlt
    have hl3 : k < L.length := by rw [← HLN.out]; exact hlt
    have hl4 : k < M.length := by rw [← HMN.out]; exact hlt2
    obtain ⟨p, o, ha, hSp, hcc⟩ := (HL.out wr HB.out).row.at k hlt
    obtain ⟨q, o2, hb, hSq, hcd⟩ := (HM.out wr HB.out).row.at k hlt2
    obtain ⟨ga, gc, hx, hg⟩ := (HL.out wr HB.out).dp k hlt hl3
    obtain ⟨gb, gd, hy, hh⟩ := (HM.out wr HB.out).dp k hlt2 hl4
    rw [hx] at hcc
    rw [hy] at hcd
    clear hx hy
    subst ha
    subst hb
    have h64 : (k : Int) < (Ls.length : Int) := by omega
    have h65 : (k : Int) < (Ms.length : Int) := by omega
    have hpl : p < wr.heap.size := Nat.lt_of_lt_of_le (HS.out p hSp) HB.out.size
    have hql : q < wr.heap.size := Nat.lt_of_lt_of_le (HS.out q hSq) HB.out.size
    have HN : Hid (L[k] = M[k] → L.take (k + 1) = M.take (k + 1)) := hidOf (fun h => by rw [List.take_succ_eq_append_getElem hl3, List.take_succ_eq_append_getElem hl4, HT.out, h])
    have HNE : Hid (L[k] ≠ M[k] → L ≠ M) := hidOf (fun h e => h (by subst e; rfl))
    generalize L[k] = d at *
    generalize M[k] = e at *
    have HSJ := hidOf (fun (W : World) (hW : Below wr.heap.size wr W) => refSameJob_any d e ga gb gc gd S W (fun b hb => Nat.lt_of_lt_of_le (HS.out b hb) (Nat.le_trans HB.out.size hW.size)) (hg.kept (fun b hb => hW.block b (Nat.lt_of_lt_of_le (HS.out b hb) HB.out.size)) (fun b (hb : S b) => hb)) (hh.kept (fun b hb => hW.block b (Nat.lt_of_lt_of_le (HS.out b hb) HB.out.size)) (fun b (hb : S b) => hb)))
    have c0 : wr.cell? ⟨p, o + k * 7, none⟩ = some (.int .i64 d.id) := hcc 0 _ rfl
    have c1 : wr.cell? ⟨p, o + k * 7 + 1, none⟩ = some (.int .i64 d.ty) := hcc 1 _ rfl
    have c2 : wr.cell? ⟨p, o + k * 7 + 2, none⟩ = some (.int .i64 d.pr) := hcc 2 _ rfl
    have c3 : wr.cell? ⟨p, o + k * 7 + 3, none⟩ = some (.int .i64 d.pa) := hcc 3 _ rfl
    have c4 : wr.cell? ⟨p, o + k * 7 + 4, none⟩ = some (.slice ga d.gs.length gc) := hcc 4 _ rfl
    have c5 : wr.cell? ⟨p, o + k * 7 + 5, none⟩ = some (.int .i64 d.ve) := hcc 5 _ rfl
    have c6 : wr.cell? ⟨p, o + k * 7 + 6, none⟩ = some (.bool d.sd) := hcc 6 _ rfl
    have d0 : wr.cell? ⟨q, o2 + k * 7, none⟩ = some (.int .i64 e.id) := hcd 0 _ rfl
    have d1 : wr.cell? ⟨q, o2 + k * 7 + 1, none⟩ = some (.int .i64 e.ty) := hcd 1 _ rfl
    have d2 : wr.cell? ⟨q, o2 + k * 7 + 2, none⟩ = some (.int .i64 e.pr) := hcd 2 _ rfl
    have d3 : wr.cell? ⟨q, o2 + k * 7 + 3, none⟩ = some (.int .i64 e.pa) := hcd 3 _ rfl
    have d4 : wr.cell? ⟨q, o2 + k * 7 + 4, none⟩ = some (.slice gb e.gs.length gd) := hcd 4 _ rfl
    have d5 : wr.cell? ⟨q, o2 + k * 7 + 5, none⟩ = some (.int .i64 e.ve) := hcd 5 _ rfl
    have d6 : wr.cell? ⟨q, o2 + k * 7 + 6, none⟩ = some (.bool e.sd) := hcd 6 _ rfl
    clear hcc hcd hg hh hlt2 hl3 hl4
    by_cases hxy : d = e
    ·have HD := hidOf (decide_eq_true hxy)
     have HXY := hidOf hxy
     clear hxy
     go_upto_region 6 with (fail)
     go_region_held3 (fun wz => (wz.cell? ⟨p, o + k * 7, none⟩ = some (.int .i64 d.id) ∧ wz.cell? ⟨p, o + k * 7 + 1, none⟩ = some (.int .i64 d.ty) ∧ wz.cell? ⟨p, o + k * 7 + 2, none⟩ = some (.int .i64 d.pr) ∧ wz.cell? ⟨p, o + k * 7 + 3, none⟩ = some (.int .i64 d.pa) ∧ wz.cell? ⟨p, o + k * 7 + 4, none⟩ = some (.slice ga d.gs.length gc) ∧ wz.cell? ⟨p, o + k * 7 + 5, none⟩ = some (.int .i64 d.ve) ∧ wz.cell? ⟨p, o + k * 7 + 6, none⟩ = some (.bool d.sd)) ∧ (wz.cell? ⟨q, o2 + k * 7, none⟩ = some (.int .i64 e.id) ∧ wz.cell? ⟨q, o2 + k * 7 + 1, none⟩ = some (.int .i64 e.ty) ∧ wz.cell? ⟨q, o2 + k * 7 + 2, none⟩ = some (.int .i64 e.pr) ∧ wz.cell? ⟨q, o2 + k * 7 + 3, none⟩ = some (.int .i64 e.pa) ∧ wz.cell? ⟨q, o2 + k * 7 + 4, none⟩ = some (.slice gb e.gs.length gd) ∧ wz.cell? ⟨q, o2 + k * 7 + 5, none⟩ = some (.int .i64 e.ve) ∧ wz.cell? ⟨q, o2 + k * 7 + 6, none⟩ = some (.bool e.sd))) (first | go_keep | exact KK.out) (first | (go_at_call 43; refine (HSJ.out _ (bdrewN wr _)).mono ?_; rintro e w1 ⟨rfl, hb0⟩; have hb := (bdrewN wr _).trans hb0; have KK : Hid ((w1.cell? ⟨p, o + k * 7, none⟩ = some (.int .i64 d.id) ∧ w1.cell? ⟨p, o + k * 7 + 1, none⟩ = some (.int .i64 d.ty) ∧ w1.cell? ⟨p, o + k * 7 + 2, none⟩ = some (.int .i64 d.pr) ∧ w1.cell? ⟨p, o + k * 7 + 3, none⟩ = some (.int .i64 d.pa) ∧ w1.cell? ⟨p, o + k * 7 + 4, none⟩ = some (.slice ga d.gs.length gc) ∧ w1.cell? ⟨p, o + k * 7 + 5, none⟩ = some (.int .i64 d.ve) ∧ w1.cell? ⟨p, o + k * 7 + 6, none⟩ = some (.bool d.sd)) ∧ (w1.cell? ⟨q, o2 + k * 7, none⟩ = some (.int .i64 e.id) ∧ w1.cell? ⟨q, o2 + k * 7 + 1, none⟩ = some (.int .i64 e.ty) ∧ w1.cell? ⟨q, o2 + k * 7 + 2, none⟩ = some (.int .i64 e.pr) ∧ w1.cell? ⟨q, o2 + k * 7 + 3, none⟩ = some (.int .i64 e.pa) ∧ w1.cell? ⟨q, o2 + k * 7 + 4, none⟩ = some (.slice gb e.gs.length gd) ∧ w1.cell? ⟨q, o2 + k * 7 + 5, none⟩ = some (.int .i64 e.ve) ∧ w1.cell? ⟨q, o2 + k * 7 + 6, none⟩ = some (.bool e.sd))) := hidOf ⟨⟨(hb_cell hb hpl).trans c0, (hb_cell hb hpl).trans c1, (hb_cell hb hpl).trans c2, (hb_cell hb hpl).trans c3, (hb_cell hb hpl).trans c4, (hb_cell hb hpl).trans c5, (hb_cell hb hpl).trans c6⟩, (hb_cell hb hql).trans d0, (hb_cell hb hql).trans d1, (hb_cell hb hql).trans d2, (hb_cell hb hql).trans d3, (hb_cell hb hql).trans d4, (hb_cell hb hql).trans d5, (hb_cell hb hql).trans d6⟩; have HB2 := hidOf (HB.out.trans (hb.mono HB.out.size)); clear hb hb0; rw [HD.out]))
     go_wp2
     go_roundw
     case rel => exact ⟨k + 1, by omega, by go_num, hidOf (HN.out HXY.out), HB2⟩
     case measure => simp [intOf]; omega
    ·have HD := hidOf (decide_eq_false hxy)
     have HXY := hidOf hxy
     clear hxy
     go_upto_region 6 with (fail)
     go_region_held3 (fun wz => (wz.cell? ⟨p, o + k * 7, none⟩ = some (.int .i64 d.id) ∧ wz.cell? ⟨p, o + k * 7 + 1, none⟩ = some (.int .i64 d.ty) ∧ wz.cell? ⟨p, o + k * 7 + 2, none⟩ = some (.int .i64 d.pr) ∧ wz.cell? ⟨p, o + k * 7 + 3, none⟩ = some (.int .i64 d.pa) ∧ wz.cell? ⟨p, o + k * 7 + 4, none⟩ = some (.slice ga d.gs.length gc) ∧ wz.cell? ⟨p, o + k * 7 + 5, none⟩ = some (.int .i64 d.ve) ∧ wz.cell? ⟨p, o + k * 7 + 6, none⟩ = some (.bool d.sd)) ∧ (wz.cell? ⟨q, o2 + k * 7, none⟩ = some (.int .i64 e.id) ∧ wz.cell? ⟨q, o2 + k * 7 + 1, none⟩ = some (.int .i64 e.ty) ∧ wz.cell? ⟨q, o2 + k * 7 + 2, none⟩ = some (.int .i64 e.pr) ∧ wz.cell? ⟨q, o2 + k * 7 + 3, none⟩ = some (.int .i64 e.pa) ∧ wz.cell? ⟨q, o2 + k * 7 + 4, none⟩ = some (.slice gb e.gs.length gd) ∧ wz.cell? ⟨q, o2 + k * 7 + 5, none⟩ = some (.int .i64 e.ve) ∧ wz.cell? ⟨q, o2 + k * 7 + 6, none⟩ = some (.bool e.sd))) (first | go_keep | exact KK.out) (first | (go_at_call 43; refine (HSJ.out _ (bdrewN wr _)).mono ?_; rintro e w1 ⟨rfl, hb0⟩; have hb := (bdrewN wr _).trans hb0; have KK : Hid ((w1.cell? ⟨p, o + k * 7, none⟩ = some (.int .i64 d.id) ∧ w1.cell? ⟨p, o + k * 7 + 1, none⟩ = some (.int .i64 d.ty) ∧ w1.cell? ⟨p, o + k * 7 + 2, none⟩ = some (.int .i64 d.pr) ∧ w1.cell? ⟨p, o + k * 7 + 3, none⟩ = some (.int .i64 d.pa) ∧ w1.cell? ⟨p, o + k * 7 + 4, none⟩ = some (.slice ga d.gs.length gc) ∧ w1.cell? ⟨p, o + k * 7 + 5, none⟩ = some (.int .i64 d.ve) ∧ w1.cell? ⟨p, o + k * 7 + 6, none⟩ = some (.bool d.sd)) ∧ (w1.cell? ⟨q, o2 + k * 7, none⟩ = some (.int .i64 e.id) ∧ w1.cell? ⟨q, o2 + k * 7 + 1, none⟩ = some (.int .i64 e.ty) ∧ w1.cell? ⟨q, o2 + k * 7 + 2, none⟩ = some (.int .i64 e.pr) ∧ w1.cell? ⟨q, o2 + k * 7 + 3, none⟩ = some (.int .i64 e.pa) ∧ w1.cell? ⟨q, o2 + k * 7 + 4, none⟩ = some (.slice gb e.gs.length gd) ∧ w1.cell? ⟨q, o2 + k * 7 + 5, none⟩ = some (.int .i64 e.ve) ∧ w1.cell? ⟨q, o2 + k * 7 + 6, none⟩ = some (.bool e.sd))) := hidOf ⟨⟨(hb_cell hb hpl).trans c0, (hb_cell hb hpl).trans c1, (hb_cell hb hpl).trans c2, (hb_cell hb hpl).trans c3, (hb_cell hb hpl).trans c4, (hb_cell hb hpl).trans c5, (hb_cell hb hpl).trans c6⟩, (hb_cell hb hql).trans d0, (hb_cell hb hql).trans d1, (hb_cell hb hql).trans d2, (hb_cell hb hql).trans d3, (hb_cell hb hql).trans d4, (hb_cell hb hql).trans d5, (hb_cell hb hql).trans d6⟩; have HB2 := hidOf (HB.out.trans (hb.mono HB.out.size)); clear hb hb0; rw [HD.out]))
     go_wp2
     go_ret
     exact ⟨by rw [decide_eq_false (HNE.out HXY.out)]; rfl, HB2.out⟩
   ·have hke : k = Ls.length := by omega
    subst hke
    go_wp2
    go_ret
    exact ⟨by rw [decide_eq_true (HEL.out HT.out)]; rfl, HB.out⟩
 ·have hne : L ≠ M := fun e => hlen (by rw [HLN.out, HMN.out, e])
  have b2 : ((Ls.length : Int) != (Ms.length : Int)) = true := by simp; omega
  go_enter Try.func27, Try.ntmps27
  go_wp2
  go_ret
  exact ⟨by rw [decide_eq_false hne]; rfl, Below.refl _ w⟩
end Go.Proofs.Ytblofbdncolikaa

/- Two answers are compared by the document. -/
namespace Go.Proofs.Ytblofbdncolikaa
open Go.RowKit Go.Shelf
attribute [local go_sem] Oper.semAt_some
set_option maxRecDepth 100000 in
set_option maxHeartbeats 4000000 in
theorem refResults_any (co va co' va' : Int) (al al' : List Al) (ga gb : Option Addr) (gc gd : Nat) (S : Nat → Prop) (w : World) (hS : ∀ b, S b → b < w.heap.size) (hG : Fl w S 11 88 Al.cs ga al) (hH : Fl w S 11 88 Al.cs gb al') :
  Calls Try.prog 28 #[.agg #[.int .i64 co, .int .i64 va, .slice ga al.length gc], .agg #[.int .i64 co', .int .i64 va', .slice gb al'.length gd]] w fun r w' => r = .returned (.bool (decide (al = al' ∧ co = co' ∧ va = va'))) ∧ Below w.heap.size w w' := by
 have HE := hidOf (fun (W : World) (hW : Below w.heap.size w W) => eq62_any ga gb gc gd al al' S W (hG.kept (fun b hb => hW.block b (hS b hb)) (fun _ h => h)) (hH.kept (fun b hb => hW.block b (hS b hb)) (fun _ h => h)))
 clear hG hH hS
 generalize hB : decide (al = al' ∧ co = co' ∧ va = va') = Bv
 by_cases hg : al = al'
 ·have HD := hidOf (decide_eq_true hg)
  by_cases h1 : co = co'
  ·subst h1
   by_cases h2 : va = va'
   ·subst h2
    have HB : Hid (Bv = true) := hidOf (by rw [← hB]; simp [hg])
    clear hB hg
    go_enter Try.func28, Try.ntmps28
    go_wp2_with (go_at_call 14; refine (HE.out _ (below2 w _ _)).mono ?_; rintro e w1 ⟨rfl, hb⟩; obtain ⟨hp, hq, hbw, hz⟩ := two_boxes (cs := [.int .i64 co, .int .i64 va, .slice ga al.length gc]) (ds := [.int .i64 co, .int .i64 va, .slice gb al'.length gd]) hb; have HBW := hidOf hbw; have p0 : w1.cell? ⟨w.heap.size, 0, none⟩ = some (.int .i64 co) := hp 0 _ rfl; have q0 : w1.cell? ⟨w.heap.size + 1, 0, none⟩ = some (.int .i64 co) := hq 0 _ rfl; have p1 : w1.cell? ⟨w.heap.size, 1, none⟩ = some (.int .i64 va) := hp 1 _ rfl; have q1 : w1.cell? ⟨w.heap.size + 1, 1, none⟩ = some (.int .i64 va) := hq 1 _ rfl; clear hb hbw hp hq; rw [HD.out])
    go_ret
    exact ⟨by rw [HB.out]; rfl, HBW.out⟩
   ·have HB : Hid (Bv = false) := hidOf (by rw [← hB]; simp [h2])
    have b2 : (va == va') = false := by simp [h2]
    clear hB hg
    go_enter Try.func28, Try.ntmps28
    go_wp2_with (go_at_call 14; refine (HE.out _ (below2 w _ _)).mono ?_; rintro e w1 ⟨rfl, hb⟩; obtain ⟨hp, hq, hbw, hz⟩ := two_boxes (cs := [.int .i64 co, .int .i64 va, .slice ga al.length gc]) (ds := [.int .i64 co, .int .i64 va', .slice gb al'.length gd]) hb; have HBW := hidOf hbw; have p0 : w1.cell? ⟨w.heap.size, 0, none⟩ = some (.int .i64 co) := hp 0 _ rfl; have q0 : w1.cell? ⟨w.heap.size + 1, 0, none⟩ = some (.int .i64 co) := hq 0 _ rfl; have p1 : w1.cell? ⟨w.heap.size, 1, none⟩ = some (.int .i64 va) := hp 1 _ rfl; have q1 : w1.cell? ⟨w.heap.size + 1, 1, none⟩ = some (.int .i64 va') := hq 1 _ rfl; clear hb hbw hp hq; rw [HD.out])
    go_ret
    exact ⟨by rw [HB.out]; rfl, HBW.out⟩
  ·have HB : Hid (Bv = false) := hidOf (by rw [← hB]; simp [h1])
   have b1 : (co == co') = false := by simp [h1]
   clear hB hg
   go_enter Try.func28, Try.ntmps28
   go_wp2_with (go_at_call 14; refine (HE.out _ (below2 w _ _)).mono ?_; rintro e w1 ⟨rfl, hb⟩; obtain ⟨hp, hq, hbw, hz⟩ := two_boxes (cs := [.int .i64 co, .int .i64 va, .slice ga al.length gc]) (ds := [.int .i64 co', .int .i64 va', .slice gb al'.length gd]) hb; have HBW := hidOf hbw; have p0 : w1.cell? ⟨w.heap.size, 0, none⟩ = some (.int .i64 co) := hp 0 _ rfl; have q0 : w1.cell? ⟨w.heap.size + 1, 0, none⟩ = some (.int .i64 co') := hq 0 _ rfl; have p1 : w1.cell? ⟨w.heap.size, 1, none⟩ = some (.int .i64 va) := hp 1 _ rfl; have q1 : w1.cell? ⟨w.heap.size + 1, 1, none⟩ = some (.int .i64 va') := hq 1 _ rfl; clear hb hbw hp hq; rw [HD.out])
   go_ret
   exact ⟨by rw [HB.out]; rfl, HBW.out⟩
 ·have HD := hidOf (decide_eq_false hg)
  have HB : Hid (Bv = false) := hidOf (by rw [← hB]; simp [hg])
  clear hB hg
  go_enter Try.func28, Try.ntmps28
  go_wp2_with (go_at_call 14; refine (HE.out _ (below2 w _ _)).mono ?_; rintro e w1 ⟨rfl, hb⟩; obtain ⟨hp, hq, hbw, hz⟩ := two_boxes (cs := [.int .i64 co, .int .i64 va, .slice ga al.length gc]) (ds := [.int .i64 co', .int .i64 va', .slice gb al'.length gd]) hb; have HBW := hidOf hbw; have p0 : w1.cell? ⟨w.heap.size, 0, none⟩ = some (.int .i64 co) := hp 0 _ rfl; have q0 : w1.cell? ⟨w.heap.size + 1, 0, none⟩ = some (.int .i64 co') := hq 0 _ rfl; have p1 : w1.cell? ⟨w.heap.size, 1, none⟩ = some (.int .i64 va) := hp 1 _ rfl; have q1 : w1.cell? ⟨w.heap.size + 1, 1, none⟩ = some (.int .i64 va') := hq 1 _ rfl; clear hb hbw hp hq; rw [HD.out])
  go_ret
  exact ⟨by rw [HB.out]; rfl, HBW.out⟩
end Go.Proofs.Ytblofbdncolikaa
