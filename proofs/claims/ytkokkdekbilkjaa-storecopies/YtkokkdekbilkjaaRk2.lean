/- Lists of jobs are compared by the document. -/
import Derived.Test.YtkokkdekbilkjaaRj
import Derived.Deep.RegionHeld3
import Derived.Deep.Cut
namespace Go.Proofs.Ytkokkdekbilkjaa
open Go.RowKit Go.Shelf
attribute [local go_sem] Oper.semAt_some
set_option maxRecDepth 100000 in
set_option maxHeartbeats 4000000 in
theorem refJobs_any (a b : Option Addr) (ca cb : Nat) (Ls Ms : List Js) (L M : List Jb) (S : Nat → Prop) (w : World) (hS : ∀ b, S b → b < w.heap.size) (hL : JbR w S a Ls L) (hM : JbR w S b Ms M) :
    Calls Try.prog 61 #[.slice a Ls.length ca, .slice b Ms.length cb] w fun e w' => e = .returned (.bool (decide (L = M))) ∧ Below w.heap.size w w' := by
  have hll : Ls.length ≤ 140737488355328 := by have := hL.row.bd; omega
  have hml : Ms.length ≤ 140737488355328 := by have := hM.row.bd; omega
  have HL := hidOf (fun (W : World) (hW : Below w.heap.size w W) => hL.kept (fun b hb => hW.block b (hS b hb)) (fun b (hb : S b) => hb))
  have HM := hidOf (fun (W : World) (hW : Below w.heap.size w W) => hM.kept (fun b hb => hW.block b (hS b hb)) (fun b (hb : S b) => hb))
  have HS := hidOf hS
  have HLN := hidOf hL.len
  have HMN := hidOf hM.len
  clear hL hM hS
  by_cases hlen : Ls.length = Ms.length
  · have HLE := hidOf hlen
    have HEL : Hid (L.take Ls.length = M.take Ls.length → L = M) := hidOf (fun h => by rw [List.take_of_length_le (by rw [HLN.out]; exact Nat.le_refl _), List.take_of_length_le (by rw [hlen, HMN.out]; exact Nat.le_refl _)] at h; exact h)
    have b2 : ((Ls.length : Int) != (Ms.length : Int)) = false := by simp [hlen]
    clear hlen
    go_enter Try.func61, Try.ntmps61
    go_wp2
    go_loopw [5, 6] (fun i _ wr => ∃ k : Nat, k ≤ Ls.length ∧ i = .int .i64 (k : Int) ∧ Hid (L.take k = M.take k) ∧ Hid (Below w.heap.size w wr)) (fun i _ _ => Ls.length - (intOf i).toNat)
    case atStart => exact ⟨0, Nat.zero_le _, rfl, hidOf rfl, hidOf (Below.refl _ w)⟩
    case round =>
      obtain ⟨k, hk, rfl, HT, HB⟩ := hrel
      by_cases hlt : k < Ls.length
      · have hlt2 : k < Ms.length := by rw [← HLE.out]; exact hlt
        have hl3 : k < L.length := by rw [← HLN.out]; exact hlt
        have hl4 : k < M.length := by rw [← HMN.out]; exact hlt2
        obtain ⟨p, o, ha, hSp, hcc⟩ := (HL.out wr HB.out).row.at k hlt
        obtain ⟨q, o2, hb, hSq, hcd⟩ := (HM.out wr HB.out).row.at k hlt2
        obtain ⟨ga, gc, hx, hg⟩ := (HL.out wr HB.out).dp k hlt hl3
        obtain ⟨gb, gd, hy, hh⟩ := (HM.out wr HB.out).dp k hlt2 hl4
        rw [hx] at hcc
        rw [hy] at hcd
        clear hx hy
        subst ha
        subst hb
        have h64 : (k : Int) < (Ls.length : Int) := by omega
        have h65 : (k : Int) < (Ms.length : Int) := by omega
        have hpl : p < wr.heap.size := Nat.lt_of_lt_of_le (HS.out p hSp) HB.out.size
        have hql : q < wr.heap.size := Nat.lt_of_lt_of_le (HS.out q hSq) HB.out.size
        have HN : Hid (L[k] = M[k] → L.take (k + 1) = M.take (k + 1)) := hidOf (fun h => by rw [List.take_succ_eq_append_getElem hl3, List.take_succ_eq_append_getElem hl4, HT.out, h])
        have HNE : Hid (L[k] ≠ M[k] → L ≠ M) := hidOf (fun h e => h (by subst e; rfl))
        generalize L[k] = d at *
        generalize M[k] = e at *
        have HSJ := hidOf (fun (W : World) (hW : Below wr.heap.size wr W) => refSameJob_any d e ga gb gc gd S W (fun b hb => Nat.lt_of_lt_of_le (HS.out b hb) (Nat.le_trans HB.out.size hW.size)) (hg.kept (fun b hb => hW.block b (Nat.lt_of_lt_of_le (HS.out b hb) HB.out.size)) (fun b (hb : S b) => hb)) (hh.kept (fun b hb => hW.block b (Nat.lt_of_lt_of_le (HS.out b hb) HB.out.size)) (fun b (hb : S b) => hb)))
        have c0 : wr.cell? ⟨p, o + k * 7, none⟩ = some (.int .i64 d.id) := hcc 0 _ rfl
        have c1 : wr.cell? ⟨p, o + k * 7 + 1, none⟩ = some (.int .i64 d.ty) := hcc 1 _ rfl
        have c2 : wr.cell? ⟨p, o + k * 7 + 2, none⟩ = some (.int .i64 d.pr) := hcc 2 _ rfl
        have c3 : wr.cell? ⟨p, o + k * 7 + 3, none⟩ = some (.int .i64 d.pa) := hcc 3 _ rfl
        have c4 : wr.cell? ⟨p, o + k * 7 + 4, none⟩ = some (.slice ga d.gs.length gc) := hcc 4 _ rfl
        have c5 : wr.cell? ⟨p, o + k * 7 + 5, none⟩ = some (.int .i64 d.ve) := hcc 5 _ rfl
        have c6 : wr.cell? ⟨p, o + k * 7 + 6, none⟩ = some (.bool d.sd) := hcc 6 _ rfl
        have d0 : wr.cell? ⟨q, o2 + k * 7, none⟩ = some (.int .i64 e.id) := hcd 0 _ rfl
        have d1 : wr.cell? ⟨q, o2 + k * 7 + 1, none⟩ = some (.int .i64 e.ty) := hcd 1 _ rfl
        have d2 : wr.cell? ⟨q, o2 + k * 7 + 2, none⟩ = some (.int .i64 e.pr) := hcd 2 _ rfl
        have d3 : wr.cell? ⟨q, o2 + k * 7 + 3, none⟩ = some (.int .i64 e.pa) := hcd 3 _ rfl
        have d4 : wr.cell? ⟨q, o2 + k * 7 + 4, none⟩ = some (.slice gb e.gs.length gd) := hcd 4 _ rfl
        have d5 : wr.cell? ⟨q, o2 + k * 7 + 5, none⟩ = some (.int .i64 e.ve) := hcd 5 _ rfl
        have d6 : wr.cell? ⟨q, o2 + k * 7 + 6, none⟩ = some (.bool e.sd) := hcd 6 _ rfl
        clear hcc hcd hg hh hlt2 hl3 hl4
        by_cases hxy : d = e
        · have HD := hidOf (decide_eq_true hxy)
          have HXY := hidOf hxy
          clear hxy
          go_upto_region 6 with (fail)
          go_region_held3 (fun wz => (wz.cell? ⟨p, o + k * 7, none⟩ = some (.int .i64 d.id) ∧ wz.cell? ⟨p, o + k * 7 + 1, none⟩ = some (.int .i64 d.ty) ∧ wz.cell? ⟨p, o + k * 7 + 2, none⟩ = some (.int .i64 d.pr) ∧ wz.cell? ⟨p, o + k * 7 + 3, none⟩ = some (.int .i64 d.pa) ∧ wz.cell? ⟨p, o + k * 7 + 4, none⟩ = some (.slice ga d.gs.length gc) ∧ wz.cell? ⟨p, o + k * 7 + 5, none⟩ = some (.int .i64 d.ve) ∧ wz.cell? ⟨p, o + k * 7 + 6, none⟩ = some (.bool d.sd)) ∧ (wz.cell? ⟨q, o2 + k * 7, none⟩ = some (.int .i64 e.id) ∧ wz.cell? ⟨q, o2 + k * 7 + 1, none⟩ = some (.int .i64 e.ty) ∧ wz.cell? ⟨q, o2 + k * 7 + 2, none⟩ = some (.int .i64 e.pr) ∧ wz.cell? ⟨q, o2 + k * 7 + 3, none⟩ = some (.int .i64 e.pa) ∧ wz.cell? ⟨q, o2 + k * 7 + 4, none⟩ = some (.slice gb e.gs.length gd) ∧ wz.cell? ⟨q, o2 + k * 7 + 5, none⟩ = some (.int .i64 e.ve) ∧ wz.cell? ⟨q, o2 + k * 7 + 6, none⟩ = some (.bool e.sd))) (first | go_keep | exact KK.out) (first | (go_at_call 82; refine (HSJ.out _ (bdrewN wr _)).mono ?_; rintro e w1 ⟨rfl, hb0⟩; have hb := (bdrewN wr _).trans hb0; have KK : Hid ((w1.cell? ⟨p, o + k * 7, none⟩ = some (.int .i64 d.id) ∧ w1.cell? ⟨p, o + k * 7 + 1, none⟩ = some (.int .i64 d.ty) ∧ w1.cell? ⟨p, o + k * 7 + 2, none⟩ = some (.int .i64 d.pr) ∧ w1.cell? ⟨p, o + k * 7 + 3, none⟩ = some (.int .i64 d.pa) ∧ w1.cell? ⟨p, o + k * 7 + 4, none⟩ = some (.slice ga d.gs.length gc) ∧ w1.cell? ⟨p, o + k * 7 + 5, none⟩ = some (.int .i64 d.ve) ∧ w1.cell? ⟨p, o + k * 7 + 6, none⟩ = some (.bool d.sd)) ∧ (w1.cell? ⟨q, o2 + k * 7, none⟩ = some (.int .i64 e.id) ∧ w1.cell? ⟨q, o2 + k * 7 + 1, none⟩ = some (.int .i64 e.ty) ∧ w1.cell? ⟨q, o2 + k * 7 + 2, none⟩ = some (.int .i64 e.pr) ∧ w1.cell? ⟨q, o2 + k * 7 + 3, none⟩ = some (.int .i64 e.pa) ∧ w1.cell? ⟨q, o2 + k * 7 + 4, none⟩ = some (.slice gb e.gs.length gd) ∧ w1.cell? ⟨q, o2 + k * 7 + 5, none⟩ = some (.int .i64 e.ve) ∧ w1.cell? ⟨q, o2 + k * 7 + 6, none⟩ = some (.bool e.sd))) := hidOf ⟨⟨(hb_cell hb hpl).trans c0, (hb_cell hb hpl).trans c1, (hb_cell hb hpl).trans c2, (hb_cell hb hpl).trans c3, (hb_cell hb hpl).trans c4, (hb_cell hb hpl).trans c5, (hb_cell hb hpl).trans c6⟩, (hb_cell hb hql).trans d0, (hb_cell hb hql).trans d1, (hb_cell hb hql).trans d2, (hb_cell hb hql).trans d3, (hb_cell hb hql).trans d4, (hb_cell hb hql).trans d5, (hb_cell hb hql).trans d6⟩; have HB2 := hidOf (HB.out.trans (hb.mono HB.out.size)); clear hb hb0; rw [HD.out]))
          go_wp2
          go_roundw
          case rel => exact ⟨k + 1, by omega, by go_num, hidOf (HN.out HXY.out), HB2⟩
          case measure => simp [intOf]; omega
        · have HD := hidOf (decide_eq_false hxy)
          have HXY := hidOf hxy
          clear hxy
          go_upto_region 6 with (fail)
          go_region_held3 (fun wz => (wz.cell? ⟨p, o + k * 7, none⟩ = some (.int .i64 d.id) ∧ wz.cell? ⟨p, o + k * 7 + 1, none⟩ = some (.int .i64 d.ty) ∧ wz.cell? ⟨p, o + k * 7 + 2, none⟩ = some (.int .i64 d.pr) ∧ wz.cell? ⟨p, o + k * 7 + 3, none⟩ = some (.int .i64 d.pa) ∧ wz.cell? ⟨p, o + k * 7 + 4, none⟩ = some (.slice ga d.gs.length gc) ∧ wz.cell? ⟨p, o + k * 7 + 5, none⟩ = some (.int .i64 d.ve) ∧ wz.cell? ⟨p, o + k * 7 + 6, none⟩ = some (.bool d.sd)) ∧ (wz.cell? ⟨q, o2 + k * 7, none⟩ = some (.int .i64 e.id) ∧ wz.cell? ⟨q, o2 + k * 7 + 1, none⟩ = some (.int .i64 e.ty) ∧ wz.cell? ⟨q, o2 + k * 7 + 2, none⟩ = some (.int .i64 e.pr) ∧ wz.cell? ⟨q, o2 + k * 7 + 3, none⟩ = some (.int .i64 e.pa) ∧ wz.cell? ⟨q, o2 + k * 7 + 4, none⟩ = some (.slice gb e.gs.length gd) ∧ wz.cell? ⟨q, o2 + k * 7 + 5, none⟩ = some (.int .i64 e.ve) ∧ wz.cell? ⟨q, o2 + k * 7 + 6, none⟩ = some (.bool e.sd))) (first | go_keep | exact KK.out) (first | (go_at_call 82; refine (HSJ.out _ (bdrewN wr _)).mono ?_; rintro e w1 ⟨rfl, hb0⟩; have hb := (bdrewN wr _).trans hb0; have KK : Hid ((w1.cell? ⟨p, o + k * 7, none⟩ = some (.int .i64 d.id) ∧ w1.cell? ⟨p, o + k * 7 + 1, none⟩ = some (.int .i64 d.ty) ∧ w1.cell? ⟨p, o + k * 7 + 2, none⟩ = some (.int .i64 d.pr) ∧ w1.cell? ⟨p, o + k * 7 + 3, none⟩ = some (.int .i64 d.pa) ∧ w1.cell? ⟨p, o + k * 7 + 4, none⟩ = some (.slice ga d.gs.length gc) ∧ w1.cell? ⟨p, o + k * 7 + 5, none⟩ = some (.int .i64 d.ve) ∧ w1.cell? ⟨p, o + k * 7 + 6, none⟩ = some (.bool d.sd)) ∧ (w1.cell? ⟨q, o2 + k * 7, none⟩ = some (.int .i64 e.id) ∧ w1.cell? ⟨q, o2 + k * 7 + 1, none⟩ = some (.int .i64 e.ty) ∧ w1.cell? ⟨q, o2 + k * 7 + 2, none⟩ = some (.int .i64 e.pr) ∧ w1.cell? ⟨q, o2 + k * 7 + 3, none⟩ = some (.int .i64 e.pa) ∧ w1.cell? ⟨q, o2 + k * 7 + 4, none⟩ = some (.slice gb e.gs.length gd) ∧ w1.cell? ⟨q, o2 + k * 7 + 5, none⟩ = some (.int .i64 e.ve) ∧ w1.cell? ⟨q, o2 + k * 7 + 6, none⟩ = some (.bool e.sd))) := hidOf ⟨⟨(hb_cell hb hpl).trans c0, (hb_cell hb hpl).trans c1, (hb_cell hb hpl).trans c2, (hb_cell hb hpl).trans c3, (hb_cell hb hpl).trans c4, (hb_cell hb hpl).trans c5, (hb_cell hb hpl).trans c6⟩, (hb_cell hb hql).trans d0, (hb_cell hb hql).trans d1, (hb_cell hb hql).trans d2, (hb_cell hb hql).trans d3, (hb_cell hb hql).trans d4, (hb_cell hb hql).trans d5, (hb_cell hb hql).trans d6⟩; have HB2 := hidOf (HB.out.trans (hb.mono HB.out.size)); clear hb hb0; rw [HD.out]))
          go_wp2
          go_ret
          exact ⟨by rw [decide_eq_false (HNE.out HXY.out)]; rfl, HB2.out⟩
      · have hke : k = Ls.length := by omega
        subst hke
        go_wp2
        go_ret
        exact ⟨by rw [decide_eq_true (HEL.out HT.out)]; rfl, HB.out⟩
  · have hne : L ≠ M := fun e => hlen (by rw [HLN.out, HMN.out, e])
    have b2 : ((Ls.length : Int) != (Ms.length : Int)) = true := by simp; omega
    go_enter Try.func61, Try.ntmps61
    go_wp2
    go_ret
    exact ⟨by rw [decide_eq_false hne]; rfl, Below.refl _ w⟩
end Go.Proofs.Ytkokkdekbilkjaa
