/- Lists of jobs, of seen are compared. -/
import Derived.Test.YtkokkdekbilkjaaSj
namespace Go.Proofs.Ytkokkdekbilkjaa
open Go.RowKit Go.Shelf
attribute [local go_sem] Oper.semAt_some
set_option maxRecDepth 100000 in
set_option maxHeartbeats 4000000 in
theorem eq53_any (a b : Option Addr) (ca cb : Nat) (Ls Ms : List Js) (L M : List Jb) (S : Nat → Prop) (w : World) (hS : ∀ b, S b → b < w.heap.size) (hL : JbR w S a Ls L) (hM : JbR w S b Ms M) :
    Calls Try.prog 53 #[.slice a Ls.length ca, .slice b Ms.length cb, .func (.func 54) #[] #[]] w fun e w' => e = .returned (.bool (decide (L = M))) ∧ Below w.heap.size w w' := by
  have hll : Ls.length ≤ 140737488355328 := by have := hL.row.bd; omega
  have hml : Ms.length ≤ 140737488355328 := by have := hM.row.bd; omega
  have HL := hidOf (fun (W : World) (hW : Below w.heap.size w W) => hL.kept (fun b hb => hW.block b (hS b hb)) (fun b (hb : S b) => hb))
  have HM := hidOf (fun (W : World) (hW : Below w.heap.size w W) => hM.kept (fun b hb => hW.block b (hS b hb)) (fun b (hb : S b) => hb))
  have HS := hidOf hS
  have HLN := hidOf hL.len
  have HMN := hidOf hM.len
  clear hL hM hS
  by_cases hlen : Ls.length = Ms.length
  · have HLE := hidOf hlen
    have HEL : Hid (L.take Ls.length = M.take Ls.length → L = M) := hidOf (fun h => by rw [List.take_of_length_le (by rw [HLN.out]; exact Nat.le_refl _), List.take_of_length_le (by rw [hlen, HMN.out]; exact Nat.le_refl _)] at h; exact h)
    have b1 : ((Ls.length : Int) == (Ms.length : Int)) = true := by simp [hlen]
    have b2 : ((Ls.length : Int) != (Ms.length : Int)) = false := by simp [hlen]
    clear hlen
    go_enter Try.func53, Try.ntmps53
    go_wp2
    go_loopw [17] (fun i wr => ∃ k : Nat, k ≤ Ls.length ∧ i = .int .i64 (k : Int) ∧ Hid (L.take k = M.take k) ∧ Hid (Below w.heap.size w wr)) (fun i _ => Ls.length - (intOf i).toNat)
    case atStart => exact ⟨0, Nat.zero_le _, rfl, hidOf rfl, hidOf (Below.refl _ w)⟩
    case round =>
      obtain ⟨k, hk, rfl, HT, HB⟩ := hrel
      by_cases hlt : k < Ls.length
      · have hlt2 : k < Ms.length := by rw [← HLE.out]; exact hlt
        have hl3 : k < L.length := by rw [← HLN.out]; exact hlt
        have hl4 : k < M.length := by rw [← HMN.out]; exact hlt2
        obtain ⟨p, o, ha, hSp, hcc⟩ := (HL.out wr HB.out).row.at k hlt
        obtain ⟨q, o2, hb, hSq, hcd⟩ := (HM.out wr HB.out).row.at k hlt2
        obtain ⟨ga, gc, hx, hg⟩ := (HL.out wr HB.out).dp k hlt hl3
        obtain ⟨gb, gd, hy, hh⟩ := (HM.out wr HB.out).dp k hlt2 hl4
        rw [hx] at hcc
        rw [hy] at hcd
        clear hx hy
        subst ha
        subst hb
        have h64 : (k : Int) < (Ls.length : Int) := by omega
        have h65 : (k : Int) < (Ms.length : Int) := by omega
        have hpl : p < wr.heap.size := Nat.lt_of_lt_of_le (HS.out p hSp) HB.out.size
        have hql : q < wr.heap.size := Nat.lt_of_lt_of_le (HS.out q hSq) HB.out.size
        have HN : Hid (L[k] = M[k] → L.take (k + 1) = M.take (k + 1)) := hidOf (fun h => by rw [List.take_succ_eq_append_getElem hl3, List.take_succ_eq_append_getElem hl4, HT.out, h])
        have HNE : Hid (L[k] ≠ M[k] → L ≠ M) := hidOf (fun h e => h (by subst e; rfl))
        generalize L[k] = d at *
        generalize M[k] = e at *
        have HSJ := hidOf (fun (W : World) (hW : Below wr.heap.size wr W) => sameJob_any d e ga gb gc gd S W (fun b hb => Nat.lt_of_lt_of_le (HS.out b hb) (Nat.le_trans HB.out.size hW.size)) (hg.kept (fun b hb => hW.block b (Nat.lt_of_lt_of_le (HS.out b hb) HB.out.size)) (fun b (hb : S b) => hb)) (hh.kept (fun b hb => hW.block b (Nat.lt_of_lt_of_le (HS.out b hb) HB.out.size)) (fun b (hb : S b) => hb)))
        have c0 : wr.cell? ⟨p, o + k * 7, none⟩ = some (.int .i64 d.id) := hcc 0 _ rfl
        have c1 : wr.cell? ⟨p, o + k * 7 + 1, none⟩ = some (.int .i64 d.ty) := hcc 1 _ rfl
        have c2 : wr.cell? ⟨p, o + k * 7 + 2, none⟩ = some (.int .i64 d.pr) := hcc 2 _ rfl
        have c3 : wr.cell? ⟨p, o + k * 7 + 3, none⟩ = some (.int .i64 d.pa) := hcc 3 _ rfl
        have c4 : wr.cell? ⟨p, o + k * 7 + 4, none⟩ = some (.slice ga d.gs.length gc) := hcc 4 _ rfl
        have c5 : wr.cell? ⟨p, o + k * 7 + 5, none⟩ = some (.int .i64 d.ve) := hcc 5 _ rfl
        have c6 : wr.cell? ⟨p, o + k * 7 + 6, none⟩ = some (.bool d.sd) := hcc 6 _ rfl
        have d0 : wr.cell? ⟨q, o2 + k * 7, none⟩ = some (.int .i64 e.id) := hcd 0 _ rfl
        have d1 : wr.cell? ⟨q, o2 + k * 7 + 1, none⟩ = some (.int .i64 e.ty) := hcd 1 _ rfl
        have d2 : wr.cell? ⟨q, o2 + k * 7 + 2, none⟩ = some (.int .i64 e.pr) := hcd 2 _ rfl
        have d3 : wr.cell? ⟨q, o2 + k * 7 + 3, none⟩ = some (.int .i64 e.pa) := hcd 3 _ rfl
        have d4 : wr.cell? ⟨q, o2 + k * 7 + 4, none⟩ = some (.slice gb e.gs.length gd) := hcd 4 _ rfl
        have d5 : wr.cell? ⟨q, o2 + k * 7 + 5, none⟩ = some (.int .i64 e.ve) := hcd 5 _ rfl
        have d6 : wr.cell? ⟨q, o2 + k * 7 + 6, none⟩ = some (.bool e.sd) := hcd 6 _ rfl
        clear hcc hcd hg hh hlt2 hl3 hl4
        by_cases hxy : d = e
        · have HD := hidOf (decide_eq_true hxy)
          have HXY := hidOf hxy
          clear hxy
          go_wp2_with (go_at_call 54; refine (HSJ.out _ (below2 wr _ _)).mono ?_; rintro e w1 ⟨rfl, hb⟩; have HB2 := hidOf (HB.out.trans (((below2 wr (.cells #[.int .i64 d.id, .int .i64 d.ty, .int .i64 d.pr, .int .i64 d.pa, .slice ga d.gs.length gc, .int .i64 d.ve, .bool d.sd] 55) (.cells #[.int .i64 e.id, .int .i64 e.ty, .int .i64 e.pr, .int .i64 e.pa, .slice gb e.gs.length gd, .int .i64 e.ve, .bool e.sd] 55)).trans (hb.mono (by simp <;> omega))).mono HB.out.size)); clear hb; rw [HD.out])
          go_roundw
          case rel => exact ⟨k + 1, by omega, by go_num, hidOf (HN.out HXY.out), HB2⟩
          case measure => simp [intOf]; omega
        · have HD := hidOf (decide_eq_false hxy)
          have HXY := hidOf hxy
          clear hxy
          go_wp2_with (go_at_call 54; refine (HSJ.out _ (below2 wr _ _)).mono ?_; rintro e w1 ⟨rfl, hb⟩; have HB2 := hidOf (HB.out.trans (((below2 wr (.cells #[.int .i64 d.id, .int .i64 d.ty, .int .i64 d.pr, .int .i64 d.pa, .slice ga d.gs.length gc, .int .i64 d.ve, .bool d.sd] 55) (.cells #[.int .i64 e.id, .int .i64 e.ty, .int .i64 e.pr, .int .i64 e.pa, .slice gb e.gs.length gd, .int .i64 e.ve, .bool e.sd] 55)).trans (hb.mono (by simp <;> omega))).mono HB.out.size)); clear hb; rw [HD.out])
          go_ret
          exact ⟨by rw [decide_eq_false (HNE.out HXY.out)]; rfl, HB2.out⟩
      · have hke : k = Ls.length := by omega
        subst hke
        go_wp2
        go_ret
        exact ⟨by rw [decide_eq_true (HEL.out HT.out)]; rfl, HB.out⟩
  · have hne : L ≠ M := fun e => hlen (by rw [HLN.out, HMN.out, e])
    have b1 : ((Ls.length : Int) == (Ms.length : Int)) = false := by simp; omega
    have b2 : ((Ls.length : Int) != (Ms.length : Int)) = true := by simp; omega
    go_enter Try.func53, Try.ntmps53
    go_wp2
    go_ret
    exact ⟨by rw [decide_eq_false hne]; rfl, Below.refl _ w⟩

set_option maxRecDepth 100000 in
set_option maxHeartbeats 4000000 in
theorem eq59_any (a b : Option Addr) (ca cb : Nat) (Ls Ms : List Ss) (L M : List Sn) (S : Nat → Prop) (w : World) (hS : ∀ b, S b → b < w.heap.size) (hL : SnR w S a Ls L) (hM : SnR w S b Ms M) :
    Calls Try.prog 59 #[.slice a Ls.length ca, .slice b Ms.length cb, .func (.func 60) #[] #[]] w fun e w' => e = .returned (.bool (decide (L = M))) ∧ Below w.heap.size w w' := by
  have hll : Ls.length ≤ 140737488355328 := by have := hL.row.bd; omega
  have hml : Ms.length ≤ 140737488355328 := by have := hM.row.bd; omega
  have HL := hidOf (fun (W : World) (hW : Below w.heap.size w W) => hL.kept (fun b hb => hW.block b (hS b hb)) (fun b (hb : S b) => hb))
  have HM := hidOf (fun (W : World) (hW : Below w.heap.size w W) => hM.kept (fun b hb => hW.block b (hS b hb)) (fun b (hb : S b) => hb))
  have HS := hidOf hS
  have HLN := hidOf hL.len
  have HMN := hidOf hM.len
  clear hL hM hS
  by_cases hlen : Ls.length = Ms.length
  · have HLE := hidOf hlen
    have HEL : Hid (L.take Ls.length = M.take Ls.length → L = M) := hidOf (fun h => by rw [List.take_of_length_le (by rw [HLN.out]; exact Nat.le_refl _), List.take_of_length_le (by rw [hlen, HMN.out]; exact Nat.le_refl _)] at h; exact h)
    have b1 : ((Ls.length : Int) == (Ms.length : Int)) = true := by simp [hlen]
    have b2 : ((Ls.length : Int) != (Ms.length : Int)) = false := by simp [hlen]
    clear hlen
    go_enter Try.func59, Try.ntmps59
    go_wp2
    go_loopw [17] (fun i wr => ∃ k : Nat, k ≤ Ls.length ∧ i = .int .i64 (k : Int) ∧ Hid (L.take k = M.take k) ∧ Hid (Below w.heap.size w wr)) (fun i _ => Ls.length - (intOf i).toNat)
    case atStart => exact ⟨0, Nat.zero_le _, rfl, hidOf rfl, hidOf (Below.refl _ w)⟩
    case round =>
      obtain ⟨k, hk, rfl, HT, HB⟩ := hrel
      by_cases hlt : k < Ls.length
      · have hlt2 : k < Ms.length := by rw [← HLE.out]; exact hlt
        have hl3 : k < L.length := by rw [← HLN.out]; exact hlt
        have hl4 : k < M.length := by rw [← HMN.out]; exact hlt2
        obtain ⟨p, o, ha, hSp, hcc⟩ := (HL.out wr HB.out).row.at k hlt
        obtain ⟨q, o2, hb, hSq, hcd⟩ := (HM.out wr HB.out).row.at k hlt2
        obtain ⟨ga, gc, hx, hg⟩ := (HL.out wr HB.out).dp k hlt hl3
        obtain ⟨gb, gd, hy, hh⟩ := (HM.out wr HB.out).dp k hlt2 hl4
        rw [hx] at hcc
        rw [hy] at hcd
        clear hx hy
        subst ha
        subst hb
        have h64 : (k : Int) < (Ls.length : Int) := by omega
        have h65 : (k : Int) < (Ms.length : Int) := by omega
        have hpl : p < wr.heap.size := Nat.lt_of_lt_of_le (HS.out p hSp) HB.out.size
        have hql : q < wr.heap.size := Nat.lt_of_lt_of_le (HS.out q hSq) HB.out.size
        have HN : Hid (L[k] = M[k] → L.take (k + 1) = M.take (k + 1)) := hidOf (fun h => by rw [List.take_succ_eq_append_getElem hl3, List.take_succ_eq_append_getElem hl4, HT.out, h])
        have HNE : Hid (L[k] ≠ M[k] → L ≠ M) := hidOf (fun h e => h (by subst e; rfl))
        generalize L[k] = d at *
        generalize M[k] = e at *
        have HSJ := hidOf (fun (W : World) (hW : Below wr.heap.size wr W) => sameSeen_any d e ga gb gc gd S W (fun b hb => Nat.lt_of_lt_of_le (HS.out b hb) (Nat.le_trans HB.out.size hW.size)) (hg.kept (fun b hb => hW.block b (Nat.lt_of_lt_of_le (HS.out b hb) HB.out.size)) (fun b (hb : S b) => hb)) (hh.kept (fun b hb => hW.block b (Nat.lt_of_lt_of_le (HS.out b hb) HB.out.size)) (fun b (hb : S b) => hb)))
        have c0 : wr.cell? ⟨p, o + k * 5, none⟩ = some (.int .i64 d.cl) := hcc 0 _ rfl
        have c1 : wr.cell? ⟨p, o + k * 5 + 1, none⟩ = some (.int .i64 d.rq) := hcc 1 _ rfl
        have c2 : wr.cell? ⟨p, o + k * 5 + 2, none⟩ = some (.int .i64 d.co) := hcc 2 _ rfl
        have c3 : wr.cell? ⟨p, o + k * 5 + 3, none⟩ = some (.int .i64 d.va) := hcc 3 _ rfl
        have c4 : wr.cell? ⟨p, o + k * 5 + 4, none⟩ = some (.slice ga d.al.length gc) := hcc 4 _ rfl
        have d0 : wr.cell? ⟨q, o2 + k * 5, none⟩ = some (.int .i64 e.cl) := hcd 0 _ rfl
        have d1 : wr.cell? ⟨q, o2 + k * 5 + 1, none⟩ = some (.int .i64 e.rq) := hcd 1 _ rfl
        have d2 : wr.cell? ⟨q, o2 + k * 5 + 2, none⟩ = some (.int .i64 e.co) := hcd 2 _ rfl
        have d3 : wr.cell? ⟨q, o2 + k * 5 + 3, none⟩ = some (.int .i64 e.va) := hcd 3 _ rfl
        have d4 : wr.cell? ⟨q, o2 + k * 5 + 4, none⟩ = some (.slice gb e.al.length gd) := hcd 4 _ rfl
        clear hcc hcd hg hh hlt2 hl3 hl4
        by_cases hxy : d = e
        · have HD := hidOf (decide_eq_true hxy)
          have HXY := hidOf hxy
          clear hxy
          go_wp2_with (go_at_call 60; refine (HSJ.out _ (below2 wr _ _)).mono ?_; rintro e w1 ⟨rfl, hb⟩; have HB2 := hidOf (HB.out.trans (((below2 wr (.cells #[.int .i64 d.cl, .int .i64 d.rq, .int .i64 d.co, .int .i64 d.va, .slice ga d.al.length gc] 52) (.cells #[.int .i64 e.cl, .int .i64 e.rq, .int .i64 e.co, .int .i64 e.va, .slice gb e.al.length gd] 52)).trans (hb.mono (by simp <;> omega))).mono HB.out.size)); clear hb; rw [HD.out])
          go_roundw
          case rel => exact ⟨k + 1, by omega, by go_num, hidOf (HN.out HXY.out), HB2⟩
          case measure => simp [intOf]; omega
        · have HD := hidOf (decide_eq_false hxy)
          have HXY := hidOf hxy
          clear hxy
          go_wp2_with (go_at_call 60; refine (HSJ.out _ (below2 wr _ _)).mono ?_; rintro e w1 ⟨rfl, hb⟩; have HB2 := hidOf (HB.out.trans (((below2 wr (.cells #[.int .i64 d.cl, .int .i64 d.rq, .int .i64 d.co, .int .i64 d.va, .slice ga d.al.length gc] 52) (.cells #[.int .i64 e.cl, .int .i64 e.rq, .int .i64 e.co, .int .i64 e.va, .slice gb e.al.length gd] 52)).trans (hb.mono (by simp <;> omega))).mono HB.out.size)); clear hb; rw [HD.out])
          go_ret
          exact ⟨by rw [decide_eq_false (HNE.out HXY.out)]; rfl, HB2.out⟩
      · have hke : k = Ls.length := by omega
        subst hke
        go_wp2
        go_ret
        exact ⟨by rw [decide_eq_true (HEL.out HT.out)]; rfl, HB.out⟩
  · have hne : L ≠ M := fun e => hlen (by rw [HLN.out, HMN.out, e])
    have b1 : ((Ls.length : Int) == (Ms.length : Int)) = false := by simp; omega
    have b2 : ((Ls.length : Int) != (Ms.length : Int)) = true := by simp; omega
    go_enter Try.func59, Try.ntmps59
    go_wp2
    go_ret
    exact ⟨by rw [decide_eq_false hne]; rfl, Below.refl _ w⟩
end Go.Proofs.Ytkokkdekbilkjaa
