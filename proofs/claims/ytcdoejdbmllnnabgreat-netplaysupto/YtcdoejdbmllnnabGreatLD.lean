/- Several texts in one (wip/gen/merge.py). -/
import Derived.Test.YtcdoejdbmllnnabGreatJC
import Derived.Test.YtcdoejdbmllnnabGreatNA
import Derived.Test.YtcdoejdbmllnnabGreatSums
import Derived.BigRegion
/- The law's 'same', of two messages of one value; and when a net is as it was. -/
namespace Go.Proofs.YtcdoejdbmllnnabGreat
open Go.RowKit

set_option maxHeartbeats 800000 in
set_option maxRecDepth 100000 in
theorem same_ok (ca cb : List Value) (v : Vl F_msg) (w : World) (ha : Rep w (fun b => b < w.heap.size) F_msg ca v) (hb : Rep w (fun b => b < w.heap.size) F_msg cb v) (hv : (en F_msg v).2 = false) :
    Calls Tryz.prog 12 #[.agg ca.toArray, .agg cb.toArray] w fun e w' => e = .returned (.bool true) ∧ Below w.heap.size w w' := by
  have HSA : Hid ((Tryz.prog.info? 50).map (·.size) = some ca.toArray.size) := by show _ = _; rw [List.size_toArray, ha.len]; exact box_msg
  have HSB : Hid ((Tryz.prog.info? 50).map (·.size) = some cb.toArray.size) := by show _ = _; rw [List.size_toArray, hb.len]; exact box_msg
  have hB0 : Below w.heap.size w ((w.alloc (.cells ca.toArray 50)).alloc (.cells cb.toArray 50)) := ((Below.refl _ _).alloc (Nat.le_refl _) _).alloc (by rw [World.size_alloc]; omega) _
  have GA : Hid (((w.alloc (.cells ca.toArray 50)).alloc (.cells cb.toArray 50)).heap[w.heap.size]? = some (.cells ca.toArray 50 (0, 0))) := by
    show _ = _
    rw [Below.heap_alloc _ _ _ (by rw [World.size_alloc]; omega)]; exact heap_alloc_new w _
  have GB : Hid (((w.alloc (.cells ca.toArray 50)).alloc (.cells cb.toArray 50)).heap[w.heap.size + 1]? = some (.cells cb.toArray 50 (0, 0))) := by
    show _ = _
    have := heap_alloc_new (w.alloc (.cells ca.toArray 50)) (.cells cb.toArray 50)
    rwa [World.size_alloc] at this
  have HA : Hid (Rep ((w.alloc (.cells ca.toArray 50)).alloc (.cells cb.toArray 50)) (fun b => b < ((w.alloc (.cells ca.toArray 50)).alloc (.cells cb.toArray 50)).heap.size) F_msg ca v) := ha.kept hB0.size (fun b x => hB0.block b x) (fun b x => Nat.lt_of_lt_of_le x hB0.size)
  have HB := hidOf hb
  have HB0 := hidOf hB0
  have HV := hidOf hv
  have HZ := hidOf (szb_msg_leI v hv)
  clear ha hb hB0 hv
  go_enter Tryz.func12, Tryz.ntmps12
  go_wp2_with (refine wpList_load_row rfl 50 (.tmp 2) rfl w.heap.size rfl 50 ca.toArray (0, 0) _ GA.out Tryz.underlying50 rfl HSA.out ?_)
  refine (putMsg_o ca v _ HZ.out HA.out).mono ?_
  rintro e w1 ⟨x1, rfl, o1, _, b1⟩
  have hB1 : Below w.heap.size w w1 := HB0.out.trans (b1.mono HB0.out.size)
  have HB1 := hidOf hB1
  have HRB : Hid (Rep w1 (fun b => b < w1.heap.size) F_msg cb v) := HB.out.kept hB1.size (fun b x => hB1.block b x) (fun b x => Nat.lt_of_lt_of_le x hB1.size)
  have GB1 : Hid (w1.heap[w.heap.size + 1]? = some (.cells cb.toArray 50 (0, 0))) := (b1.block _ (by rw [World.size_alloc, World.size_alloc]; omega)).trans GB.out
  have O1 := hidOf o1
  clear b1 hB1 o1
  go_wp2_with (refine wpList_load_row rfl 50 (.tmp 3) rfl (w.heap.size + 1) rfl 50 cb.toArray (0, 0) _ GB1.out Tryz.underlying50 rfl HSB.out ?_)
  refine (putMsg_o cb v _ HZ.out HRB.out).mono ?_
  rintro e w2 ⟨x2, rfl, o2, _, b2⟩
  have HB2 := hidOf (HB1.out.trans (b2.mono HB1.out.size))
  have hl : (bytesB (en F_msg v)).length ≤ 211106232532992 := by
    have h1 := Nat.le_trans (en_len F_msg v) mxl_msg
    unfold bytesB
    rw [HV.out]
    exact h1
  obtain ⟨a1, c1, e1, hb1⟩ := (O1.out.below b2).form
  obtain ⟨a2, c2, e2, hb2⟩ := o2.form
  subst e1 e2
  have HS1 := hidOf (hb1 hl)
  have HS2 := hidOf (hb2 hl)
  obtain ⟨n, hn⟩ : ∃ n, Hid ((bytesB (en F_msg v)).length = n) := ⟨_, hidOf rfl⟩
  rw [hn.out]
  obtain ⟨cd, hcd⟩ : ∃ cd, codeB (en F_msg v).2 = cd := ⟨_, rfl⟩
  rw [hcd]
  clear hb1 hb2 o2 b2 hl hcd O1
  go_wp2_with fail
  refine (same_any a1 a2 n n c1 c2 _ _ w2 hn.out.symm hn.out.symm HS1.out HS2.out).mono ?_
  rintro e w3 ⟨rfl, nq, hw3⟩
  have HB3 := hidOf (HB2.out.trans (by rw [hw3]; exact ⟨rfl, rfl, rfl, Nat.le_refl _, fun _ _ => rfl⟩ : Below w.heap.size w2 w3))
  clear hw3
  rw [show decide (bytesB (en F_msg v) = bytesB (en F_msg v)) = true from by simp]
  go_wp2
  go_ret
  exact ⟨rfl, HB3.out⟩

/- a net is as it was, if nothing was written that it holds -/
theorem NetR.keptB {B : Nat → Prop} {w w' : World} {p most : Nat} {L : List (List UInt8)} {r : Option Nat} (h : NetR B w p most L r) (hb : ∀ k, k < w.heap.size → (k = p ∨ r = some k ∨ B k) → w'.heap[k]? = w.heap[k]?) (hs : w.heap.size ≤ w'.heap.size) : NetR B w' p most L r := by
  obtain ⟨h1, h2, v, ps, h3, h4, h5, h6, h7, h8⟩ := h
  refine ⟨h1, h2, v, ps, (hb p (Array.getElem?_eq_some_iff.1 h3).1 (.inl rfl)).trans h3, h4, ⟨h5.1, ?_⟩, h6, h7, fun i a b => ?_⟩
  · rcases h5.2 with e | ⟨g, cap, cur, e1, e2, e3, e4⟩
    · exact .inl e
    · exact .inr ⟨g, cap, cur, e1, e2, (hb g (Array.getElem?_eq_some_iff.1 e3).1 (.inr (.inl (by rw [← h4, e1]; rfl)))).trans e3, e4⟩
  · obtain ⟨a1, a2, a3, a4⟩ := h8 i a b
    refine ⟨a1, a2, ⟨a3.1, fun hne => ?_⟩, fun y hy => ⟨(a4 y hy).1, (a4 y hy).2.1, Nat.lt_of_lt_of_le (a4 y hy).2.2.1 hs, (a4 y hy).2.2.2.to (hb _ (a4 y hy).2.2.1 (.inr (.inr (a4 y hy).2.2.2.2)))⟩⟩
    obtain ⟨b', off, e, hlt, hc⟩ := a3.2 hne
    exact ⟨b', off, e, Nat.lt_of_lt_of_le hlt hs, fun j hj => (World.cell?_of_block (a := ⟨b', off + j, none⟩) (hb b' hlt (.inr (.inr (a4 _ e).2.2.2.2)))).trans (hc j hj)⟩
/- its packets lie in blocks that are there -/
theorem NetR.cap {B : Nat → Prop} {w : World} {p most : Nat} {L : List (List UInt8)} {r : Option Nat} (h : NetR B w p most L r) : NetR (fun b => B b ∧ b < w.heap.size) w p most L r := by
  obtain ⟨h1, h2, v, ps, h3, h4, h5, h6, h7, h8⟩ := h
  refine ⟨h1, h2, v, ps, h3, h4, h5, h6, h7, fun i a b => ?_⟩
  obtain ⟨a1, a2, a3, a4⟩ := h8 i a b
  exact ⟨a1, a2, a3, fun y hy => ⟨(a4 y hy).1, (a4 y hy).2.1, (a4 y hy).2.2.1, (a4 y hy).2.2.2.1, (a4 y hy).2.2.2.2, (a4 y hy).2.2.1⟩⟩

end Go.Proofs.YtcdoejdbmllnnabGreat

/- What 'over' writes: only what a message points to. -/
namespace Go.Proofs.YtcdoejdbmllnnabGreat
open Go.RowKit

/- cells were written over in blocks from D on and below H -/
structure Ovr (D H : Nat) (w w' : World) : Prop where
  os : w'.os = w.os
  tape : w'.tape = w.tape
  output : w'.output = w.output
  size : w'.heap.size = w.heap.size
  block : ∀ k, k < D ∨ H ≤ k → w'.heap[k]? = w.heap[k]?
  cell : ∀ a, (w.cell? a).isSome = true → (w'.cell? a).isSome = true
  frozen : ∀ a, w'.frozen? a = w.frozen? a
theorem Ovr.refl (D H : Nat) (w : World) : Ovr D H w w := ⟨rfl, rfl, rfl, rfl, fun _ _ => rfl, fun _ h => h, fun _ => rfl⟩
theorem Ovr.set {D H : Nat} {w w' : World} (h : Ovr D H w w') (b o : Nat) (v u : Value) (hb : D ≤ b) (hq : b < H) (hc : w'.cell? ⟨b, o, none⟩ = some u) : Ovr D H w (w'.setCell ⟨b, o, none⟩ v) := by
  refine ⟨h.os, h.tape, h.output, by simpa using h.size, fun k hk => (Below.heap_setCell w' ⟨b, o, none⟩ v k (by show k ≠ b; omega)).trans (h.block k hk), fun a ha => ?_, fun a => by rw [World.frozen?_setCell]; exact h.frozen a⟩
  by_cases e : a = ⟨b, o, none⟩
  · subst e; rw [World.cell?_setCell_same w' _ _ hc]; rfl
  · rw [World.cell?_setCell_other w' _ _ _ (Ne.symm e)]; exact h.cell a ha
theorem Ovr.drew {D H : Nat} {w w' : World} (h : Ovr D H w w') : Ovr D H w w'.drew := ⟨h.os, h.tape, h.output, h.size, h.block, h.cell, h.frozen⟩
theorem Uf.frozen {w : World} {b : Nat} (h : Uf w b) (o : Nat) : w.frozen? ⟨b, o, none⟩ = false := by
  obtain ⟨cs, e, hc⟩ := h
  simp [World.frozen?, hc]
/- only blocks from D on and below H were written; there may be new ones -/
structure Ovw (D H : Nat) (w w' : World) : Prop where
  os : w'.os = w.os
  tape : w'.tape = w.tape
  output : w'.output = w.output
  size : w.heap.size ≤ w'.heap.size
  block : ∀ k, k < w.heap.size → k < D ∨ H ≤ k → w'.heap[k]? = w.heap[k]?
abbrev IN (D H : Nat) (w : World) (b : Nat) : Prop := D ≤ b ∧ b < H ∧ Uf w b
theorem IN.at_ {D H : Nat} {w : World} {f : Fm} {a : Option Addr} {vs : List (Vl f)} (h : RepL w (IN D H w) f a vs) (k : Nat) (hk : k < vs.length) (hp : 0 < wd f) : ∃ b off, a = some ⟨b, off, none⟩ ∧ D ≤ b ∧ b < H ∧ (w.cell? ⟨b, off + k * wd f, none⟩).isSome = true ∧ w.frozen? ⟨b, off + k * wd f, none⟩ = false := by
  obtain ⟨b, off, e, hb, hc⟩ := h.2 (by intro e; rw [e] at hk; simp at hk)
  obtain ⟨es, hre, hrg⟩ := hc k hk
  have hl : 0 < es.length := by rw [hre.len]; exact hp
  have := hrg 0 es[0] (List.getElem?_eq_getElem hl)
  rw [Nat.add_zero] at this
  exact ⟨b, off, e, hb.1, hb.2.1, by rw [this]; rfl, hb.2.2.frozen _⟩

set_option maxHeartbeats 4000000 in
set_option maxRecDepth 100000 in
theorem over_i (cs : List Value) (v : Vl F_msg) (w : World) (D H : Nat) (hH : H ≤ w.heap.size) (hr : Rep w (IN D H w) F_msg cs v) : Calls Tryz.prog 20 #[.agg cs.toArray] w fun e w' => e = .returned (.tuple #[]) ∧ Ovw D H w w' := by
  have hcs : cs.length = 46 := by rw [hr.len]; kernel_rfl
  have HALL := hidI hr.all
  have bu : Below w.heap.size w (w.alloc (.cells cs.toArray 50)) := (Below.refl _ _).alloc (Nat.le_refl _) _
  have gu : (w.alloc (.cells cs.toArray 50)).heap[w.heap.size]? = some (.cells cs.toArray 50 (0, 0)) := heap_alloc_new w _
  have hru : Rep (w.alloc (.cells cs.toArray 50)) (IN D H (w.alloc (.cells cs.toArray 50))) F_msg cs v := hr.kept bu.size (fun b x => bu.block b (by have := x.2.1; omega)) (fun b x => ⟨x.1, x.2.1, x.2.2.to (bu.block b (by have := x.2.1; omega))⟩)
  obtain ⟨u, hu⟩ : ∃ u, Hid (w.alloc (.cells cs.toArray 50) = u) := ⟨_, hidI rfl⟩
  rw [hu.out] at hru gu bu
  obtain ⟨x0, x1, x2, x3, x4, x5, x6, x7, x8, x9, x10, x11, a12, c12, v12, y13_0, y13_1, v13, a14, c14, v14, y15_0, y15_1, y15_2, y15_3, y15_4, y15_5, y15_6, y15_7, y15_8, y15_9, y15_10, y15_11, y15_12, y15_13, y15_14, y15_15, y15_16, y15_17, y15_18, y15_19, y15_20, y15_21, y15_22, y15_23, y15_24, y15_25, y15_26, v15, y16_0, y16_1, y16_2, v16, hcse, hve, h12, h13, h14, h15, h16⟩ := open_msg hru
  obtain ⟨a0, c0, v0, a1, c1, v1, hy13, hv13, hf0, hf1⟩ := open_conf h13
  obtain ⟨r0, r1, ra, rc, rv, hry, hrv, hrl⟩ := open_result h16
  have BOX : Hid (u.cell? ⟨w.heap.size, 12, none⟩ = some (.slice a12 v12.length c12) ∧ u.cell? ⟨w.heap.size, 13, none⟩ = some (.slice a0 v0.length c0) ∧ u.cell? ⟨w.heap.size, 15, none⟩ = some (.slice a14 v14.length c14) ∧ u.cell? ⟨w.heap.size, 45, none⟩ = some (.slice ra rv.length rc)) := by
    simp only [List.cons.injEq, and_true] at hy13 hry
    refine ⟨?_, ?_, ?_, ?_⟩
    · rw [cell_of_row u _ _ _ 50 (0, 0) gu, hcse]; rfl
    · rw [cell_of_row u _ _ _ 50 (0, 0) gu, hcse]; show some y13_0 = _; rw [hy13.1]
    · rw [cell_of_row u _ _ _ 50 (0, 0) gu, hcse]; rfl
    · rw [cell_of_row u _ _ _ 50 (0, 0) gu, hcse]; show some y16_2 = _; rw [hry.2.2]
  have DAT := hidI h14.2
  have ENT := hidI h12
  have VOT := hidI hf0
  have ALL := hidI hrl
  have hl14 := h14.2.1.1
  have hl12 := h12.1
  have hl0 := hf0.1
  have hlr := hrl.1
  have HBU := hidI bu
  clear hr hru gu bu h12 h13 h14 h15 h16 hf0 hf1 hrl hrv hry hy13 hv13 hcse hve
  go_enter Tryz.func20, Tryz.ntmps20
  go_wp2
  rw [hu.out]
  go_loopw [2] (fun i wr => ∃ k : Nat, k ≤ v14.length ∧ i = .int .i64 k ∧ Ovr D H u wr ∧ Hid (∀ b off, a14 = some ⟨b, off, none⟩ → ∀ j, k ≤ j → j < v14.length → wr.cell? ⟨b, off + j, none⟩ = u.cell? ⟨b, off + j, none⟩)) (fun i _ => v14.length - (intOf i).toNat)
  case atStart => exact ⟨0, Nat.zero_le _, rfl, Ovr.refl _ _ _, fun _ _ _ _ _ _ => rfl⟩
  case round =>
    obtain ⟨k, hk, rfl, hov, hsame⟩ := hrel
    have hbx : wr.cell? ⟨w.heap.size, 15, none⟩ = some (.slice a14 v14.length c14) := (World.cell?_of_block (a := ⟨w.heap.size, 15, none⟩) (hov.block _ (.inr hH))).trans BOX.out.2.2.1
    by_cases hlt : k < v14.length
    · obtain ⟨b, off, e, _, hc⟩ := DAT.out.1.2 (by intro e; rw [e] at hlt; simp at hlt)
      have hnb := DAT.out.2 (by intro e; rw [e] at hlt; simp at hlt) _ e
      subst e
      have hD : D ≤ b := hnb.1
      have hq : b < H := hnb.2.1
      have hck := (hsame.out b off rfl k (Nat.le_refl _) hlt).trans (hc k hlt)
      have b0 := bat_lo v14 k
      have b1 := bat_hi v14 k
      have hfr : wr.frozen? ⟨b, off + k, none⟩ = false := (hov.frozen _).trans (hnb.2.2.frozen _)
      obtain ⟨bk, hbk⟩ : ∃ bk, bat v14 k = bk := ⟨_, rfl⟩
      rw [hbk] at hck b0 b1
      have HOV := hidI hov
      have HSM := hidI hsame.out
      have HCK := hidI hck
      clear hov hsame hc hnb hbk
      go_wp2
      go_region
      go_wp2
      refine ⟨⟨k + 1, by omega, by go_num, (HOV.out.set b _ _ _ hD hq HCK.out).drew, fun b' off' e j hj1 hj2 => ?_⟩, by simp [intOf]; omega⟩
      cases e
      have := HSM.out b off rfl j (by omega) hj2
      rw [World.cell?_drew, World.cell?_setCell_other _ _ _ _ (by simp <;> omega)]
      exact this
    · have HOV := hidI hov
      clear hov
      go_wp2
      go_loopw [3] (fun i wr => ∃ k : Nat, k ≤ v12.length ∧ i = .int .i64 k ∧ Ovr D H u wr) (fun i _ => v12.length - (intOf i).toNat)
      case atStart => exact ⟨0, Nat.zero_le _, rfl, HOV.out⟩
      case round =>
        obtain ⟨k, hk, rfl, hov⟩ := hrel
        have hbx : wr.cell? ⟨w.heap.size, 12, none⟩ = some (.slice a12 v12.length c12) := (World.cell?_of_block (a := ⟨w.heap.size, 12, none⟩) (hov.block _ (.inr hH))).trans BOX.out.1
        by_cases hlt : k < v12.length
        · obtain ⟨b, off, rfl, hD, hq, hcs0, hfz⟩ := IN.at_ ENT.out k hlt (by decide)
          rw [show wd F_entry = 29 from by kernel_rfl] at hcs0 hfz
          have hsm := hov.cell ⟨b, off + k * 29, none⟩ hcs0
          obtain ⟨old, hold⟩ := Option.isSome_iff_exists.1 hsm
          have hfr : wr.frozen? ⟨b, off + k * 29, none⟩ = false := (hov.frozen _).trans hfz
          have HOV2 := hidI (hov.set b _ (.int .i64 (-1)) old hD hq hold)
          clear hov hcs0 hfz hsm
          go_wp2
          exact ⟨⟨k + 1, by omega, by go_num, HOV2.out⟩, by simp [intOf]; omega⟩
        · have HOV := hidI hov
          clear hov
          go_wp2
          go_loopw [4] (fun i wr => ∃ k : Nat, k ≤ v0.length ∧ i = .int .i64 k ∧ Ovr D H u wr) (fun i _ => v0.length - (intOf i).toNat)
          case atStart => exact ⟨0, Nat.zero_le _, rfl, HOV.out⟩
          case round =>
            obtain ⟨k, hk, rfl, hov⟩ := hrel
            have hbx : wr.cell? ⟨w.heap.size, 13, none⟩ = some (.slice a0 v0.length c0) := (World.cell?_of_block (a := ⟨w.heap.size, 13, none⟩) (hov.block _ (.inr hH))).trans BOX.out.2.1
            by_cases hlt : k < v0.length
            · obtain ⟨b, off, rfl, hD, hq, hcs0, hfz⟩ := IN.at_ VOT.out k hlt (by decide)
              rw [show wd Fm.num = 1 from by kernel_rfl, Nat.mul_one] at hcs0 hfz
              have hsm := hov.cell ⟨b, off + k, none⟩ hcs0
              obtain ⟨old, hold⟩ := Option.isSome_iff_exists.1 hsm
              have hfr : wr.frozen? ⟨b, off + k, none⟩ = false := (hov.frozen _).trans hfz
              have HOV2 := hidI (hov.set b _ (.int .i64 (-1)) old hD hq hold)
              clear hov hcs0 hfz hsm
              go_wp2
              exact ⟨⟨k + 1, by omega, by go_num, HOV2.out⟩, by simp [intOf]; omega⟩
            · have HOV := hidI hov
              clear hov
              go_wp2
              go_loopw [5] (fun i wr => ∃ k : Nat, k ≤ rv.length ∧ i = .int .i64 k ∧ Ovr D H u wr) (fun i _ => rv.length - (intOf i).toNat)
              case atStart => exact ⟨0, Nat.zero_le _, rfl, HOV.out⟩
              case round =>
                obtain ⟨k, hk, rfl, hov⟩ := hrel
                have hbx : wr.cell? ⟨w.heap.size, 45, none⟩ = some (.slice ra rv.length rc) := (World.cell?_of_block (a := ⟨w.heap.size, 45, none⟩) (hov.block _ (.inr hH))).trans BOX.out.2.2.2
                by_cases hlt : k < rv.length
                · obtain ⟨b, off, rfl, hD, hq, hcs0, hfz⟩ := IN.at_ ALL.out k hlt (by decide)
                  rw [show wd F_alloc = 11 from by kernel_rfl] at hcs0 hfz
                  have hsm := hov.cell ⟨b, off + k * 11, none⟩ hcs0
                  obtain ⟨old, hold⟩ := Option.isSome_iff_exists.1 hsm
                  have hfr : wr.frozen? ⟨b, off + k * 11, none⟩ = false := (hov.frozen _).trans hfz
                  have HOV2 := hidI (hov.set b _ (.int .i64 (-1)) old hD hq hold)
                  clear hov hcs0 hfz hsm
                  go_wp2
                  exact ⟨⟨k + 1, by omega, by go_num, HOV2.out⟩, by simp [intOf]; omega⟩
                · have HOV := hidI hov
                  clear hov
                  go_wp2
                  go_end0
                  exact ⟨rfl, HOV.out.os.trans HBU.out.os, HOV.out.tape.trans HBU.out.tape, HOV.out.output.trans HBU.out.output, by rw [HOV.out.size]; exact HBU.out.size, fun k hk hd => (HOV.out.block k hd).trans (HBU.out.block k hk)⟩

end Go.Proofs.YtcdoejdbmllnnabGreat

/- The walk of NetOwn: whatever message, it returns true and changes nothing that was there. -/
namespace Go.Proofs.YtcdoejdbmllnnabGreat
open Go.RowKit

theorem netR_any {lo lo' : Nat → Prop} {w : World} {p most : Nat} {r : Option Nat} (h : NetR lo w p most [] r) : NetR lo' w p most [] r := by
  obtain ⟨h1, h2, v, ps, h3, h4, h5, h6, h7, h8⟩ := h
  exact ⟨h1, h2, v, ps, h3, h4, h5, h6, h7, fun i a b => by simp at b⟩
theorem wpList_load_midG {ops : Array Oper} {rest : List Oper} {op : Oper} {a : Act} {w : World} {Q : Exit → Act → World → Prop} (hw : Region.wanted op (yielded ops a.tmps) = true) (ty : TypeId) (x : Operand) (ho : op.op = .load ty x)
    (b o : Nat) (hx : a.eval x = .pointer (some ⟨b, o, none⟩)) (cs : List Value) (d : TypeDesc) (hc : w.rangeAt b o cs) (hu : Tryz.prog.underlying ty = some d) (hd : d.isRow = true) (hi : (Tryz.prog.info? ty).map (·.size) = some cs.length)
    (h : wpList Tryz.prog ops Q rest (a.put op.dst (.agg cs.toArray)) w) : wpList Tryz.prog ops Q (op :: rest) a w :=
  wpList_step fun K hK => by rw [if_pos hw]; exact wp_load_mid ty x ho b o hx cs d hc hu hd hi (hK _ _ h)
theorem range_all {w : World} {b : Nat} {cs : List Value} {t : TypeId} (h : w.heap[b]? = some (.cells cs.toArray t (0, 0))) : w.rangeAt b 0 cs := fun j v hv => by
  rw [cell_of_row w b _ _ t (0, 0) h, Nat.zero_add, List.getElem?_toArray]; exact hv
theorem rep_up {W w : World} {cs : List Value} {v : Vl F_msg} (h : Rep W (fun b => b < W.heap.size) F_msg cs v) (hb : Below W.heap.size W w) : Rep w (fun b => b < w.heap.size) F_msg cs v := h.kept hb.size (fun b x => hb.block b x) (fun _ x => Nat.lt_of_lt_of_le x hb.size)

set_option maxHeartbeats 4000000 in
set_option maxRecDepth 100000 in
theorem lawOwnT (W : World) (cm : List Value) (vm : Vl F_msg) (hr : Rep W (fun b => b < W.heap.size) F_msg cm vm) (hz : szb F_msg vm ≤ 137438953472) (HF : Hid ((en F_msg vm).2 = true)) :
    Calls Tryz.prog 4 #[.agg cm.toArray] W fun e w' => e = .returned (.bool true) ∧ Below W.heap.size W w' := by
  have HCM : Hid ((Tryz.prog.info? 50).map (·.size) = some cm.toArray.size) := by show _ = _; rw [List.size_toArray, hr.len]; exact box_msg
  obtain ⟨u0, hu0⟩ : ∃ u0, Hid (W.alloc (.cells cm.toArray 50) = u0) := ⟨_, hidI rfl⟩
  have hB0 : Below W.heap.size W u0 := by rw [← hu0.out]; exact (Below.refl _ _).alloc (Nat.le_refl _) _
  have g0 : u0.heap[W.heap.size]? = some (.cells cm.toArray 50 (0, 0)) := by rw [← hu0.out]; exact heap_alloc_new W _
  have z0 : W.heap.size < u0.heap.size := (Array.getElem?_eq_some_iff.1 g0).1
  have hB1 : Below u0.heap.size u0 (u0.alloc (.cells #[.int .i64 3, .slice none 0 0] 69)) := (Below.refl _ _).alloc (Nat.le_refl _) _
  have HN1 := hidI (netR_new (lo := fun _ => True) u0 3 (by omega))
  have HB0 := hidI hB0
  have HB1 := hidI hB1
  have G0 := hidI g0
  have Z0 := hidI z0
  have HR := hidI hr
  have HZ := hidI hz
  clear hB0 g0 z0 hB1 hr hz
  go_enter Tryz.func4, Tryz.ntmps4
  go_wp2_with fail
  rw [hu0.out]
  refine (new_ok 3 u0 (by omega) (by omega)).mono ?_
  rintro e w1 ⟨rfl, rfl⟩
  go_wp2_with fail
  refine (known_any _).mono ?_
  rintro e w2 ⟨rfl, hb2⟩
  have B2 := hidI (HB1.out.trans (hb2.mono HB1.out.size))
  have HN2 := hidI (HN1.out.grow hb2)
  have BW2 := hidI (HB0.out.trans (B2.out.mono HB0.out.size))
  have G2 := hidI ((B2.out.block _ Z0.out).trans G0.out)
  have HR2 := hidI (rep_up HR.out BW2.out)
  clear hb2
  go_wp2_with (refine wpList_load_row rfl 50 (.tmp 1) rfl W.heap.size rfl 50 cm.toArray (0, 0) _ G2.out Tryz.underlying50 rfl HCM.out ?_)
  refine (putMsg_o cm vm _ HZ.out HR2.out).mono ?_
  rintro e w3 ⟨val, rfl, o3, n3, b3⟩
  rw [show codeB (en F_msg vm).2 = 1 by rw [HF.out]; rfl]
  have hby : bytesB (en F_msg vm) = [] := by unfold bytesB; rw [HF.out]; rfl
  rw [hby] at o3
  obtain ⟨aX, cX, rfl, hbs3⟩ := o3.form
  have HBS3 := hidI (hbs3 (by simp))
  have HLT3 : Hid (∀ y, aX = some y → y.block < w3.heap.size) := fun y hy => o3.lt _ (by rw [hy]; rfl)
  have BW3 := hidI (BW2.out.trans (b3.mono BW2.out.size))
  have HN3 := hidI (HN2.out.grow b3)
  have G3 := hidI ((b3.block _ (Array.getElem?_eq_some_iff.1 G2.out).1).trans G2.out)
  clear o3 n3 b3 hbs3 hby
  go_wp2_with fail
  refine (getm_o aX 0 cX [] w3 rfl (Nat.zero_le _) HBS3.out HLT3.out).mono ?_
  rintro e w4 ⟨cl, vv, he, hrep, _, b4⟩
  obtain ⟨okb, hokb⟩ : ∃ okb, decide ((de F_msg (some [])).2 = some []) = okb := ⟨_, rfl⟩
  rw [hokb] at he
  subst he
  have hcs : cl.toArray.size = Zr_msg.size := by rw [List.size_toArray, hrep.len]; kernel_rfl
  have HCS := hidI hcs
  have HCO : Hid (cl.toArray.all (·.oneCell') = true) := hrep.all
  have HCI : Hid ((Tryz.prog.info? 50).map (·.size) = some cl.toArray.size) := by show _ = _; rw [hcs]; exact Zr_msg_i
  have BW4 := hidI (BW3.out.trans (b4.mono BW3.out.size))
  have HN4 := hidI (HN3.out.grow b4)
  have G4 := hidI ((b4.block _ (Array.getElem?_eq_some_iff.1 G3.out).1).trans G3.out)
  clear hrep b4 hcs hokb
  go_wp2_with (refine wpList_store_rowF rfl 50 (.tmp 6) (.tmp 27) rfl w4.heap.size cl.toArray rfl rfl 50 Zr_msg (heap_alloc_new w4 (.cells Zr_msg 50)) HCI.out HCS.out.symm HCO.out ?nx)
  case nx =>
    intro w5 hw5h
    have hw5 := hw5h.out
    have hB5 : Below w4.heap.size w4 w5 := by rw [hw5]; exact ((Below.refl _ _).alloc (Nat.le_refl _) _).trans ⟨rfl, rfl, rfl, by simp [World.setRow], fun k hk => setRow_other _ _ _ _ (by omega)⟩
    have BW5 := hidI (BW4.out.trans (hB5.mono BW4.out.size))
    have HN5 := hidI (HN4.out.grow hB5)
    have G5 := hidI ((hB5.block _ (Array.getElem?_eq_some_iff.1 G4.out).1).trans G4.out)
    have HR5 := hidI (rep_up HR.out BW5.out)
    clear hw5 hw5h hB5
    go_wp2_with (refine wpList_load_row rfl 50 (.tmp 1) rfl W.heap.size rfl 50 cm.toArray (0, 0) _ G5.out Tryz.underlying50 rfl HCM.out ?_)
    refine (send_no u0.heap.size 3 [] none cm vm _ HN5.out HR5.out HF.out).mono ?_
    rintro e w6 ⟨rfl, hn6, b6⟩
    have HN6 := hidI hn6
    have BW6 := hidI (BW5.out.trans (b6.mono BW5.out.size))
    clear hn6 b6
    go_wp2_with fail
    refine (len_any u0.heap.size 3 [] none _ HN6.out).mono ?_
    rintro e w7 ⟨rfl, hw7⟩
    subst hw7
    rw [show ((([] : List (List UInt8)).length : Nat) : Int) = 0 from rfl]
    go_wp2
    go_ret
    exact ⟨rfl, BW6.out⟩

set_option maxHeartbeats 4000000 in
set_option maxRecDepth 100000 in
theorem lawOwnF (W : World) (cm : List Value) (vm : Vl F_msg) (hr : Rep W (fun b => b < W.heap.size) F_msg cm vm) (hz : szb F_msg vm ≤ 137438953472) (HF : Hid ((en F_msg vm).2 = false)) :
    Calls Tryz.prog 4 #[.agg cm.toArray] W fun e w' => e = .returned (.bool true) ∧ Below W.heap.size W w' := by
  have HCM : Hid ((Tryz.prog.info? 50).map (·.size) = some cm.toArray.size) := by show _ = _; rw [List.size_toArray, hr.len]; exact box_msg
  obtain ⟨u0, hu0⟩ : ∃ u0, Hid (W.alloc (.cells cm.toArray 50) = u0) := ⟨_, hidI rfl⟩
  have hB0 : Below W.heap.size W u0 := by rw [← hu0.out]; exact (Below.refl _ _).alloc (Nat.le_refl _) _
  have g0 : u0.heap[W.heap.size]? = some (.cells cm.toArray 50 (0, 0)) := by rw [← hu0.out]; exact heap_alloc_new W _
  have z0 : W.heap.size < u0.heap.size := (Array.getElem?_eq_some_iff.1 g0).1
  have hB1 : Below u0.heap.size u0 (u0.alloc (.cells #[.int .i64 3, .slice none 0 0] 69)) := (Below.refl _ _).alloc (Nat.le_refl _) _
  have HN1 := hidI (netR_new (lo := fun _ => True) u0 3 (by omega))
  have HB0 := hidI hB0
  have HB1 := hidI hB1
  have G0 := hidI g0
  have Z0 := hidI z0
  have HR := hidI hr
  have HZ := hidI hz
  clear hB0 g0 z0 hB1 hr hz
  go_enter Tryz.func4, Tryz.ntmps4
  go_wp2_with fail
  rw [hu0.out]
  refine (new_ok 3 u0 (by omega) (by omega)).mono ?_
  rintro e w1 ⟨rfl, rfl⟩
  go_wp2_with fail
  refine (known_any _).mono ?_
  rintro e w2 ⟨rfl, hb2⟩
  have B2 := hidI (HB1.out.trans (hb2.mono HB1.out.size))
  have HN2 := hidI (HN1.out.grow hb2)
  have BW2 := hidI (HB0.out.trans (B2.out.mono HB0.out.size))
  have G2 := hidI ((B2.out.block _ Z0.out).trans G0.out)
  have HR2 := hidI (rep_up HR.out BW2.out)
  clear hb2
  go_wp2_with (refine wpList_load_row rfl 50 (.tmp 1) rfl W.heap.size rfl 50 cm.toArray (0, 0) _ G2.out Tryz.underlying50 rfl HCM.out ?_)
  refine (putMsg_o cm vm _ HZ.out HR2.out).mono ?_
  rintro e w3 ⟨val, rfl, o3, n3, b3⟩
  rw [show codeB (en F_msg vm).2 = 0 by rw [HF.out]; rfl]
  have hby : bytesB (en F_msg vm) = (en F_msg vm).1 := by unfold bytesB; rw [HF.out]; rfl
  rw [hby] at o3
  have hlX : (en F_msg vm).1.length ≤ 211106232532992 := Nat.le_trans (en_len F_msg vm) mxl_msg
  have HDE0 := de_en F_msg vm [] HF.out
  rw [List.append_nil] at HDE0
  obtain ⟨bm, hbm⟩ : ∃ bm, Hid ((en F_msg vm).1 = bm) := ⟨_, hidI rfl⟩
  rw [hbm.out] at o3 hlX HDE0
  have HDE : Hid ((de F_msg (some bm)).2 = some [] ∧ (de F_msg (some bm)).1 = vm) := by show _ ∧ _; rw [HDE0]; exact ⟨rfl, rfl⟩
  obtain ⟨aX, cX, rfl, hbs3⟩ := o3.form
  have HCAP3 := hidI o3.cap
  have HBS3 := hidI (hbs3 hlX)
  have HLT3 : Hid (∀ y, aX = some y → y.block < w3.heap.size) := fun y hy => o3.lt _ (by rw [hy]; rfl)
  have BW3 := hidI (BW2.out.trans (b3.mono BW2.out.size))
  have HN3 := hidI (HN2.out.grow b3)
  have G3 := hidI ((b3.block _ (Array.getElem?_eq_some_iff.1 G2.out).1).trans G2.out)
  have Z3 : Hid (u0.heap.size < w3.heap.size) := HN3.out.plt
  have HCX : Hid (bm.length ≤ cX) := HCAP3.out
  clear o3 n3 b3 hbs3 hby HDE0
  obtain ⟨nb, hnb⟩ : ∃ nb, Hid (bm.length = nb) := ⟨_, hidI rfl⟩
  rw [hnb.out]
  go_wp2_with fail
  refine (getm_o aX nb cX bm w3 hnb.out.symm (by have := HCX.out; have := hnb.out; omega) HBS3.out HLT3.out).mono ?_
  rintro e w4 ⟨cl, vv, he, hrep, hval, b4⟩
  have hv : vv = vm := (hval HDE.out.1).trans HDE.out.2
  subst hv
  rw [show decide ((de F_msg (some bm)).2 = some []) = true from by simp [HDE.out.1]] at he
  subst he
  have hcs : cl.toArray.size = Zr_msg.size := by rw [List.size_toArray, hrep.len]; kernel_rfl
  have HCS := hidI hcs
  have HCO : Hid (cl.toArray.all (·.oneCell') = true) := hrep.all
  have HCI : Hid ((Tryz.prog.info? 50).map (·.size) = some cl.toArray.size) := by show _ = _; rw [hcs]; exact Zr_msg_i
  have BW4 := hidI (BW3.out.trans (b4.mono BW3.out.size))
  have G4 := hidI ((b4.block _ (Array.getElem?_eq_some_iff.1 G3.out).1).trans G3.out)
  have HIN4 : Hid (Rep w4 (IN w3.heap.size w4.heap.size w4) F_msg cl vv) := hrep
  have Z4 := hidI (Nat.lt_of_lt_of_le Z3.out b4.size)
  have Z34 := hidI b4.size
  have HN4 := hidI (HN3.out.grow b4)
  clear hrep hval b4 hcs
  go_wp2_with (refine wpList_store_rowF rfl 50 (.tmp 6) (.tmp 27) rfl w4.heap.size cl.toArray rfl rfl 50 Zr_msg (heap_alloc_new w4 (.cells Zr_msg 50)) HCI.out HCS.out.symm HCO.out ?nx)
  case nx =>
    intro w5 hw5h
    have hw5 := hw5h.out
    have hB5 : Below w4.heap.size w4 w5 := by rw [hw5]; exact ((Below.refl _ _).alloc (Nat.le_refl _) _).trans ⟨rfl, rfl, rfl, by simp [World.setRow], fun k hk => setRow_other _ _ _ _ (by omega)⟩
    have gq5 : w5.heap[w4.heap.size]? = some (.cells cl.toArray 50 (0, 0)) := by rw [hw5]; exact setRow_heap _ _ _ _ 50 _ (heap_alloc_new w4 _)
    have GQ5 := hidI gq5
    have z5 : w4.heap.size < w5.heap.size := (Array.getElem?_eq_some_iff.1 gq5).1
    have Z5 := hidI z5
    have BW5 := hidI (BW4.out.trans (hB5.mono BW4.out.size))
    have HN5 : Hid (NetR (fun b => w5.heap.size ≤ b) w5 u0.heap.size 3 [] none) := by
      exact netR_any (HN4.out.grow hB5)
    have G5 := hidI ((hB5.block _ (Array.getElem?_eq_some_iff.1 G4.out).1).trans G4.out)
    have HIN5 : Hid (Rep w5 (IN w3.heap.size w4.heap.size w5) F_msg cl vv) := HIN4.out.kept hB5.size (fun b x => hB5.block b x.2.1) (fun b x => ⟨x.1, x.2.1, x.2.2.to (hB5.block b x.2.1)⟩)
    have HR5 : Hid (Rep w5 (fun b => b < w5.heap.size) F_msg cl vv) := HIN5.out.kept (Nat.le_refl _) (fun _ _ => rfl) (fun b x => by have := x.2.1; omega)
    clear hw5 hw5h hB5 gq5 z5
    go_wp2_with (refine wpList_load_row rfl 50 (.tmp 6) rfl w4.heap.size rfl 50 cl.toArray (0, 0) _ GQ5.out Tryz.underlying50 rfl HCI.out ?_)
    refine (send_ok u0.heap.size 3 [] none cl vv _ HN5.out (by simp) (fun b hb => hb) HR5.out HF.out).mono ?_
    rintro e w6 ⟨rfl, r6, hn6, hs6⟩
    rw [hbm.out, List.nil_append, cut_all 3 [bm] (by simp)] at hn6
    have HRW6 : Hid (∀ k, r6 = some k → w5.heap.size ≤ k) := fun k hk => by
      rcases hs6.row with e | ⟨j, e, hj⟩
      · rw [e] at hk; cases hk
      · rw [e] at hk; cases hk; exact hj
    have hB6 : Below u0.heap.size w5 w6 := hs6.below (by have := Z4.out; have := Z5.out; omega) (Nat.le_refl _) (fun k hk => by cases hk)
    have BW6 := hidI (BW5.out.trans (hB6.mono (by have := Z0.out; omega)))
    have hk6 : ∀ b, b < w5.heap.size → b ≠ u0.heap.size → w6.heap[b]? = w5.heap[b]? := fun b hb hp => hs6.block b hb hp (fun e => by cases e)
    have HIN6 : Hid (Rep w6 (IN w3.heap.size w4.heap.size w6) F_msg cl vv) := HIN5.out.kept hs6.size (fun b x => hk6 b (by have := x.2.1; have := Z5.out; omega) (by have := x.1; have := Z3.out; omega)) (fun b x => ⟨x.1, x.2.1, x.2.2.to (hk6 b (by have := x.2.1; have := Z5.out; omega) (by have := x.1; have := Z3.out; omega))⟩)
    have G6 := hidI ((hk6 _ (Array.getElem?_eq_some_iff.1 G5.out).1 (by have := Z0.out; omega)).trans G5.out)
    have GQ6 := hidI ((hk6 _ Z5.out (by have := Z4.out; omega)).trans GQ5.out)
    have HN6 := hidI hn6
    have Z6 := hidI hs6.size
    clear hn6 hs6 hB6 hk6
    go_wp2_with (refine wpList_load_row rfl 50 (.tmp 6) rfl w4.heap.size rfl 50 cl.toArray (0, 0) _ GQ6.out Tryz.underlying50 rfl HCI.out ?_)
    refine (over_i cl vv _ w3.heap.size w4.heap.size (by have := Z5.out; have := Z6.out; omega) HIN6.out).mono ?_
    rintro e w7 ⟨rfl, ov7⟩
    have BW7 := hidI (BW6.out.trans (show Below W.heap.size w6 w7 from ⟨ov7.os, ov7.tape, ov7.output, ov7.size, fun k hk => ov7.block k (by have := BW6.out.size; omega) (.inl (by have := BW3.out.size; omega))⟩))
    have HN7 := hidI (HN6.out.keptB (fun k hk hc => ov7.block k hk (by
      rcases hc with e | e | e
      · left; have := Z3.out; omega
      · right; have := HRW6.out k e; have := Z5.out; omega
      · right; have h9 : w5.heap.size ≤ k := e; have := Z5.out; omega)) ov7.size)
    have G7 := hidI ((ov7.block _ (Array.getElem?_eq_some_iff.1 G6.out).1 (.inl (by have := Z0.out; have := Z3.out; omega))).trans G6.out)
    clear ov7 HIN6 HN6
    go_wp2_with fail
    refine (copy_ok u0.heap.size 3 [bm] r6 0 bm _ HN7.out (by simp) rfl).mono ?_
    rintro e w8 ⟨rfl, r8, hn8, hs8⟩
    rw [cut_all 3 ([bm] ++ [bm]) (by simp)] at hn8
    have HRW8 : Hid (∀ k, r8 = some k → W.heap.size ≤ k ∧ k < w8.heap.size) := fun k hk => ⟨by
      rcases hs8.row with e | ⟨j, e, hj⟩
      · rw [e] at hk; have := HRW6.out k hk; have := Z5.out; have := Z4.out; have := Z0.out; omega
      · rw [e] at hk; cases hk; have := BW7.out.size; omega, hn8.rlt k hk⟩
    have hB8 : Below W.heap.size w7 w8 := hs8.below BW7.out.size (by have := Z0.out; omega) (fun k hk => by have := HRW6.out k hk; have := Z5.out; have := Z4.out; have := Z0.out; omega)
    have BW8 := hidI (BW7.out.trans hB8)
    have hap7 := HN7.out.apart G7.out (by decide) (by decide)
    have G8 := hidI ((hs8.block _ (Array.getElem?_eq_some_iff.1 G7.out).1 hap7.1 hap7.2).trans G7.out)
    have HN8 := hidI hn8.cap
    clear hn8 hs8 hB8 hap7 HN7
    go_wp2_with fail
    refine (deliver_ok u0.heap.size 3 ([bm] ++ [bm]) r8 0 bm _ HN8.out rfl).mono ?_
    rintro e w9 ⟨cd, vd, he, hrepd, hvald, hn9, hs9⟩
    have hvd : vd = vv := (hvald HDE.out.1).trans HDE.out.2
    subst hvd
    rw [show decide ((de F_msg (some bm)).2 = some []) = true from by simp [HDE.out.1]] at he
    subst he
    rw [show ([bm] ++ [bm]).take 0 ++ ([bm] ++ [bm]).drop (0 + 1) = [bm] from rfl] at hn9
    have hcsd : cd.toArray.size = Zr_msg.size := by rw [List.size_toArray, hrepd.len]; kernel_rfl
    have HCSd := hidI hcsd
    have HCOd : Hid (cd.toArray.all (·.oneCell') = true) := hrepd.all
    have HCId : Hid ((Tryz.prog.info? 50).map (·.size) = some cd.toArray.size) := by show _ = _; rw [hcsd]; exact Zr_msg_i
    have hB9 : Below W.heap.size w8 w9 := hs9.below BW8.out.size (by have := Z0.out; omega) (fun k hk => (HRW8.out k hk).1)
    have BW9 := hidI (BW8.out.trans hB9)
    have hap8 := HN8.out.apart G8.out (by decide) (by decide)
    have G9 := hidI ((hs9.block _ (Array.getElem?_eq_some_iff.1 G8.out).1 hap8.1 hap8.2).trans G8.out)
    have HIN9 : Hid (Rep w9 (IN w8.heap.size w9.heap.size w9) F_msg cd vd) := hrepd
    have HN9 := hidI hn9
    have Z8 : Hid (u0.heap.size < w8.heap.size) := HN8.out.plt
    have Z89 := hidI hs9.size
    clear hrepd hvald hn9 hs9 hB9 hap8 hcsd HN8
    go_wp2_with (refine wpList_store_rowF rfl 50 (.tmp 8) (.tmp 52) rfl w9.heap.size cd.toArray rfl rfl 50 Zr_msg (heap_alloc_new w9 (.cells Zr_msg 50)) HCId.out HCSd.out.symm HCOd.out ?nxd)
    case nxd =>
    intro w10 hw10h
    have hw10 := hw10h.out
    have hB10 : Below w9.heap.size w9 w10 := by rw [hw10]; exact ((Below.refl _ _).alloc (Nat.le_refl _) _).trans ⟨rfl, rfl, rfl, by simp [World.setRow], fun k hk => setRow_other _ _ _ _ (by omega)⟩
    have gd10 : w10.heap[w9.heap.size]? = some (.cells cd.toArray 50 (0, 0)) := by rw [hw10]; exact setRow_heap _ _ _ _ 50 _ (heap_alloc_new w9 _)
    have GD10 := hidI gd10
    have z10 : w9.heap.size < w10.heap.size := (Array.getElem?_eq_some_iff.1 gd10).1
    have Z10 := hidI z10
    have BW10 := hidI (BW9.out.trans (hB10.mono BW9.out.size))
    have G10 := hidI ((hB10.block _ (Array.getElem?_eq_some_iff.1 G9.out).1).trans G9.out)
    have HN10 := hidI (HN9.out.grow hB10)
    have HIN10 : Hid (Rep w10 (IN w8.heap.size w9.heap.size w10) F_msg cd vd) := HIN9.out.kept hB10.size (fun b x => hB10.block b x.2.1) (fun b x => ⟨x.1, x.2.1, x.2.2.to (hB10.block b x.2.1)⟩)
    have HRD10 : Hid (Rep w10 (fun b => b < w10.heap.size) F_msg cd vd) := HIN10.out.kept (Nat.le_refl _) (fun _ _ => rfl) (fun b x => by have := x.2.1; omega)
    have HRM10 := hidI (rep_up HR.out BW10.out)
    clear hw10 hw10h hB10 gd10 z10 HN9 HIN9
    have RA10 := hidI (range_all GD10.out)
    have RM10 := hidI (range_all G10.out)
    have HJ10 : Hid ((Tryz.prog.info? 50).map (·.size) = some cd.length) := HCId.out
    have HJM10 : Hid ((Tryz.prog.info? 50).map (·.size) = some cm.length) := HCM.out
    go_wp2_with (first
      | (refine wpList_load_midG (by rfl) 50 (.tmp 8) rfl w9.heap.size 0 rfl cd _ RA10.out Tryz.underlying50 rfl HJ10.out ?_)
      | (refine wpList_load_midG (by rfl) 50 (.tmp 1) rfl W.heap.size 0 rfl cm _ RM10.out Tryz.underlying50 rfl HJM10.out ?_))
    refine (same_ok cd cm vd _ HRD10.out HRM10.out HF.out).mono ?_
    rintro e w11 ⟨rfl, b11⟩
    have BW11 := hidI (BW10.out.trans (b11.mono BW10.out.size))
    have G11 := hidI ((b11.block _ (Array.getElem?_eq_some_iff.1 G10.out).1).trans G10.out)
    have GD11 := hidI ((b11.block _ (Array.getElem?_eq_some_iff.1 GD10.out).1).trans GD10.out)
    have HN11 := hidI (HN10.out.grow b11)
    have HIN11 : Hid (Rep w11 (IN w8.heap.size w9.heap.size w11) F_msg cd vd) := HIN10.out.kept b11.size (fun b x => b11.block b (by have := x.2.1; have := Z10.out; omega)) (fun b x => ⟨x.1, x.2.1, x.2.2.to (b11.block b (by have := x.2.1; have := Z10.out; omega))⟩)
    have Z11 := hidI b11.size
    clear b11 HN10 HIN10 HRD10 HRM10
    go_wp2_with (refine wpList_load_row rfl 50 (.tmp 8) rfl w9.heap.size rfl 50 cd.toArray (0, 0) _ GD11.out Tryz.underlying50 rfl HCId.out ?_)
    refine (over_i cd vd _ w8.heap.size w9.heap.size (by have := Z10.out; have := Z11.out; omega) HIN11.out).mono ?_
    rintro e w12 ⟨rfl, ov12⟩
    have BW12 := hidI (BW11.out.trans (show Below W.heap.size w11 w12 from ⟨ov12.os, ov12.tape, ov12.output, ov12.size, fun k hk => ov12.block k (by have := BW11.out.size; omega) (.inl (by have := BW8.out.size; omega))⟩))
    have HN12 := hidI (HN11.out.keptB (fun k hk hc => ov12.block k hk (by
      rcases hc with e | e | e
      · left; have := Z8.out; omega
      · left; exact (HRW8.out k e).2
      · left; exact e.2)) ov12.size)
    have G12 := hidI ((ov12.block _ (Array.getElem?_eq_some_iff.1 G11.out).1 (.inl (by have := Z0.out; have := Z8.out; omega))).trans G11.out)
    clear ov12 HIN11 HN11
    go_wp2_with fail
    refine (deliver_ok u0.heap.size 3 [bm] r8 0 bm _ HN12.out rfl).mono ?_
    rintro e w13 ⟨ce, ve, he, hrepe, hvale, hn13, hs13⟩
    have hve : ve = vd := (hvale HDE.out.1).trans HDE.out.2
    subst hve
    rw [show decide ((de F_msg (some bm)).2 = some []) = true from by simp [HDE.out.1]] at he
    subst he
    rw [show [bm].take 0 ++ [bm].drop (0 + 1) = [] from rfl] at hn13
    have hcse : ce.toArray.size = Zr_msg.size := by rw [List.size_toArray, hrepe.len]; kernel_rfl
    have HCSe := hidI hcse
    have HCOe : Hid (ce.toArray.all (·.oneCell') = true) := hrepe.all
    have HCIe : Hid ((Tryz.prog.info? 50).map (·.size) = some ce.toArray.size) := by show _ = _; rw [hcse]; exact Zr_msg_i
    have hB13 : Below W.heap.size w12 w13 := hs13.below BW12.out.size (by have := Z0.out; omega) (fun k hk => (HRW8.out k hk).1)
    have BW13 := hidI (BW12.out.trans hB13)
    have hap12 := HN12.out.apart G12.out (by decide) (by decide)
    have G13 := hidI ((hs13.block _ (Array.getElem?_eq_some_iff.1 G12.out).1 hap12.1 hap12.2).trans G12.out)
    have HRE13 : Hid (Rep w13 (fun b => b < w13.heap.size) F_msg ce ve) := hrepe.kept (Nat.le_refl _) (fun _ _ => rfl) (fun b x => x.2.1)
    have HN13 := hidI hn13
    clear hrepe hvale hn13 hs13 hB13 hap12 hcse HN12
    go_wp2_with (refine wpList_store_rowF rfl 50 (.tmp 10) (.tmp 67) rfl w13.heap.size ce.toArray rfl rfl 50 Zr_msg (heap_alloc_new w13 (.cells Zr_msg 50)) HCIe.out HCSe.out.symm HCOe.out ?nxe)
    case nxe =>
    intro w14 hw14h
    have hw14 := hw14h.out
    have hB14 : Below w13.heap.size w13 w14 := by rw [hw14]; exact ((Below.refl _ _).alloc (Nat.le_refl _) _).trans ⟨rfl, rfl, rfl, by simp [World.setRow], fun k hk => setRow_other _ _ _ _ (by omega)⟩
    have GE14 := hidI (show w14.heap[w13.heap.size]? = some (.cells ce.toArray 50 (0, 0)) by rw [hw14]; exact setRow_heap _ _ _ _ 50 _ (heap_alloc_new w13 _))
    have BW14 := hidI (BW13.out.trans (hB14.mono BW13.out.size))
    have G14 := hidI ((hB14.block _ (Array.getElem?_eq_some_iff.1 G13.out).1).trans G13.out)
    have HN14 := hidI (HN13.out.grow hB14)
    have HRE14 : Hid (Rep w14 (fun b => b < w14.heap.size) F_msg ce ve) := HRE13.out.kept hB14.size (fun b x => hB14.block b x) (fun b x => Nat.lt_of_lt_of_le x hB14.size)
    have HRM14 := hidI (rep_up HR.out BW14.out)
    clear hw14 hw14h hB14 HN13 HRE13
    have RA14 := hidI (range_all GE14.out)
    have RM14 := hidI (range_all G14.out)
    have HJ14 : Hid ((Tryz.prog.info? 50).map (·.size) = some ce.length) := HCIe.out
    have HJM14 : Hid ((Tryz.prog.info? 50).map (·.size) = some cm.length) := HCM.out
    go_wp2_with (first
      | (refine wpList_load_midG (by rfl) 50 (.tmp 10) rfl w13.heap.size 0 rfl ce _ RA14.out Tryz.underlying50 rfl HJ14.out ?_)
      | (refine wpList_load_midG (by rfl) 50 (.tmp 1) rfl W.heap.size 0 rfl cm _ RM14.out Tryz.underlying50 rfl HJM14.out ?_))
    refine (same_ok ce cm ve _ HRE14.out HRM14.out HF.out).mono ?_
    rintro e w15 ⟨rfl, b15⟩
    have BW15 := hidI (BW14.out.trans (b15.mono BW14.out.size))
    have HN15 := hidI (HN14.out.grow b15)
    clear b15
    go_wp2_with fail
    refine (len_any u0.heap.size 3 [] r8 _ HN15.out).mono ?_
    rintro e w16 ⟨rfl, hw16⟩
    subst hw16
    rw [show ((([] : List (List UInt8)).length : Nat) : Int) = 0 from rfl]
    go_wp2
    go_ret
    exact ⟨rfl, BW15.out⟩

theorem lawOwnX (W : World) (ca : Array Value) (vm : Vl F_msg) (hr : Rep W (fun b => b < W.heap.size) F_msg ca.toList vm) (hz : szb F_msg vm ≤ 137438953472) :
    Calls Tryz.prog 4 #[.agg ca] W fun e w' => e = .returned (.bool true) ∧ Below W.heap.size W w' := by
  cases hf : (en F_msg vm).2 with
  | true => have := lawOwnT W ca.toList vm hr hz hf; rwa [Array.toArray_toList] at this
  | false => have := lawOwnF W ca.toList vm hr hz hf; rwa [Array.toArray_toList] at this

end Go.Proofs.YtcdoejdbmllnnabGreat
