/- The law of a message whose reader writes over what it was told: what was written stays. Made by program (wip/gen/owns.py). -/
import Derived.Test.YtpbokgeaolpiaabVpwms
import Derived.Test.YtpbokgeaolpiaabVpoms
import Derived.Test.YtpbokgeaolpiaabVgms
import Derived.Test.YtpbokgeaolpiaabKnow
namespace Go.Proofs.Ytpbokgeaolpiaab
open Go.RowKit

/- cells were written over in blocks from D on, but for block q -/
structure Ovr (D q : Nat) (w w' : World) : Prop where
  os : w'.os = w.os
  tape : w'.tape = w.tape
  output : w'.output = w.output
  size : w'.heap.size = w.heap.size
  block : ∀ k, k < D ∨ k = q → w'.heap[k]? = w.heap[k]?
  cell : ∀ a, (w.cell? a).isSome = true → (w'.cell? a).isSome = true
  frozen : ∀ a, w'.frozen? a = w.frozen? a
theorem Ovr.refl (D q : Nat) (w : World) : Ovr D q w w := ⟨rfl, rfl, rfl, rfl, fun _ _ => rfl, fun _ h => h, fun _ => rfl⟩
theorem Ovr.set {D q : Nat} {w w' : World} (h : Ovr D q w w') (b o : Nat) (v u : Value) (hb : D ≤ b) (hq : b ≠ q) (hc : w'.cell? ⟨b, o, none⟩ = some u) : Ovr D q w (w'.setCell ⟨b, o, none⟩ v) := by
  refine ⟨h.os, h.tape, h.output, by simpa using h.size, fun k hk => (Below.heap_setCell w' ⟨b, o, none⟩ v k (by show k ≠ b; omega)).trans (h.block k hk), fun a ha => ?_, fun a => by rw [World.frozen?_setCell]; exact h.frozen a⟩
  by_cases e : a = ⟨b, o, none⟩
  · subst e; rw [World.cell?_setCell_same w' _ _ hc]; rfl
  · rw [World.cell?_setCell_other w' _ _ _ (Ne.symm e)]; exact h.cell a ha
theorem Ovr.below {D q : Nat} {w w' : World} (h : Ovr D q w w') : Below D w w' := ⟨h.os, h.tape, h.output, by rw [h.size]; exact Nat.le_refl _, fun k hk => h.block k (.inl hk)⟩
theorem Uf.frozen {w : World} {b : Nat} (h : Uf w b) (o : Nat) : w.frozen? ⟨b, o, none⟩ = false := by
  obtain ⟨cs, e, hc⟩ := h
  simp [World.frozen?, hc]
theorem mxl_msg : mx F_msg ≤ 137438953472 := by decide +kernel

set_option maxHeartbeats 8000000 in
set_option maxRecDepth 100000 in
theorem lawOwnsT (W : World) (cm : List Value) (vm : Vl F_msg) (hr : Rep W (fun b => b < W.heap.size) F_msg cm vm) (hz : szb F_msg vm ≤ 137438953472) (HF : Hid ((en F_msg vm).2 = true)) :
    Calls Try.prog 7 #[.agg cm.toArray] W fun e w' => e = .returned (.bool true) ∧ Below W.heap.size W w' := by
  have zA : (W.alloc (.cells cm.toArray 69)).heap.size = W.heap.size + 1 := by rw [World.size_alloc]
  have HBA : Hid (Below W.heap.size W (W.alloc (.cells cm.toArray 69))) := (Below.refl _ _).alloc (Nat.le_refl _) _
  have g_cm : Hid ((W.alloc (.cells cm.toArray 69)).heap[W.heap.size]? = some (.cells cm.toArray 69 (0, 0))) := heap_alloc_new W _
  have I_cm : Hid ((Try.prog.info? 69).map (·.size) = some cm.toArray.size) := by show _ = _; rw [List.size_toArray, hr.len]; kernel_rfl
  have reps : Hid (∀ w', Below W.heap.size W w' → Rep w' (fun b => b < w'.heap.size) F_msg cm vm) := fun w' bw =>
    hr.kept bw.size (fun b hb => bw.block b hb) (fun b hb => Nat.lt_of_lt_of_le hb bw.size)
  have T0 : Below (W.alloc (.cells cm.toArray 69)).heap.size (W.alloc (.cells cm.toArray 69)) (W.alloc (.cells cm.toArray 69)) := Below.refl _ _
  clear hr
  go_enter Try.func7, Try.ntmps7
  have G : Hid ((W.alloc (.cells cm.toArray 69)).heap[W.heap.size]? = some (.cells cm.toArray 69 (0, 0))) := (T0.block _ (by omega)).trans g_cm.out
  go_wp2_with (refine wpList_load_row rfl 69 (.tmp 1) rfl W.heap.size rfl 69 cm.toArray (0, 0) _ G.out Try.underlying69 rfl I_cm.out ?_)
  refine (putMsg_w cm vm _ (reps.out _ (HBA.out.trans (T0.mono (by omega))))).mono ?_
  rintro e w1 ⟨val, he, oX, _, b1⟩
  simp only [codeB, bytesB, HF.out, if_true] at he oX
  obtain ⟨aX, cX, hv, hbsX⟩ := oX.form
  have capX := (hv ▸ oX).cap
  subst hv
  replace hbsX := hbsX (by simp only [List.length_nil]; omega)
  subst he
  have T1 := T0.trans (b1.mono T0.size)
  have ltX : ∀ y, aX = some y → y.block < w1.heap.size := fun y hy => oX.lt _ (by rw [hy]; rfl)
  clear T0 b1 oX G
  have G : Hid (w1.heap[W.heap.size]? = some (.cells cm.toArray 69 (0, 0))) := (T1.block _ (by omega)).trans g_cm.out
  go_wp2_with (refine wpList_load_row rfl 69 (.tmp 1) rfl W.heap.size rfl 69 cm.toArray (0, 0) _ G.out Try.underlying69 rfl I_cm.out ?_)
  refine (putMsg_o cm vm _ hz (reps.out _ (HBA.out.trans (T1.mono (by omega))))).mono ?_
  rintro e w2 ⟨val, he, oY, _, b2⟩
  simp only [codeB, bytesB, HF.out, if_true] at he oY
  obtain ⟨aY, cY, hv, hbsY⟩ := oY.form
  have capY := (hv ▸ oY).cap
  subst hv
  replace hbsY := hbsY (by simp only [List.length_nil]; omega)
  subst he
  have T2 := T1.trans (b2.mono T1.size)
  have ltY : ∀ y, aY = some y → y.block < w2.heap.size := fun y hy => oY.lt _ (by rw [hy]; rfl)
  replace hbsX := hbsX.grow b2
  replace ltX : ∀ y, aX = some y → y.block < w2.heap.size := fun y hy => Nat.lt_of_lt_of_le (ltX y hy) b2.size
  clear T1 b2 oY G
  clear hbsX hbsY
  go_wp2_with fail
  refine (known_any w2).mono ?_
  rintro e w3 ⟨rfl, b3⟩
  have T3 := T2.trans (b3.mono T2.size)
  go_wp2
  go_ret
  exact ⟨rfl, HBA.out.trans (T3.mono (by omega))⟩
set_option maxHeartbeats 8000000 in
set_option maxRecDepth 100000 in
theorem lawOwnsF (W : World) (cm : List Value) (vm : Vl F_msg) (hr : Rep W (fun b => b < W.heap.size) F_msg cm vm) (hz : szb F_msg vm ≤ 137438953472) (HF : Hid ((en F_msg vm).2 = false)) :
    Calls Try.prog 7 #[.agg cm.toArray] W fun e w' => e = .returned (.bool true) ∧ Below W.heap.size W w' := by
  have zA : (W.alloc (.cells cm.toArray 69)).heap.size = W.heap.size + 1 := by rw [World.size_alloc]
  have HBA : Hid (Below W.heap.size W (W.alloc (.cells cm.toArray 69))) := (Below.refl _ _).alloc (Nat.le_refl _) _
  have g_cm : Hid ((W.alloc (.cells cm.toArray 69)).heap[W.heap.size]? = some (.cells cm.toArray 69 (0, 0))) := heap_alloc_new W _
  have I_cm : Hid ((Try.prog.info? 69).map (·.size) = some cm.toArray.size) := by show _ = _; rw [List.size_toArray, hr.len]; kernel_rfl
  have reps : Hid (∀ w', Below W.heap.size W w' → Rep w' (fun b => b < w'.heap.size) F_msg cm vm) := fun w' bw =>
    hr.kept bw.size (fun b hb => bw.block b hb) (fun b hb => Nat.lt_of_lt_of_le hb bw.size)
  have T0 : Below (W.alloc (.cells cm.toArray 69)).heap.size (W.alloc (.cells cm.toArray 69)) (W.alloc (.cells cm.toArray 69)) := Below.refl _ _
  clear hr
  go_enter Try.func7, Try.ntmps7
  have G : Hid ((W.alloc (.cells cm.toArray 69)).heap[W.heap.size]? = some (.cells cm.toArray 69 (0, 0))) := (T0.block _ (by omega)).trans g_cm.out
  go_wp2_with (refine wpList_load_row rfl 69 (.tmp 1) rfl W.heap.size rfl 69 cm.toArray (0, 0) _ G.out Try.underlying69 rfl I_cm.out ?_)
  refine (putMsg_w cm vm _ (reps.out _ (HBA.out.trans (T0.mono (by omega))))).mono ?_
  rintro e w1 ⟨val, he, oX, _, b1⟩
  simp only [codeB, bytesB, HF.out, Bool.false_eq_true, if_false] at he oX
  obtain ⟨aX, cX, hv, hbsX⟩ := oX.form
  have capX := (hv ▸ oX).cap
  subst hv
  replace hbsX := hbsX (by have := en_len F_msg vm; have := mxl_msg; omega)
  subst he
  have T1 := T0.trans (b1.mono T0.size)
  have ltX : ∀ y, aX = some y → y.block < w1.heap.size := fun y hy => oX.lt _ (by rw [hy]; rfl)
  clear T0 b1 oX G
  have G : Hid (w1.heap[W.heap.size]? = some (.cells cm.toArray 69 (0, 0))) := (T1.block _ (by omega)).trans g_cm.out
  go_wp2_with (refine wpList_load_row rfl 69 (.tmp 1) rfl W.heap.size rfl 69 cm.toArray (0, 0) _ G.out Try.underlying69 rfl I_cm.out ?_)
  refine (putMsg_o cm vm _ hz (reps.out _ (HBA.out.trans (T1.mono (by omega))))).mono ?_
  rintro e w2 ⟨val, he, oY, _, b2⟩
  simp only [codeB, bytesB, HF.out, Bool.false_eq_true, if_false] at he oY
  obtain ⟨aY, cY, hv, hbsY⟩ := oY.form
  have capY := (hv ▸ oY).cap
  subst hv
  replace hbsY := hbsY (by have := en_len F_msg vm; have := mxl_msg; omega)
  subst he
  have T2 := T1.trans (b2.mono T1.size)
  have ltY : ∀ y, aY = some y → y.block < w2.heap.size := fun y hy => oY.lt _ (by rw [hy]; rfl)
  replace hbsX := hbsX.grow b2
  replace ltX : ∀ y, aX = some y → y.block < w2.heap.size := fun y hy => Nat.lt_of_lt_of_le (ltX y hy) b2.size
  clear T1 b2 oY G
  have HOK : Hid (decide ((de F_msg (some (en F_msg vm).1)).2 = some []) = true) := by
    have := de_en F_msg vm [] HF.out; rw [List.append_nil] at this; show _ = _; rw [this]; exact decide_eq_true rfl
  go_wp2_with fail
  refine (getv_msg aX ((en F_msg vm).1.length) cX (en F_msg vm).1 w2 rfl capX hbsX ltX).mono ?_
  rintro e w3 ⟨cs0, vv0, he, hrep, hval, b3⟩
  rw [HOK.out] at he
  subst he
  obtain ⟨x0, x1, x2, x3, x4, x5, x6, x7, x8, x9, x10, x11, a12, c12, v12, y13_0, y13_1, v13, a14, c14, v14, y15_0, y15_1, y15_2, y15_3, y15_4, y15_5, y15_6, y15_7, y15_8, y15_9, y15_10, y15_11, y15_12, y15_13, y15_14, y15_15, y15_16, y15_17, y15_18, y15_19, y15_20, y15_21, y15_22, y15_23, y15_24, y15_25, y15_26, v15, y16_0, y16_1, y16_2, v16, rfl, rfl, h12, h13, h14, h15, h16⟩ := open_msg hrep
  obtain ⟨r0, r1, ra, rc, rv, hry, hrv, hrl⟩ := open_result h16
  simp only [List.cons.injEq, and_true] at hry
  obtain ⟨rfl, rfl, rfl⟩ := hry
  have HCI : Hid ((Try.prog.info? 69).map (·.size) = some [.int .i64 x0, .int .i64 x1, .int .i64 x2, .int .i64 x3, .int .i64 x4, .int .i64 x5, .int .i64 x6, .bool x7, .int .i64 x8, .int .i64 x9, .int .i64 x10, .int .i64 x11, .slice a12 v12.length c12, y13_0, y13_1, .slice a14 v14.length c14, y15_0, y15_1, y15_2, y15_3, y15_4, y15_5, y15_6, y15_7, y15_8, y15_9, y15_10, y15_11, y15_12, y15_13, y15_14, y15_15, y15_16, y15_17, y15_18, y15_19, y15_20, y15_21, y15_22, y15_23, y15_24, y15_25, y15_26, .int .i64 r0, .int .i64 r1, .slice ra rv.length rc].toArray.size) := by show _ = _; kernel_rfl
  obtain ⟨CS, HCSE⟩ : ∃ CS, Hid (CS = [.int .i64 x0, .int .i64 x1, .int .i64 x2, .int .i64 x3, .int .i64 x4, .int .i64 x5, .int .i64 x6, .bool x7, .int .i64 x8, .int .i64 x9, .int .i64 x10, .int .i64 x11, .slice a12 v12.length c12, y13_0, y13_1, .slice a14 v14.length c14, y15_0, y15_1, y15_2, y15_3, y15_4, y15_5, y15_6, y15_7, y15_8, y15_9, y15_10, y15_11, y15_12, y15_13, y15_14, y15_15, y15_16, y15_17, y15_18, y15_19, y15_20, y15_21, y15_22, y15_23, y15_24, y15_25, y15_26, .int .i64 r0, .int .i64 r1, .slice ra rv.length rc]) := ⟨_, rfl⟩
  have HCO : Hid (CS.toArray.all (·.oneCell') = true) := by rw [HCSE.out]; exact hrep.all
  rw [← HCSE.out] at HCI
  have HCS : Hid (Zr_msg.size = CS.toArray.size) := by rw [HCSE.out]; show Zr_msg.size = _; kernel_rfl
  have DAT : Hid (RepB w3 (NB w2 w3) a14 v14) := h14.2
  have ENT : Hid (RepL w3 (NB w2 w3) F_entry a12 v12) := h12
  have ALL : Hid (RepL w3 (NB w2 w3) F_alloc ra rv) := hrl
  have HVL : Hid (v14.length ≤ 211106232532992 ∧ v12.length ≤ 9223372036854775807 ∧ rv.length ≤ 9223372036854775807) := ⟨h14.2.1.1, h12.1, hrl.1⟩
  rw [← HCSE.out]
  clear hrep hval h12 h13 h14 h15 h16 hrl hrv
  go_wp2_with (refine wpList_store_rowF rfl 69 (.tmp 7) (.tmp 35) rfl w3.heap.size CS.toArray rfl rfl 69 Zr_msg (heap_alloc_new w3 (.cells Zr_msg 69)) HCI.out HCS.out HCO.out ?next)
  case next =>
  intro u hu
  have bu : Below w3.heap.size w3 u := by
    rw [hu.out]
    exact ((Below.refl _ _).alloc (Nat.le_refl _) _).trans ⟨rfl, rfl, rfl, by simp [World.setRow], fun kk hkk => setRow_other _ _ _ _ (by omega)⟩
  have gu : u.heap[w3.heap.size]? = some (.cells CS.toArray 69 (0, 0)) := by
    rw [hu.out]; exact setRow_heap _ _ _ _ 69 _ (heap_alloc_new w3 (.cells Zr_msg 69))
  have BOX : Hid (u.cell? ⟨w3.heap.size, 12, none⟩ = some (.slice a12 v12.length c12) ∧ u.cell? ⟨w3.heap.size, 15, none⟩ = some (.slice a14 v14.length c14) ∧ u.cell? ⟨w3.heap.size, 45, none⟩ = some (.slice ra rv.length rc)) := by
    refine ⟨?_, ?_, ?_⟩
    · rw [cell_of_row u _ _ _ 69 (0, 0) gu, HCSE.out]; rfl
    · rw [cell_of_row u _ _ _ 69 (0, 0) gu, HCSE.out]; rfl
    · rw [cell_of_row u _ _ _ 69 (0, 0) gu, HCSE.out]; rfl
  have DAT2 : Hid (RepB u (NB w2 u) a14 v14) := DAT.out.keptN bu.size (fun b h1 h2 => bu.block b h2) (Nat.le_refl _)
  have ENT2 : Hid (RepL u (NB w2 u) F_entry a12 v12) := ENT.out.keptN bu.size (fun b h1 h2 => bu.block b h2) (Nat.le_refl _)
  have ALL2 : Hid (RepL u (NB w2 u) F_alloc ra rv) := ALL.out.keptN bu.size (fun b h1 h2 => bu.block b h2) (Nat.le_refl _)
  have NQ : Hid ((∀ x, v14 ≠ [] → a14 = some x → x.block ≠ w3.heap.size) ∧ (∀ b off, v12 ≠ [] → a12 = some ⟨b, off, none⟩ → b ≠ w3.heap.size) ∧ (∀ b off, rv ≠ [] → ra = some ⟨b, off, none⟩ → b ≠ w3.heap.size)) := by
    refine ⟨fun x hn hx => ?_, fun b off hn hx => ?_, fun b off hn hx => ?_⟩
    · have := (DAT.out.2 hn x hx).2.1; omega
    · obtain ⟨b', off', e, hb, _⟩ := ENT.out.2 hn; rw [hx] at e; cases e; have := hb.2.1; omega
    · obtain ⟨b', off', e, hb, _⟩ := ALL.out.2 hn; rw [hx] at e; cases e; have := hb.2.1; omega
  have B2U : Hid (Below w2.heap.size w2 u) := b3.trans (bu.mono b3.size)
  have SZ : Hid (w2.heap.size ≤ w3.heap.size) := b3.size
  clear hu gu bu DAT ENT ALL b3 HCI HCO HCS HCSE HOK
  go_wp2
  go_loopw [9] (fun i wr => ∃ k : Nat, k ≤ v14.length ∧ i = .int .i64 k ∧ Ovr w2.heap.size w3.heap.size u wr) (fun i _ => v14.length - (intOf i).toNat)
  case atStart => exact ⟨0, Nat.zero_le _, rfl, Ovr.refl _ _ _⟩
  case round =>
    obtain ⟨k, hk, rfl, hov⟩ := hrel
    have hbx : wr.cell? ⟨w3.heap.size, 15, none⟩ = some (.slice a14 v14.length c14) := (World.cell?_of_block (a := ⟨w3.heap.size, 15, none⟩) (hov.block _ (.inr rfl))).trans BOX.out.2.1
    have hvl := HVL.out.1
    by_cases hlt : k < v14.length
    · have FACT : ∃ b off, a14 = some ⟨b, off, none⟩ ∧ w2.heap.size ≤ b ∧ b ≠ w3.heap.size ∧ (u.cell? ⟨b, off + k, none⟩).isSome = true ∧ u.frozen? ⟨b, off + k, none⟩ = false := by
        have hn : v14 ≠ [] := by intro e; rw [e] at hlt; simp at hlt
        obtain ⟨b, off, e, _, hc⟩ := DAT2.out.1.2 hn
        have hnb := DAT2.out.2 hn _ e
        exact ⟨b, off, e, hnb.1, NQ.out.1 _ hn e, by rw [hc k hlt]; rfl, hnb.2.2.frozen _⟩
      obtain ⟨b, off, rfl, hD, hq, hcs, hfz⟩ := FACT
      have hsm := hov.cell ⟨b, off + k, none⟩ hcs
      obtain ⟨old, hold⟩ := Option.isSome_iff_exists.1 hsm
      have hfr : wr.frozen? ⟨b, off + k, none⟩ = false := (hov.frozen _).trans hfz
      have HOV2 : Hid (Ovr w2.heap.size w3.heap.size u (wr.setCell ⟨b, off + k, none⟩ (.int .u8 77))) := hov.set b _ _ old hD hq hold
      clear hov hcs hfz hsm
      go_wp2
      exact ⟨⟨k + 1, by omega, by go_num, HOV2.out⟩, by simp [intOf]; omega⟩
    · have HOV : Hid (Ovr w2.heap.size w3.heap.size u wr) := hov
      clear hov
      go_wp2
      go_loopw [10] (fun i wr => ∃ k : Nat, k ≤ v12.length ∧ i = .int .i64 k ∧ Ovr w2.heap.size w3.heap.size u wr) (fun i _ => v12.length - (intOf i).toNat)
      case atStart => exact ⟨0, Nat.zero_le _, rfl, HOV.out⟩
      case round =>
        obtain ⟨k, hk, rfl, hov⟩ := hrel
        have hbx : wr.cell? ⟨w3.heap.size, 12, none⟩ = some (.slice a12 v12.length c12) := (World.cell?_of_block (a := ⟨w3.heap.size, 12, none⟩) (hov.block _ (.inr rfl))).trans BOX.out.1
        have hvl := HVL.out.2.1
        by_cases hlt : k < v12.length
        · have FACT : ∃ b off, a12 = some ⟨b, off, none⟩ ∧ w2.heap.size ≤ b ∧ b ≠ w3.heap.size ∧ (u.cell? ⟨b, off + k * 29, none⟩).isSome = true ∧ u.frozen? ⟨b, off + k * 29, none⟩ = false := by
                have hn : v12 ≠ [] := by intro e; rw [e] at hlt; simp at hlt
                obtain ⟨b, off, e, hnb, hc⟩ := ENT2.out.2 hn
                obtain ⟨es, hre, hrg⟩ := hc k hlt
                have hl : 0 < es.length := by rw [hre.len]; decide
                have := hrg 0 es[0] (List.getElem?_eq_getElem hl)
                exact ⟨b, off, e, hnb.1, NQ.out.2.1 b off hn e, by rw [show off + k * 29 = off + k * wd F_entry + 0 from rfl, this]; rfl, hnb.2.2.frozen _⟩
          obtain ⟨b, off, rfl, hD, hq, hcs, hfz⟩ := FACT
          have hsm := hov.cell ⟨b, off + k * 29, none⟩ hcs
          obtain ⟨old, hold⟩ := Option.isSome_iff_exists.1 hsm
          have hfr : wr.frozen? ⟨b, off + k * 29, none⟩ = false := (hov.frozen _).trans hfz
          have HOV2 : Hid (Ovr w2.heap.size w3.heap.size u (wr.setCell ⟨b, off + k * 29, none⟩ (.int .i64 (-1)))) := hov.set b _ _ old hD hq hold
          clear hov hcs hfz hsm
          go_wp2
          exact ⟨⟨k + 1, by omega, by go_num, HOV2.out⟩, by simp [intOf]; omega⟩
        · have HOV : Hid (Ovr w2.heap.size w3.heap.size u wr) := hov
          clear hov
          go_wp2
          go_loopw [11] (fun i wr => ∃ k : Nat, k ≤ rv.length ∧ i = .int .i64 k ∧ Ovr w2.heap.size w3.heap.size u wr) (fun i _ => rv.length - (intOf i).toNat)
          case atStart => exact ⟨0, Nat.zero_le _, rfl, HOV.out⟩
          case round =>
            obtain ⟨k, hk, rfl, hov⟩ := hrel
            have hbx : wr.cell? ⟨w3.heap.size, 45, none⟩ = some (.slice ra rv.length rc) := (World.cell?_of_block (a := ⟨w3.heap.size, 45, none⟩) (hov.block _ (.inr rfl))).trans BOX.out.2.2
            have hvl := HVL.out.2.2
            by_cases hlt : k < rv.length
            · have FACT : ∃ b off, ra = some ⟨b, off, none⟩ ∧ w2.heap.size ≤ b ∧ b ≠ w3.heap.size ∧ (u.cell? ⟨b, off + k * 11, none⟩).isSome = true ∧ u.frozen? ⟨b, off + k * 11, none⟩ = false := by
                        have hn : rv ≠ [] := by intro e; rw [e] at hlt; simp at hlt
                        obtain ⟨b, off, e, hnb, hc⟩ := ALL2.out.2 hn
                        obtain ⟨es, hre, hrg⟩ := hc k hlt
                        have hl : 0 < es.length := by rw [hre.len]; decide
                        have := hrg 0 es[0] (List.getElem?_eq_getElem hl)
                        exact ⟨b, off, e, hnb.1, NQ.out.2.2 b off hn e, by rw [show off + k * 11 = off + k * wd F_alloc + 0 from rfl, this]; rfl, hnb.2.2.frozen _⟩
              obtain ⟨b, off, rfl, hD, hq, hcs, hfz⟩ := FACT
              have hsm := hov.cell ⟨b, off + k * 11, none⟩ hcs
              obtain ⟨old, hold⟩ := Option.isSome_iff_exists.1 hsm
              have hfr : wr.frozen? ⟨b, off + k * 11, none⟩ = false := (hov.frozen _).trans hfz
              have HOV2 : Hid (Ovr w2.heap.size w3.heap.size u (wr.setCell ⟨b, off + k * 11, none⟩ (.int .i64 (-1)))) := hov.set b _ _ old hD hq hold
              clear hov hcs hfz hsm
              go_wp2
              exact ⟨⟨k + 1, by omega, by go_num, HOV2.out⟩, by simp [intOf]; omega⟩
            · have HOV : Hid (Ovr w2.heap.size w3.heap.size u wr) := hov
              clear hov
              have b4 : Below w2.heap.size w2 wr := B2U.out.trans (HOV.out.below.mono (Nat.le_refl _))
              have T4 := T2.trans (b4.mono T2.size)
              have kX : Bs wr aX (en F_msg vm).1 := hbsX.below b4 ltX
              have kY : Bs wr aY (en F_msg vm).1 := hbsY.below b4 ltY
              clear hbsX hbsY b4 HOV T2
              go_wp2_with fail
              refine (same_any aX aY _ _ cX cY (en F_msg vm).1 (en F_msg vm).1 wr rfl rfl kX kY).mono ?_
              rintro e w5 ⟨rfl, nq, hw5⟩
              have b5 : Below wr.heap.size wr w5 := by rw [hw5]; exact ⟨rfl, rfl, rfl, Nat.le_refl _, fun _ _ => rfl⟩
              simp only [decide_true]
              have T5 := T4.trans (b5.mono T4.size)
              replace kY := kY.grow b5
              clear hw5 b5 T4 kX
              have G : Hid (w5.heap[W.heap.size]? = some (.cells cm.toArray 69 (0, 0))) := (T5.block _ (by omega)).trans g_cm.out
              go_wp2_with (refine wpList_load_row rfl 69 (.tmp 1) rfl W.heap.size rfl 69 cm.toArray (0, 0) _ G.out Try.underlying69 rfl I_cm.out ?_)
              refine (putMsg_w cm vm _ (reps.out _ (HBA.out.trans (T5.mono (by omega))))).mono ?_
              rintro e w6 ⟨val, he, oZ, _, b6⟩
              simp only [codeB, bytesB, HF.out, Bool.false_eq_true, if_false] at he oZ
              obtain ⟨aZ, cZ, hv, hbsZ⟩ := oZ.form
              subst hv
              replace hbsZ := hbsZ (by have := en_len F_msg vm; have := mxl_msg; omega)
              subst he
              have T6 := T5.trans (b6.mono T5.size)
              replace kY := kY.grow b6
              clear oZ b6 T5 G
              go_wp2_with fail
              refine (same_any aZ aY _ _ cZ cY (en F_msg vm).1 (en F_msg vm).1 w6 rfl rfl hbsZ kY).mono ?_
              rintro e w7 ⟨rfl, nq2, hw7⟩
              have b7 : Below w6.heap.size w6 w7 := by rw [hw7]; exact ⟨rfl, rfl, rfl, Nat.le_refl _, fun _ _ => rfl⟩
              simp only [decide_true]
              have T7 := T6.trans (b7.mono T6.size)
              clear hw7 b7 T6 kY hbsZ
              go_wp2_with fail
              refine (known_any w7).mono ?_
              rintro e w8 ⟨rfl, b8⟩
              have T8 := T7.trans (b8.mono T7.size)
              go_wp2
              go_ret
              exact ⟨rfl, HBA.out.trans (T8.mono (by omega))⟩
theorem lawOwnsX (W : World) (ca : Array Value) (vm : Vl F_msg) (hr : Rep W (fun b => b < W.heap.size) F_msg ca.toList vm) (hz : szb F_msg vm ≤ 137438953472) :
    Calls Try.prog 7 #[.agg ca] W fun e w' => e = .returned (.bool true) ∧ Below W.heap.size W w' := by
  have e : ca = ca.toList.toArray := by rw [Array.toArray_toList]
  rw [e]
  cases h0 : (en F_msg vm).2
  · exact lawOwnsF W ca.toList vm hr hz h0
  · exact lawOwnsT W ca.toList vm hr hz h0

end Go.Proofs.Ytpbokgeaolpiaab
