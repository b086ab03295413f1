/- The law of commands and entries: they are written as the document says, read again, and written again. Made by program (wip/gen/cmds.py). -/
import Derived.Test.YtpbokgeaolpiaaaVpw
import Derived.Test.YtpbokgeaolpiaaaVpo
import Derived.Test.YtpbokgeaolpiaaaVpwen
import Derived.Test.YtpbokgeaolpiaaaVpoen
import Derived.Test.YtpbokgeaolpiaaaVgcm
import Derived.Test.YtpbokgeaolpiaaaVgen
import Derived.Test.YtpbokgeaolpiaaaVbo
import Derived.Test.YtpbokgeaolpiaaaKnow
namespace Go.Proofs.Ytpbokgeaolpiaaa
open Go.RowKit

theorem mxl_cmd : mx F_cmd ≤ 137438953472 := by decide +kernel

theorem mxl_entry : mx F_entry ≤ 137438953472 := by decide +kernel

set_option maxHeartbeats 4000000 in
set_option maxRecDepth 100000 in
theorem lawCmdsFF (W : World) (cx : List Value) (vx : Vl F_entry) (x0 x1 : Int) (cc : List Value) (vc : Vl F_cmd) (hcx : Hid (cx = [Value.int .i64 x0, Value.int .i64 x1] ++ cc)) (hr_cx : Rep W (fun b => b < W.heap.size) F_entry cx vx) (hr_cc : Rep W (fun b => b < W.heap.size) F_cmd cc vc) (hz_cx : szb F_entry vx ≤ 137438953472) (hz_cc : szb F_cmd vc ≤ 137438953472) (HF0 : Hid ((en F_cmd vc).2 = false)) (HF1 : Hid ((en F_entry vx).2 = false)) :
    Calls Try.prog 7 #[.agg cx.toArray] W fun e w' => e = .returned (.bool true) ∧ Below W.heap.size W w' := by
  have zA : (W.alloc (.cells cx.toArray 52)).heap.size = W.heap.size + 1 := by rw [World.size_alloc]
  have HBA : Hid (Below W.heap.size W (W.alloc (.cells cx.toArray 52))) := ((Below.refl _ _).alloc (by exact Nat.le_refl _) _)
  have g_cx : Hid ((W.alloc (.cells cx.toArray 52)).heap[W.heap.size]? = some (.cells cx.toArray 52 (0, 0))) := by
    show _ = _
    exact heap_alloc_new W _
  have I_cx : Hid ((Try.prog.info? 52).map (·.size) = some cx.toArray.size) := by show _ = _; rw [List.size_toArray, hr_cx.len]; kernel_rfl
  have J_cx : Hid ((Try.prog.info? 52).map (·.size) = some cx.length) := by show _ = _; rw [hr_cx.len]; kernel_rfl
  have I_cc : Hid ((Try.prog.info? 50).map (·.size) = some cc.toArray.size) := by show _ = _; rw [List.size_toArray, hr_cc.len]; kernel_rfl
  have J_cc : Hid ((Try.prog.info? 50).map (·.size) = some cc.length) := by show _ = _; rw [hr_cc.len]; kernel_rfl
  have reps : Hid (∀ w', Below W.heap.size W w' → Rep w' (fun b => b < w'.heap.size) F_entry cx vx ∧ Rep w' (fun b => b < w'.heap.size) F_cmd cc vc) := fun w' bw =>
    have m : ∀ b, b < W.heap.size → b < w'.heap.size := fun b hb => Nat.lt_of_lt_of_le hb bw.size
    ⟨hr_cx.kept bw.size (fun b hb => bw.block b hb) (m), hr_cc.kept bw.size (fun b hb => bw.block b hb) (m)⟩
  have T0 : Below (W.alloc (.cells cx.toArray 52)).heap.size (W.alloc (.cells cx.toArray 52)) (W.alloc (.cells cx.toArray 52)) := Below.refl _ _
  clear hr_cx hr_cc
  go_enter Try.func7, Try.ntmps7
  have G : Hid ((W.alloc (.cells cx.toArray 52)).rangeAt W.heap.size 2 cc) := by
    intro j u hu
    rw [cell_of_row (W.alloc (.cells cx.toArray 52)) _ _ _ 52 (0, 0) ((T0.block _ (by omega)).trans g_cx.out), hcx.out]
    have := List.getElem?_append_right (l₁ := [Value.int .i64 x0, Value.int .i64 x1]) (l₂ := cc) (i := 2 + j) (by simp)
    simpa [hu] using this
  go_wp2_with (refine wpList_load_mid rfl 50 (.tmp 14) rfl W.heap.size 2 rfl cc _ G.out Try.underlying50 rfl J_cc.out ?_)
  refine (putCmd_w cc vc _ (reps.out _ (HBA.out.trans (T0.mono (by omega)))).2).mono ?_
  rintro e w1 ⟨val, he, oX, _, b1⟩
  simp only [codeB, bytesB, HF0.out, Bool.false_eq_true, if_false] at he oX
  obtain ⟨aX, cX, hv, hbsX⟩ := oX.form
  have capX := (hv ▸ oX).cap
  subst hv
  replace hbsX := hbsX (by have := en_len F_cmd vc; have := mxl_cmd; omega)
  subst he
  have T1 := T0.trans (b1.mono T0.size)
  have ltX : ∀ y, aX = some y → y.block < w1.heap.size := fun y hy => oX.lt _ (by rw [hy]; rfl)
  clear T0 b1 oX G
  have G : Hid (w1.rangeAt W.heap.size 2 cc) := by
    intro j u hu
    rw [cell_of_row w1 _ _ _ 52 (0, 0) ((T1.block _ (by omega)).trans g_cx.out), hcx.out]
    have := List.getElem?_append_right (l₁ := [Value.int .i64 x0, Value.int .i64 x1]) (l₂ := cc) (i := 2 + j) (by simp)
    simpa [hu] using this
  go_wp2_with (refine wpList_load_mid rfl 50 (.tmp 20) rfl W.heap.size 2 rfl cc _ G.out Try.underlying50 rfl J_cc.out ?_)
  refine (putCmd_o cc vc _ hz_cc (reps.out _ (HBA.out.trans (T1.mono (by omega)))).2).mono ?_
  rintro e w2 ⟨val, he, oY, _, b2⟩
  simp only [codeB, bytesB, HF0.out, Bool.false_eq_true, if_false] at he oY
  obtain ⟨aY, cY, hv, hbsY⟩ := oY.form
  have capY := (hv ▸ oY).cap
  subst hv
  replace hbsY := hbsY (by have := en_len F_cmd vc; have := mxl_cmd; omega)
  subst he
  have T2 := T1.trans (b2.mono T1.size)
  replace hbsX := hbsX.grow b2
  replace ltX : ∀ y, aX = some y → y.block < _ := fun y hy => Nat.lt_of_lt_of_le (ltX y hy) b2.size
  clear T1 b2 oY G
  obtain ⟨OK, HOK⟩ : ∃ OK, Hid (decide ((de F_cmd (some (en F_cmd vc).1)).2 = some []) = OK) := ⟨_, rfl⟩
  have HOKV : Hid (OK = true) := by
    show OK = _
    rw [← HOK.out]
    have := de_en F_cmd vc [] HF0.out; rw [List.append_nil] at this; rw [this]; exact decide_eq_true rfl
  go_wp2_with fail
  refine (getv_cmd aX ((en F_cmd vc).1.length) cX (en F_cmd vc).1 w2 rfl capX hbsX ltX).mono ?_
  rintro e w3 ⟨cs0, vv0, he, hrep, hval, b3⟩
  rw [HOK.out, HOKV.out] at he
  subst he
  have HRE : Hid (Rep w3 (NB w2 w3) F_cmd cs0 vv0) := hrep
  have HVV : Hid (vv0 = vc) := by have h2 := de_en F_cmd vc [] HF0.out; rw [List.append_nil] at h2; have h3 := hval (by rw [h2]); rw [h2] at h3; exact h3
  have HCI : Hid ((Try.prog.info? 50).map (·.size) = some cs0.toArray.size) := by show _ = _; rw [List.size_toArray, hrep.len]; kernel_rfl
  have HCO : Hid (cs0.toArray.all (·.oneCell') = true) := hrep.all
  have HCS : Hid (Zr_cmd.size = cs0.toArray.size) := by
    have h : cs0.toArray.size = wd F_cmd := by rw [List.size_toArray]; exact hrep.len
    show Zr_cmd.size = cs0.toArray.size
    rw [h]; kernel_rfl
  have T3 := T2.trans (b3.mono T2.size)
  replace hbsX := hbsX.grow b3
  replace hbsY := hbsY.grow b3
  clear T2 b3 hrep hval ltX
  go_wp2_with (refine wpList_store_rowF rfl 50 (.tmp 7) (.tmp 28) rfl w3.heap.size cs0.toArray rfl rfl 50 Zr_cmd (heap_alloc_new w3 (.cells Zr_cmd 50)) HCI.out HCS.out HCO.out ?next)
  case next =>
  intro u0 hu
  have b4 : Below w3.heap.size w3 u0 := by
    rw [hu.out]
    exact ((Below.refl _ _).alloc (Nat.le_refl _) _).trans ⟨rfl, rfl, rfl, by simp [World.setRow], fun kk hkk => setRow_other _ _ _ _ (by omega)⟩
  have GU : Hid (u0.heap[w3.heap.size]? = some (.cells cs0.toArray 50 (0, 0))) := by
    show _ = _
    rw [hu.out]; exact setRow_heap _ _ _ _ 50 _ (heap_alloc_new w3 (.cells Zr_cmd 50))
  have HRE2 : Hid (Rep u0 (fun b => b < u0.heap.size) F_cmd cs0 vv0) := HRE.out.kept b4.size (fun b hb => b4.block b hb.2) (fun b hb => Nat.lt_of_lt_of_le hb.2 b4.size)
  have T4 := T3.trans (b4.mono T3.size)
  replace hbsX := hbsX.grow b4
  replace hbsY := hbsY.grow b4
  clear T3 b4 hu HRE
  go_wp2_with (refine wpList_load_row rfl 50 (.tmp 7) rfl w3.heap.size rfl 50 cs0.toArray (0, 0) _ GU.out Try.underlying50 rfl HCI.out ?_)
  refine (putCmd_w cs0 vv0 u0 HRE2.out).mono ?_
  rintro e w5 ⟨val, he, oZ, _, b5⟩
  rw [HVV.out] at he oZ
  simp only [codeB, bytesB, HF0.out, Bool.false_eq_true, if_false] at he oZ
  obtain ⟨aZ, cZ, hv, hbsZ⟩ := oZ.form
  subst hv
  subst he
  replace hbsZ := hbsZ (by have := en_len F_cmd vc; have := mxl_cmd; omega)
  have T5 := T4.trans (b5.mono T4.size)
  replace hbsX := hbsX.grow b5
  replace hbsY := hbsY.grow b5
  have KX : Hid _ := hbsX
  have KY : Hid _ := hbsY
  have KZ : Hid _ := hbsZ
  clear T4 oZ GU hbsX hbsY hbsZ b5
  go_wp2_with fail
  refine (both_ok aX aY aZ _ cX cY cZ (en F_cmd vc).1 w5 rfl KX.out KY.out KZ.out).mono ?_
  rintro e w6 ⟨rfl, b6⟩
  have T6 := T5.trans (b6.mono T5.size)
  clear T5 b6
  go_wp2_with fail
  refine (known_any w6).mono ?_
  rintro e w7 ⟨rfl, b7⟩
  have T7 := T6.trans (b7.mono T6.size)
  clear T6 b7
  have G : Hid (w7.heap[W.heap.size]? = some (.cells cx.toArray 52 (0, 0))) := (T7.block _ (by omega)).trans g_cx.out
  go_wp2_with (refine wpList_load_row rfl 52 (.tmp 1) rfl (W.heap.size) rfl 52 cx.toArray (0, 0) _ G.out Try.underlying52 rfl I_cx.out ?_)
  refine (putEntry_w cx vx _ (reps.out _ (HBA.out.trans (T7.mono (by omega)))).1).mono ?_
  rintro e w8 ⟨val, he, oX, _, b8⟩
  simp only [codeB, bytesB, HF1.out, Bool.false_eq_true, if_false] at he oX
  obtain ⟨aX, cX, hv, hbsX⟩ := oX.form
  have capX := (hv ▸ oX).cap
  subst hv
  replace hbsX := hbsX (by have := en_len F_entry vx; have := mxl_entry; omega)
  subst he
  have T8 := T7.trans (b8.mono T7.size)
  have ltX : ∀ y, aX = some y → y.block < w8.heap.size := fun y hy => oX.lt _ (by rw [hy]; rfl)
  clear T7 b8 oX G
  have G : Hid (w8.heap[W.heap.size]? = some (.cells cx.toArray 52 (0, 0))) := (T8.block _ (by omega)).trans g_cx.out
  go_wp2_with (refine wpList_load_row rfl 52 (.tmp 1) rfl (W.heap.size) rfl 52 cx.toArray (0, 0) _ G.out Try.underlying52 rfl I_cx.out ?_)
  refine (putEntry_o cx vx _ hz_cx (reps.out _ (HBA.out.trans (T8.mono (by omega)))).1).mono ?_
  rintro e w9 ⟨val, he, oY, _, b9⟩
  simp only [codeB, bytesB, HF1.out, Bool.false_eq_true, if_false] at he oY
  obtain ⟨aY, cY, hv, hbsY⟩ := oY.form
  have capY := (hv ▸ oY).cap
  subst hv
  replace hbsY := hbsY (by have := en_len F_entry vx; have := mxl_entry; omega)
  subst he
  have T9 := T8.trans (b9.mono T8.size)
  replace hbsX := hbsX.grow b9
  replace ltX : ∀ y, aX = some y → y.block < _ := fun y hy => Nat.lt_of_lt_of_le (ltX y hy) b9.size
  clear T8 b9 oY G
  obtain ⟨OK, HOK⟩ : ∃ OK, Hid (decide ((de F_entry (some (en F_entry vx).1)).2 = some []) = OK) := ⟨_, rfl⟩
  have HOKV : Hid (OK = true) := by
    show OK = _
    rw [← HOK.out]
    have := de_en F_entry vx [] HF1.out; rw [List.append_nil] at this; rw [this]; exact decide_eq_true rfl
  go_wp2_with fail
  refine (getv_entry aX ((en F_entry vx).1.length) cX (en F_entry vx).1 w9 rfl capX hbsX ltX).mono ?_
  rintro e w10 ⟨cs1, vv1, he, hrep, hval, b10⟩
  rw [HOK.out, HOKV.out] at he
  subst he
  have HRE : Hid (Rep w10 (NB w9 w10) F_entry cs1 vv1) := hrep
  have HVV : Hid (vv1 = vx) := by have h2 := de_en F_entry vx [] HF1.out; rw [List.append_nil] at h2; have h3 := hval (by rw [h2]); rw [h2] at h3; exact h3
  have HCI : Hid ((Try.prog.info? 52).map (·.size) = some cs1.toArray.size) := by show _ = _; rw [List.size_toArray, hrep.len]; kernel_rfl
  have HCO : Hid (cs1.toArray.all (·.oneCell') = true) := hrep.all
  have HCS : Hid (Zr_entry.size = cs1.toArray.size) := by
    have h : cs1.toArray.size = wd F_entry := by rw [List.size_toArray]; exact hrep.len
    show Zr_entry.size = cs1.toArray.size
    rw [h]; kernel_rfl
  have T10 := T9.trans (b10.mono T9.size)
  replace hbsX := hbsX.grow b10
  replace hbsY := hbsY.grow b10
  clear T9 b10 hrep hval ltX
  go_wp2_with (refine wpList_store_rowF rfl 52 (.tmp 11) (.tmp 61) rfl w10.heap.size cs1.toArray rfl rfl 52 Zr_entry (heap_alloc_new w10 (.cells Zr_entry 52)) HCI.out HCS.out HCO.out ?next)
  case next =>
  intro u1 hu
  have b11 : Below w10.heap.size w10 u1 := by
    rw [hu.out]
    exact ((Below.refl _ _).alloc (Nat.le_refl _) _).trans ⟨rfl, rfl, rfl, by simp [World.setRow], fun kk hkk => setRow_other _ _ _ _ (by omega)⟩
  have GU : Hid (u1.heap[w10.heap.size]? = some (.cells cs1.toArray 52 (0, 0))) := by
    show _ = _
    rw [hu.out]; exact setRow_heap _ _ _ _ 52 _ (heap_alloc_new w10 (.cells Zr_entry 52))
  have HRE2 : Hid (Rep u1 (fun b => b < u1.heap.size) F_entry cs1 vv1) := HRE.out.kept b11.size (fun b hb => b11.block b hb.2) (fun b hb => Nat.lt_of_lt_of_le hb.2 b11.size)
  have T11 := T10.trans (b11.mono T10.size)
  replace hbsX := hbsX.grow b11
  replace hbsY := hbsY.grow b11
  clear T10 b11 hu HRE
  go_wp2_with (refine wpList_load_row rfl 52 (.tmp 11) rfl w10.heap.size rfl 52 cs1.toArray (0, 0) _ GU.out Try.underlying52 rfl HCI.out ?_)
  refine (putEntry_w cs1 vv1 u1 HRE2.out).mono ?_
  rintro e w12 ⟨val, he, oZ, _, b12⟩
  rw [HVV.out] at he oZ
  simp only [codeB, bytesB, HF1.out, Bool.false_eq_true, if_false] at he oZ
  obtain ⟨aZ, cZ, hv, hbsZ⟩ := oZ.form
  subst hv
  subst he
  replace hbsZ := hbsZ (by have := en_len F_entry vx; have := mxl_entry; omega)
  have T12 := T11.trans (b12.mono T11.size)
  replace hbsX := hbsX.grow b12
  replace hbsY := hbsY.grow b12
  have KX : Hid _ := hbsX
  have KY : Hid _ := hbsY
  have KZ : Hid _ := hbsZ
  clear T11 oZ GU hbsX hbsY hbsZ b12
  go_wp2_with fail
  refine (both_ok aX aY aZ _ cX cY cZ (en F_entry vx).1 w12 rfl KX.out KY.out KZ.out).mono ?_
  rintro e w13 ⟨rfl, b13⟩
  have T13 := T12.trans (b13.mono T12.size)
  clear T12 b13
  go_wp2
  go_ret
  exact ⟨rfl, HBA.out.trans (T13.mono (by omega))⟩

set_option maxHeartbeats 4000000 in
set_option maxRecDepth 100000 in
theorem lawCmdsFT (W : World) (cx : List Value) (vx : Vl F_entry) (x0 x1 : Int) (cc : List Value) (vc : Vl F_cmd) (hcx : Hid (cx = [Value.int .i64 x0, Value.int .i64 x1] ++ cc)) (hr_cx : Rep W (fun b => b < W.heap.size) F_entry cx vx) (hr_cc : Rep W (fun b => b < W.heap.size) F_cmd cc vc) (hz_cx : szb F_entry vx ≤ 137438953472) (hz_cc : szb F_cmd vc ≤ 137438953472) (HF0 : Hid ((en F_cmd vc).2 = false)) (HF1 : Hid ((en F_entry vx).2 = true)) :
    Calls Try.prog 7 #[.agg cx.toArray] W fun e w' => e = .returned (.bool true) ∧ Below W.heap.size W w' := by
  have zA : (W.alloc (.cells cx.toArray 52)).heap.size = W.heap.size + 1 := by rw [World.size_alloc]
  have HBA : Hid (Below W.heap.size W (W.alloc (.cells cx.toArray 52))) := ((Below.refl _ _).alloc (by exact Nat.le_refl _) _)
  have g_cx : Hid ((W.alloc (.cells cx.toArray 52)).heap[W.heap.size]? = some (.cells cx.toArray 52 (0, 0))) := by
    show _ = _
    exact heap_alloc_new W _
  have I_cx : Hid ((Try.prog.info? 52).map (·.size) = some cx.toArray.size) := by show _ = _; rw [List.size_toArray, hr_cx.len]; kernel_rfl
  have J_cx : Hid ((Try.prog.info? 52).map (·.size) = some cx.length) := by show _ = _; rw [hr_cx.len]; kernel_rfl
  have I_cc : Hid ((Try.prog.info? 50).map (·.size) = some cc.toArray.size) := by show _ = _; rw [List.size_toArray, hr_cc.len]; kernel_rfl
  have J_cc : Hid ((Try.prog.info? 50).map (·.size) = some cc.length) := by show _ = _; rw [hr_cc.len]; kernel_rfl
  have reps : Hid (∀ w', Below W.heap.size W w' → Rep w' (fun b => b < w'.heap.size) F_entry cx vx ∧ Rep w' (fun b => b < w'.heap.size) F_cmd cc vc) := fun w' bw =>
    have m : ∀ b, b < W.heap.size → b < w'.heap.size := fun b hb => Nat.lt_of_lt_of_le hb bw.size
    ⟨hr_cx.kept bw.size (fun b hb => bw.block b hb) (m), hr_cc.kept bw.size (fun b hb => bw.block b hb) (m)⟩
  have T0 : Below (W.alloc (.cells cx.toArray 52)).heap.size (W.alloc (.cells cx.toArray 52)) (W.alloc (.cells cx.toArray 52)) := Below.refl _ _
  clear hr_cx hr_cc
  go_enter Try.func7, Try.ntmps7
  have G : Hid ((W.alloc (.cells cx.toArray 52)).rangeAt W.heap.size 2 cc) := by
    intro j u hu
    rw [cell_of_row (W.alloc (.cells cx.toArray 52)) _ _ _ 52 (0, 0) ((T0.block _ (by omega)).trans g_cx.out), hcx.out]
    have := List.getElem?_append_right (l₁ := [Value.int .i64 x0, Value.int .i64 x1]) (l₂ := cc) (i := 2 + j) (by simp)
    simpa [hu] using this
  go_wp2_with (refine wpList_load_mid rfl 50 (.tmp 14) rfl W.heap.size 2 rfl cc _ G.out Try.underlying50 rfl J_cc.out ?_)
  refine (putCmd_w cc vc _ (reps.out _ (HBA.out.trans (T0.mono (by omega)))).2).mono ?_
  rintro e w1 ⟨val, he, oX, _, b1⟩
  simp only [codeB, bytesB, HF0.out, Bool.false_eq_true, if_false] at he oX
  obtain ⟨aX, cX, hv, hbsX⟩ := oX.form
  have capX := (hv ▸ oX).cap
  subst hv
  replace hbsX := hbsX (by have := en_len F_cmd vc; have := mxl_cmd; omega)
  subst he
  have T1 := T0.trans (b1.mono T0.size)
  have ltX : ∀ y, aX = some y → y.block < w1.heap.size := fun y hy => oX.lt _ (by rw [hy]; rfl)
  clear T0 b1 oX G
  have G : Hid (w1.rangeAt W.heap.size 2 cc) := by
    intro j u hu
    rw [cell_of_row w1 _ _ _ 52 (0, 0) ((T1.block _ (by omega)).trans g_cx.out), hcx.out]
    have := List.getElem?_append_right (l₁ := [Value.int .i64 x0, Value.int .i64 x1]) (l₂ := cc) (i := 2 + j) (by simp)
    simpa [hu] using this
  go_wp2_with (refine wpList_load_mid rfl 50 (.tmp 20) rfl W.heap.size 2 rfl cc _ G.out Try.underlying50 rfl J_cc.out ?_)
  refine (putCmd_o cc vc _ hz_cc (reps.out _ (HBA.out.trans (T1.mono (by omega)))).2).mono ?_
  rintro e w2 ⟨val, he, oY, _, b2⟩
  simp only [codeB, bytesB, HF0.out, Bool.false_eq_true, if_false] at he oY
  obtain ⟨aY, cY, hv, hbsY⟩ := oY.form
  have capY := (hv ▸ oY).cap
  subst hv
  replace hbsY := hbsY (by have := en_len F_cmd vc; have := mxl_cmd; omega)
  subst he
  have T2 := T1.trans (b2.mono T1.size)
  replace hbsX := hbsX.grow b2
  replace ltX : ∀ y, aX = some y → y.block < _ := fun y hy => Nat.lt_of_lt_of_le (ltX y hy) b2.size
  clear T1 b2 oY G
  obtain ⟨OK, HOK⟩ : ∃ OK, Hid (decide ((de F_cmd (some (en F_cmd vc).1)).2 = some []) = OK) := ⟨_, rfl⟩
  have HOKV : Hid (OK = true) := by
    show OK = _
    rw [← HOK.out]
    have := de_en F_cmd vc [] HF0.out; rw [List.append_nil] at this; rw [this]; exact decide_eq_true rfl
  go_wp2_with fail
  refine (getv_cmd aX ((en F_cmd vc).1.length) cX (en F_cmd vc).1 w2 rfl capX hbsX ltX).mono ?_
  rintro e w3 ⟨cs0, vv0, he, hrep, hval, b3⟩
  rw [HOK.out, HOKV.out] at he
  subst he
  have HRE : Hid (Rep w3 (NB w2 w3) F_cmd cs0 vv0) := hrep
  have HVV : Hid (vv0 = vc) := by have h2 := de_en F_cmd vc [] HF0.out; rw [List.append_nil] at h2; have h3 := hval (by rw [h2]); rw [h2] at h3; exact h3
  have HCI : Hid ((Try.prog.info? 50).map (·.size) = some cs0.toArray.size) := by show _ = _; rw [List.size_toArray, hrep.len]; kernel_rfl
  have HCO : Hid (cs0.toArray.all (·.oneCell') = true) := hrep.all
  have HCS : Hid (Zr_cmd.size = cs0.toArray.size) := by
    have h : cs0.toArray.size = wd F_cmd := by rw [List.size_toArray]; exact hrep.len
    show Zr_cmd.size = cs0.toArray.size
    rw [h]; kernel_rfl
  have T3 := T2.trans (b3.mono T2.size)
  replace hbsX := hbsX.grow b3
  replace hbsY := hbsY.grow b3
  clear T2 b3 hrep hval ltX
  go_wp2_with (refine wpList_store_rowF rfl 50 (.tmp 7) (.tmp 28) rfl w3.heap.size cs0.toArray rfl rfl 50 Zr_cmd (heap_alloc_new w3 (.cells Zr_cmd 50)) HCI.out HCS.out HCO.out ?next)
  case next =>
  intro u0 hu
  have b4 : Below w3.heap.size w3 u0 := by
    rw [hu.out]
    exact ((Below.refl _ _).alloc (Nat.le_refl _) _).trans ⟨rfl, rfl, rfl, by simp [World.setRow], fun kk hkk => setRow_other _ _ _ _ (by omega)⟩
  have GU : Hid (u0.heap[w3.heap.size]? = some (.cells cs0.toArray 50 (0, 0))) := by
    show _ = _
    rw [hu.out]; exact setRow_heap _ _ _ _ 50 _ (heap_alloc_new w3 (.cells Zr_cmd 50))
  have HRE2 : Hid (Rep u0 (fun b => b < u0.heap.size) F_cmd cs0 vv0) := HRE.out.kept b4.size (fun b hb => b4.block b hb.2) (fun b hb => Nat.lt_of_lt_of_le hb.2 b4.size)
  have T4 := T3.trans (b4.mono T3.size)
  replace hbsX := hbsX.grow b4
  replace hbsY := hbsY.grow b4
  clear T3 b4 hu HRE
  go_wp2_with (refine wpList_load_row rfl 50 (.tmp 7) rfl w3.heap.size rfl 50 cs0.toArray (0, 0) _ GU.out Try.underlying50 rfl HCI.out ?_)
  refine (putCmd_w cs0 vv0 u0 HRE2.out).mono ?_
  rintro e w5 ⟨val, he, oZ, _, b5⟩
  rw [HVV.out] at he oZ
  simp only [codeB, bytesB, HF0.out, Bool.false_eq_true, if_false] at he oZ
  obtain ⟨aZ, cZ, hv, hbsZ⟩ := oZ.form
  subst hv
  subst he
  replace hbsZ := hbsZ (by have := en_len F_cmd vc; have := mxl_cmd; omega)
  have T5 := T4.trans (b5.mono T4.size)
  replace hbsX := hbsX.grow b5
  replace hbsY := hbsY.grow b5
  have KX : Hid _ := hbsX
  have KY : Hid _ := hbsY
  have KZ : Hid _ := hbsZ
  clear T4 oZ GU hbsX hbsY hbsZ b5
  go_wp2_with fail
  refine (both_ok aX aY aZ _ cX cY cZ (en F_cmd vc).1 w5 rfl KX.out KY.out KZ.out).mono ?_
  rintro e w6 ⟨rfl, b6⟩
  have T6 := T5.trans (b6.mono T5.size)
  clear T5 b6
  go_wp2_with fail
  refine (known_any w6).mono ?_
  rintro e w7 ⟨rfl, b7⟩
  have T7 := T6.trans (b7.mono T6.size)
  clear T6 b7
  have G : Hid (w7.heap[W.heap.size]? = some (.cells cx.toArray 52 (0, 0))) := (T7.block _ (by omega)).trans g_cx.out
  go_wp2_with (refine wpList_load_row rfl 52 (.tmp 1) rfl (W.heap.size) rfl 52 cx.toArray (0, 0) _ G.out Try.underlying52 rfl I_cx.out ?_)
  refine (putEntry_w cx vx _ (reps.out _ (HBA.out.trans (T7.mono (by omega)))).1).mono ?_
  rintro e w8 ⟨val, he, oX, _, b8⟩
  simp only [codeB, bytesB, HF1.out, if_true] at he oX
  obtain ⟨aX, cX, hv, hbsX⟩ := oX.form
  have capX := (hv ▸ oX).cap
  subst hv
  replace hbsX := hbsX (by simp only [List.length_nil]; omega)
  subst he
  have T8 := T7.trans (b8.mono T7.size)
  have ltX : ∀ y, aX = some y → y.block < w8.heap.size := fun y hy => oX.lt _ (by rw [hy]; rfl)
  clear T7 b8 oX G
  have G : Hid (w8.heap[W.heap.size]? = some (.cells cx.toArray 52 (0, 0))) := (T8.block _ (by omega)).trans g_cx.out
  go_wp2_with (refine wpList_load_row rfl 52 (.tmp 1) rfl (W.heap.size) rfl 52 cx.toArray (0, 0) _ G.out Try.underlying52 rfl I_cx.out ?_)
  refine (putEntry_o cx vx _ hz_cx (reps.out _ (HBA.out.trans (T8.mono (by omega)))).1).mono ?_
  rintro e w9 ⟨val, he, oY, _, b9⟩
  simp only [codeB, bytesB, HF1.out, if_true] at he oY
  obtain ⟨aY, cY, hv, hbsY⟩ := oY.form
  have capY := (hv ▸ oY).cap
  subst hv
  replace hbsY := hbsY (by simp only [List.length_nil]; omega)
  subst he
  have T9 := T8.trans (b9.mono T8.size)
  replace hbsX := hbsX.grow b9
  replace ltX : ∀ y, aX = some y → y.block < _ := fun y hy => Nat.lt_of_lt_of_le (ltX y hy) b9.size
  clear T8 b9 oY G
  obtain ⟨OK, HOK⟩ : ∃ OK, Hid (decide ((de F_entry (some [])).2 = some []) = OK) := ⟨_, rfl⟩
  have HOKV : Hid (OK = false) := by
    show OK = _
    rw [← HOK.out]
    exact decide_eq_false (by rw [show (de F_entry (some [])).2 = none from de_nil _]; simp)
  go_wp2_with fail
  refine (getv_entry aX (0) cX [] w9 rfl capX hbsX ltX).mono ?_
  rintro e w10 ⟨cs1, vv1, he, hrep, hval, b10⟩
  rw [HOK.out, HOKV.out] at he
  subst he
  have HRE : Hid (Rep w10 (NB w9 w10) F_entry cs1 vv1) := hrep
  have HVV : Hid (vv1 = vv1) := rfl
  have HCI : Hid ((Try.prog.info? 52).map (·.size) = some cs1.toArray.size) := by show _ = _; rw [List.size_toArray, hrep.len]; kernel_rfl
  have HCO : Hid (cs1.toArray.all (·.oneCell') = true) := hrep.all
  have HCS : Hid (Zr_entry.size = cs1.toArray.size) := by
    have h : cs1.toArray.size = wd F_entry := by rw [List.size_toArray]; exact hrep.len
    show Zr_entry.size = cs1.toArray.size
    rw [h]; kernel_rfl
  have T10 := T9.trans (b10.mono T9.size)
  replace hbsX := hbsX.grow b10
  replace hbsY := hbsY.grow b10
  clear T9 b10 hrep hval ltX
  go_wp2_with (refine wpList_store_rowF rfl 52 (.tmp 11) (.tmp 61) rfl w10.heap.size cs1.toArray rfl rfl 52 Zr_entry (heap_alloc_new w10 (.cells Zr_entry 52)) HCI.out HCS.out HCO.out ?next)
  case next =>
  intro u1 hu
  have b11 : Below w10.heap.size w10 u1 := by
    rw [hu.out]
    exact ((Below.refl _ _).alloc (Nat.le_refl _) _).trans ⟨rfl, rfl, rfl, by simp [World.setRow], fun kk hkk => setRow_other _ _ _ _ (by omega)⟩
  have GU : Hid (u1.heap[w10.heap.size]? = some (.cells cs1.toArray 52 (0, 0))) := by
    show _ = _
    rw [hu.out]; exact setRow_heap _ _ _ _ 52 _ (heap_alloc_new w10 (.cells Zr_entry 52))
  have HRE2 : Hid (Rep u1 (fun b => b < u1.heap.size) F_entry cs1 vv1) := HRE.out.kept b11.size (fun b hb => b11.block b hb.2) (fun b hb => Nat.lt_of_lt_of_le hb.2 b11.size)
  have T11 := T10.trans (b11.mono T10.size)
  replace hbsX := hbsX.grow b11
  replace hbsY := hbsY.grow b11
  clear T10 b11 hu HRE
  go_wp2_with (refine wpList_load_row rfl 52 (.tmp 11) rfl w10.heap.size rfl 52 cs1.toArray (0, 0) _ GU.out Try.underlying52 rfl HCI.out ?_)
  refine (putEntry_w cs1 vv1 u1 HRE2.out).mono ?_
  rintro e w12 ⟨val, he, oZ, _, b12⟩
  obtain ⟨aZ, cZ, hv, hbsZ⟩ := oZ.form
  subst hv
  subst he
  obtain ⟨gz, hgz⟩ : ∃ gz, Hid (codeB (en F_entry vv1).2 = gz) := ⟨_, rfl⟩
  rw [hgz.out]
  have T12 := T11.trans (b12.mono T11.size)
  clear T11 oZ GU hbsZ hbsX hbsY
  go_wp2_with fail
  refine (both_bad aX aY aZ _ cX cY cZ gz w12).mono ?_
  rintro e w13 ⟨rfl, b13⟩
  have T13 := T12.trans (b13.mono T12.size)
  clear T12 b13
  go_wp2
  go_ret
  exact ⟨rfl, HBA.out.trans (T13.mono (by omega))⟩

set_option maxHeartbeats 4000000 in
set_option maxRecDepth 100000 in
theorem lawCmdsTF (W : World) (cx : List Value) (vx : Vl F_entry) (x0 x1 : Int) (cc : List Value) (vc : Vl F_cmd) (hcx : Hid (cx = [Value.int .i64 x0, Value.int .i64 x1] ++ cc)) (hr_cx : Rep W (fun b => b < W.heap.size) F_entry cx vx) (hr_cc : Rep W (fun b => b < W.heap.size) F_cmd cc vc) (hz_cx : szb F_entry vx ≤ 137438953472) (hz_cc : szb F_cmd vc ≤ 137438953472) (HF0 : Hid ((en F_cmd vc).2 = true)) (HF1 : Hid ((en F_entry vx).2 = false)) :
    Calls Try.prog 7 #[.agg cx.toArray] W fun e w' => e = .returned (.bool true) ∧ Below W.heap.size W w' := by
  have zA : (W.alloc (.cells cx.toArray 52)).heap.size = W.heap.size + 1 := by rw [World.size_alloc]
  have HBA : Hid (Below W.heap.size W (W.alloc (.cells cx.toArray 52))) := ((Below.refl _ _).alloc (by exact Nat.le_refl _) _)
  have g_cx : Hid ((W.alloc (.cells cx.toArray 52)).heap[W.heap.size]? = some (.cells cx.toArray 52 (0, 0))) := by
    show _ = _
    exact heap_alloc_new W _
  have I_cx : Hid ((Try.prog.info? 52).map (·.size) = some cx.toArray.size) := by show _ = _; rw [List.size_toArray, hr_cx.len]; kernel_rfl
  have J_cx : Hid ((Try.prog.info? 52).map (·.size) = some cx.length) := by show _ = _; rw [hr_cx.len]; kernel_rfl
  have I_cc : Hid ((Try.prog.info? 50).map (·.size) = some cc.toArray.size) := by show _ = _; rw [List.size_toArray, hr_cc.len]; kernel_rfl
  have J_cc : Hid ((Try.prog.info? 50).map (·.size) = some cc.length) := by show _ = _; rw [hr_cc.len]; kernel_rfl
  have reps : Hid (∀ w', Below W.heap.size W w' → Rep w' (fun b => b < w'.heap.size) F_entry cx vx ∧ Rep w' (fun b => b < w'.heap.size) F_cmd cc vc) := fun w' bw =>
    have m : ∀ b, b < W.heap.size → b < w'.heap.size := fun b hb => Nat.lt_of_lt_of_le hb bw.size
    ⟨hr_cx.kept bw.size (fun b hb => bw.block b hb) (m), hr_cc.kept bw.size (fun b hb => bw.block b hb) (m)⟩
  have T0 : Below (W.alloc (.cells cx.toArray 52)).heap.size (W.alloc (.cells cx.toArray 52)) (W.alloc (.cells cx.toArray 52)) := Below.refl _ _
  clear hr_cx hr_cc
  go_enter Try.func7, Try.ntmps7
  have G : Hid ((W.alloc (.cells cx.toArray 52)).rangeAt W.heap.size 2 cc) := by
    intro j u hu
    rw [cell_of_row (W.alloc (.cells cx.toArray 52)) _ _ _ 52 (0, 0) ((T0.block _ (by omega)).trans g_cx.out), hcx.out]
    have := List.getElem?_append_right (l₁ := [Value.int .i64 x0, Value.int .i64 x1]) (l₂ := cc) (i := 2 + j) (by simp)
    simpa [hu] using this
  go_wp2_with (refine wpList_load_mid rfl 50 (.tmp 14) rfl W.heap.size 2 rfl cc _ G.out Try.underlying50 rfl J_cc.out ?_)
  refine (putCmd_w cc vc _ (reps.out _ (HBA.out.trans (T0.mono (by omega)))).2).mono ?_
  rintro e w1 ⟨val, he, oX, _, b1⟩
  simp only [codeB, bytesB, HF0.out, if_true] at he oX
  obtain ⟨aX, cX, hv, hbsX⟩ := oX.form
  have capX := (hv ▸ oX).cap
  subst hv
  replace hbsX := hbsX (by simp only [List.length_nil]; omega)
  subst he
  have T1 := T0.trans (b1.mono T0.size)
  have ltX : ∀ y, aX = some y → y.block < w1.heap.size := fun y hy => oX.lt _ (by rw [hy]; rfl)
  clear T0 b1 oX G
  have G : Hid (w1.rangeAt W.heap.size 2 cc) := by
    intro j u hu
    rw [cell_of_row w1 _ _ _ 52 (0, 0) ((T1.block _ (by omega)).trans g_cx.out), hcx.out]
    have := List.getElem?_append_right (l₁ := [Value.int .i64 x0, Value.int .i64 x1]) (l₂ := cc) (i := 2 + j) (by simp)
    simpa [hu] using this
  go_wp2_with (refine wpList_load_mid rfl 50 (.tmp 20) rfl W.heap.size 2 rfl cc _ G.out Try.underlying50 rfl J_cc.out ?_)
  refine (putCmd_o cc vc _ hz_cc (reps.out _ (HBA.out.trans (T1.mono (by omega)))).2).mono ?_
  rintro e w2 ⟨val, he, oY, _, b2⟩
  simp only [codeB, bytesB, HF0.out, if_true] at he oY
  obtain ⟨aY, cY, hv, hbsY⟩ := oY.form
  have capY := (hv ▸ oY).cap
  subst hv
  replace hbsY := hbsY (by simp only [List.length_nil]; omega)
  subst he
  have T2 := T1.trans (b2.mono T1.size)
  replace hbsX := hbsX.grow b2
  replace ltX : ∀ y, aX = some y → y.block < _ := fun y hy => Nat.lt_of_lt_of_le (ltX y hy) b2.size
  clear T1 b2 oY G
  obtain ⟨OK, HOK⟩ : ∃ OK, Hid (decide ((de F_cmd (some [])).2 = some []) = OK) := ⟨_, rfl⟩
  have HOKV : Hid (OK = false) := by
    show OK = _
    rw [← HOK.out]
    exact decide_eq_false (by rw [show (de F_cmd (some [])).2 = none from de_nil _]; simp)
  go_wp2_with fail
  refine (getv_cmd aX (0) cX [] w2 rfl capX hbsX ltX).mono ?_
  rintro e w3 ⟨cs0, vv0, he, hrep, hval, b3⟩
  rw [HOK.out, HOKV.out] at he
  subst he
  have HRE : Hid (Rep w3 (NB w2 w3) F_cmd cs0 vv0) := hrep
  have HVV : Hid (vv0 = vv0) := rfl
  have HCI : Hid ((Try.prog.info? 50).map (·.size) = some cs0.toArray.size) := by show _ = _; rw [List.size_toArray, hrep.len]; kernel_rfl
  have HCO : Hid (cs0.toArray.all (·.oneCell') = true) := hrep.all
  have HCS : Hid (Zr_cmd.size = cs0.toArray.size) := by
    have h : cs0.toArray.size = wd F_cmd := by rw [List.size_toArray]; exact hrep.len
    show Zr_cmd.size = cs0.toArray.size
    rw [h]; kernel_rfl
  have T3 := T2.trans (b3.mono T2.size)
  replace hbsX := hbsX.grow b3
  replace hbsY := hbsY.grow b3
  clear T2 b3 hrep hval ltX
  go_wp2_with (refine wpList_store_rowF rfl 50 (.tmp 7) (.tmp 28) rfl w3.heap.size cs0.toArray rfl rfl 50 Zr_cmd (heap_alloc_new w3 (.cells Zr_cmd 50)) HCI.out HCS.out HCO.out ?next)
  case next =>
  intro u0 hu
  have b4 : Below w3.heap.size w3 u0 := by
    rw [hu.out]
    exact ((Below.refl _ _).alloc (Nat.le_refl _) _).trans ⟨rfl, rfl, rfl, by simp [World.setRow], fun kk hkk => setRow_other _ _ _ _ (by omega)⟩
  have GU : Hid (u0.heap[w3.heap.size]? = some (.cells cs0.toArray 50 (0, 0))) := by
    show _ = _
    rw [hu.out]; exact setRow_heap _ _ _ _ 50 _ (heap_alloc_new w3 (.cells Zr_cmd 50))
  have HRE2 : Hid (Rep u0 (fun b => b < u0.heap.size) F_cmd cs0 vv0) := HRE.out.kept b4.size (fun b hb => b4.block b hb.2) (fun b hb => Nat.lt_of_lt_of_le hb.2 b4.size)
  have T4 := T3.trans (b4.mono T3.size)
  replace hbsX := hbsX.grow b4
  replace hbsY := hbsY.grow b4
  clear T3 b4 hu HRE
  go_wp2_with (refine wpList_load_row rfl 50 (.tmp 7) rfl w3.heap.size rfl 50 cs0.toArray (0, 0) _ GU.out Try.underlying50 rfl HCI.out ?_)
  refine (putCmd_w cs0 vv0 u0 HRE2.out).mono ?_
  rintro e w5 ⟨val, he, oZ, _, b5⟩
  obtain ⟨aZ, cZ, hv, hbsZ⟩ := oZ.form
  subst hv
  subst he
  obtain ⟨gz, hgz⟩ : ∃ gz, Hid (codeB (en F_cmd vv0).2 = gz) := ⟨_, rfl⟩
  rw [hgz.out]
  have T5 := T4.trans (b5.mono T4.size)
  clear T4 oZ GU hbsZ hbsX hbsY
  go_wp2_with fail
  refine (both_bad aX aY aZ _ cX cY cZ gz w5).mono ?_
  rintro e w6 ⟨rfl, b6⟩
  have T6 := T5.trans (b6.mono T5.size)
  clear T5 b6
  go_wp2_with fail
  refine (known_any w6).mono ?_
  rintro e w7 ⟨rfl, b7⟩
  have T7 := T6.trans (b7.mono T6.size)
  clear T6 b7
  have G : Hid (w7.heap[W.heap.size]? = some (.cells cx.toArray 52 (0, 0))) := (T7.block _ (by omega)).trans g_cx.out
  go_wp2_with (refine wpList_load_row rfl 52 (.tmp 1) rfl (W.heap.size) rfl 52 cx.toArray (0, 0) _ G.out Try.underlying52 rfl I_cx.out ?_)
  refine (putEntry_w cx vx _ (reps.out _ (HBA.out.trans (T7.mono (by omega)))).1).mono ?_
  rintro e w8 ⟨val, he, oX, _, b8⟩
  simp only [codeB, bytesB, HF1.out, Bool.false_eq_true, if_false] at he oX
  obtain ⟨aX, cX, hv, hbsX⟩ := oX.form
  have capX := (hv ▸ oX).cap
  subst hv
  replace hbsX := hbsX (by have := en_len F_entry vx; have := mxl_entry; omega)
  subst he
  have T8 := T7.trans (b8.mono T7.size)
  have ltX : ∀ y, aX = some y → y.block < w8.heap.size := fun y hy => oX.lt _ (by rw [hy]; rfl)
  clear T7 b8 oX G
  have G : Hid (w8.heap[W.heap.size]? = some (.cells cx.toArray 52 (0, 0))) := (T8.block _ (by omega)).trans g_cx.out
  go_wp2_with (refine wpList_load_row rfl 52 (.tmp 1) rfl (W.heap.size) rfl 52 cx.toArray (0, 0) _ G.out Try.underlying52 rfl I_cx.out ?_)
  refine (putEntry_o cx vx _ hz_cx (reps.out _ (HBA.out.trans (T8.mono (by omega)))).1).mono ?_
  rintro e w9 ⟨val, he, oY, _, b9⟩
  simp only [codeB, bytesB, HF1.out, Bool.false_eq_true, if_false] at he oY
  obtain ⟨aY, cY, hv, hbsY⟩ := oY.form
  have capY := (hv ▸ oY).cap
  subst hv
  replace hbsY := hbsY (by have := en_len F_entry vx; have := mxl_entry; omega)
  subst he
  have T9 := T8.trans (b9.mono T8.size)
  replace hbsX := hbsX.grow b9
  replace ltX : ∀ y, aX = some y → y.block < _ := fun y hy => Nat.lt_of_lt_of_le (ltX y hy) b9.size
  clear T8 b9 oY G
  obtain ⟨OK, HOK⟩ : ∃ OK, Hid (decide ((de F_entry (some (en F_entry vx).1)).2 = some []) = OK) := ⟨_, rfl⟩
  have HOKV : Hid (OK = true) := by
    show OK = _
    rw [← HOK.out]
    have := de_en F_entry vx [] HF1.out; rw [List.append_nil] at this; rw [this]; exact decide_eq_true rfl
  go_wp2_with fail
  refine (getv_entry aX ((en F_entry vx).1.length) cX (en F_entry vx).1 w9 rfl capX hbsX ltX).mono ?_
  rintro e w10 ⟨cs1, vv1, he, hrep, hval, b10⟩
  rw [HOK.out, HOKV.out] at he
  subst he
  have HRE : Hid (Rep w10 (NB w9 w10) F_entry cs1 vv1) := hrep
  have HVV : Hid (vv1 = vx) := by have h2 := de_en F_entry vx [] HF1.out; rw [List.append_nil] at h2; have h3 := hval (by rw [h2]); rw [h2] at h3; exact h3
  have HCI : Hid ((Try.prog.info? 52).map (·.size) = some cs1.toArray.size) := by show _ = _; rw [List.size_toArray, hrep.len]; kernel_rfl
  have HCO : Hid (cs1.toArray.all (·.oneCell') = true) := hrep.all
  have HCS : Hid (Zr_entry.size = cs1.toArray.size) := by
    have h : cs1.toArray.size = wd F_entry := by rw [List.size_toArray]; exact hrep.len
    show Zr_entry.size = cs1.toArray.size
    rw [h]; kernel_rfl
  have T10 := T9.trans (b10.mono T9.size)
  replace hbsX := hbsX.grow b10
  replace hbsY := hbsY.grow b10
  clear T9 b10 hrep hval ltX
  go_wp2_with (refine wpList_store_rowF rfl 52 (.tmp 11) (.tmp 61) rfl w10.heap.size cs1.toArray rfl rfl 52 Zr_entry (heap_alloc_new w10 (.cells Zr_entry 52)) HCI.out HCS.out HCO.out ?next)
  case next =>
  intro u1 hu
  have b11 : Below w10.heap.size w10 u1 := by
    rw [hu.out]
    exact ((Below.refl _ _).alloc (Nat.le_refl _) _).trans ⟨rfl, rfl, rfl, by simp [World.setRow], fun kk hkk => setRow_other _ _ _ _ (by omega)⟩
  have GU : Hid (u1.heap[w10.heap.size]? = some (.cells cs1.toArray 52 (0, 0))) := by
    show _ = _
    rw [hu.out]; exact setRow_heap _ _ _ _ 52 _ (heap_alloc_new w10 (.cells Zr_entry 52))
  have HRE2 : Hid (Rep u1 (fun b => b < u1.heap.size) F_entry cs1 vv1) := HRE.out.kept b11.size (fun b hb => b11.block b hb.2) (fun b hb => Nat.lt_of_lt_of_le hb.2 b11.size)
  have T11 := T10.trans (b11.mono T10.size)
  replace hbsX := hbsX.grow b11
  replace hbsY := hbsY.grow b11
  clear T10 b11 hu HRE
  go_wp2_with (refine wpList_load_row rfl 52 (.tmp 11) rfl w10.heap.size rfl 52 cs1.toArray (0, 0) _ GU.out Try.underlying52 rfl HCI.out ?_)
  refine (putEntry_w cs1 vv1 u1 HRE2.out).mono ?_
  rintro e w12 ⟨val, he, oZ, _, b12⟩
  rw [HVV.out] at he oZ
  simp only [codeB, bytesB, HF1.out, Bool.false_eq_true, if_false] at he oZ
  obtain ⟨aZ, cZ, hv, hbsZ⟩ := oZ.form
  subst hv
  subst he
  replace hbsZ := hbsZ (by have := en_len F_entry vx; have := mxl_entry; omega)
  have T12 := T11.trans (b12.mono T11.size)
  replace hbsX := hbsX.grow b12
  replace hbsY := hbsY.grow b12
  have KX : Hid _ := hbsX
  have KY : Hid _ := hbsY
  have KZ : Hid _ := hbsZ
  clear T11 oZ GU hbsX hbsY hbsZ b12
  go_wp2_with fail
  refine (both_ok aX aY aZ _ cX cY cZ (en F_entry vx).1 w12 rfl KX.out KY.out KZ.out).mono ?_
  rintro e w13 ⟨rfl, b13⟩
  have T13 := T12.trans (b13.mono T12.size)
  clear T12 b13
  go_wp2
  go_ret
  exact ⟨rfl, HBA.out.trans (T13.mono (by omega))⟩

set_option maxHeartbeats 4000000 in
set_option maxRecDepth 100000 in
theorem lawCmdsTT (W : World) (cx : List Value) (vx : Vl F_entry) (x0 x1 : Int) (cc : List Value) (vc : Vl F_cmd) (hcx : Hid (cx = [Value.int .i64 x0, Value.int .i64 x1] ++ cc)) (hr_cx : Rep W (fun b => b < W.heap.size) F_entry cx vx) (hr_cc : Rep W (fun b => b < W.heap.size) F_cmd cc vc) (hz_cx : szb F_entry vx ≤ 137438953472) (hz_cc : szb F_cmd vc ≤ 137438953472) (HF0 : Hid ((en F_cmd vc).2 = true)) (HF1 : Hid ((en F_entry vx).2 = true)) :
    Calls Try.prog 7 #[.agg cx.toArray] W fun e w' => e = .returned (.bool true) ∧ Below W.heap.size W w' := by
  have zA : (W.alloc (.cells cx.toArray 52)).heap.size = W.heap.size + 1 := by rw [World.size_alloc]
  have HBA : Hid (Below W.heap.size W (W.alloc (.cells cx.toArray 52))) := ((Below.refl _ _).alloc (by exact Nat.le_refl _) _)
  have g_cx : Hid ((W.alloc (.cells cx.toArray 52)).heap[W.heap.size]? = some (.cells cx.toArray 52 (0, 0))) := by
    show _ = _
    exact heap_alloc_new W _
  have I_cx : Hid ((Try.prog.info? 52).map (·.size) = some cx.toArray.size) := by show _ = _; rw [List.size_toArray, hr_cx.len]; kernel_rfl
  have J_cx : Hid ((Try.prog.info? 52).map (·.size) = some cx.length) := by show _ = _; rw [hr_cx.len]; kernel_rfl
  have I_cc : Hid ((Try.prog.info? 50).map (·.size) = some cc.toArray.size) := by show _ = _; rw [List.size_toArray, hr_cc.len]; kernel_rfl
  have J_cc : Hid ((Try.prog.info? 50).map (·.size) = some cc.length) := by show _ = _; rw [hr_cc.len]; kernel_rfl
  have reps : Hid (∀ w', Below W.heap.size W w' → Rep w' (fun b => b < w'.heap.size) F_entry cx vx ∧ Rep w' (fun b => b < w'.heap.size) F_cmd cc vc) := fun w' bw =>
    have m : ∀ b, b < W.heap.size → b < w'.heap.size := fun b hb => Nat.lt_of_lt_of_le hb bw.size
    ⟨hr_cx.kept bw.size (fun b hb => bw.block b hb) (m), hr_cc.kept bw.size (fun b hb => bw.block b hb) (m)⟩
  have T0 : Below (W.alloc (.cells cx.toArray 52)).heap.size (W.alloc (.cells cx.toArray 52)) (W.alloc (.cells cx.toArray 52)) := Below.refl _ _
  clear hr_cx hr_cc
  go_enter Try.func7, Try.ntmps7
  have G : Hid ((W.alloc (.cells cx.toArray 52)).rangeAt W.heap.size 2 cc) := by
    intro j u hu
    rw [cell_of_row (W.alloc (.cells cx.toArray 52)) _ _ _ 52 (0, 0) ((T0.block _ (by omega)).trans g_cx.out), hcx.out]
    have := List.getElem?_append_right (l₁ := [Value.int .i64 x0, Value.int .i64 x1]) (l₂ := cc) (i := 2 + j) (by simp)
    simpa [hu] using this
  go_wp2_with (refine wpList_load_mid rfl 50 (.tmp 14) rfl W.heap.size 2 rfl cc _ G.out Try.underlying50 rfl J_cc.out ?_)
  refine (putCmd_w cc vc _ (reps.out _ (HBA.out.trans (T0.mono (by omega)))).2).mono ?_
  rintro e w1 ⟨val, he, oX, _, b1⟩
  simp only [codeB, bytesB, HF0.out, if_true] at he oX
  obtain ⟨aX, cX, hv, hbsX⟩ := oX.form
  have capX := (hv ▸ oX).cap
  subst hv
  replace hbsX := hbsX (by simp only [List.length_nil]; omega)
  subst he
  have T1 := T0.trans (b1.mono T0.size)
  have ltX : ∀ y, aX = some y → y.block < w1.heap.size := fun y hy => oX.lt _ (by rw [hy]; rfl)
  clear T0 b1 oX G
  have G : Hid (w1.rangeAt W.heap.size 2 cc) := by
    intro j u hu
    rw [cell_of_row w1 _ _ _ 52 (0, 0) ((T1.block _ (by omega)).trans g_cx.out), hcx.out]
    have := List.getElem?_append_right (l₁ := [Value.int .i64 x0, Value.int .i64 x1]) (l₂ := cc) (i := 2 + j) (by simp)
    simpa [hu] using this
  go_wp2_with (refine wpList_load_mid rfl 50 (.tmp 20) rfl W.heap.size 2 rfl cc _ G.out Try.underlying50 rfl J_cc.out ?_)
  refine (putCmd_o cc vc _ hz_cc (reps.out _ (HBA.out.trans (T1.mono (by omega)))).2).mono ?_
  rintro e w2 ⟨val, he, oY, _, b2⟩
  simp only [codeB, bytesB, HF0.out, if_true] at he oY
  obtain ⟨aY, cY, hv, hbsY⟩ := oY.form
  have capY := (hv ▸ oY).cap
  subst hv
  replace hbsY := hbsY (by simp only [List.length_nil]; omega)
  subst he
  have T2 := T1.trans (b2.mono T1.size)
  replace hbsX := hbsX.grow b2
  replace ltX : ∀ y, aX = some y → y.block < _ := fun y hy => Nat.lt_of_lt_of_le (ltX y hy) b2.size
  clear T1 b2 oY G
  obtain ⟨OK, HOK⟩ : ∃ OK, Hid (decide ((de F_cmd (some [])).2 = some []) = OK) := ⟨_, rfl⟩
  have HOKV : Hid (OK = false) := by
    show OK = _
    rw [← HOK.out]
    exact decide_eq_false (by rw [show (de F_cmd (some [])).2 = none from de_nil _]; simp)
  go_wp2_with fail
  refine (getv_cmd aX (0) cX [] w2 rfl capX hbsX ltX).mono ?_
  rintro e w3 ⟨cs0, vv0, he, hrep, hval, b3⟩
  rw [HOK.out, HOKV.out] at he
  subst he
  have HRE : Hid (Rep w3 (NB w2 w3) F_cmd cs0 vv0) := hrep
  have HVV : Hid (vv0 = vv0) := rfl
  have HCI : Hid ((Try.prog.info? 50).map (·.size) = some cs0.toArray.size) := by show _ = _; rw [List.size_toArray, hrep.len]; kernel_rfl
  have HCO : Hid (cs0.toArray.all (·.oneCell') = true) := hrep.all
  have HCS : Hid (Zr_cmd.size = cs0.toArray.size) := by
    have h : cs0.toArray.size = wd F_cmd := by rw [List.size_toArray]; exact hrep.len
    show Zr_cmd.size = cs0.toArray.size
    rw [h]; kernel_rfl
  have T3 := T2.trans (b3.mono T2.size)
  replace hbsX := hbsX.grow b3
  replace hbsY := hbsY.grow b3
  clear T2 b3 hrep hval ltX
  go_wp2_with (refine wpList_store_rowF rfl 50 (.tmp 7) (.tmp 28) rfl w3.heap.size cs0.toArray rfl rfl 50 Zr_cmd (heap_alloc_new w3 (.cells Zr_cmd 50)) HCI.out HCS.out HCO.out ?next)
  case next =>
  intro u0 hu
  have b4 : Below w3.heap.size w3 u0 := by
    rw [hu.out]
    exact ((Below.refl _ _).alloc (Nat.le_refl _) _).trans ⟨rfl, rfl, rfl, by simp [World.setRow], fun kk hkk => setRow_other _ _ _ _ (by omega)⟩
  have GU : Hid (u0.heap[w3.heap.size]? = some (.cells cs0.toArray 50 (0, 0))) := by
    show _ = _
    rw [hu.out]; exact setRow_heap _ _ _ _ 50 _ (heap_alloc_new w3 (.cells Zr_cmd 50))
  have HRE2 : Hid (Rep u0 (fun b => b < u0.heap.size) F_cmd cs0 vv0) := HRE.out.kept b4.size (fun b hb => b4.block b hb.2) (fun b hb => Nat.lt_of_lt_of_le hb.2 b4.size)
  have T4 := T3.trans (b4.mono T3.size)
  replace hbsX := hbsX.grow b4
  replace hbsY := hbsY.grow b4
  clear T3 b4 hu HRE
  go_wp2_with (refine wpList_load_row rfl 50 (.tmp 7) rfl w3.heap.size rfl 50 cs0.toArray (0, 0) _ GU.out Try.underlying50 rfl HCI.out ?_)
  refine (putCmd_w cs0 vv0 u0 HRE2.out).mono ?_
  rintro e w5 ⟨val, he, oZ, _, b5⟩
  obtain ⟨aZ, cZ, hv, hbsZ⟩ := oZ.form
  subst hv
  subst he
  obtain ⟨gz, hgz⟩ : ∃ gz, Hid (codeB (en F_cmd vv0).2 = gz) := ⟨_, rfl⟩
  rw [hgz.out]
  have T5 := T4.trans (b5.mono T4.size)
  clear T4 oZ GU hbsZ hbsX hbsY
  go_wp2_with fail
  refine (both_bad aX aY aZ _ cX cY cZ gz w5).mono ?_
  rintro e w6 ⟨rfl, b6⟩
  have T6 := T5.trans (b6.mono T5.size)
  clear T5 b6
  go_wp2_with fail
  refine (known_any w6).mono ?_
  rintro e w7 ⟨rfl, b7⟩
  have T7 := T6.trans (b7.mono T6.size)
  clear T6 b7
  have G : Hid (w7.heap[W.heap.size]? = some (.cells cx.toArray 52 (0, 0))) := (T7.block _ (by omega)).trans g_cx.out
  go_wp2_with (refine wpList_load_row rfl 52 (.tmp 1) rfl (W.heap.size) rfl 52 cx.toArray (0, 0) _ G.out Try.underlying52 rfl I_cx.out ?_)
  refine (putEntry_w cx vx _ (reps.out _ (HBA.out.trans (T7.mono (by omega)))).1).mono ?_
  rintro e w8 ⟨val, he, oX, _, b8⟩
  simp only [codeB, bytesB, HF1.out, if_true] at he oX
  obtain ⟨aX, cX, hv, hbsX⟩ := oX.form
  have capX := (hv ▸ oX).cap
  subst hv
  replace hbsX := hbsX (by simp only [List.length_nil]; omega)
  subst he
  have T8 := T7.trans (b8.mono T7.size)
  have ltX : ∀ y, aX = some y → y.block < w8.heap.size := fun y hy => oX.lt _ (by rw [hy]; rfl)
  clear T7 b8 oX G
  have G : Hid (w8.heap[W.heap.size]? = some (.cells cx.toArray 52 (0, 0))) := (T8.block _ (by omega)).trans g_cx.out
  go_wp2_with (refine wpList_load_row rfl 52 (.tmp 1) rfl (W.heap.size) rfl 52 cx.toArray (0, 0) _ G.out Try.underlying52 rfl I_cx.out ?_)
  refine (putEntry_o cx vx _ hz_cx (reps.out _ (HBA.out.trans (T8.mono (by omega)))).1).mono ?_
  rintro e w9 ⟨val, he, oY, _, b9⟩
  simp only [codeB, bytesB, HF1.out, if_true] at he oY
  obtain ⟨aY, cY, hv, hbsY⟩ := oY.form
  have capY := (hv ▸ oY).cap
  subst hv
  replace hbsY := hbsY (by simp only [List.length_nil]; omega)
  subst he
  have T9 := T8.trans (b9.mono T8.size)
  replace hbsX := hbsX.grow b9
  replace ltX : ∀ y, aX = some y → y.block < _ := fun y hy => Nat.lt_of_lt_of_le (ltX y hy) b9.size
  clear T8 b9 oY G
  obtain ⟨OK, HOK⟩ : ∃ OK, Hid (decide ((de F_entry (some [])).2 = some []) = OK) := ⟨_, rfl⟩
  have HOKV : Hid (OK = false) := by
    show OK = _
    rw [← HOK.out]
    exact decide_eq_false (by rw [show (de F_entry (some [])).2 = none from de_nil _]; simp)
  go_wp2_with fail
  refine (getv_entry aX (0) cX [] w9 rfl capX hbsX ltX).mono ?_
  rintro e w10 ⟨cs1, vv1, he, hrep, hval, b10⟩
  rw [HOK.out, HOKV.out] at he
  subst he
  have HRE : Hid (Rep w10 (NB w9 w10) F_entry cs1 vv1) := hrep
  have HVV : Hid (vv1 = vv1) := rfl
  have HCI : Hid ((Try.prog.info? 52).map (·.size) = some cs1.toArray.size) := by show _ = _; rw [List.size_toArray, hrep.len]; kernel_rfl
  have HCO : Hid (cs1.toArray.all (·.oneCell') = true) := hrep.all
  have HCS : Hid (Zr_entry.size = cs1.toArray.size) := by
    have h : cs1.toArray.size = wd F_entry := by rw [List.size_toArray]; exact hrep.len
    show Zr_entry.size = cs1.toArray.size
    rw [h]; kernel_rfl
  have T10 := T9.trans (b10.mono T9.size)
  replace hbsX := hbsX.grow b10
  replace hbsY := hbsY.grow b10
  clear T9 b10 hrep hval ltX
  go_wp2_with (refine wpList_store_rowF rfl 52 (.tmp 11) (.tmp 61) rfl w10.heap.size cs1.toArray rfl rfl 52 Zr_entry (heap_alloc_new w10 (.cells Zr_entry 52)) HCI.out HCS.out HCO.out ?next)
  case next =>
  intro u1 hu
  have b11 : Below w10.heap.size w10 u1 := by
    rw [hu.out]
    exact ((Below.refl _ _).alloc (Nat.le_refl _) _).trans ⟨rfl, rfl, rfl, by simp [World.setRow], fun kk hkk => setRow_other _ _ _ _ (by omega)⟩
  have GU : Hid (u1.heap[w10.heap.size]? = some (.cells cs1.toArray 52 (0, 0))) := by
    show _ = _
    rw [hu.out]; exact setRow_heap _ _ _ _ 52 _ (heap_alloc_new w10 (.cells Zr_entry 52))
  have HRE2 : Hid (Rep u1 (fun b => b < u1.heap.size) F_entry cs1 vv1) := HRE.out.kept b11.size (fun b hb => b11.block b hb.2) (fun b hb => Nat.lt_of_lt_of_le hb.2 b11.size)
  have T11 := T10.trans (b11.mono T10.size)
  replace hbsX := hbsX.grow b11
  replace hbsY := hbsY.grow b11
  clear T10 b11 hu HRE
  go_wp2_with (refine wpList_load_row rfl 52 (.tmp 11) rfl w10.heap.size rfl 52 cs1.toArray (0, 0) _ GU.out Try.underlying52 rfl HCI.out ?_)
  refine (putEntry_w cs1 vv1 u1 HRE2.out).mono ?_
  rintro e w12 ⟨val, he, oZ, _, b12⟩
  obtain ⟨aZ, cZ, hv, hbsZ⟩ := oZ.form
  subst hv
  subst he
  obtain ⟨gz, hgz⟩ : ∃ gz, Hid (codeB (en F_entry vv1).2 = gz) := ⟨_, rfl⟩
  rw [hgz.out]
  have T12 := T11.trans (b12.mono T11.size)
  clear T11 oZ GU hbsZ hbsX hbsY
  go_wp2_with fail
  refine (both_bad aX aY aZ _ cX cY cZ gz w12).mono ?_
  rintro e w13 ⟨rfl, b13⟩
  have T13 := T12.trans (b13.mono T12.size)
  clear T12 b13
  go_wp2
  go_ret
  exact ⟨rfl, HBA.out.trans (T13.mono (by omega))⟩
theorem lawCmdsX (W : World) (ca : Array Value) (vx : Vl F_entry) (hr : Rep W (fun b => b < W.heap.size) F_entry ca.toList vx) (hz : szb F_entry vx ≤ 137438953472) :
    Calls Try.prog 7 #[.agg ca] W fun e w' => e = .returned (.bool true) ∧ Below W.heap.size W w' := by
  obtain ⟨x0, x1, cc, hca, hrc⟩ : ∃ x0 x1 cc, ca.toList = [Value.int .i64 x0, Value.int .i64 x1] ++ cc ∧ Rep W (fun b => b < W.heap.size) F_cmd cc vx.2.2 := by
    obtain ⟨r0, q0, e0, f0, h0⟩ := hr
    obtain ⟨r1, q1, e1, f1, h1⟩ := h0
    obtain rfl : r0 = _ := f0
    obtain rfl : r1 = _ := f1
    exact ⟨_, _, q1, by rw [e0, e1]; rfl, h1⟩
  have hzc : szb F_cmd vx.2.2 ≤ 137438953472 := by
    have e : szb F_entry vx = 6 + (6 + szb F_cmd vx.2.2) := rfl
    omega
  have e : ca = ca.toList.toArray := by rw [Array.toArray_toList]
  rw [e]
  cases h0 : (en F_cmd vx.2.2).2 <;> cases h1 : (en F_entry vx).2
  · exact lawCmdsFF W ca.toList vx x0 x1 cc vx.2.2 hca hr hrc hz hzc h0 h1
  · exact lawCmdsFT W ca.toList vx x0 x1 cc vx.2.2 hca hr hrc hz hzc h0 h1
  · exact lawCmdsTF W ca.toList vx x0 x1 cc vx.2.2 hca hr hrc hz hzc h0 h1
  · exact lawCmdsTT W ca.toList vx x0 x1 cc vx.2.2 hca hr hrc hz hzc h0 h1

end Go.Proofs.Ytpbokgeaolpiaaa
