/- The law of messages: they are written as the document says, read again, and written again. Made by program (wip/gen/cmds.py). -/
import Derived.Test.YtpbokgeaolpiaaaVpwms
import Derived.Test.YtpbokgeaolpiaaaVpoms
import Derived.Test.YtpbokgeaolpiaaaVgms
import Derived.Test.YtpbokgeaolpiaaaVbo
import Derived.Test.YtpbokgeaolpiaaaKnow
namespace Go.Proofs.Ytpbokgeaolpiaaa
open Go.RowKit

theorem mxl_msg : mx F_msg ≤ 137438953472 := by decide +kernel

set_option maxHeartbeats 4000000 in
set_option maxRecDepth 100000 in
theorem lawMsgsF (W : World) (cm : List Value) (vm : Vl F_msg) (hr_cm : Rep W (fun b => b < W.heap.size) F_msg cm vm) (hz_cm : szb F_msg vm ≤ 137438953472) (HF0 : Hid ((en F_msg vm).2 = false)) :
    Calls Try.prog 8 #[.agg cm.toArray] W fun e w' => e = .returned (.bool true) ∧ Below W.heap.size W w' := by
  have zA : (W.alloc (.cells cm.toArray 65)).heap.size = W.heap.size + 1 := by rw [World.size_alloc]
  have HBA : Hid (Below W.heap.size W (W.alloc (.cells cm.toArray 65))) := ((Below.refl _ _).alloc (by exact Nat.le_refl _) _)
  have g_cm : Hid ((W.alloc (.cells cm.toArray 65)).heap[W.heap.size]? = some (.cells cm.toArray 65 (0, 0))) := by
    show _ = _
    exact heap_alloc_new W _
  have I_cm : Hid ((Try.prog.info? 65).map (·.size) = some cm.toArray.size) := by show _ = _; rw [List.size_toArray, hr_cm.len]; kernel_rfl
  have J_cm : Hid ((Try.prog.info? 65).map (·.size) = some cm.length) := by show _ = _; rw [hr_cm.len]; kernel_rfl
  have reps : Hid (∀ w', Below W.heap.size W w' → Rep w' (fun b => b < w'.heap.size) F_msg cm vm) := fun w' bw =>
    have m : ∀ b, b < W.heap.size → b < w'.heap.size := fun b hb => Nat.lt_of_lt_of_le hb bw.size
    hr_cm.kept bw.size (fun b hb => bw.block b hb) (m)
  have T0 : Below (W.alloc (.cells cm.toArray 65)).heap.size (W.alloc (.cells cm.toArray 65)) (W.alloc (.cells cm.toArray 65)) := Below.refl _ _
  clear hr_cm
  go_enter Try.func8, Try.ntmps8
  have G : Hid ((W.alloc (.cells cm.toArray 65)).heap[W.heap.size]? = some (.cells cm.toArray 65 (0, 0))) := (T0.block _ (by omega)).trans g_cm.out
  go_wp2_with (refine wpList_load_row rfl 65 (.tmp 1) rfl (W.heap.size) rfl 65 cm.toArray (0, 0) _ G.out Try.underlying65 rfl I_cm.out ?_)
  refine (putMsg_w cm vm _ (reps.out _ (HBA.out.trans (T0.mono (by omega))))).mono ?_
  rintro e w1 ⟨val, he, oX, _, b1⟩
  simp only [codeB, bytesB, HF0.out, Bool.false_eq_true, if_false] at he oX
  obtain ⟨aX, cX, hv, hbsX⟩ := oX.form
  have capX := (hv ▸ oX).cap
  subst hv
  replace hbsX := hbsX (by have := en_len F_msg vm; have := mxl_msg; omega)
  subst he
  have T1 := T0.trans (b1.mono T0.size)
  have ltX : ∀ y, aX = some y → y.block < w1.heap.size := fun y hy => oX.lt _ (by rw [hy]; rfl)
  clear T0 b1 oX G
  have G : Hid (w1.heap[W.heap.size]? = some (.cells cm.toArray 65 (0, 0))) := (T1.block _ (by omega)).trans g_cm.out
  go_wp2_with (refine wpList_load_row rfl 65 (.tmp 1) rfl (W.heap.size) rfl 65 cm.toArray (0, 0) _ G.out Try.underlying65 rfl I_cm.out ?_)
  refine (putMsg_o cm vm _ hz_cm (reps.out _ (HBA.out.trans (T1.mono (by omega))))).mono ?_
  rintro e w2 ⟨val, he, oY, _, b2⟩
  simp only [codeB, bytesB, HF0.out, Bool.false_eq_true, if_false] at he oY
  obtain ⟨aY, cY, hv, hbsY⟩ := oY.form
  have capY := (hv ▸ oY).cap
  subst hv
  replace hbsY := hbsY (by have := en_len F_msg vm; have := mxl_msg; omega)
  subst he
  have T2 := T1.trans (b2.mono T1.size)
  replace hbsX := hbsX.grow b2
  replace ltX : ∀ y, aX = some y → y.block < _ := fun y hy => Nat.lt_of_lt_of_le (ltX y hy) b2.size
  clear T1 b2 oY G
  obtain ⟨OK, HOK⟩ : ∃ OK, Hid (decide ((de F_msg (some (en F_msg vm).1)).2 = some []) = OK) := ⟨_, rfl⟩
  have HOKV : Hid (OK = true) := by
    show OK = _
    rw [← HOK.out]
    have := de_en F_msg vm [] HF0.out; rw [List.append_nil] at this; rw [this]; exact decide_eq_true rfl
  go_wp2_with fail
  refine (getv_msg aX ((en F_msg vm).1.length) cX (en F_msg vm).1 w2 rfl capX hbsX ltX).mono ?_
  rintro e w3 ⟨cs0, vv0, he, hrep, hval, b3⟩
  rw [HOK.out, HOKV.out] at he
  subst he
  have HRE : Hid (Rep w3 (NB w2 w3) F_msg cs0 vv0) := hrep
  have HVV : Hid (vv0 = vm) := by have h2 := de_en F_msg vm [] HF0.out; rw [List.append_nil] at h2; have h3 := hval (by rw [h2]); rw [h2] at h3; exact h3
  have HCI : Hid ((Try.prog.info? 65).map (·.size) = some cs0.toArray.size) := by show _ = _; rw [List.size_toArray, hrep.len]; kernel_rfl
  have HCO : Hid (cs0.toArray.all (·.oneCell') = true) := hrep.all
  have HCS : Hid (Zr_msg.size = cs0.toArray.size) := by
    have h : cs0.toArray.size = wd F_msg := by rw [List.size_toArray]; exact hrep.len
    show Zr_msg.size = cs0.toArray.size
    rw [h]; kernel_rfl
  have T3 := T2.trans (b3.mono T2.size)
  replace hbsX := hbsX.grow b3
  replace hbsY := hbsY.grow b3
  clear T2 b3 hrep hval ltX
  go_wp2_with (refine wpList_store_rowF rfl 65 (.tmp 7) (.tmp 24) rfl w3.heap.size cs0.toArray rfl rfl 65 Zr_msg (heap_alloc_new w3 (.cells Zr_msg 65)) HCI.out HCS.out HCO.out ?next)
  case next =>
  intro u0 hu
  have b4 : Below w3.heap.size w3 u0 := by
    rw [hu.out]
    exact ((Below.refl _ _).alloc (Nat.le_refl _) _).trans ⟨rfl, rfl, rfl, by simp [World.setRow], fun kk hkk => setRow_other _ _ _ _ (by omega)⟩
  have GU : Hid (u0.heap[w3.heap.size]? = some (.cells cs0.toArray 65 (0, 0))) := by
    show _ = _
    rw [hu.out]; exact setRow_heap _ _ _ _ 65 _ (heap_alloc_new w3 (.cells Zr_msg 65))
  have HRE2 : Hid (Rep u0 (fun b => b < u0.heap.size) F_msg cs0 vv0) := HRE.out.kept b4.size (fun b hb => b4.block b hb.2) (fun b hb => Nat.lt_of_lt_of_le hb.2 b4.size)
  have T4 := T3.trans (b4.mono T3.size)
  replace hbsX := hbsX.grow b4
  replace hbsY := hbsY.grow b4
  clear T3 b4 hu HRE
  go_wp2_with (refine wpList_load_row rfl 65 (.tmp 7) rfl w3.heap.size rfl 65 cs0.toArray (0, 0) _ GU.out Try.underlying65 rfl HCI.out ?_)
  refine (putMsg_w cs0 vv0 u0 HRE2.out).mono ?_
  rintro e w5 ⟨val, he, oZ, _, b5⟩
  rw [HVV.out] at he oZ
  simp only [codeB, bytesB, HF0.out, Bool.false_eq_true, if_false] at he oZ
  obtain ⟨aZ, cZ, hv, hbsZ⟩ := oZ.form
  subst hv
  subst he
  replace hbsZ := hbsZ (by have := en_len F_msg vm; have := mxl_msg; omega)
  have T5 := T4.trans (b5.mono T4.size)
  replace hbsX := hbsX.grow b5
  replace hbsY := hbsY.grow b5
  have KX : Hid _ := hbsX
  have KY : Hid _ := hbsY
  have KZ : Hid _ := hbsZ
  clear T4 oZ GU hbsX hbsY hbsZ b5
  go_wp2_with fail
  refine (both_ok aX aY aZ _ cX cY cZ (en F_msg vm).1 w5 rfl KX.out KY.out KZ.out).mono ?_
  rintro e w6 ⟨rfl, b6⟩
  have T6 := T5.trans (b6.mono T5.size)
  clear T5 b6
  go_wp2_with fail
  refine (known_any w6).mono ?_
  rintro e w7 ⟨rfl, b7⟩
  have T7 := T6.trans (b7.mono T6.size)
  clear T6 b7
  go_wp2
  go_ret
  exact ⟨rfl, HBA.out.trans (T7.mono (by omega))⟩

set_option maxHeartbeats 4000000 in
set_option maxRecDepth 100000 in
theorem lawMsgsT (W : World) (cm : List Value) (vm : Vl F_msg) (hr_cm : Rep W (fun b => b < W.heap.size) F_msg cm vm) (hz_cm : szb F_msg vm ≤ 137438953472) (HF0 : Hid ((en F_msg vm).2 = true)) :
    Calls Try.prog 8 #[.agg cm.toArray] W fun e w' => e = .returned (.bool true) ∧ Below W.heap.size W w' := by
  have zA : (W.alloc (.cells cm.toArray 65)).heap.size = W.heap.size + 1 := by rw [World.size_alloc]
  have HBA : Hid (Below W.heap.size W (W.alloc (.cells cm.toArray 65))) := ((Below.refl _ _).alloc (by exact Nat.le_refl _) _)
  have g_cm : Hid ((W.alloc (.cells cm.toArray 65)).heap[W.heap.size]? = some (.cells cm.toArray 65 (0, 0))) := by
    show _ = _
    exact heap_alloc_new W _
  have I_cm : Hid ((Try.prog.info? 65).map (·.size) = some cm.toArray.size) := by show _ = _; rw [List.size_toArray, hr_cm.len]; kernel_rfl
  have J_cm : Hid ((Try.prog.info? 65).map (·.size) = some cm.length) := by show _ = _; rw [hr_cm.len]; kernel_rfl
  have reps : Hid (∀ w', Below W.heap.size W w' → Rep w' (fun b => b < w'.heap.size) F_msg cm vm) := fun w' bw =>
    have m : ∀ b, b < W.heap.size → b < w'.heap.size := fun b hb => Nat.lt_of_lt_of_le hb bw.size
    hr_cm.kept bw.size (fun b hb => bw.block b hb) (m)
  have T0 : Below (W.alloc (.cells cm.toArray 65)).heap.size (W.alloc (.cells cm.toArray 65)) (W.alloc (.cells cm.toArray 65)) := Below.refl _ _
  clear hr_cm
  go_enter Try.func8, Try.ntmps8
  have G : Hid ((W.alloc (.cells cm.toArray 65)).heap[W.heap.size]? = some (.cells cm.toArray 65 (0, 0))) := (T0.block _ (by omega)).trans g_cm.out
  go_wp2_with (refine wpList_load_row rfl 65 (.tmp 1) rfl (W.heap.size) rfl 65 cm.toArray (0, 0) _ G.out Try.underlying65 rfl I_cm.out ?_)
  refine (putMsg_w cm vm _ (reps.out _ (HBA.out.trans (T0.mono (by omega))))).mono ?_
  rintro e w1 ⟨val, he, oX, _, b1⟩
  simp only [codeB, bytesB, HF0.out, if_true] at he oX
  obtain ⟨aX, cX, hv, hbsX⟩ := oX.form
  have capX := (hv ▸ oX).cap
  subst hv
  replace hbsX := hbsX (by simp only [List.length_nil]; omega)
  subst he
  have T1 := T0.trans (b1.mono T0.size)
  have ltX : ∀ y, aX = some y → y.block < w1.heap.size := fun y hy => oX.lt _ (by rw [hy]; rfl)
  clear T0 b1 oX G
  have G : Hid (w1.heap[W.heap.size]? = some (.cells cm.toArray 65 (0, 0))) := (T1.block _ (by omega)).trans g_cm.out
  go_wp2_with (refine wpList_load_row rfl 65 (.tmp 1) rfl (W.heap.size) rfl 65 cm.toArray (0, 0) _ G.out Try.underlying65 rfl I_cm.out ?_)
  refine (putMsg_o cm vm _ hz_cm (reps.out _ (HBA.out.trans (T1.mono (by omega))))).mono ?_
  rintro e w2 ⟨val, he, oY, _, b2⟩
  simp only [codeB, bytesB, HF0.out, if_true] at he oY
  obtain ⟨aY, cY, hv, hbsY⟩ := oY.form
  have capY := (hv ▸ oY).cap
  subst hv
  replace hbsY := hbsY (by simp only [List.length_nil]; omega)
  subst he
  have T2 := T1.trans (b2.mono T1.size)
  replace hbsX := hbsX.grow b2
  replace ltX : ∀ y, aX = some y → y.block < _ := fun y hy => Nat.lt_of_lt_of_le (ltX y hy) b2.size
  clear T1 b2 oY G
  obtain ⟨OK, HOK⟩ : ∃ OK, Hid (decide ((de F_msg (some [])).2 = some []) = OK) := ⟨_, rfl⟩
  have HOKV : Hid (OK = false) := by
    show OK = _
    rw [← HOK.out]
    exact decide_eq_false (by rw [show (de F_msg (some [])).2 = none from de_nil _]; simp)
  go_wp2_with fail
  refine (getv_msg aX (0) cX [] w2 rfl capX hbsX ltX).mono ?_
  rintro e w3 ⟨cs0, vv0, he, hrep, hval, b3⟩
  rw [HOK.out, HOKV.out] at he
  subst he
  have HRE : Hid (Rep w3 (NB w2 w3) F_msg cs0 vv0) := hrep
  have HVV : Hid (vv0 = vv0) := rfl
  have HCI : Hid ((Try.prog.info? 65).map (·.size) = some cs0.toArray.size) := by show _ = _; rw [List.size_toArray, hrep.len]; kernel_rfl
  have HCO : Hid (cs0.toArray.all (·.oneCell') = true) := hrep.all
  have HCS : Hid (Zr_msg.size = cs0.toArray.size) := by
    have h : cs0.toArray.size = wd F_msg := by rw [List.size_toArray]; exact hrep.len
    show Zr_msg.size = cs0.toArray.size
    rw [h]; kernel_rfl
  have T3 := T2.trans (b3.mono T2.size)
  replace hbsX := hbsX.grow b3
  replace hbsY := hbsY.grow b3
  clear T2 b3 hrep hval ltX
  go_wp2_with (refine wpList_store_rowF rfl 65 (.tmp 7) (.tmp 24) rfl w3.heap.size cs0.toArray rfl rfl 65 Zr_msg (heap_alloc_new w3 (.cells Zr_msg 65)) HCI.out HCS.out HCO.out ?next)
  case next =>
  intro u0 hu
  have b4 : Below w3.heap.size w3 u0 := by
    rw [hu.out]
    exact ((Below.refl _ _).alloc (Nat.le_refl _) _).trans ⟨rfl, rfl, rfl, by simp [World.setRow], fun kk hkk => setRow_other _ _ _ _ (by omega)⟩
  have GU : Hid (u0.heap[w3.heap.size]? = some (.cells cs0.toArray 65 (0, 0))) := by
    show _ = _
    rw [hu.out]; exact setRow_heap _ _ _ _ 65 _ (heap_alloc_new w3 (.cells Zr_msg 65))
  have HRE2 : Hid (Rep u0 (fun b => b < u0.heap.size) F_msg cs0 vv0) := HRE.out.kept b4.size (fun b hb => b4.block b hb.2) (fun b hb => Nat.lt_of_lt_of_le hb.2 b4.size)
  have T4 := T3.trans (b4.mono T3.size)
  replace hbsX := hbsX.grow b4
  replace hbsY := hbsY.grow b4
  clear T3 b4 hu HRE
  go_wp2_with (refine wpList_load_row rfl 65 (.tmp 7) rfl w3.heap.size rfl 65 cs0.toArray (0, 0) _ GU.out Try.underlying65 rfl HCI.out ?_)
  refine (putMsg_w cs0 vv0 u0 HRE2.out).mono ?_
  rintro e w5 ⟨val, he, oZ, _, b5⟩
  obtain ⟨aZ, cZ, hv, hbsZ⟩ := oZ.form
  subst hv
  subst he
  obtain ⟨gz, hgz⟩ : ∃ gz, Hid (codeB (en F_msg vv0).2 = gz) := ⟨_, rfl⟩
  rw [hgz.out]
  have T5 := T4.trans (b5.mono T4.size)
  clear T4 oZ GU hbsZ hbsX hbsY
  go_wp2_with fail
  refine (both_bad aX aY aZ _ cX cY cZ gz w5).mono ?_
  rintro e w6 ⟨rfl, b6⟩
  have T6 := T5.trans (b6.mono T5.size)
  clear T5 b6
  go_wp2_with fail
  refine (known_any w6).mono ?_
  rintro e w7 ⟨rfl, b7⟩
  have T7 := T6.trans (b7.mono T6.size)
  clear T6 b7
  go_wp2
  go_ret
  exact ⟨rfl, HBA.out.trans (T7.mono (by omega))⟩
theorem lawMsgsX (W : World) (ca : Array Value) (vm : Vl F_msg) (hr : Rep W (fun b => b < W.heap.size) F_msg ca.toList vm) (hz : szb F_msg vm ≤ 137438953472) :
    Calls Try.prog 8 #[.agg ca] W fun e w' => e = .returned (.bool true) ∧ Below W.heap.size W w' := by
  have e : ca = ca.toList.toArray := by rw [Array.toArray_toList]
  rw [e]
  cases h0 : (en F_msg vm).2
  · exact lawMsgsF W ca.toList vm hr hz h0
  · exact lawMsgsT W ca.toList vm hr hz h0

end Go.Proofs.Ytpbokgeaolpiaaa
