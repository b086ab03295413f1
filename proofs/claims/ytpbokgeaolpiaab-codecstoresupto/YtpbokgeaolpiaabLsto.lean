/- The law of stores and snapshots: they are written as the document says, read again, and written again. Made by program (wip/gen/cmds.py). -/
import Derived.Test.YtpbokgeaolpiaabVsts
import Derived.Test.YtpbokgeaolpiaabKnow
namespace Go.Proofs.Ytpbokgeaolpiaab
open Go.RowKit

theorem mxl_store : mx F_store ≤ 137438953472 := by decide +kernel

theorem mxl_snapshot : mx F_snapshot ≤ 137438953472 := by decide +kernel

set_option maxHeartbeats 4000000 in
set_option maxRecDepth 100000 in
theorem lawStoresFF (W : World) (cs : List Value) (vs : Vl F_store) (cn : List Value) (vn : Vl F_snapshot) (hr_cs : Rep W (fun b => b < W.heap.size) F_store cs vs) (hr_cn : Rep W (fun b => b < W.heap.size) F_snapshot cn vn) (hz_cs : szb F_store vs ≤ 137438953472) (hz_cn : szb F_snapshot vn ≤ 137438953472) (HF0 : Hid ((en F_store vs).2 = false)) (HF1 : Hid ((en F_snapshot vn).2 = false)) :
    Calls Try.prog 3 #[.agg cs.toArray, .agg cn.toArray] W fun e w' => e = .returned (.bool true) ∧ Below W.heap.size W w' := by
  have zA : ((W.alloc (.cells cs.toArray 29)).alloc (.cells cn.toArray 35)).heap.size = W.heap.size + 2 := by rw [World.size_alloc, World.size_alloc]
  have HBA : Hid (Below W.heap.size W ((W.alloc (.cells cs.toArray 29)).alloc (.cells cn.toArray 35))) := (((Below.refl _ _).alloc (by exact Nat.le_refl _) _).alloc (by rw [World.size_alloc]; omega) _)
  have g_cs : Hid (((W.alloc (.cells cs.toArray 29)).alloc (.cells cn.toArray 35)).heap[W.heap.size]? = some (.cells cs.toArray 29 (0, 0))) := by
    show _ = _
    rw [Below.heap_alloc _ _ _ (by rw [World.size_alloc]; omega)]; exact heap_alloc_new W _
  have g_cn : Hid (((W.alloc (.cells cs.toArray 29)).alloc (.cells cn.toArray 35)).heap[W.heap.size + 1]? = some (.cells cn.toArray 35 (0, 0))) := by
    show _ = _
    have h := heap_alloc_new (W.alloc (.cells cs.toArray 29)) (.cells cn.toArray 35); rw [World.size_alloc] at h; exact h
  have I_cs : Hid ((Try.prog.info? 29).map (·.size) = some cs.toArray.size) := by show _ = _; rw [List.size_toArray, hr_cs.len]; kernel_rfl
  have J_cs : Hid ((Try.prog.info? 29).map (·.size) = some cs.length) := by show _ = _; rw [hr_cs.len]; kernel_rfl
  have I_cn : Hid ((Try.prog.info? 35).map (·.size) = some cn.toArray.size) := by show _ = _; rw [List.size_toArray, hr_cn.len]; kernel_rfl
  have J_cn : Hid ((Try.prog.info? 35).map (·.size) = some cn.length) := by show _ = _; rw [hr_cn.len]; kernel_rfl
  have reps : Hid (∀ w', Below W.heap.size W w' → Rep w' (fun b => b < w'.heap.size) F_store cs vs ∧ Rep w' (fun b => b < w'.heap.size) F_snapshot cn vn) := fun w' bw =>
    have m : ∀ b, b < W.heap.size → b < w'.heap.size := fun b hb => Nat.lt_of_lt_of_le hb bw.size
    ⟨hr_cs.kept bw.size (fun b hb => bw.block b hb) (m), hr_cn.kept bw.size (fun b hb => bw.block b hb) (m)⟩
  have T0 : Below ((W.alloc (.cells cs.toArray 29)).alloc (.cells cn.toArray 35)).heap.size ((W.alloc (.cells cs.toArray 29)).alloc (.cells cn.toArray 35)) ((W.alloc (.cells cs.toArray 29)).alloc (.cells cn.toArray 35)) := Below.refl _ _
  clear hr_cs hr_cn
  go_enter Try.func3, Try.ntmps3
  have G : Hid (((W.alloc (.cells cs.toArray 29)).alloc (.cells cn.toArray 35)).heap[W.heap.size]? = some (.cells cs.toArray 29 (0, 0))) := (T0.block _ (by omega)).trans g_cs.out
  go_wp2_with (refine wpList_load_row rfl 29 (.tmp 2) rfl (W.heap.size) rfl 29 cs.toArray (0, 0) _ G.out Try.underlying29 rfl I_cs.out ?_)
  refine (putStore_w cs vs _ (reps.out _ (HBA.out.trans (T0.mono (by omega)))).1).mono ?_
  rintro e w1 ⟨val, he, oX, _, b1⟩
  simp only [codeB, bytesB, HF0.out, Bool.false_eq_true, if_false] at he oX
  obtain ⟨aX, cX, hv, hbsX⟩ := oX.form
  have capX := (hv ▸ oX).cap
  subst hv
  replace hbsX := hbsX (by have := en_len F_store vs; have := mxl_store; omega)
  subst he
  have T1 := T0.trans (b1.mono T0.size)
  have ltX : ∀ y, aX = some y → y.block < w1.heap.size := fun y hy => oX.lt _ (by rw [hy]; rfl)
  clear T0 b1 oX G
  have G : Hid (w1.heap[W.heap.size]? = some (.cells cs.toArray 29 (0, 0))) := (T1.block _ (by omega)).trans g_cs.out
  go_wp2_with (refine wpList_load_row rfl 29 (.tmp 2) rfl (W.heap.size) rfl 29 cs.toArray (0, 0) _ G.out Try.underlying29 rfl I_cs.out ?_)
  refine (putStore_o cs vs _ hz_cs (reps.out _ (HBA.out.trans (T1.mono (by omega)))).1).mono ?_
  rintro e w2 ⟨val, he, oY, _, b2⟩
  simp only [codeB, bytesB, HF0.out, Bool.false_eq_true, if_false] at he oY
  obtain ⟨aY, cY, hv, hbsY⟩ := oY.form
  have capY := (hv ▸ oY).cap
  subst hv
  replace hbsY := hbsY (by have := en_len F_store vs; have := mxl_store; omega)
  subst he
  have T2 := T1.trans (b2.mono T1.size)
  replace hbsX := hbsX.grow b2
  replace ltX : ∀ y, aX = some y → y.block < _ := fun y hy => Nat.lt_of_lt_of_le (ltX y hy) b2.size
  clear T1 b2 oY G
  obtain ⟨OK, HOK⟩ : ∃ OK, Hid (decide ((de F_store (some (en F_store vs).1)).2 = some []) = OK) := ⟨_, rfl⟩
  have HOKV : Hid (OK = true) := by
    show OK = _
    rw [← HOK.out]
    have := de_en F_store vs [] HF0.out; rw [List.append_nil] at this; rw [this]; exact decide_eq_true rfl
  go_wp2_with fail
  refine (getv_store aX ((en F_store vs).1.length) cX (en F_store vs).1 w2 rfl capX hbsX ltX).mono ?_
  rintro e w3 ⟨cs0, vv0, he, hrep, hval, b3⟩
  rw [HOK.out, HOKV.out] at he
  subst he
  have HRE : Hid (Rep w3 (NB w2 w3) F_store cs0 vv0) := hrep
  have HVV : Hid (vv0 = vs) := by have h2 := de_en F_store vs [] HF0.out; rw [List.append_nil] at h2; have h3 := hval (by rw [h2]); rw [h2] at h3; exact h3
  have HCI : Hid ((Try.prog.info? 29).map (·.size) = some cs0.toArray.size) := by show _ = _; rw [List.size_toArray, hrep.len]; kernel_rfl
  have HCO : Hid (cs0.toArray.all (·.oneCell') = true) := hrep.all
  have HCS : Hid (Zr_store.size = cs0.toArray.size) := by
    have h : cs0.toArray.size = wd F_store := by rw [List.size_toArray]; exact hrep.len
    show Zr_store.size = cs0.toArray.size
    rw [h]; kernel_rfl
  have T3 := T2.trans (b3.mono T2.size)
  replace hbsX := hbsX.grow b3
  replace hbsY := hbsY.grow b3
  clear T2 b3 hrep hval ltX
  go_wp2_with (refine wpList_store_rowF rfl 29 (.tmp 9) (.tmp 28) rfl w3.heap.size cs0.toArray rfl rfl 29 Zr_store (heap_alloc_new w3 (.cells Zr_store 29)) HCI.out HCS.out HCO.out ?next)
  case next =>
  intro u0 hu
  have b4 : Below w3.heap.size w3 u0 := by
    rw [hu.out]
    exact ((Below.refl _ _).alloc (Nat.le_refl _) _).trans ⟨rfl, rfl, rfl, by simp [World.setRow], fun kk hkk => setRow_other _ _ _ _ (by omega)⟩
  have GU : Hid (u0.heap[w3.heap.size]? = some (.cells cs0.toArray 29 (0, 0))) := by
    show _ = _
    rw [hu.out]; exact setRow_heap _ _ _ _ 29 _ (heap_alloc_new w3 (.cells Zr_store 29))
  have HRE2 : Hid (Rep u0 (fun b => b < u0.heap.size) F_store cs0 vv0) := HRE.out.kept b4.size (fun b hb => b4.block b hb.2) (fun b hb => Nat.lt_of_lt_of_le hb.2 b4.size)
  have T4 := T3.trans (b4.mono T3.size)
  replace hbsX := hbsX.grow b4
  replace hbsY := hbsY.grow b4
  clear T3 b4 hu HRE
  go_wp2_with (refine wpList_load_row rfl 29 (.tmp 9) rfl w3.heap.size rfl 29 cs0.toArray (0, 0) _ GU.out Try.underlying29 rfl HCI.out ?_)
  refine (putStore_w cs0 vv0 u0 HRE2.out).mono ?_
  rintro e w5 ⟨val, he, oZ, _, b5⟩
  rw [HVV.out] at he oZ
  simp only [codeB, bytesB, HF0.out, Bool.false_eq_true, if_false] at he oZ
  obtain ⟨aZ, cZ, hv, hbsZ⟩ := oZ.form
  subst hv
  subst he
  replace hbsZ := hbsZ (by have := en_len F_store vs; have := mxl_store; omega)
  have T5 := T4.trans (b5.mono T4.size)
  replace hbsX := hbsX.grow b5
  replace hbsY := hbsY.grow b5
  have KX : Hid _ := hbsX
  have KY : Hid _ := hbsY
  have KZ : Hid _ := hbsZ
  clear T4 oZ GU hbsX hbsY hbsZ b5
  go_wp2_with fail
  refine (both_ok aX aY aZ _ cX cY cZ (en F_store vs).1 w5 rfl KX.out KY.out KZ.out).mono ?_
  rintro e w6 ⟨rfl, b6⟩
  have T6 := T5.trans (b6.mono T5.size)
  clear T5 b6
  go_wp2_with fail
  refine (known_any w6).mono ?_
  rintro e w7 ⟨rfl, b7⟩
  have T7 := T6.trans (b7.mono T6.size)
  clear T6 b7
  have G : Hid (w7.heap[W.heap.size + 1]? = some (.cells cn.toArray 35 (0, 0))) := (T7.block _ (by omega)).trans g_cn.out
  go_wp2_with (refine wpList_load_row rfl 35 (.tmp 3) rfl (W.heap.size + 1) rfl 35 cn.toArray (0, 0) _ G.out Try.underlying35 rfl I_cn.out ?_)
  refine (putSnapshot_w cn vn _ (reps.out _ (HBA.out.trans (T7.mono (by omega)))).2).mono ?_
  rintro e w8 ⟨val, he, oX, _, b8⟩
  simp only [codeB, bytesB, HF1.out, Bool.false_eq_true, if_false] at he oX
  obtain ⟨aX, cX, hv, hbsX⟩ := oX.form
  have capX := (hv ▸ oX).cap
  subst hv
  replace hbsX := hbsX (by have := en_len F_snapshot vn; have := mxl_snapshot; omega)
  subst he
  have T8 := T7.trans (b8.mono T7.size)
  have ltX : ∀ y, aX = some y → y.block < w8.heap.size := fun y hy => oX.lt _ (by rw [hy]; rfl)
  clear T7 b8 oX G
  have G : Hid (w8.heap[W.heap.size + 1]? = some (.cells cn.toArray 35 (0, 0))) := (T8.block _ (by omega)).trans g_cn.out
  go_wp2_with (refine wpList_load_row rfl 35 (.tmp 3) rfl (W.heap.size + 1) rfl 35 cn.toArray (0, 0) _ G.out Try.underlying35 rfl I_cn.out ?_)
  refine (putSnapshot_o cn vn _ hz_cn (reps.out _ (HBA.out.trans (T8.mono (by omega)))).2).mono ?_
  rintro e w9 ⟨val, he, oY, _, b9⟩
  simp only [codeB, bytesB, HF1.out, Bool.false_eq_true, if_false] at he oY
  obtain ⟨aY, cY, hv, hbsY⟩ := oY.form
  have capY := (hv ▸ oY).cap
  subst hv
  replace hbsY := hbsY (by have := en_len F_snapshot vn; have := mxl_snapshot; omega)
  subst he
  have T9 := T8.trans (b9.mono T8.size)
  replace hbsX := hbsX.grow b9
  replace ltX : ∀ y, aX = some y → y.block < _ := fun y hy => Nat.lt_of_lt_of_le (ltX y hy) b9.size
  clear T8 b9 oY G
  obtain ⟨OK, HOK⟩ : ∃ OK, Hid (decide ((de F_snapshot (some (en F_snapshot vn).1)).2 = some []) = OK) := ⟨_, rfl⟩
  have HOKV : Hid (OK = true) := by
    show OK = _
    rw [← HOK.out]
    have := de_en F_snapshot vn [] HF1.out; rw [List.append_nil] at this; rw [this]; exact decide_eq_true rfl
  go_wp2_with fail
  refine (getv_snapshot aX ((en F_snapshot vn).1.length) cX (en F_snapshot vn).1 w9 rfl capX hbsX ltX).mono ?_
  rintro e w10 ⟨cs1, vv1, he, hrep, hval, b10⟩
  rw [HOK.out, HOKV.out] at he
  subst he
  have HRE : Hid (Rep w10 (NB w9 w10) F_snapshot cs1 vv1) := hrep
  have HVV : Hid (vv1 = vn) := by have h2 := de_en F_snapshot vn [] HF1.out; rw [List.append_nil] at h2; have h3 := hval (by rw [h2]); rw [h2] at h3; exact h3
  have HCI : Hid ((Try.prog.info? 35).map (·.size) = some cs1.toArray.size) := by show _ = _; rw [List.size_toArray, hrep.len]; kernel_rfl
  have HCO : Hid (cs1.toArray.all (·.oneCell') = true) := hrep.all
  have HCS : Hid (Zr_snapshot.size = cs1.toArray.size) := by
    have h : cs1.toArray.size = wd F_snapshot := by rw [List.size_toArray]; exact hrep.len
    show Zr_snapshot.size = cs1.toArray.size
    rw [h]; kernel_rfl
  have T10 := T9.trans (b10.mono T9.size)
  replace hbsX := hbsX.grow b10
  replace hbsY := hbsY.grow b10
  clear T9 b10 hrep hval ltX
  go_wp2_with (refine wpList_store_rowF rfl 35 (.tmp 13) (.tmp 61) rfl w10.heap.size cs1.toArray rfl rfl 35 Zr_snapshot (heap_alloc_new w10 (.cells Zr_snapshot 35)) HCI.out HCS.out HCO.out ?next)
  case next =>
  intro u1 hu
  have b11 : Below w10.heap.size w10 u1 := by
    rw [hu.out]
    exact ((Below.refl _ _).alloc (Nat.le_refl _) _).trans ⟨rfl, rfl, rfl, by simp [World.setRow], fun kk hkk => setRow_other _ _ _ _ (by omega)⟩
  have GU : Hid (u1.heap[w10.heap.size]? = some (.cells cs1.toArray 35 (0, 0))) := by
    show _ = _
    rw [hu.out]; exact setRow_heap _ _ _ _ 35 _ (heap_alloc_new w10 (.cells Zr_snapshot 35))
  have HRE2 : Hid (Rep u1 (fun b => b < u1.heap.size) F_snapshot cs1 vv1) := HRE.out.kept b11.size (fun b hb => b11.block b hb.2) (fun b hb => Nat.lt_of_lt_of_le hb.2 b11.size)
  have T11 := T10.trans (b11.mono T10.size)
  replace hbsX := hbsX.grow b11
  replace hbsY := hbsY.grow b11
  clear T10 b11 hu HRE
  go_wp2_with (refine wpList_load_row rfl 35 (.tmp 13) rfl w10.heap.size rfl 35 cs1.toArray (0, 0) _ GU.out Try.underlying35 rfl HCI.out ?_)
  refine (putSnapshot_w cs1 vv1 u1 HRE2.out).mono ?_
  rintro e w12 ⟨val, he, oZ, _, b12⟩
  rw [HVV.out] at he oZ
  simp only [codeB, bytesB, HF1.out, Bool.false_eq_true, if_false] at he oZ
  obtain ⟨aZ, cZ, hv, hbsZ⟩ := oZ.form
  subst hv
  subst he
  replace hbsZ := hbsZ (by have := en_len F_snapshot vn; have := mxl_snapshot; omega)
  have T12 := T11.trans (b12.mono T11.size)
  replace hbsX := hbsX.grow b12
  replace hbsY := hbsY.grow b12
  have KX : Hid _ := hbsX
  have KY : Hid _ := hbsY
  have KZ : Hid _ := hbsZ
  clear T11 oZ GU hbsX hbsY hbsZ b12
  go_wp2_with fail
  refine (both_ok aX aY aZ _ cX cY cZ (en F_snapshot vn).1 w12 rfl KX.out KY.out KZ.out).mono ?_
  rintro e w13 ⟨rfl, b13⟩
  have T13 := T12.trans (b13.mono T12.size)
  clear T12 b13
  go_wp2
  go_ret
  exact ⟨rfl, HBA.out.trans (T13.mono (by omega))⟩

set_option maxHeartbeats 4000000 in
set_option maxRecDepth 100000 in
theorem lawStoresFT (W : World) (cs : List Value) (vs : Vl F_store) (cn : List Value) (vn : Vl F_snapshot) (hr_cs : Rep W (fun b => b < W.heap.size) F_store cs vs) (hr_cn : Rep W (fun b => b < W.heap.size) F_snapshot cn vn) (hz_cs : szb F_store vs ≤ 137438953472) (hz_cn : szb F_snapshot vn ≤ 137438953472) (HF0 : Hid ((en F_store vs).2 = false)) (HF1 : Hid ((en F_snapshot vn).2 = true)) :
    Calls Try.prog 3 #[.agg cs.toArray, .agg cn.toArray] W fun e w' => e = .returned (.bool true) ∧ Below W.heap.size W w' := by
  have zA : ((W.alloc (.cells cs.toArray 29)).alloc (.cells cn.toArray 35)).heap.size = W.heap.size + 2 := by rw [World.size_alloc, World.size_alloc]
  have HBA : Hid (Below W.heap.size W ((W.alloc (.cells cs.toArray 29)).alloc (.cells cn.toArray 35))) := (((Below.refl _ _).alloc (by exact Nat.le_refl _) _).alloc (by rw [World.size_alloc]; omega) _)
  have g_cs : Hid (((W.alloc (.cells cs.toArray 29)).alloc (.cells cn.toArray 35)).heap[W.heap.size]? = some (.cells cs.toArray 29 (0, 0))) := by
    show _ = _
    rw [Below.heap_alloc _ _ _ (by rw [World.size_alloc]; omega)]; exact heap_alloc_new W _
  have g_cn : Hid (((W.alloc (.cells cs.toArray 29)).alloc (.cells cn.toArray 35)).heap[W.heap.size + 1]? = some (.cells cn.toArray 35 (0, 0))) := by
    show _ = _
    have h := heap_alloc_new (W.alloc (.cells cs.toArray 29)) (.cells cn.toArray 35); rw [World.size_alloc] at h; exact h
  have I_cs : Hid ((Try.prog.info? 29).map (·.size) = some cs.toArray.size) := by show _ = _; rw [List.size_toArray, hr_cs.len]; kernel_rfl
  have J_cs : Hid ((Try.prog.info? 29).map (·.size) = some cs.length) := by show _ = _; rw [hr_cs.len]; kernel_rfl
  have I_cn : Hid ((Try.prog.info? 35).map (·.size) = some cn.toArray.size) := by show _ = _; rw [List.size_toArray, hr_cn.len]; kernel_rfl
  have J_cn : Hid ((Try.prog.info? 35).map (·.size) = some cn.length) := by show _ = _; rw [hr_cn.len]; kernel_rfl
  have reps : Hid (∀ w', Below W.heap.size W w' → Rep w' (fun b => b < w'.heap.size) F_store cs vs ∧ Rep w' (fun b => b < w'.heap.size) F_snapshot cn vn) := fun w' bw =>
    have m : ∀ b, b < W.heap.size → b < w'.heap.size := fun b hb => Nat.lt_of_lt_of_le hb bw.size
    ⟨hr_cs.kept bw.size (fun b hb => bw.block b hb) (m), hr_cn.kept bw.size (fun b hb => bw.block b hb) (m)⟩
  have T0 : Below ((W.alloc (.cells cs.toArray 29)).alloc (.cells cn.toArray 35)).heap.size ((W.alloc (.cells cs.toArray 29)).alloc (.cells cn.toArray 35)) ((W.alloc (.cells cs.toArray 29)).alloc (.cells cn.toArray 35)) := Below.refl _ _
  clear hr_cs hr_cn
  go_enter Try.func3, Try.ntmps3
  have G : Hid (((W.alloc (.cells cs.toArray 29)).alloc (.cells cn.toArray 35)).heap[W.heap.size]? = some (.cells cs.toArray 29 (0, 0))) := (T0.block _ (by omega)).trans g_cs.out
  go_wp2_with (refine wpList_load_row rfl 29 (.tmp 2) rfl (W.heap.size) rfl 29 cs.toArray (0, 0) _ G.out Try.underlying29 rfl I_cs.out ?_)
  refine (putStore_w cs vs _ (reps.out _ (HBA.out.trans (T0.mono (by omega)))).1).mono ?_
  rintro e w1 ⟨val, he, oX, _, b1⟩
  simp only [codeB, bytesB, HF0.out, Bool.false_eq_true, if_false] at he oX
  obtain ⟨aX, cX, hv, hbsX⟩ := oX.form
  have capX := (hv ▸ oX).cap
  subst hv
  replace hbsX := hbsX (by have := en_len F_store vs; have := mxl_store; omega)
  subst he
  have T1 := T0.trans (b1.mono T0.size)
  have ltX : ∀ y, aX = some y → y.block < w1.heap.size := fun y hy => oX.lt _ (by rw [hy]; rfl)
  clear T0 b1 oX G
  have G : Hid (w1.heap[W.heap.size]? = some (.cells cs.toArray 29 (0, 0))) := (T1.block _ (by omega)).trans g_cs.out
  go_wp2_with (refine wpList_load_row rfl 29 (.tmp 2) rfl (W.heap.size) rfl 29 cs.toArray (0, 0) _ G.out Try.underlying29 rfl I_cs.out ?_)
  refine (putStore_o cs vs _ hz_cs (reps.out _ (HBA.out.trans (T1.mono (by omega)))).1).mono ?_
  rintro e w2 ⟨val, he, oY, _, b2⟩
  simp only [codeB, bytesB, HF0.out, Bool.false_eq_true, if_false] at he oY
  obtain ⟨aY, cY, hv, hbsY⟩ := oY.form
  have capY := (hv ▸ oY).cap
  subst hv
  replace hbsY := hbsY (by have := en_len F_store vs; have := mxl_store; omega)
  subst he
  have T2 := T1.trans (b2.mono T1.size)
  replace hbsX := hbsX.grow b2
  replace ltX : ∀ y, aX = some y → y.block < _ := fun y hy => Nat.lt_of_lt_of_le (ltX y hy) b2.size
  clear T1 b2 oY G
  obtain ⟨OK, HOK⟩ : ∃ OK, Hid (decide ((de F_store (some (en F_store vs).1)).2 = some []) = OK) := ⟨_, rfl⟩
  have HOKV : Hid (OK = true) := by
    show OK = _
    rw [← HOK.out]
    have := de_en F_store vs [] HF0.out; rw [List.append_nil] at this; rw [this]; exact decide_eq_true rfl
  go_wp2_with fail
  refine (getv_store aX ((en F_store vs).1.length) cX (en F_store vs).1 w2 rfl capX hbsX ltX).mono ?_
  rintro e w3 ⟨cs0, vv0, he, hrep, hval, b3⟩
  rw [HOK.out, HOKV.out] at he
  subst he
  have HRE : Hid (Rep w3 (NB w2 w3) F_store cs0 vv0) := hrep
  have HVV : Hid (vv0 = vs) := by have h2 := de_en F_store vs [] HF0.out; rw [List.append_nil] at h2; have h3 := hval (by rw [h2]); rw [h2] at h3; exact h3
  have HCI : Hid ((Try.prog.info? 29).map (·.size) = some cs0.toArray.size) := by show _ = _; rw [List.size_toArray, hrep.len]; kernel_rfl
  have HCO : Hid (cs0.toArray.all (·.oneCell') = true) := hrep.all
  have HCS : Hid (Zr_store.size = cs0.toArray.size) := by
    have h : cs0.toArray.size = wd F_store := by rw [List.size_toArray]; exact hrep.len
    show Zr_store.size = cs0.toArray.size
    rw [h]; kernel_rfl
  have T3 := T2.trans (b3.mono T2.size)
  replace hbsX := hbsX.grow b3
  replace hbsY := hbsY.grow b3
  clear T2 b3 hrep hval ltX
  go_wp2_with (refine wpList_store_rowF rfl 29 (.tmp 9) (.tmp 28) rfl w3.heap.size cs0.toArray rfl rfl 29 Zr_store (heap_alloc_new w3 (.cells Zr_store 29)) HCI.out HCS.out HCO.out ?next)
  case next =>
  intro u0 hu
  have b4 : Below w3.heap.size w3 u0 := by
    rw [hu.out]
    exact ((Below.refl _ _).alloc (Nat.le_refl _) _).trans ⟨rfl, rfl, rfl, by simp [World.setRow], fun kk hkk => setRow_other _ _ _ _ (by omega)⟩
  have GU : Hid (u0.heap[w3.heap.size]? = some (.cells cs0.toArray 29 (0, 0))) := by
    show _ = _
    rw [hu.out]; exact setRow_heap _ _ _ _ 29 _ (heap_alloc_new w3 (.cells Zr_store 29))
  have HRE2 : Hid (Rep u0 (fun b => b < u0.heap.size) F_store cs0 vv0) := HRE.out.kept b4.size (fun b hb => b4.block b hb.2) (fun b hb => Nat.lt_of_lt_of_le hb.2 b4.size)
  have T4 := T3.trans (b4.mono T3.size)
  replace hbsX := hbsX.grow b4
  replace hbsY := hbsY.grow b4
  clear T3 b4 hu HRE
  go_wp2_with (refine wpList_load_row rfl 29 (.tmp 9) rfl w3.heap.size rfl 29 cs0.toArray (0, 0) _ GU.out Try.underlying29 rfl HCI.out ?_)
  refine (putStore_w cs0 vv0 u0 HRE2.out).mono ?_
  rintro e w5 ⟨val, he, oZ, _, b5⟩
  rw [HVV.out] at he oZ
  simp only [codeB, bytesB, HF0.out, Bool.false_eq_true, if_false] at he oZ
  obtain ⟨aZ, cZ, hv, hbsZ⟩ := oZ.form
  subst hv
  subst he
  replace hbsZ := hbsZ (by have := en_len F_store vs; have := mxl_store; omega)
  have T5 := T4.trans (b5.mono T4.size)
  replace hbsX := hbsX.grow b5
  replace hbsY := hbsY.grow b5
  have KX : Hid _ := hbsX
  have KY : Hid _ := hbsY
  have KZ : Hid _ := hbsZ
  clear T4 oZ GU hbsX hbsY hbsZ b5
  go_wp2_with fail
  refine (both_ok aX aY aZ _ cX cY cZ (en F_store vs).1 w5 rfl KX.out KY.out KZ.out).mono ?_
  rintro e w6 ⟨rfl, b6⟩
  have T6 := T5.trans (b6.mono T5.size)
  clear T5 b6
  go_wp2_with fail
  refine (known_any w6).mono ?_
  rintro e w7 ⟨rfl, b7⟩
  have T7 := T6.trans (b7.mono T6.size)
  clear T6 b7
  have G : Hid (w7.heap[W.heap.size + 1]? = some (.cells cn.toArray 35 (0, 0))) := (T7.block _ (by omega)).trans g_cn.out
  go_wp2_with (refine wpList_load_row rfl 35 (.tmp 3) rfl (W.heap.size + 1) rfl 35 cn.toArray (0, 0) _ G.out Try.underlying35 rfl I_cn.out ?_)
  refine (putSnapshot_w cn vn _ (reps.out _ (HBA.out.trans (T7.mono (by omega)))).2).mono ?_
  rintro e w8 ⟨val, he, oX, _, b8⟩
  simp only [codeB, bytesB, HF1.out, if_true] at he oX
  obtain ⟨aX, cX, hv, hbsX⟩ := oX.form
  have capX := (hv ▸ oX).cap
  subst hv
  replace hbsX := hbsX (by simp only [List.length_nil]; omega)
  subst he
  have T8 := T7.trans (b8.mono T7.size)
  have ltX : ∀ y, aX = some y → y.block < w8.heap.size := fun y hy => oX.lt _ (by rw [hy]; rfl)
  clear T7 b8 oX G
  have G : Hid (w8.heap[W.heap.size + 1]? = some (.cells cn.toArray 35 (0, 0))) := (T8.block _ (by omega)).trans g_cn.out
  go_wp2_with (refine wpList_load_row rfl 35 (.tmp 3) rfl (W.heap.size + 1) rfl 35 cn.toArray (0, 0) _ G.out Try.underlying35 rfl I_cn.out ?_)
  refine (putSnapshot_o cn vn _ hz_cn (reps.out _ (HBA.out.trans (T8.mono (by omega)))).2).mono ?_
  rintro e w9 ⟨val, he, oY, _, b9⟩
  simp only [codeB, bytesB, HF1.out, if_true] at he oY
  obtain ⟨aY, cY, hv, hbsY⟩ := oY.form
  have capY := (hv ▸ oY).cap
  subst hv
  replace hbsY := hbsY (by simp only [List.length_nil]; omega)
  subst he
  have T9 := T8.trans (b9.mono T8.size)
  replace hbsX := hbsX.grow b9
  replace ltX : ∀ y, aX = some y → y.block < _ := fun y hy => Nat.lt_of_lt_of_le (ltX y hy) b9.size
  clear T8 b9 oY G
  obtain ⟨OK, HOK⟩ : ∃ OK, Hid (decide ((de F_snapshot (some [])).2 = some []) = OK) := ⟨_, rfl⟩
  have HOKV : Hid (OK = false) := by
    show OK = _
    rw [← HOK.out]
    exact decide_eq_false (by rw [show (de F_snapshot (some [])).2 = none from de_nil _]; simp)
  go_wp2_with fail
  refine (getv_snapshot aX (0) cX [] w9 rfl capX hbsX ltX).mono ?_
  rintro e w10 ⟨cs1, vv1, he, hrep, hval, b10⟩
  rw [HOK.out, HOKV.out] at he
  subst he
  have HRE : Hid (Rep w10 (NB w9 w10) F_snapshot cs1 vv1) := hrep
  have HVV : Hid (vv1 = vv1) := rfl
  have HCI : Hid ((Try.prog.info? 35).map (·.size) = some cs1.toArray.size) := by show _ = _; rw [List.size_toArray, hrep.len]; kernel_rfl
  have HCO : Hid (cs1.toArray.all (·.oneCell') = true) := hrep.all
  have HCS : Hid (Zr_snapshot.size = cs1.toArray.size) := by
    have h : cs1.toArray.size = wd F_snapshot := by rw [List.size_toArray]; exact hrep.len
    show Zr_snapshot.size = cs1.toArray.size
    rw [h]; kernel_rfl
  have T10 := T9.trans (b10.mono T9.size)
  replace hbsX := hbsX.grow b10
  replace hbsY := hbsY.grow b10
  clear T9 b10 hrep hval ltX
  go_wp2_with (refine wpList_store_rowF rfl 35 (.tmp 13) (.tmp 61) rfl w10.heap.size cs1.toArray rfl rfl 35 Zr_snapshot (heap_alloc_new w10 (.cells Zr_snapshot 35)) HCI.out HCS.out HCO.out ?next)
  case next =>
  intro u1 hu
  have b11 : Below w10.heap.size w10 u1 := by
    rw [hu.out]
    exact ((Below.refl _ _).alloc (Nat.le_refl _) _).trans ⟨rfl, rfl, rfl, by simp [World.setRow], fun kk hkk => setRow_other _ _ _ _ (by omega)⟩
  have GU : Hid (u1.heap[w10.heap.size]? = some (.cells cs1.toArray 35 (0, 0))) := by
    show _ = _
    rw [hu.out]; exact setRow_heap _ _ _ _ 35 _ (heap_alloc_new w10 (.cells Zr_snapshot 35))
  have HRE2 : Hid (Rep u1 (fun b => b < u1.heap.size) F_snapshot cs1 vv1) := HRE.out.kept b11.size (fun b hb => b11.block b hb.2) (fun b hb => Nat.lt_of_lt_of_le hb.2 b11.size)
  have T11 := T10.trans (b11.mono T10.size)
  replace hbsX := hbsX.grow b11
  replace hbsY := hbsY.grow b11
  clear T10 b11 hu HRE
  go_wp2_with (refine wpList_load_row rfl 35 (.tmp 13) rfl w10.heap.size rfl 35 cs1.toArray (0, 0) _ GU.out Try.underlying35 rfl HCI.out ?_)
  refine (putSnapshot_w cs1 vv1 u1 HRE2.out).mono ?_
  rintro e w12 ⟨val, he, oZ, _, b12⟩
  obtain ⟨aZ, cZ, hv, hbsZ⟩ := oZ.form
  subst hv
  subst he
  obtain ⟨gz, hgz⟩ : ∃ gz, Hid (codeB (en F_snapshot vv1).2 = gz) := ⟨_, rfl⟩
  rw [hgz.out]
  have T12 := T11.trans (b12.mono T11.size)
  clear T11 oZ GU hbsZ hbsX hbsY
  go_wp2_with fail
  refine (both_bad aX aY aZ _ cX cY cZ gz w12).mono ?_
  rintro e w13 ⟨rfl, b13⟩
  have T13 := T12.trans (b13.mono T12.size)
  clear T12 b13
  go_wp2
  go_ret
  exact ⟨rfl, HBA.out.trans (T13.mono (by omega))⟩

set_option maxHeartbeats 4000000 in
set_option maxRecDepth 100000 in
theorem lawStoresTF (W : World) (cs : List Value) (vs : Vl F_store) (cn : List Value) (vn : Vl F_snapshot) (hr_cs : Rep W (fun b => b < W.heap.size) F_store cs vs) (hr_cn : Rep W (fun b => b < W.heap.size) F_snapshot cn vn) (hz_cs : szb F_store vs ≤ 137438953472) (hz_cn : szb F_snapshot vn ≤ 137438953472) (HF0 : Hid ((en F_store vs).2 = true)) (HF1 : Hid ((en F_snapshot vn).2 = false)) :
    Calls Try.prog 3 #[.agg cs.toArray, .agg cn.toArray] W fun e w' => e = .returned (.bool true) ∧ Below W.heap.size W w' := by
  have zA : ((W.alloc (.cells cs.toArray 29)).alloc (.cells cn.toArray 35)).heap.size = W.heap.size + 2 := by rw [World.size_alloc, World.size_alloc]
  have HBA : Hid (Below W.heap.size W ((W.alloc (.cells cs.toArray 29)).alloc (.cells cn.toArray 35))) := (((Below.refl _ _).alloc (by exact Nat.le_refl _) _).alloc (by rw [World.size_alloc]; omega) _)
  have g_cs : Hid (((W.alloc (.cells cs.toArray 29)).alloc (.cells cn.toArray 35)).heap[W.heap.size]? = some (.cells cs.toArray 29 (0, 0))) := by
    show _ = _
    rw [Below.heap_alloc _ _ _ (by rw [World.size_alloc]; omega)]; exact heap_alloc_new W _
  have g_cn : Hid (((W.alloc (.cells cs.toArray 29)).alloc (.cells cn.toArray 35)).heap[W.heap.size + 1]? = some (.cells cn.toArray 35 (0, 0))) := by
    show _ = _
    have h := heap_alloc_new (W.alloc (.cells cs.toArray 29)) (.cells cn.toArray 35); rw [World.size_alloc] at h; exact h
  have I_cs : Hid ((Try.prog.info? 29).map (·.size) = some cs.toArray.size) := by show _ = _; rw [List.size_toArray, hr_cs.len]; kernel_rfl
  have J_cs : Hid ((Try.prog.info? 29).map (·.size) = some cs.length) := by show _ = _; rw [hr_cs.len]; kernel_rfl
  have I_cn : Hid ((Try.prog.info? 35).map (·.size) = some cn.toArray.size) := by show _ = _; rw [List.size_toArray, hr_cn.len]; kernel_rfl
  have J_cn : Hid ((Try.prog.info? 35).map (·.size) = some cn.length) := by show _ = _; rw [hr_cn.len]; kernel_rfl
  have reps : Hid (∀ w', Below W.heap.size W w' → Rep w' (fun b => b < w'.heap.size) F_store cs vs ∧ Rep w' (fun b => b < w'.heap.size) F_snapshot cn vn) := fun w' bw =>
    have m : ∀ b, b < W.heap.size → b < w'.heap.size := fun b hb => Nat.lt_of_lt_of_le hb bw.size
    ⟨hr_cs.kept bw.size (fun b hb => bw.block b hb) (m), hr_cn.kept bw.size (fun b hb => bw.block b hb) (m)⟩
  have T0 : Below ((W.alloc (.cells cs.toArray 29)).alloc (.cells cn.toArray 35)).heap.size ((W.alloc (.cells cs.toArray 29)).alloc (.cells cn.toArray 35)) ((W.alloc (.cells cs.toArray 29)).alloc (.cells cn.toArray 35)) := Below.refl _ _
  clear hr_cs hr_cn
  go_enter Try.func3, Try.ntmps3
  have G : Hid (((W.alloc (.cells cs.toArray 29)).alloc (.cells cn.toArray 35)).heap[W.heap.size]? = some (.cells cs.toArray 29 (0, 0))) := (T0.block _ (by omega)).trans g_cs.out
  go_wp2_with (refine wpList_load_row rfl 29 (.tmp 2) rfl (W.heap.size) rfl 29 cs.toArray (0, 0) _ G.out Try.underlying29 rfl I_cs.out ?_)
  refine (putStore_w cs vs _ (reps.out _ (HBA.out.trans (T0.mono (by omega)))).1).mono ?_
  rintro e w1 ⟨val, he, oX, _, b1⟩
  simp only [codeB, bytesB, HF0.out, if_true] at he oX
  obtain ⟨aX, cX, hv, hbsX⟩ := oX.form
  have capX := (hv ▸ oX).cap
  subst hv
  replace hbsX := hbsX (by simp only [List.length_nil]; omega)
  subst he
  have T1 := T0.trans (b1.mono T0.size)
  have ltX : ∀ y, aX = some y → y.block < w1.heap.size := fun y hy => oX.lt _ (by rw [hy]; rfl)
  clear T0 b1 oX G
  have G : Hid (w1.heap[W.heap.size]? = some (.cells cs.toArray 29 (0, 0))) := (T1.block _ (by omega)).trans g_cs.out
  go_wp2_with (refine wpList_load_row rfl 29 (.tmp 2) rfl (W.heap.size) rfl 29 cs.toArray (0, 0) _ G.out Try.underlying29 rfl I_cs.out ?_)
  refine (putStore_o cs vs _ hz_cs (reps.out _ (HBA.out.trans (T1.mono (by omega)))).1).mono ?_
  rintro e w2 ⟨val, he, oY, _, b2⟩
  simp only [codeB, bytesB, HF0.out, if_true] at he oY
  obtain ⟨aY, cY, hv, hbsY⟩ := oY.form
  have capY := (hv ▸ oY).cap
  subst hv
  replace hbsY := hbsY (by simp only [List.length_nil]; omega)
  subst he
  have T2 := T1.trans (b2.mono T1.size)
  replace hbsX := hbsX.grow b2
  replace ltX : ∀ y, aX = some y → y.block < _ := fun y hy => Nat.lt_of_lt_of_le (ltX y hy) b2.size
  clear T1 b2 oY G
  obtain ⟨OK, HOK⟩ : ∃ OK, Hid (decide ((de F_store (some [])).2 = some []) = OK) := ⟨_, rfl⟩
  have HOKV : Hid (OK = false) := by
    show OK = _
    rw [← HOK.out]
    exact decide_eq_false (by rw [show (de F_store (some [])).2 = none from de_nil _]; simp)
  go_wp2_with fail
  refine (getv_store aX (0) cX [] w2 rfl capX hbsX ltX).mono ?_
  rintro e w3 ⟨cs0, vv0, he, hrep, hval, b3⟩
  rw [HOK.out, HOKV.out] at he
  subst he
  have HRE : Hid (Rep w3 (NB w2 w3) F_store cs0 vv0) := hrep
  have HVV : Hid (vv0 = vv0) := rfl
  have HCI : Hid ((Try.prog.info? 29).map (·.size) = some cs0.toArray.size) := by show _ = _; rw [List.size_toArray, hrep.len]; kernel_rfl
  have HCO : Hid (cs0.toArray.all (·.oneCell') = true) := hrep.all
  have HCS : Hid (Zr_store.size = cs0.toArray.size) := by
    have h : cs0.toArray.size = wd F_store := by rw [List.size_toArray]; exact hrep.len
    show Zr_store.size = cs0.toArray.size
    rw [h]; kernel_rfl
  have T3 := T2.trans (b3.mono T2.size)
  replace hbsX := hbsX.grow b3
  replace hbsY := hbsY.grow b3
  clear T2 b3 hrep hval ltX
  go_wp2_with (refine wpList_store_rowF rfl 29 (.tmp 9) (.tmp 28) rfl w3.heap.size cs0.toArray rfl rfl 29 Zr_store (heap_alloc_new w3 (.cells Zr_store 29)) HCI.out HCS.out HCO.out ?next)
  case next =>
  intro u0 hu
  have b4 : Below w3.heap.size w3 u0 := by
    rw [hu.out]
    exact ((Below.refl _ _).alloc (Nat.le_refl _) _).trans ⟨rfl, rfl, rfl, by simp [World.setRow], fun kk hkk => setRow_other _ _ _ _ (by omega)⟩
  have GU : Hid (u0.heap[w3.heap.size]? = some (.cells cs0.toArray 29 (0, 0))) := by
    show _ = _
    rw [hu.out]; exact setRow_heap _ _ _ _ 29 _ (heap_alloc_new w3 (.cells Zr_store 29))
  have HRE2 : Hid (Rep u0 (fun b => b < u0.heap.size) F_store cs0 vv0) := HRE.out.kept b4.size (fun b hb => b4.block b hb.2) (fun b hb => Nat.lt_of_lt_of_le hb.2 b4.size)
  have T4 := T3.trans (b4.mono T3.size)
  replace hbsX := hbsX.grow b4
  replace hbsY := hbsY.grow b4
  clear T3 b4 hu HRE
  go_wp2_with (refine wpList_load_row rfl 29 (.tmp 9) rfl w3.heap.size rfl 29 cs0.toArray (0, 0) _ GU.out Try.underlying29 rfl HCI.out ?_)
  refine (putStore_w cs0 vv0 u0 HRE2.out).mono ?_
  rintro e w5 ⟨val, he, oZ, _, b5⟩
  obtain ⟨aZ, cZ, hv, hbsZ⟩ := oZ.form
  subst hv
  subst he
  obtain ⟨gz, hgz⟩ : ∃ gz, Hid (codeB (en F_store vv0).2 = gz) := ⟨_, rfl⟩
  rw [hgz.out]
  have T5 := T4.trans (b5.mono T4.size)
  clear T4 oZ GU hbsZ hbsX hbsY
  go_wp2_with fail
  refine (both_bad aX aY aZ _ cX cY cZ gz w5).mono ?_
  rintro e w6 ⟨rfl, b6⟩
  have T6 := T5.trans (b6.mono T5.size)
  clear T5 b6
  go_wp2_with fail
  refine (known_any w6).mono ?_
  rintro e w7 ⟨rfl, b7⟩
  have T7 := T6.trans (b7.mono T6.size)
  clear T6 b7
  have G : Hid (w7.heap[W.heap.size + 1]? = some (.cells cn.toArray 35 (0, 0))) := (T7.block _ (by omega)).trans g_cn.out
  go_wp2_with (refine wpList_load_row rfl 35 (.tmp 3) rfl (W.heap.size + 1) rfl 35 cn.toArray (0, 0) _ G.out Try.underlying35 rfl I_cn.out ?_)
  refine (putSnapshot_w cn vn _ (reps.out _ (HBA.out.trans (T7.mono (by omega)))).2).mono ?_
  rintro e w8 ⟨val, he, oX, _, b8⟩
  simp only [codeB, bytesB, HF1.out, Bool.false_eq_true, if_false] at he oX
  obtain ⟨aX, cX, hv, hbsX⟩ := oX.form
  have capX := (hv ▸ oX).cap
  subst hv
  replace hbsX := hbsX (by have := en_len F_snapshot vn; have := mxl_snapshot; omega)
  subst he
  have T8 := T7.trans (b8.mono T7.size)
  have ltX : ∀ y, aX = some y → y.block < w8.heap.size := fun y hy => oX.lt _ (by rw [hy]; rfl)
  clear T7 b8 oX G
  have G : Hid (w8.heap[W.heap.size + 1]? = some (.cells cn.toArray 35 (0, 0))) := (T8.block _ (by omega)).trans g_cn.out
  go_wp2_with (refine wpList_load_row rfl 35 (.tmp 3) rfl (W.heap.size + 1) rfl 35 cn.toArray (0, 0) _ G.out Try.underlying35 rfl I_cn.out ?_)
  refine (putSnapshot_o cn vn _ hz_cn (reps.out _ (HBA.out.trans (T8.mono (by omega)))).2).mono ?_
  rintro e w9 ⟨val, he, oY, _, b9⟩
  simp only [codeB, bytesB, HF1.out, Bool.false_eq_true, if_false] at he oY
  obtain ⟨aY, cY, hv, hbsY⟩ := oY.form
  have capY := (hv ▸ oY).cap
  subst hv
  replace hbsY := hbsY (by have := en_len F_snapshot vn; have := mxl_snapshot; omega)
  subst he
  have T9 := T8.trans (b9.mono T8.size)
  replace hbsX := hbsX.grow b9
  replace ltX : ∀ y, aX = some y → y.block < _ := fun y hy => Nat.lt_of_lt_of_le (ltX y hy) b9.size
  clear T8 b9 oY G
  obtain ⟨OK, HOK⟩ : ∃ OK, Hid (decide ((de F_snapshot (some (en F_snapshot vn).1)).2 = some []) = OK) := ⟨_, rfl⟩
  have HOKV : Hid (OK = true) := by
    show OK = _
    rw [← HOK.out]
    have := de_en F_snapshot vn [] HF1.out; rw [List.append_nil] at this; rw [this]; exact decide_eq_true rfl
  go_wp2_with fail
  refine (getv_snapshot aX ((en F_snapshot vn).1.length) cX (en F_snapshot vn).1 w9 rfl capX hbsX ltX).mono ?_
  rintro e w10 ⟨cs1, vv1, he, hrep, hval, b10⟩
  rw [HOK.out, HOKV.out] at he
  subst he
  have HRE : Hid (Rep w10 (NB w9 w10) F_snapshot cs1 vv1) := hrep
  have HVV : Hid (vv1 = vn) := by have h2 := de_en F_snapshot vn [] HF1.out; rw [List.append_nil] at h2; have h3 := hval (by rw [h2]); rw [h2] at h3; exact h3
  have HCI : Hid ((Try.prog.info? 35).map (·.size) = some cs1.toArray.size) := by show _ = _; rw [List.size_toArray, hrep.len]; kernel_rfl
  have HCO : Hid (cs1.toArray.all (·.oneCell') = true) := hrep.all
  have HCS : Hid (Zr_snapshot.size = cs1.toArray.size) := by
    have h : cs1.toArray.size = wd F_snapshot := by rw [List.size_toArray]; exact hrep.len
    show Zr_snapshot.size = cs1.toArray.size
    rw [h]; kernel_rfl
  have T10 := T9.trans (b10.mono T9.size)
  replace hbsX := hbsX.grow b10
  replace hbsY := hbsY.grow b10
  clear T9 b10 hrep hval ltX
  go_wp2_with (refine wpList_store_rowF rfl 35 (.tmp 13) (.tmp 61) rfl w10.heap.size cs1.toArray rfl rfl 35 Zr_snapshot (heap_alloc_new w10 (.cells Zr_snapshot 35)) HCI.out HCS.out HCO.out ?next)
  case next =>
  intro u1 hu
  have b11 : Below w10.heap.size w10 u1 := by
    rw [hu.out]
    exact ((Below.refl _ _).alloc (Nat.le_refl _) _).trans ⟨rfl, rfl, rfl, by simp [World.setRow], fun kk hkk => setRow_other _ _ _ _ (by omega)⟩
  have GU : Hid (u1.heap[w10.heap.size]? = some (.cells cs1.toArray 35 (0, 0))) := by
    show _ = _
    rw [hu.out]; exact setRow_heap _ _ _ _ 35 _ (heap_alloc_new w10 (.cells Zr_snapshot 35))
  have HRE2 : Hid (Rep u1 (fun b => b < u1.heap.size) F_snapshot cs1 vv1) := HRE.out.kept b11.size (fun b hb => b11.block b hb.2) (fun b hb => Nat.lt_of_lt_of_le hb.2 b11.size)
  have T11 := T10.trans (b11.mono T10.size)
  replace hbsX := hbsX.grow b11
  replace hbsY := hbsY.grow b11
  clear T10 b11 hu HRE
  go_wp2_with (refine wpList_load_row rfl 35 (.tmp 13) rfl w10.heap.size rfl 35 cs1.toArray (0, 0) _ GU.out Try.underlying35 rfl HCI.out ?_)
  refine (putSnapshot_w cs1 vv1 u1 HRE2.out).mono ?_
  rintro e w12 ⟨val, he, oZ, _, b12⟩
  rw [HVV.out] at he oZ
  simp only [codeB, bytesB, HF1.out, Bool.false_eq_true, if_false] at he oZ
  obtain ⟨aZ, cZ, hv, hbsZ⟩ := oZ.form
  subst hv
  subst he
  replace hbsZ := hbsZ (by have := en_len F_snapshot vn; have := mxl_snapshot; omega)
  have T12 := T11.trans (b12.mono T11.size)
  replace hbsX := hbsX.grow b12
  replace hbsY := hbsY.grow b12
  have KX : Hid _ := hbsX
  have KY : Hid _ := hbsY
  have KZ : Hid _ := hbsZ
  clear T11 oZ GU hbsX hbsY hbsZ b12
  go_wp2_with fail
  refine (both_ok aX aY aZ _ cX cY cZ (en F_snapshot vn).1 w12 rfl KX.out KY.out KZ.out).mono ?_
  rintro e w13 ⟨rfl, b13⟩
  have T13 := T12.trans (b13.mono T12.size)
  clear T12 b13
  go_wp2
  go_ret
  exact ⟨rfl, HBA.out.trans (T13.mono (by omega))⟩

set_option maxHeartbeats 4000000 in
set_option maxRecDepth 100000 in
theorem lawStoresTT (W : World) (cs : List Value) (vs : Vl F_store) (cn : List Value) (vn : Vl F_snapshot) (hr_cs : Rep W (fun b => b < W.heap.size) F_store cs vs) (hr_cn : Rep W (fun b => b < W.heap.size) F_snapshot cn vn) (hz_cs : szb F_store vs ≤ 137438953472) (hz_cn : szb F_snapshot vn ≤ 137438953472) (HF0 : Hid ((en F_store vs).2 = true)) (HF1 : Hid ((en F_snapshot vn).2 = true)) :
    Calls Try.prog 3 #[.agg cs.toArray, .agg cn.toArray] W fun e w' => e = .returned (.bool true) ∧ Below W.heap.size W w' := by
  have zA : ((W.alloc (.cells cs.toArray 29)).alloc (.cells cn.toArray 35)).heap.size = W.heap.size + 2 := by rw [World.size_alloc, World.size_alloc]
  have HBA : Hid (Below W.heap.size W ((W.alloc (.cells cs.toArray 29)).alloc (.cells cn.toArray 35))) := (((Below.refl _ _).alloc (by exact Nat.le_refl _) _).alloc (by rw [World.size_alloc]; omega) _)
  have g_cs : Hid (((W.alloc (.cells cs.toArray 29)).alloc (.cells cn.toArray 35)).heap[W.heap.size]? = some (.cells cs.toArray 29 (0, 0))) := by
    show _ = _
    rw [Below.heap_alloc _ _ _ (by rw [World.size_alloc]; omega)]; exact heap_alloc_new W _
  have g_cn : Hid (((W.alloc (.cells cs.toArray 29)).alloc (.cells cn.toArray 35)).heap[W.heap.size + 1]? = some (.cells cn.toArray 35 (0, 0))) := by
    show _ = _
    have h := heap_alloc_new (W.alloc (.cells cs.toArray 29)) (.cells cn.toArray 35); rw [World.size_alloc] at h; exact h
  have I_cs : Hid ((Try.prog.info? 29).map (·.size) = some cs.toArray.size) := by show _ = _; rw [List.size_toArray, hr_cs.len]; kernel_rfl
  have J_cs : Hid ((Try.prog.info? 29).map (·.size) = some cs.length) := by show _ = _; rw [hr_cs.len]; kernel_rfl
  have I_cn : Hid ((Try.prog.info? 35).map (·.size) = some cn.toArray.size) := by show _ = _; rw [List.size_toArray, hr_cn.len]; kernel_rfl
  have J_cn : Hid ((Try.prog.info? 35).map (·.size) = some cn.length) := by show _ = _; rw [hr_cn.len]; kernel_rfl
  have reps : Hid (∀ w', Below W.heap.size W w' → Rep w' (fun b => b < w'.heap.size) F_store cs vs ∧ Rep w' (fun b => b < w'.heap.size) F_snapshot cn vn) := fun w' bw =>
    have m : ∀ b, b < W.heap.size → b < w'.heap.size := fun b hb => Nat.lt_of_lt_of_le hb bw.size
    ⟨hr_cs.kept bw.size (fun b hb => bw.block b hb) (m), hr_cn.kept bw.size (fun b hb => bw.block b hb) (m)⟩
  have T0 : Below ((W.alloc (.cells cs.toArray 29)).alloc (.cells cn.toArray 35)).heap.size ((W.alloc (.cells cs.toArray 29)).alloc (.cells cn.toArray 35)) ((W.alloc (.cells cs.toArray 29)).alloc (.cells cn.toArray 35)) := Below.refl _ _
  clear hr_cs hr_cn
  go_enter Try.func3, Try.ntmps3
  have G : Hid (((W.alloc (.cells cs.toArray 29)).alloc (.cells cn.toArray 35)).heap[W.heap.size]? = some (.cells cs.toArray 29 (0, 0))) := (T0.block _ (by omega)).trans g_cs.out
  go_wp2_with (refine wpList_load_row rfl 29 (.tmp 2) rfl (W.heap.size) rfl 29 cs.toArray (0, 0) _ G.out Try.underlying29 rfl I_cs.out ?_)
  refine (putStore_w cs vs _ (reps.out _ (HBA.out.trans (T0.mono (by omega)))).1).mono ?_
  rintro e w1 ⟨val, he, oX, _, b1⟩
  simp only [codeB, bytesB, HF0.out, if_true] at he oX
  obtain ⟨aX, cX, hv, hbsX⟩ := oX.form
  have capX := (hv ▸ oX).cap
  subst hv
  replace hbsX := hbsX (by simp only [List.length_nil]; omega)
  subst he
  have T1 := T0.trans (b1.mono T0.size)
  have ltX : ∀ y, aX = some y → y.block < w1.heap.size := fun y hy => oX.lt _ (by rw [hy]; rfl)
  clear T0 b1 oX G
  have G : Hid (w1.heap[W.heap.size]? = some (.cells cs.toArray 29 (0, 0))) := (T1.block _ (by omega)).trans g_cs.out
  go_wp2_with (refine wpList_load_row rfl 29 (.tmp 2) rfl (W.heap.size) rfl 29 cs.toArray (0, 0) _ G.out Try.underlying29 rfl I_cs.out ?_)
  refine (putStore_o cs vs _ hz_cs (reps.out _ (HBA.out.trans (T1.mono (by omega)))).1).mono ?_
  rintro e w2 ⟨val, he, oY, _, b2⟩
  simp only [codeB, bytesB, HF0.out, if_true] at he oY
  obtain ⟨aY, cY, hv, hbsY⟩ := oY.form
  have capY := (hv ▸ oY).cap
  subst hv
  replace hbsY := hbsY (by simp only [List.length_nil]; omega)
  subst he
  have T2 := T1.trans (b2.mono T1.size)
  replace hbsX := hbsX.grow b2
  replace ltX : ∀ y, aX = some y → y.block < _ := fun y hy => Nat.lt_of_lt_of_le (ltX y hy) b2.size
  clear T1 b2 oY G
  obtain ⟨OK, HOK⟩ : ∃ OK, Hid (decide ((de F_store (some [])).2 = some []) = OK) := ⟨_, rfl⟩
  have HOKV : Hid (OK = false) := by
    show OK = _
    rw [← HOK.out]
    exact decide_eq_false (by rw [show (de F_store (some [])).2 = none from de_nil _]; simp)
  go_wp2_with fail
  refine (getv_store aX (0) cX [] w2 rfl capX hbsX ltX).mono ?_
  rintro e w3 ⟨cs0, vv0, he, hrep, hval, b3⟩
  rw [HOK.out, HOKV.out] at he
  subst he
  have HRE : Hid (Rep w3 (NB w2 w3) F_store cs0 vv0) := hrep
  have HVV : Hid (vv0 = vv0) := rfl
  have HCI : Hid ((Try.prog.info? 29).map (·.size) = some cs0.toArray.size) := by show _ = _; rw [List.size_toArray, hrep.len]; kernel_rfl
  have HCO : Hid (cs0.toArray.all (·.oneCell') = true) := hrep.all
  have HCS : Hid (Zr_store.size = cs0.toArray.size) := by
    have h : cs0.toArray.size = wd F_store := by rw [List.size_toArray]; exact hrep.len
    show Zr_store.size = cs0.toArray.size
    rw [h]; kernel_rfl
  have T3 := T2.trans (b3.mono T2.size)
  replace hbsX := hbsX.grow b3
  replace hbsY := hbsY.grow b3
  clear T2 b3 hrep hval ltX
  go_wp2_with (refine wpList_store_rowF rfl 29 (.tmp 9) (.tmp 28) rfl w3.heap.size cs0.toArray rfl rfl 29 Zr_store (heap_alloc_new w3 (.cells Zr_store 29)) HCI.out HCS.out HCO.out ?next)
  case next =>
  intro u0 hu
  have b4 : Below w3.heap.size w3 u0 := by
    rw [hu.out]
    exact ((Below.refl _ _).alloc (Nat.le_refl _) _).trans ⟨rfl, rfl, rfl, by simp [World.setRow], fun kk hkk => setRow_other _ _ _ _ (by omega)⟩
  have GU : Hid (u0.heap[w3.heap.size]? = some (.cells cs0.toArray 29 (0, 0))) := by
    show _ = _
    rw [hu.out]; exact setRow_heap _ _ _ _ 29 _ (heap_alloc_new w3 (.cells Zr_store 29))
  have HRE2 : Hid (Rep u0 (fun b => b < u0.heap.size) F_store cs0 vv0) := HRE.out.kept b4.size (fun b hb => b4.block b hb.2) (fun b hb => Nat.lt_of_lt_of_le hb.2 b4.size)
  have T4 := T3.trans (b4.mono T3.size)
  replace hbsX := hbsX.grow b4
  replace hbsY := hbsY.grow b4
  clear T3 b4 hu HRE
  go_wp2_with (refine wpList_load_row rfl 29 (.tmp 9) rfl w3.heap.size rfl 29 cs0.toArray (0, 0) _ GU.out Try.underlying29 rfl HCI.out ?_)
  refine (putStore_w cs0 vv0 u0 HRE2.out).mono ?_
  rintro e w5 ⟨val, he, oZ, _, b5⟩
  obtain ⟨aZ, cZ, hv, hbsZ⟩ := oZ.form
  subst hv
  subst he
  obtain ⟨gz, hgz⟩ : ∃ gz, Hid (codeB (en F_store vv0).2 = gz) := ⟨_, rfl⟩
  rw [hgz.out]
  have T5 := T4.trans (b5.mono T4.size)
  clear T4 oZ GU hbsZ hbsX hbsY
  go_wp2_with fail
  refine (both_bad aX aY aZ _ cX cY cZ gz w5).mono ?_
  rintro e w6 ⟨rfl, b6⟩
  have T6 := T5.trans (b6.mono T5.size)
  clear T5 b6
  go_wp2_with fail
  refine (known_any w6).mono ?_
  rintro e w7 ⟨rfl, b7⟩
  have T7 := T6.trans (b7.mono T6.size)
  clear T6 b7
  have G : Hid (w7.heap[W.heap.size + 1]? = some (.cells cn.toArray 35 (0, 0))) := (T7.block _ (by omega)).trans g_cn.out
  go_wp2_with (refine wpList_load_row rfl 35 (.tmp 3) rfl (W.heap.size + 1) rfl 35 cn.toArray (0, 0) _ G.out Try.underlying35 rfl I_cn.out ?_)
  refine (putSnapshot_w cn vn _ (reps.out _ (HBA.out.trans (T7.mono (by omega)))).2).mono ?_
  rintro e w8 ⟨val, he, oX, _, b8⟩
  simp only [codeB, bytesB, HF1.out, if_true] at he oX
  obtain ⟨aX, cX, hv, hbsX⟩ := oX.form
  have capX := (hv ▸ oX).cap
  subst hv
  replace hbsX := hbsX (by simp only [List.length_nil]; omega)
  subst he
  have T8 := T7.trans (b8.mono T7.size)
  have ltX : ∀ y, aX = some y → y.block < w8.heap.size := fun y hy => oX.lt _ (by rw [hy]; rfl)
  clear T7 b8 oX G
  have G : Hid (w8.heap[W.heap.size + 1]? = some (.cells cn.toArray 35 (0, 0))) := (T8.block _ (by omega)).trans g_cn.out
  go_wp2_with (refine wpList_load_row rfl 35 (.tmp 3) rfl (W.heap.size + 1) rfl 35 cn.toArray (0, 0) _ G.out Try.underlying35 rfl I_cn.out ?_)
  refine (putSnapshot_o cn vn _ hz_cn (reps.out _ (HBA.out.trans (T8.mono (by omega)))).2).mono ?_
  rintro e w9 ⟨val, he, oY, _, b9⟩
  simp only [codeB, bytesB, HF1.out, if_true] at he oY
  obtain ⟨aY, cY, hv, hbsY⟩ := oY.form
  have capY := (hv ▸ oY).cap
  subst hv
  replace hbsY := hbsY (by simp only [List.length_nil]; omega)
  subst he
  have T9 := T8.trans (b9.mono T8.size)
  replace hbsX := hbsX.grow b9
  replace ltX : ∀ y, aX = some y → y.block < _ := fun y hy => Nat.lt_of_lt_of_le (ltX y hy) b9.size
  clear T8 b9 oY G
  obtain ⟨OK, HOK⟩ : ∃ OK, Hid (decide ((de F_snapshot (some [])).2 = some []) = OK) := ⟨_, rfl⟩
  have HOKV : Hid (OK = false) := by
    show OK = _
    rw [← HOK.out]
    exact decide_eq_false (by rw [show (de F_snapshot (some [])).2 = none from de_nil _]; simp)
  go_wp2_with fail
  refine (getv_snapshot aX (0) cX [] w9 rfl capX hbsX ltX).mono ?_
  rintro e w10 ⟨cs1, vv1, he, hrep, hval, b10⟩
  rw [HOK.out, HOKV.out] at he
  subst he
  have HRE : Hid (Rep w10 (NB w9 w10) F_snapshot cs1 vv1) := hrep
  have HVV : Hid (vv1 = vv1) := rfl
  have HCI : Hid ((Try.prog.info? 35).map (·.size) = some cs1.toArray.size) := by show _ = _; rw [List.size_toArray, hrep.len]; kernel_rfl
  have HCO : Hid (cs1.toArray.all (·.oneCell') = true) := hrep.all
  have HCS : Hid (Zr_snapshot.size = cs1.toArray.size) := by
    have h : cs1.toArray.size = wd F_snapshot := by rw [List.size_toArray]; exact hrep.len
    show Zr_snapshot.size = cs1.toArray.size
    rw [h]; kernel_rfl
  have T10 := T9.trans (b10.mono T9.size)
  replace hbsX := hbsX.grow b10
  replace hbsY := hbsY.grow b10
  clear T9 b10 hrep hval ltX
  go_wp2_with (refine wpList_store_rowF rfl 35 (.tmp 13) (.tmp 61) rfl w10.heap.size cs1.toArray rfl rfl 35 Zr_snapshot (heap_alloc_new w10 (.cells Zr_snapshot 35)) HCI.out HCS.out HCO.out ?next)
  case next =>
  intro u1 hu
  have b11 : Below w10.heap.size w10 u1 := by
    rw [hu.out]
    exact ((Below.refl _ _).alloc (Nat.le_refl _) _).trans ⟨rfl, rfl, rfl, by simp [World.setRow], fun kk hkk => setRow_other _ _ _ _ (by omega)⟩
  have GU : Hid (u1.heap[w10.heap.size]? = some (.cells cs1.toArray 35 (0, 0))) := by
    show _ = _
    rw [hu.out]; exact setRow_heap _ _ _ _ 35 _ (heap_alloc_new w10 (.cells Zr_snapshot 35))
  have HRE2 : Hid (Rep u1 (fun b => b < u1.heap.size) F_snapshot cs1 vv1) := HRE.out.kept b11.size (fun b hb => b11.block b hb.2) (fun b hb => Nat.lt_of_lt_of_le hb.2 b11.size)
  have T11 := T10.trans (b11.mono T10.size)
  replace hbsX := hbsX.grow b11
  replace hbsY := hbsY.grow b11
  clear T10 b11 hu HRE
  go_wp2_with (refine wpList_load_row rfl 35 (.tmp 13) rfl w10.heap.size rfl 35 cs1.toArray (0, 0) _ GU.out Try.underlying35 rfl HCI.out ?_)
  refine (putSnapshot_w cs1 vv1 u1 HRE2.out).mono ?_
  rintro e w12 ⟨val, he, oZ, _, b12⟩
  obtain ⟨aZ, cZ, hv, hbsZ⟩ := oZ.form
  subst hv
  subst he
  obtain ⟨gz, hgz⟩ : ∃ gz, Hid (codeB (en F_snapshot vv1).2 = gz) := ⟨_, rfl⟩
  rw [hgz.out]
  have T12 := T11.trans (b12.mono T11.size)
  clear T11 oZ GU hbsZ hbsX hbsY
  go_wp2_with fail
  refine (both_bad aX aY aZ _ cX cY cZ gz w12).mono ?_
  rintro e w13 ⟨rfl, b13⟩
  have T13 := T12.trans (b13.mono T12.size)
  clear T12 b13
  go_wp2
  go_ret
  exact ⟨rfl, HBA.out.trans (T13.mono (by omega))⟩
theorem lawStoresX (W : World) (ca : Array Value) (vs : Vl F_store) (hr : Rep W (fun b => b < W.heap.size) F_store ca.toList vs) (hz : szb F_store vs ≤ 137438953472) (cb : Array Value) (vn : Vl F_snapshot) (hr2 : Rep W (fun b => b < W.heap.size) F_snapshot cb.toList vn) (hz2 : szb F_snapshot vn ≤ 137438953472) :
    Calls Try.prog 3 #[.agg ca, .agg cb] W fun e w' => e = .returned (.bool true) ∧ Below W.heap.size W w' := by
  have e : ca = ca.toList.toArray := by rw [Array.toArray_toList]
  have e2 : cb = cb.toList.toArray := by rw [Array.toArray_toList]
  rw [e, e2]
  cases h0 : (en F_store vs).2 <;> cases h1 : (en F_snapshot vn).2
  · exact lawStoresFF W ca.toList vs cb.toList vn hr hr2 hz hz2 h0 h1
  · exact lawStoresFT W ca.toList vs cb.toList vn hr hr2 hz hz2 h0 h1
  · exact lawStoresTF W ca.toList vs cb.toList vn hr hr2 hz hz2 h0 h1
  · exact lawStoresTT W ca.toList vs cb.toList vn hr hr2 hz hz2 h0 h1

end Go.Proofs.Ytpbokgeaolpiaab
