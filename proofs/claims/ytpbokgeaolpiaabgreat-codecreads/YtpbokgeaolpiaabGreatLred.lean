/- The walk of CodecReads: whatever bytes, it returns true and changes nothing that was there. Made by program (wip/gen/red.py). -/
import Derived.Test.YtpbokgeaolpiaabGreatKC
import Derived.Test.YtpbokgeaolpiaabGreatKD
import Derived.Test.YtpbokgeaolpiaabGreatIgmsg
import Derived.Test.YtpbokgeaolpiaabGreatKF
import Derived.Test.YtpbokgeaolpiaabGreatKG
import Derived.Test.YtpbokgeaolpiaabGreatVpw
import Derived.Test.YtpbokgeaolpiaabGreatVpwen
import Derived.Test.YtpbokgeaolpiaabGreatVpwms
import Derived.Test.YtpbokgeaolpiaabGreatVpwsn
import Derived.Test.YtpbokgeaolpiaabGreatVpwst
import Derived.Test.YtpbokgeaolpiaabGreatKB
import Derived.Deep.Cut
namespace Go.Proofs.YtpbokgeaolpiaabGreat
open Go.RowKit

theorem okWide_block {P : Program} {w : World} {base : Nat} {t e : TypeId} (ht : P.underlying t = some (.slice e)) {a : Option Addr} {len cap : Nat} (h : Value.okWide P w .any base t (.slice a len cap)) : ∀ y, a = some y → y.block < w.heap.size := by
  rintro y rfl
  unfold Value.okWide at h
  simp only [ht] at h
  unfold Cell.okWide at h
  simp only [ht] at h
  unfold Cell.ok at h
  simp only [ht] at h
  obtain ⟨_, _, _, _, row, cells, hs, _⟩ := h
  refine Classical.byContradiction fun hn => ?_
  have h0 : w.heap[y.block]? = none := Array.getElem?_eq_none (by omega)
  simp [World.shape?, h0] at hs

theorem mxr_cmd : mx F_cmd ≤ 211106232532992 := Nat.le_of_ble_eq_true (by kernel_rfl)
theorem read_cmd {l : List UInt8} {v : Vl F_cmd} (hv : (de F_cmd (some l)).2 = some [] → v = (de F_cmd (some l)).1) (h : decide ((de F_cmd (some l)).2 = some []) = true) : codeB (en F_cmd v).2 = 0 ∧ bytesB (en F_cmd v) = l := by
  have h1 := of_decide_eq_true h
  have h2 := en_de F_cmd l [] h1
  rw [← hv h1, List.append_nil] at h2
  unfold bytesB
  rw [h2.1]
  exact ⟨rfl, h2.2.symm⟩
theorem mxr_entry : mx F_entry ≤ 211106232532992 := Nat.le_of_ble_eq_true (by kernel_rfl)
theorem read_entry {l : List UInt8} {v : Vl F_entry} (hv : (de F_entry (some l)).2 = some [] → v = (de F_entry (some l)).1) (h : decide ((de F_entry (some l)).2 = some []) = true) : codeB (en F_entry v).2 = 0 ∧ bytesB (en F_entry v) = l := by
  have h1 := of_decide_eq_true h
  have h2 := en_de F_entry l [] h1
  rw [← hv h1, List.append_nil] at h2
  unfold bytesB
  rw [h2.1]
  exact ⟨rfl, h2.2.symm⟩
theorem mxr_msg : mx F_msg ≤ 211106232532992 := Nat.le_of_ble_eq_true (by kernel_rfl)
theorem read_msg {l : List UInt8} {v : Vl F_msg} (hv : (de F_msg (some l)).2 = some [] → v = (de F_msg (some l)).1) (h : decide ((de F_msg (some l)).2 = some []) = true) : codeB (en F_msg v).2 = 0 ∧ bytesB (en F_msg v) = l := by
  have h1 := of_decide_eq_true h
  have h2 := en_de F_msg l [] h1
  rw [← hv h1, List.append_nil] at h2
  unfold bytesB
  rw [h2.1]
  exact ⟨rfl, h2.2.symm⟩
theorem mxr_snapshot : mx F_snapshot ≤ 211106232532992 := Nat.le_of_ble_eq_true (by kernel_rfl)
theorem read_snapshot {l : List UInt8} {v : Vl F_snapshot} (hv : (de F_snapshot (some l)).2 = some [] → v = (de F_snapshot (some l)).1) (h : decide ((de F_snapshot (some l)).2 = some []) = true) : codeB (en F_snapshot v).2 = 0 ∧ bytesB (en F_snapshot v) = l := by
  have h1 := of_decide_eq_true h
  have h2 := en_de F_snapshot l [] h1
  rw [← hv h1, List.append_nil] at h2
  unfold bytesB
  rw [h2.1]
  exact ⟨rfl, h2.2.symm⟩
theorem mxr_store : mx F_store ≤ 211106232532992 := Nat.le_of_ble_eq_true (by kernel_rfl)
theorem read_store {l : List UInt8} {v : Vl F_store} (hv : (de F_store (some l)).2 = some [] → v = (de F_store (some l)).1) (h : decide ((de F_store (some l)).2 = some []) = true) : codeB (en F_store v).2 = 0 ∧ bytesB (en F_store v) = l := by
  have h1 := of_decide_eq_true h
  have h2 := en_de F_store l [] h1
  rw [← hv h1, List.append_nil] at h2
  unfold bytesB
  rw [h2.1]
  exact ⟨rfl, h2.2.symm⟩

set_option maxHeartbeats 8000000 in
set_option maxRecDepth 100000 in
theorem lawReads (W : World) (a : Option Addr) (len cap : Nat) (l : List UInt8) (hn : len = l.length) (hc : len ≤ cap) (hbs : Bs W a l) (hbl : ∀ y, a = some y → y.block < W.heap.size) :
    Calls Tryz.prog 3 #[.slice a len cap] W fun e w' => e = .returned (.bool true) ∧ Below W.heap.size W w' := by
  have HN := hidI hn
  have HC := hidI hc
  have HBS := hidI hbs
  have HBL := hidI hbl
  have BW0 := hidI (Below.refl W.heap.size W)
  clear hn hc hbs hbl
  go_enter Tryz.func3, Tryz.ntmps3
  go_wp2_with fail
  refine (getv_cmd a len cap l _ HN.out HC.out (HBS.out.below BW0.out HBL.out) (fun y hy => Nat.lt_of_lt_of_le (HBL.out y hy) BW0.out.size)).mono ?_
  rintro e w1_0 ⟨cs0, v0, he, hrep, hval, b1⟩
  obtain ⟨ok0, hok0⟩ : ∃ q, Hid (decide ((de F_cmd (some l)).2 = some []) = q) := ⟨_, hidI rfl⟩
  rw [hok0.out] at he
  subst he
  have HVAL0 := hidI hval
  have hcs : cs0.toArray.size = Zr_cmd.size := by rw [List.size_toArray, hrep.len]; kernel_rfl
  have HCS0 := hidI hcs
  have HCO0 : Hid (cs0.toArray.all (·.oneCell') = true) := hrep.all
  have HCI0 : Hid ((Tryz.prog.info? 38).map (·.size) = some cs0.toArray.size) := by show _ = _; rw [hcs]; exact Zr_cmd_i
  have BW1_0 := hidI (BW0.out.trans (b1.mono BW0.out.size))
  have HREP1_0 : Hid (Rep w1_0 (fun b => b < w1_0.heap.size) F_cmd cs0 v0) := hrep.kept (Nat.le_refl _) (fun _ _ => rfl) (fun b x => x.2.1)
  clear hrep hval b1 hcs
  go_wp2_with (refine wpList_store_rowF rfl 38 (.tmp 3) (.tmp 16) rfl w1_0.heap.size cs0.toArray rfl rfl 38 Zr_cmd (heap_alloc_new w1_0 (.cells Zr_cmd 38)) HCI0.out HCS0.out.symm HCO0.out ?nx0)
  case nx0 =>
  intro w2_0 hw2h
  have hw2 := hw2h.out
  have hB2 : Below w1_0.heap.size w1_0 w2_0 := by rw [hw2]; exact ((Below.refl _ _).alloc (Nat.le_refl _) _).trans ⟨rfl, rfl, rfl, by simp [World.setRow], fun k hk => setRow_other _ _ _ _ (by omega)⟩
  have G2_0 := hidI (show w2_0.heap[w1_0.heap.size]? = some (.cells cs0.toArray 38 (0, 0)) by rw [hw2]; exact setRow_heap _ _ _ _ 38 _ (heap_alloc_new w1_0 _))
  have BW2_0 := hidI (BW1_0.out.trans (hB2.mono BW1_0.out.size))
  have HREP2_0 : Hid (Rep w2_0 (fun b => b < w2_0.heap.size) F_cmd cs0 v0) := HREP1_0.out.kept hB2.size (fun b x => hB2.block b x) (fun b x => Nat.lt_of_lt_of_le x hB2.size)
  clear hw2 hw2h hB2
  go_wp2_with fail
  refine (getcmd_o a len cap l _ HN.out HC.out (HBS.out.below BW2_0.out HBL.out) (fun y hy => Nat.lt_of_lt_of_le (HBL.out y hy) BW2_0.out.size)).mono ?_
  rintro e w3_0 ⟨cd0, vd0, he, hrepd, _, b3⟩
  rw [hok0.out] at he
  subst he
  have BW3_0 := hidI (BW2_0.out.trans (b3.mono BW2_0.out.size))
  have G3_0 := hidI ((b3.block _ (Array.getElem?_eq_some_iff.1 G2_0.out).1).trans G2_0.out)
  have HREP3_0 : Hid (Rep w3_0 (fun b => b < w3_0.heap.size) F_cmd cs0 v0) := HREP2_0.out.kept b3.size (fun b x => b3.block b x) (fun b x => Nat.lt_of_lt_of_le x b3.size)
  have hcd : cd0.toArray.size = Zr_cmd.size := by rw [List.size_toArray, hrepd.len]; kernel_rfl
  have HCSd := hidI hcd
  have HCOd : Hid (cd0.toArray.all (·.oneCell') = true) := hrepd.all
  have HCId : Hid ((Tryz.prog.info? 38).map (·.size) = some cd0.toArray.size) := by show _ = _; rw [hcd]; exact Zr_cmd_i
  clear hrepd b3 hcd
  go_wp2_with (refine wpList_store_rowF rfl 38 (.tmp 5) (.tmp 21) rfl w3_0.heap.size cd0.toArray rfl rfl 38 Zr_cmd (heap_alloc_new w3_0 (.cells Zr_cmd 38)) HCId.out HCSd.out.symm HCOd.out ?ny0)
  case ny0 =>
  intro w5_0 hw5h
  have hw5 := hw5h.out
  have hB5 : Below w3_0.heap.size w3_0 w5_0 := by rw [hw5]; exact ((Below.refl _ _).alloc (Nat.le_refl _) _).trans ⟨rfl, rfl, rfl, by simp [World.setRow], fun k hk => setRow_other _ _ _ _ (by omega)⟩
  have BW5_0 := hidI (BW3_0.out.trans (hB5.mono BW3_0.out.size))
  have G5_0 := hidI ((hB5.block _ (Array.getElem?_eq_some_iff.1 G3_0.out).1).trans G3_0.out)
  have HREP5_0 : Hid (Rep w5_0 (fun b => b < w5_0.heap.size) F_cmd cs0 v0) := HREP3_0.out.kept hB5.size (fun b x => hB5.block b x) (fun b x => Nat.lt_of_lt_of_le x hB5.size)
  clear hw5 hw5h hB5
  go_wp2_with (refine wpList_load_row rfl 38 (.tmp 3) rfl w1_0.heap.size rfl 38 cs0.toArray (0, 0) _ G5_0.out Tryz.underlying38 rfl HCI0.out ?_)
  refine (putCmd_w cs0 v0 _ HREP5_0.out).mono ?_
  rintro e w4_0 ⟨val, rfl, o4, n4, b4⟩
  have BW4_0 := hidI (BW5_0.out.trans (b4.mono BW5_0.out.size))
  obtain ⟨aX0, cX0, rfl, hbsX⟩ := o4.form
  have HBX0 := hidI hbsX
  obtain ⟨cz0, hcz0⟩ : ∃ q, Hid (codeB (en F_cmd v0).2 = q) := ⟨_, hidI rfl⟩
  obtain ⟨nz0, hnz0⟩ : ∃ q, Hid ((bytesB (en F_cmd v0)).length = q) := ⟨_, hidI rfl⟩
  rw [hcz0.out, hnz0.out]
  clear o4 n4 b4 hbsX G2_0 G3_0 HREP1_0 HREP2_0 HREP3_0 BW1_0 BW2_0 HCI0 HCS0 HCO0
  go_upto_region 4 with fail
  go_cut [4, 6, 7, 8, 47] from 13 (fun s4 s6 s7 s8 st wx => st = .bool false ∧ Hid (Below W.heap.size W wx))
  case first =>
    cases ok0 with
    | false =>
      go_wp2_with fail
      refine (known_any _).mono ?_
      rintro e w6 ⟨rfl, b6⟩
      have BW6 := hidI (BW4_0.out.trans (b6.mono BW4_0.out.size))
      clear b6
      go_wp2_with fail
      go_meet
      case rel => exact ⟨rfl, BW6⟩
    | true =>
      have hrd := read_cmd HVAL0.out hok0.out
      have hz : cz0 = 0 := hcz0.out.symm.trans hrd.1
      subst hz
      have HL : Hid (bytesB (en F_cmd v0) = l) := hidI hrd.2
      have HBX := hidI (HBX0.out (by rw [HL.out]; exact HBS.out.1))
      clear hrd
      go_wp2_with fail
      refine (same_any aX0 a nz0 len cX0 cap _ l _ hnz0.out.symm HN.out HBX.out (HBS.out.below BW4_0.out HBL.out)).mono ?_
      rintro e w6 ⟨rfl, nq, hw6⟩
      rw [show decide (bytesB (en F_cmd v0) = l) = true from by simp [HL.out]]
      have BW6 := hidI (BW4_0.out.trans (by rw [hw6]; exact ⟨rfl, rfl, rfl, Nat.le_refl _, fun _ _ => rfl⟩ : Below W.heap.size w4_0 w6))
      clear hw6
      go_wp2_with fail
      refine (known_any _).mono ?_
      rintro e w7 ⟨rfl, b7⟩
      have BW7 := hidI (BW6.out.trans (b7.mono BW6.out.size))
      clear b7
      go_wp2_with fail
      go_meet
      case rel => exact ⟨rfl, BW7⟩
  case rest =>
    obtain ⟨rfl, HBW0⟩ := hcut
    have wcE : True := trivial
    clear wcE HVAL0 hok0 HBX0 hcz0 hnz0 BW4_0
    go_wp2_with fail
    refine (getv_entry a len cap l _ HN.out HC.out (HBS.out.below HBW0.out HBL.out) (fun y hy => Nat.lt_of_lt_of_le (HBL.out y hy) HBW0.out.size)).mono ?_
    rintro e w1_1 ⟨cs1, v1, he, hrep, hval, b1⟩
    obtain ⟨ok1, hok1⟩ : ∃ q, Hid (decide ((de F_entry (some l)).2 = some []) = q) := ⟨_, hidI rfl⟩
    rw [hok1.out] at he
    subst he
    have HVAL1 := hidI hval
    have hcs : cs1.toArray.size = Zr_entry.size := by rw [List.size_toArray, hrep.len]; kernel_rfl
    have HCS1 := hidI hcs
    have HCO1 : Hid (cs1.toArray.all (·.oneCell') = true) := hrep.all
    have HCI1 : Hid ((Tryz.prog.info? 47).map (·.size) = some cs1.toArray.size) := by show _ = _; rw [hcs]; exact Zr_entry_i
    have BW1_1 := hidI (HBW0.out.trans (b1.mono HBW0.out.size))
    have HREP1_1 : Hid (Rep w1_1 (fun b => b < w1_1.heap.size) F_entry cs1 v1) := hrep.kept (Nat.le_refl _) (fun _ _ => rfl) (fun b x => x.2.1)
    clear hrep hval b1 hcs
    go_wp2_with (refine wpList_store_rowF rfl 47 (.tmp 9) (.tmp 51) rfl w1_1.heap.size cs1.toArray rfl rfl 47 Zr_entry (heap_alloc_new w1_1 (.cells Zr_entry 47)) HCI1.out HCS1.out.symm HCO1.out ?nx1)
    case nx1 =>
    intro w2_1 hw2h
    have hw2 := hw2h.out
    have hB2 : Below w1_1.heap.size w1_1 w2_1 := by rw [hw2]; exact ((Below.refl _ _).alloc (Nat.le_refl _) _).trans ⟨rfl, rfl, rfl, by simp [World.setRow], fun k hk => setRow_other _ _ _ _ (by omega)⟩
    have G2_1 := hidI (show w2_1.heap[w1_1.heap.size]? = some (.cells cs1.toArray 47 (0, 0)) by rw [hw2]; exact setRow_heap _ _ _ _ 47 _ (heap_alloc_new w1_1 _))
    have BW2_1 := hidI (BW1_1.out.trans (hB2.mono BW1_1.out.size))
    have HREP2_1 : Hid (Rep w2_1 (fun b => b < w2_1.heap.size) F_entry cs1 v1) := HREP1_1.out.kept hB2.size (fun b x => hB2.block b x) (fun b x => Nat.lt_of_lt_of_le x hB2.size)
    clear hw2 hw2h hB2
    go_wp2_with fail
    refine (getentry_o a len cap l _ HN.out HC.out (HBS.out.below BW2_1.out HBL.out) (fun y hy => Nat.lt_of_lt_of_le (HBL.out y hy) BW2_1.out.size)).mono ?_
    rintro e w3_1 ⟨cd1, vd1, he, hrepd, _, b3⟩
    rw [hok1.out] at he
    subst he
    have BW3_1 := hidI (BW2_1.out.trans (b3.mono BW2_1.out.size))
    have G3_1 := hidI ((b3.block _ (Array.getElem?_eq_some_iff.1 G2_1.out).1).trans G2_1.out)
    have HREP3_1 : Hid (Rep w3_1 (fun b => b < w3_1.heap.size) F_entry cs1 v1) := HREP2_1.out.kept b3.size (fun b x => b3.block b x) (fun b x => Nat.lt_of_lt_of_le x b3.size)
    clear hrepd b3
    go_wp2_with (refine wpList_load_row rfl 47 (.tmp 9) rfl w1_1.heap.size rfl 47 cs1.toArray (0, 0) _ G3_1.out Tryz.underlying47 rfl HCI1.out ?_)
    refine (putEntry_w cs1 v1 _ HREP3_1.out).mono ?_
    rintro e w4_1 ⟨val, rfl, o4, n4, b4⟩
    have BW4_1 := hidI (BW3_1.out.trans (b4.mono BW3_1.out.size))
    obtain ⟨aX1, cX1, rfl, hbsX⟩ := o4.form
    have HBX1 := hidI hbsX
    obtain ⟨cz1, hcz1⟩ : ∃ q, Hid (codeB (en F_entry v1).2 = q) := ⟨_, hidI rfl⟩
    obtain ⟨nz1, hnz1⟩ : ∃ q, Hid ((bytesB (en F_entry v1)).length = q) := ⟨_, hidI rfl⟩
    rw [hcz1.out, hnz1.out]
    clear o4 n4 b4 hbsX G2_1 G3_1 HREP1_1 HREP2_1 HREP3_1 BW1_1 BW2_1 HCI1 HCS1 HCO1
    go_upto_region 9 with fail
    go_cut [4, 6, 7, 8, 78] from 13 (fun s4 s6 s7 s8 st wx => st = .bool false ∧ Hid (Below W.heap.size W wx))
    case first =>
      cases ok1 with
      | false =>
        go_wp2_with fail
        go_meet
        case rel => exact ⟨rfl, BW4_1⟩
      | true =>
        have hrd := read_entry HVAL1.out hok1.out
        have hz : cz1 = 0 := hcz1.out.symm.trans hrd.1
        subst hz
        have HL : Hid (bytesB (en F_entry v1) = l) := hidI hrd.2
        have HBX := hidI (HBX1.out (by rw [HL.out]; exact HBS.out.1))
        clear hrd
        go_wp2_with fail
        refine (same_any aX1 a nz1 len cX1 cap _ l _ hnz1.out.symm HN.out HBX.out (HBS.out.below BW4_1.out HBL.out)).mono ?_
        rintro e w6 ⟨rfl, nq, hw6⟩
        rw [show decide (bytesB (en F_entry v1) = l) = true from by simp [HL.out]]
        have BW6 := hidI (BW4_1.out.trans (by rw [hw6]; exact ⟨rfl, rfl, rfl, Nat.le_refl _, fun _ _ => rfl⟩ : Below W.heap.size w4_1 w6))
        clear hw6
        go_wp2_with fail
        go_meet
        case rel => exact ⟨rfl, BW6⟩
    case rest =>
      obtain ⟨rfl, HBW1⟩ := hcut
      have wcE : True := trivial
      clear wcE HVAL1 hok1 HBX1 hcz1 hnz1 BW4_1
      go_wp2_with fail
      refine (getv_msg a len cap l _ HN.out HC.out (HBS.out.below HBW1.out HBL.out) (fun y hy => Nat.lt_of_lt_of_le (HBL.out y hy) HBW1.out.size)).mono ?_
      rintro e w1_2 ⟨cs2, v2, he, hrep, hval, b1⟩
      obtain ⟨ok2, hok2⟩ : ∃ q, Hid (decide ((de F_msg (some l)).2 = some []) = q) := ⟨_, hidI rfl⟩
      rw [hok2.out] at he
      subst he
      have HVAL2 := hidI hval
      have hcs : cs2.toArray.size = Zr_msg.size := by rw [List.size_toArray, hrep.len]; kernel_rfl
      have HCS2 := hidI hcs
      have HCO2 : Hid (cs2.toArray.all (·.oneCell') = true) := hrep.all
      have HCI2 : Hid ((Tryz.prog.info? 55).map (·.size) = some cs2.toArray.size) := by show _ = _; rw [hcs]; exact Zr_msg_i
      have BW1_2 := hidI (HBW1.out.trans (b1.mono HBW1.out.size))
      have HREP1_2 : Hid (Rep w1_2 (fun b => b < w1_2.heap.size) F_msg cs2 v2) := hrep.kept (Nat.le_refl _) (fun _ _ => rfl) (fun b x => x.2.1)
      clear hrep hval b1 hcs
      go_wp2_with (refine wpList_store_rowF rfl 55 (.tmp 10) (.tmp 82) rfl w1_2.heap.size cs2.toArray rfl rfl 55 Zr_msg (heap_alloc_new w1_2 (.cells Zr_msg 55)) HCI2.out HCS2.out.symm HCO2.out ?nx2)
      case nx2 =>
      intro w2_2 hw2h
      have hw2 := hw2h.out
      have hB2 : Below w1_2.heap.size w1_2 w2_2 := by rw [hw2]; exact ((Below.refl _ _).alloc (Nat.le_refl _) _).trans ⟨rfl, rfl, rfl, by simp [World.setRow], fun k hk => setRow_other _ _ _ _ (by omega)⟩
      have G2_2 := hidI (show w2_2.heap[w1_2.heap.size]? = some (.cells cs2.toArray 55 (0, 0)) by rw [hw2]; exact setRow_heap _ _ _ _ 55 _ (heap_alloc_new w1_2 _))
      have BW2_2 := hidI (BW1_2.out.trans (hB2.mono BW1_2.out.size))
      have HREP2_2 : Hid (Rep w2_2 (fun b => b < w2_2.heap.size) F_msg cs2 v2) := HREP1_2.out.kept hB2.size (fun b x => hB2.block b x) (fun b x => Nat.lt_of_lt_of_le x hB2.size)
      clear hw2 hw2h hB2
      go_wp2_with fail
      refine (getmsg_o a len cap l _ HN.out HC.out (HBS.out.below BW2_2.out HBL.out) (fun y hy => Nat.lt_of_lt_of_le (HBL.out y hy) BW2_2.out.size)).mono ?_
      rintro e w3_2 ⟨cd2, vd2, he, hrepd, _, b3⟩
      rw [hok2.out] at he
      subst he
      have BW3_2 := hidI (BW2_2.out.trans (b3.mono BW2_2.out.size))
      have G3_2 := hidI ((b3.block _ (Array.getElem?_eq_some_iff.1 G2_2.out).1).trans G2_2.out)
      have HREP3_2 : Hid (Rep w3_2 (fun b => b < w3_2.heap.size) F_msg cs2 v2) := HREP2_2.out.kept b3.size (fun b x => b3.block b x) (fun b x => Nat.lt_of_lt_of_le x b3.size)
      clear hrepd b3
      go_wp2_with (refine wpList_load_row rfl 55 (.tmp 10) rfl w1_2.heap.size rfl 55 cs2.toArray (0, 0) _ G3_2.out Tryz.underlying55 rfl HCI2.out ?_)
      refine (putMsg_w cs2 v2 _ HREP3_2.out).mono ?_
      rintro e w4_2 ⟨val, rfl, o4, n4, b4⟩
      have BW4_2 := hidI (BW3_2.out.trans (b4.mono BW3_2.out.size))
      obtain ⟨aX2, cX2, rfl, hbsX⟩ := o4.form
      have HBX2 := hidI hbsX
      obtain ⟨cz2, hcz2⟩ : ∃ q, Hid (codeB (en F_msg v2).2 = q) := ⟨_, hidI rfl⟩
      obtain ⟨nz2, hnz2⟩ : ∃ q, Hid ((bytesB (en F_msg v2)).length = q) := ⟨_, hidI rfl⟩
      rw [hcz2.out, hnz2.out]
      clear o4 n4 b4 hbsX G2_2 G3_2 HREP1_2 HREP2_2 HREP3_2 BW1_2 BW2_2 HCI2 HCS2 HCO2
      go_upto_region 14 with fail
      go_cut [4, 6, 7, 8, 109] from 13 (fun s4 s6 s7 s8 st wx => st = .bool false ∧ Hid (Below W.heap.size W wx))
      case first =>
        cases ok2 with
        | false =>
          go_wp2_with fail
          go_meet
          case rel => exact ⟨rfl, BW4_2⟩
        | true =>
          have hrd := read_msg HVAL2.out hok2.out
          have hz : cz2 = 0 := hcz2.out.symm.trans hrd.1
          subst hz
          have HL : Hid (bytesB (en F_msg v2) = l) := hidI hrd.2
          have HBX := hidI (HBX2.out (by rw [HL.out]; exact HBS.out.1))
          clear hrd
          go_wp2_with fail
          refine (same_any aX2 a nz2 len cX2 cap _ l _ hnz2.out.symm HN.out HBX.out (HBS.out.below BW4_2.out HBL.out)).mono ?_
          rintro e w6 ⟨rfl, nq, hw6⟩
          rw [show decide (bytesB (en F_msg v2) = l) = true from by simp [HL.out]]
          have BW6 := hidI (BW4_2.out.trans (by rw [hw6]; exact ⟨rfl, rfl, rfl, Nat.le_refl _, fun _ _ => rfl⟩ : Below W.heap.size w4_2 w6))
          clear hw6
          go_wp2_with fail
          go_meet
          case rel => exact ⟨rfl, BW6⟩
      case rest =>
        obtain ⟨rfl, HBW2⟩ := hcut
        have wcE : True := trivial
        clear wcE HVAL2 hok2 HBX2 hcz2 hnz2 BW4_2
        go_wp2_with fail
        refine (getv_snapshot a len cap l _ HN.out HC.out (HBS.out.below HBW2.out HBL.out) (fun y hy => Nat.lt_of_lt_of_le (HBL.out y hy) HBW2.out.size)).mono ?_
        rintro e w1_3 ⟨cs3, v3, he, hrep, hval, b1⟩
        obtain ⟨ok3, hok3⟩ : ∃ q, Hid (decide ((de F_snapshot (some l)).2 = some []) = q) := ⟨_, hidI rfl⟩
        rw [hok3.out] at he
        subst he
        have HVAL3 := hidI hval
        have hcs : cs3.toArray.size = Zr_snapshot.size := by rw [List.size_toArray, hrep.len]; kernel_rfl
        have HCS3 := hidI hcs
        have HCO3 : Hid (cs3.toArray.all (·.oneCell') = true) := hrep.all
        have HCI3 : Hid ((Tryz.prog.info? 60).map (·.size) = some cs3.toArray.size) := by show _ = _; rw [hcs]; exact Zr_snapshot_i
        have BW1_3 := hidI (HBW2.out.trans (b1.mono HBW2.out.size))
        have HREP1_3 : Hid (Rep w1_3 (fun b => b < w1_3.heap.size) F_snapshot cs3 v3) := hrep.kept (Nat.le_refl _) (fun _ _ => rfl) (fun b x => x.2.1)
        clear hrep hval b1 hcs
        go_wp2_with (refine wpList_store_rowF rfl 60 (.tmp 11) (.tmp 113) rfl w1_3.heap.size cs3.toArray rfl rfl 60 Zr_snapshot (heap_alloc_new w1_3 (.cells Zr_snapshot 60)) HCI3.out HCS3.out.symm HCO3.out ?nx3)
        case nx3 =>
        intro w2_3 hw2h
        have hw2 := hw2h.out
        have hB2 : Below w1_3.heap.size w1_3 w2_3 := by rw [hw2]; exact ((Below.refl _ _).alloc (Nat.le_refl _) _).trans ⟨rfl, rfl, rfl, by simp [World.setRow], fun k hk => setRow_other _ _ _ _ (by omega)⟩
        have G2_3 := hidI (show w2_3.heap[w1_3.heap.size]? = some (.cells cs3.toArray 60 (0, 0)) by rw [hw2]; exact setRow_heap _ _ _ _ 60 _ (heap_alloc_new w1_3 _))
        have BW2_3 := hidI (BW1_3.out.trans (hB2.mono BW1_3.out.size))
        have HREP2_3 : Hid (Rep w2_3 (fun b => b < w2_3.heap.size) F_snapshot cs3 v3) := HREP1_3.out.kept hB2.size (fun b x => hB2.block b x) (fun b x => Nat.lt_of_lt_of_le x hB2.size)
        clear hw2 hw2h hB2
        go_wp2_with fail
        refine (getsnapshot_o a len cap l _ HN.out HC.out (HBS.out.below BW2_3.out HBL.out) (fun y hy => Nat.lt_of_lt_of_le (HBL.out y hy) BW2_3.out.size)).mono ?_
        rintro e w3_3 ⟨cd3, vd3, he, hrepd, _, b3⟩
        rw [hok3.out] at he
        subst he
        have BW3_3 := hidI (BW2_3.out.trans (b3.mono BW2_3.out.size))
        have G3_3 := hidI ((b3.block _ (Array.getElem?_eq_some_iff.1 G2_3.out).1).trans G2_3.out)
        have HREP3_3 : Hid (Rep w3_3 (fun b => b < w3_3.heap.size) F_snapshot cs3 v3) := HREP2_3.out.kept b3.size (fun b x => b3.block b x) (fun b x => Nat.lt_of_lt_of_le x b3.size)
        clear hrepd b3
        go_wp2_with (refine wpList_load_row rfl 60 (.tmp 11) rfl w1_3.heap.size rfl 60 cs3.toArray (0, 0) _ G3_3.out Tryz.underlying60 rfl HCI3.out ?_)
        refine (putSnapshot_w cs3 v3 _ HREP3_3.out).mono ?_
        rintro e w4_3 ⟨val, rfl, o4, n4, b4⟩
        have BW4_3 := hidI (BW3_3.out.trans (b4.mono BW3_3.out.size))
        obtain ⟨aX3, cX3, rfl, hbsX⟩ := o4.form
        have HBX3 := hidI hbsX
        obtain ⟨cz3, hcz3⟩ : ∃ q, Hid (codeB (en F_snapshot v3).2 = q) := ⟨_, hidI rfl⟩
        obtain ⟨nz3, hnz3⟩ : ∃ q, Hid ((bytesB (en F_snapshot v3)).length = q) := ⟨_, hidI rfl⟩
        rw [hcz3.out, hnz3.out]
        clear o4 n4 b4 hbsX G2_3 G3_3 HREP1_3 HREP2_3 HREP3_3 BW1_3 BW2_3 HCI3 HCS3 HCO3
        go_upto_region 19 with fail
        go_cut [4, 6, 7, 8, 140] from 13 (fun s4 s6 s7 s8 st wx => st = .bool false ∧ Hid (Below W.heap.size W wx))
        case first =>
          cases ok3 with
          | false =>
            go_wp2_with fail
            go_meet
            case rel => exact ⟨rfl, BW4_3⟩
          | true =>
            have hrd := read_snapshot HVAL3.out hok3.out
            have hz : cz3 = 0 := hcz3.out.symm.trans hrd.1
            subst hz
            have HL : Hid (bytesB (en F_snapshot v3) = l) := hidI hrd.2
            have HBX := hidI (HBX3.out (by rw [HL.out]; exact HBS.out.1))
            clear hrd
            go_wp2_with fail
            refine (same_any aX3 a nz3 len cX3 cap _ l _ hnz3.out.symm HN.out HBX.out (HBS.out.below BW4_3.out HBL.out)).mono ?_
            rintro e w6 ⟨rfl, nq, hw6⟩
            rw [show decide (bytesB (en F_snapshot v3) = l) = true from by simp [HL.out]]
            have BW6 := hidI (BW4_3.out.trans (by rw [hw6]; exact ⟨rfl, rfl, rfl, Nat.le_refl _, fun _ _ => rfl⟩ : Below W.heap.size w4_3 w6))
            clear hw6
            go_wp2_with fail
            go_meet
            case rel => exact ⟨rfl, BW6⟩
        case rest =>
          obtain ⟨rfl, HBW3⟩ := hcut
          have wcE : True := trivial
          clear wcE HVAL3 hok3 HBX3 hcz3 hnz3 BW4_3
          go_wp2_with fail
          refine (getv_store a len cap l _ HN.out HC.out (HBS.out.below HBW3.out HBL.out) (fun y hy => Nat.lt_of_lt_of_le (HBL.out y hy) HBW3.out.size)).mono ?_
          rintro e w1_4 ⟨cs4, v4, he, hrep, hval, b1⟩
          obtain ⟨ok4, hok4⟩ : ∃ q, Hid (decide ((de F_store (some l)).2 = some []) = q) := ⟨_, hidI rfl⟩
          rw [hok4.out] at he
          subst he
          have HVAL4 := hidI hval
          have hcs : cs4.toArray.size = Zr_store.size := by rw [List.size_toArray, hrep.len]; kernel_rfl
          have HCS4 := hidI hcs
          have HCO4 : Hid (cs4.toArray.all (·.oneCell') = true) := hrep.all
          have HCI4 : Hid ((Tryz.prog.info? 70).map (·.size) = some cs4.toArray.size) := by show _ = _; rw [hcs]; exact Zr_store_i
          have BW1_4 := hidI (HBW3.out.trans (b1.mono HBW3.out.size))
          have HREP1_4 : Hid (Rep w1_4 (fun b => b < w1_4.heap.size) F_store cs4 v4) := hrep.kept (Nat.le_refl _) (fun _ _ => rfl) (fun b x => x.2.1)
          clear hrep hval b1 hcs
          go_wp2_with (refine wpList_store_rowF rfl 70 (.tmp 12) (.tmp 144) rfl w1_4.heap.size cs4.toArray rfl rfl 70 Zr_store (heap_alloc_new w1_4 (.cells Zr_store 70)) HCI4.out HCS4.out.symm HCO4.out ?nx4)
          case nx4 =>
          intro w2_4 hw2h
          have hw2 := hw2h.out
          have hB2 : Below w1_4.heap.size w1_4 w2_4 := by rw [hw2]; exact ((Below.refl _ _).alloc (Nat.le_refl _) _).trans ⟨rfl, rfl, rfl, by simp [World.setRow], fun k hk => setRow_other _ _ _ _ (by omega)⟩
          have G2_4 := hidI (show w2_4.heap[w1_4.heap.size]? = some (.cells cs4.toArray 70 (0, 0)) by rw [hw2]; exact setRow_heap _ _ _ _ 70 _ (heap_alloc_new w1_4 _))
          have BW2_4 := hidI (BW1_4.out.trans (hB2.mono BW1_4.out.size))
          have HREP2_4 : Hid (Rep w2_4 (fun b => b < w2_4.heap.size) F_store cs4 v4) := HREP1_4.out.kept hB2.size (fun b x => hB2.block b x) (fun b x => Nat.lt_of_lt_of_le x hB2.size)
          clear hw2 hw2h hB2
          go_wp2_with fail
          refine (getstore_o a len cap l _ HN.out HC.out (HBS.out.below BW2_4.out HBL.out) (fun y hy => Nat.lt_of_lt_of_le (HBL.out y hy) BW2_4.out.size)).mono ?_
          rintro e w3_4 ⟨cd4, vd4, he, hrepd, _, b3⟩
          rw [hok4.out] at he
          subst he
          have BW3_4 := hidI (BW2_4.out.trans (b3.mono BW2_4.out.size))
          have G3_4 := hidI ((b3.block _ (Array.getElem?_eq_some_iff.1 G2_4.out).1).trans G2_4.out)
          have HREP3_4 : Hid (Rep w3_4 (fun b => b < w3_4.heap.size) F_store cs4 v4) := HREP2_4.out.kept b3.size (fun b x => b3.block b x) (fun b x => Nat.lt_of_lt_of_le x b3.size)
          clear hrepd b3
          go_wp2_with (refine wpList_load_row rfl 70 (.tmp 12) rfl w1_4.heap.size rfl 70 cs4.toArray (0, 0) _ G3_4.out Tryz.underlying70 rfl HCI4.out ?_)
          refine (putStore_w cs4 v4 _ HREP3_4.out).mono ?_
          rintro e w4_4 ⟨val, rfl, o4, n4, b4⟩
          have BW4_4 := hidI (BW3_4.out.trans (b4.mono BW3_4.out.size))
          obtain ⟨aX4, cX4, rfl, hbsX⟩ := o4.form
          have HBX4 := hidI hbsX
          obtain ⟨cz4, hcz4⟩ : ∃ q, Hid (codeB (en F_store v4).2 = q) := ⟨_, hidI rfl⟩
          obtain ⟨nz4, hnz4⟩ : ∃ q, Hid ((bytesB (en F_store v4)).length = q) := ⟨_, hidI rfl⟩
          rw [hcz4.out, hnz4.out]
          clear o4 n4 b4 hbsX G2_4 G3_4 HREP1_4 HREP2_4 HREP3_4 BW1_4 BW2_4 HCI4 HCS4 HCO4
          cases ok4 with
          | false =>
            go_wp2
            go_ret
            exact ⟨rfl, BW4_4.out⟩
          | true =>
            have hrd := read_store HVAL4.out hok4.out
            have hz : cz4 = 0 := hcz4.out.symm.trans hrd.1
            subst hz
            have HL : Hid (bytesB (en F_store v4) = l) := hidI hrd.2
            have HBX := hidI (HBX4.out (by rw [HL.out]; exact HBS.out.1))
            clear hrd
            go_wp2_with fail
            refine (same_any aX4 a nz4 len cX4 cap _ l _ hnz4.out.symm HN.out HBX.out (HBS.out.below BW4_4.out HBL.out)).mono ?_
            rintro e w6 ⟨rfl, nq, hw6⟩
            rw [show decide (bytesB (en F_store v4) = l) = true from by simp [HL.out]]
            have BW6 := hidI (BW4_4.out.trans (by rw [hw6]; exact ⟨rfl, rfl, rfl, Nat.le_refl _, fun _ _ => rfl⟩ : Below W.heap.size w4_4 w6))
            clear hw6
            go_wp2
            go_ret
            exact ⟨rfl, BW6.out⟩

end Go.Proofs.YtpbokgeaolpiaabGreat
