/- The document's GetMsg, whatever bytes: whether they are all of one, and which. Made by program (wip/gen/ig.py). -/
import Derived.Test.YtpbokgeaolpiaabGreatKB
import Derived.Test.YtpbokgeaolpiaabGreatJmsg
import Derived.Test.YtpbokgeaolpiaabGreatKE
import Derived.Test.YtpbokgeaolpiaabGreatVgms
namespace Go.Proofs.YtpbokgeaolpiaabGreat
open Go.RowKit

theorem szb_msg_leI (v : Vl F_msg) (h : (en F_msg v).2 = false) : szb F_msg v ≤ 137438953472 := Nat.le_trans (szb_leI F_msg v h) (Nat.le_of_ble_eq_true (by kernel_rfl))
theorem mxl_msgI : mx F_msg ≤ 211106232532992 := Nat.le_of_ble_eq_true (by kernel_rfl)
theorem box_msgI : (Tryz.prog.info? 55).map (·.size) = some (wd F_msg) := by kernel_rfl
set_option maxHeartbeats 1600000 in
set_option maxRecDepth 100000 in
theorem getmsg_o (a : Option Addr) (n cap : Nat) (l : List UInt8) (w : World) (hn : n = l.length) (hcap : n ≤ cap) (hbs : Bs w a l) (hbl : ∀ y, a = some y → y.block < w.heap.size) :
    Calls Tryz.prog 13 #[.slice a n cap] w fun e w' => ∃ (cs : List Value) (v : Vl F_msg), e = .returned (.tuple #[.agg cs.toArray, .bool (decide ((de F_msg (some l)).2 = some []))]) ∧ Rep w' (NB w w') F_msg cs v ∧ ((de F_msg (some l)).2 = some [] → v = (de F_msg (some l)).1) ∧ Below w.heap.size w w' := by
  subst hn
  have hBA : Below w.heap.size w ((w.alloc (.cells Zr_msg 55)).alloc (.cells #[.slice a l.length cap, .bool false] 82)) := ((Below.refl _ _).alloc (Nat.le_refl _) _).alloc (by rw [World.size_alloc]; omega) _
  have gA0 : ((w.alloc (.cells Zr_msg 55)).alloc (.cells #[.slice a l.length cap, .bool false] 82)).heap[w.heap.size]? = some (.cells Zr_msg 55 (0, 0)) := by
    rw [Below.heap_alloc _ _ _ (by rw [World.size_alloc]; omega)]; exact heap_alloc_new w _
  have gA1 : ((w.alloc (.cells Zr_msg 55)).alloc (.cells #[.slice a l.length cap, .bool false] 82)).heap[w.heap.size + 1]? = some (.cells #[.slice a l.length cap, .bool false] 82 (0, 0)) := by
    have := heap_alloc_new (w.alloc (.cells Zr_msg 55)) (.cells #[.slice a l.length cap, .bool false] 82)
    rwa [World.size_alloc] at this
  have hRI : RI w.heap.size ((w.alloc (.cells Zr_msg 55)).alloc (.cells #[.slice a l.length cap, .bool false] 82)) (w.heap.size + 1) l false := by
    refine ⟨by rw [World.size_alloc, World.size_alloc]; omega, by rw [World.size_alloc, World.size_alloc]; omega, by unfold World.frozen?; rw [gA1]; rfl, by unfold World.frozen?; rw [gA1]; rfl, ?_, a, cap, ?_, hcap, hbs.grow hBA, fun x hx => ⟨by have := hbl x hx; omega, hbl x hx⟩⟩
    · rw [cell_of_row _ _ 1 _ 82 (0, 0) gA1]; rfl
    · rw [cell_of_row _ _ 0 _ 82 (0, 0) gA1]; rfl
  have HBS := hidI hbs
  have HBA := hidI hBA
  have GA0 := hidI gA0
  have HCAP := hidI hcap
  have hll := hbs.1
  clear hBA gA0 gA1 hbs hbl hcap
  go_enter Tryz.func13, Tryz.ntmps13
  go_wp2_with fail
  refine (msg_i (w.heap.size + 1) l false _ hRI).mono ?_
  rintro e w1 ⟨cl, vv, rfl, hrep, l1, b1, rd1, ri1, rs1⟩
  have RD := hidI rd1
  have hcs : cl.toArray.size = Zr_msg.size := by rw [List.size_toArray, hrep.len]; kernel_rfl
  have HCS := hidI hcs
  have HCO : Hid (cl.toArray.all (·.oneCell') = true) := hrep.all
  have HCI : Hid ((Tryz.prog.info? 55).map (·.size) = some cl.toArray.size) := by show _ = _; rw [hcs]; exact Zr_msg_i
  have hB1 : Below w.heap.size w w1 := HBA.out.trans ⟨rs1.os, rs1.tape, rs1.output, rs1.size, fun k hk => rs1.block k (by rw [World.size_alloc, World.size_alloc]; omega) (by omega)⟩
  have G01 := hidI ((rs1.block _ (by rw [World.size_alloc, World.size_alloc]; omega) (by omega)).trans GA0.out)
  have z1 : w.heap.size + 1 < w1.heap.size := ri1.1
  have HREP1 : Hid (Rep w1 (NBr (w.heap.size + 1) w1) F_msg cl vv) := hrep.keptN (Nat.le_refl _) (fun _ _ _ => rfl) (by rw [World.size_alloc, World.size_alloc]; omega)
  have HB1 := hidI hB1
  have HRI1 := hidI ri1
  have Z1 := hidI z1
  clear rd1 hcs hrep rs1 hRI hB1 ri1 z1
  go_wp2_with (refine wpList_store_rowF rfl 55 (.tmp 5) (.tmp 12) rfl w1.heap.size cl.toArray rfl rfl 55 Zr_msg (heap_alloc_new w1 (.cells Zr_msg 55)) HCI.out HCS.out.symm HCO.out ?nx2)
  case nx2 =>
    intro w2 hw2h
    have hw2 := hw2h.out
    have hB2 : Below w1.heap.size w1 w2 := by rw [hw2]; exact ((Below.refl _ _).alloc (Nat.le_refl _) _).trans ⟨rfl, rfl, rfl, by simp [World.setRow], fun k hk => setRow_other _ _ _ _ (by omega)⟩
    have G2 := hidI (show w2.heap[w1.heap.size]? = some (.cells cl.toArray 55 (0, 0)) by rw [hw2]; exact setRow_heap _ _ _ _ 55 _ (heap_alloc_new w1 _))
    have z2 : w1.heap.size < w2.heap.size := (Array.getElem?_eq_some_iff.1 G2.out).1
    have G02 := hidI ((hB2.block _ (by have := Z1.out; omega)).trans G01.out)
    have HREP2 := hidI (HREP1.out.keptN (lo' := w.heap.size + 1) hB2.size (fun b h1 h2 => hB2.block b h2) (Nat.le_refl _))
    have HREP2b : Hid (Rep w2 (fun b => b < w2.heap.size) F_msg cl vv) := HREP2.out.kept (Nat.le_refl _) (fun _ _ => rfl) (fun b x => x.2.1)
    have HRI2 := hidI (HRI1.out.ext hB2 HRI1.out.1 HRI1.out.2.1)
    have HB2 := hidI (HB1.out.trans (hB2.mono HB1.out.size))
    have HZZ := hidI (szb_msg_leI vv RD.out.1)
    have Z2 := hidI z2
    clear hw2 hw2h hB2 z2
    go_wp2_with (refine wpList_load_row rfl 55 (.tmp 5) rfl w1.heap.size rfl 55 cl.toArray (0, 0) _ G2.out Tryz.underlying55 rfl HCI.out ?_)
    refine (putMsg_o cl vv _ HZZ.out HREP2b.out).mono ?_
    rintro e w3 ⟨val, rfl, oX, nX, bX⟩
    rw [show codeB (en F_msg vv).2 = 0 by rw [RD.out.1]; rfl]
    have hby : bytesB (en F_msg vv) = (en F_msg vv).1 := by unfold bytesB; rw [RD.out.1]; rfl
    rw [hby] at oX
    have hlX : (en F_msg vv).1.length ≤ 211106232532992 := Nat.le_trans (en_len F_msg vv) mxl_msgI
    obtain ⟨aX, cX, rfl, hbsX⟩ := oX.form
    have HBX := hidI (hbsX hlX)
    have HRI3 := hidI (HRI2.out.ext bX HRI2.out.1 HRI2.out.2.1)
    have G3 := hidI ((bX.block _ Z2.out).trans G2.out)
    have HG0 := hidI ((bX.block _ (by have := Z2.out; have := Z1.out; omega)).trans G02.out)
    have HBW := hidI (HB2.out.trans (bX.mono HB2.out.size))
    have HREP3 := hidI (HREP2.out.keptN (lo' := w.heap.size + 1) bX.size (fun b h1 h2 => bX.block b h2) (Nat.le_refl _))
    have HBS3 := hidI (HBS.out.grow HBW.out)
    obtain ⟨nX2, hnX⟩ : ∃ nX2, Hid ((en F_msg vv).1.length = nX2) := ⟨_, hidI rfl⟩
    rw [hnX.out]
    clear oX nX bX hby hlX hbsX
    go_wp2_with fail
    refine (done_i (w.heap.size + 1) l1 b1 _ HRI3.out).mono ?_
    rintro e w4 ⟨rfl, hw4⟩
    subst hw4
    cases hdn : (!b1 && decide (l1 = [])) with
    | false =>
      have HF : Hid (decide ((de F_msg (some l)).2 = some []) = false) := by
        show _ = _
        rw [decide_eq_false_iff_not, ← get_iff RD.out]
        rintro ⟨e1, e2, _⟩
        rw [e1, e2] at hdn
        simp at hdn
      clear hdn
      go_wp2_with (refine wpList_store_rowF rfl 55 (.tmp 2) (.tmp 31) rfl w.heap.size Zr_msg rfl rfl 55 Zr_msg HG0.out Zr_msg_i rfl Zr_msg_o ?nx)
      case nx =>
        intro w6 hw6h
        have hw6 := hw6h.out
        have g6 : Hid (w6.heap[w.heap.size]? = some (.cells Zr_msg 55 (0, 0))) := by show _ = _; rw [hw6]; exact setRow_heap _ _ _ _ 55 _ HG0.out
        have hB6 : Below w.heap.size w w6 := by rw [hw6]; exact HBW.out.trans ⟨rfl, rfl, rfl, by simp [World.setRow], fun k hk => setRow_other _ _ _ _ (by omega)⟩
        clear hw6 hw6h
        go_wp2
        refine bodyPost_ret (v := .tuple #[.agg Zr_msg, .bool false]) ?_ rfl ⟨Zr_msg.toList, Zv_msg, by rw [HF.out], rz_msg' _ _, fun h => absurd h (of_decide_eq_false HF.out), hB6⟩
        simp [results, Tryz.results13, asAddr, run_loadVar_row w6 w.heap.size 55 55 Zr_msg (0, 0) _ g6.out Tryz.underlying55 rfl Zr_msg_i]
    | true =>
      have hb1 : b1 = false := by cases b1 with | true => simp at hdn | false => rfl
      have hl1 : l1 = [] := by rw [hb1] at hdn; simpa using hdn
      subst hb1 hl1
      clear hdn
      go_wp2_with fail
      refine (same_any aX a nX2 l.length cX cap (en F_msg vv).1 l _ hnX.out.symm rfl HBX.out HBS3.out).mono ?_
      rintro e w5 ⟨rfl, nq, hw5⟩
      have hB5 : Below w4.heap.size w4 w5 := by rw [hw5]; exact ⟨rfl, rfl, rfl, Nat.le_refl _, fun _ _ => rfl⟩
      replace HG0 := hidI ((hB5.block _ (Array.getElem?_eq_some_iff.1 HG0.out).1).trans HG0.out)
      replace G3 := hidI ((hB5.block _ (Array.getElem?_eq_some_iff.1 G3.out).1).trans G3.out)
      replace HREP3 := hidI (HREP3.out.keptN (lo' := w.heap.size + 1) hB5.size (fun b h1 h2 => hB5.block b h2) (Nat.le_refl _))
      replace HBW := hidI (HBW.out.trans (hB5.mono HBW.out.size))
      clear hw5 hB5
      cases hsm : decide ((en F_msg vv).1 = l) with
      | false =>
        have HF : Hid (decide ((de F_msg (some l)).2 = some []) = false) := by
          show _ = _
          rw [decide_eq_false_iff_not, ← get_iff RD.out]
          rintro ⟨_, _, e3⟩
          exact of_decide_eq_false hsm e3
        clear hsm
        go_wp2_with (refine wpList_store_rowF rfl 55 (.tmp 2) (.tmp 31) rfl w.heap.size Zr_msg rfl rfl 55 Zr_msg HG0.out Zr_msg_i rfl Zr_msg_o ?nx)
        case nx =>
          intro w6 hw6h
          have hw6 := hw6h.out
          have g6 : Hid (w6.heap[w.heap.size]? = some (.cells Zr_msg 55 (0, 0))) := by show _ = _; rw [hw6]; exact setRow_heap _ _ _ _ 55 _ HG0.out
          have hB6 : Below w.heap.size w w6 := by rw [hw6]; exact HBW.out.trans ⟨rfl, rfl, rfl, by simp [World.setRow], fun k hk => setRow_other _ _ _ _ (by omega)⟩
          clear hw6 hw6h
          go_wp2
          refine bodyPost_ret (v := .tuple #[.agg Zr_msg, .bool false]) ?_ rfl ⟨Zr_msg.toList, Zv_msg, by rw [HF.out], rz_msg' _ _, fun h => absurd h (of_decide_eq_false HF.out), hB6⟩
          simp [results, Tryz.results13, asAddr, run_loadVar_row w6 w.heap.size 55 55 Zr_msg (0, 0) _ g6.out Tryz.underlying55 rfl Zr_msg_i]
      | true =>
        have hDE : (de F_msg (some l)).2 = some [] := (get_iff RD.out).1 ⟨rfl, rfl, of_decide_eq_true hsm⟩
        have HT : Hid (decide ((de F_msg (some l)).2 = some []) = true) := by show _ = _; simp [hDE]
        have HVV := hidI (RD.out.2 rfl [] hDE).1
        clear hsm hDE
        go_wp2_with (first
          | (refine wpList_load_row rfl 55 (.tmp 5) rfl w1.heap.size rfl 55 cl.toArray (0, 0) _ G3.out Tryz.underlying55 rfl HCI.out ?_)
          | (refine wpList_store_rowF rfl 55 (.tmp 2) (.tmp 32) rfl w.heap.size cl.toArray rfl rfl 55 Zr_msg HG0.out HCI.out HCS.out.symm HCO.out ?nx))
        case nx =>
          intro w6 hw6h
          have hw6 := hw6h.out
          have g6 : Hid (w6.heap[w.heap.size]? = some (.cells cl.toArray 55 (0, 0))) := by show _ = _; rw [hw6]; exact setRow_heap _ _ _ _ 55 _ HG0.out
          have hB6 : Below w.heap.size w w6 := by rw [hw6]; exact HBW.out.trans ⟨rfl, rfl, rfl, by simp [World.setRow], fun k hk => setRow_other _ _ _ _ (by omega)⟩
          have HREP6 : Hid (Rep w6 (NB w w6) F_msg cl vv) := by
            rw [hw6]
            exact HREP3.out.keptN (by simp [World.setRow]) (fun b h1 h2 => setRow_other _ _ _ _ (by omega)) (Nat.le_succ _)
          clear hw6 hw6h
          go_wp2
          refine bodyPost_ret (v := .tuple #[.agg cl.toArray, .bool true]) ?_ rfl ⟨cl, vv, by rw [HT.out], HREP6.out, fun _ => HVV.out, hB6⟩
          simp [results, Tryz.results13, asAddr, run_loadVar_row w6 w.heap.size 55 55 cl.toArray (0, 0) _ g6.out Tryz.underlying55 rfl HCI.out]


end Go.Proofs.YtpbokgeaolpiaabGreat
