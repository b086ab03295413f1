/- Igsnapshot, RefF, RefU -/
import Derived.Test.YtocoimjhglackaaGreatQ44
set_option maxHeartbeats 8000000
set_option maxRecDepth 100000
namespace Go.Proofs.YtocoimjhglackaaGreat
section
open Go.RowKit
theorem zV4 (v : Vl zA2) (h : (en zA2 v).2 = false) : szb zA2 v <= 137438953472 := Nat.le_trans (yZ7 zA2 v h) (Nat.le_of_ble_eq_true (by kernel_rfl))
theorem yF1 : mx zA2 <= 211106232532992 := Nat.le_of_ble_eq_true (by kernel_rfl)
theorem yG0 (a : Option Addr) (n cap : Nat) (l : List UInt8) (w : World) (hn : n = l.length) (hcap : n <= cap) (hbs : Bs w a l) (hbl : ∀ y, a = some y -> y.block < w.heap.size) :
    Calls Tryz.prog 43 #[.slice a n cap] w fun e w' => ∃ (cs : List Value) (v : Vl zA2), e = .returned (.tuple #[.agg cs.toArray, .bool (decide ((de zA2 (some l)).2 = some []))]) /\ Rep w' (NB w w') zA2 cs v /\ ((de zA2 (some l)).2 = some [] -> v = (de zA2 (some l)).1) /\ Below w.heap.size w w' := by
 subst hn
 have hBA : Below w.heap.size w ((w.alloc (.cells zA9 36)).alloc (.cells #[.slice a l.length cap, .bool false] 137)) := ((Below.refl _ _).alloc (Nat.le_refl _) _).alloc (by rw [World.size_alloc]; omega) _
 have gA0 : ((w.alloc (.cells zA9 36)).alloc (.cells #[.slice a l.length cap, .bool false] 137)).heap[w.heap.size]? = some (.cells zA9 36 (0, 0)) := by
  rw [Below.heap_alloc _ _ _ (by rw [World.size_alloc]; omega)]; exact heap_alloc_new w _
 have gA1 : ((w.alloc (.cells zA9 36)).alloc (.cells #[.slice a l.length cap, .bool false] 137)).heap[w.heap.size + 1]? = some (.cells #[.slice a l.length cap, .bool false] 137 (0, 0)) := by
  have := heap_alloc_new (w.alloc (.cells zA9 36)) (.cells #[.slice a l.length cap, .bool false] 137)
  rwa [World.size_alloc] at this
 have hRI : RI w.heap.size ((w.alloc (.cells zA9 36)).alloc (.cells #[.slice a l.length cap, .bool false] 137)) (w.heap.size + 1) l false := by
  refine ⟨by rw [World.size_alloc, World.size_alloc]; omega, by rw [World.size_alloc, World.size_alloc]; omega, by unfold World.frozen?; rw [gA1]; rfl, by unfold World.frozen?; rw [gA1]; rfl, ?_, a, cap, ?_, hcap, hbs.grow hBA, fun x hx => ⟨by have := hbl x hx; omega, hbl x hx⟩⟩
  · rw [cell_of_row _ _ 1 _ 137 (0, 0) gA1]; rfl
  · rw [cell_of_row _ _ 0 _ 137 (0, 0) gA1]; rfl
 have HBS := hidI hbs
 have HBA := hidI hBA
 have GA0 := hidI gA0
 have HCAP := hidI hcap
 have hll := hbs.1
 clear hBA gA0 gA1 hbs hbl hcap
 go_enter Tryz.func43, Tryz.ntmps43
 go_wp2_with fail
 refine (yW2 (w.heap.size + 1) l false _ hRI).mono ?_
 rintro e w1 ⟨cl, vv, rfl, hrep, l1, b1, rd1, ri1, rs1⟩
 have RD := hidI rd1
 have hcs : cl.toArray.size = zA9.size := by rw [List.size_toArray, hrep.len]; kernel_rfl
 have HCS := hidI hcs
 have HCO : Hid (cl.toArray.all (·.oneCell') = true) := hrep.all
 have HCI : Hid ((Tryz.prog.info? 36).map (·.size) = some cl.toArray.size) := by show _ = _; rw [hcs]; exact zC8
 have hB1 : Below w.heap.size w w1 := HBA.out.trans ⟨rs1.os, rs1.tape, rs1.output, rs1.size, fun k hk => rs1.block k (by rw [World.size_alloc, World.size_alloc]; omega) (by omega)⟩
 have G01 := hidI ((rs1.block _ (by rw [World.size_alloc, World.size_alloc]; omega) (by omega)).trans GA0.out)
 have z1 : w.heap.size + 1 < w1.heap.size := ri1.1
 have HREP1 : Hid (Rep w1 (NBr (w.heap.size + 1) w1) zA2 cl vv) := hrep.keptN (Nat.le_refl _) (fun _ _ _ => rfl) (by rw [World.size_alloc, World.size_alloc]; omega)
 have HB1 := hidI hB1
 have HRI1 := hidI ri1
 have Z1 := hidI z1
 clear rd1 hcs hrep rs1 hRI hB1 ri1 z1
 go_wp2_with (refine zA7 rfl 36 (.tmp 5) (.tmp 12) rfl w1.heap.size cl.toArray rfl rfl 36 zA9 (heap_alloc_new w1 (.cells zA9 36)) HCI.out HCS.out.symm HCO.out ?nx2)
 case nx2 =>
  intro w2 hw2h
  have hw2 := hw2h.out
  have hB2 : Below w1.heap.size w1 w2 := by rw [hw2]; exact ((Below.refl _ _).alloc (Nat.le_refl _) _).trans ⟨rfl, rfl, rfl, by simp [World.setRow], fun k hk => setRow_other _ _ _ _ (by omega)⟩
  have G2 := hidI (show w2.heap[w1.heap.size]? = some (.cells cl.toArray 36 (0, 0)) by rw [hw2]; exact setRow_heap _ _ _ _ 36 _ (heap_alloc_new w1 _))
  have z2 : w1.heap.size < w2.heap.size := (Array.getElem?_eq_some_iff.1 G2.out).1
  have G02 := hidI ((hB2.block _ (by have := Z1.out; omega)).trans G01.out)
  have HREP2 := hidI (HREP1.out.keptN (lo' := w.heap.size + 1) hB2.size (fun b h1 h2 => hB2.block b h2) (Nat.le_refl _))
  have HREP2b : Hid (Rep w2 (fun b => b < w2.heap.size) zA2 cl vv) := HREP2.out.kept (Nat.le_refl _) (fun _ _ => rfl) (fun b x => x.2.1)
  have HRI2 := hidI (HRI1.out.ext hB2 HRI1.out.1 HRI1.out.2.1)
  have HB2 := hidI (HB1.out.trans (hB2.mono HB1.out.size))
  have HZZ := hidI (zV4 vv RD.out.1)
  have Z2 := hidI z2
  clear hw2 hw2h hB2 z2
  go_wp2_with (refine wpList_load_row rfl 36 (.tmp 5) rfl w1.heap.size rfl 36 cl.toArray (0, 0) _ G2.out Tryz.underlying36 rfl HCI.out ?_)
  refine (yE5 cl vv _ HZZ.out HREP2b.out).mono ?_
  rintro e w3 ⟨val, rfl, oX, nX, bX⟩
  rw [show zV5 (en zA2 vv).2 = 0 by rw [RD.out.1]; rfl]
  have hby : zE7 (en zA2 vv) = (en zA2 vv).1 := by unfold zE7; rw [RD.out.1]; rfl
  rw [hby] at oX
  have hlX : (en zA2 vv).1.length <= 211106232532992 := Nat.le_trans (zG8 zA2 vv) yF1
  obtain ⟨aX, cX, rfl, hbsX⟩ := oX.form
  have HBX := hidI (hbsX hlX)
  have HRI3 := hidI (HRI2.out.ext bX HRI2.out.1 HRI2.out.2.1)
  have G3 := hidI ((bX.block _ Z2.out).trans G2.out)
  have HG0 := hidI ((bX.block _ (by have := Z2.out; have := Z1.out; omega)).trans G02.out)
  have HBW := hidI (HB2.out.trans (bX.mono HB2.out.size))
  have HREP3 := hidI (HREP2.out.keptN (lo' := w.heap.size + 1) bX.size (fun b h1 h2 => bX.block b h2) (Nat.le_refl _))
  have HBS3 := hidI (HBS.out.grow HBW.out)
  obtain ⟨nX2, hnX⟩ : ∃ nX2, Hid ((en zA2 vv).1.length = nX2) := ⟨_, hidI rfl⟩
  rw [hnX.out]
  clear oX nX bX hby hlX hbsX
  go_wp2_with fail
  refine (xP0 (w.heap.size + 1) l1 b1 _ HRI3.out).mono ?_
  rintro e w4 ⟨rfl, hw4⟩
  subst hw4
  cases hdn : (!b1 && decide (l1 = [])) with
  | false =>
   have HF : Hid (decide ((de zA2 (some l)).2 = some []) = false) := by
    show _ = _
    rw [decide_eq_false_iff_not, <- zT8 RD.out]
    rintro ⟨e1, e2, _⟩
    rw [e1, e2] at hdn
    simp at hdn
   clear hdn
   go_wp2_with (refine zA7 rfl 36 (.tmp 2) (.tmp 31) rfl w.heap.size zA9 rfl rfl 36 zA9 HG0.out zC8 rfl zI0 ?nx)
   case nx =>
    intro w6 hw6h
    have hw6 := hw6h.out
    have g6 : Hid (w6.heap[w.heap.size]? = some (.cells zA9 36 (0, 0))) := by show _ = _; rw [hw6]; exact setRow_heap _ _ _ _ 36 _ HG0.out
    have hB6 : Below w.heap.size w w6 := by rw [hw6]; exact HBW.out.trans ⟨rfl, rfl, rfl, by simp [World.setRow], fun k hk => setRow_other _ _ _ _ (by omega)⟩
    clear hw6 hw6h
    go_wp2
    refine bodyPost_ret (v := .tuple #[.agg zA9, .bool false]) ?_ rfl ⟨zA9.toList, zE9, by rw [HF.out], zG6 _ _, fun h => absurd h (of_decide_eq_false HF.out), hB6⟩
    simp [results, Tryz.results43, asAddr, run_loadVar_row w6 w.heap.size 36 36 zA9 (0, 0) _ g6.out Tryz.underlying36 rfl zC8]
  | true =>
   have hb1 : b1 = false := by cases b1 with | true => simp at hdn | false => rfl
   have hl1 : l1 = [] := by rw [hb1] at hdn; simpa using hdn
   subst hb1 hl1
   clear hdn
   go_wp2_with fail
   refine (zJ1 aX a nX2 l.length cX cap (en zA2 vv).1 l _ hnX.out.symm rfl HBX.out HBS3.out).mono ?_
   rintro e w5 ⟨rfl, nq, hw5⟩
   have hB5 : Below w4.heap.size w4 w5 := by rw [hw5]; exact ⟨rfl, rfl, rfl, Nat.le_refl _, fun _ _ => rfl⟩
   replace HG0 := hidI ((hB5.block _ (Array.getElem?_eq_some_iff.1 HG0.out).1).trans HG0.out)
   replace G3 := hidI ((hB5.block _ (Array.getElem?_eq_some_iff.1 G3.out).1).trans G3.out)
   replace HREP3 := hidI (HREP3.out.keptN (lo' := w.heap.size + 1) hB5.size (fun b h1 h2 => hB5.block b h2) (Nat.le_refl _))
   replace HBW := hidI (HBW.out.trans (hB5.mono HBW.out.size))
   clear hw5 hB5
   cases hsm : decide ((en zA2 vv).1 = l) with
   | false =>
    have HF : Hid (decide ((de zA2 (some l)).2 = some []) = false) := by
     show _ = _
     rw [decide_eq_false_iff_not, <- zT8 RD.out]
     rintro ⟨_, _, e3⟩
     exact of_decide_eq_false hsm e3
    clear hsm
    go_wp2_with (refine zA7 rfl 36 (.tmp 2) (.tmp 31) rfl w.heap.size zA9 rfl rfl 36 zA9 HG0.out zC8 rfl zI0 ?nx)
    case nx =>
     intro w6 hw6h
     have hw6 := hw6h.out
     have g6 : Hid (w6.heap[w.heap.size]? = some (.cells zA9 36 (0, 0))) := by show _ = _; rw [hw6]; exact setRow_heap _ _ _ _ 36 _ HG0.out
     have hB6 : Below w.heap.size w w6 := by rw [hw6]; exact HBW.out.trans ⟨rfl, rfl, rfl, by simp [World.setRow], fun k hk => setRow_other _ _ _ _ (by omega)⟩
     clear hw6 hw6h
     go_wp2
     refine bodyPost_ret (v := .tuple #[.agg zA9, .bool false]) ?_ rfl ⟨zA9.toList, zE9, by rw [HF.out], zG6 _ _, fun h => absurd h (of_decide_eq_false HF.out), hB6⟩
     simp [results, Tryz.results43, asAddr, run_loadVar_row w6 w.heap.size 36 36 zA9 (0, 0) _ g6.out Tryz.underlying36 rfl zC8]
   | true =>
    have hDE : (de zA2 (some l)).2 = some [] := (zT8 RD.out).1 ⟨rfl, rfl, of_decide_eq_true hsm⟩
    have HT : Hid (decide ((de zA2 (some l)).2 = some []) = true) := by show _ = _; simp [hDE]
    have HVV := hidI (RD.out.2 rfl [] hDE).1
    clear hsm hDE
    go_wp2_with (first
     | (refine wpList_load_row rfl 36 (.tmp 5) rfl w1.heap.size rfl 36 cl.toArray (0, 0) _ G3.out Tryz.underlying36 rfl HCI.out ?_)
     | (refine zA7 rfl 36 (.tmp 2) (.tmp 32) rfl w.heap.size cl.toArray rfl rfl 36 zA9 HG0.out HCI.out HCS.out.symm HCO.out ?nx))
    case nx =>
     intro w6 hw6h
     have hw6 := hw6h.out
     have g6 : Hid (w6.heap[w.heap.size]? = some (.cells cl.toArray 36 (0, 0))) := by show _ = _; rw [hw6]; exact setRow_heap _ _ _ _ 36 _ HG0.out
     have hB6 : Below w.heap.size w w6 := by rw [hw6]; exact HBW.out.trans ⟨rfl, rfl, rfl, by simp [World.setRow], fun k hk => setRow_other _ _ _ _ (by omega)⟩
     have HREP6 : Hid (Rep w6 (NB w w6) zA2 cl vv) := by
      rw [hw6]
      exact HREP3.out.keptN (by simp [World.setRow]) (fun b h1 h2 => setRow_other _ _ _ _ (by omega)) (Nat.le_succ _)
     clear hw6 hw6h
     go_wp2
     refine bodyPost_ret (v := .tuple #[.agg cl.toArray, .bool true]) ?_ rfl ⟨cl, vv, by rw [HT.out], HREP6.out, fun _ => HVV.out, hB6⟩
     simp [results, Tryz.results43, asAddr, run_loadVar_row w6 w.heap.size 36 36 cl.toArray (0, 0) _ g6.out Tryz.underlying36 rfl HCI.out]
end
section
open Go.RowKit
def los (n : Nat) : Nat -> List UInt8
 | 0 => []
 | k + 1 => los n k ++ [lob n k]
theorem yX3 (n k : Nat) : (los n k).length = k := by
 induction k with
 | zero => rfl
 | succ k ih => simp [los, ih]
theorem yN6 (kind place : Int) (a : Option Addr) (n cap : Nat) (l : List UInt8) (w : World) (hn : n = l.length) (h : Bs w a l) (hok : okF kind place n) :
    Calls Tryz.prog 71 #[.int .i64 kind, .int .i64 place, .slice a n cap] w fun e w' => ∃ v', e = .returned (.tuple #[v', .int .i64 0]) /\ Own w' v' (fr kind.toNat place.toNat l) /\ Stp w w' none v'.ownBlock := by
 obtain ⟨k0, k1, p0, p1, n1⟩ := hok
 have HN : Hid (n = l.length) := hn
 clear hn
 go_enter Tryz.func71, Tryz.ntmps71
 go_wp2_with fail
 refine (yN8 _ [] _ _ _ (by omega) (by omega) (by omega) (by simp) (.inl ⟨rfl, rfl⟩)).mono ?_
 rintro e w1 ⟨v1, rfl, o1, st1⟩
 rw [Int.toNat_natCast] at o1
 replace st1 : Stp w w1 none v1.ownBlock := st1
 go_wp2_with fail
 refine (yN8 v1 _ _ _ _ k0 (by omega) (by omega) (by simp [zD4]) o1).mono ?_
 rintro e w2 ⟨v2, rfl, o2, s2⟩
 have st2 := st1.trans s2
 go_wp2_with fail
 refine (yN8 v2 _ _ _ _ p0 (by omega) (by omega) (by simp [zD4]) o2).mono ?_
 rintro e w3 ⟨v3, rfl, o3, s3⟩
 have st3 := st2.trans s3
 have hbs : Bs w3 a l := h.grow (st3.below _ (Nat.le_refl _) (fun k hk => by cases hk))
 have hsrc := hbs.src (P := Tryz.prog) Tryz.underlying22 cap
 rw [<- HN.out] at hsrc
 go_wp2_with (at_builtin; refine zB6 _ rfl (.tmp 37) (.tmp 38) rfl _ _ rfl o3 _ l rfl ?src ?len ?k)
 case src => rw [<- HN.out]; exact hsrc
 case len => have := HN.out; simp only [List.length_append, zD4, List.length_nil]; omega
 case k =>
  intro v4 w4 o4 s4
  have st4 := st3.trans s4
  have hfr : hb n 4 ++ (hb kind.toNat 1 ++ (hb place.toNat 6 ++ l)) = fr0 kind.toNat place.toNat l := by rw [HN.out]; rfl
  rw [hfr] at o4
  clear hfr
  have hl0 : (fr0 kind.toNat place.toNat l).length <= 1048587 := by rw [zK2, <- HN.out]; omega
  have HF : Hid (fr kind.toNat place.toNat l = fr0 kind.toNat place.toNat l ++ los (nsum (fr0 kind.toNat place.toNat l)) 4) := rfl
  generalize fr0 kind.toNat place.toNat l = f at *
  obtain ⟨a4, cap4, hv4, hbs4⟩ := o4.form
  subst hv4
  have hbs4' := hbs4 (by omega)
  have hsl := yO5 f
  go_wp2_with fail
  refine (yW6 a4 _ cap4 f w4 rfl hbs4').mono ?_
  rintro e w' ⟨rfl, hw⟩
  subst hw
  generalize hS : nsum f = S at *
  clear hS
  go_wp2
  go_loopw [8, 10] (fun v i wr => ∃ k : Nat, k <= 4 /\ i = .int .i64 k /\ Own wr v (f ++ los S k) /\ Stp w wr none v.ownBlock) (fun _ i _ => 4 - (intOf i).toNat)
  case atStart => exact ⟨0, Nat.zero_le _, rfl, by simpa [los] using o4, st4⟩
  case round =>
   obtain ⟨k, hk, rfl, ok, stk⟩ := hrel
   by_cases hlt : k < 4
   · go_wp2_with (at_builtin; refine zB6 _ rfl (.tmp 46) (.tmp 52) rfl _ (f ++ los S k) rfl (ok.alloc _) _ [lob S k] rfl ?src2 ?len2 ?next2)
     case src2 => exact zI4 _ _ _ (zI5 S k).symm _ rfl
     case len2 => simp only [List.length_append, yX3, List.length_cons, List.length_nil]; omega
     case next2 =>
      intro v5 w5 o5 s5
      go_wp2
      exact ⟨⟨k + 1, by omega, by go_num, by simpa [los] using o5, (stk.alloc _).trans s5⟩, by simp [intOf]; omega⟩
   · have hk4 : k = 4 := by omega
     subst hk4
     go_wp2
     go_ret2
     exact ⟨_, rfl, by rw [HF.out]; exact ok, stk⟩
end
section
open Go.RowKit
theorem yB4 (a : Option Addr) (n cap : Nat) (l : List UInt8) (w : World) (hn : n = l.length) (hcap : n <= cap) (h : Bs w a l) :
    Calls Tryz.prog 39 #[.slice a n cap] w fun e w' => xX0 w w' e (unf l) := by
 have hlen := h.1
 rw [<- hn] at hlen
 by_cases h11 : n < 11
 · have HU : Hid (unf l = ⟨0, 0, [], 0, 0⟩) := by show unf l = _; unfold unf; rw [if_pos (by omega)]
   clear hn h
   go_enter Tryz.func39, Tryz.ntmps39
   go_wp2
   refine bodyPost_ret (v := .tuple #[.int .i64 0, .int .i64 0, .slice none 0 0, .int .i64 0, .int .i64 0]) (by simp [results, Tryz.results39, go_sem]) rfl ?_
   rw [HU.out]
   exact zH5 w 0 0
 · have HN : Hid (n = l.length) := hn
   obtain ⟨b, off, rfl, hb, hc⟩ := h.2 (by intro e; simp [e] at hn; omega)
   have hNlt := xX3 l
   have hPlt := xX2 l
   have hKlt := xQ3 l
   have hc4 := hc 4 (by omega)
   rw [xX4 l (by omega)] at hc4
   have U1 : Hid (hi ((l.drop (0 : Int).toNat).take (4 : Int).toNat) = uN l) := by show hi _ = _; unfold uN; simp
   have U2 : Hid (hi ((l.drop (5 : Int).toNat).take (6 : Int).toNat) = uP l) := rfl
   by_cases hbig : 1048576 < uN l \/ 1099511627776 < uP l
   · have HU : Hid (unf l = ⟨0, 0, [], 0, 10⟩) := by show unf l = _; unfold unf; rw [if_neg (by omega), if_pos hbig]
     clear hn hc
     go_enter Tryz.func39, Tryz.ntmps39
     go_wp2_with fail
     refine (zI2 _ n cap l _ _ _ HN.out (by omega) (by omega) (by omega) (by omega) h).mono ?_
     rintro e w1 ⟨rfl, hw⟩
     subst hw
     rw [U1.out]
     go_wp2_with fail
     refine (zI2 _ n cap l _ _ _ HN.out (by omega) (by omega) (by omega) (by omega) h).mono ?_
     rintro e w1 ⟨rfl, hw⟩
     subst hw
     rw [U2.out]
     by_cases hb1 : 1048576 < uN l
     · go_wp2
       refine bodyPost_ret (v := .tuple #[.int .i64 0, .int .i64 0, .slice none 0 0, .int .i64 0, .int .i64 10]) (by simp [results, Tryz.results39, go_sem]) rfl ?_
       rw [HU.out]
       exact zH5 w1 10 0
     · have hb2 : 1099511627776 < uP l := by omega
       go_wp2
       refine bodyPost_ret (v := .tuple #[.int .i64 0, .int .i64 0, .slice none 0 0, .int .i64 0, .int .i64 10]) (by simp [results, Tryz.results39, go_sem]) rfl ?_
       rw [HU.out]
       exact zH5 w1 10 0
   · have hN1 : uN l <= 1048576 := by omega
     have hP1 : uP l <= 1099511627776 := by omega
     by_cases hsh : n < 11 + uN l + 4
     · have HU : Hid (unf l = ⟨0, 0, [], 0, 0⟩) := by show unf l = _; unfold unf; rw [if_neg (by omega), if_neg hbig, if_pos (by omega)]
       clear hn hc hbig
       go_enter Tryz.func39, Tryz.ntmps39
       go_wp2_with fail
       refine (zI2 _ n cap l _ _ _ HN.out (by omega) (by omega) (by omega) (by omega) h).mono ?_
       rintro e w1 ⟨rfl, hw⟩
       subst hw
       rw [U1.out]
       go_wp2_with fail
       refine (zI2 _ n cap l _ _ _ HN.out (by omega) (by omega) (by omega) (by omega) h).mono ?_
       rintro e w1 ⟨rfl, hw⟩
       subst hw
       rw [U2.out]
       go_wp2
       refine bodyPost_ret (v := .tuple #[.int .i64 0, .int .i64 0, .slice none 0 0, .int .i64 0, .int .i64 0]) (by simp [results, Tryz.results39, go_sem]) rfl ?_
       rw [HU.out]
       exact zH5 w1 0 0
     · have HUd : Hid (unf l = if (l.drop (11 + uN l)).take 4 ≠ lo4 (nsum (l.take (11 + uN l))) then ⟨0, 0, [], 0, 10⟩ else ⟨uK l, uP l, (l.drop 11).take (uN l), ((11 + uN l + 4 : Nat) : Int), 0⟩) := by
         show unf l = _; conv => lhs; unfold unf
         rw [if_neg (by omega), if_neg hbig, if_neg (by omega)]
       have HFr := kB1 l (by omega)
       have HFR : Hid (fr (uK l) (uP l) ((l.drop 11).take (uN l)) = l.take (11 + uN l + 4) ↔ (l.drop (11 + uN l)).take 4 = lo4 (nsum (l.take (11 + uN l)))) := HFr
       have HB3 : Hid (((l.drop 11).take (uN l)).length = uN l) := by show _ = _; simp only [List.length_take, List.length_drop]; omega
       have HB4 : Hid ((l.take (11 + uN l + 4)).length = 11 + uN l + 4) := by show _ = _; simp only [List.length_take]; omega
       have e2 := zS1 (some ⟨b, off, none⟩) n cap (11 + uN l + 4) (11 + (uN l : Int) + 4) (by omega) (by omega)
       have e3 := yE1 b off n cap 11 (11 + uN l) (uN l) 11 (11 + (uN l : Int)) (by omega) (by omega) (by omega) (by omega) (by omega) (by omega)
       have hsrc := (h.part 11 (uN l)).src (P := Tryz.prog) Tryz.underlying22 (cap - 11)
       rw [HB3.out] at hsrc
       clear hn hc hbig HFr
       go_enter Tryz.func39, Tryz.ntmps39
       go_wp2_with fail
       refine (zI2 _ n cap l _ _ _ HN.out (by omega) (by omega) (by omega) (by omega) h).mono ?_
       rintro e w1 ⟨rfl, hw⟩
       subst hw
       rw [U1.out]
       go_wp2_with fail
       refine (zI2 _ n cap l _ _ _ HN.out (by omega) (by omega) (by omega) (by omega) h).mono ?_
       rintro e w1 ⟨rfl, hw⟩
       subst hw
       rw [U2.out]
       go_wp2_with (at_builtin; refine zB6 _ rfl (.tmp 36) (.tmp 40) rfl _ [] rfl (.inl ⟨rfl, rfl⟩) _ ((l.drop 11).take (uN l)) rfl ?src ?len ?next)
       case src => rw [HB3.out]; exact hsrc
       case len => rw [HB3.out]; simp; omega
       case next =>
        intro v1 w2 o1 s1
        replace s1 : Stp w1 w2 none v1.ownBlock := s1
        obtain ⟨a1, c1, hv1, hb1⟩ := o1.form
        rw [HB3.out] at hv1 hb1
        subst hv1
        go_wp2_with fail
        refine (yN6 _ _ a1 _ c1 ((l.drop 11).take (uN l)) _ HB3.out.symm (hb1 (by omega)) ⟨by omega, by omega, by omega, by omega, by omega⟩).mono ?_
        rintro e w3 ⟨v3, rfl, o3, s3⟩
        rw [Int.toNat_natCast, Int.toNat_natCast] at o3
        have s13 : Stp w1 w3 none none := ⟨s3.os.trans s1.os, s3.tape.trans s1.tape, s3.output.trans s1.output, Nat.le_trans s1.size s3.size, fun k hk _ => (s3.block k (Nat.lt_of_lt_of_le hk s1.size) (by simp)).trans (s1.block k hk (by simp)), .inl rfl⟩
        have hl3 : Bs w3 (some ⟨b, off, none⟩) l := h.grow (s13.below _ (Nat.le_refl _) (fun k hk => by cases hk))
        have o13 := o1.below (s3.below _ (Nat.le_refl _) (fun k hk => by cases hk))
        obtain ⟨a3, c3, hv3, hb3⟩ := o3.form
        have HB5 : Hid ((fr (uK l) (uP l) ((l.drop 11).take (uN l))).length = uN l + 15) := by show _ = _; rw [zC3, HB3.out]
        subst hv3
        go_wp2_with fail
        refine (zJ1 a3 _ _ _ c3 cap _ (l.take (11 + uN l + 4)) _ rfl HB4.out.symm (hb3 (by rw [HB5.out]; omega)) (hl3.first _)).mono ?_
        rintro e w4 ⟨rfl, n4, hw4⟩
        have s34 : Stp w1 w4 none (Value.slice a1 (uN l) c1).ownBlock := by
         rw [hw4]
         exact ((⟨s13.os, s13.tape, s13.output, s13.size, s13.block, s1.row⟩ : Stp w1 w3 none (Value.slice a1 (uN l) c1).ownBlock)).drewN n4
        have o14 : Own w4 (Value.slice a1 (uN l) c1) ((l.drop 11).take (uN l)) := by rw [hw4]; exact o13.drewN n4
        clear hw4
        generalize hdd : decide (fr (uK l) (uP l) ((l.drop 11).take (uN l)) = l.take (11 + uN l + 4)) = d at *
        have HD : Hid (decide (fr (uK l) (uP l) ((l.drop 11).take (uN l)) = l.take (11 + uN l + 4)) = d) := hdd
        clear hdd
        cases d with
        | false =>
         go_wp2
         refine bodyPost_ret (v := .tuple #[.int .i64 0, .int .i64 0, .slice none 0 0, .int .i64 0, .int .i64 10]) (by simp [results, Tryz.results39, go_sem]) rfl ?_
         rw [HUd.out, if_pos (fun e => of_decide_eq_false HD.out (HFR.out.2 e))]
         exact ⟨_, rfl, .inl ⟨rfl, rfl⟩, ⟨s34.os, s34.tape, s34.output, s34.size, s34.block, .inl rfl⟩⟩
        | true =>
         go_wp2
         refine bodyPost_ret (v := .tuple #[.int .i64 (uK l), .int .i64 (uP l), .slice a1 (uN l) c1, .int .i64 (11 + (uN l : Int) + 4), .int .i64 0]) (by simp [results, Tryz.results39, go_sem]) rfl ?_
         rw [HUd.out, if_neg (not_not_intro (HFR.out.1 (of_decide_eq_true HD.out)))]
         exact ⟨_, by go_num, o14, s34⟩
end
end Go.Proofs.YtocoimjhglackaaGreat
