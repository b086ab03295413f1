/- Voc, Vpo, Vpoen, Igentry, Voy, Vos, Vposn -/
import Derived.Test.YtocoimjhglackaaGreatQ43
set_option maxHeartbeats 8000000
set_option maxRecDepth 100000
namespace Go.Proofs.YtocoimjhglackaaGreat
section
open Go.RowKit
theorem xU6 (p : Nat) (l : List UInt8) (bad : Bool) (prot S : Nat -> Prop) (cs : List Value) (v : Vl zA8) (w : World) (hl : l.length + szb zA8 v <= 137438953472) (hS : ∀ b, S b -> prot b) (hr : Rep w S zA8 cs v) (h : WR w p l bad prot) :
    Calls Tryz.prog 76 #[.pointer (some ⟨p, 0, none⟩), .agg cs.toArray] w fun e w' => e = .returned (.tuple #[]) /\ WR w' p (l ++ (enR zA8 v).1) (bad || (enR zA8 v).2) prot /\ Kp w w' prot := by
 obtain ⟨x0, x1, y2_0, y2_1, y2_2, y2_3, y2_4, y2_5, y2_6, y2_7, y2_8, y2_9, y2_10, y2_11, y2_12, y2_13, y2_14, y2_15, y2_16, y2_17, y2_18, y2_19, y2_20, y2_21, y2_22, y2_23, y2_24, y2_25, y2_26, v2, rfl, rfl, h2⟩ := yC4 hr
 rw [yZ9] at hl
 have hl2 : Hid (l.length + (6 + (6 + (szb zD2 v2))) <= 137438953472) := hl
 have hW0 : WR (w.alloc (.cells [.int .i64 x0, .int .i64 x1, y2_0, y2_1, y2_2, y2_3, y2_4, y2_5, y2_6, y2_7, y2_8, y2_9, y2_10, y2_11, y2_12, y2_13, y2_14, y2_15, y2_16, y2_17, y2_18, y2_19, y2_20, y2_21, y2_22, y2_23, y2_24, y2_25, y2_26].toArray 73)) p l bad (fun b => prot b \/ b = w.heap.size) := h.box _
 have hA0 := Kp.alloc w (.cells [.int .i64 x0, .int .i64 x1, y2_0, y2_1, y2_2, y2_3, y2_4, y2_5, y2_6, y2_7, y2_8, y2_9, y2_10, y2_11, y2_12, y2_13, y2_14, y2_15, y2_16, y2_17, y2_18, y2_19, y2_20, y2_21, y2_22, y2_23, y2_24, y2_25, y2_26].toArray 73) prot h.2.1
 have hq0 : ∀ o, (w.alloc (.cells [.int .i64 x0, .int .i64 x1, y2_0, y2_1, y2_2, y2_3, y2_4, y2_5, y2_6, y2_7, y2_8, y2_9, y2_10, y2_11, y2_12, y2_13, y2_14, y2_15, y2_16, y2_17, y2_18, y2_19, y2_20, y2_21, y2_22, y2_23, y2_24, y2_25, y2_26].toArray 73)).cell? ⟨w.heap.size, o, none⟩ = (w.alloc (.cells [.int .i64 x0, .int .i64 x1, y2_0, y2_1, y2_2, y2_3, y2_4, y2_5, y2_6, y2_7, y2_8, y2_9, y2_10, y2_11, y2_12, y2_13, y2_14, y2_15, y2_16, y2_17, y2_18, y2_19, y2_20, y2_21, y2_22, y2_23, y2_24, y2_25, y2_26].toArray 73)).cell? ⟨w.heap.size, o, none⟩ := fun _ => rfl
 have HP : Hid (∀ b, S b -> prot b) := hS
 have HS : Hid (∀ b, S b -> (fun b => prot b \/ b = w.heap.size) b) := fun b hb => .inl (hS b hb)
 clear h hr hS hl hq0
 go_enter Tryz.func76, Tryz.ntmps76
 go_wp2_with fail
 refine (zF2 p l bad (fun b => prot b \/ b = w.heap.size) x0 _ (by have := hl2.out; omega) hW0).mono ?_
 rintro e w1 ⟨rfl, hW1, hK1⟩
 have hA1 := hA0.trans (hK1.mono (fun _ x => .inl x))
 have hq1 : ∀ o, w1.cell? ⟨w.heap.size, o, none⟩ = (w.alloc (.cells [.int .i64 x0, .int .i64 x1, y2_0, y2_1, y2_2, y2_3, y2_4, y2_5, y2_6, y2_7, y2_8, y2_9, y2_10, y2_11, y2_12, y2_13, y2_14, y2_15, y2_16, y2_17, y2_18, y2_19, y2_20, y2_21, y2_22, y2_23, y2_24, y2_25, y2_26].toArray 73)).cell? ⟨w.heap.size, o, none⟩ := fun o => hK1.cell (a := ⟨w.heap.size, o, none⟩) (.inr rfl)
 clear hW0 hK1 hA0
 go_wp2_with fail
 refine (zF2 p (l ++ (enN x0).1) (bad || (enN x0).2) (fun b => prot b \/ b = w.heap.size) x1 _ (by have := hl2.out; have := zA1 x0; simp only [List.length_append]; omega) hW1).mono ?_
 rintro e w2 ⟨rfl, hW2, hK2⟩
 have hA2 := hA1.trans (hK2.mono (fun _ x => .inl x))
 have hq2 : ∀ o, w2.cell? ⟨w.heap.size, o, none⟩ = (w.alloc (.cells [.int .i64 x0, .int .i64 x1, y2_0, y2_1, y2_2, y2_3, y2_4, y2_5, y2_6, y2_7, y2_8, y2_9, y2_10, y2_11, y2_12, y2_13, y2_14, y2_15, y2_16, y2_17, y2_18, y2_19, y2_20, y2_21, y2_22, y2_23, y2_24, y2_25, y2_26].toArray 73)).cell? ⟨w.heap.size, o, none⟩ := fun o => (hK2.cell (a := ⟨w.heap.size, o, none⟩) (.inr rfl)).trans (hq1 o)
 clear hW1 hK2 hA1 hq1
 have hrg : Hid (World.rangeAt w2 w.heap.size 2 [y2_0, y2_1, y2_2, y2_3, y2_4, y2_5, y2_6, y2_7, y2_8, y2_9, y2_10, y2_11, y2_12, y2_13, y2_14, y2_15, y2_16, y2_17, y2_18, y2_19, y2_20, y2_21, y2_22, y2_23, y2_24, y2_25, y2_26]) := by
  intro jj u hu
  rw [hq2 (2 + jj), cell_of_row _ _ _ _ 73 (0, 0) (heap_alloc_new w _)]
  have : ([.int .i64 x0, .int .i64 x1, y2_0, y2_1, y2_2, y2_3, y2_4, y2_5, y2_6, y2_7, y2_8, y2_9, y2_10, y2_11, y2_12, y2_13, y2_14, y2_15, y2_16, y2_17, y2_18, y2_19, y2_20, y2_21, y2_22, y2_23, y2_24, y2_25, y2_26].drop 2)[jj]? = some u := by
   rw [show [.int .i64 x0, .int .i64 x1, y2_0, y2_1, y2_2, y2_3, y2_4, y2_5, y2_6, y2_7, y2_8, y2_9, y2_10, y2_11, y2_12, y2_13, y2_14, y2_15, y2_16, y2_17, y2_18, y2_19, y2_20, y2_21, y2_22, y2_23, y2_24, y2_25, y2_26].drop 2 = [y2_0, y2_1, y2_2, y2_3, y2_4, y2_5, y2_6, y2_7, y2_8, y2_9, y2_10, y2_11, y2_12, y2_13, y2_14, y2_15, y2_16, y2_17, y2_18, y2_19, y2_20, y2_21, y2_22, y2_23, y2_24, y2_25, y2_26] ++ [] from rfl, List.getElem?_append_left (List.getElem?_eq_some_iff.1 hu).1]
   exact hu
  rw [List.getElem?_drop] at this
  simpa using this
 have hI : Hid ((Tryz.prog.info? 71).map (·.size) = some [y2_0, y2_1, y2_2, y2_3, y2_4, y2_5, y2_6, y2_7, y2_8, y2_9, y2_10, y2_11, y2_12, y2_13, y2_14, y2_15, y2_16, y2_17, y2_18, y2_19, y2_20, y2_21, y2_22, y2_23, y2_24, y2_25, y2_26].length) := by show _ = _; kernel_rfl
 go_wp2_with (refine wpList_load_mid rfl 71 (.tmp 13) rfl w.heap.size 2 rfl [y2_0, y2_1, y2_2, y2_3, y2_4, y2_5, y2_6, y2_7, y2_8, y2_9, y2_10, y2_11, y2_12, y2_13, y2_14, y2_15, y2_16, y2_17, y2_18, y2_19, y2_20, y2_21, y2_22, y2_23, y2_24, y2_25, y2_26] _ hrg.out Tryz.underlying71 rfl hI.out ?_)
 refine (kF7 p (l ++ (enN x0).1 ++ (enN x1).1) (bad || (enN x0).2 || (enN x1).2) (fun b => prot b \/ b = w.heap.size) S [y2_0, y2_1, y2_2, y2_3, y2_4, y2_5, y2_6, y2_7, y2_8, y2_9, y2_10, y2_11, y2_12, y2_13, y2_14, y2_15, y2_16, y2_17, y2_18, y2_19, y2_20, y2_21, y2_22, y2_23, y2_24, y2_25, y2_26] v2 _ (by have := hl2.out; have := zA1 x0; have := zA1 x1; simp only [List.length_append]; omega) HS.out (h2.kept hA2.size (fun b hb => hA2.block b (HP.out b hb)) (fun _ x => x)) hW2).mono ?_
 rintro e w3 ⟨rfl, hW3, hK3⟩
 have hA3 := hA2.trans (hK3.mono (fun _ x => .inl x))
 have hq3 : ∀ o, w3.cell? ⟨w.heap.size, o, none⟩ = (w.alloc (.cells [.int .i64 x0, .int .i64 x1, y2_0, y2_1, y2_2, y2_3, y2_4, y2_5, y2_6, y2_7, y2_8, y2_9, y2_10, y2_11, y2_12, y2_13, y2_14, y2_15, y2_16, y2_17, y2_18, y2_19, y2_20, y2_21, y2_22, y2_23, y2_24, y2_25, y2_26].toArray 73)).cell? ⟨w.heap.size, o, none⟩ := fun o => (hK3.cell (a := ⟨w.heap.size, o, none⟩) (.inr rfl)).trans (hq2 o)
 clear hW2 hK3 hA2 hq2
 have HW : Hid (WR _ _ _ _ _) := hW3
 clear hW3
 go_wp2
 go_end0
 have hWf := HW.out
 have e1 : (l ++ (enN x0).1 ++ (enN x1).1 ++ (enR zD2 v2).1) = l ++ (enR zA8 (x0, x1, v2)).1 := by rw [yK6]; simp only [List.append_assoc]
 have e2 : (bad || (enN x0).2 || (enN x1).2 || (enR zD2 v2).2) = (bad || (enR zA8 (x0, x1, v2)).2) := by rw [yK6]; simp only [Bool.or_assoc]
 rw [e1, e2] at hWf
 exact ⟨rfl, hWf.mono (fun _ x => .inl x), hA3⟩
end
section
open Go.RowKit
theorem xM9 (p : Nat) (l : List UInt8) (bad : Bool) (prot : Nat -> Prop) (w : World) (h : WR w p l bad prot) :
    Calls Tryz.prog 77 #[.pointer (some ⟨p, 0, none⟩)] w fun e w' => ∃ v, e = .returned (.tuple #[v, .int .i64 (zV5 bad)]) /\ Own w' v (zE7 (l, bad)) /\ (∀ b, v.ownBlock = some b -> ¬ prot b) /\ w' = w := by
 obtain ⟨q1, q2, q3, v, q4, q5, q6, q7, q8, q9⟩ := h
 obtain ⟨a, c, hv, hbs⟩ := q8.form
 subst hv
 have H9 : Hid _ := q9
 clear q1 q2 q9 hbs
 cases bad with
 | true =>
  go_enter Tryz.func77, Tryz.ntmps77
  go_wp2
  go_ret2
  exact ⟨_, rfl, .inl ⟨rfl, rfl⟩, fun b hb => by simp [Value.ownBlock] at hb, rfl⟩
 | false =>
  go_enter Tryz.func77, Tryz.ntmps77
  go_wp2
  go_ret2
  exact ⟨_, rfl, q8, fun b hb => (H9.out b hb).2, rfl⟩
theorem yZ2 (w : World) (n : Nat) (hn : n = w.heap.size) : WR (w.alloc (.cells #[.slice none 0 0, .bool false] 141)) n [] false (fun b => b < n) := by
 subst hn
 refine ⟨by omega, fun b hb => by simp; omega, by simp, .slice none 0 0, ?_, ?_, ?_, ?_, .inl ⟨rfl, rfl⟩, fun r hr => by simp [Value.ownBlock] at hr⟩
 · rw [World.cell?_alloc_at _ _ _ _ rfl]; rfl
 · rw [World.cell?_alloc_at _ _ _ _ rfl]; rfl
 · exact World.frozen?_alloc_at _ _ _ _ rfl
 · exact World.frozen?_alloc_at _ _ _ _ rfl
end
section
open Go.RowKit
theorem yB6 : (Tryz.prog.info? 73).map (·.size) = some (wd zA8) := by kernel_rfl
theorem zS7 (cs : List Value) (v : Vl zA8) (w : World) (hz : szb zA8 v <= 137438953472) (hr : Rep w (fun b => b < w.heap.size) zA8 cs v) :
    Calls Tryz.prog 45 #[.agg cs.toArray] w fun e w' => ∃ val, e = .returned (.tuple #[val, .int .i64 (zV5 (en zA8 v).2)]) /\ Own w' val (zE7 (en zA8 v)) /\ (∀ b, val.ownBlock = some b -> w.heap.size <= b) /\ Below w.heap.size w w' := by
 have hsz : Hid ((Tryz.prog.info? 73).map (·.size) = some cs.toArray.size) := by show _ = _; rw [List.size_toArray, hr.len]; exact yB6
 have HG2 : Hid (((w.alloc (.cells cs.toArray 73)).alloc (.cells #[.slice none 0 0, .bool false] 141)).heap[w.heap.size]? = some (.cells cs.toArray 73 (0, 0))) := by
  show _ = _
  rw [Below.heap_alloc _ _ _ (by rw [World.size_alloc]; omega)]; exact heap_alloc_new w _
 have hB0 : Below w.heap.size w ((w.alloc (.cells cs.toArray 73)).alloc (.cells #[.slice none 0 0, .bool false] 141)) := ((Below.refl _ _).alloc (Nat.le_refl _) _).alloc (by rw [World.size_alloc]; omega) _
 have HR : Hid (Rep ((w.alloc (.cells cs.toArray 73)).alloc (.cells #[.slice none 0 0, .bool false] 141)) (fun b => b < w.heap.size) zA8 cs v) := hr.kept hB0.size (fun b hb => hB0.block b hb) (fun _ x => x)
 have HB0 : Hid _ := hB0
 clear hr hB0
 go_enter Tryz.func45, Tryz.ntmps45
 go_wp2_with (refine wpList_load_row rfl 73 (.tmp 1) rfl w.heap.size rfl 73 cs.toArray (0, 0) _ HG2.out Tryz.underlying73 rfl hsz.out ?_)
 refine (xU6 _ [] false (fun b => b < w.heap.size + 1) (fun b => b < w.heap.size) cs v _ (by rw [List.length_nil]; omega) (fun b hb => by omega) HR.out (yZ2 _ _ (by rw [World.size_alloc]))).mono ?_
 rintro e w1 ⟨rfl, hW, hK⟩
 have hB : Below w.heap.size w w1 := HB0.out.trans (hK.below.mono (by omega))
 rw [List.nil_append, Bool.false_or] at hW
 clear hK HG2
 go_wp2_with fail
 refine (xM9 _ _ _ _ _ hW).mono ?_
 rintro e w2 ⟨val, rfl, hO, hN0, hw⟩
 subst hw
 have hN : ∀ b, val.ownBlock = some b -> w.heap.size <= b := fun b hb => by have := hN0 b hb; simp at this; omega
 have HO : Hid (Own w2 val (zE7 (enR zA8 v))) := hO
 clear hO hN0 hW
 go_wp2
 go_ret2
 have hO := HO.out
 have hq := xO8 zA8 v
 have hby : zE7 (enR zA8 v) = zE7 (en zA8 v) := by
  unfold zE7
  rw [hq.1]
  cases hb : (en zA8 v).2 with
  | true => rfl
  | false => simp only [Bool.false_eq_true, if_false]; exact hq.2 hb
 rw [hby] at hO
 exact ⟨_, by rw [<- hq.1]; rfl, hO, hN, hB⟩
end
section
open Go.RowKit
theorem zQ6 (v : Vl zA8) (h : (en zA8 v).2 = false) : szb zA8 v <= 137438953472 := Nat.le_trans (yZ7 zA8 v h) (Nat.le_of_ble_eq_true (by kernel_rfl))
theorem yX2 : mx zA8 <= 211106232532992 := Nat.le_of_ble_eq_true (by kernel_rfl)
theorem yX7 (a : Option Addr) (n cap : Nat) (l : List UInt8) (w : World) (hn : n = l.length) (hcap : n <= cap) (hbs : Bs w a l) (hbl : ∀ y, a = some y -> y.block < w.heap.size) :
    Calls Tryz.prog 41 #[.slice a n cap] w fun e w' => ∃ (cs : List Value) (v : Vl zA8), e = .returned (.tuple #[.agg cs.toArray, .bool (decide ((de zA8 (some l)).2 = some []))]) /\ Rep w' (NB w w') zA8 cs v /\ ((de zA8 (some l)).2 = some [] -> v = (de zA8 (some l)).1) /\ Below w.heap.size w w' := by
 subst hn
 have hBA : Below w.heap.size w ((w.alloc (.cells zB2 73)).alloc (.cells #[.slice a l.length cap, .bool false] 137)) := ((Below.refl _ _).alloc (Nat.le_refl _) _).alloc (by rw [World.size_alloc]; omega) _
 have gA0 : ((w.alloc (.cells zB2 73)).alloc (.cells #[.slice a l.length cap, .bool false] 137)).heap[w.heap.size]? = some (.cells zB2 73 (0, 0)) := by
  rw [Below.heap_alloc _ _ _ (by rw [World.size_alloc]; omega)]; exact heap_alloc_new w _
 have gA1 : ((w.alloc (.cells zB2 73)).alloc (.cells #[.slice a l.length cap, .bool false] 137)).heap[w.heap.size + 1]? = some (.cells #[.slice a l.length cap, .bool false] 137 (0, 0)) := by
  have := heap_alloc_new (w.alloc (.cells zB2 73)) (.cells #[.slice a l.length cap, .bool false] 137)
  rwa [World.size_alloc] at this
 have hRI : RI w.heap.size ((w.alloc (.cells zB2 73)).alloc (.cells #[.slice a l.length cap, .bool false] 137)) (w.heap.size + 1) l false := by
  refine ⟨by rw [World.size_alloc, World.size_alloc]; omega, by rw [World.size_alloc, World.size_alloc]; omega, by unfold World.frozen?; rw [gA1]; rfl, by unfold World.frozen?; rw [gA1]; rfl, ?_, a, cap, ?_, hcap, hbs.grow hBA, fun x hx => ⟨by have := hbl x hx; omega, hbl x hx⟩⟩
  · rw [cell_of_row _ _ 1 _ 137 (0, 0) gA1]; rfl
  · rw [cell_of_row _ _ 0 _ 137 (0, 0) gA1]; rfl
 have HBS := hidI hbs
 have HBA := hidI hBA
 have GA0 := hidI gA0
 have HCAP := hidI hcap
 have hll := hbs.1
 clear hBA gA0 gA1 hbs hbl hcap
 go_enter Tryz.func41, Tryz.ntmps41
 go_wp2_with fail
 refine (xU7 (w.heap.size + 1) l false _ hRI).mono ?_
 rintro e w1 ⟨cl, vv, rfl, hrep, l1, b1, rd1, ri1, rs1⟩
 have RD := hidI rd1
 have hcs : cl.toArray.size = zB2.size := by rw [List.size_toArray, hrep.len]; kernel_rfl
 have HCS := hidI hcs
 have HCO : Hid (cl.toArray.all (·.oneCell') = true) := hrep.all
 have HCI : Hid ((Tryz.prog.info? 73).map (·.size) = some cl.toArray.size) := by show _ = _; rw [hcs]; exact zE2
 have hB1 : Below w.heap.size w w1 := HBA.out.trans ⟨rs1.os, rs1.tape, rs1.output, rs1.size, fun k hk => rs1.block k (by rw [World.size_alloc, World.size_alloc]; omega) (by omega)⟩
 have G01 := hidI ((rs1.block _ (by rw [World.size_alloc, World.size_alloc]; omega) (by omega)).trans GA0.out)
 have z1 : w.heap.size + 1 < w1.heap.size := ri1.1
 have HREP1 : Hid (Rep w1 (NBr (w.heap.size + 1) w1) zA8 cl vv) := hrep.keptN (Nat.le_refl _) (fun _ _ _ => rfl) (by rw [World.size_alloc, World.size_alloc]; omega)
 have HB1 := hidI hB1
 have HRI1 := hidI ri1
 have Z1 := hidI z1
 clear rd1 hcs hrep rs1 hRI hB1 ri1 z1
 go_wp2_with (refine zA7 rfl 73 (.tmp 5) (.tmp 12) rfl w1.heap.size cl.toArray rfl rfl 73 zB2 (heap_alloc_new w1 (.cells zB2 73)) HCI.out HCS.out.symm HCO.out ?nx2)
 case nx2 =>
  intro w2 hw2h
  have hw2 := hw2h.out
  have hB2 : Below w1.heap.size w1 w2 := by rw [hw2]; exact ((Below.refl _ _).alloc (Nat.le_refl _) _).trans ⟨rfl, rfl, rfl, by simp [World.setRow], fun k hk => setRow_other _ _ _ _ (by omega)⟩
  have G2 := hidI (show w2.heap[w1.heap.size]? = some (.cells cl.toArray 73 (0, 0)) by rw [hw2]; exact setRow_heap _ _ _ _ 73 _ (heap_alloc_new w1 _))
  have z2 : w1.heap.size < w2.heap.size := (Array.getElem?_eq_some_iff.1 G2.out).1
  have G02 := hidI ((hB2.block _ (by have := Z1.out; omega)).trans G01.out)
  have HREP2 := hidI (HREP1.out.keptN (lo' := w.heap.size + 1) hB2.size (fun b h1 h2 => hB2.block b h2) (Nat.le_refl _))
  have HREP2b : Hid (Rep w2 (fun b => b < w2.heap.size) zA8 cl vv) := HREP2.out.kept (Nat.le_refl _) (fun _ _ => rfl) (fun b x => x.2.1)
  have HRI2 := hidI (HRI1.out.ext hB2 HRI1.out.1 HRI1.out.2.1)
  have HB2 := hidI (HB1.out.trans (hB2.mono HB1.out.size))
  have HZZ := hidI (zQ6 vv RD.out.1)
  have Z2 := hidI z2
  clear hw2 hw2h hB2 z2
  go_wp2_with (refine wpList_load_row rfl 73 (.tmp 5) rfl w1.heap.size rfl 73 cl.toArray (0, 0) _ G2.out Tryz.underlying73 rfl HCI.out ?_)
  refine (zS7 cl vv _ HZZ.out HREP2b.out).mono ?_
  rintro e w3 ⟨val, rfl, oX, nX, bX⟩
  rw [show zV5 (en zA8 vv).2 = 0 by rw [RD.out.1]; rfl]
  have hby : zE7 (en zA8 vv) = (en zA8 vv).1 := by unfold zE7; rw [RD.out.1]; rfl
  rw [hby] at oX
  have hlX : (en zA8 vv).1.length <= 211106232532992 := Nat.le_trans (zG8 zA8 vv) yX2
  obtain ⟨aX, cX, rfl, hbsX⟩ := oX.form
  have HBX := hidI (hbsX hlX)
  have HRI3 := hidI (HRI2.out.ext bX HRI2.out.1 HRI2.out.2.1)
  have G3 := hidI ((bX.block _ Z2.out).trans G2.out)
  have HG0 := hidI ((bX.block _ (by have := Z2.out; have := Z1.out; omega)).trans G02.out)
  have HBW := hidI (HB2.out.trans (bX.mono HB2.out.size))
  have HREP3 := hidI (HREP2.out.keptN (lo' := w.heap.size + 1) bX.size (fun b h1 h2 => bX.block b h2) (Nat.le_refl _))
  have HBS3 := hidI (HBS.out.grow HBW.out)
  obtain ⟨nX2, hnX⟩ : ∃ nX2, Hid ((en zA8 vv).1.length = nX2) := ⟨_, hidI rfl⟩
  rw [hnX.out]
  clear oX nX bX hby hlX hbsX
  go_wp2_with fail
  refine (xP0 (w.heap.size + 1) l1 b1 _ HRI3.out).mono ?_
  rintro e w4 ⟨rfl, hw4⟩
  subst hw4
  cases hdn : (!b1 && decide (l1 = [])) with
  | false =>
   have HF : Hid (decide ((de zA8 (some l)).2 = some []) = false) := by
    show _ = _
    rw [decide_eq_false_iff_not, <- zT8 RD.out]
    rintro ⟨e1, e2, _⟩
    rw [e1, e2] at hdn
    simp at hdn
   clear hdn
   go_wp2_with (refine zA7 rfl 73 (.tmp 2) (.tmp 31) rfl w.heap.size zB2 rfl rfl 73 zB2 HG0.out zE2 rfl zO6 ?nx)
   case nx =>
    intro w6 hw6h
    have hw6 := hw6h.out
    have g6 : Hid (w6.heap[w.heap.size]? = some (.cells zB2 73 (0, 0))) := by show _ = _; rw [hw6]; exact setRow_heap _ _ _ _ 73 _ HG0.out
    have hB6 : Below w.heap.size w w6 := by rw [hw6]; exact HBW.out.trans ⟨rfl, rfl, rfl, by simp [World.setRow], fun k hk => setRow_other _ _ _ _ (by omega)⟩
    clear hw6 hw6h
    go_wp2
    refine bodyPost_ret (v := .tuple #[.agg zB2, .bool false]) ?_ rfl ⟨zB2.toList, zO5, by rw [HF.out], zQ7 _ _, fun h => absurd h (of_decide_eq_false HF.out), hB6⟩
    simp [results, Tryz.results41, asAddr, run_loadVar_row w6 w.heap.size 73 73 zB2 (0, 0) _ g6.out Tryz.underlying73 rfl zE2]
  | true =>
   have hb1 : b1 = false := by cases b1 with | true => simp at hdn | false => rfl
   have hl1 : l1 = [] := by rw [hb1] at hdn; simpa using hdn
   subst hb1 hl1
   clear hdn
   go_wp2_with fail
   refine (zJ1 aX a nX2 l.length cX cap (en zA8 vv).1 l _ hnX.out.symm rfl HBX.out HBS3.out).mono ?_
   rintro e w5 ⟨rfl, nq, hw5⟩
   have hB5 : Below w4.heap.size w4 w5 := by rw [hw5]; exact ⟨rfl, rfl, rfl, Nat.le_refl _, fun _ _ => rfl⟩
   replace HG0 := hidI ((hB5.block _ (Array.getElem?_eq_some_iff.1 HG0.out).1).trans HG0.out)
   replace G3 := hidI ((hB5.block _ (Array.getElem?_eq_some_iff.1 G3.out).1).trans G3.out)
   replace HREP3 := hidI (HREP3.out.keptN (lo' := w.heap.size + 1) hB5.size (fun b h1 h2 => hB5.block b h2) (Nat.le_refl _))
   replace HBW := hidI (HBW.out.trans (hB5.mono HBW.out.size))
   clear hw5 hB5
   cases hsm : decide ((en zA8 vv).1 = l) with
   | false =>
    have HF : Hid (decide ((de zA8 (some l)).2 = some []) = false) := by
     show _ = _
     rw [decide_eq_false_iff_not, <- zT8 RD.out]
     rintro ⟨_, _, e3⟩
     exact of_decide_eq_false hsm e3
    clear hsm
    go_wp2_with (refine zA7 rfl 73 (.tmp 2) (.tmp 31) rfl w.heap.size zB2 rfl rfl 73 zB2 HG0.out zE2 rfl zO6 ?nx)
    case nx =>
     intro w6 hw6h
     have hw6 := hw6h.out
     have g6 : Hid (w6.heap[w.heap.size]? = some (.cells zB2 73 (0, 0))) := by show _ = _; rw [hw6]; exact setRow_heap _ _ _ _ 73 _ HG0.out
     have hB6 : Below w.heap.size w w6 := by rw [hw6]; exact HBW.out.trans ⟨rfl, rfl, rfl, by simp [World.setRow], fun k hk => setRow_other _ _ _ _ (by omega)⟩
     clear hw6 hw6h
     go_wp2
     refine bodyPost_ret (v := .tuple #[.agg zB2, .bool false]) ?_ rfl ⟨zB2.toList, zO5, by rw [HF.out], zQ7 _ _, fun h => absurd h (of_decide_eq_false HF.out), hB6⟩
     simp [results, Tryz.results41, asAddr, run_loadVar_row w6 w.heap.size 73 73 zB2 (0, 0) _ g6.out Tryz.underlying73 rfl zE2]
   | true =>
    have hDE : (de zA8 (some l)).2 = some [] := (zT8 RD.out).1 ⟨rfl, rfl, of_decide_eq_true hsm⟩
    have HT : Hid (decide ((de zA8 (some l)).2 = some []) = true) := by show _ = _; simp [hDE]
    have HVV := hidI (RD.out.2 rfl [] hDE).1
    clear hsm hDE
    go_wp2_with (first
     | (refine wpList_load_row rfl 73 (.tmp 5) rfl w1.heap.size rfl 73 cl.toArray (0, 0) _ G3.out Tryz.underlying73 rfl HCI.out ?_)
     | (refine zA7 rfl 73 (.tmp 2) (.tmp 32) rfl w.heap.size cl.toArray rfl rfl 73 zB2 HG0.out HCI.out HCS.out.symm HCO.out ?nx))
    case nx =>
     intro w6 hw6h
     have hw6 := hw6h.out
     have g6 : Hid (w6.heap[w.heap.size]? = some (.cells cl.toArray 73 (0, 0))) := by show _ = _; rw [hw6]; exact setRow_heap _ _ _ _ 73 _ HG0.out
     have hB6 : Below w.heap.size w w6 := by rw [hw6]; exact HBW.out.trans ⟨rfl, rfl, rfl, by simp [World.setRow], fun k hk => setRow_other _ _ _ _ (by omega)⟩
     have HREP6 : Hid (Rep w6 (NB w w6) zA8 cl vv) := by
      rw [hw6]
      exact HREP3.out.keptN (by simp [World.setRow]) (fun b h1 h2 => setRow_other _ _ _ _ (by omega)) (Nat.le_succ _)
     clear hw6 hw6h
     go_wp2
     refine bodyPost_ret (v := .tuple #[.agg cl.toArray, .bool true]) ?_ rfl ⟨cl, vv, by rw [HT.out], HREP6.out, fun _ => HVV.out, hB6⟩
     simp [results, Tryz.results41, asAddr, run_loadVar_row w6 w.heap.size 73 73 cl.toArray (0, 0) _ g6.out Tryz.underlying73 rfl HCI.out]
end
section
open Go.RowKit
theorem xV7 (p : Nat) (l : List UInt8) (bad : Bool) (prot S : Nat -> Prop) (a : Option Addr) (c : Nat) (v : List UInt8) (w : World) (hl : l.length + szb .byt v <= 137438953472) (hS : ∀ b, S b -> prot b) (hr : RepB w S a v) (h : WR w p l bad prot) :
    Calls Tryz.prog 120 #[.pointer (some ⟨p, 0, none⟩), .slice a v.length c] w fun e w' => e = .returned (.tuple #[]) /\ WR w' p (l ++ (enR .byt v).1) (bad || (enR .byt v).2) prot /\ Kp w w' prot := by
 have hl2 : Hid (l.length + (6 + v.length) <= 137438953472) := hl
 have HSP : Hid (∀ b, S b -> prot b) := hS
 have HNL : Hid ((enN (v.length : Int)).1.length <= 6) := zA1 _
 have hM := h.mark (bad || decide (65536 < (v.length : Int)))
 have HR1 : Hid (RepB (w.setCell ⟨p, 1, none⟩ (.bool (bad || decide (65536 < (v.length : Int))))) S a v) := hr.keep hM.2 hS
 have HM : Hid _ := hM
 obtain ⟨h1, h2, h3, v0, h4, h5, h6, h7, h8, h9⟩ := h
 clear h1 h2 h9 h8 hM hl hS hr
 cases bad with
 | true =>
  simp only [Bool.true_or] at HM HR1
  go_enter Tryz.func120, Tryz.ntmps120
  go_wp2_with fail
  refine (zF2 p l true prot (v.length : Int) _ (by have := hl2.out; omega) HM.out.1).mono ?_
  rintro e w1 ⟨rfl, hW1, hK1⟩
  have HR : Hid (RepB w1 S a v) := HR1.out.keep hK1 HSP.out
  obtain ⟨q1, q2, q3, v1, q4, q5, q6, q7, q8, q9⟩ := hW1
  obtain ⟨a1, c1, hv, hbs⟩ := q8.form
  subst hv
  have H2 : Hid _ := q2
  have H9 : Hid _ := q9
  have H1 : Hid _ := q1
  clear q1 q2 q9 hbs
  have hlb : Hid ((l ++ (enN (v.length : Int)).1).length + v.length <= 211106232532992) := by
   show _ <= _
   have := HNL.out
   have := hl2.out
   rw [List.length_append]; omega
  obtain ⟨m, hm⟩ : ∃ m, Hid (m = l ++ (enN (v.length : Int)).1) := ⟨_, rfl⟩
  rw [<- hm.out] at q4 q8 hlb
  go_wp2_with (at_builtin; refine zB6 _ rfl (.tmp 24) (.tmp 25) rfl (.slice a1 m.length c1) m rfl q8 (.slice a v.length c) v rfl ?src ?len ?next)
  case src => exact HR.out.1.src Tryz.underlying22 c
  case len => exact hlb.out
  case next =>
   intro v' w2 o1 s1
   obtain ⟨hW2, hK2, k1, d1⟩ := WR.store0 H1.out H2.out q3 q5 q6 q7 (by rw [hm.out]; exact H9.out) q4 o1 s1
   obtain ⟨a', c', hv', _⟩ := o1.form
   subst hv'
   rw [List.length_append] at hW2 hK2
   have HW2 : Hid (WR _ _ _ _ _) := hW2
   clear hW2 o1 s1
   go_wp2
   go_end0
   refine ⟨rfl, ?_, HM.out.2.trans (hK1.trans hK2)⟩
   have e : l ++ ((enN (v.length : Int)).1 ++ v) = m ++ v := by rw [hm.out, List.append_assoc]
   show WR _ p (l ++ ((enN (v.length : Int)).1 ++ v)) (true || (decide (65536 < (v.length : Int)) || (enN (v.length : Int)).2)) prot
   rw [e]
   simpa using HW2.out
 | false =>
  simp only [Bool.false_or] at HM HR1
  go_enter Tryz.func120, Tryz.ntmps120
  go_wp2_with fail
  refine (zF2 p l (decide (65536 < (v.length : Int))) prot (v.length : Int) _ (by have := hl2.out; omega) HM.out.1).mono ?_
  rintro e w1 ⟨rfl, hW1, hK1⟩
  have HR : Hid (RepB w1 S a v) := HR1.out.keep hK1 HSP.out
  obtain ⟨q1, q2, q3, v1, q4, q5, q6, q7, q8, q9⟩ := hW1
  obtain ⟨a1, c1, hv, hbs⟩ := q8.form
  subst hv
  have H2 : Hid _ := q2
  have H9 : Hid _ := q9
  have H1 : Hid _ := q1
  clear q1 q2 q9 hbs
  have hlb : Hid ((l ++ (enN (v.length : Int)).1).length + v.length <= 211106232532992) := by
   show _ <= _
   have := HNL.out
   have := hl2.out
   rw [List.length_append]; omega
  obtain ⟨m, hm⟩ : ∃ m, Hid (m = l ++ (enN (v.length : Int)).1) := ⟨_, rfl⟩
  rw [<- hm.out] at q4 q8 hlb
  go_wp2_with (at_builtin; refine zB6 _ rfl (.tmp 24) (.tmp 25) rfl (.slice a1 m.length c1) m rfl q8 (.slice a v.length c) v rfl ?src ?len ?next)
  case src => exact HR.out.1.src Tryz.underlying22 c
  case len => exact hlb.out
  case next =>
   intro v' w2 o1 s1
   obtain ⟨hW2, hK2, k1, d1⟩ := WR.store0 H1.out H2.out q3 q5 q6 q7 (by rw [hm.out]; exact H9.out) q4 o1 s1
   obtain ⟨a', c', hv', _⟩ := o1.form
   subst hv'
   rw [List.length_append] at hW2 hK2
   have HW2 : Hid (WR _ _ _ _ _) := hW2
   clear hW2 o1 s1
   go_wp2
   go_end0
   refine ⟨rfl, ?_, HM.out.2.trans (hK1.trans hK2)⟩
   have e : l ++ ((enN (v.length : Int)).1 ++ v) = m ++ v := by rw [hm.out, List.append_assoc]
   show WR _ p (l ++ ((enN (v.length : Int)).1 ++ v)) (false || (decide (65536 < (v.length : Int)) || (enN (v.length : Int)).2)) prot
   rw [e]
   simpa using HW2.out
end
section
open Go.RowKit
theorem yW1 (p : Nat) (l : List UInt8) (bad : Bool) (prot S : Nat -> Prop) (cs : List Value) (v : Vl zA2) (w : World) (hl : l.length + szb zA2 v <= 137438953472) (hS : ∀ b, S b -> prot b) (hr : Rep w S zA2 cs v) (h : WR w p l bad prot) :
    Calls Tryz.prog 84 #[.pointer (some ⟨p, 0, none⟩), .agg cs.toArray] w fun e w' => e = .returned (.tuple #[]) /\ WR w' p (l ++ (enR zA2 v).1) (bad || (enR zA2 v).2) prot /\ Kp w w' prot := by
 obtain ⟨x0, x1, y2_0, y2_1, v2, a3, c3, v3, rfl, rfl, h2, h3⟩ := zR2 hr
 rw [yI3] at hl
 have hl2 : Hid (l.length + (6 + (6 + (szb zB5 v2 + (szb .byt v3)))) <= 137438953472) := hl
 have hW0 : WR (w.alloc (.cells [.int .i64 x0, .int .i64 x1, y2_0, y2_1, .slice a3 v3.length c3].toArray 36)) p l bad (fun b => prot b \/ b = w.heap.size) := h.box _
 have hA0 := Kp.alloc w (.cells [.int .i64 x0, .int .i64 x1, y2_0, y2_1, .slice a3 v3.length c3].toArray 36) prot h.2.1
 have hq0 : ∀ o, (w.alloc (.cells [.int .i64 x0, .int .i64 x1, y2_0, y2_1, .slice a3 v3.length c3].toArray 36)).cell? ⟨w.heap.size, o, none⟩ = (w.alloc (.cells [.int .i64 x0, .int .i64 x1, y2_0, y2_1, .slice a3 v3.length c3].toArray 36)).cell? ⟨w.heap.size, o, none⟩ := fun _ => rfl
 have HP : Hid (∀ b, S b -> prot b) := hS
 have HS : Hid (∀ b, S b -> (fun b => prot b \/ b = w.heap.size) b) := fun b hb => .inl (hS b hb)
 clear h hr hS hl hq0
 go_enter Tryz.func84, Tryz.ntmps84
 go_wp2_with fail
 refine (zF2 p l bad (fun b => prot b \/ b = w.heap.size) x0 _ (by have := hl2.out; omega) hW0).mono ?_
 rintro e w1 ⟨rfl, hW1, hK1⟩
 have hA1 := hA0.trans (hK1.mono (fun _ x => .inl x))
 have hq1 : ∀ o, w1.cell? ⟨w.heap.size, o, none⟩ = (w.alloc (.cells [.int .i64 x0, .int .i64 x1, y2_0, y2_1, .slice a3 v3.length c3].toArray 36)).cell? ⟨w.heap.size, o, none⟩ := fun o => hK1.cell (a := ⟨w.heap.size, o, none⟩) (.inr rfl)
 clear hW0 hK1 hA0
 go_wp2_with fail
 refine (zF2 p (l ++ (enN x0).1) (bad || (enN x0).2) (fun b => prot b \/ b = w.heap.size) x1 _ (by have := hl2.out; have := zA1 x0; simp only [List.length_append]; omega) hW1).mono ?_
 rintro e w2 ⟨rfl, hW2, hK2⟩
 have hA2 := hA1.trans (hK2.mono (fun _ x => .inl x))
 have hq2 : ∀ o, w2.cell? ⟨w.heap.size, o, none⟩ = (w.alloc (.cells [.int .i64 x0, .int .i64 x1, y2_0, y2_1, .slice a3 v3.length c3].toArray 36)).cell? ⟨w.heap.size, o, none⟩ := fun o => (hK2.cell (a := ⟨w.heap.size, o, none⟩) (.inr rfl)).trans (hq1 o)
 clear hW1 hK2 hA1 hq1
 go_wp2_with fail
 refine (xP4 p (l ++ (enN x0).1 ++ (enN x1).1) (bad || (enN x0).2 || (enN x1).2) (fun b => prot b \/ b = w.heap.size) S [y2_0, y2_1] v2 _ (by have := hl2.out; have := zA1 x0; have := zA1 x1; simp only [List.length_append]; omega) HS.out (h2.kept hA2.size (fun b hb => hA2.block b (HP.out b hb)) (fun _ x => x)) hW2).mono ?_
 rintro e w3 ⟨rfl, hW3, hK3⟩
 have hA3 := hA2.trans (hK3.mono (fun _ x => .inl x))
 have hq3 : ∀ o, w3.cell? ⟨w.heap.size, o, none⟩ = (w.alloc (.cells [.int .i64 x0, .int .i64 x1, y2_0, y2_1, .slice a3 v3.length c3].toArray 36)).cell? ⟨w.heap.size, o, none⟩ := fun o => (hK3.cell (a := ⟨w.heap.size, o, none⟩) (.inr rfl)).trans (hq2 o)
 clear hW2 hK3 hA2 hq2
 go_wp2_with fail
 refine (xV7 p (l ++ (enN x0).1 ++ (enN x1).1 ++ (enR zB5 v2).1) (bad || (enN x0).2 || (enN x1).2 || (enR zB5 v2).2) (fun b => prot b \/ b = w.heap.size) S a3 c3 v3 _ (by have := hl2.out; have := zA1 x0; have := zA1 x1; have := zC7 zB5 v2; simp only [List.length_append]; omega) HS.out (h3.2.kept hA3.size (fun b hb => hA3.block b (HP.out b hb)) (fun _ x => x)) hW3).mono ?_
 rintro e w4 ⟨rfl, hW4, hK4⟩
 have hA4 := hA3.trans (hK4.mono (fun _ x => .inl x))
 have hq4 : ∀ o, w4.cell? ⟨w.heap.size, o, none⟩ = (w.alloc (.cells [.int .i64 x0, .int .i64 x1, y2_0, y2_1, .slice a3 v3.length c3].toArray 36)).cell? ⟨w.heap.size, o, none⟩ := fun o => (hK4.cell (a := ⟨w.heap.size, o, none⟩) (.inr rfl)).trans (hq3 o)
 clear hW3 hK4 hA3 hq3
 have HW : Hid (WR _ _ _ _ _) := hW4
 clear hW4
 go_wp2
 go_end0
 have hWf := HW.out
 have e1 : (l ++ (enN x0).1 ++ (enN x1).1 ++ (enR zB5 v2).1 ++ (enR .byt v3).1) = l ++ (enR zA2 (x0, x1, v2, v3)).1 := by rw [zV1]; simp only [List.append_assoc]
 have e2 : (bad || (enN x0).2 || (enN x1).2 || (enR zB5 v2).2 || (enR .byt v3).2) = (bad || (enR zA2 (x0, x1, v2, v3)).2) := by rw [zV1]; simp only [Bool.or_assoc]
 rw [e1, e2] at hWf
 exact ⟨rfl, hWf.mono (fun _ x => .inl x), hA4⟩
end
section
open Go.RowKit
theorem zT6 : (Tryz.prog.info? 36).map (·.size) = some (wd zA2) := by kernel_rfl
theorem yE5 (cs : List Value) (v : Vl zA2) (w : World) (hz : szb zA2 v <= 137438953472) (hr : Rep w (fun b => b < w.heap.size) zA2 cs v) :
    Calls Tryz.prog 52 #[.agg cs.toArray] w fun e w' => ∃ val, e = .returned (.tuple #[val, .int .i64 (zV5 (en zA2 v).2)]) /\ Own w' val (zE7 (en zA2 v)) /\ (∀ b, val.ownBlock = some b -> w.heap.size <= b) /\ Below w.heap.size w w' := by
 have hsz : Hid ((Tryz.prog.info? 36).map (·.size) = some cs.toArray.size) := by show _ = _; rw [List.size_toArray, hr.len]; exact zT6
 have HG2 : Hid (((w.alloc (.cells cs.toArray 36)).alloc (.cells #[.slice none 0 0, .bool false] 141)).heap[w.heap.size]? = some (.cells cs.toArray 36 (0, 0))) := by
  show _ = _
  rw [Below.heap_alloc _ _ _ (by rw [World.size_alloc]; omega)]; exact heap_alloc_new w _
 have hB0 : Below w.heap.size w ((w.alloc (.cells cs.toArray 36)).alloc (.cells #[.slice none 0 0, .bool false] 141)) := ((Below.refl _ _).alloc (Nat.le_refl _) _).alloc (by rw [World.size_alloc]; omega) _
 have HR : Hid (Rep ((w.alloc (.cells cs.toArray 36)).alloc (.cells #[.slice none 0 0, .bool false] 141)) (fun b => b < w.heap.size) zA2 cs v) := hr.kept hB0.size (fun b hb => hB0.block b hb) (fun _ x => x)
 have HB0 : Hid _ := hB0
 clear hr hB0
 go_enter Tryz.func52, Tryz.ntmps52
 go_wp2_with (refine wpList_load_row rfl 36 (.tmp 1) rfl w.heap.size rfl 36 cs.toArray (0, 0) _ HG2.out Tryz.underlying36 rfl hsz.out ?_)
 refine (yW1 _ [] false (fun b => b < w.heap.size + 1) (fun b => b < w.heap.size) cs v _ (by rw [List.length_nil]; omega) (fun b hb => by omega) HR.out (yZ2 _ _ (by rw [World.size_alloc]))).mono ?_
 rintro e w1 ⟨rfl, hW, hK⟩
 have hB : Below w.heap.size w w1 := HB0.out.trans (hK.below.mono (by omega))
 rw [List.nil_append, Bool.false_or] at hW
 clear hK HG2
 go_wp2_with fail
 refine (xM9 _ _ _ _ _ hW).mono ?_
 rintro e w2 ⟨val, rfl, hO, hN0, hw⟩
 subst hw
 have hN : ∀ b, val.ownBlock = some b -> w.heap.size <= b := fun b hb => by have := hN0 b hb; simp at this; omega
 have HO : Hid (Own w2 val (zE7 (enR zA2 v))) := hO
 clear hO hN0 hW
 go_wp2
 go_ret2
 have hO := HO.out
 have hq := xO8 zA2 v
 have hby : zE7 (enR zA2 v) = zE7 (en zA2 v) := by
  unfold zE7
  rw [hq.1]
  cases hb : (en zA2 v).2 with
  | true => rfl
  | false => simp only [Bool.false_eq_true, if_false]; exact hq.2 hb
 rw [hby] at hO
 exact ⟨_, by rw [<- hq.1]; rfl, hO, hN, hB⟩
end
end Go.Proofs.YtocoimjhglackaaGreat
