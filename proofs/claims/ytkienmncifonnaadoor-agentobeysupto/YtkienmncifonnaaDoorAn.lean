/- answer, pick, Epoch. -/
import Derived.Test.YtkienmncifonnaaDoorSr
namespace Go.Proofs.YtkienmncifonnaaDoor
open Go.RowKit Go.Maps
variable {D : Nat} {w w' : World} {p : Nat} {s : Sg} {n c pd : Nat} {mv : Value} {G : Nat → Prop}
def anC (kd fr to cx hi op id c1 c2 bt ep sq : Int) (rp : Value) (cd vl : Int) (al : Value) : Array Value := #[.int .i64 kd, .int .i64 fr, .int .i64 to, .int .i64 0, .int .i64 0, .int .i64 0, .int .i64 0, .bool false, .int .i64 cx, .int .i64 0, .int .i64 0, .int .i64 hi, .slice none 0 0, .slice none 0 0, .slice none 0 0, .slice none 0 0, .int .i64 op, .int .i64 0, .int .i64 0, .int .i64 0, .int .i64 0, .int .i64 0, .int .i64 0, .slice none 0 0, .int .i64 0, .bool false, .int .i64 id, .int .i64 c1, .int .i64 c2, .bool false, .bool false, .int .i64 bt, .int .i64 ep, .int .i64 sq, rp, .int .i64 0, .int .i64 0, .int .i64 0, .slice none 0 0, .slice none 0 0, .bool false, .slice none 0 0, .slice none 0 0, .int .i64 cd, .int .i64 vl, al]
def rsC (cd vl : Int) (al : Value) : Array Value := #[.int .i64 cd, .int .i64 vl, al]
theorem an_all (kd fr to cx hi op id c1 c2 bt ep sq : Int) (a : Option Addr) (l k : Nat) (cd vl : Int) (aa : Option Addr) (ll kk : Nat) : (anC kd fr to cx hi op id c1 c2 bt ep sq (.slice a l k) cd vl (.slice aa ll kk)).all (·.oneCell') = true := by simp [anC, Value.oneCell']
theorem anR (kd fr to cx hi op id c1 c2 bt ep sq : Int) (a : Option Addr) (l k : Nat) (cd vl : Int) (aa : Option Addr) (al : List Al) (kk : Nat) : MsR (anC kd fr to cx hi op id c1 c2 bt ep sq (.slice a l k) cd vl (.slice aa al.length kk)) ⟨kd, fr, to, cx, hi, op, bt, ep, cd, vl, aa, al, kk⟩ :=
  ⟨rfl, an_all .., rfl, rfl, rfl, rfl, rfl, rfl, rfl, rfl, rfl, rfl, rfl⟩
set_option maxRecDepth 100000 in
theorem built51a (to fr cx nn op id c1 c2 bt ep sq : Int) (a : Option Addr) (l k : Nat) : Tryd.prog.built 51 [(0, .int .i64 10), (1, .int .i64 to), (2, .int .i64 fr), (8, .int .i64 cx), (15, .agg (cmC op id c1 c2 bt ep sq (.slice a l k))), (11, .int .i64 nn)] = some (anC 10 to fr cx nn op id c1 c2 bt ep sq (.slice a l k) 0 0 nilS) := by kernel_rfl
theorem built49 (cd vl : Int) (v : Option Addr) (l k : Nat) : Tryd.prog.built 49 [(0, .int .i64 cd), (1, .int .i64 vl), (2, .slice v l k)] = some (rsC cd vl (.slice v l k)) := by kernel_rfl
theorem info49 : (Tryd.prog.info? 49).map (·.size) = some 3 := by kernel_rfl
theorem rs_all (cd vl : Int) (aa : Option Addr) (ll kk : Nat) : (rsC cd vl (.slice aa ll kk)).all (·.oneCell') = true := by simp [rsC, Value.oneCell']
theorem setAll_rs (to fr cx nn op id c1 c2 bt ep sq cd vl : Int) (a aa : Option Addr) (l k ll kk : Nat) : setAll (anC 10 to fr cx nn op id c1 c2 bt ep sq (.slice a l k) 0 0 nilS) 43 (rsC cd vl (.slice aa ll kk)).toList = (anC 10 to fr cx nn op id c1 c2 bt ep sq (.slice a l k) cd vl (.slice aa ll kk)) := by kernel_rfl
/- the cells of a deed that are looked at -/
structure DyR (Y : Array Value) (nn cd vl : Int) (aa : Option Addr) (ll kk : Nat) : Prop where
  sz : Y.size = 52
  f1 : Y[1]? = some (.int .i64 nn)
  f3 : Y[3]? = some (.int .i64 cd)
  f4 : Y[4]? = some (.int .i64 vl)
  f5 : Y[5]? = some (.slice aa ll kk)
theorem epoch_any (h : AgS D w p s n c) : Calls Tryd.prog 9 #[.pointer (some ⟨p, 0, none⟩)] w fun e w' => e = .returned (.int .i64 s.a.ep) ∧ w' = w := by
  obtain ⟨pd, mv, G, h⟩ := h
  have c9 : w.cell? ⟨p, 9, none⟩ = some (.int .i64 s.a.ep) := h.b.at_ 9
  have lp := h.b.lt
  clear h
  go_enter Tryd.func9, Tryd.ntmps9
  go_wp2
  go_ret
  exact ⟨rfl, rfl⟩
set_option maxHeartbeats 2000000 in
set_option maxRecDepth 100000 in
theorem answer_any (kd fr to cx op id c1 c2 bt ep sq : Int) (a : Option Addr) (l k : Nat) (Y : Array Value) (nn cd vl : Int) (aa : Option Addr) (ll kk : Nat) (hY : DyR Y nn cd vl aa ll kk) :
    Calls Tryd.prog 11 #[.agg (mgC kd fr to cx op id c1 c2 bt ep sq (.slice a l k)), .agg Y] w fun e w' => e = .returned (.agg (anC 10 to fr cx nn op id c1 c2 bt ep sq (.slice a l k) cd vl (.slice aa ll kk))) ∧ Below w.heap.size w w' := by
  obtain ⟨W0, hW0⟩ : ∃ y, y = ((w.alloc (.cells (mgC kd fr to cx op id c1 c2 bt ep sq (.slice a l k)) 51)).alloc (.cells Y 53)).alloc (.cells #[.int .i64 0, .int .i64 0, .int .i64 0, .int .i64 0, .int .i64 0, .int .i64 0, .int .i64 0, .bool false, .int .i64 0, .int .i64 0, .int .i64 0, .int .i64 0, .slice none 0 0, .slice none 0 0, .slice none 0 0, .slice none 0 0, .int .i64 0, .int .i64 0, .int .i64 0, .int .i64 0, .int .i64 0, .int .i64 0, .int .i64 0, .slice none 0 0, .int .i64 0, .bool false, .int .i64 0, .int .i64 0, .int .i64 0, .bool false, .bool false, .int .i64 0, .int .i64 0, .int .i64 0, .slice none 0 0, .int .i64 0, .int .i64 0, .int .i64 0, .slice none 0 0, .slice none 0 0, .bool false, .slice none 0 0, .slice none 0 0, .int .i64 0, .int .i64 0, .slice none 0 0] 51) := ⟨_, rfl⟩
  have hb : Below w.heap.size w W0 := by rw [hW0]; exact (((Below.refl _ w).alloc (Nat.le_refl _) _).alloc (by simp) _).alloc (by simp; omega) _
  have hz : W0.heap.size = w.heap.size + 3 := by rw [hW0]; simp
  have hm : W0.heap[w.heap.size]? = some (.cells (mgC kd fr to cx op id c1 c2 bt ep sq (.slice a l k)) 51 (0, 0)) := by
    rw [hW0]; exact ((below1 _ _).block _ (by simp; omega)).trans (((below1 _ _).block _ (by simp)).trans (heap_alloc_new w _))
  have hy : W0.heap[w.heap.size + 1]? = some (.cells Y 53 (0, 0)) := by
    have := heap_alloc_new (w.alloc (.cells (mgC kd fr to cx op id c1 c2 bt ep sq (.slice a l k)) 51)) (.cells Y 53)
    rw [World.size_alloc] at this
    rw [hW0]; exact ((below1 _ _).block _ (by simp)).trans this
  have hr : W0.heap[w.heap.size + 1 + 1]? = some (.cells #[.int .i64 0, .int .i64 0, .int .i64 0, .int .i64 0, .int .i64 0, .int .i64 0, .int .i64 0, .bool false, .int .i64 0, .int .i64 0, .int .i64 0, .int .i64 0, .slice none 0 0, .slice none 0 0, .slice none 0 0, .slice none 0 0, .int .i64 0, .int .i64 0, .int .i64 0, .int .i64 0, .int .i64 0, .int .i64 0, .int .i64 0, .slice none 0 0, .int .i64 0, .bool false, .int .i64 0, .int .i64 0, .int .i64 0, .bool false, .bool false, .int .i64 0, .int .i64 0, .int .i64 0, .slice none 0 0, .int .i64 0, .int .i64 0, .int .i64 0, .slice none 0 0, .slice none 0 0, .bool false, .slice none 0 0, .slice none 0 0, .int .i64 0, .int .i64 0, .slice none 0 0] 51 (0, 0)) := by
    have := heap_alloc_new ((w.alloc (.cells (mgC kd fr to cx op id c1 c2 bt ep sq (.slice a l k)) 51)).alloc (.cells Y 53)) (.cells #[.int .i64 0, .int .i64 0, .int .i64 0, .int .i64 0, .int .i64 0, .int .i64 0, .int .i64 0, .bool false, .int .i64 0, .int .i64 0, .int .i64 0, .int .i64 0, .slice none 0 0, .slice none 0 0, .slice none 0 0, .slice none 0 0, .int .i64 0, .int .i64 0, .int .i64 0, .int .i64 0, .int .i64 0, .int .i64 0, .int .i64 0, .slice none 0 0, .int .i64 0, .bool false, .int .i64 0, .int .i64 0, .int .i64 0, .bool false, .bool false, .int .i64 0, .int .i64 0, .int .i64 0, .slice none 0 0, .int .i64 0, .int .i64 0, .int .i64 0, .slice none 0 0, .slice none 0 0, .bool false, .slice none 0 0, .slice none 0 0, .int .i64 0, .int .i64 0, .slice none 0 0] 51)
    rw [World.size_alloc, World.size_alloc] at this
    rw [hW0]; exact this
  have HB := hidOf hb
  have HM := hidOf hm
  have HY := hidOf hy
  have HR := hidOf hr
  have HDY := hidOf hY
  have HZ := hidOf hz
  have m1 : W0.cell? ⟨w.heap.size, 1, none⟩ = some (.int .i64 fr) := (cell_of_row _ _ 1 _ 51 (0, 0) hm).trans rfl
  have m2 : W0.cell? ⟨w.heap.size, 2, none⟩ = some (.int .i64 to) := (cell_of_row _ _ 2 _ 51 (0, 0) hm).trans rfl
  have m8 : W0.cell? ⟨w.heap.size, 8, none⟩ = some (.int .i64 cx) := (cell_of_row _ _ 8 _ 51 (0, 0) hm).trans rfl
  have y1 : W0.cell? ⟨w.heap.size + 1, 1, none⟩ = some (.int .i64 nn) := (cell_of_row _ _ 1 _ 53 (0, 0) hy).trans hY.f1
  have HRG : Hid (W0.rangeAt w.heap.size 16 (cmC op id c1 c2 bt ep sq (.slice a l k)).toList) := hidOf (fun j v hv => by
    have hj : j < 27 := (List.getElem?_eq_some_iff.1 hv).1
    rw [cell_of_row _ _ (16 + j) _ 51 (0, 0) hm, ← hv]
    rcases j with _ | _ | _ | _ | _ | _ | _ | _ | _ | _ | _ | _ | _ | _ | _ | _ | _ | _ | _ | _ | _ | _ | _ | _ | _ | _ | _ | j <;> first | rfl | omega)
  have HFZ : Hid (∀ j, W0.frozen? ⟨w.heap.size + 1 + 1, j, none⟩ = false) := hidOf (fun j => by simp [World.frozen?, hr])
  clear hb hz hm hy hr hY
  go_enter Tryd.func11, Tryd.ntmps11
  go_upto_region 1 with (fail)
  rw [← hW0]
  clear hW0
  go_upto_region 2 with (first | (refine wpList_load_mid rfl 47 (.tmp 12) rfl w.heap.size 16 rfl (cmC op id c1 c2 bt ep sq (.slice a l k)).toList _ HRG.out Tryd.underlying47 rfl info47 ?_) | (refine wpList_buildE rfl 51 #[(0, .const (.int .i64 10)), (1, .tmp 7), (2, .tmp 9), (8, .tmp 11), (15, .tmp 13), (11, .tmp 15)] rfl [(0, .int .i64 10), (1, .int .i64 to), (2, .int .i64 fr), (8, .int .i64 cx), (15, .agg (cmC op id c1 c2 bt ep sq (.slice a l k))), (11, .int .i64 nn)] (by kernel_rfl) _ (built51a ..) ?_) | (refine wpList_store_row rfl 51 (.tmp 5) (.tmp 16) rfl W0.heap.size (anC 10 to fr cx nn op id c1 c2 bt ep sq (.slice a l k) 0 0 nilS) rfl rfl 51 #[.int .i64 0, .int .i64 0, .int .i64 0, .int .i64 0, .int .i64 0, .int .i64 0, .int .i64 0, .bool false, .int .i64 0, .int .i64 0, .int .i64 0, .int .i64 0, .slice none 0 0, .slice none 0 0, .slice none 0 0, .slice none 0 0, .int .i64 0, .int .i64 0, .int .i64 0, .int .i64 0, .int .i64 0, .int .i64 0, .int .i64 0, .slice none 0 0, .int .i64 0, .bool false, .int .i64 0, .int .i64 0, .int .i64 0, .bool false, .bool false, .int .i64 0, .int .i64 0, .int .i64 0, .slice none 0 0, .int .i64 0, .int .i64 0, .int .i64 0, .slice none 0 0, .slice none 0 0, .bool false, .slice none 0 0, .slice none 0 0, .int .i64 0, .int .i64 0, .slice none 0 0] (heap_alloc_new W0 _) info51 rfl (an_all ..) ?_))
  obtain ⟨V, hV⟩ : ∃ y, y = (W0.alloc (.cells #[.int .i64 0, .int .i64 0, .int .i64 0, .int .i64 0, .int .i64 0, .int .i64 0, .int .i64 0, .bool false, .int .i64 0, .int .i64 0, .int .i64 0, .int .i64 0, .slice none 0 0, .slice none 0 0, .slice none 0 0, .slice none 0 0, .int .i64 0, .int .i64 0, .int .i64 0, .int .i64 0, .int .i64 0, .int .i64 0, .int .i64 0, .slice none 0 0, .int .i64 0, .bool false, .int .i64 0, .int .i64 0, .int .i64 0, .bool false, .bool false, .int .i64 0, .int .i64 0, .int .i64 0, .slice none 0 0, .int .i64 0, .int .i64 0, .int .i64 0, .slice none 0 0, .slice none 0 0, .bool false, .slice none 0 0, .slice none 0 0, .int .i64 0, .int .i64 0, .slice none 0 0] 51)).setRow W0.heap.size (anC 10 to fr cx nn op id c1 c2 bt ep sq (.slice a l k) 0 0 nilS) := ⟨_, rfl⟩
  have hu : Upd (W0.alloc (.cells #[.int .i64 0, .int .i64 0, .int .i64 0, .int .i64 0, .int .i64 0, .int .i64 0, .int .i64 0, .bool false, .int .i64 0, .int .i64 0, .int .i64 0, .int .i64 0, .slice none 0 0, .slice none 0 0, .slice none 0 0, .slice none 0 0, .int .i64 0, .int .i64 0, .int .i64 0, .int .i64 0, .int .i64 0, .int .i64 0, .int .i64 0, .slice none 0 0, .int .i64 0, .bool false, .int .i64 0, .int .i64 0, .int .i64 0, .bool false, .bool false, .int .i64 0, .int .i64 0, .int .i64 0, .slice none 0 0, .int .i64 0, .int .i64 0, .int .i64 0, .slice none 0 0, .slice none 0 0, .bool false, .slice none 0 0, .slice none 0 0, .int .i64 0, .int .i64 0, .slice none 0 0] 51)) V W0.heap.size := by rw [hV]; exact Upd.row _ _ _
  have hk : ∀ k, k < W0.heap.size → V.heap[k]? = W0.heap[k]? := fun k hk => (hu.block k (by simp; omega) (by omega)).trans ((below1 W0 _).block k hk)
  have HVM : Hid (V.heap[W0.heap.size]? = some (.cells (anC 10 to fr cx nn op id c1 c2 bt ep sq (.slice a l k) 0 0 nilS) 51 (0, 0))) := hidOf (by rw [hV]; exact setRow_at (heap_alloc_new W0 _))
  have HVR : Hid (V.heap[w.heap.size + 1 + 1]? = some (.cells #[.int .i64 0, .int .i64 0, .int .i64 0, .int .i64 0, .int .i64 0, .int .i64 0, .int .i64 0, .bool false, .int .i64 0, .int .i64 0, .int .i64 0, .int .i64 0, .slice none 0 0, .slice none 0 0, .slice none 0 0, .slice none 0 0, .int .i64 0, .int .i64 0, .int .i64 0, .int .i64 0, .int .i64 0, .int .i64 0, .int .i64 0, .slice none 0 0, .int .i64 0, .bool false, .int .i64 0, .int .i64 0, .int .i64 0, .bool false, .bool false, .int .i64 0, .int .i64 0, .int .i64 0, .slice none 0 0, .int .i64 0, .int .i64 0, .int .i64 0, .slice none 0 0, .slice none 0 0, .bool false, .slice none 0 0, .slice none 0 0, .int .i64 0, .int .i64 0, .slice none 0 0] 51 (0, 0))) := hidOf ((hk _ (heap_lt HR.out)).trans HR.out)
  have hvy := (hk _ (heap_lt HY.out)).trans HY.out
  have y3 : V.cell? ⟨w.heap.size + 1, 3, none⟩ = some (.int .i64 cd) := (cell_of_row _ _ 3 _ 53 (0, 0) hvy).trans HDY.out.f3
  have y4 : V.cell? ⟨w.heap.size + 1, 4, none⟩ = some (.int .i64 vl) := (cell_of_row _ _ 4 _ 53 (0, 0) hvy).trans HDY.out.f4
  have y5 : V.cell? ⟨w.heap.size + 1, 5, none⟩ = some (.slice aa ll kk) := (cell_of_row _ _ 5 _ 53 (0, 0) hvy).trans HDY.out.f5
  have HBV : Hid (Below w.heap.size w V) := hidOf (by rw [hV]; exact setRow_below (HB.out.alloc HB.out.size _) HB.out.size)
  have HSV : Hid (W0.heap.size < V.heap.size) := hidOf (heap_lt HVM.out)
  have hne : w.heap.size + 1 + 1 ≠ W0.heap.size := by have := HZ.out; omega
  have hle : w.heap.size ≤ W0.heap.size := by have := HZ.out; omega
  rw [← hV]
  clear hV hu hk hvy m1 m2 m8 y1
  go_upto_region 3 with (first | (refine wpList_buildE rfl 49 #[(0, .tmp 18), (1, .tmp 20), (2, .tmp 22)] rfl [(0, .int .i64 cd), (1, .int .i64 vl), (2, .slice aa ll kk)] (by kernel_rfl) _ (built49 ..) ?_) | (refine wpList_store_mid rfl 49 (.tmp 24) (.tmp 23) rfl W0.heap.size 43 (rsC cd vl (.slice aa ll kk)) rfl rfl (there_row HVM.out (show 43 + 3 ≤ 46 by decide)) info49 (rs_all ..) ?_))
  obtain ⟨U, hU⟩ : ∃ y, y = V.setCells W0.heap.size 43 (rsC cd vl (.slice aa ll kk)).toList := ⟨_, rfl⟩
  have HUM : Hid (U.heap[W0.heap.size]? = some (.cells (anC 10 to fr cx nn op id c1 c2 bt ep sq (.slice a l k) cd vl (.slice aa ll kk)) 51 (0, 0))) := hidOf (by rw [hU]; have := setCells_row W0.heap.size 51 (rsC cd vl (.slice aa ll kk)).toList 43 V _ HVM.out; rw [setAll_rs] at this; exact this)
  have hu : Upd V U W0.heap.size := by rw [hU]; exact Upd.cells _ _ _ _
  have HUR : Hid (U.heap[w.heap.size + 1 + 1]? = some (.cells #[.int .i64 0, .int .i64 0, .int .i64 0, .int .i64 0, .int .i64 0, .int .i64 0, .int .i64 0, .bool false, .int .i64 0, .int .i64 0, .int .i64 0, .int .i64 0, .slice none 0 0, .slice none 0 0, .slice none 0 0, .slice none 0 0, .int .i64 0, .int .i64 0, .int .i64 0, .int .i64 0, .int .i64 0, .int .i64 0, .int .i64 0, .slice none 0 0, .int .i64 0, .bool false, .int .i64 0, .int .i64 0, .int .i64 0, .bool false, .bool false, .int .i64 0, .int .i64 0, .int .i64 0, .slice none 0 0, .int .i64 0, .int .i64 0, .int .i64 0, .slice none 0 0, .slice none 0 0, .bool false, .slice none 0 0, .slice none 0 0, .int .i64 0, .int .i64 0, .slice none 0 0] 51 (0, 0))) := hidOf ((hu.block _ (heap_lt HVR.out) hne).trans HVR.out)
  have HBU : Hid (Below w.heap.size w U) := hidOf ⟨hu.os.trans HBV.out.os, hu.tape.trans HBV.out.tape, hu.output.trans HBV.out.output, Nat.le_trans HBV.out.size hu.size, fun k hk => (hu.block k (Nat.lt_of_lt_of_le hk HBV.out.size) (by omega)).trans (HBV.out.block k hk)⟩
  rw [← hU]
  clear hU hu
  refine wp_region_lit ?_
  refine wpList_load_row rfl 51 (.tmp 5) rfl W0.heap.size rfl 51 (anC 10 to fr cx nn op id c1 c2 bt ep sq (.slice a l k) cd vl (.slice aa ll kk)) (0, 0) _ HUM.out Tryd.underlying51 rfl info51 ?_
  try simp only [Act.put, List.setIfInBounds_toArray, List.set_cons_zero, List.set_cons_succ]
  refine wpList_store_row rfl 51 (.tmp 4) (.tmp 25) rfl (w.heap.size + 1 + 1) (anC 10 to fr cx nn op id c1 c2 bt ep sq (.slice a l k) cd vl (.slice aa ll kk)) rfl rfl 51 #[.int .i64 0, .int .i64 0, .int .i64 0, .int .i64 0, .int .i64 0, .int .i64 0, .int .i64 0, .bool false, .int .i64 0, .int .i64 0, .int .i64 0, .int .i64 0, .slice none 0 0, .slice none 0 0, .slice none 0 0, .slice none 0 0, .int .i64 0, .int .i64 0, .int .i64 0, .int .i64 0, .int .i64 0, .int .i64 0, .int .i64 0, .slice none 0 0, .int .i64 0, .bool false, .int .i64 0, .int .i64 0, .int .i64 0, .bool false, .bool false, .int .i64 0, .int .i64 0, .int .i64 0, .slice none 0 0, .int .i64 0, .int .i64 0, .int .i64 0, .slice none 0 0, .slice none 0 0, .bool false, .slice none 0 0, .slice none 0 0, .int .i64 0, .int .i64 0, .slice none 0 0] HUR.out info51 rfl (an_all ..) ?_
  try simp only [Act.put]
  obtain ⟨E, hE⟩ : ∃ y, y = U.setRow (w.heap.size + 1 + 1) (anC 10 to fr cx nn op id c1 c2 bt ep sq (.slice a l k) cd vl (.slice aa ll kk)) := ⟨_, rfl⟩
  have HRE : Hid (E.heap[w.heap.size + 1 + 1]? = some (.cells (anC 10 to fr cx nn op id c1 c2 bt ep sq (.slice a l k) cd vl (.slice aa ll kk)) 51 (0, 0))) := hidOf (by rw [hE]; exact setRow_at HUR.out)
  have HBE : Hid (Below w.heap.size w E) := hidOf (by rw [hE]; exact setRow_below HBU.out (by omega))
  rw [← hE]
  clear hE
  go_wp2
  refine bodyPost_ret (results_cell1 Tryd.results11 _ _ (w.heap.size + 1 + 1) 51 (anC 10 to fr cx nn op id c1 c2 bt ep sq (.slice a l k) cd vl (.slice aa ll kk)) (0, 0) _ rfl HRE.out Tryd.underlying51 rfl info51) rfl ?_
  exact ⟨rfl, HBE.out⟩
end Go.Proofs.YtkienmncifonnaaDoor
