/- The law of two commands: they have the same bytes just if they are the same. Made by program (wip/gen/apart.py). -/
import Derived.Test.YtpbokgeaolpiaabVpw
import Derived.Test.YtpbokgeaolpiaabVpo
import Derived.Test.YtpbokgeaolpiaabKnow
import Derived.Test.YtpbokgeaolpiaabRby
namespace Go.Proofs.Ytpbokgeaolpiaab
open Go.RowKit

/- what may be written has not more bytes than a record has at most -/
theorem sum_le {α : Type} (m : α → Nat) (k : Nat) (vs : List α) (h : ∀ x ∈ vs, m x ≤ k) : (vs.map m).sum ≤ vs.length * k := by
  induction vs with
  | nil => simp
  | cons v vs ih => rw [List.map_cons, List.sum_cons, List.length_cons, Nat.add_mul]; have := h v (by simp); have := ih (fun x hx => h x (by simp [hx])); omega
theorem szb_mx (f : Fm) (v : Vl f) (h : (en f v).2 = false) : szb f v ≤ mx f := by
  induction f with
  | num => exact Nat.le_refl 6
  | tru => exact Nat.le_refl 6
  | byt =>
    have h' : (if (v : List UInt8).length ≤ 65536 then (enc ((v : List UInt8).length : Int) ++ v, false) else ([], true) : List UInt8 × Bool).2 = false := h
    show 6 + (v : List UInt8).length ≤ 65542
    by_cases hv : (v : List UInt8).length ≤ 65536
    · omega
    · rw [if_neg hv] at h'; cases h'
  | lst f ih =>
    have h' : (if (v : List (Vl f)).length ≤ 64 then (enc ((v : List (Vl f)).length : Int) ++ (v : List (Vl f)).flatMap fun v => (en f v).1, (v : List (Vl f)).any fun v => (en f v).2) else ([], true) : List UInt8 × Bool).2 = false := h
    show 6 + ((v : List (Vl f)).map fun v => szb f v).sum ≤ 6 + 64 * mx f
    by_cases hv : (v : List (Vl f)).length ≤ 64
    · rw [if_pos hv] at h'
      have h2 : (v : List (Vl f)).any (fun v => (en f v).2) = false := h'
      have := sum_le (fun v => szb f v) (mx f) v (fun x hx => ih x (by have := List.any_eq_false.1 h2 x hx; simpa using this))
      have : (v : List (Vl f)).length * mx f ≤ 64 * mx f := Nat.mul_le_mul_right _ hv
      omega
    · rw [if_neg hv] at h'; cases h'
  | cat a b iha ihb =>
    have h' : ((en a v.1).2 || (en b v.2).2) = false := h
    rw [Bool.or_eq_false_iff] at h'
    show szb a v.1 + szb b v.2 ≤ mx a + mx b
    have := iha v.1 h'.1
    have := ihb v.2 h'.2
    omega
theorem setCell_row {w : World} {g : Nat} {cs : Array Value} {ty : TypeId} {fr : Nat × Nat} (off : Nat) (v : Value) (h : w.heap[g]? = some (.cells cs ty fr)) : (w.setCell ⟨g, off, none⟩ v).heap[g]? = some (.cells (cs.setIfInBounds off v) ty fr) := by
  simp [World.setCell, Array.getElem?_modify, h]
theorem info_cmdA : (Try.prog.info? 65).map (·.size) = some (wd F_cmd) := by kernel_rfl
theorem mx_cmdA : mx F_cmd ≤ 137438953472 := by decide +kernel

set_option maxHeartbeats 2000000 in
set_option maxRecDepth 100000 in
theorem lawApartFFF (W : World) (ca cb cc : List Value) (x0 x1 x2 n : Int) (rest : List Value) (va vb vc : Vl F_cmd) (hca : Hid (ca = .int .i64 x0 :: .int .i64 x1 :: .int .i64 x2 :: rest)) (hcc : Hid (cc = .int .i64 x0 :: .int .i64 x1 :: .int .i64 n :: rest))
    (ha : Rep W (fun b => b < W.heap.size) F_cmd ca va) (hb : Rep W (fun b => b < W.heap.size) F_cmd cb vb) (hc : Rep W (fun b => b < W.heap.size) F_cmd cc vc)
    (HVC : Hid ((va = vc) = (x2 = n))) (HFA : Hid ((en F_cmd va).2 = false)) (HFB : Hid ((en F_cmd vb).2 = false)) (HFC : Hid ((en F_cmd vc).2 = false)) :
    Calls Try.prog 6 #[.agg ca.toArray, .agg cb.toArray, .int .i64 n] W fun e w' => e = .returned (.bool true) ∧ Below W.heap.size W w' := by
  have BA : Below W.heap.size W ((W.alloc (.cells ca.toArray 65)).alloc (.cells cb.toArray 65)) := ((Below.refl _ _).alloc (Nat.le_refl _) _).alloc (by rw [World.size_alloc]; omega) _
  have g0 : Hid (((W.alloc (.cells ca.toArray 65)).alloc (.cells cb.toArray 65)).heap[W.heap.size]? = some (.cells ca.toArray 65 (0, 0))) := by
    show _ = _
    rw [Below.heap_alloc _ _ _ (by rw [World.size_alloc]; omega)]; exact heap_alloc_new W _
  have g1 : Hid (((W.alloc (.cells ca.toArray 65)).alloc (.cells cb.toArray 65)).heap[W.heap.size + 1]? = some (.cells cb.toArray 65 (0, 0))) := by
    show _ = _
    have := heap_alloc_new (W.alloc (.cells ca.toArray 65)) (.cells cb.toArray 65)
    rw [World.size_alloc] at this
    exact this
  have zA : ((W.alloc (.cells ca.toArray 65)).alloc (.cells cb.toArray 65)).heap.size = W.heap.size + 2 := by rw [World.size_alloc, World.size_alloc]
  have IA : Hid ((Try.prog.info? 65).map (·.size) = some ca.toArray.size) := by show _ = _; rw [List.size_toArray, ha.len]; exact info_cmdA
  have IB : Hid ((Try.prog.info? 65).map (·.size) = some cb.toArray.size) := by show _ = _; rw [List.size_toArray, hb.len]; exact info_cmdA
  have IC : Hid ((Try.prog.info? 65).map (·.size) = some cc.toArray.size) := by show _ = _; rw [List.size_toArray, hc.len]; exact info_cmdA
  have OA : Hid (ca.toArray.all (·.oneCell') = true) := ha.all
  have SZ : Hid ((#[.int .i64 0, .int .i64 0, .int .i64 0, .int .i64 0, .int .i64 0, .int .i64 0, .int .i64 0, .slice none 0 0, .int .i64 0, .bool false, .int .i64 0, .int .i64 0, .int .i64 0, .bool false, .bool false, .int .i64 0, .int .i64 0, .int .i64 0, .slice none 0 0, .int .i64 0, .int .i64 0, .int .i64 0, .slice none 0 0, .slice none 0 0, .bool false, .slice none 0 0, .slice none 0 0] : Array Value).size = ca.toArray.size) := by
    have h27 : ca.toArray.size = 27 := by rw [List.size_toArray]; exact ha.len
    exact h27.symm
  have reps : Hid (∀ w', Below W.heap.size W w' → Rep w' (fun b => b < w'.heap.size) F_cmd ca va ∧ Rep w' (fun b => b < w'.heap.size) F_cmd cb vb ∧ Rep w' (fun b => b < w'.heap.size) F_cmd cc vc) := fun w' bw =>
    have m : ∀ b, b < W.heap.size → b < w'.heap.size := fun b hb => Nat.lt_of_lt_of_le hb bw.size
    ⟨ha.kept bw.size (fun b hb => bw.block b hb) m, hb.kept bw.size (fun b hb => bw.block b hb) m, hc.kept bw.size (fun b hb => bw.block b hb) m⟩
  have HBA : Hid _ := BA
  have T0 : Below ((W.alloc (.cells ca.toArray 65)).alloc (.cells cb.toArray 65)).heap.size ((W.alloc (.cells ca.toArray 65)).alloc (.cells cb.toArray 65)) ((W.alloc (.cells ca.toArray 65)).alloc (.cells cb.toArray 65)) := Below.refl _ _
  clear ha hb hc BA
  go_enter Try.func6, Try.ntmps6
  have G : Hid (((W.alloc (.cells ca.toArray 65)).alloc (.cells cb.toArray 65)).heap[W.heap.size]? = some (.cells ca.toArray 65 (0, 0))) := (T0.block _ (by omega)).trans g0.out
  go_wp2_with (refine wpList_load_row rfl 65 (.tmp 3) rfl (W.heap.size) rfl 65 ca.toArray (0, 0) _ G.out Try.underlying65 rfl IA.out ?_)
  refine (putCmd_w ca va _ (reps.out _ (HBA.out.trans (T0.mono (by omega)))).1).mono ?_
  clear G
  rintro e w1 ⟨val, he, oX, _, b1⟩
  simp only [codeB, bytesB, HFA.out, Bool.false_eq_true, if_false] at he oX
  obtain ⟨aX, cX, hv, hbsX⟩ := oX.form
  subst hv
  replace hbsX := hbsX (Nat.le_trans (Nat.le_trans (en_len F_cmd _) mx_cmdA) (by omega))
  subst he
  have T1 := T0.trans (b1.mono T0.size)
  clear T0 b1 oX
  have G : Hid (w1.heap[W.heap.size + 1]? = some (.cells cb.toArray 65 (0, 0))) := (T1.block _ (by omega)).trans g1.out
  go_wp2_with (refine wpList_load_row rfl 65 (.tmp 4) rfl (W.heap.size + 1) rfl 65 cb.toArray (0, 0) _ G.out Try.underlying65 rfl IB.out ?_)
  refine (putCmd_w cb vb _ (reps.out _ (HBA.out.trans (T1.mono (by omega)))).2.1).mono ?_
  clear G
  rintro e w2 ⟨val, he, oY, _, b2⟩
  simp only [codeB, bytesB, HFB.out, Bool.false_eq_true, if_false] at he oY
  obtain ⟨aY, cY, hv, hbsY⟩ := oY.form
  subst hv
  replace hbsY := hbsY (Nat.le_trans (Nat.le_trans (en_len F_cmd _) mx_cmdA) (by omega))
  subst he
  have T2 := T1.trans (b2.mono T1.size)
  replace hbsX := hbsX.grow b2
  clear T1 b2 oY
  go_wp2_with fail
  refine (same_any aX aY _ _ cX cY (en F_cmd va).1 (en F_cmd vb).1 _ rfl rfl hbsX hbsY).mono ?_
  rintro e w3 ⟨rfl, nq, hw3⟩
  have b3 : Below w2.heap.size w2 w3 := by rw [hw3]; exact ⟨rfl, rfl, rfl, Nat.le_refl _, fun _ _ => rfl⟩
  have T3 := T2.trans (b3.mono T2.size)
  replace hbsX := hbsX.grow b3
  replace hbsY := hbsY.grow b3
  clear T2 b3 hw3
  have G : Hid (w3.heap[W.heap.size]? = some (.cells ca.toArray 65 (0, 0))) := (T3.block _ (by omega)).trans g0.out
  go_wp2_with (refine wpList_load_row rfl 65 (.tmp 3) rfl (W.heap.size) rfl 65 ca.toArray (0, 0) _ G.out Try.underlying65 rfl IA.out ?_)
  refine (putCmd_o ca va _ (Nat.le_trans (szb_mx F_cmd va HFA.out) mx_cmdA) (reps.out _ (HBA.out.trans (T3.mono (by omega)))).1).mono ?_
  clear G
  rintro e w4 ⟨val, he, oP, _, b4⟩
  simp only [codeB, bytesB, HFA.out, Bool.false_eq_true, if_false] at he oP
  obtain ⟨aP, cP, hv, hbsP⟩ := oP.form
  subst hv
  replace hbsP := hbsP (Nat.le_trans (Nat.le_trans (en_len F_cmd _) mx_cmdA) (by omega))
  subst he
  have T4 := T3.trans (b4.mono T3.size)
  replace hbsX := hbsX.grow b4
  replace hbsY := hbsY.grow b4
  clear T3 b4 oP
  have G : Hid (w4.heap[W.heap.size + 1]? = some (.cells cb.toArray 65 (0, 0))) := (T4.block _ (by omega)).trans g1.out
  go_wp2_with (refine wpList_load_row rfl 65 (.tmp 4) rfl (W.heap.size + 1) rfl 65 cb.toArray (0, 0) _ G.out Try.underlying65 rfl IB.out ?_)
  refine (putCmd_o cb vb _ (Nat.le_trans (szb_mx F_cmd vb HFB.out) mx_cmdA) (reps.out _ (HBA.out.trans (T4.mono (by omega)))).2.1).mono ?_
  clear G
  rintro e w5 ⟨val, he, oQ, _, b5⟩
  simp only [codeB, bytesB, HFB.out, Bool.false_eq_true, if_false] at he oQ
  obtain ⟨aQ, cQ, hv, hbsQ⟩ := oQ.form
  subst hv
  replace hbsQ := hbsQ (Nat.le_trans (Nat.le_trans (en_len F_cmd _) mx_cmdA) (by omega))
  subst he
  have T5 := T4.trans (b5.mono T4.size)
  replace hbsX := hbsX.grow b5
  replace hbsY := hbsY.grow b5
  replace hbsP := hbsP.grow b5
  clear T4 b5 oQ
  go_wp2_with fail
  refine (same_any aP aQ _ _ cP cQ (en F_cmd va).1 (en F_cmd vb).1 _ rfl rfl hbsP hbsQ).mono ?_
  rintro e w6 ⟨rfl, nq, hw6⟩
  have b6 : Below w5.heap.size w5 w6 := by rw [hw6]; exact ⟨rfl, rfl, rfl, Nat.le_refl _, fun _ _ => rfl⟩
  have T6 := T5.trans (b6.mono T5.size)
  replace hbsX := hbsX.grow b6
  replace hbsY := hbsY.grow b6
  replace hbsP := hbsP.grow b6
  replace hbsQ := hbsQ.grow b6
  clear T5 b6 hw6
  generalize HSW : decide ((en F_cmd va).1 = (en F_cmd vb).1) = sw
  clear HSW
  have G : Hid (w6.heap[W.heap.size]? = some (.cells ca.toArray 65 (0, 0))) := (T6.block _ (by omega)).trans g0.out
  go_wp2_with (first
    | refine wpList_load_row rfl 65 (.tmp 3) rfl W.heap.size rfl 65 ca.toArray (0, 0) _ G.out Try.underlying65 rfl IA.out ?_
    | refine wpList_store_rowF rfl 65 (.tmp 17) (.tmp 56) rfl w6.heap.size ca.toArray rfl rfl 65 #[.int .i64 0, .int .i64 0, .int .i64 0, .int .i64 0, .int .i64 0, .int .i64 0, .int .i64 0, .slice none 0 0, .int .i64 0, .bool false, .int .i64 0, .int .i64 0, .int .i64 0, .bool false, .bool false, .int .i64 0, .int .i64 0, .int .i64 0, .slice none 0 0, .int .i64 0, .int .i64 0, .int .i64 0, .slice none 0 0, .slice none 0 0, .bool false, .slice none 0 0, .slice none 0 0] (heap_alloc_new w6 (.cells #[.int .i64 0, .int .i64 0, .int .i64 0, .int .i64 0, .int .i64 0, .int .i64 0, .int .i64 0, .slice none 0 0, .int .i64 0, .bool false, .int .i64 0, .int .i64 0, .int .i64 0, .bool false, .bool false, .int .i64 0, .int .i64 0, .int .i64 0, .slice none 0 0, .int .i64 0, .int .i64 0, .int .i64 0, .slice none 0 0, .slice none 0 0, .bool false, .slice none 0 0, .slice none 0 0] 65)) IA.out SZ.out OA.out ?next)
  case next =>
  intro u hu
  have BU : Below w6.heap.size w6 u := by
    rw [hu.out]
    exact ((Below.refl _ _).alloc (Nat.le_refl _) _).trans ⟨rfl, rfl, rfl, by simp [World.setRow], fun kk hkk => setRow_other _ _ _ _ (by omega)⟩
  have gu : u.heap[w6.heap.size]? = some (.cells ca.toArray 65 (0, 0)) := by
    rw [hu.out]; exact setRow_heap _ _ _ _ 65 _ (heap_alloc_new w6 (.cells #[.int .i64 0, .int .i64 0, .int .i64 0, .int .i64 0, .int .i64 0, .int .i64 0, .int .i64 0, .slice none 0 0, .int .i64 0, .bool false, .int .i64 0, .int .i64 0, .int .i64 0, .bool false, .bool false, .int .i64 0, .int .i64 0, .int .i64 0, .slice none 0 0, .int .i64 0, .int .i64 0, .int .i64 0, .slice none 0 0, .slice none 0 0, .bool false, .slice none 0 0, .slice none 0 0] 65))
  have hcu : u.cell? ⟨w6.heap.size, 2, none⟩ = some (.int .i64 x2) := by
    rw [cell_of_row u _ _ _ 65 (0, 0) gu, hca.out]; rfl
  have hfu : u.frozen? ⟨w6.heap.size, 2, none⟩ = false := by
    simp [World.frozen?, gu]
  have GU : Hid ((u.setCell ⟨w6.heap.size, 2, none⟩ (.int .i64 n)).heap[w6.heap.size]? = some (.cells cc.toArray 65 (0, 0))) := by
    show _ = _
    rw [setCell_row 2 _ gu, hca.out, hcc.out]; rfl
  have BU2 : Hid (Below w6.heap.size w6 (u.setCell ⟨w6.heap.size, 2, none⟩ (.int .i64 n))) := BU.trans ⟨rfl, rfl, rfl, by simp, fun k hk => Below.heap_setCell u ⟨w6.heap.size, 2, none⟩ _ k (Nat.ne_of_lt hk)⟩
  clear hu gu BU G
  go_wp2_with (refine wpList_load_row rfl 65 (.tmp 17) rfl w6.heap.size rfl 65 cc.toArray (0, 0) _ GU.out Try.underlying65 rfl IC.out ?_)
  refine (putCmd_w cc vc _ (reps.out _ (HBA.out.trans ((T6.trans (BU2.out.mono T6.size)).mono (by omega)))).2.2).mono ?_
  rintro e w7 ⟨val, he, oZ, _, bz⟩
  simp only [codeB, bytesB, HFC.out, Bool.false_eq_true, if_false] at he oZ
  obtain ⟨aZ, cZ, hv, hbsZ⟩ := oZ.form
  subst hv
  replace hbsZ := hbsZ (Nat.le_trans (Nat.le_trans (en_len F_cmd _) mx_cmdA) (by omega))
  subst he
  have b7 := BU2.out.trans (bz.mono BU2.out.size)
  have T7 := T6.trans (b7.mono T6.size)
  replace hbsX := hbsX.grow b7
  replace hbsY := hbsY.grow b7
  replace hbsP := hbsP.grow b7
  replace hbsQ := hbsQ.grow b7
  clear T6 b7 oZ bz BU2 GU hcu hfu
  go_wp2_with fail
  refine (same_any aX aZ _ _ cX cZ (en F_cmd va).1 (en F_cmd vc).1 _ rfl rfl hbsX hbsZ).mono ?_
  rintro e w8 ⟨rfl, nq, hw8⟩
  have b8 : Below w7.heap.size w7 w8 := by rw [hw8]; exact ⟨rfl, rfl, rfl, Nat.le_refl _, fun _ _ => rfl⟩
  have T8 := T7.trans (b8.mono T7.size)
  replace hbsX := hbsX.grow b8
  replace hbsY := hbsY.grow b8
  replace hbsP := hbsP.grow b8
  replace hbsQ := hbsQ.grow b8
  replace hbsZ := hbsZ.grow b8
  clear T7 b8 hw8
  have hq : w8.cell? ⟨W.heap.size, 2, none⟩ = some (.int .i64 x2) := by
    rw [cell_of_row w8 _ _ _ 65 (0, 0) ((T8.block _ (by omega)).trans g0.out), hca.out]; rfl
  have BW := HBA.out.trans (T8.mono (by omega))
  clear hbsX hbsY hbsP hbsQ hbsZ
  have HS : Hid (decide ((en F_cmd va).1 = (en F_cmd vc).1) = decide (n = x2)) := by
    show _ = _
    have : ((en F_cmd va).1 = (en F_cmd vc).1) = (n = x2) := by
      rw [show (n = x2) = (x2 = n) from propext ⟨Eq.symm, Eq.symm⟩, ← HVC.out]
      exact propext ⟨fun h => en_inj F_cmd va vc HFA.out HFC.out h, fun h => by rw [h]⟩
    simp only [this]
  rw [HS.out]
  by_cases hn : n = x2
  · subst hn
    simp only [decide_true]
    go_wp2_with fail
    refine (known_any w8).mono ?_
    rintro e w' ⟨rfl, bk⟩
    go_wp2
    go_ret
    exact ⟨rfl, BW.trans (bk.mono BW.size)⟩
  · have hb1 : decide (n = x2) = false := decide_eq_false hn
    have hb2 : (n == x2) = false := by simpa using hn
    rw [hb1]
    go_wp2_with fail
    refine (known_any w8).mono ?_
    rintro e w' ⟨rfl, bk⟩
    go_wp2
    go_ret
    exact ⟨rfl, BW.trans (bk.mono BW.size)⟩

set_option maxHeartbeats 2000000 in
set_option maxRecDepth 100000 in
theorem lawApartFFT (W : World) (ca cb cc : List Value) (x0 x1 x2 n : Int) (rest : List Value) (va vb vc : Vl F_cmd) (hca : Hid (ca = .int .i64 x0 :: .int .i64 x1 :: .int .i64 x2 :: rest)) (hcc : Hid (cc = .int .i64 x0 :: .int .i64 x1 :: .int .i64 n :: rest))
    (ha : Rep W (fun b => b < W.heap.size) F_cmd ca va) (hb : Rep W (fun b => b < W.heap.size) F_cmd cb vb) (hc : Rep W (fun b => b < W.heap.size) F_cmd cc vc)
    (_ : Hid ((va = vc) = (x2 = n))) (HFA : Hid ((en F_cmd va).2 = false)) (HFB : Hid ((en F_cmd vb).2 = false)) (HFC : Hid ((en F_cmd vc).2 = true)) :
    Calls Try.prog 6 #[.agg ca.toArray, .agg cb.toArray, .int .i64 n] W fun e w' => e = .returned (.bool true) ∧ Below W.heap.size W w' := by
  have BA : Below W.heap.size W ((W.alloc (.cells ca.toArray 65)).alloc (.cells cb.toArray 65)) := ((Below.refl _ _).alloc (Nat.le_refl _) _).alloc (by rw [World.size_alloc]; omega) _
  have g0 : Hid (((W.alloc (.cells ca.toArray 65)).alloc (.cells cb.toArray 65)).heap[W.heap.size]? = some (.cells ca.toArray 65 (0, 0))) := by
    show _ = _
    rw [Below.heap_alloc _ _ _ (by rw [World.size_alloc]; omega)]; exact heap_alloc_new W _
  have g1 : Hid (((W.alloc (.cells ca.toArray 65)).alloc (.cells cb.toArray 65)).heap[W.heap.size + 1]? = some (.cells cb.toArray 65 (0, 0))) := by
    show _ = _
    have := heap_alloc_new (W.alloc (.cells ca.toArray 65)) (.cells cb.toArray 65)
    rw [World.size_alloc] at this
    exact this
  have zA : ((W.alloc (.cells ca.toArray 65)).alloc (.cells cb.toArray 65)).heap.size = W.heap.size + 2 := by rw [World.size_alloc, World.size_alloc]
  have IA : Hid ((Try.prog.info? 65).map (·.size) = some ca.toArray.size) := by show _ = _; rw [List.size_toArray, ha.len]; exact info_cmdA
  have IB : Hid ((Try.prog.info? 65).map (·.size) = some cb.toArray.size) := by show _ = _; rw [List.size_toArray, hb.len]; exact info_cmdA
  have IC : Hid ((Try.prog.info? 65).map (·.size) = some cc.toArray.size) := by show _ = _; rw [List.size_toArray, hc.len]; exact info_cmdA
  have OA : Hid (ca.toArray.all (·.oneCell') = true) := ha.all
  have SZ : Hid ((#[.int .i64 0, .int .i64 0, .int .i64 0, .int .i64 0, .int .i64 0, .int .i64 0, .int .i64 0, .slice none 0 0, .int .i64 0, .bool false, .int .i64 0, .int .i64 0, .int .i64 0, .bool false, .bool false, .int .i64 0, .int .i64 0, .int .i64 0, .slice none 0 0, .int .i64 0, .int .i64 0, .int .i64 0, .slice none 0 0, .slice none 0 0, .bool false, .slice none 0 0, .slice none 0 0] : Array Value).size = ca.toArray.size) := by
    have h27 : ca.toArray.size = 27 := by rw [List.size_toArray]; exact ha.len
    exact h27.symm
  have reps : Hid (∀ w', Below W.heap.size W w' → Rep w' (fun b => b < w'.heap.size) F_cmd ca va ∧ Rep w' (fun b => b < w'.heap.size) F_cmd cb vb ∧ Rep w' (fun b => b < w'.heap.size) F_cmd cc vc) := fun w' bw =>
    have m : ∀ b, b < W.heap.size → b < w'.heap.size := fun b hb => Nat.lt_of_lt_of_le hb bw.size
    ⟨ha.kept bw.size (fun b hb => bw.block b hb) m, hb.kept bw.size (fun b hb => bw.block b hb) m, hc.kept bw.size (fun b hb => bw.block b hb) m⟩
  have HBA : Hid _ := BA
  have T0 : Below ((W.alloc (.cells ca.toArray 65)).alloc (.cells cb.toArray 65)).heap.size ((W.alloc (.cells ca.toArray 65)).alloc (.cells cb.toArray 65)) ((W.alloc (.cells ca.toArray 65)).alloc (.cells cb.toArray 65)) := Below.refl _ _
  clear ha hb hc BA
  go_enter Try.func6, Try.ntmps6
  have G : Hid (((W.alloc (.cells ca.toArray 65)).alloc (.cells cb.toArray 65)).heap[W.heap.size]? = some (.cells ca.toArray 65 (0, 0))) := (T0.block _ (by omega)).trans g0.out
  go_wp2_with (refine wpList_load_row rfl 65 (.tmp 3) rfl (W.heap.size) rfl 65 ca.toArray (0, 0) _ G.out Try.underlying65 rfl IA.out ?_)
  refine (putCmd_w ca va _ (reps.out _ (HBA.out.trans (T0.mono (by omega)))).1).mono ?_
  clear G
  rintro e w1 ⟨val, he, oX, _, b1⟩
  simp only [codeB, bytesB, HFA.out, Bool.false_eq_true, if_false] at he oX
  obtain ⟨aX, cX, hv, hbsX⟩ := oX.form
  subst hv
  replace hbsX := hbsX (Nat.le_trans (Nat.le_trans (en_len F_cmd _) mx_cmdA) (by omega))
  subst he
  have T1 := T0.trans (b1.mono T0.size)
  clear T0 b1 oX
  have G : Hid (w1.heap[W.heap.size + 1]? = some (.cells cb.toArray 65 (0, 0))) := (T1.block _ (by omega)).trans g1.out
  go_wp2_with (refine wpList_load_row rfl 65 (.tmp 4) rfl (W.heap.size + 1) rfl 65 cb.toArray (0, 0) _ G.out Try.underlying65 rfl IB.out ?_)
  refine (putCmd_w cb vb _ (reps.out _ (HBA.out.trans (T1.mono (by omega)))).2.1).mono ?_
  clear G
  rintro e w2 ⟨val, he, oY, _, b2⟩
  simp only [codeB, bytesB, HFB.out, Bool.false_eq_true, if_false] at he oY
  obtain ⟨aY, cY, hv, hbsY⟩ := oY.form
  subst hv
  replace hbsY := hbsY (Nat.le_trans (Nat.le_trans (en_len F_cmd _) mx_cmdA) (by omega))
  subst he
  have T2 := T1.trans (b2.mono T1.size)
  replace hbsX := hbsX.grow b2
  clear T1 b2 oY
  go_wp2_with fail
  refine (same_any aX aY _ _ cX cY (en F_cmd va).1 (en F_cmd vb).1 _ rfl rfl hbsX hbsY).mono ?_
  rintro e w3 ⟨rfl, nq, hw3⟩
  have b3 : Below w2.heap.size w2 w3 := by rw [hw3]; exact ⟨rfl, rfl, rfl, Nat.le_refl _, fun _ _ => rfl⟩
  have T3 := T2.trans (b3.mono T2.size)
  replace hbsX := hbsX.grow b3
  replace hbsY := hbsY.grow b3
  clear T2 b3 hw3
  have G : Hid (w3.heap[W.heap.size]? = some (.cells ca.toArray 65 (0, 0))) := (T3.block _ (by omega)).trans g0.out
  go_wp2_with (refine wpList_load_row rfl 65 (.tmp 3) rfl (W.heap.size) rfl 65 ca.toArray (0, 0) _ G.out Try.underlying65 rfl IA.out ?_)
  refine (putCmd_o ca va _ (Nat.le_trans (szb_mx F_cmd va HFA.out) mx_cmdA) (reps.out _ (HBA.out.trans (T3.mono (by omega)))).1).mono ?_
  clear G
  rintro e w4 ⟨val, he, oP, _, b4⟩
  simp only [codeB, bytesB, HFA.out, Bool.false_eq_true, if_false] at he oP
  obtain ⟨aP, cP, hv, hbsP⟩ := oP.form
  subst hv
  replace hbsP := hbsP (Nat.le_trans (Nat.le_trans (en_len F_cmd _) mx_cmdA) (by omega))
  subst he
  have T4 := T3.trans (b4.mono T3.size)
  replace hbsX := hbsX.grow b4
  replace hbsY := hbsY.grow b4
  clear T3 b4 oP
  have G : Hid (w4.heap[W.heap.size + 1]? = some (.cells cb.toArray 65 (0, 0))) := (T4.block _ (by omega)).trans g1.out
  go_wp2_with (refine wpList_load_row rfl 65 (.tmp 4) rfl (W.heap.size + 1) rfl 65 cb.toArray (0, 0) _ G.out Try.underlying65 rfl IB.out ?_)
  refine (putCmd_o cb vb _ (Nat.le_trans (szb_mx F_cmd vb HFB.out) mx_cmdA) (reps.out _ (HBA.out.trans (T4.mono (by omega)))).2.1).mono ?_
  clear G
  rintro e w5 ⟨val, he, oQ, _, b5⟩
  simp only [codeB, bytesB, HFB.out, Bool.false_eq_true, if_false] at he oQ
  obtain ⟨aQ, cQ, hv, hbsQ⟩ := oQ.form
  subst hv
  replace hbsQ := hbsQ (Nat.le_trans (Nat.le_trans (en_len F_cmd _) mx_cmdA) (by omega))
  subst he
  have T5 := T4.trans (b5.mono T4.size)
  replace hbsX := hbsX.grow b5
  replace hbsY := hbsY.grow b5
  replace hbsP := hbsP.grow b5
  clear T4 b5 oQ
  go_wp2_with fail
  refine (same_any aP aQ _ _ cP cQ (en F_cmd va).1 (en F_cmd vb).1 _ rfl rfl hbsP hbsQ).mono ?_
  rintro e w6 ⟨rfl, nq, hw6⟩
  have b6 : Below w5.heap.size w5 w6 := by rw [hw6]; exact ⟨rfl, rfl, rfl, Nat.le_refl _, fun _ _ => rfl⟩
  have T6 := T5.trans (b6.mono T5.size)
  replace hbsX := hbsX.grow b6
  replace hbsY := hbsY.grow b6
  replace hbsP := hbsP.grow b6
  replace hbsQ := hbsQ.grow b6
  clear T5 b6 hw6
  generalize HSW : decide ((en F_cmd va).1 = (en F_cmd vb).1) = sw
  clear HSW
  have G : Hid (w6.heap[W.heap.size]? = some (.cells ca.toArray 65 (0, 0))) := (T6.block _ (by omega)).trans g0.out
  go_wp2_with (first
    | refine wpList_load_row rfl 65 (.tmp 3) rfl W.heap.size rfl 65 ca.toArray (0, 0) _ G.out Try.underlying65 rfl IA.out ?_
    | refine wpList_store_rowF rfl 65 (.tmp 17) (.tmp 56) rfl w6.heap.size ca.toArray rfl rfl 65 #[.int .i64 0, .int .i64 0, .int .i64 0, .int .i64 0, .int .i64 0, .int .i64 0, .int .i64 0, .slice none 0 0, .int .i64 0, .bool false, .int .i64 0, .int .i64 0, .int .i64 0, .bool false, .bool false, .int .i64 0, .int .i64 0, .int .i64 0, .slice none 0 0, .int .i64 0, .int .i64 0, .int .i64 0, .slice none 0 0, .slice none 0 0, .bool false, .slice none 0 0, .slice none 0 0] (heap_alloc_new w6 (.cells #[.int .i64 0, .int .i64 0, .int .i64 0, .int .i64 0, .int .i64 0, .int .i64 0, .int .i64 0, .slice none 0 0, .int .i64 0, .bool false, .int .i64 0, .int .i64 0, .int .i64 0, .bool false, .bool false, .int .i64 0, .int .i64 0, .int .i64 0, .slice none 0 0, .int .i64 0, .int .i64 0, .int .i64 0, .slice none 0 0, .slice none 0 0, .bool false, .slice none 0 0, .slice none 0 0] 65)) IA.out SZ.out OA.out ?next)
  case next =>
  intro u hu
  have BU : Below w6.heap.size w6 u := by
    rw [hu.out]
    exact ((Below.refl _ _).alloc (Nat.le_refl _) _).trans ⟨rfl, rfl, rfl, by simp [World.setRow], fun kk hkk => setRow_other _ _ _ _ (by omega)⟩
  have gu : u.heap[w6.heap.size]? = some (.cells ca.toArray 65 (0, 0)) := by
    rw [hu.out]; exact setRow_heap _ _ _ _ 65 _ (heap_alloc_new w6 (.cells #[.int .i64 0, .int .i64 0, .int .i64 0, .int .i64 0, .int .i64 0, .int .i64 0, .int .i64 0, .slice none 0 0, .int .i64 0, .bool false, .int .i64 0, .int .i64 0, .int .i64 0, .bool false, .bool false, .int .i64 0, .int .i64 0, .int .i64 0, .slice none 0 0, .int .i64 0, .int .i64 0, .int .i64 0, .slice none 0 0, .slice none 0 0, .bool false, .slice none 0 0, .slice none 0 0] 65))
  have hcu : u.cell? ⟨w6.heap.size, 2, none⟩ = some (.int .i64 x2) := by
    rw [cell_of_row u _ _ _ 65 (0, 0) gu, hca.out]; rfl
  have hfu : u.frozen? ⟨w6.heap.size, 2, none⟩ = false := by
    simp [World.frozen?, gu]
  have GU : Hid ((u.setCell ⟨w6.heap.size, 2, none⟩ (.int .i64 n)).heap[w6.heap.size]? = some (.cells cc.toArray 65 (0, 0))) := by
    show _ = _
    rw [setCell_row 2 _ gu, hca.out, hcc.out]; rfl
  have BU2 : Hid (Below w6.heap.size w6 (u.setCell ⟨w6.heap.size, 2, none⟩ (.int .i64 n))) := BU.trans ⟨rfl, rfl, rfl, by simp, fun k hk => Below.heap_setCell u ⟨w6.heap.size, 2, none⟩ _ k (Nat.ne_of_lt hk)⟩
  clear hu gu BU G
  go_wp2_with (refine wpList_load_row rfl 65 (.tmp 17) rfl w6.heap.size rfl 65 cc.toArray (0, 0) _ GU.out Try.underlying65 rfl IC.out ?_)
  refine (putCmd_w cc vc _ (reps.out _ (HBA.out.trans ((T6.trans (BU2.out.mono T6.size)).mono (by omega)))).2.2).mono ?_
  rintro e w7 ⟨val, he, oZ, _, bz⟩
  simp only [codeB, bytesB, HFC.out, if_true] at he oZ
  obtain ⟨aZ, cZ, hv, hbsZ⟩ := oZ.form
  subst hv
  replace hbsZ := hbsZ (by simp only [List.length_nil]; omega)
  subst he
  have b7 := BU2.out.trans (bz.mono BU2.out.size)
  have T7 := T6.trans (b7.mono T6.size)
  replace hbsX := hbsX.grow b7
  replace hbsY := hbsY.grow b7
  replace hbsP := hbsP.grow b7
  replace hbsQ := hbsQ.grow b7
  clear T6 b7 oZ bz BU2 GU hcu hfu
  go_wp2_with fail
  refine (same_any aX aZ _ _ cX cZ (en F_cmd va).1 [] _ rfl rfl hbsX hbsZ).mono ?_
  rintro e w8 ⟨rfl, nq, hw8⟩
  have b8 : Below w7.heap.size w7 w8 := by rw [hw8]; exact ⟨rfl, rfl, rfl, Nat.le_refl _, fun _ _ => rfl⟩
  have T8 := T7.trans (b8.mono T7.size)
  replace hbsX := hbsX.grow b8
  replace hbsY := hbsY.grow b8
  replace hbsP := hbsP.grow b8
  replace hbsQ := hbsQ.grow b8
  replace hbsZ := hbsZ.grow b8
  clear T7 b8 hw8
  have hq : w8.cell? ⟨W.heap.size, 2, none⟩ = some (.int .i64 x2) := by
    rw [cell_of_row w8 _ _ _ 65 (0, 0) ((T8.block _ (by omega)).trans g0.out), hca.out]; rfl
  have BW := HBA.out.trans (T8.mono (by omega))
  clear hbsX hbsY hbsP hbsQ hbsZ
  generalize decide (((en F_cmd va).1 : List UInt8) = []) = sz
  go_wp2_with fail
  refine (known_any w8).mono ?_
  rintro e w' ⟨rfl, bk⟩
  go_wp2
  go_ret
  exact ⟨rfl, BW.trans (bk.mono BW.size)⟩

set_option maxHeartbeats 2000000 in
set_option maxRecDepth 100000 in
theorem lawApartFTF (W : World) (ca cb cc : List Value) (x0 x1 x2 n : Int) (rest : List Value) (va vb vc : Vl F_cmd) (hca : Hid (ca = .int .i64 x0 :: .int .i64 x1 :: .int .i64 x2 :: rest)) (hcc : Hid (cc = .int .i64 x0 :: .int .i64 x1 :: .int .i64 n :: rest))
    (ha : Rep W (fun b => b < W.heap.size) F_cmd ca va) (hb : Rep W (fun b => b < W.heap.size) F_cmd cb vb) (hc : Rep W (fun b => b < W.heap.size) F_cmd cc vc)
    (HVC : Hid ((va = vc) = (x2 = n))) (HFA : Hid ((en F_cmd va).2 = false)) (HFB : Hid ((en F_cmd vb).2 = true)) (HFC : Hid ((en F_cmd vc).2 = false)) :
    Calls Try.prog 6 #[.agg ca.toArray, .agg cb.toArray, .int .i64 n] W fun e w' => e = .returned (.bool true) ∧ Below W.heap.size W w' := by
  have BA : Below W.heap.size W ((W.alloc (.cells ca.toArray 65)).alloc (.cells cb.toArray 65)) := ((Below.refl _ _).alloc (Nat.le_refl _) _).alloc (by rw [World.size_alloc]; omega) _
  have g0 : Hid (((W.alloc (.cells ca.toArray 65)).alloc (.cells cb.toArray 65)).heap[W.heap.size]? = some (.cells ca.toArray 65 (0, 0))) := by
    show _ = _
    rw [Below.heap_alloc _ _ _ (by rw [World.size_alloc]; omega)]; exact heap_alloc_new W _
  have g1 : Hid (((W.alloc (.cells ca.toArray 65)).alloc (.cells cb.toArray 65)).heap[W.heap.size + 1]? = some (.cells cb.toArray 65 (0, 0))) := by
    show _ = _
    have := heap_alloc_new (W.alloc (.cells ca.toArray 65)) (.cells cb.toArray 65)
    rw [World.size_alloc] at this
    exact this
  have zA : ((W.alloc (.cells ca.toArray 65)).alloc (.cells cb.toArray 65)).heap.size = W.heap.size + 2 := by rw [World.size_alloc, World.size_alloc]
  have IA : Hid ((Try.prog.info? 65).map (·.size) = some ca.toArray.size) := by show _ = _; rw [List.size_toArray, ha.len]; exact info_cmdA
  have IB : Hid ((Try.prog.info? 65).map (·.size) = some cb.toArray.size) := by show _ = _; rw [List.size_toArray, hb.len]; exact info_cmdA
  have IC : Hid ((Try.prog.info? 65).map (·.size) = some cc.toArray.size) := by show _ = _; rw [List.size_toArray, hc.len]; exact info_cmdA
  have OA : Hid (ca.toArray.all (·.oneCell') = true) := ha.all
  have SZ : Hid ((#[.int .i64 0, .int .i64 0, .int .i64 0, .int .i64 0, .int .i64 0, .int .i64 0, .int .i64 0, .slice none 0 0, .int .i64 0, .bool false, .int .i64 0, .int .i64 0, .int .i64 0, .bool false, .bool false, .int .i64 0, .int .i64 0, .int .i64 0, .slice none 0 0, .int .i64 0, .int .i64 0, .int .i64 0, .slice none 0 0, .slice none 0 0, .bool false, .slice none 0 0, .slice none 0 0] : Array Value).size = ca.toArray.size) := by
    have h27 : ca.toArray.size = 27 := by rw [List.size_toArray]; exact ha.len
    exact h27.symm
  have reps : Hid (∀ w', Below W.heap.size W w' → Rep w' (fun b => b < w'.heap.size) F_cmd ca va ∧ Rep w' (fun b => b < w'.heap.size) F_cmd cb vb ∧ Rep w' (fun b => b < w'.heap.size) F_cmd cc vc) := fun w' bw =>
    have m : ∀ b, b < W.heap.size → b < w'.heap.size := fun b hb => Nat.lt_of_lt_of_le hb bw.size
    ⟨ha.kept bw.size (fun b hb => bw.block b hb) m, hb.kept bw.size (fun b hb => bw.block b hb) m, hc.kept bw.size (fun b hb => bw.block b hb) m⟩
  have HBA : Hid _ := BA
  have T0 : Below ((W.alloc (.cells ca.toArray 65)).alloc (.cells cb.toArray 65)).heap.size ((W.alloc (.cells ca.toArray 65)).alloc (.cells cb.toArray 65)) ((W.alloc (.cells ca.toArray 65)).alloc (.cells cb.toArray 65)) := Below.refl _ _
  clear ha hb hc BA
  go_enter Try.func6, Try.ntmps6
  have G : Hid (((W.alloc (.cells ca.toArray 65)).alloc (.cells cb.toArray 65)).heap[W.heap.size]? = some (.cells ca.toArray 65 (0, 0))) := (T0.block _ (by omega)).trans g0.out
  go_wp2_with (refine wpList_load_row rfl 65 (.tmp 3) rfl (W.heap.size) rfl 65 ca.toArray (0, 0) _ G.out Try.underlying65 rfl IA.out ?_)
  refine (putCmd_w ca va _ (reps.out _ (HBA.out.trans (T0.mono (by omega)))).1).mono ?_
  clear G
  rintro e w1 ⟨val, he, oX, _, b1⟩
  simp only [codeB, bytesB, HFA.out, Bool.false_eq_true, if_false] at he oX
  obtain ⟨aX, cX, hv, hbsX⟩ := oX.form
  subst hv
  replace hbsX := hbsX (Nat.le_trans (Nat.le_trans (en_len F_cmd _) mx_cmdA) (by omega))
  subst he
  have T1 := T0.trans (b1.mono T0.size)
  clear T0 b1 oX
  have G : Hid (w1.heap[W.heap.size + 1]? = some (.cells cb.toArray 65 (0, 0))) := (T1.block _ (by omega)).trans g1.out
  go_wp2_with (refine wpList_load_row rfl 65 (.tmp 4) rfl (W.heap.size + 1) rfl 65 cb.toArray (0, 0) _ G.out Try.underlying65 rfl IB.out ?_)
  refine (putCmd_w cb vb _ (reps.out _ (HBA.out.trans (T1.mono (by omega)))).2.1).mono ?_
  clear G
  rintro e w2 ⟨val, he, oY, _, b2⟩
  simp only [codeB, bytesB, HFB.out, if_true] at he oY
  obtain ⟨aY, cY, hv, hbsY⟩ := oY.form
  subst hv
  replace hbsY := hbsY (by simp only [List.length_nil]; omega)
  subst he
  have T2 := T1.trans (b2.mono T1.size)
  replace hbsX := hbsX.grow b2
  clear T1 b2 oY
  have G : Hid (w2.heap[W.heap.size]? = some (.cells ca.toArray 65 (0, 0))) := (T2.block _ (by omega)).trans g0.out
  go_wp2_with (first
    | refine wpList_load_row rfl 65 (.tmp 3) rfl W.heap.size rfl 65 ca.toArray (0, 0) _ G.out Try.underlying65 rfl IA.out ?_
    | refine wpList_store_rowF rfl 65 (.tmp 17) (.tmp 56) rfl w2.heap.size ca.toArray rfl rfl 65 #[.int .i64 0, .int .i64 0, .int .i64 0, .int .i64 0, .int .i64 0, .int .i64 0, .int .i64 0, .slice none 0 0, .int .i64 0, .bool false, .int .i64 0, .int .i64 0, .int .i64 0, .bool false, .bool false, .int .i64 0, .int .i64 0, .int .i64 0, .slice none 0 0, .int .i64 0, .int .i64 0, .int .i64 0, .slice none 0 0, .slice none 0 0, .bool false, .slice none 0 0, .slice none 0 0] (heap_alloc_new w2 (.cells #[.int .i64 0, .int .i64 0, .int .i64 0, .int .i64 0, .int .i64 0, .int .i64 0, .int .i64 0, .slice none 0 0, .int .i64 0, .bool false, .int .i64 0, .int .i64 0, .int .i64 0, .bool false, .bool false, .int .i64 0, .int .i64 0, .int .i64 0, .slice none 0 0, .int .i64 0, .int .i64 0, .int .i64 0, .slice none 0 0, .slice none 0 0, .bool false, .slice none 0 0, .slice none 0 0] 65)) IA.out SZ.out OA.out ?next)
  case next =>
  intro u hu
  have BU : Below w2.heap.size w2 u := by
    rw [hu.out]
    exact ((Below.refl _ _).alloc (Nat.le_refl _) _).trans ⟨rfl, rfl, rfl, by simp [World.setRow], fun kk hkk => setRow_other _ _ _ _ (by omega)⟩
  have gu : u.heap[w2.heap.size]? = some (.cells ca.toArray 65 (0, 0)) := by
    rw [hu.out]; exact setRow_heap _ _ _ _ 65 _ (heap_alloc_new w2 (.cells #[.int .i64 0, .int .i64 0, .int .i64 0, .int .i64 0, .int .i64 0, .int .i64 0, .int .i64 0, .slice none 0 0, .int .i64 0, .bool false, .int .i64 0, .int .i64 0, .int .i64 0, .bool false, .bool false, .int .i64 0, .int .i64 0, .int .i64 0, .slice none 0 0, .int .i64 0, .int .i64 0, .int .i64 0, .slice none 0 0, .slice none 0 0, .bool false, .slice none 0 0, .slice none 0 0] 65))
  have hcu : u.cell? ⟨w2.heap.size, 2, none⟩ = some (.int .i64 x2) := by
    rw [cell_of_row u _ _ _ 65 (0, 0) gu, hca.out]; rfl
  have hfu : u.frozen? ⟨w2.heap.size, 2, none⟩ = false := by
    simp [World.frozen?, gu]
  have GU : Hid ((u.setCell ⟨w2.heap.size, 2, none⟩ (.int .i64 n)).heap[w2.heap.size]? = some (.cells cc.toArray 65 (0, 0))) := by
    show _ = _
    rw [setCell_row 2 _ gu, hca.out, hcc.out]; rfl
  have BU2 : Hid (Below w2.heap.size w2 (u.setCell ⟨w2.heap.size, 2, none⟩ (.int .i64 n))) := BU.trans ⟨rfl, rfl, rfl, by simp, fun k hk => Below.heap_setCell u ⟨w2.heap.size, 2, none⟩ _ k (Nat.ne_of_lt hk)⟩
  clear hu gu BU G
  go_wp2_with (refine wpList_load_row rfl 65 (.tmp 17) rfl w2.heap.size rfl 65 cc.toArray (0, 0) _ GU.out Try.underlying65 rfl IC.out ?_)
  refine (putCmd_w cc vc _ (reps.out _ (HBA.out.trans ((T2.trans (BU2.out.mono T2.size)).mono (by omega)))).2.2).mono ?_
  rintro e w3 ⟨val, he, oZ, _, bz⟩
  simp only [codeB, bytesB, HFC.out, Bool.false_eq_true, if_false] at he oZ
  obtain ⟨aZ, cZ, hv, hbsZ⟩ := oZ.form
  subst hv
  replace hbsZ := hbsZ (Nat.le_trans (Nat.le_trans (en_len F_cmd _) mx_cmdA) (by omega))
  subst he
  have b3 := BU2.out.trans (bz.mono BU2.out.size)
  have T3 := T2.trans (b3.mono T2.size)
  replace hbsX := hbsX.grow b3
  replace hbsY := hbsY.grow b3
  clear T2 b3 oZ bz BU2 GU hcu hfu
  go_wp2_with fail
  refine (same_any aX aZ _ _ cX cZ (en F_cmd va).1 (en F_cmd vc).1 _ rfl rfl hbsX hbsZ).mono ?_
  rintro e w4 ⟨rfl, nq, hw4⟩
  have b4 : Below w3.heap.size w3 w4 := by rw [hw4]; exact ⟨rfl, rfl, rfl, Nat.le_refl _, fun _ _ => rfl⟩
  have T4 := T3.trans (b4.mono T3.size)
  replace hbsX := hbsX.grow b4
  replace hbsY := hbsY.grow b4
  replace hbsZ := hbsZ.grow b4
  clear T3 b4 hw4
  have hq : w4.cell? ⟨W.heap.size, 2, none⟩ = some (.int .i64 x2) := by
    rw [cell_of_row w4 _ _ _ 65 (0, 0) ((T4.block _ (by omega)).trans g0.out), hca.out]; rfl
  have BW := HBA.out.trans (T4.mono (by omega))
  clear hbsX hbsY hbsZ
  have HS : Hid (decide ((en F_cmd va).1 = (en F_cmd vc).1) = decide (n = x2)) := by
    show _ = _
    have : ((en F_cmd va).1 = (en F_cmd vc).1) = (n = x2) := by
      rw [show (n = x2) = (x2 = n) from propext ⟨Eq.symm, Eq.symm⟩, ← HVC.out]
      exact propext ⟨fun h => en_inj F_cmd va vc HFA.out HFC.out h, fun h => by rw [h]⟩
    simp only [this]
  rw [HS.out]
  by_cases hn : n = x2
  · subst hn
    simp only [decide_true]
    go_wp2_with fail
    refine (known_any w4).mono ?_
    rintro e w' ⟨rfl, bk⟩
    go_wp2
    go_ret
    exact ⟨rfl, BW.trans (bk.mono BW.size)⟩
  · have hb1 : decide (n = x2) = false := decide_eq_false hn
    have hb2 : (n == x2) = false := by simpa using hn
    rw [hb1]
    go_wp2_with fail
    refine (known_any w4).mono ?_
    rintro e w' ⟨rfl, bk⟩
    go_wp2
    go_ret
    exact ⟨rfl, BW.trans (bk.mono BW.size)⟩

set_option maxHeartbeats 2000000 in
set_option maxRecDepth 100000 in
theorem lawApartFTT (W : World) (ca cb cc : List Value) (x0 x1 x2 n : Int) (rest : List Value) (va vb vc : Vl F_cmd) (hca : Hid (ca = .int .i64 x0 :: .int .i64 x1 :: .int .i64 x2 :: rest)) (hcc : Hid (cc = .int .i64 x0 :: .int .i64 x1 :: .int .i64 n :: rest))
    (ha : Rep W (fun b => b < W.heap.size) F_cmd ca va) (hb : Rep W (fun b => b < W.heap.size) F_cmd cb vb) (hc : Rep W (fun b => b < W.heap.size) F_cmd cc vc)
    (_ : Hid ((va = vc) = (x2 = n))) (HFA : Hid ((en F_cmd va).2 = false)) (HFB : Hid ((en F_cmd vb).2 = true)) (HFC : Hid ((en F_cmd vc).2 = true)) :
    Calls Try.prog 6 #[.agg ca.toArray, .agg cb.toArray, .int .i64 n] W fun e w' => e = .returned (.bool true) ∧ Below W.heap.size W w' := by
  have BA : Below W.heap.size W ((W.alloc (.cells ca.toArray 65)).alloc (.cells cb.toArray 65)) := ((Below.refl _ _).alloc (Nat.le_refl _) _).alloc (by rw [World.size_alloc]; omega) _
  have g0 : Hid (((W.alloc (.cells ca.toArray 65)).alloc (.cells cb.toArray 65)).heap[W.heap.size]? = some (.cells ca.toArray 65 (0, 0))) := by
    show _ = _
    rw [Below.heap_alloc _ _ _ (by rw [World.size_alloc]; omega)]; exact heap_alloc_new W _
  have g1 : Hid (((W.alloc (.cells ca.toArray 65)).alloc (.cells cb.toArray 65)).heap[W.heap.size + 1]? = some (.cells cb.toArray 65 (0, 0))) := by
    show _ = _
    have := heap_alloc_new (W.alloc (.cells ca.toArray 65)) (.cells cb.toArray 65)
    rw [World.size_alloc] at this
    exact this
  have zA : ((W.alloc (.cells ca.toArray 65)).alloc (.cells cb.toArray 65)).heap.size = W.heap.size + 2 := by rw [World.size_alloc, World.size_alloc]
  have IA : Hid ((Try.prog.info? 65).map (·.size) = some ca.toArray.size) := by show _ = _; rw [List.size_toArray, ha.len]; exact info_cmdA
  have IB : Hid ((Try.prog.info? 65).map (·.size) = some cb.toArray.size) := by show _ = _; rw [List.size_toArray, hb.len]; exact info_cmdA
  have IC : Hid ((Try.prog.info? 65).map (·.size) = some cc.toArray.size) := by show _ = _; rw [List.size_toArray, hc.len]; exact info_cmdA
  have OA : Hid (ca.toArray.all (·.oneCell') = true) := ha.all
  have SZ : Hid ((#[.int .i64 0, .int .i64 0, .int .i64 0, .int .i64 0, .int .i64 0, .int .i64 0, .int .i64 0, .slice none 0 0, .int .i64 0, .bool false, .int .i64 0, .int .i64 0, .int .i64 0, .bool false, .bool false, .int .i64 0, .int .i64 0, .int .i64 0, .slice none 0 0, .int .i64 0, .int .i64 0, .int .i64 0, .slice none 0 0, .slice none 0 0, .bool false, .slice none 0 0, .slice none 0 0] : Array Value).size = ca.toArray.size) := by
    have h27 : ca.toArray.size = 27 := by rw [List.size_toArray]; exact ha.len
    exact h27.symm
  have reps : Hid (∀ w', Below W.heap.size W w' → Rep w' (fun b => b < w'.heap.size) F_cmd ca va ∧ Rep w' (fun b => b < w'.heap.size) F_cmd cb vb ∧ Rep w' (fun b => b < w'.heap.size) F_cmd cc vc) := fun w' bw =>
    have m : ∀ b, b < W.heap.size → b < w'.heap.size := fun b hb => Nat.lt_of_lt_of_le hb bw.size
    ⟨ha.kept bw.size (fun b hb => bw.block b hb) m, hb.kept bw.size (fun b hb => bw.block b hb) m, hc.kept bw.size (fun b hb => bw.block b hb) m⟩
  have HBA : Hid _ := BA
  have T0 : Below ((W.alloc (.cells ca.toArray 65)).alloc (.cells cb.toArray 65)).heap.size ((W.alloc (.cells ca.toArray 65)).alloc (.cells cb.toArray 65)) ((W.alloc (.cells ca.toArray 65)).alloc (.cells cb.toArray 65)) := Below.refl _ _
  clear ha hb hc BA
  go_enter Try.func6, Try.ntmps6
  have G : Hid (((W.alloc (.cells ca.toArray 65)).alloc (.cells cb.toArray 65)).heap[W.heap.size]? = some (.cells ca.toArray 65 (0, 0))) := (T0.block _ (by omega)).trans g0.out
  go_wp2_with (refine wpList_load_row rfl 65 (.tmp 3) rfl (W.heap.size) rfl 65 ca.toArray (0, 0) _ G.out Try.underlying65 rfl IA.out ?_)
  refine (putCmd_w ca va _ (reps.out _ (HBA.out.trans (T0.mono (by omega)))).1).mono ?_
  clear G
  rintro e w1 ⟨val, he, oX, _, b1⟩
  simp only [codeB, bytesB, HFA.out, Bool.false_eq_true, if_false] at he oX
  obtain ⟨aX, cX, hv, hbsX⟩ := oX.form
  subst hv
  replace hbsX := hbsX (Nat.le_trans (Nat.le_trans (en_len F_cmd _) mx_cmdA) (by omega))
  subst he
  have T1 := T0.trans (b1.mono T0.size)
  clear T0 b1 oX
  have G : Hid (w1.heap[W.heap.size + 1]? = some (.cells cb.toArray 65 (0, 0))) := (T1.block _ (by omega)).trans g1.out
  go_wp2_with (refine wpList_load_row rfl 65 (.tmp 4) rfl (W.heap.size + 1) rfl 65 cb.toArray (0, 0) _ G.out Try.underlying65 rfl IB.out ?_)
  refine (putCmd_w cb vb _ (reps.out _ (HBA.out.trans (T1.mono (by omega)))).2.1).mono ?_
  clear G
  rintro e w2 ⟨val, he, oY, _, b2⟩
  simp only [codeB, bytesB, HFB.out, if_true] at he oY
  obtain ⟨aY, cY, hv, hbsY⟩ := oY.form
  subst hv
  replace hbsY := hbsY (by simp only [List.length_nil]; omega)
  subst he
  have T2 := T1.trans (b2.mono T1.size)
  replace hbsX := hbsX.grow b2
  clear T1 b2 oY
  have G : Hid (w2.heap[W.heap.size]? = some (.cells ca.toArray 65 (0, 0))) := (T2.block _ (by omega)).trans g0.out
  go_wp2_with (first
    | refine wpList_load_row rfl 65 (.tmp 3) rfl W.heap.size rfl 65 ca.toArray (0, 0) _ G.out Try.underlying65 rfl IA.out ?_
    | refine wpList_store_rowF rfl 65 (.tmp 17) (.tmp 56) rfl w2.heap.size ca.toArray rfl rfl 65 #[.int .i64 0, .int .i64 0, .int .i64 0, .int .i64 0, .int .i64 0, .int .i64 0, .int .i64 0, .slice none 0 0, .int .i64 0, .bool false, .int .i64 0, .int .i64 0, .int .i64 0, .bool false, .bool false, .int .i64 0, .int .i64 0, .int .i64 0, .slice none 0 0, .int .i64 0, .int .i64 0, .int .i64 0, .slice none 0 0, .slice none 0 0, .bool false, .slice none 0 0, .slice none 0 0] (heap_alloc_new w2 (.cells #[.int .i64 0, .int .i64 0, .int .i64 0, .int .i64 0, .int .i64 0, .int .i64 0, .int .i64 0, .slice none 0 0, .int .i64 0, .bool false, .int .i64 0, .int .i64 0, .int .i64 0, .bool false, .bool false, .int .i64 0, .int .i64 0, .int .i64 0, .slice none 0 0, .int .i64 0, .int .i64 0, .int .i64 0, .slice none 0 0, .slice none 0 0, .bool false, .slice none 0 0, .slice none 0 0] 65)) IA.out SZ.out OA.out ?next)
  case next =>
  intro u hu
  have BU : Below w2.heap.size w2 u := by
    rw [hu.out]
    exact ((Below.refl _ _).alloc (Nat.le_refl _) _).trans ⟨rfl, rfl, rfl, by simp [World.setRow], fun kk hkk => setRow_other _ _ _ _ (by omega)⟩
  have gu : u.heap[w2.heap.size]? = some (.cells ca.toArray 65 (0, 0)) := by
    rw [hu.out]; exact setRow_heap _ _ _ _ 65 _ (heap_alloc_new w2 (.cells #[.int .i64 0, .int .i64 0, .int .i64 0, .int .i64 0, .int .i64 0, .int .i64 0, .int .i64 0, .slice none 0 0, .int .i64 0, .bool false, .int .i64 0, .int .i64 0, .int .i64 0, .bool false, .bool false, .int .i64 0, .int .i64 0, .int .i64 0, .slice none 0 0, .int .i64 0, .int .i64 0, .int .i64 0, .slice none 0 0, .slice none 0 0, .bool false, .slice none 0 0, .slice none 0 0] 65))
  have hcu : u.cell? ⟨w2.heap.size, 2, none⟩ = some (.int .i64 x2) := by
    rw [cell_of_row u _ _ _ 65 (0, 0) gu, hca.out]; rfl
  have hfu : u.frozen? ⟨w2.heap.size, 2, none⟩ = false := by
    simp [World.frozen?, gu]
  have GU : Hid ((u.setCell ⟨w2.heap.size, 2, none⟩ (.int .i64 n)).heap[w2.heap.size]? = some (.cells cc.toArray 65 (0, 0))) := by
    show _ = _
    rw [setCell_row 2 _ gu, hca.out, hcc.out]; rfl
  have BU2 : Hid (Below w2.heap.size w2 (u.setCell ⟨w2.heap.size, 2, none⟩ (.int .i64 n))) := BU.trans ⟨rfl, rfl, rfl, by simp, fun k hk => Below.heap_setCell u ⟨w2.heap.size, 2, none⟩ _ k (Nat.ne_of_lt hk)⟩
  clear hu gu BU G
  go_wp2_with (refine wpList_load_row rfl 65 (.tmp 17) rfl w2.heap.size rfl 65 cc.toArray (0, 0) _ GU.out Try.underlying65 rfl IC.out ?_)
  refine (putCmd_w cc vc _ (reps.out _ (HBA.out.trans ((T2.trans (BU2.out.mono T2.size)).mono (by omega)))).2.2).mono ?_
  rintro e w3 ⟨val, he, oZ, _, bz⟩
  simp only [codeB, bytesB, HFC.out, if_true] at he oZ
  obtain ⟨aZ, cZ, hv, hbsZ⟩ := oZ.form
  subst hv
  replace hbsZ := hbsZ (by simp only [List.length_nil]; omega)
  subst he
  have b3 := BU2.out.trans (bz.mono BU2.out.size)
  have T3 := T2.trans (b3.mono T2.size)
  replace hbsX := hbsX.grow b3
  replace hbsY := hbsY.grow b3
  clear T2 b3 oZ bz BU2 GU hcu hfu
  go_wp2_with fail
  refine (same_any aX aZ _ _ cX cZ (en F_cmd va).1 [] _ rfl rfl hbsX hbsZ).mono ?_
  rintro e w4 ⟨rfl, nq, hw4⟩
  have b4 : Below w3.heap.size w3 w4 := by rw [hw4]; exact ⟨rfl, rfl, rfl, Nat.le_refl _, fun _ _ => rfl⟩
  have T4 := T3.trans (b4.mono T3.size)
  replace hbsX := hbsX.grow b4
  replace hbsY := hbsY.grow b4
  replace hbsZ := hbsZ.grow b4
  clear T3 b4 hw4
  have hq : w4.cell? ⟨W.heap.size, 2, none⟩ = some (.int .i64 x2) := by
    rw [cell_of_row w4 _ _ _ 65 (0, 0) ((T4.block _ (by omega)).trans g0.out), hca.out]; rfl
  have BW := HBA.out.trans (T4.mono (by omega))
  clear hbsX hbsY hbsZ
  generalize decide (((en F_cmd va).1 : List UInt8) = []) = sz
  go_wp2_with fail
  refine (known_any w4).mono ?_
  rintro e w' ⟨rfl, bk⟩
  go_wp2
  go_ret
  exact ⟨rfl, BW.trans (bk.mono BW.size)⟩

set_option maxHeartbeats 2000000 in
set_option maxRecDepth 100000 in
theorem lawApartTFF (W : World) (ca cb cc : List Value) (x0 x1 x2 n : Int) (rest : List Value) (va vb vc : Vl F_cmd) (hca : Hid (ca = .int .i64 x0 :: .int .i64 x1 :: .int .i64 x2 :: rest)) (hcc : Hid (cc = .int .i64 x0 :: .int .i64 x1 :: .int .i64 n :: rest))
    (ha : Rep W (fun b => b < W.heap.size) F_cmd ca va) (hb : Rep W (fun b => b < W.heap.size) F_cmd cb vb) (hc : Rep W (fun b => b < W.heap.size) F_cmd cc vc)
    (_ : Hid ((va = vc) = (x2 = n))) (HFA : Hid ((en F_cmd va).2 = true)) (HFB : Hid ((en F_cmd vb).2 = false)) (HFC : Hid ((en F_cmd vc).2 = false)) :
    Calls Try.prog 6 #[.agg ca.toArray, .agg cb.toArray, .int .i64 n] W fun e w' => e = .returned (.bool true) ∧ Below W.heap.size W w' := by
  have BA : Below W.heap.size W ((W.alloc (.cells ca.toArray 65)).alloc (.cells cb.toArray 65)) := ((Below.refl _ _).alloc (Nat.le_refl _) _).alloc (by rw [World.size_alloc]; omega) _
  have g0 : Hid (((W.alloc (.cells ca.toArray 65)).alloc (.cells cb.toArray 65)).heap[W.heap.size]? = some (.cells ca.toArray 65 (0, 0))) := by
    show _ = _
    rw [Below.heap_alloc _ _ _ (by rw [World.size_alloc]; omega)]; exact heap_alloc_new W _
  have g1 : Hid (((W.alloc (.cells ca.toArray 65)).alloc (.cells cb.toArray 65)).heap[W.heap.size + 1]? = some (.cells cb.toArray 65 (0, 0))) := by
    show _ = _
    have := heap_alloc_new (W.alloc (.cells ca.toArray 65)) (.cells cb.toArray 65)
    rw [World.size_alloc] at this
    exact this
  have zA : ((W.alloc (.cells ca.toArray 65)).alloc (.cells cb.toArray 65)).heap.size = W.heap.size + 2 := by rw [World.size_alloc, World.size_alloc]
  have IA : Hid ((Try.prog.info? 65).map (·.size) = some ca.toArray.size) := by show _ = _; rw [List.size_toArray, ha.len]; exact info_cmdA
  have IB : Hid ((Try.prog.info? 65).map (·.size) = some cb.toArray.size) := by show _ = _; rw [List.size_toArray, hb.len]; exact info_cmdA
  have IC : Hid ((Try.prog.info? 65).map (·.size) = some cc.toArray.size) := by show _ = _; rw [List.size_toArray, hc.len]; exact info_cmdA
  have OA : Hid (ca.toArray.all (·.oneCell') = true) := ha.all
  have SZ : Hid ((#[.int .i64 0, .int .i64 0, .int .i64 0, .int .i64 0, .int .i64 0, .int .i64 0, .int .i64 0, .slice none 0 0, .int .i64 0, .bool false, .int .i64 0, .int .i64 0, .int .i64 0, .bool false, .bool false, .int .i64 0, .int .i64 0, .int .i64 0, .slice none 0 0, .int .i64 0, .int .i64 0, .int .i64 0, .slice none 0 0, .slice none 0 0, .bool false, .slice none 0 0, .slice none 0 0] : Array Value).size = ca.toArray.size) := by
    have h27 : ca.toArray.size = 27 := by rw [List.size_toArray]; exact ha.len
    exact h27.symm
  have reps : Hid (∀ w', Below W.heap.size W w' → Rep w' (fun b => b < w'.heap.size) F_cmd ca va ∧ Rep w' (fun b => b < w'.heap.size) F_cmd cb vb ∧ Rep w' (fun b => b < w'.heap.size) F_cmd cc vc) := fun w' bw =>
    have m : ∀ b, b < W.heap.size → b < w'.heap.size := fun b hb => Nat.lt_of_lt_of_le hb bw.size
    ⟨ha.kept bw.size (fun b hb => bw.block b hb) m, hb.kept bw.size (fun b hb => bw.block b hb) m, hc.kept bw.size (fun b hb => bw.block b hb) m⟩
  have HBA : Hid _ := BA
  have T0 : Below ((W.alloc (.cells ca.toArray 65)).alloc (.cells cb.toArray 65)).heap.size ((W.alloc (.cells ca.toArray 65)).alloc (.cells cb.toArray 65)) ((W.alloc (.cells ca.toArray 65)).alloc (.cells cb.toArray 65)) := Below.refl _ _
  clear ha hb hc BA
  go_enter Try.func6, Try.ntmps6
  have G : Hid (((W.alloc (.cells ca.toArray 65)).alloc (.cells cb.toArray 65)).heap[W.heap.size]? = some (.cells ca.toArray 65 (0, 0))) := (T0.block _ (by omega)).trans g0.out
  go_wp2_with (refine wpList_load_row rfl 65 (.tmp 3) rfl (W.heap.size) rfl 65 ca.toArray (0, 0) _ G.out Try.underlying65 rfl IA.out ?_)
  refine (putCmd_w ca va _ (reps.out _ (HBA.out.trans (T0.mono (by omega)))).1).mono ?_
  clear G
  rintro e w1 ⟨val, he, oX, _, b1⟩
  simp only [codeB, bytesB, HFA.out, if_true] at he oX
  obtain ⟨aX, cX, hv, hbsX⟩ := oX.form
  subst hv
  replace hbsX := hbsX (by simp only [List.length_nil]; omega)
  subst he
  have T1 := T0.trans (b1.mono T0.size)
  clear T0 b1 oX
  have G : Hid (w1.heap[W.heap.size + 1]? = some (.cells cb.toArray 65 (0, 0))) := (T1.block _ (by omega)).trans g1.out
  go_wp2_with (refine wpList_load_row rfl 65 (.tmp 4) rfl (W.heap.size + 1) rfl 65 cb.toArray (0, 0) _ G.out Try.underlying65 rfl IB.out ?_)
  refine (putCmd_w cb vb _ (reps.out _ (HBA.out.trans (T1.mono (by omega)))).2.1).mono ?_
  clear G
  rintro e w2 ⟨val, he, oY, _, b2⟩
  simp only [codeB, bytesB, HFB.out, Bool.false_eq_true, if_false] at he oY
  obtain ⟨aY, cY, hv, hbsY⟩ := oY.form
  subst hv
  replace hbsY := hbsY (Nat.le_trans (Nat.le_trans (en_len F_cmd _) mx_cmdA) (by omega))
  subst he
  have T2 := T1.trans (b2.mono T1.size)
  replace hbsX := hbsX.grow b2
  clear T1 b2 oY
  have G : Hid (w2.heap[W.heap.size]? = some (.cells ca.toArray 65 (0, 0))) := (T2.block _ (by omega)).trans g0.out
  go_wp2_with (first
    | refine wpList_load_row rfl 65 (.tmp 3) rfl W.heap.size rfl 65 ca.toArray (0, 0) _ G.out Try.underlying65 rfl IA.out ?_
    | refine wpList_store_rowF rfl 65 (.tmp 17) (.tmp 56) rfl w2.heap.size ca.toArray rfl rfl 65 #[.int .i64 0, .int .i64 0, .int .i64 0, .int .i64 0, .int .i64 0, .int .i64 0, .int .i64 0, .slice none 0 0, .int .i64 0, .bool false, .int .i64 0, .int .i64 0, .int .i64 0, .bool false, .bool false, .int .i64 0, .int .i64 0, .int .i64 0, .slice none 0 0, .int .i64 0, .int .i64 0, .int .i64 0, .slice none 0 0, .slice none 0 0, .bool false, .slice none 0 0, .slice none 0 0] (heap_alloc_new w2 (.cells #[.int .i64 0, .int .i64 0, .int .i64 0, .int .i64 0, .int .i64 0, .int .i64 0, .int .i64 0, .slice none 0 0, .int .i64 0, .bool false, .int .i64 0, .int .i64 0, .int .i64 0, .bool false, .bool false, .int .i64 0, .int .i64 0, .int .i64 0, .slice none 0 0, .int .i64 0, .int .i64 0, .int .i64 0, .slice none 0 0, .slice none 0 0, .bool false, .slice none 0 0, .slice none 0 0] 65)) IA.out SZ.out OA.out ?next)
  case next =>
  intro u hu
  have BU : Below w2.heap.size w2 u := by
    rw [hu.out]
    exact ((Below.refl _ _).alloc (Nat.le_refl _) _).trans ⟨rfl, rfl, rfl, by simp [World.setRow], fun kk hkk => setRow_other _ _ _ _ (by omega)⟩
  have gu : u.heap[w2.heap.size]? = some (.cells ca.toArray 65 (0, 0)) := by
    rw [hu.out]; exact setRow_heap _ _ _ _ 65 _ (heap_alloc_new w2 (.cells #[.int .i64 0, .int .i64 0, .int .i64 0, .int .i64 0, .int .i64 0, .int .i64 0, .int .i64 0, .slice none 0 0, .int .i64 0, .bool false, .int .i64 0, .int .i64 0, .int .i64 0, .bool false, .bool false, .int .i64 0, .int .i64 0, .int .i64 0, .slice none 0 0, .int .i64 0, .int .i64 0, .int .i64 0, .slice none 0 0, .slice none 0 0, .bool false, .slice none 0 0, .slice none 0 0] 65))
  have hcu : u.cell? ⟨w2.heap.size, 2, none⟩ = some (.int .i64 x2) := by
    rw [cell_of_row u _ _ _ 65 (0, 0) gu, hca.out]; rfl
  have hfu : u.frozen? ⟨w2.heap.size, 2, none⟩ = false := by
    simp [World.frozen?, gu]
  have GU : Hid ((u.setCell ⟨w2.heap.size, 2, none⟩ (.int .i64 n)).heap[w2.heap.size]? = some (.cells cc.toArray 65 (0, 0))) := by
    show _ = _
    rw [setCell_row 2 _ gu, hca.out, hcc.out]; rfl
  have BU2 : Hid (Below w2.heap.size w2 (u.setCell ⟨w2.heap.size, 2, none⟩ (.int .i64 n))) := BU.trans ⟨rfl, rfl, rfl, by simp, fun k hk => Below.heap_setCell u ⟨w2.heap.size, 2, none⟩ _ k (Nat.ne_of_lt hk)⟩
  clear hu gu BU G
  go_wp2_with (refine wpList_load_row rfl 65 (.tmp 17) rfl w2.heap.size rfl 65 cc.toArray (0, 0) _ GU.out Try.underlying65 rfl IC.out ?_)
  refine (putCmd_w cc vc _ (reps.out _ (HBA.out.trans ((T2.trans (BU2.out.mono T2.size)).mono (by omega)))).2.2).mono ?_
  rintro e w3 ⟨val, he, oZ, _, bz⟩
  simp only [codeB, bytesB, HFC.out, Bool.false_eq_true, if_false] at he oZ
  obtain ⟨aZ, cZ, hv, hbsZ⟩ := oZ.form
  subst hv
  replace hbsZ := hbsZ (Nat.le_trans (Nat.le_trans (en_len F_cmd _) mx_cmdA) (by omega))
  subst he
  have b3 := BU2.out.trans (bz.mono BU2.out.size)
  have T3 := T2.trans (b3.mono T2.size)
  replace hbsX := hbsX.grow b3
  replace hbsY := hbsY.grow b3
  clear T2 b3 oZ bz BU2 GU hcu hfu
  go_wp2_with fail
  refine (same_any aX aZ _ _ cX cZ [] (en F_cmd vc).1 _ rfl rfl hbsX hbsZ).mono ?_
  rintro e w4 ⟨rfl, nq, hw4⟩
  have b4 : Below w3.heap.size w3 w4 := by rw [hw4]; exact ⟨rfl, rfl, rfl, Nat.le_refl _, fun _ _ => rfl⟩
  have T4 := T3.trans (b4.mono T3.size)
  replace hbsX := hbsX.grow b4
  replace hbsY := hbsY.grow b4
  replace hbsZ := hbsZ.grow b4
  clear T3 b4 hw4
  have hq : w4.cell? ⟨W.heap.size, 2, none⟩ = some (.int .i64 x2) := by
    rw [cell_of_row w4 _ _ _ 65 (0, 0) ((T4.block _ (by omega)).trans g0.out), hca.out]; rfl
  have BW := HBA.out.trans (T4.mono (by omega))
  clear hbsX hbsY hbsZ
  generalize decide (([] : List UInt8) = (en F_cmd vc).1) = sz
  go_wp2_with fail
  refine (known_any w4).mono ?_
  rintro e w' ⟨rfl, bk⟩
  go_wp2
  go_ret
  exact ⟨rfl, BW.trans (bk.mono BW.size)⟩

set_option maxHeartbeats 2000000 in
set_option maxRecDepth 100000 in
theorem lawApartTFT (W : World) (ca cb cc : List Value) (x0 x1 x2 n : Int) (rest : List Value) (va vb vc : Vl F_cmd) (hca : Hid (ca = .int .i64 x0 :: .int .i64 x1 :: .int .i64 x2 :: rest)) (hcc : Hid (cc = .int .i64 x0 :: .int .i64 x1 :: .int .i64 n :: rest))
    (ha : Rep W (fun b => b < W.heap.size) F_cmd ca va) (hb : Rep W (fun b => b < W.heap.size) F_cmd cb vb) (hc : Rep W (fun b => b < W.heap.size) F_cmd cc vc)
    (_ : Hid ((va = vc) = (x2 = n))) (HFA : Hid ((en F_cmd va).2 = true)) (HFB : Hid ((en F_cmd vb).2 = false)) (HFC : Hid ((en F_cmd vc).2 = true)) :
    Calls Try.prog 6 #[.agg ca.toArray, .agg cb.toArray, .int .i64 n] W fun e w' => e = .returned (.bool true) ∧ Below W.heap.size W w' := by
  have BA : Below W.heap.size W ((W.alloc (.cells ca.toArray 65)).alloc (.cells cb.toArray 65)) := ((Below.refl _ _).alloc (Nat.le_refl _) _).alloc (by rw [World.size_alloc]; omega) _
  have g0 : Hid (((W.alloc (.cells ca.toArray 65)).alloc (.cells cb.toArray 65)).heap[W.heap.size]? = some (.cells ca.toArray 65 (0, 0))) := by
    show _ = _
    rw [Below.heap_alloc _ _ _ (by rw [World.size_alloc]; omega)]; exact heap_alloc_new W _
  have g1 : Hid (((W.alloc (.cells ca.toArray 65)).alloc (.cells cb.toArray 65)).heap[W.heap.size + 1]? = some (.cells cb.toArray 65 (0, 0))) := by
    show _ = _
    have := heap_alloc_new (W.alloc (.cells ca.toArray 65)) (.cells cb.toArray 65)
    rw [World.size_alloc] at this
    exact this
  have zA : ((W.alloc (.cells ca.toArray 65)).alloc (.cells cb.toArray 65)).heap.size = W.heap.size + 2 := by rw [World.size_alloc, World.size_alloc]
  have IA : Hid ((Try.prog.info? 65).map (·.size) = some ca.toArray.size) := by show _ = _; rw [List.size_toArray, ha.len]; exact info_cmdA
  have IB : Hid ((Try.prog.info? 65).map (·.size) = some cb.toArray.size) := by show _ = _; rw [List.size_toArray, hb.len]; exact info_cmdA
  have IC : Hid ((Try.prog.info? 65).map (·.size) = some cc.toArray.size) := by show _ = _; rw [List.size_toArray, hc.len]; exact info_cmdA
  have OA : Hid (ca.toArray.all (·.oneCell') = true) := ha.all
  have SZ : Hid ((#[.int .i64 0, .int .i64 0, .int .i64 0, .int .i64 0, .int .i64 0, .int .i64 0, .int .i64 0, .slice none 0 0, .int .i64 0, .bool false, .int .i64 0, .int .i64 0, .int .i64 0, .bool false, .bool false, .int .i64 0, .int .i64 0, .int .i64 0, .slice none 0 0, .int .i64 0, .int .i64 0, .int .i64 0, .slice none 0 0, .slice none 0 0, .bool false, .slice none 0 0, .slice none 0 0] : Array Value).size = ca.toArray.size) := by
    have h27 : ca.toArray.size = 27 := by rw [List.size_toArray]; exact ha.len
    exact h27.symm
  have reps : Hid (∀ w', Below W.heap.size W w' → Rep w' (fun b => b < w'.heap.size) F_cmd ca va ∧ Rep w' (fun b => b < w'.heap.size) F_cmd cb vb ∧ Rep w' (fun b => b < w'.heap.size) F_cmd cc vc) := fun w' bw =>
    have m : ∀ b, b < W.heap.size → b < w'.heap.size := fun b hb => Nat.lt_of_lt_of_le hb bw.size
    ⟨ha.kept bw.size (fun b hb => bw.block b hb) m, hb.kept bw.size (fun b hb => bw.block b hb) m, hc.kept bw.size (fun b hb => bw.block b hb) m⟩
  have HBA : Hid _ := BA
  have T0 : Below ((W.alloc (.cells ca.toArray 65)).alloc (.cells cb.toArray 65)).heap.size ((W.alloc (.cells ca.toArray 65)).alloc (.cells cb.toArray 65)) ((W.alloc (.cells ca.toArray 65)).alloc (.cells cb.toArray 65)) := Below.refl _ _
  clear ha hb hc BA
  go_enter Try.func6, Try.ntmps6
  have G : Hid (((W.alloc (.cells ca.toArray 65)).alloc (.cells cb.toArray 65)).heap[W.heap.size]? = some (.cells ca.toArray 65 (0, 0))) := (T0.block _ (by omega)).trans g0.out
  go_wp2_with (refine wpList_load_row rfl 65 (.tmp 3) rfl (W.heap.size) rfl 65 ca.toArray (0, 0) _ G.out Try.underlying65 rfl IA.out ?_)
  refine (putCmd_w ca va _ (reps.out _ (HBA.out.trans (T0.mono (by omega)))).1).mono ?_
  clear G
  rintro e w1 ⟨val, he, oX, _, b1⟩
  simp only [codeB, bytesB, HFA.out, if_true] at he oX
  obtain ⟨aX, cX, hv, hbsX⟩ := oX.form
  subst hv
  replace hbsX := hbsX (by simp only [List.length_nil]; omega)
  subst he
  have T1 := T0.trans (b1.mono T0.size)
  clear T0 b1 oX
  have G : Hid (w1.heap[W.heap.size + 1]? = some (.cells cb.toArray 65 (0, 0))) := (T1.block _ (by omega)).trans g1.out
  go_wp2_with (refine wpList_load_row rfl 65 (.tmp 4) rfl (W.heap.size + 1) rfl 65 cb.toArray (0, 0) _ G.out Try.underlying65 rfl IB.out ?_)
  refine (putCmd_w cb vb _ (reps.out _ (HBA.out.trans (T1.mono (by omega)))).2.1).mono ?_
  clear G
  rintro e w2 ⟨val, he, oY, _, b2⟩
  simp only [codeB, bytesB, HFB.out, Bool.false_eq_true, if_false] at he oY
  obtain ⟨aY, cY, hv, hbsY⟩ := oY.form
  subst hv
  replace hbsY := hbsY (Nat.le_trans (Nat.le_trans (en_len F_cmd _) mx_cmdA) (by omega))
  subst he
  have T2 := T1.trans (b2.mono T1.size)
  replace hbsX := hbsX.grow b2
  clear T1 b2 oY
  have G : Hid (w2.heap[W.heap.size]? = some (.cells ca.toArray 65 (0, 0))) := (T2.block _ (by omega)).trans g0.out
  go_wp2_with (first
    | refine wpList_load_row rfl 65 (.tmp 3) rfl W.heap.size rfl 65 ca.toArray (0, 0) _ G.out Try.underlying65 rfl IA.out ?_
    | refine wpList_store_rowF rfl 65 (.tmp 17) (.tmp 56) rfl w2.heap.size ca.toArray rfl rfl 65 #[.int .i64 0, .int .i64 0, .int .i64 0, .int .i64 0, .int .i64 0, .int .i64 0, .int .i64 0, .slice none 0 0, .int .i64 0, .bool false, .int .i64 0, .int .i64 0, .int .i64 0, .bool false, .bool false, .int .i64 0, .int .i64 0, .int .i64 0, .slice none 0 0, .int .i64 0, .int .i64 0, .int .i64 0, .slice none 0 0, .slice none 0 0, .bool false, .slice none 0 0, .slice none 0 0] (heap_alloc_new w2 (.cells #[.int .i64 0, .int .i64 0, .int .i64 0, .int .i64 0, .int .i64 0, .int .i64 0, .int .i64 0, .slice none 0 0, .int .i64 0, .bool false, .int .i64 0, .int .i64 0, .int .i64 0, .bool false, .bool false, .int .i64 0, .int .i64 0, .int .i64 0, .slice none 0 0, .int .i64 0, .int .i64 0, .int .i64 0, .slice none 0 0, .slice none 0 0, .bool false, .slice none 0 0, .slice none 0 0] 65)) IA.out SZ.out OA.out ?next)
  case next =>
  intro u hu
  have BU : Below w2.heap.size w2 u := by
    rw [hu.out]
    exact ((Below.refl _ _).alloc (Nat.le_refl _) _).trans ⟨rfl, rfl, rfl, by simp [World.setRow], fun kk hkk => setRow_other _ _ _ _ (by omega)⟩
  have gu : u.heap[w2.heap.size]? = some (.cells ca.toArray 65 (0, 0)) := by
    rw [hu.out]; exact setRow_heap _ _ _ _ 65 _ (heap_alloc_new w2 (.cells #[.int .i64 0, .int .i64 0, .int .i64 0, .int .i64 0, .int .i64 0, .int .i64 0, .int .i64 0, .slice none 0 0, .int .i64 0, .bool false, .int .i64 0, .int .i64 0, .int .i64 0, .bool false, .bool false, .int .i64 0, .int .i64 0, .int .i64 0, .slice none 0 0, .int .i64 0, .int .i64 0, .int .i64 0, .slice none 0 0, .slice none 0 0, .bool false, .slice none 0 0, .slice none 0 0] 65))
  have hcu : u.cell? ⟨w2.heap.size, 2, none⟩ = some (.int .i64 x2) := by
    rw [cell_of_row u _ _ _ 65 (0, 0) gu, hca.out]; rfl
  have hfu : u.frozen? ⟨w2.heap.size, 2, none⟩ = false := by
    simp [World.frozen?, gu]
  have GU : Hid ((u.setCell ⟨w2.heap.size, 2, none⟩ (.int .i64 n)).heap[w2.heap.size]? = some (.cells cc.toArray 65 (0, 0))) := by
    show _ = _
    rw [setCell_row 2 _ gu, hca.out, hcc.out]; rfl
  have BU2 : Hid (Below w2.heap.size w2 (u.setCell ⟨w2.heap.size, 2, none⟩ (.int .i64 n))) := BU.trans ⟨rfl, rfl, rfl, by simp, fun k hk => Below.heap_setCell u ⟨w2.heap.size, 2, none⟩ _ k (Nat.ne_of_lt hk)⟩
  clear hu gu BU G
  go_wp2_with (refine wpList_load_row rfl 65 (.tmp 17) rfl w2.heap.size rfl 65 cc.toArray (0, 0) _ GU.out Try.underlying65 rfl IC.out ?_)
  refine (putCmd_w cc vc _ (reps.out _ (HBA.out.trans ((T2.trans (BU2.out.mono T2.size)).mono (by omega)))).2.2).mono ?_
  rintro e w3 ⟨val, he, oZ, _, bz⟩
  simp only [codeB, bytesB, HFC.out, if_true] at he oZ
  obtain ⟨aZ, cZ, hv, hbsZ⟩ := oZ.form
  subst hv
  replace hbsZ := hbsZ (by simp only [List.length_nil]; omega)
  subst he
  have b3 := BU2.out.trans (bz.mono BU2.out.size)
  have T3 := T2.trans (b3.mono T2.size)
  replace hbsX := hbsX.grow b3
  replace hbsY := hbsY.grow b3
  clear T2 b3 oZ bz BU2 GU hcu hfu
  go_wp2_with fail
  refine (same_any aX aZ _ _ cX cZ [] [] _ rfl rfl hbsX hbsZ).mono ?_
  rintro e w4 ⟨rfl, nq, hw4⟩
  have b4 : Below w3.heap.size w3 w4 := by rw [hw4]; exact ⟨rfl, rfl, rfl, Nat.le_refl _, fun _ _ => rfl⟩
  have T4 := T3.trans (b4.mono T3.size)
  replace hbsX := hbsX.grow b4
  replace hbsY := hbsY.grow b4
  replace hbsZ := hbsZ.grow b4
  clear T3 b4 hw4
  have hq : w4.cell? ⟨W.heap.size, 2, none⟩ = some (.int .i64 x2) := by
    rw [cell_of_row w4 _ _ _ 65 (0, 0) ((T4.block _ (by omega)).trans g0.out), hca.out]; rfl
  have BW := HBA.out.trans (T4.mono (by omega))
  clear hbsX hbsY hbsZ
  generalize decide (([] : List UInt8) = []) = sz
  go_wp2_with fail
  refine (known_any w4).mono ?_
  rintro e w' ⟨rfl, bk⟩
  go_wp2
  go_ret
  exact ⟨rfl, BW.trans (bk.mono BW.size)⟩

set_option maxHeartbeats 2000000 in
set_option maxRecDepth 100000 in
theorem lawApartTTF (W : World) (ca cb cc : List Value) (x0 x1 x2 n : Int) (rest : List Value) (va vb vc : Vl F_cmd) (hca : Hid (ca = .int .i64 x0 :: .int .i64 x1 :: .int .i64 x2 :: rest)) (hcc : Hid (cc = .int .i64 x0 :: .int .i64 x1 :: .int .i64 n :: rest))
    (ha : Rep W (fun b => b < W.heap.size) F_cmd ca va) (hb : Rep W (fun b => b < W.heap.size) F_cmd cb vb) (hc : Rep W (fun b => b < W.heap.size) F_cmd cc vc)
    (_ : Hid ((va = vc) = (x2 = n))) (HFA : Hid ((en F_cmd va).2 = true)) (HFB : Hid ((en F_cmd vb).2 = true)) (HFC : Hid ((en F_cmd vc).2 = false)) :
    Calls Try.prog 6 #[.agg ca.toArray, .agg cb.toArray, .int .i64 n] W fun e w' => e = .returned (.bool true) ∧ Below W.heap.size W w' := by
  have BA : Below W.heap.size W ((W.alloc (.cells ca.toArray 65)).alloc (.cells cb.toArray 65)) := ((Below.refl _ _).alloc (Nat.le_refl _) _).alloc (by rw [World.size_alloc]; omega) _
  have g0 : Hid (((W.alloc (.cells ca.toArray 65)).alloc (.cells cb.toArray 65)).heap[W.heap.size]? = some (.cells ca.toArray 65 (0, 0))) := by
    show _ = _
    rw [Below.heap_alloc _ _ _ (by rw [World.size_alloc]; omega)]; exact heap_alloc_new W _
  have g1 : Hid (((W.alloc (.cells ca.toArray 65)).alloc (.cells cb.toArray 65)).heap[W.heap.size + 1]? = some (.cells cb.toArray 65 (0, 0))) := by
    show _ = _
    have := heap_alloc_new (W.alloc (.cells ca.toArray 65)) (.cells cb.toArray 65)
    rw [World.size_alloc] at this
    exact this
  have zA : ((W.alloc (.cells ca.toArray 65)).alloc (.cells cb.toArray 65)).heap.size = W.heap.size + 2 := by rw [World.size_alloc, World.size_alloc]
  have IA : Hid ((Try.prog.info? 65).map (·.size) = some ca.toArray.size) := by show _ = _; rw [List.size_toArray, ha.len]; exact info_cmdA
  have IB : Hid ((Try.prog.info? 65).map (·.size) = some cb.toArray.size) := by show _ = _; rw [List.size_toArray, hb.len]; exact info_cmdA
  have IC : Hid ((Try.prog.info? 65).map (·.size) = some cc.toArray.size) := by show _ = _; rw [List.size_toArray, hc.len]; exact info_cmdA
  have OA : Hid (ca.toArray.all (·.oneCell') = true) := ha.all
  have SZ : Hid ((#[.int .i64 0, .int .i64 0, .int .i64 0, .int .i64 0, .int .i64 0, .int .i64 0, .int .i64 0, .slice none 0 0, .int .i64 0, .bool false, .int .i64 0, .int .i64 0, .int .i64 0, .bool false, .bool false, .int .i64 0, .int .i64 0, .int .i64 0, .slice none 0 0, .int .i64 0, .int .i64 0, .int .i64 0, .slice none 0 0, .slice none 0 0, .bool false, .slice none 0 0, .slice none 0 0] : Array Value).size = ca.toArray.size) := by
    have h27 : ca.toArray.size = 27 := by rw [List.size_toArray]; exact ha.len
    exact h27.symm
  have reps : Hid (∀ w', Below W.heap.size W w' → Rep w' (fun b => b < w'.heap.size) F_cmd ca va ∧ Rep w' (fun b => b < w'.heap.size) F_cmd cb vb ∧ Rep w' (fun b => b < w'.heap.size) F_cmd cc vc) := fun w' bw =>
    have m : ∀ b, b < W.heap.size → b < w'.heap.size := fun b hb => Nat.lt_of_lt_of_le hb bw.size
    ⟨ha.kept bw.size (fun b hb => bw.block b hb) m, hb.kept bw.size (fun b hb => bw.block b hb) m, hc.kept bw.size (fun b hb => bw.block b hb) m⟩
  have HBA : Hid _ := BA
  have T0 : Below ((W.alloc (.cells ca.toArray 65)).alloc (.cells cb.toArray 65)).heap.size ((W.alloc (.cells ca.toArray 65)).alloc (.cells cb.toArray 65)) ((W.alloc (.cells ca.toArray 65)).alloc (.cells cb.toArray 65)) := Below.refl _ _
  clear ha hb hc BA
  go_enter Try.func6, Try.ntmps6
  have G : Hid (((W.alloc (.cells ca.toArray 65)).alloc (.cells cb.toArray 65)).heap[W.heap.size]? = some (.cells ca.toArray 65 (0, 0))) := (T0.block _ (by omega)).trans g0.out
  go_wp2_with (refine wpList_load_row rfl 65 (.tmp 3) rfl (W.heap.size) rfl 65 ca.toArray (0, 0) _ G.out Try.underlying65 rfl IA.out ?_)
  refine (putCmd_w ca va _ (reps.out _ (HBA.out.trans (T0.mono (by omega)))).1).mono ?_
  clear G
  rintro e w1 ⟨val, he, oX, _, b1⟩
  simp only [codeB, bytesB, HFA.out, if_true] at he oX
  obtain ⟨aX, cX, hv, hbsX⟩ := oX.form
  subst hv
  replace hbsX := hbsX (by simp only [List.length_nil]; omega)
  subst he
  have T1 := T0.trans (b1.mono T0.size)
  clear T0 b1 oX
  have G : Hid (w1.heap[W.heap.size + 1]? = some (.cells cb.toArray 65 (0, 0))) := (T1.block _ (by omega)).trans g1.out
  go_wp2_with (refine wpList_load_row rfl 65 (.tmp 4) rfl (W.heap.size + 1) rfl 65 cb.toArray (0, 0) _ G.out Try.underlying65 rfl IB.out ?_)
  refine (putCmd_w cb vb _ (reps.out _ (HBA.out.trans (T1.mono (by omega)))).2.1).mono ?_
  clear G
  rintro e w2 ⟨val, he, oY, _, b2⟩
  simp only [codeB, bytesB, HFB.out, if_true] at he oY
  obtain ⟨aY, cY, hv, hbsY⟩ := oY.form
  subst hv
  replace hbsY := hbsY (by simp only [List.length_nil]; omega)
  subst he
  have T2 := T1.trans (b2.mono T1.size)
  replace hbsX := hbsX.grow b2
  clear T1 b2 oY
  have G : Hid (w2.heap[W.heap.size]? = some (.cells ca.toArray 65 (0, 0))) := (T2.block _ (by omega)).trans g0.out
  go_wp2_with (first
    | refine wpList_load_row rfl 65 (.tmp 3) rfl W.heap.size rfl 65 ca.toArray (0, 0) _ G.out Try.underlying65 rfl IA.out ?_
    | refine wpList_store_rowF rfl 65 (.tmp 17) (.tmp 56) rfl w2.heap.size ca.toArray rfl rfl 65 #[.int .i64 0, .int .i64 0, .int .i64 0, .int .i64 0, .int .i64 0, .int .i64 0, .int .i64 0, .slice none 0 0, .int .i64 0, .bool false, .int .i64 0, .int .i64 0, .int .i64 0, .bool false, .bool false, .int .i64 0, .int .i64 0, .int .i64 0, .slice none 0 0, .int .i64 0, .int .i64 0, .int .i64 0, .slice none 0 0, .slice none 0 0, .bool false, .slice none 0 0, .slice none 0 0] (heap_alloc_new w2 (.cells #[.int .i64 0, .int .i64 0, .int .i64 0, .int .i64 0, .int .i64 0, .int .i64 0, .int .i64 0, .slice none 0 0, .int .i64 0, .bool false, .int .i64 0, .int .i64 0, .int .i64 0, .bool false, .bool false, .int .i64 0, .int .i64 0, .int .i64 0, .slice none 0 0, .int .i64 0, .int .i64 0, .int .i64 0, .slice none 0 0, .slice none 0 0, .bool false, .slice none 0 0, .slice none 0 0] 65)) IA.out SZ.out OA.out ?next)
  case next =>
  intro u hu
  have BU : Below w2.heap.size w2 u := by
    rw [hu.out]
    exact ((Below.refl _ _).alloc (Nat.le_refl _) _).trans ⟨rfl, rfl, rfl, by simp [World.setRow], fun kk hkk => setRow_other _ _ _ _ (by omega)⟩
  have gu : u.heap[w2.heap.size]? = some (.cells ca.toArray 65 (0, 0)) := by
    rw [hu.out]; exact setRow_heap _ _ _ _ 65 _ (heap_alloc_new w2 (.cells #[.int .i64 0, .int .i64 0, .int .i64 0, .int .i64 0, .int .i64 0, .int .i64 0, .int .i64 0, .slice none 0 0, .int .i64 0, .bool false, .int .i64 0, .int .i64 0, .int .i64 0, .bool false, .bool false, .int .i64 0, .int .i64 0, .int .i64 0, .slice none 0 0, .int .i64 0, .int .i64 0, .int .i64 0, .slice none 0 0, .slice none 0 0, .bool false, .slice none 0 0, .slice none 0 0] 65))
  have hcu : u.cell? ⟨w2.heap.size, 2, none⟩ = some (.int .i64 x2) := by
    rw [cell_of_row u _ _ _ 65 (0, 0) gu, hca.out]; rfl
  have hfu : u.frozen? ⟨w2.heap.size, 2, none⟩ = false := by
    simp [World.frozen?, gu]
  have GU : Hid ((u.setCell ⟨w2.heap.size, 2, none⟩ (.int .i64 n)).heap[w2.heap.size]? = some (.cells cc.toArray 65 (0, 0))) := by
    show _ = _
    rw [setCell_row 2 _ gu, hca.out, hcc.out]; rfl
  have BU2 : Hid (Below w2.heap.size w2 (u.setCell ⟨w2.heap.size, 2, none⟩ (.int .i64 n))) := BU.trans ⟨rfl, rfl, rfl, by simp, fun k hk => Below.heap_setCell u ⟨w2.heap.size, 2, none⟩ _ k (Nat.ne_of_lt hk)⟩
  clear hu gu BU G
  go_wp2_with (refine wpList_load_row rfl 65 (.tmp 17) rfl w2.heap.size rfl 65 cc.toArray (0, 0) _ GU.out Try.underlying65 rfl IC.out ?_)
  refine (putCmd_w cc vc _ (reps.out _ (HBA.out.trans ((T2.trans (BU2.out.mono T2.size)).mono (by omega)))).2.2).mono ?_
  rintro e w3 ⟨val, he, oZ, _, bz⟩
  simp only [codeB, bytesB, HFC.out, Bool.false_eq_true, if_false] at he oZ
  obtain ⟨aZ, cZ, hv, hbsZ⟩ := oZ.form
  subst hv
  replace hbsZ := hbsZ (Nat.le_trans (Nat.le_trans (en_len F_cmd _) mx_cmdA) (by omega))
  subst he
  have b3 := BU2.out.trans (bz.mono BU2.out.size)
  have T3 := T2.trans (b3.mono T2.size)
  replace hbsX := hbsX.grow b3
  replace hbsY := hbsY.grow b3
  clear T2 b3 oZ bz BU2 GU hcu hfu
  go_wp2_with fail
  refine (same_any aX aZ _ _ cX cZ [] (en F_cmd vc).1 _ rfl rfl hbsX hbsZ).mono ?_
  rintro e w4 ⟨rfl, nq, hw4⟩
  have b4 : Below w3.heap.size w3 w4 := by rw [hw4]; exact ⟨rfl, rfl, rfl, Nat.le_refl _, fun _ _ => rfl⟩
  have T4 := T3.trans (b4.mono T3.size)
  replace hbsX := hbsX.grow b4
  replace hbsY := hbsY.grow b4
  replace hbsZ := hbsZ.grow b4
  clear T3 b4 hw4
  have hq : w4.cell? ⟨W.heap.size, 2, none⟩ = some (.int .i64 x2) := by
    rw [cell_of_row w4 _ _ _ 65 (0, 0) ((T4.block _ (by omega)).trans g0.out), hca.out]; rfl
  have BW := HBA.out.trans (T4.mono (by omega))
  clear hbsX hbsY hbsZ
  generalize decide (([] : List UInt8) = (en F_cmd vc).1) = sz
  go_wp2_with fail
  refine (known_any w4).mono ?_
  rintro e w' ⟨rfl, bk⟩
  go_wp2
  go_ret
  exact ⟨rfl, BW.trans (bk.mono BW.size)⟩

set_option maxHeartbeats 2000000 in
set_option maxRecDepth 100000 in
theorem lawApartTTT (W : World) (ca cb cc : List Value) (x0 x1 x2 n : Int) (rest : List Value) (va vb vc : Vl F_cmd) (hca : Hid (ca = .int .i64 x0 :: .int .i64 x1 :: .int .i64 x2 :: rest)) (hcc : Hid (cc = .int .i64 x0 :: .int .i64 x1 :: .int .i64 n :: rest))
    (ha : Rep W (fun b => b < W.heap.size) F_cmd ca va) (hb : Rep W (fun b => b < W.heap.size) F_cmd cb vb) (hc : Rep W (fun b => b < W.heap.size) F_cmd cc vc)
    (_ : Hid ((va = vc) = (x2 = n))) (HFA : Hid ((en F_cmd va).2 = true)) (HFB : Hid ((en F_cmd vb).2 = true)) (HFC : Hid ((en F_cmd vc).2 = true)) :
    Calls Try.prog 6 #[.agg ca.toArray, .agg cb.toArray, .int .i64 n] W fun e w' => e = .returned (.bool true) ∧ Below W.heap.size W w' := by
  have BA : Below W.heap.size W ((W.alloc (.cells ca.toArray 65)).alloc (.cells cb.toArray 65)) := ((Below.refl _ _).alloc (Nat.le_refl _) _).alloc (by rw [World.size_alloc]; omega) _
  have g0 : Hid (((W.alloc (.cells ca.toArray 65)).alloc (.cells cb.toArray 65)).heap[W.heap.size]? = some (.cells ca.toArray 65 (0, 0))) := by
    show _ = _
    rw [Below.heap_alloc _ _ _ (by rw [World.size_alloc]; omega)]; exact heap_alloc_new W _
  have g1 : Hid (((W.alloc (.cells ca.toArray 65)).alloc (.cells cb.toArray 65)).heap[W.heap.size + 1]? = some (.cells cb.toArray 65 (0, 0))) := by
    show _ = _
    have := heap_alloc_new (W.alloc (.cells ca.toArray 65)) (.cells cb.toArray 65)
    rw [World.size_alloc] at this
    exact this
  have zA : ((W.alloc (.cells ca.toArray 65)).alloc (.cells cb.toArray 65)).heap.size = W.heap.size + 2 := by rw [World.size_alloc, World.size_alloc]
  have IA : Hid ((Try.prog.info? 65).map (·.size) = some ca.toArray.size) := by show _ = _; rw [List.size_toArray, ha.len]; exact info_cmdA
  have IB : Hid ((Try.prog.info? 65).map (·.size) = some cb.toArray.size) := by show _ = _; rw [List.size_toArray, hb.len]; exact info_cmdA
  have IC : Hid ((Try.prog.info? 65).map (·.size) = some cc.toArray.size) := by show _ = _; rw [List.size_toArray, hc.len]; exact info_cmdA
  have OA : Hid (ca.toArray.all (·.oneCell') = true) := ha.all
  have SZ : Hid ((#[.int .i64 0, .int .i64 0, .int .i64 0, .int .i64 0, .int .i64 0, .int .i64 0, .int .i64 0, .slice none 0 0, .int .i64 0, .bool false, .int .i64 0, .int .i64 0, .int .i64 0, .bool false, .bool false, .int .i64 0, .int .i64 0, .int .i64 0, .slice none 0 0, .int .i64 0, .int .i64 0, .int .i64 0, .slice none 0 0, .slice none 0 0, .bool false, .slice none 0 0, .slice none 0 0] : Array Value).size = ca.toArray.size) := by
    have h27 : ca.toArray.size = 27 := by rw [List.size_toArray]; exact ha.len
    exact h27.symm
  have reps : Hid (∀ w', Below W.heap.size W w' → Rep w' (fun b => b < w'.heap.size) F_cmd ca va ∧ Rep w' (fun b => b < w'.heap.size) F_cmd cb vb ∧ Rep w' (fun b => b < w'.heap.size) F_cmd cc vc) := fun w' bw =>
    have m : ∀ b, b < W.heap.size → b < w'.heap.size := fun b hb => Nat.lt_of_lt_of_le hb bw.size
    ⟨ha.kept bw.size (fun b hb => bw.block b hb) m, hb.kept bw.size (fun b hb => bw.block b hb) m, hc.kept bw.size (fun b hb => bw.block b hb) m⟩
  have HBA : Hid _ := BA
  have T0 : Below ((W.alloc (.cells ca.toArray 65)).alloc (.cells cb.toArray 65)).heap.size ((W.alloc (.cells ca.toArray 65)).alloc (.cells cb.toArray 65)) ((W.alloc (.cells ca.toArray 65)).alloc (.cells cb.toArray 65)) := Below.refl _ _
  clear ha hb hc BA
  go_enter Try.func6, Try.ntmps6
  have G : Hid (((W.alloc (.cells ca.toArray 65)).alloc (.cells cb.toArray 65)).heap[W.heap.size]? = some (.cells ca.toArray 65 (0, 0))) := (T0.block _ (by omega)).trans g0.out
  go_wp2_with (refine wpList_load_row rfl 65 (.tmp 3) rfl (W.heap.size) rfl 65 ca.toArray (0, 0) _ G.out Try.underlying65 rfl IA.out ?_)
  refine (putCmd_w ca va _ (reps.out _ (HBA.out.trans (T0.mono (by omega)))).1).mono ?_
  clear G
  rintro e w1 ⟨val, he, oX, _, b1⟩
  simp only [codeB, bytesB, HFA.out, if_true] at he oX
  obtain ⟨aX, cX, hv, hbsX⟩ := oX.form
  subst hv
  replace hbsX := hbsX (by simp only [List.length_nil]; omega)
  subst he
  have T1 := T0.trans (b1.mono T0.size)
  clear T0 b1 oX
  have G : Hid (w1.heap[W.heap.size + 1]? = some (.cells cb.toArray 65 (0, 0))) := (T1.block _ (by omega)).trans g1.out
  go_wp2_with (refine wpList_load_row rfl 65 (.tmp 4) rfl (W.heap.size + 1) rfl 65 cb.toArray (0, 0) _ G.out Try.underlying65 rfl IB.out ?_)
  refine (putCmd_w cb vb _ (reps.out _ (HBA.out.trans (T1.mono (by omega)))).2.1).mono ?_
  clear G
  rintro e w2 ⟨val, he, oY, _, b2⟩
  simp only [codeB, bytesB, HFB.out, if_true] at he oY
  obtain ⟨aY, cY, hv, hbsY⟩ := oY.form
  subst hv
  replace hbsY := hbsY (by simp only [List.length_nil]; omega)
  subst he
  have T2 := T1.trans (b2.mono T1.size)
  replace hbsX := hbsX.grow b2
  clear T1 b2 oY
  have G : Hid (w2.heap[W.heap.size]? = some (.cells ca.toArray 65 (0, 0))) := (T2.block _ (by omega)).trans g0.out
  go_wp2_with (first
    | refine wpList_load_row rfl 65 (.tmp 3) rfl W.heap.size rfl 65 ca.toArray (0, 0) _ G.out Try.underlying65 rfl IA.out ?_
    | refine wpList_store_rowF rfl 65 (.tmp 17) (.tmp 56) rfl w2.heap.size ca.toArray rfl rfl 65 #[.int .i64 0, .int .i64 0, .int .i64 0, .int .i64 0, .int .i64 0, .int .i64 0, .int .i64 0, .slice none 0 0, .int .i64 0, .bool false, .int .i64 0, .int .i64 0, .int .i64 0, .bool false, .bool false, .int .i64 0, .int .i64 0, .int .i64 0, .slice none 0 0, .int .i64 0, .int .i64 0, .int .i64 0, .slice none 0 0, .slice none 0 0, .bool false, .slice none 0 0, .slice none 0 0] (heap_alloc_new w2 (.cells #[.int .i64 0, .int .i64 0, .int .i64 0, .int .i64 0, .int .i64 0, .int .i64 0, .int .i64 0, .slice none 0 0, .int .i64 0, .bool false, .int .i64 0, .int .i64 0, .int .i64 0, .bool false, .bool false, .int .i64 0, .int .i64 0, .int .i64 0, .slice none 0 0, .int .i64 0, .int .i64 0, .int .i64 0, .slice none 0 0, .slice none 0 0, .bool false, .slice none 0 0, .slice none 0 0] 65)) IA.out SZ.out OA.out ?next)
  case next =>
  intro u hu
  have BU : Below w2.heap.size w2 u := by
    rw [hu.out]
    exact ((Below.refl _ _).alloc (Nat.le_refl _) _).trans ⟨rfl, rfl, rfl, by simp [World.setRow], fun kk hkk => setRow_other _ _ _ _ (by omega)⟩
  have gu : u.heap[w2.heap.size]? = some (.cells ca.toArray 65 (0, 0)) := by
    rw [hu.out]; exact setRow_heap _ _ _ _ 65 _ (heap_alloc_new w2 (.cells #[.int .i64 0, .int .i64 0, .int .i64 0, .int .i64 0, .int .i64 0, .int .i64 0, .int .i64 0, .slice none 0 0, .int .i64 0, .bool false, .int .i64 0, .int .i64 0, .int .i64 0, .bool false, .bool false, .int .i64 0, .int .i64 0, .int .i64 0, .slice none 0 0, .int .i64 0, .int .i64 0, .int .i64 0, .slice none 0 0, .slice none 0 0, .bool false, .slice none 0 0, .slice none 0 0] 65))
  have hcu : u.cell? ⟨w2.heap.size, 2, none⟩ = some (.int .i64 x2) := by
    rw [cell_of_row u _ _ _ 65 (0, 0) gu, hca.out]; rfl
  have hfu : u.frozen? ⟨w2.heap.size, 2, none⟩ = false := by
    simp [World.frozen?, gu]
  have GU : Hid ((u.setCell ⟨w2.heap.size, 2, none⟩ (.int .i64 n)).heap[w2.heap.size]? = some (.cells cc.toArray 65 (0, 0))) := by
    show _ = _
    rw [setCell_row 2 _ gu, hca.out, hcc.out]; rfl
  have BU2 : Hid (Below w2.heap.size w2 (u.setCell ⟨w2.heap.size, 2, none⟩ (.int .i64 n))) := BU.trans ⟨rfl, rfl, rfl, by simp, fun k hk => Below.heap_setCell u ⟨w2.heap.size, 2, none⟩ _ k (Nat.ne_of_lt hk)⟩
  clear hu gu BU G
  go_wp2_with (refine wpList_load_row rfl 65 (.tmp 17) rfl w2.heap.size rfl 65 cc.toArray (0, 0) _ GU.out Try.underlying65 rfl IC.out ?_)
  refine (putCmd_w cc vc _ (reps.out _ (HBA.out.trans ((T2.trans (BU2.out.mono T2.size)).mono (by omega)))).2.2).mono ?_
  rintro e w3 ⟨val, he, oZ, _, bz⟩
  simp only [codeB, bytesB, HFC.out, if_true] at he oZ
  obtain ⟨aZ, cZ, hv, hbsZ⟩ := oZ.form
  subst hv
  replace hbsZ := hbsZ (by simp only [List.length_nil]; omega)
  subst he
  have b3 := BU2.out.trans (bz.mono BU2.out.size)
  have T3 := T2.trans (b3.mono T2.size)
  replace hbsX := hbsX.grow b3
  replace hbsY := hbsY.grow b3
  clear T2 b3 oZ bz BU2 GU hcu hfu
  go_wp2_with fail
  refine (same_any aX aZ _ _ cX cZ [] [] _ rfl rfl hbsX hbsZ).mono ?_
  rintro e w4 ⟨rfl, nq, hw4⟩
  have b4 : Below w3.heap.size w3 w4 := by rw [hw4]; exact ⟨rfl, rfl, rfl, Nat.le_refl _, fun _ _ => rfl⟩
  have T4 := T3.trans (b4.mono T3.size)
  replace hbsX := hbsX.grow b4
  replace hbsY := hbsY.grow b4
  replace hbsZ := hbsZ.grow b4
  clear T3 b4 hw4
  have hq : w4.cell? ⟨W.heap.size, 2, none⟩ = some (.int .i64 x2) := by
    rw [cell_of_row w4 _ _ _ 65 (0, 0) ((T4.block _ (by omega)).trans g0.out), hca.out]; rfl
  have BW := HBA.out.trans (T4.mono (by omega))
  clear hbsX hbsY hbsZ
  generalize decide (([] : List UInt8) = []) = sz
  go_wp2_with fail
  refine (known_any w4).mono ?_
  rintro e w' ⟨rfl, bk⟩
  go_wp2
  go_ret
  exact ⟨rfl, BW.trans (bk.mono BW.size)⟩
theorem lawApart (W : World) (ca cb : List Value) (va vb : Vl F_cmd) (n : Int) (ha : Rep W (fun b => b < W.heap.size) F_cmd ca va) (hb : Rep W (fun b => b < W.heap.size) F_cmd cb vb) :
    Calls Try.prog 6 #[.agg ca.toArray, .agg cb.toArray, .int .i64 n] W fun e w' => e = .returned (.bool true) ∧ Below W.heap.size W w' := by
  obtain ⟨x0, x1, x2, r, hca, hv, hr⟩ : ∃ x0 x1 x2 r, ca = .int .i64 x0 :: .int .i64 x1 :: .int .i64 x2 :: r ∧ va = (x0, x1, x2, va.2.2.2) ∧ Rep W (fun b => b < W.heap.size) F_cmd (.int .i64 x0 :: .int .i64 x1 :: .int .i64 n :: r) (x0, x1, n, va.2.2.2) := by
    obtain ⟨r0, q0, rfl, f0, h0⟩ := ha
    obtain ⟨r1, q1, rfl, f1, h1⟩ := h0
    obtain ⟨r2, q2, rfl, f2, h2⟩ := h1
    obtain rfl : r0 = _ := f0
    obtain rfl : r1 = _ := f1
    obtain rfl : r2 = _ := f2
    exact ⟨_, _, _, q2, rfl, rfl, ⟨[.int .i64 va.1], _, rfl, rfl, ⟨[.int .i64 va.2.1], _, rfl, rfl, ⟨[.int .i64 n], q2, rfl, rfl, h2⟩⟩⟩⟩
  have HVC : Hid ((va = (x0, x1, n, va.2.2.2)) = (x2 = n)) := by
    show _ = _
    refine propext ⟨fun h => ?_, fun h => ?_⟩
    · rw [hv] at h
      exact congrArg (fun v : Vl F_cmd => v.2.2.1) h
    · rw [← h]; exact hv
  have HCA : Hid (ca = .int .i64 x0 :: .int .i64 x1 :: .int .i64 x2 :: r) := hca
  cases fa : (en F_cmd va).2 <;> cases fb : (en F_cmd vb).2 <;> cases fc : (en F_cmd (x0, x1, n, va.2.2.2)).2
  · exact lawApartFFF W ca cb _ x0 x1 x2 n r va vb _ HCA rfl ha hb hr HVC fa fb fc
  · exact lawApartFFT W ca cb _ x0 x1 x2 n r va vb _ HCA rfl ha hb hr HVC fa fb fc
  · exact lawApartFTF W ca cb _ x0 x1 x2 n r va vb _ HCA rfl ha hb hr HVC fa fb fc
  · exact lawApartFTT W ca cb _ x0 x1 x2 n r va vb _ HCA rfl ha hb hr HVC fa fb fc
  · exact lawApartTFF W ca cb _ x0 x1 x2 n r va vb _ HCA rfl ha hb hr HVC fa fb fc
  · exact lawApartTFT W ca cb _ x0 x1 x2 n r va vb _ HCA rfl ha hb hr HVC fa fb fc
  · exact lawApartTTF W ca cb _ x0 x1 x2 n r va vb _ HCA rfl ha hb hr HVC fa fb fc
  · exact lawApartTTT W ca cb _ x0 x1 x2 n r va vb _ HCA rfl ha hb hr HVC fa fb fc

theorem lawApartX (W : World) (ca : Array Value) (va : Vl F_cmd) (ha : Rep W (fun b => b < W.heap.size) F_cmd ca.toList va) (cb : Array Value) (vb : Vl F_cmd) (hb : Rep W (fun b => b < W.heap.size) F_cmd cb.toList vb) (n : Int) (_ : (Lit.int .i64 n).wf = true) :
    Calls Try.prog 6 #[.agg ca, .agg cb, .int .i64 n] W fun e w' => e = .returned (.bool true) ∧ Below W.heap.size W w' := by
  have h := lawApart W ca.toList cb.toList va vb n ha hb
  rwa [Array.toArray_toList, Array.toArray_toList] at h

end Go.Proofs.Ytpbokgeaolpiaab
