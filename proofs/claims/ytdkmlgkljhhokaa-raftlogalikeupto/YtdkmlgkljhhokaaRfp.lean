/- The document's log: Put. -/
import Derived.Test.YtdkmlgkljhhokaaRfb
namespace Go.Proofs.Ytdkmlgkljhhokaa
open Go.RowKit

section
variable {w0 w : World} {p : Nat} {M : Lg} {v : Value}
def RuP (w0 w : World) (p : Nat) (v : Value) (E : Int) (x : En) (M' : Lg) (e : Ending) (w' : World) : Prop := ∃ c v', e = .returned (.tuple #[.agg c.toArray, .int .i64 E]) ∧ EnR w0 w' c x ∧ LgR w0 w' 69 p M' v' ∧ Chg w w' (fun k => k = p) ∧ Nx w v v'
theorem RuP.mk {w' : World} {E : Int} {x : En} {c : List Value} {M' : Lg} {v' : Value} (h0 : EnR w0 w' c x) (h1 : LgR w0 w' 69 p M' v') (h2 : Chg w w' (fun k => k = p)) (h3 : Nx w v v') : RuP w0 w p v E x M' (.returned (.tuple #[.agg c.toArray, .int .i64 E])) w' := ⟨c, v', rfl, h0, h1, h2, h3⟩
set_option maxHeartbeats 4000000 in
set_option maxRecDepth 100000 in
theorem rput_no (h : LgR w0 w 69 p M v) (t op : Int) (hE : putE M t ≠ 0) : Calls Try.prog 24 #[.pointer (some ⟨p, 0, none⟩), .int .i64 t, .agg (Zm op)] w (RuP w0 w p v (putE M t) ⟨0, 0, 0, 0⟩ M) := by
  have HL := hidOf (rlast_any (h.below (pW_bel w op)))
  have HPL := hidOf (h.below (pW_bel w op))
  have HPB := hidOf (pW_bel w op)
  have HPR := hidOf (pW_res w op)
  have hcs : (t < lastT M ∧ putE M t = 1) ∨ (¬ t < lastT M ∧ t < 1 ∧ putE M t = 1) ∨ (¬ t < lastT M ∧ ¬ t < 1 ∧ 1099511627776 < t ∧ putE M t = 1) ∨ (¬ t < lastT M ∧ ¬ t < 1 ∧ ¬ 1099511627776 < t ∧ lastI M = 1099511627776 ∧ putE M t = 2) := by
    unfold putE at hE ⊢
    split at hE
    · rename_i hc
      rw [if_pos hc]
      omega
    · rename_i hc
      split at hE
      · rename_i hd
        rw [if_neg hc, if_pos hd]
        omega
      · exact absurd rfl hE
  have hFin : ∀ (E : Int) (w2 : World), w2 = (pW w op).setRow (w.heap.size + 1) Zc.toArray → RuP w0 w p v E ⟨0, 0, 0, 0⟩ M (.returned (.tuple #[.agg Zc.toArray, .int .i64 E])) w2 ∧ w2.heap[w.heap.size + 1]? = some (.cells Zc.toArray 51 (0, 0)) := by
    intro E w2 hw
    have hb : Below w.heap.size w w2 := by
      rw [hw]
      have h1 := pW_bel w op
      exact ⟨h1.os, h1.tape, h1.output, Nat.le_trans h1.size (by simp [World.setRow]), fun k hk => (setRow_other _ _ _ _ (by omega)).trans (h1.block k hk)⟩
    refine ⟨RuP.mk (Zc_zEn ▸ zEnR w0 w2 0 0 0) (h.below hb) (Chg.bel hb) (Nx.refl _ _), ?_⟩
    rw [hw]
    exact setRow_heap _ _ _ _ 51 _ (pW_res w op)
  have HFIN := hidOf hFin
  clear h hE hFin
  generalize putE M t = pe at *
  generalize lastT M = lt at *
  generalize lastI M = li at *
  rcases hcs with ⟨h1, rfl⟩ | ⟨h1, h2, rfl⟩ | ⟨h1, h2, h3, rfl⟩ | ⟨h1, h2, h3, rfl, rfl⟩
  all_goals
    go_enter Try.func24, Try.ntmps24
    go_wp2_with (first
      | (go_at_call 32; refine HL.out.mono ?_; rintro e w1 ⟨rfl, rfl⟩)
      | (refine wpList_store_rowF rfl 51 (.tmp 6) (.tmp 28) rfl (w.heap.size + 1) Zc.toArray rfl rfl 51 Zc.toArray HPR.out Zc_i rfl Zc_o ?_; intro w2 hw2; have HF2 := hidOf (HFIN.out 1 w2 hw2.out); clear hw2)
      | (refine wpList_store_rowF rfl 51 (.tmp 6) (.tmp 31) rfl (w.heap.size + 1) Zc.toArray rfl rfl 51 Zc.toArray HPR.out Zc_i rfl Zc_o ?_; intro w2 hw2; have HF2 := hidOf (HFIN.out 2 w2 hw2.out); clear hw2))
    refine bodyPost_ret ?_ rfl HF2.out.1
    simp [results, Try.results24, asAddr, run_loadVar_row w2 (w.heap.size + 1) 51 51 Zc.toArray (0, 0) _ HF2.out.2 Try.underlying51 rfl Zc_i]

theorem LgR.setv9 {w0 w : World} {p : Nat} {x0 x1 : Int} {v' x2 : Value} {L : List En} (hb : w.heap[p]? = some (.cells #[.int .i64 x0, .int .i64 x1, x2] 69 (0, 0))) (hlo : w0.heap.size ≤ p) (ho : OwR w0 w v' L) (hw : Wf ⟨x0, x1, L⟩) (hl : L.length ≤ 33554432) : LgR w0 (w.setCell ⟨p, 2, none⟩ v') 69 p ⟨x0, x1, L⟩ v' := LgR.setv hb (.inr rfl) hlo ho hw hl
set_option maxHeartbeats 4000000 in
set_option maxRecDepth 100000 in
theorem rput_yes (h : LgR w0 w 69 p M v) (t op : Int) (hE : putE M t = 0) (hlen : M.L.length + 1 ≤ 33554432) : Calls Try.prog 24 #[.pointer (some ⟨p, 0, none⟩), .int .i64 t, .agg (Zm op)] w (RuP w0 w p v 0 (putX M t op 0) (putM M t op 0)) := by
  have HL := hidOf (rlast_any (h.below (pW_bel w op)))
  have HPC := hidOf (pW_cmd w op)
  have HWF := hidOf (h.wf.put t op 0)
  rw [(putX_eq hE).2] at HWF
  rw [(putX_eq hE).1, (putX_eq hE).2]
  have hcs : ¬ t < lastT M ∧ ¬ t < 1 ∧ ¬ 1099511627776 < t ∧ ¬ lastI M = 1099511627776 := by
    unfold putE at hE
    split at hE
    · cases hE
    · split at hE
      · cases hE
      · omega
  have hli := h.wf.lastI_le
  have hb0 := h.wf.b0
  have hps : (pW w op).heap.size = w.heap.size + 2 := pW_size w op
  have HNW : Hid (((pW w op).alloc (.cells Zc.toArray 51)).heap[w.heap.size + 2]? = some (.cells Zc.toArray 51 (0, 0))) := hidOf (by
    have h5 := heap_alloc_new (pW w op) (.cells Zc.toArray 51)
    rw [hps] at h5
    exact h5)
  have HX : Hid (∀ (X : World), X = ((pW w op).alloc (.cells Zc.toArray 51)).setRow (w.heap.size + 2) (zEn (lastI M + 1) t op).toArray → Below w.heap.size w X ∧ X.heap[w.heap.size + 1]? = some (.cells Zc.toArray 51 (0, 0)) ∧ X.heap[w.heap.size + 2]? = some (.cells (zEn (lastI M + 1) t op).toArray 51 (0, 0))) := by
    refine hidOf (fun X hX => ?_)
    have h1 := pW_bel w op
    have h3 := below1 (pW w op) (.cells Zc.toArray 51)
    rw [hX]
    exact ⟨⟨h1.os, h1.tape, h1.output, Nat.le_trans h1.size (by simp [World.setRow]), fun k hk => (setRow_other _ _ _ _ (by omega)).trans ((h3.block k (by omega)).trans (h1.block k hk))⟩, (setRow_other _ _ _ _ (by omega)).trans ((h3.block _ (by omega)).trans (pW_res w op)), setRow_heap _ _ Zc.toArray _ 51 _ HNW.out⟩
  have H := hidOf h
  obtain ⟨va, vc, hv⟩ := h.form
  subst hv
  obtain ⟨q1, q2, q3, q4⟩ := hcs
  have q5 : (lastI M == 1099511627776) = false := beq_false_of_ne q4
  have hpl := heap_lt h.blk
  clear h hE q4
  have HML : Hid (M.L.length + 1 ≤ 33554432) := hidOf hlen
  generalize lastT M = lt at *
  generalize lastI M = li at *
  go_enter Try.func24, Try.ntmps24
  go_upto_region 7 with (first
    | (go_at_call 32; refine HL.out.mono ?_; rintro e w1 ⟨rfl, rfl⟩)
    | (refine wpList_load_row rfl 49 (.tmp 5) rfl w.heap.size rfl 49 (Zm op) (0, 0) _ HPC.out Try.underlying49 rfl (Zm_i op) ?_; simp only [Zm])
    | (refine wpList_store_rowF rfl 51 (.tmp 10) (.tmp 36) rfl (w.heap.size + 2) (zEn (li + 1) t op).toArray rfl rfl 51 Zc.toArray HNW.out Zc_i rfl (all_oneCell_toArray (zEn_o _ _ _)) ?_; intro X hX; have HXF := hidOf (HX.out X hX.out); clear hX))
  have HLX := hidOf (H.out.below HXF.out.1)
  obtain ⟨c0, c1, c2, hpX, hfz⟩ := HLX.out.cells
  have hwX := HLX.out.w0le
  have HRX : Hid (X.rangeAt (w.heap.size + 2) 0 (zEn (li + 1) t op)) := hidOf (fun j u hj => by
    rw [Nat.zero_add, cell_of_row X _ _ _ 51 (0, 0) HXF.out.2.2]
    simpa using hj)
  have HEN := hidOf (zEnR w0 X (li + 1) t op)
  go_upto_region 9 with (at_builtin; refine wpList_app _ rfl (.tmp 37) (.tmp 41) rfl w0 hwX (.slice none 0 0) _ [] M.L rfl (OwR.nil _ _) rfl HLX.out.own.es (by have := HML.out; simp; omega) ?_; intro v3 w3 a1 a2 a3; rw [List.nil_append] at a1; have A1 := hidOf a1; have hb3 : Below X.heap.size X w3 := a2.below (Nat.le_refl _) (fun k hk => by cases hk); have HB3 := hidOf hb3; have HN3 := hidOf (show ∀ x, v3.ownBlock = some x → X.heap.size ≤ x from fun x hx => (by rcases a3 with e | e <;> rw [e] at hx <;> cases hx; exact Nat.le_refl _)); have HRG3 := hidOf (range_of HRX.out (hb3.block _ (heap_lt HXF.out.2.2))); have HL3 := hidOf (HLX.out.below hb3); have hw3 : w0.heap.size ≤ w3.heap.size := Nat.le_trans hwX hb3.size; obtain ⟨a3', k3', hv3⟩ := a1.es.form; subst hv3; clear a1 a2 a3 hb3)
  go_upto_region 10 with (first
    | (refine wpList_load_mid rfl 51 (.tmp 10) rfl (w.heap.size + 2) 0 rfl (zEn (li + 1) t op) _ HRG3.out Try.underlying51 rfl Zc_i ?_)
    | (refine wpList_bs1 rfl (.tmp 44) rfl (zEn (li + 1) t op) rfl rfl ?_)
    | (at_builtin; refine wpList_app _ rfl (.tmp 43) (.tmp 45) rfl w0 (Nat.le_trans hw3 (by simp)) _ _ M.L [⟨li + 1, t, op, 0⟩] rfl (A1.out.below hw3 (below1 w3 _)) rfl (es_one w0 w3 _ _ (zEnR w0 w3 (li + 1) t op) hw3) (by have := HML.out; simp; omega) ?_; intro v4 w4 a1 a2 a3; have A4 := hidOf a1; have hb4 : Below X.heap.size X w4 := (HB3.out.trans ((below1 w3 _).mono HB3.out.size)).trans (a2.below (Nat.le_trans HB3.out.size (by simp)) HN3.out); have HB4 := hidOf hb4; have HN4 := hidOf (show ∀ x, v4.ownBlock = some x → X.heap.size ≤ x from fun x hx => (by rcases a3 with e | e; exact HN3.out x (e ▸ hx); (rw [e] at hx; have h5 := Option.some.inj hx; have h6 := HB3.out.size; simp at h5; omega))); obtain ⟨a4', n4', k4', hv4⟩ : ∃ a n c, v4 = Value.slice a n c := (by obtain ⟨a, c, h⟩ := a1.es.form; exact ⟨a, _, c, h⟩); subst hv4; have HL4 := hidOf (HLX.out.below hb4); obtain ⟨z0, z1, z2, z3, z4⟩ := HL4.out.cells; clear a1 a2 a3 hb4))
  have HC4 : Hid (Below w.heap.size w w4) := hidOf (HXF.out.1.trans (HB4.out.mono HXF.out.1.size))
  obtain ⟨Y, hY⟩ : ∃ Y, Y = w4.setCell ⟨p, 2, none⟩ (.slice a4' n4' k4') := ⟨_, rfl⟩
  have HLY : Hid (LgR w0 Y 69 p ⟨M.bi, M.bt, M.L ++ [⟨li + 1, t, op, 0⟩]⟩ (.slice a4' n4' k4')) := by rw [hY]; exact hidOf (LgR.setv9 HL4.out.blk H.out.lo A4.out HWF.out (by have := HML.out; simp; omega))
  have HRY : Hid (Y.rangeAt (w.heap.size + 2) 0 (zEn (li + 1) t op)) := by rw [hY]; exact hidOf (range_of (range_of HRX.out (HB4.out.block _ (heap_lt HXF.out.2.2))) (Below.heap_setCell w4 ⟨p, 2, none⟩ _ _ (show w.heap.size + 2 ≠ p by omega)))
  have HZY : Hid (Y.heap[w.heap.size + 1]? = some (.cells Zc.toArray 51 (0, 0))) := by rw [hY]; exact hidOf ((Below.heap_setCell w4 ⟨p, 2, none⟩ _ _ (show w.heap.size + 1 ≠ p by omega)).trans ((HB4.out.block _ (heap_lt HXF.out.2.1)).trans HXF.out.2.1))
  have HCY : Hid (Chg w Y (fun k => k = p)) := by
    rw [hY]
    exact hidOf ((Chg.bel HC4.out).trans (T := fun k => k = p) ⟨rfl, rfl, rfl, by simp, fun i _ hn => Below.heap_setCell w4 ⟨p, 2, none⟩ _ i hn⟩ (fun _ e => .inl e))
  have hxs := heap_lt HXF.out.2.2
  have HNV : Hid (Nx w (.slice va M.L.length vc) (.slice a4' n4' k4') ∧ (Value.slice a4' n4' k4').ownBlock ≠ some (w.heap.size + 1)) := hidOf ⟨fun k hk => .inr (by have := HN4.out k hk; omega), fun hk => by have := HN4.out _ hk; omega⟩
  go_wp2_with (first
    | (refine wpList_load_mid rfl 51 (.tmp 10) rfl (w.heap.size + 2) 0 rfl (zEn (li + 1) t op) _ (hY ▸ HRY.out) Try.underlying51 rfl Zc_i ?_)
    | (refine wpList_store_rowF rfl 51 (.tmp 6) (.tmp 51) rfl (w.heap.size + 1) (zEn (li + 1) t op).toArray rfl rfl 51 Zc.toArray (hY ▸ HZY.out) Zc_i rfl (all_oneCell_toArray (zEn_o _ _ _)) ?_; intro w7 hw7))
  rw [← hY] at hw7
  have hkp : Kp w0 Y w7 := by rw [hw7.out]; exact kp_row HZY.out (by have := H.out.w0le; omega) _
  have hl7 : w7.heap[w.heap.size + 1]? = some (.cells (zEn (li + 1) t op).toArray 51 (0, 0)) := by rw [hw7.out]; exact setRow_heap _ _ _ _ 51 _ HZY.out
  have hc7 : Chg Y w7 (fun k => k = w.heap.size + 1) := by rw [hw7.out]; exact ⟨rfl, rfl, rfl, by simp [World.setRow], fun k _ hk => setRow_other _ _ _ _ hk⟩
  refine bodyPost_ret (v := .tuple #[.agg (zEn (li + 1) t op).toArray, .int .i64 0]) ?_ rfl (RuP.mk (zEnR w0 w7 (li + 1) t op) (HLY.out.row hkp hc7 (by omega) HNV.out.2) (HCY.out.trans hc7 (fun k e => .inr (by omega))) HNV.out.1)
  simp [results, Try.results24, asAddr, run_loadVar_row w7 (w.heap.size + 1) 51 51 (zEn (li + 1) t op).toArray (0, 0) _ hl7 Try.underlying51 rfl Zc_i]
theorem rput_any (h : LgR w0 w 69 p M v) (t op : Int) (hlen : M.L.length + 1 ≤ 33554432) : Calls Try.prog 24 #[.pointer (some ⟨p, 0, none⟩), .int .i64 t, .agg (Zm op)] w (RuP w0 w p v (putE M t) (putX M t op 0) (putM M t op 0)) := by
  by_cases hE : putE M t = 0
  · rw [hE]; exact rput_yes h t op hE hlen
  · have h1 : putX M t op 0 = ⟨0, 0, 0, 0⟩ := if_neg hE
    have h2 : putM M t op 0 = M := if_neg hE
    rw [h1, h2]
    exact rput_no h t op hE
end
end Go.Proofs.Ytdkmlgkljhhokaa
