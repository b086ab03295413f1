/- Put. -/
import Derived.Test.YtdkmlgkljhhokaaLgy
import Derived.Great.BuildSlice
namespace Go.Proofs.Ytdkmlgkljhhokaa
open Go.RowKit

def Zm (op : Int) : Array Value := #[.int .i64 op, .int .i64 0, .int .i64 0, .int .i64 0, .int .i64 0, .int .i64 0, .int .i64 0, .slice none 0 0, .int .i64 0, .bool false, .int .i64 0, .int .i64 0, .int .i64 0, .bool false, .bool false, .int .i64 0, .int .i64 0, .int .i64 0, .slice none 0 0, .int .i64 0, .int .i64 0, .int .i64 0, .slice none 0 0, .slice none 0 0, .bool false, .slice none 0 0, .slice none 0 0]
def zEn (ix tm op : Int) : List Value := [.int .i64 ix, .int .i64 tm, .int .i64 op, .int .i64 0, .int .i64 0, .int .i64 0, .int .i64 0, .int .i64 0, .int .i64 0, .slice none 0 0, .int .i64 0, .bool false, .int .i64 0, .int .i64 0, .int .i64 0, .bool false, .bool false, .int .i64 0, .int .i64 0, .int .i64 0, .slice none 0 0, .int .i64 0, .int .i64 0, .int .i64 0, .slice none 0 0, .slice none 0 0, .bool false, .slice none 0 0, .slice none 0 0]
theorem Zm_i (op : Int) : (Try.prog.info? 49).map (·.size) = some (Zm op).size := by kernel_rfl
theorem zEn_o (ix tm op : Int) : ∀ u ∈ zEn ix tm op, u.oneCell' = true := by
  intro u hu
  simp only [zEn, List.mem_cons, List.not_mem_nil, or_false] at hu
  rcases hu with h | h | h | h | h | h | h | h | h | h | h | h | h | h | h | h | h | h | h | h | h | h | h | h | h | h | h | h | h <;> (subst h; rfl)
theorem zEnR (w0 w : World) (ix tm op : Int) : EnR w0 w (zEn ix tm op) ⟨ix, tm, op, 0⟩ :=
  ⟨rfl, rfl, rfl, rfl, rfl, zEn_o ix tm op, ⟨_, rfl, .inl ⟨_, rfl⟩⟩, ⟨_, rfl, .inl ⟨_, rfl⟩⟩, ⟨_, rfl, .inl ⟨_, rfl⟩⟩, ⟨_, rfl, .inl ⟨_, rfl⟩⟩, ⟨_, rfl, .inl ⟨_, rfl⟩⟩, ⟨_, rfl, .inl ⟨_, rfl⟩⟩⟩
theorem Zc_zEn : Zc = zEn 0 0 0 := rfl
theorem run_bs1 (w : World) (c : List Value) (hc : c.length = 29) : (Instr.buildSlice 28 1 #[(0, .agg c.toArray)]).run Try.prog w = .ok (.slice (some ⟨w.heap.size, 0, none⟩) 1 1) (w.alloc (.cells c.toArray 51)) := by
  obtain ⟨i, hi, hz, h1, h2⟩ := info_parts info51
  refine run_buildSlice w 28 51 1 _ c.toArray i _ Try.underlying28 hi hz (by rw [h1]; decide) (by rw [h1]; decide) ?_
  rw [h1]
  have := Great.fill_whole (s := 29) (by decide) [.agg c.toArray] ((Array.range (1 * 29)).map (fun k => (Value.agg Zc.toArray).cells[k % (Value.agg Zc.toArray).cells.size]!)) (fun v hv => by rw [List.mem_singleton.1 hv]; simpa [Value.cells] using hc) (by simp)
  simpa [Value.cells] using this
theorem es_one (w0 w : World) (c : List Value) (e : En) (h : EnR w0 w c e) (h0 : w0.heap.size ≤ w.heap.size) : EsR w0 (w.alloc (.cells c.toArray 51)) (.slice (some ⟨w.heap.size, 0, none⟩) 1 1) [e] := by
  refine .inr ⟨w.heap.size, 0, 1, fun _ => c, rfl, Nat.le_refl _, fun j x hj => ?_⟩
  have hj0 : j = 0 := by have := (List.getElem?_eq_some_iff.1 hj).1; simpa using this
  subst hj0
  simp at hj
  subst hj
  refine ⟨h.kp (Kp.bel h0 (below1 w _)), fun k u hk => ?_⟩
  rw [cell_of_row _ _ _ _ 51 (0, 0) (heap_alloc_new w _)]
  simpa using hk
theorem oper_bs1 {o : Oper} {a : Act} {K : Act → World → Prop} {Q : Exit → Act → World → Prop} (w : World) (x : Operand) (ho : o.op = .buildSlice 28 1 #[(0, x)]) (c : List Value) (hc : c.length = 29) (hx : a.eval x = .agg c.toArray)
    (h : K (a.put o.dst (.slice (some ⟨w.heap.size, 0, none⟩) 1 1)) (w.alloc (.cells c.toArray 51))) : Oper.wp Try.prog o a w K Q := by
  unfold Oper.wp execOp
  simp only [ho, List.map_toArray, List.map_cons, List.map_nil, hx, Sem.run_bind, run_bs1 w c hc, Result.andThen_ok]
  exact h
theorem wpList_bs1 {ops : Array Oper} {rest : List Oper} {o : Oper} {a : Act} {w : World} {Q : Exit → Act → World → Prop} (hg : o.guard = none) (x : Operand) (ho : o.op = .buildSlice 28 1 #[(0, x)]) (c : List Value) (hc : c.length = 29) (hx : a.eval x = .agg c.toArray)
    (h : wpList Try.prog ops Q rest (a.put o.dst (.slice (some ⟨w.heap.size, 0, none⟩) 1 1)) (w.alloc (.cells c.toArray 51))) : wpList Try.prog ops Q (o :: rest) a w :=
  wpList_plain hg fun _ hK => oper_bs1 w x ho c hc hx (hK _ _ h)
theorem kp_row {w0 w : World} {g : Nat} {old : Array Value} (hg : w.heap[g]? = some (.cells old 51 (0, 0))) (h0 : w0.heap.size ≤ g) (cs : Array Value) : Kp w0 w (w.setRow g cs) :=
  ⟨by simp [World.setRow], fun k hk => setRow_other _ _ _ _ (by omega), fun k cur t f hk h1 _ _ => setRow_other _ _ _ _ (fun e => by subst e; rw [hg] at hk; cases hk; exact h1 rfl)⟩
theorem LgR.row {w0 w w' : World} {ty : TypeId} {p g : Nat} {M : Lg} {v : Value} (h : LgR w0 w ty p M v) (hk : Kp w0 w w') (hc : Chg w w' (fun k => k = g)) (hp : p ≠ g) (hv : v.ownBlock ≠ some g) : LgR w0 w' ty p M v :=
  ⟨(hc.block p (heap_lt h.blk) hp).trans h.blk, h.lo, h.own.kept hk (fun b e => by obtain ⟨_, cur, hb⟩ := h.own.blk e; exact hc.block b (heap_lt hb) (fun e2 => hv (by rw [e, e2]))), h.wf, h.len⟩
section
variable {w0 w : World} {p : Nat} {M : Lg} {v : Value}
def PuP (w0 w : World) (p : Nat) (v : Value) (E : Int) (x : En) (M' : Lg) (e : Ending) (w' : World) : Prop := ∃ c v', e = .returned (.tuple #[.agg c.toArray, .int .i64 E]) ∧ EnR w0 w' c x ∧ LgR w0 w' 72 p M' v' ∧ Chg w w' (Sp p v) ∧ Nx w v v'
theorem PuP.mk {w' : World} {E : Int} {x : En} {c : List Value} {M' : Lg} {v' : Value} (h0 : EnR w0 w' c x) (h1 : LgR w0 w' 72 p M' v') (h2 : Chg w w' (Sp p v)) (h3 : Nx w v v') : PuP w0 w p v E x M' (.returned (.tuple #[.agg c.toArray, .int .i64 E])) w' := ⟨c, v', rfl, h0, h1, h2, h3⟩
/- what Put lays first -/
def pW (w : World) (op : Int) : World := (w.alloc (.cells (Zm op) 49)).alloc (.cells Zc.toArray 51)
theorem pW_bel (w : World) (op : Int) : Below w.heap.size w (pW w op) := (below1 w _).alloc (by simp) _
theorem pW_size (w : World) (op : Int) : (pW w op).heap.size = w.heap.size + 1 + 1 := by simp [pW]
theorem pW_cmd (w : World) (op : Int) : (pW w op).heap[w.heap.size]? = some (.cells (Zm op) 49 (0, 0)) := ((below1 (w.alloc (.cells (Zm op) 49)) _).block _ (by simp)).trans (heap_alloc_new w _)
theorem pW_res (w : World) (op : Int) : (pW w op).heap[w.heap.size + 1]? = some (.cells Zc.toArray 51 (0, 0)) := by
  have := heap_alloc_new (w.alloc (.cells (Zm op) 49)) (.cells Zc.toArray 51)
  have e : (w.alloc (.cells (Zm op) 49)).heap.size = w.heap.size + 1 := by simp
  rw [e] at this
  exact this
set_option maxHeartbeats 4000000 in
set_option maxRecDepth 100000 in
theorem put_no (h : LgR w0 w 72 p M v) (t op : Int) (hE : putE M t ≠ 0) : Calls Try.prog 14 #[.pointer (some ⟨p, 0, none⟩), .int .i64 t, .agg (Zm op)] w (PuP w0 w p v (putE M t) ⟨0, 0, 0, 0⟩ M) := by
  have HL := hidOf (last_any (h.below (pW_bel w op)))
  have HPL := hidOf (h.below (pW_bel w op))
  have HPB := hidOf (pW_bel w op)
  have HPR := hidOf (pW_res w op)
  have hcs : (t < lastT M ∧ putE M t = 1) ∨ (¬ t < lastT M ∧ t < 1 ∧ putE M t = 1) ∨ (¬ t < lastT M ∧ ¬ t < 1 ∧ 1099511627776 < t ∧ putE M t = 1) ∨ (¬ t < lastT M ∧ ¬ t < 1 ∧ ¬ 1099511627776 < t ∧ lastI M = 1099511627776 ∧ putE M t = 2) := by
    unfold putE at hE ⊢
    split at hE
    · rename_i hc
      rw [if_pos hc]
      omega
    · rename_i hc
      split at hE
      · rename_i hd
        rw [if_neg hc, if_pos hd]
        omega
      · exact absurd rfl hE
  have hFin : ∀ (E : Int) (n : Nat) (w2 : World), w2 = ((pW w op).drewN n).setRow (w.heap.size + 1) Zc.toArray → PuP w0 w p v E ⟨0, 0, 0, 0⟩ M (.returned (.tuple #[.agg Zc.toArray, .int .i64 E])) w2 ∧ w2.heap[w.heap.size + 1]? = some (.cells Zc.toArray 51 (0, 0)) := by
    intro E n w2 hw
    have hb : Below w.heap.size w w2 := by
      rw [hw]
      have h1 := pW_bel w op
      exact ⟨h1.os, h1.tape, h1.output, Nat.le_trans h1.size (by simp [World.setRow]), fun k hk => (setRow_other _ _ _ _ (by omega)).trans (h1.block k hk)⟩
    refine ⟨PuP.mk (Zc_zEn ▸ zEnR w0 w2 0 0 0) (h.below hb) (Chg.bel hb) (Nx.refl _ _), ?_⟩
    rw [hw]
    exact setRow_heap _ _ _ _ 51 _ (pW_res w op)
  have HFIN := hidOf hFin
  clear h hE hFin
  generalize putE M t = pe at *
  generalize lastT M = lt at *
  generalize lastI M = li at *
  rcases hcs with ⟨h1, rfl⟩ | ⟨h1, h2, rfl⟩ | ⟨h1, h2, h3, rfl⟩ | ⟨h1, h2, h3, rfl, rfl⟩
  all_goals
    go_enter Try.func14, Try.ntmps14
    go_wp2_with (first
      | (go_at_call 16; refine HL.out.mono ?_; rintro e w1 ⟨rfl, nq, rfl⟩)
      | (refine wpList_store_rowF rfl 51 (.tmp 6) (.tmp 27) rfl (w.heap.size + 1) Zc.toArray rfl rfl 51 Zc.toArray HPR.out Zc_i rfl Zc_o ?_; intro w2 hw2; have HF2 := hidOf (HFIN.out 1 _ w2 hw2.out); clear hw2)
      | (refine wpList_store_rowF rfl 51 (.tmp 6) (.tmp 30) rfl (w.heap.size + 1) Zc.toArray rfl rfl 51 Zc.toArray HPR.out Zc_i rfl Zc_o ?_; intro w2 hw2; have HF2 := hidOf (HFIN.out 2 _ w2 hw2.out); clear hw2))
    refine bodyPost_ret ?_ rfl HF2.out.1
    simp [results, Try.results14, asAddr, run_loadVar_row w2 (w.heap.size + 1) 51 51 Zc.toArray (0, 0) _ HF2.out.2 Try.underlying51 rfl Zc_i]

theorem putX_eq {M : Lg} {t op : Int} (h : putE M t = 0) : putX M t op 0 = ⟨lastI M + 1, t, op, 0⟩ ∧ putM M t op 0 = ⟨M.bi, M.bt, M.L ++ [⟨lastI M + 1, t, op, 0⟩]⟩ := ⟨if_pos h, if_pos h⟩
set_option maxHeartbeats 4000000 in
set_option maxRecDepth 100000 in
theorem put_yes (h : LgR w0 w 72 p M v) (t op : Int) (hE : putE M t = 0) (hlen : M.L.length + 1 ≤ 33554432) : Calls Try.prog 14 #[.pointer (some ⟨p, 0, none⟩), .int .i64 t, .agg (Zm op)] w (PuP w0 w p v 0 (putX M t op 0) (putM M t op 0)) := by
  have HL := hidOf (last_any (h.below (pW_bel w op)))
  have HPC := hidOf (pW_cmd w op)
  have HWF := hidOf (h.wf.put t op 0)
  rw [(putX_eq hE).2] at HWF
  rw [(putX_eq hE).1, (putX_eq hE).2]
  have hcs : ¬ t < lastT M ∧ ¬ t < 1 ∧ ¬ 1099511627776 < t ∧ ¬ lastI M = 1099511627776 := by
    unfold putE at hE
    split at hE
    · cases hE
    · split at hE
      · cases hE
      · omega
  have hli := h.wf.lastI_le
  have hb0 := h.wf.b0
  have HX : Hid (∀ (n : Nat) (X : World), X = (((pW w op).drewN n).alloc (.cells Zc.toArray 51)).setRow (w.heap.size + 2) (zEn (lastI M + 1) t op).toArray → Below w.heap.size w X ∧ X.heap[w.heap.size + 1]? = some (.cells Zc.toArray 51 (0, 0)) ∧ X.heap[w.heap.size + 2]? = some (.cells (zEn (lastI M + 1) t op).toArray 51 (0, 0))) := by
    refine hidOf (fun n X hX => ?_)
    have h1 := pW_bel w op
    have h2 := pW_size w op
    have h3 := below1 ((pW w op).drewN n) (.cells Zc.toArray 51)
    have h4 : ((pW w op).drewN n).heap.size = w.heap.size + 2 := h2
    rw [hX]
    refine ⟨⟨h1.os, h1.tape, h1.output, Nat.le_trans h1.size (by simp [World.setRow]), fun k hk => (setRow_other _ _ _ _ (by omega)).trans ((h3.block k (by omega)).trans (h1.block k hk))⟩, (setRow_other _ _ _ _ (by omega)).trans ((h3.block _ (by omega)).trans (pW_res w op)), setRow_heap _ _ Zc.toArray _ 51 _ ?_⟩
    have h5 := heap_alloc_new ((pW w op).drewN n) (.cells Zc.toArray 51)
    rw [h4] at h5
    exact h5
  have H := hidOf h
  have hps : (pW w op).heap.size = w.heap.size + 2 := pW_size w op
  have HNW : Hid (∀ n, (((pW w op).drewN n).alloc (.cells Zc.toArray 51)).heap[w.heap.size + 2]? = some (.cells Zc.toArray 51 (0, 0))) := hidOf (fun n => by
    have h5 := heap_alloc_new ((pW w op).drewN n) (.cells Zc.toArray 51)
    have h4 : ((pW w op).drewN n).heap.size = w.heap.size + 2 := hps
    rw [h4] at h5
    exact h5)
  obtain ⟨va, vc, hv⟩ := h.form
  subst hv
  have HVN : Hid (∀ k, (Value.slice va M.L.length vc).ownBlock = some k → k < w.heap.size) := hidOf (fun k hk => by obtain ⟨_, cur, hc⟩ := h.own.blk hk; exact heap_lt hc)
  obtain ⟨q1, q2, q3, q4⟩ := hcs
  have q5 : (lastI M == 1099511627776) = false := beq_false_of_ne q4
  clear h hE q4
  generalize hML : M.L.length = ml at *
  generalize lastT M = lt at *
  generalize lastI M = li at *
  go_enter Try.func14, Try.ntmps14
  go_upto_region 7 with (first
    | (go_at_call 16; refine HL.out.mono ?_; rintro e w1 ⟨rfl, nq, rfl⟩)
    | (refine wpList_load_row rfl 49 (.tmp 5) rfl w.heap.size rfl 49 (Zm op) (0, 0) _ HPC.out Try.underlying49 rfl (Zm_i op) ?_; simp only [Zm])
    | (refine wpList_store_rowF rfl 51 (.tmp 10) (.tmp 35) rfl (w.heap.size + 2) (zEn (li + 1) t op).toArray rfl rfl 51 Zc.toArray (HNW.out _) Zc_i rfl (all_oneCell_toArray (zEn_o _ _ _)) ?_; intro X hX; have HXF := hidOf (HX.out _ X hX.out); clear hX))
  have HLX := hidOf (H.out.below (HXF.out.1.trans ((bdrew X).mono HXF.out.1.size)))
  have HW : Hid (w0.heap.size ≤ X.drew.heap.size) := hidOf HLX.out.w0le
  have HEN := hidOf (zEnR w0 X.drew (li + 1) t op)
  have HXS : Hid (w.heap.size + 2 < X.drew.heap.size) := hidOf (heap_lt HXF.out.2.2)
  have HRX : Hid (X.drew.rangeAt (w.heap.size + 2) 0 (zEn (li + 1) t op)) := hidOf (fun j u hj => by
    rw [Nat.zero_add, cell_of_row X.drew _ _ _ 51 (0, 0) HXF.out.2.2]
    simpa using hj)
  refine wp_region_L (fun wz : World => wz.cell? ⟨p, 2, none⟩ = some (.slice va ml vc) ∧ wz.rangeAt (w.heap.size + 2) 0 (zEn (li + 1) t op)) 11 (by kernel_rfl) ?_
  have hHeld : (fun wz : World => wz.cell? ⟨p, 2, none⟩ = some (.slice va ml vc) ∧ wz.rangeAt (w.heap.size + 2) 0 (zEn (li + 1) t op)) _ := ⟨HLX.out.cells.2.2.1, HRX.out⟩
  refine wpAnyL_take (i := 0) (oi := { dst := some 36, op := Op.move (Operand.tmp 0), type := 23, pos := "raftlog.go:82", after := #[], guard := none }) (v := .pointer (some ⟨p, 0, none⟩)) rfl (by kernel_rfl) (by kernel_rfl) (by kernel_rfl) (by kernel_rfl) (fun _ _ _ h => h) (Or.inl ⟨by rfl, ?_⟩) hHeld ?_
  · (intro w hSw; (try dsimp only at hSw); go_simp)
  try simp only [Act.put, List.setIfInBounds_toArray, List.set_cons_zero, List.set_cons_succ]
  refine wpAnyL_take (i := 1) (oi := { dst := some 37, op := Op.move (Operand.tmp 0), type := 23, pos := "raftlog.go:82", after := #[], guard := none }) (v := .pointer (some ⟨p, 0, none⟩)) rfl (by kernel_rfl) (by kernel_rfl) (by kernel_rfl) (by kernel_rfl) (fun _ _ _ h => h) (Or.inl ⟨by rfl, ?_⟩) hHeld ?_
  · (intro w hSw; (try dsimp only at hSw); go_simp)
  try simp only [Act.put, List.setIfInBounds_toArray, List.set_cons_zero, List.set_cons_succ]
  refine wpAnyL_take (i := 2) (oi := { dst := some 38, op := Op.nilCheck (Operand.tmp 37), type := 0, pos := "raftlog.go:82", after := #[{ on := 1, ground := Ground.data }], guard := none }) (v := .pointer (some ⟨p, 0, none⟩)) rfl (by kernel_rfl) (by kernel_rfl) (by kernel_rfl) (by kernel_rfl) (fun _ _ _ h => h) (Or.inl ⟨by rfl, ?_⟩) hHeld ?_
  · (intro w hSw; (try dsimp only at hSw); go_simp)
  try simp only [Act.put, List.setIfInBounds_toArray, List.set_cons_zero, List.set_cons_succ]
  refine wpAnyL_take (i := 3) (oi := { dst := some 39, op := Op.fieldAddr 72 (Operand.tmp 38) 2, type := 0, pos := "raftlog.go:82", after := #[{ on := 2, ground := Ground.data }], guard := none }) (v := .pointer (some ⟨p, 2, none⟩)) rfl (by kernel_rfl) (by kernel_rfl) (by kernel_rfl) (by kernel_rfl) (fun _ _ _ h => h) (Or.inl ⟨by rfl, ?_⟩) hHeld ?_
  · (intro w hSw; (try dsimp only at hSw); go_simp)
  try simp only [Act.put, List.setIfInBounds_toArray, List.set_cons_zero, List.set_cons_succ]
  refine wpAnyL_take (i := 4) (oi := { dst := some 40, op := Op.load 28 (Operand.tmp 39), type := 28, pos := "raftlog.go:82", after := #[{ on := 3, ground := Ground.data }], guard := none }) (v := .slice va ml vc) rfl (by kernel_rfl) (by kernel_rfl) (by kernel_rfl) (by kernel_rfl) (fun _ _ _ h => h) (Or.inl ⟨by rfl, ?_⟩) hHeld ?_
  · (intro w hSw; obtain ⟨s1, s2⟩ := hSw; clear s2; go_simp)
  try simp only [Act.put, List.setIfInBounds_toArray, List.set_cons_zero, List.set_cons_succ]
  refine wpAnyL_take (i := 5) (oi := { dst := some 41, op := Op.load 51 (Operand.tmp 10), type := 51, pos := "raftlog.go:82", after := #[], guard := none }) (v := .agg (zEn (li + 1) t op).toArray) rfl (by kernel_rfl) (by kernel_rfl) (by kernel_rfl) (by kernel_rfl) (fun _ _ _ h => h) (yieldsIf_load_mid (by rfl) 51 (.tmp 10) rfl (w.heap.size + 2) 0 rfl (zEn (li + 1) t op) _ (fun _ h => h.2) Try.underlying51 rfl Zc_i) hHeld ?_
  try simp only [Act.put, List.setIfInBounds_toArray, List.set_cons_zero, List.set_cons_succ]
  refine wpAnyL_one (i := 6) (o := { dst := some 42, op := Op.call { callee := Callee.value (Operand.func 33), args := #[Operand.tmp 41], argTypes := #[51] }, type := 51, pos := "raftlog.go:82", after := #[{ on := 5, ground := Ground.data }], guard := none }) (by kernel_rfl) rfl (fun K hK => ?_)
  rw [if_pos (by rfl)]
  go_simp
  refine (copyEntry_any w0 X.drew HW.out _ _ HEN.out).mono ?_
  rintro en w3 ⟨c3, rfl, o1, o2⟩
  have O1 := hidOf o1
  have O2 := hidOf o2
  have H3 := hidOf (HLX.out.below o2)
  have s3 : (fun wz : World => wz.cell? ⟨p, 2, none⟩ = some (.slice va ml vc) ∧ wz.rangeAt (w.heap.size + 2) 0 (zEn (li + 1) t op)) w3 := ⟨H3.out.cells.2.2.1, range_of HRX.out (o2.block _ HXS.out)⟩
  have HW3 : Hid (w0.heap.size ≤ w3.heap.size) := hidOf (Nat.le_trans HW.out o2.size)
  clear o1 o2
  refine hK.out _ _ (fun _ => s3) ?_
  have hHeld := s3
  clear hK K
  try simp only [Act.put, List.setIfInBounds_toArray, List.set_cons_zero, List.set_cons_succ]
  refine wpAnyL_one (i := 7) (o := { dst := some 43, op := Op.buildSlice 28 1 #[(0, Operand.tmp 42)], type := 28, pos := "raftlog.go:82", after := #[{ on := 6, ground := Ground.data }], guard := none }) (by kernel_rfl) rfl (fun K hK => ?_)
  rw [if_pos (by rfl)]
  refine oper_bs1 _ (.tmp 42) rfl c3 O1.out.len rfl ?_
  have HE4 := hidOf (es_one w0 w3 c3 _ O1.out HW3.out)
  have H4 := hidOf (H3.out.below (below1 w3 (.cells c3.toArray 51)))
  have HW4 : Hid (w0.heap.size ≤ (w3.alloc (.cells c3.toArray 51)).heap.size) := hidOf (Nat.le_trans HW3.out (by simp))
  have s4 : (fun wz : World => wz.cell? ⟨p, 2, none⟩ = some (.slice va ml vc) ∧ wz.rangeAt (w.heap.size + 2) 0 (zEn (li + 1) t op)) (w3.alloc (.cells c3.toArray 51)) := ⟨H4.out.cells.2.2.1, World.rangeAt_alloc s3.2 _⟩
  refine hK.out _ _ (fun _ => s4) ?_
  have hHeld := s4
  clear hK K
  try simp only [Act.put, List.setIfInBounds_toArray, List.set_cons_zero, List.set_cons_succ]
  refine wpAnyL_one (i := 8) (o := { dst := some 44, op := Op.call { callee := Callee.builtin Builtin.append, args := #[Operand.tmp 40, Operand.tmp 43], argTypes := #[28, 28] }, type := 28, pos := "raftlog.go:82", after := #[{ on := 4, ground := Ground.data }, { on := 7, ground := Ground.data }, { on := 6, ground := Ground.chain }], guard := none }) (by kernel_rfl) rfl (fun K hK => ?_)
  rw [if_pos (by rfl)]
  refine oper_app _ (.tmp 40) (.tmp 43) rfl w0 HW4.out (.slice va ml vc) _ M.L _ rfl H4.out.own rfl HE4.out (by simp; omega) (fun v4 w4 a1 a2 a3 => ?_)
  have A1 := hidOf a1
  have A2 := hidOf a2
  have A3 := hidOf a3
  obtain ⟨va4, ln4, vc4, hv4⟩ : ∃ a n c, v4 = Value.slice a n c := by obtain ⟨a, c, h⟩ := a1.es.form; exact ⟨a, _, c, h⟩
  subst hv4
  have hch := H4.out.pkeep a2
  have HCH := hidOf hch
  have h72 := a2.block (w.heap.size + 2) (Nat.lt_of_lt_of_le HXS.out (Nat.le_trans O2.out.size (by simp))) (fun e => absurd (HVN.out _ e) (by omega))
  have s5 : (fun wz : World => wz.cell? ⟨p, 2, none⟩ = some (.slice va ml vc) ∧ wz.rangeAt (w.heap.size + 2) 0 (zEn (li + 1) t op)) w4 := ⟨by rw [cell_of_row _ _ _ _ 72 (0, 0) hch]; rfl, range_of s4.2 h72⟩
  have c5 := s5.1
  have lp5 := heap_lt hch
  have f5 : w4.frozen? ⟨p, 2, none⟩ = false := by simp [World.frozen?, hch]
  have HR5 := hidOf s5.2
  clear a1 a2 a3 hch h72
  refine hK.out _ _ (fun _ => s5) ?_
  have hHeld := s5
  clear hK K
  try simp only [Act.put, List.setIfInBounds_toArray, List.set_cons_zero, List.set_cons_succ]
  refine wpAnyL_one (i := 9) (o := { dst := some 45, op := Op.nilCheck (Operand.tmp 36), type := 0, pos := "raftlog.go:82", after := #[{ on := 0, ground := Ground.data }, { on := 0, ground := Ground.phase }, { on := 1, ground := Ground.phase }, { on := 2, ground := Ground.phase }, { on := 3, ground := Ground.phase }, { on := 4, ground := Ground.phase }, { on := 5, ground := Ground.phase }, { on := 6, ground := Ground.phase }, { on := 7, ground := Ground.phase }, { on := 8, ground := Ground.phase }], guard := none }) (by kernel_rfl) rfl (fun K hK => ?_)
  rw [if_pos (by rfl)]
  go_simp
  refine hK.out _ _ (fun _ => hHeld) ?_
  clear hK K
  try simp only [Act.put, List.setIfInBounds_toArray, List.set_cons_zero, List.set_cons_succ]
  refine wpAnyL_take (i := 10) (oi := { dst := some 46, op := Op.fieldAddr 72 (Operand.tmp 45) 2, type := 0, pos := "raftlog.go:82", after := #[{ on := 9, ground := Ground.data }, { on := 0, ground := Ground.phase }, { on := 1, ground := Ground.phase }, { on := 2, ground := Ground.phase }, { on := 3, ground := Ground.phase }, { on := 4, ground := Ground.phase }, { on := 5, ground := Ground.phase }, { on := 6, ground := Ground.phase }, { on := 7, ground := Ground.phase }, { on := 8, ground := Ground.phase }], guard := none }) (v := .pointer (some ⟨p, 2, none⟩)) rfl (by kernel_rfl) (by kernel_rfl) (by kernel_rfl) (by kernel_rfl) (fun _ _ _ h => h) (Or.inl ⟨by rfl, ?_⟩) hHeld ?_
  · (intro w hSw; (try dsimp only at hSw); go_simp)
  try simp only [Act.put, List.setIfInBounds_toArray, List.set_cons_zero, List.set_cons_succ]
  refine wpAnyL_one (i := 11) (o := { dst := none, op := Op.store 28 (Operand.tmp 46) (Operand.tmp 44), type := 0, pos := "raftlog.go:82", after := #[{ on := 10, ground := Ground.data }, { on := 8, ground := Ground.data }, { on := 8, ground := Ground.chain }, { on := 0, ground := Ground.phase }, { on := 1, ground := Ground.phase }, { on := 2, ground := Ground.phase }, { on := 3, ground := Ground.phase }, { on := 4, ground := Ground.phase }, { on := 5, ground := Ground.phase }, { on := 6, ground := Ground.phase }, { on := 7, ground := Ground.phase }, { on := 8, ground := Ground.phase }], guard := none }) (by kernel_rfl) rfl (fun K hK => ?_)
  rw [if_pos (by rfl)]
  clear hHeld s3 s4 s5
  go_simp
  refine hK.out _ _ (fun h => absurd rfl h) ?_
  clear hK K
  try simp only [Act.put, List.setIfInBounds_toArray, List.set_cons_zero, List.set_cons_succ]
  refine wpAnyL_done (by kernel_rfl) ?_ _
  obtain ⟨Y, hY⟩ : ∃ Y, Y = w4.setCell ⟨p, 2, none⟩ (.slice va4 ln4 vc4) := ⟨_, rfl⟩
  rw [← hY]
  have hpl := heap_lt H.out.blk
  have HPN : Hid (p < w.heap.size) := hidOf hpl
  have HLY : Hid (LgR w0 Y 72 p ⟨M.bi, M.bt, M.L ++ [⟨li + 1, t, op, 0⟩]⟩ (.slice va4 ln4 vc4)) := by rw [hY]; exact hidOf (LgR.setv HCH.out (.inl rfl) H.out.lo A1.out HWF.out (by simp; omega))
  have HRY : Hid (Y.rangeAt (w.heap.size + 2) 0 (zEn (li + 1) t op)) := by rw [hY]; exact hidOf (range_of HR5.out (Below.heap_setCell w4 ⟨p, 2, none⟩ _ _ (show w.heap.size + 2 ≠ p by omega)))
  have HC4 : Hid (Chg w w4 (Sp p (.slice va ml vc))) := by
    have h1 : Chg w (w3.alloc (.cells c3.toArray 51)) (Sp p (.slice va ml vc)) := Chg.bel ((HXF.out.1.trans ((bdrew X).mono HXF.out.1.size)).trans ((O2.out.mono HXF.out.1.size).trans ((below1 w3 _).mono (Nat.le_trans HXF.out.1.size O2.out.size))))
    exact hidOf (h1.trans (A2.out.sub (fun k e => .inr e)) (fun _ e => .inl e))
  have HCY : Hid (Chg w Y (Sp p (.slice va ml vc))) := by rw [hY]; exact hidOf (HC4.out.trans (chg_p _ p 2 _ _) (fun _ e => .inl e))
  have HZY : Hid (Y.heap[w.heap.size + 1]? = some (.cells Zc.toArray 51 (0, 0))) := by
    rw [hY]
    have hx1 := heap_lt HXF.out.2.1
    have h3 : (w3.alloc (.cells c3.toArray 51)).heap[w.heap.size + 1]? = some (.cells Zc.toArray 51 (0, 0)) := ((below1 w3 _).block _ (Nat.lt_of_lt_of_le hx1 O2.out.size)).trans ((O2.out.block _ hx1).trans HXF.out.2.1)
    exact hidOf ((Below.heap_setCell w4 ⟨p, 2, none⟩ _ _ (show w.heap.size + 1 ≠ p by omega)).trans ((A2.out.block _ (heap_lt h3) (fun e => absurd (HVN.out _ e) (by omega))).trans h3))
  have HNV : Hid (Nx w (.slice va ml vc) (.slice va4 ln4 vc4) ∧ (Value.slice va4 ln4 vc4).ownBlock ≠ some (w.heap.size + 1)) := by
    have hsz : w.heap.size + 2 < (w3.alloc (.cells c3.toArray 51)).heap.size := Nat.lt_of_lt_of_le HXS.out (Nat.le_trans O2.out.size (by simp))
    refine hidOf ⟨fun k hk => ?_, fun hk => ?_⟩
    · rcases A3.out with e | e
      · rw [e] at hk; exact .inl hk
      · rw [e] at hk; have := Option.some.inj hk; exact .inr (by omega)
    · rcases A3.out with e | e
      · rw [e] at hk; have := HVN.out _ hk; omega
      · rw [e] at hk; have := Option.some.inj hk; omega
  have HWY : Hid (w0.heap.size ≤ Y.heap.size) := hidOf HLY.out.w0le
  clear hY HCH c5 lp5 f5
  go_wp2_with (first
    | (refine wpList_load_mid rfl 51 (.tmp 10) rfl (w.heap.size + 2) 0 rfl (zEn (li + 1) t op) _ HRY.out Try.underlying51 rfl Zc_i ?_)
    | (go_at_call 33; refine (copyEntry_any w0 Y HWY.out _ _ (zEnR w0 Y (li + 1) t op)).mono ?_; rintro en w6 ⟨c6, rfl, o1, o2⟩; have P1 := hidOf o1; have P2 := hidOf o2; clear o1 o2)
    | (refine wpList_store_rowF rfl 51 (.tmp 6) (.tmp 48) rfl (w.heap.size + 1) c6.toArray rfl rfl 51 Zc.toArray ((P2.out.block _ (heap_lt HZY.out)).trans HZY.out) (by simpa using en_info P1.out) (by have := P1.out.len; simp [Zc, this]) (all_oneCell_toArray P1.out.one) ?_; intro w7 hw7))
  have hz6 := (P2.out.block _ (heap_lt HZY.out)).trans HZY.out
  have hkp : Kp w0 w6 w7 := by rw [hw7.out]; exact kp_row hz6 (by have := H.out.w0le; omega) _
  have hl7 : w7.heap[w.heap.size + 1]? = some (.cells c6.toArray 51 (0, 0)) := by rw [hw7.out]; exact setRow_heap _ _ _ _ 51 _ hz6
  have hc7 : Chg w6 w7 (fun k => k = w.heap.size + 1) := by rw [hw7.out]; exact ⟨rfl, rfl, rfl, by simp [World.setRow], fun k _ hk => setRow_other _ _ _ _ hk⟩
  refine bodyPost_ret (v := .tuple #[.agg c6.toArray, .int .i64 0]) ?_ rfl (PuP.mk (P1.out.kp hkp) ((HLY.out.below P2.out).row hkp hc7 (by omega) HNV.out.2) ((HCY.out.trans (Chg.bel (S := fun _ => False) P2.out) (fun _ e => e.elim)).trans hc7 (fun k e => .inr (by omega))) HNV.out.1)
  simp [results, Try.results14, asAddr, run_loadVar_row w7 (w.heap.size + 1) 51 51 c6.toArray (0, 0) _ hl7 Try.underlying51 rfl (by simpa using en_info P1.out)]

end
end Go.Proofs.Ytdkmlgkljhhokaa
