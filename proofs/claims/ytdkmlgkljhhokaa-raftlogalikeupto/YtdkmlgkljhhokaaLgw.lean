/- Compact, and entries that take the place of others. -/
import Derived.Test.YtdkmlgkljhhokaaLgc
import Derived.Test.YtdkmlgkljhhokaaReg
namespace Go.Proofs.Ytdkmlgkljhhokaa
open Go.RowKit

theorem Zc_at (y : Nat) : (Zc.toArray[y % 29]!).oneCell' = true := by
  have hy : y % 29 < 29 := Nat.mod_lt _ (by decide)
  have h : ∀ k, k < 29 → (Zc.toArray[k]!).oneCell' = true := by decide +kernel
  exact h _ hy
def ZS (m : Nat) : List Value := (Builtin.zeroCells Zc.toArray m).toList
theorem ZS_len (m : Nat) : (ZS m).length = m * 29 := by simp [ZS, Builtin.zeroCells]; rfl
theorem run_clr (w : World) (b off m c : Nat) (ty : TypeId) (hth : w.there b off (m * 29)) (hp : 0 < m) : (Builtin.clear_ #[28] ty #[.slice (some ⟨b, off, none⟩) m c]).run Try.prog w = .ok (.tuple #[]) (w.setCells b off (ZS m)) := by
  obtain ⟨zs, hzs⟩ : ∃ zs, zs = ZS m := ⟨_, rfl⟩
  have hzl : zs.length = m * 29 := by rw [hzs]; exact ZS_len m
  rw [← hzs]
  have hone : ∀ u ∈ zs, u.oneCell' = true := by
    intro u hu
    rw [hzs] at hu
    simp only [ZS, Builtin.zeroCells, Array.toList_map, List.mem_map] at hu
    obtain ⟨y, _, rfl⟩ := hu
    exact Zc_at y
  have hst := run_storeCells_cells (P := Try.prog) b off zs 0 w (fun j hj => by simpa using (hth j (by omega)).1) (fun j hj => by simpa using (hth j (by omega)).2) hone
  simp only [Nat.add_zero] at hst
  have hzs' : (Builtin.zeroCells Zc.toArray m).toList = zs := hzs.symm
  obtain ⟨m', rfl⟩ : ∃ m', m = m' + 1 := ⟨m - 1, by omega⟩
  have hv : ∀ w, (zeroValue 51).run Try.prog w = .ok (.agg Zc.toArray) w := Try.zeroValue51
  simp [Builtin.clear_, run_underlying Try.underlying28, hv, Value.cells, hzs', hst]
theorem oper_app {o : Oper} {a : Act} {K : Act → World → Prop} {Q : Exit → Act → World → Prop} (w : World) (s x : Operand) (ho : o.op = .call { callee := .builtin .append, args := #[s, x], argTypes := #[28, 28] })
    (w0 : World) (h0 : w0.heap.size ≤ w.heap.size) (v xv : Value) (L D : List En) (hs : a.eval s = v) (hO : OwR w0 w v L) (hxe : a.eval x = xv) (hx : EsR w0 w xv D) (hlen : L.length + D.length ≤ 67108864)
    (h : ∀ v' w', OwR w0 w' v' (L ++ D) → Chg w w' (Sv v) → (v'.ownBlock = v.ownBlock ∨ v'.ownBlock = some w.heap.size) → K (a.put o.dst v') w') : Oper.wp Try.prog o a w K Q := by
  obtain ⟨v', w', hr1, h2, h3, h5⟩ := run_app w0 w h0 o.type v xv L D hO hx hlen
  unfold Oper.wp execOp
  simp only [ho, resolve, invoke, builtin, Sem.run_bind, Sem.run_pure, Result.andThen_ok, List.map_toArray, List.map_cons, List.map_nil, hs, hxe, hr1]
  exact h v' w' h2 h3 h5
/- the log's own block is written -/
theorem kp_p {w0 w : World} {p : Nat} {cur : Array Value} {ty : TypeId} (hb : w.heap[p]? = some (.cells cur ty (0, 0))) (ht : ty = 51 ∨ ty = 72 ∨ ty = 69) (hlo : w0.heap.size ≤ p) (k : Nat) (u : Value) : Kp w0 w (w.setCell ⟨p, k, none⟩ u) := by
  refine ⟨by simp, fun i hi => Below.heap_setCell w ⟨p, k, none⟩ u i (show i ≠ p by omega), fun i cur' t f hi h1 h2 h3 => Below.heap_setCell w ⟨p, k, none⟩ u i (fun e => ?_)⟩
  have e : i = p := e
  subst e
  rw [hb] at hi
  cases hi
  rcases ht with e | e | e
  · exact h1 e
  · exact h2 e
  · exact h3 e
theorem OwR.setp {w0 w : World} {v : Value} {L : List En} {p : Nat} {cur : Array Value} {ty : TypeId} (h : OwR w0 w v L) (hb : w.heap[p]? = some (.cells cur ty (0, 0))) (ht : ty = 72 ∨ ty = 69) (hlo : w0.heap.size ≤ p) (k : Nat) (u : Value) : OwR w0 (w.setCell ⟨p, k, none⟩ u) v L := by
  refine h.kept (kp_p hb (.inr ht) hlo k u) (fun b e => Below.heap_setCell w ⟨p, k, none⟩ u b (fun e2 => ?_))
  have e2 : b = p := e2
  subst e2
  obtain ⟨_, cur', hc⟩ := h.blk e
  rw [hb] at hc
  cases hc
  rcases ht with e | e <;> cases e
theorem LgR.bel2 {w0 w w' : World} {ty : TypeId} {p : Nat} {M : Lg} {v : Value} (h : LgR w0 w ty p M v) (hb : Below w.heap.size w w') : LgR w0 w' ty p M v := h.below hb
theorem LgR.pne {w0 w : World} {ty : TypeId} {p : Nat} {M : Lg} {v : Value} (h : LgR w0 w ty p M v) (ht : ty = 72 ∨ ty = 69) : v.ownBlock ≠ some p := fun e => by
  obtain ⟨_, cur', hc⟩ := h.own.blk e
  rw [h.blk] at hc
  cases hc
  rcases ht with e | e <;> cases e
theorem LgR.pkeep {w0 w w' : World} {p : Nat} {M : Lg} {v : Value} (h : LgR w0 w 72 p M v) (hc : Chg w w' (Sv v)) : w'.heap[p]? = some (.cells #[.int .i64 M.bi, .int .i64 M.bt, v] 72 (0, 0)) :=
  (hc.block p (heap_lt h.blk) (h.pne (.inl rfl))).trans h.blk
/- other entries in the log's block -/
theorem LgR.setv {w0 w : World} {ty : TypeId} {p : Nat} {x0 x1 : Int} {v' x2 : Value} {L : List En} (hb : w.heap[p]? = some (.cells #[.int .i64 x0, .int .i64 x1, x2] ty (0, 0))) (ht : ty = 72 ∨ ty = 69) (hlo : w0.heap.size ≤ p) (ho : OwR w0 w v' L) (hw : Wf ⟨x0, x1, L⟩) (hl : L.length ≤ 33554432) : LgR w0 (w.setCell ⟨p, 2, none⟩ v') ty p ⟨x0, x1, L⟩ v' := by
  refine ⟨?_, hlo, ho.setp hb ht hlo 2 v', hw, hl⟩
  have := heap_setCell_same w p 2 _ ty v' hb
  simpa using this
theorem LgR.set3 {w0 w : World} {p : Nat} {x0 x1 x2 v' : Value} {a b : Int} {L : List En} (hb : w.heap[p]? = some (.cells #[x0, x1, x2] 72 (0, 0))) (hlo : w0.heap.size ≤ p) (ho : OwR w0 w v' L) (hw : Wf ⟨a, b, L⟩) (hl : L.length ≤ 33554432) : LgR w0 (((w.setCell ⟨p, 2, none⟩ v').setCell ⟨p, 0, none⟩ (.int .i64 a)).setCell ⟨p, 1, none⟩ (.int .i64 b)) 72 p ⟨a, b, L⟩ v' := by
  have h1 := heap_setCell_same w p 2 _ 72 v' hb
  have h2 := heap_setCell_same _ p 0 _ 72 (.int .i64 a) h1
  have h3 := heap_setCell_same _ p 1 _ 72 (.int .i64 b) h2
  exact ⟨by simpa using h3, hlo, ((ho.setp hb (.inl rfl) hlo 2 v').setp h1 (.inl rfl) hlo 0 _).setp h2 (.inl rfl) hlo 1 _, hw, hl⟩
theorem chg_p (w : World) (p k : Nat) (u : Value) (v : Value) : Chg w (w.setCell ⟨p, k, none⟩ u) (Sp p v) := ⟨rfl, rfl, rfl, by simp, fun i _ hn => Below.heap_setCell w ⟨p, k, none⟩ u i (fun e => hn (.inl e))⟩
theorem Chg.sub {w w' : World} {S T : Nat → Prop} (h : Chg w w' S) (hs : ∀ k, S k → T k) : Chg w w' T := ⟨h.os, h.tape, h.output, h.size, fun k hk hn => h.block k hk (fun e => hn (hs k e))⟩
/- the first entries go -/
theorem Ow1.clr {w0 w : World} {b off cap : Nat} {L : List En} (h : Ow1 w0 w b off cap L) (h0 : w0.heap.size ≤ w.heap.size) {g : Nat} (hg : g ≤ L.length) {zs : List Value} (hz : zs.length = g * 29) : OwR w0 (w.setCells b off zs) (if cap = g then .slice (some ⟨b, off, none⟩) (L.length - g) 0 else .slice (some ⟨b, off + g * 29, none⟩) (L.length - g) (cap - g)) (L.drop g) ∧ Kp w0 w (w.setCells b off zs) := by
  obtain ⟨C, cur, h2, h3, h4, h5, h6⟩ := h
  have hk : Kp w0 w (w.setCells b off zs) := (chg_setCells w b _ zs).kp h0 (fun k _ e => by subst e; exact ⟨h4, cur, 51, (0, 0), h5, .inl rfl⟩)
  obtain ⟨cur', g1, g2⟩ := setCells_heap (b := b) (t := 51) zs off w cur h5
  refine ⟨?_, hk⟩
  split
  · rename_i e
    have hlg : L.length = g := by omega
    rw [List.drop_eq_nil_of_le (by omega)]
    exact .inr ⟨b, off, 0, fun _ => [], cur', by rw [hlg, Nat.sub_self]; rfl, Nat.le_refl _, fun j e hj => by simp at hj, h4, g1, by omega⟩
  · have hl : (L.drop g).length = L.length - g := List.length_drop
    have hmul : cap * 29 = g * 29 + (cap - g) * 29 := by rw [← Nat.add_mul]; congr 1; omega
    refine .inr ⟨b, off + g * 29, cap - g, fun i => C (g + i), cur', by rw [hl], by rw [hl]; omega, fun j e hj => ?_, h4, g1, by omega⟩
    rw [List.getElem?_drop] at hj
    obtain ⟨q1, q2⟩ := h3 (g + j) e hj
    refine ⟨q1.kp hk, ?_⟩
    rw [show off + g * 29 + j * 29 = off + (g + j) * 29 by rw [Nat.add_mul]; omega]
    refine World.rangeAt_setCells_apart q2 _ _ _ (.inr (.inr ?_))
    rw [hz, Nat.add_mul]
    omega
/- only the first entries are kept, with no room behind them -/
theorem Ow1.cut {w0 w : World} {b off cap : Nat} {L : List En} (h : Ow1 w0 w b off cap L) {k : Nat} (hk : k ≤ L.length) : OwR w0 w (.slice (some ⟨b, off, none⟩) k k) (L.take k) := by
  obtain ⟨C, cur, h2, h3, h4, h5, h6⟩ := h
  have hl : (L.take k).length = k := by rw [List.length_take]; omega
  have hm : k * 29 ≤ cap * 29 := Nat.mul_le_mul_right _ (by omega)
  refine .inr ⟨b, off, k, C, cur, by rw [hl], by rw [hl]; exact Nat.le_refl _, fun j e hj => ?_, h4, h5, by omega⟩
  rw [List.getElem?_take] at hj
  split at hj
  · exact h3 j e hj
  · cases hj
section
variable {w0 w : World} {p : Nat} {M : Lg} {v : Value}
def CoP (w0 w : World) (p : Nat) (v : Value) (E : Int) (M' : Lg) (e : Ending) (w' : World) : Prop := ∃ v', e = .returned (.int .i64 E) ∧ LgR w0 w' 72 p M' v' ∧ Chg w w' (Sp p v) ∧ Nx w v v'
theorem CoP.mk {w' : World} {E : Int} {M' : Lg} {v' : Value} (h1 : LgR w0 w' 72 p M' v') (h2 : Chg w w' (Sp p v)) (h3 : Nx w v v') : CoP w0 w p v E M' (.returned (.int .i64 E)) w' := ⟨v', rfl, h1, h2, h3⟩
set_option maxHeartbeats 4000000 in
theorem compact_any (h : LgR w0 w 72 p M v) (i : Int) : Calls Try.prog 22 #[.pointer (some ⟨p, 0, none⟩), .int .i64 i] w (CoP w0 w p v (compE M i) (compM M i)) := by
  have HT := hidOf (term_any h i)
  have H := hidOf h
  obtain ⟨c0, c1, c2, hp, hfz⟩ := h.cells
  obtain ⟨va, vc, hv⟩ := h.form
  by_cases h1 : lastI M < i
  · have HE : Hid (termE M i = 3 ∧ compE M i = 3 ∧ compM M i = M) := hidOf ⟨by unfold termE; have := h.wf.lastI_le; rw [if_neg (by omega), if_pos h1], if_pos h1, if_pos (.inl h1)⟩
    rw [HE.out.2.1, HE.out.2.2]
    rw [HE.out.1] at HT
    generalize termT M i = tt at *
    clear h hv HE h1
    go_enter Try.func22, Try.ntmps22
    go_wp2_with (go_at_call 17; refine HT.out.mono ?_; rintro e w1 ⟨rfl, nq, rfl⟩)
    go_ret
    exact CoP.mk (H.out.below (bdrewN _ _)) (Chg.bel (bdrewN _ _)) (Nx.refl _ _)
  · by_cases h2 : i ≤ M.bi
    · have HE : Hid ((termE M i == 3) = false ∧ compE M i = 0 ∧ compM M i = M) := hidOf ⟨beq_false_of_ne (by unfold termE; split <;> simp), if_neg h1, if_pos (.inr h2)⟩
      rw [HE.out.2.1, HE.out.2.2]
      have hb := HE.out.1
      generalize termT M i = tt at *
      generalize termE M i = te at *
      clear h hv HE h1
      go_enter Try.func22, Try.ntmps22
      go_wp2_with (go_at_call 17; refine HT.out.mono ?_; rintro e w1 ⟨rfl, nq, rfl⟩)
      go_ret
      exact CoP.mk (H.out.below (bdrewN _ _)) (Chg.bel (bdrewN _ _)) (Nx.refl _ _)
    · obtain ⟨j, hj⟩ : ∃ j : Nat, i = M.bi + 1 + j := ⟨(i - M.bi - 1).toNat, by omega⟩
      subst hj
      have hjl : j < M.L.length := by unfold lastI at h1; omega
      have HWF := hidOf (h.wf.comp (M.bi + 1 + j))
      have HE : Hid (termE M (M.bi + 1 + j) = 0 ∧ compE M (M.bi + 1 + j) = 0 ∧ compM M (M.bi + 1 + j) = ⟨M.bi + 1 + j, termT M (M.bi + 1 + j), M.L.drop (j + 1)⟩) := hidOf ⟨by unfold termE; rw [if_neg (by omega), if_neg h1], if_neg h1, by unfold compM; rw [if_neg (by omega), show (M.bi + 1 + (j : Int) - M.bi).toNat = j + 1 by omega]⟩
      rw [HE.out.2.2] at HWF
      rw [HE.out.2.1, HE.out.2.2]
      rw [HE.out.1] at HT
      have HP : Hid (∀ w', Dr w w' → Calls Try.prog 34 #[.pointer (some ⟨p, 0, none⟩), .int .i64 (M.bi + 1 + j)] w' fun e w2 => e = .returned (.int .i64 (j : Int)) ∧ Dr w' w2) := hidOf (fun w' hd => by
        have := place_any (h.below hd.bel) (M.bi + 1 + j) (by have := h.wf.b0; have := h.wf.lastI_le; omega)
        rw [show M.bi + 1 + (j : Int) - M.bi - 1 = (j : Int) by omega] at this
        exact this)
      subst hv
      rcases h.own.cases with ⟨_, e⟩ | ⟨b, off, cap, e, ho⟩
      · rw [e] at hjl; simp at hjl
      cases e
      have HO := hidOf ho
      have HW0 := hidOf h.w0le
      have hl3 := h.len
      have hcl : M.L.length ≤ vc := by obtain ⟨C, cur, q, _⟩ := ho; exact q
      have hbne : b ≠ p := fun e => h.pne (.inl rfl) (by rw [e]; rfl)
      have HBN := hidOf hbne
      have HTH : Hid (w.there b off ((j + 1) * 29)) := by
        obtain ⟨C, cur, q1, q2, q3, q4, q5⟩ := ho
        have : (j + 1) * 29 ≤ vc * 29 := Nat.mul_le_mul_right _ (by omega)
        exact hidOf (there_row q4 (by omega))
      have hbi : ¬ M.bi + 1 + (j : Int) ≤ M.bi := by omega
      have hjb : -4398046511104 ≤ (j : Int) ∧ (j : Int) ≤ 4398046511104 := by omega
      clear HE ho h1 h2 h hbne hfz hl3
      have HBI : Hid (M.bi = M.bi) := hidOf rfl
      generalize hI : M.bi + 1 + (j : Int) = I at *
      generalize termT M I = tt at *
      generalize hML : M.L.length = ml at *
      obtain ⟨zs, hzl, hrun⟩ : ∃ zs : List Value, zs.length = (j + 1) * 29 ∧ ∀ (n : Nat) (ty : TypeId) (c : Nat), (Builtin.clear_ #[28] ty #[.slice (some ⟨b, off, none⟩) (j + 1) c]).run Try.prog (w.drewN n) = .ok (.tuple #[]) ((w.drewN n).setCells b off zs) := by
        refine ⟨ZS (j + 1), ZS_len _, fun n ty c => ?_⟩
        exact run_clr (w.drewN n) b off (j + 1) c ty (by simpa [World.there] using HTH.out) (by omega)
      obtain ⟨W, hW⟩ : ∃ W : Nat → World, ∀ n, W n = (w.drewN n).setCells b off zs := ⟨_, fun _ => rfl⟩
      have hclr : ∀ (n : Nat) (ty : TypeId) (c : Nat), (Builtin.clear_ #[28] ty #[.slice (some ⟨b, off, none⟩) (j + 1) c]).run Try.prog (w.drewN n) = .ok (.tuple #[]) (W n) := fun n ty c => by rw [hW]; exact hrun n ty c
      have HPB : Hid (∀ n, (W n).heap[p]? = some (.cells #[.int .i64 M.bi, .int .i64 M.bt, .slice (some ⟨b, off, none⟩) ml vc] 72 (0, 0))) := hidOf (fun n => by rw [hW]; exact (setCells_other (fun e => HBN.out e.symm) zs off (w.drewN n)).trans H.out.blk)
      have HCL : Hid (∀ n, OwR w0 (W n) (if vc = j + 1 then .slice (some ⟨b, off, none⟩) (ml - (j + 1)) 0 else .slice (some ⟨b, off + (j + 1) * 29, none⟩) (ml - (j + 1)) (vc - (j + 1))) (M.L.drop (j + 1))) := hidOf (fun n => by
        have := ((HO.out.below HW0.out (bdrewN w n)).clr HW0.out (g := j + 1) (by omega) hzl).1
        rw [hML] at this
        rw [hW]; exact this)
      have HC1 : Hid (∀ n, Chg w (W n) (Sp p (.slice (some ⟨b, off, none⟩) ml vc))) := hidOf (fun n => by
        rw [hW]
        have := chg_setCells (w.drewN n) b off zs
        exact ⟨this.os, this.tape, this.output, this.size, fun k hk hn => this.block k hk (fun e => hn (.inr (by rw [e]; rfl)))⟩)
      have d0 : ∀ n, (W n).cell? ⟨p, 0, none⟩ = some (.int .i64 M.bi) := fun n => by rw [cell_of_row _ _ _ _ 72 (0, 0) (HPB.out n)]; rfl
      have d1 : ∀ n, (W n).cell? ⟨p, 1, none⟩ = some (.int .i64 M.bt) := fun n => by rw [cell_of_row _ _ _ _ 72 (0, 0) (HPB.out n)]; rfl
      have d2 : ∀ n, (W n).cell? ⟨p, 2, none⟩ = some (.slice (some ⟨b, off, none⟩) ml vc) := fun n => by rw [cell_of_row _ _ _ _ 72 (0, 0) (HPB.out n)]; rfl
      have dp : ∀ n, p < (W n).heap.size := fun n => heap_lt (HPB.out n)
      have df : ∀ n o, (W n).frozen? ⟨p, o, none⟩ = false := fun n o => by simp [World.frozen?, HPB.out n]
      have hjt : ((j : Int) + 1).toNat = j + 1 := by omega
      have hj1 : j + 1 ≤ ml := by omega
      clear hrun hW hzl
      by_cases hvc : vc = j + 1
      all_goals
        first | rw [if_pos hvc] at HCL | rw [if_neg hvc] at HCL
        have HLO := hidOf H.out.lo
        have HLD : Hid ((M.L.drop (j + 1)).length ≤ 33554432) := hidOf (by rw [List.length_drop]; have := H.out.len; omega)
        go_enter Try.func22, Try.ntmps22
        go_wp2_with (first
          | (go_at_call 17; refine HT.out.mono ?_; rintro e w1 ⟨rfl, nq, rfl⟩)
          | (go_at_call 34; refine (HP.out _ ((Dr.refl w).dn _)).mono ?_; rintro e w1 ⟨rfl, nq2, rfl⟩))
        go_ret
        exact CoP.mk (LgR.set3 (HPB.out _) HLO.out (HCL.out _) HWF.out HLD.out) (((HC1.out _).trans (chg_p _ p 2 _ _) (fun _ e => .inl e)).trans ((chg_p _ p 0 _ _).trans (chg_p _ p 1 _ _) (fun _ e => .inl e)) (fun _ e => .inl e)) (fun k hk => .inl hk)
end
end Go.Proofs.Ytdkmlgkljhhokaa
