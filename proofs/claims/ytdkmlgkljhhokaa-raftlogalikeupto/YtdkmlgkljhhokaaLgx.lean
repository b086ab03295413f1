/- Accept: entries take the place of others. -/
import Derived.Test.YtdkmlgkljhhokaaLgw
namespace Go.Proofs.Ytdkmlgkljhhokaa
open Go.RowKit

theorem EsR.setp {w0 w : World} {x : Value} {D : List En} {p : Nat} {cur : Array Value} {ty : TypeId} (h : EsR w0 w x D) (hb : w.heap[p]? = some (.cells cur ty (0, 0))) (ht : ty = 72 ∨ ty = 69) (hlo : w0.heap.size ≤ p) (hx : x.ownBlock ≠ some p) (k : Nat) (u : Value) : EsR w0 (w.setCell ⟨p, k, none⟩ u) x D :=
  h.kept (kp_p hb (.inr ht) hlo k u) (fun b e _ => Below.heap_setCell w ⟨p, k, none⟩ u b (fun e2 => hx (by rw [e]; exact congrArg some e2)))
section
variable {w0 w : World} {p : Nat} {M : Lg} {v : Value}
def ReP (w0 w : World) (p : Nat) (v : Value) (M' : Lg) (e : Ending) (w' : World) : Prop := ∃ v', e = .returned (.tuple #[]) ∧ LgR w0 w' 72 p M' v' ∧ Chg w w' (Sp p v) ∧ Nx w v v'
theorem ReP.mk {w' : World} {M' : Lg} {v' : Value} (h1 : LgR w0 w' 72 p M' v') (h2 : Chg w w' (Sp p v)) (h3 : Nx w v v') : ReP w0 w p v M' (.returned (.tuple #[])) w' := ⟨v', rfl, h1, h2, h3⟩
structure LgR0 (w0 w : World) (p : Nat) (bi bt : Int) (v : Value) (L : List En) : Prop where
  blk : w.heap[p]? = some (.cells #[.int .i64 bi, .int .i64 bt, v] 72 (0, 0))
  lo : w0.heap.size ≤ p
  own : OwR w0 w v L
theorem LgR0.bel {w0 w w' : World} {p : Nat} {bi bt : Int} {v : Value} {L : List En} (h : LgR0 w0 w p bi bt v L) (hb : Below w.heap.size w w') : LgR0 w0 w' p bi bt v L := ⟨(hb.block p (heap_lt h.blk)).trans h.blk, h.lo, h.own.below (by have := h.lo; have := heap_lt h.blk; omega) hb⟩
theorem LgR0.c2 {w0 w : World} {p : Nat} {bi bt : Int} {v : Value} {L : List En} (h : LgR0 w0 w p bi bt v L) : w.cell? ⟨p, 2, none⟩ = some v := by rw [cell_of_row _ _ _ _ 72 (0, 0) h.blk]; rfl
theorem LgR0.pkeep {w0 w w' : World} {p : Nat} {bi bt : Int} {v : Value} {L : List En} (h : LgR0 w0 w p bi bt v L) (hc : Chg w w' (Sv v)) : w'.heap[p]? = some (.cells #[.int .i64 bi, .int .i64 bt, v] 72 (0, 0)) := (hc.block p (heap_lt h.blk) (fun e => by
  obtain ⟨_, cur', hcc⟩ := h.own.blk e
  rw [h.blk] at hcc
  cases hcc)).trans h.blk
/- the end of replace: copies are put behind what is kept -/
theorem wfLg {M : Lg} (h : Wf M) : 0 ≤ M.bi := h.b0
set_option maxHeartbeats 4000000 in
set_option maxRecDepth 100000 in
theorem replace_any (h : LgR w0 w 72 p M v) (xa : Option Addr) (xc kk : Nat) (e0 : En) (E : List En) (hx : EsR w0 w (.slice xa (e0 :: E).length xc) (e0 :: E)) (hxp : (Value.slice xa (e0 :: E).length xc).ownBlock ≠ some p) (hix : e0.ix = M.bi + 1 + kk) (hkk : kk ≤ M.L.length) (hwf : Wf ⟨M.bi, M.bt, M.L.take kk ++ e0 :: E⟩) (hlen : M.L.length + (e0 :: E).length ≤ 33554432) : Calls Try.prog 37 #[.pointer (some ⟨p, 0, none⟩), .slice xa (e0 :: E).length xc] w (ReP w0 w p v ⟨M.bi, M.bt, M.L.take kk ++ e0 :: E⟩) := by
  obtain ⟨b, off, cap, c, hv0, hbx, d0, d1, _, _⟩ := hx.at (j := 0) (e := e0) rfl
  cases hv0
  have HP : Hid (Calls Try.prog 34 #[.pointer (some ⟨p, 0, none⟩), .int .i64 e0.ix] w fun e w2 => e = .returned (.int .i64 (kk : Int)) ∧ Dr w w2) := by
    have := place_any h e0.ix (by have := h.wf.b0; have := h.wf.b1; omega)
    rw [show e0.ix - M.bi - 1 = (kk : Int) by omega] at this
    exact hidOf this
  have HWF := hidOf hwf
  have hw0 := h.w0le
  have htk : (M.L.take kk).length = kk := by rw [List.length_take]; omega
  have HTK := hidOf htk
  simp only [Nat.zero_mul, Nat.add_zero] at d0 d1
  obtain ⟨va, vc, hv⟩ := h.form
  subst hv
  have hlen2 : (e0 :: E).length ≤ 33554432 := by omega
  have HLEN : Hid ((M.L.take kk).length + (e0 :: E).length ≤ 67108864) := hidOf (by rw [htk]; omega)
  have HLL : Hid ((M.L.take kk ++ e0 :: E).length ≤ 33554432) := hidOf (by rw [List.length_append, htk]; omega)
  have HX0 := hidOf hx
  have HXP := hidOf hxp
  have HLO := hidOf h.lo
  obtain ⟨c0, c1, c2, hp, hfz⟩ := h.cells
  have hfz2 := hfz 2
  by_cases hcut : kk < M.L.length
  · rcases h.own.cases with ⟨_, e⟩ | ⟨bb, of, cp, e, ho⟩
    · rw [e] at hcut; simp at hcut
    cases e
    have hcpl : M.L.length ≤ vc := by obtain ⟨C, cur, q, _⟩ := ho; exact q
    have HCUT := hidOf (fun n => (ho.below hw0 (bdrewN w n)).cut (k := kk) (by omega))
    have HB := hidOf h.blk
    have hkz : (kk : Int) < (M.L.length : Int) := by omega
    have HL2 : Hid (∀ n, LgR0 w0 ((w.drewN n).setCell ⟨p, 2, none⟩ (.slice (some ⟨bb, of, none⟩) kk kk)) p M.bi M.bt (.slice (some ⟨bb, of, none⟩) kk kk) (M.L.take kk)) := hidOf (fun n => ⟨by have := heap_setCell_same (w.drewN n) p 2 _ 72 (.slice (some ⟨bb, of, none⟩) kk kk) h.blk; simpa using this, h.lo, (HCUT.out n).setp h.blk (.inl rfl) h.lo 2 _⟩)
    have HXX : Hid (∀ n, EsR w0 ((w.drewN n).setCell ⟨p, 2, none⟩ (.slice (some ⟨bb, of, none⟩) kk kk)) (.slice (some ⟨b, off, none⟩) (e0 :: E).length xc) (e0 :: E)) := hidOf (fun n => (hx.below hw0 (bdrewN w n)).setp h.blk (.inl rfl) h.lo hxp 2 _)
    clear h hx hxp ho hwf htk hfz hcut
    generalize hML : M.L.length = ml at *
    generalize hnE : (e0 :: E).length = n at *
    have hn0 : 0 < n := by rw [← hnE]; simp
    have HDL : Hid ((e0 :: E).length ≤ 33554432) := hidOf (by rw [hnE]; omega)
    have HLN : Hid ((M.L.take kk).length + (e0 :: E).length ≤ 67108864) := hidOf (by rw [hnE]; exact HLEN.out)
    obtain ⟨D, hD⟩ : ∃ D, D = e0 :: E := ⟨_, rfl⟩
    rw [← hD] at HXX HWF HLL HX0 HDL HLN ⊢
    generalize e0.ix = ix at *
    obtain ⟨bi, bt, L⟩ := M
    dsimp only at *
    clear hD hML hnE hix
    go_enter Try.func37, Try.ntmps37
    go_upto_region 3 with (go_at_call 34; refine HP.out.mono ?_; rintro e w1 ⟨rfl, nq, rfl⟩)
    obtain ⟨X, hX⟩ : ∃ X, X = (w.drewN nq).setCell ⟨p, 2, none⟩ (.slice (some ⟨bb, of, none⟩) kk kk) := ⟨_, rfl⟩
    rw [← hX]
    have H0 : Hid (LgR0 w0 X.drew p bi bt (.slice (some ⟨bb, of, none⟩) kk kk) (L.take kk)) := by rw [hX]; exact hidOf ((HL2.out nq).bel (bdrew _))
    have HX : Hid (EsR w0 X.drew (.slice (some ⟨b, off, none⟩) n xc) D) := by rw [hX]; exact hidOf ((HXX.out nq).below (by simpa using hw0) (bdrew _))
    have HW : Hid (w0.heap.size ≤ X.drew.heap.size) := by rw [hX]; exact hidOf (by simpa using hw0)
    have HCX : Hid (Chg w X.drew (Sp p (.slice (some ⟨bb, of, none⟩) ml vc))) := by
      rw [hX]
      have := chg_p (w.drewN nq) p 2 (.slice (some ⟨bb, of, none⟩) kk kk) (.slice (some ⟨bb, of, none⟩) ml vc)
      exact hidOf ⟨this.os, this.tape, this.output, this.size, this.block⟩
    have HNX : Hid (Nx w (.slice (some ⟨bb, of, none⟩) ml vc) (.slice (some ⟨bb, of, none⟩) kk kk)) := hidOf (fun k hk => .inl hk)
    clear hX HL2 HXX
    refine wp_region_L (fun wz : World => wz.cell? ⟨p, 2, none⟩ = some (.slice (some ⟨bb, of, none⟩) kk kk)) 10 (by kernel_rfl) ?_
    have hHeld : (fun wz : World => wz.cell? ⟨p, 2, none⟩ = some (.slice (some ⟨bb, of, none⟩) kk kk)) _ := H0.out.c2
    refine wpAnyL_take (i := 0) (oi := { dst := some 28, op := Op.move (Operand.tmp 0), type := 23, pos := "raftlog.go:126", after := #[], guard := none }) (v := .pointer (some ⟨p, 0, none⟩)) rfl (by kernel_rfl) (by kernel_rfl) (by kernel_rfl) (by kernel_rfl) (fun _ _ _ h => h) (Or.inl ⟨by rfl, ?_⟩) hHeld ?_
    · (intro w hSw; (try dsimp only at hSw); go_simp)
    try simp only [Act.put, List.setIfInBounds_toArray, List.set_cons_zero, List.set_cons_succ]
    refine wpAnyL_take (i := 1) (oi := { dst := some 29, op := Op.move (Operand.tmp 0), type := 23, pos := "raftlog.go:126", after := #[], guard := none }) (v := .pointer (some ⟨p, 0, none⟩)) rfl (by kernel_rfl) (by kernel_rfl) (by kernel_rfl) (by kernel_rfl) (fun _ _ _ h => h) (Or.inl ⟨by rfl, ?_⟩) hHeld ?_
    · (intro w hSw; (try dsimp only at hSw); go_simp)
    try simp only [Act.put, List.setIfInBounds_toArray, List.set_cons_zero, List.set_cons_succ]
    refine wpAnyL_take (i := 2) (oi := { dst := some 30, op := Op.nilCheck (Operand.tmp 29), type := 0, pos := "raftlog.go:126", after := #[{ on := 1, ground := Ground.data }], guard := none }) (v := .pointer (some ⟨p, 0, none⟩)) rfl (by kernel_rfl) (by kernel_rfl) (by kernel_rfl) (by kernel_rfl) (fun _ _ _ h => h) (Or.inl ⟨by rfl, ?_⟩) hHeld ?_
    · (intro w hSw; (try dsimp only at hSw); go_simp)
    try simp only [Act.put, List.setIfInBounds_toArray, List.set_cons_zero, List.set_cons_succ]
    refine wpAnyL_take (i := 3) (oi := { dst := some 31, op := Op.fieldAddr 72 (Operand.tmp 30) 2, type := 0, pos := "raftlog.go:126", after := #[{ on := 2, ground := Ground.data }], guard := none }) (v := .pointer (some ⟨p, 2, none⟩)) rfl (by kernel_rfl) (by kernel_rfl) (by kernel_rfl) (by kernel_rfl) (fun _ _ _ h => h) (Or.inl ⟨by rfl, ?_⟩) hHeld ?_
    · (intro w hSw; (try dsimp only at hSw); go_simp)
    try simp only [Act.put, List.setIfInBounds_toArray, List.set_cons_zero, List.set_cons_succ]
    refine wpAnyL_take (i := 4) (oi := { dst := some 32, op := Op.load 28 (Operand.tmp 31), type := 28, pos := "raftlog.go:126", after := #[{ on := 3, ground := Ground.data }], guard := none }) (v := .slice (some ⟨bb, of, none⟩) kk kk) rfl (by kernel_rfl) (by kernel_rfl) (by kernel_rfl) (by kernel_rfl) (fun _ _ _ h => h) (Or.inl ⟨by rfl, ?_⟩) hHeld ?_
    · (intro w hSw; go_simp)
    try simp only [Act.put, List.setIfInBounds_toArray, List.set_cons_zero, List.set_cons_succ]
    refine wpAnyL_take (i := 5) (oi := { dst := some 33, op := Op.move (Operand.tmp 1), type := 28, pos := "raftlog.go:126", after := #[], guard := none }) (v := .slice (some ⟨b, off, none⟩) n xc) rfl (by kernel_rfl) (by kernel_rfl) (by kernel_rfl) (by kernel_rfl) (fun _ _ _ h => h) (Or.inl ⟨by rfl, ?_⟩) hHeld ?_
    · (intro w hSw; (try dsimp only at hSw); go_simp)
    try simp only [Act.put, List.setIfInBounds_toArray, List.set_cons_zero, List.set_cons_succ]
    refine wpAnyL_one (i := 6) (o := { dst := some 34, op := Op.call { callee := Callee.value (Operand.func 38), args := #[Operand.tmp 33], argTypes := #[28] }, type := 28, pos := "raftlog.go:126", after := #[{ on := 5, ground := Ground.data }], guard := none }) (by kernel_rfl) rfl (fun K hK => ?_)
    rw [if_pos (by rfl)]
    go_simp
    refine (copyEntries_any w0 X.drew HW.out _ D HX.out (by have := HDL.out; omega)).mono ?_
    rintro en w3 ⟨v3, rfl, o1, o2, o3⟩
    have O1 := hidOf o1
    have O2 := hidOf o2
    have H3 := hidOf (H0.out.bel o2)
    have s3 := H3.out.c2
    have HW3 : Hid (w0.heap.size ≤ w3.heap.size) := hidOf (Nat.le_trans HW.out o2.size)
    clear o1 o2 o3
    refine hK.out _ _ (fun _ => s3) ?_
    have hHeld := s3
    clear hK K
    try simp only [Act.put, List.setIfInBounds_toArray, List.set_cons_zero, List.set_cons_succ]
    refine wpAnyL_one (i := 7) (o := { dst := some 35, op := Op.call { callee := Callee.builtin Builtin.append, args := #[Operand.tmp 32, Operand.tmp 34], argTypes := #[28, 28] }, type := 28, pos := "raftlog.go:126", after := #[{ on := 4, ground := Ground.data }, { on := 6, ground := Ground.data }, { on := 6, ground := Ground.chain }], guard := none }) (by kernel_rfl) rfl (fun K hK => ?_)
    rw [if_pos (by rfl)]
    refine oper_app _ (.tmp 32) (.tmp 34) rfl w0 HW3.out (.slice (some ⟨bb, of, none⟩) kk kk) v3 (L.take kk) D rfl H3.out.own rfl O1.out.es HLN.out (fun v4 w4 a1 a2 a3 => ?_)
    have A1 := hidOf a1
    have A2 := hidOf a2
    have A3 := hidOf a3
    obtain ⟨va4, ln4, vc4, hv4⟩ : ∃ a n c, v4 = Value.slice a n c := by obtain ⟨a, c, h⟩ := a1.es.form; exact ⟨a, _, c, h⟩
    subst hv4
    have hch := H3.out.pkeep a2
    have s4 : w4.cell? ⟨p, 2, none⟩ = some (.slice (some ⟨bb, of, none⟩) kk kk) := by rw [cell_of_row _ _ _ _ 72 (0, 0) hch]; rfl
    have lp4 := heap_lt hch
    have f4 : w4.frozen? ⟨p, 2, none⟩ = false := by simp [World.frozen?, hch]
    have HCH := hidOf hch
    clear a1 a2 a3 hch
    refine hK.out _ _ (fun _ => s4) ?_
    have hHeld := s4
    clear hK K
    try simp only [Act.put, List.setIfInBounds_toArray, List.set_cons_zero, List.set_cons_succ]
    refine wpAnyL_one (i := 8) (o := { dst := some 36, op := Op.nilCheck (Operand.tmp 28), type := 0, pos := "raftlog.go:126", after := #[{ on := 0, ground := Ground.data }, { on := 0, ground := Ground.phase }, { on := 1, ground := Ground.phase }, { on := 2, ground := Ground.phase }, { on := 3, ground := Ground.phase }, { on := 4, ground := Ground.phase }, { on := 5, ground := Ground.phase }, { on := 6, ground := Ground.phase }, { on := 7, ground := Ground.phase }], guard := none }) (by kernel_rfl) rfl (fun K hK => ?_)
    rw [if_pos (by rfl)]
    go_simp
    refine hK.out _ _ (fun _ => hHeld) ?_
    clear hK K
    try simp only [Act.put, List.setIfInBounds_toArray, List.set_cons_zero, List.set_cons_succ]
    refine wpAnyL_take (i := 9) (oi := { dst := some 37, op := Op.fieldAddr 72 (Operand.tmp 36) 2, type := 0, pos := "raftlog.go:126", after := #[{ on := 8, ground := Ground.data }, { on := 0, ground := Ground.phase }, { on := 1, ground := Ground.phase }, { on := 2, ground := Ground.phase }, { on := 3, ground := Ground.phase }, { on := 4, ground := Ground.phase }, { on := 5, ground := Ground.phase }, { on := 6, ground := Ground.phase }, { on := 7, ground := Ground.phase }], guard := none }) (v := .pointer (some ⟨p, 2, none⟩)) rfl (by kernel_rfl) (by kernel_rfl) (by kernel_rfl) (by kernel_rfl) (fun _ _ _ h => h) (Or.inl ⟨by rfl, ?_⟩) hHeld ?_
    · (intro w hSw; (try dsimp only at hSw); go_simp)
    try simp only [Act.put, List.setIfInBounds_toArray, List.set_cons_zero, List.set_cons_succ]
    refine wpAnyL_one (i := 10) (o := { dst := none, op := Op.store 28 (Operand.tmp 37) (Operand.tmp 35), type := 0, pos := "raftlog.go:126", after := #[{ on := 9, ground := Ground.data }, { on := 7, ground := Ground.data }, { on := 7, ground := Ground.chain }, { on := 0, ground := Ground.phase }, { on := 1, ground := Ground.phase }, { on := 2, ground := Ground.phase }, { on := 3, ground := Ground.phase }, { on := 4, ground := Ground.phase }, { on := 5, ground := Ground.phase }, { on := 6, ground := Ground.phase }, { on := 7, ground := Ground.phase }], guard := none }) (by kernel_rfl) rfl (fun K hK => ?_)
    rw [if_pos (by rfl)]
    go_simp
    refine hK.out _ _ (fun h => absurd rfl h) ?_
    clear hK K
    try simp only [Act.put, List.setIfInBounds_toArray, List.set_cons_zero, List.set_cons_succ]
    refine wpAnyL_done (by kernel_rfl) ?_ _
    go_wp2
    go_end0
    have hc24 : Chg X.drew w4 (Sp p (.slice (some ⟨bb, of, none⟩) kk kk)) := (Chg.bel O2.out).trans (A2.out.sub (fun k e => .inr e)) (fun _ e => .inl e)
    have hc2 : Chg w w4 (Sp p (.slice (some ⟨bb, of, none⟩) ml vc)) := HCX.out.trans hc24 (fun k e => by
      rcases e with e | e
      · exact .inl (.inl e)
      · rcases HNX.out k e with e | e
        · exact .inl (.inr e)
        · exact .inr e)
    refine ReP.mk (LgR.setv HCH.out (.inl rfl) HLO.out A1.out HWF.out HLL.out) (hc2.trans (chg_p _ p 2 _ _) (fun _ e => .inl e)) (fun k hk => ?_)
    rcases A3.out with e | e
    · rw [e] at hk; exact HNX.out k hk
    · rw [e] at hk
      have hk2 := Option.some.inj hk
      have h1 := HCX.out.size
      have h2 := O2.out.size
      exact .inr (by omega)
  · have hke : kk = M.L.length := by omega
    have hkz : ¬ (kk : Int) < (M.L.length : Int) := by omega
    have hte : M.L.take kk = M.L := List.take_of_length_le (by omega)
    rw [hte] at HWF HLL HLEN ⊢
    have HL2 : Hid (∀ n, LgR0 w0 (w.drewN n) p M.bi M.bt (.slice va M.L.length vc) M.L) := hidOf (fun n => ⟨h.blk, h.lo, h.own.below hw0 (bdrewN w n)⟩)
    have HXX : Hid (∀ n, EsR w0 (w.drewN n) (.slice (some ⟨b, off, none⟩) (e0 :: E).length xc) (e0 :: E)) := hidOf (fun n => hx.below hw0 (bdrewN w n))
    clear h hx hxp hwf htk hfz hcut hte hke HTK
    generalize hML : M.L.length = ml at *
    generalize hnE : (e0 :: E).length = n at *
    have hn0 : 0 < n := by rw [← hnE]; simp
    have HDL : Hid ((e0 :: E).length ≤ 33554432) := hidOf (by rw [hnE]; omega)
    have HLN : Hid (M.L.length + (e0 :: E).length ≤ 67108864) := hidOf (by rw [hnE, hML]; exact HLEN.out)
    obtain ⟨D, hD⟩ : ∃ D, D = e0 :: E := ⟨_, rfl⟩
    rw [← hD] at HXX HWF HLL HX0 HDL HLN ⊢
    generalize e0.ix = ix at *
    obtain ⟨bi, bt, L⟩ := M
    dsimp only at *
    clear hD hML hnE hix
    go_enter Try.func37, Try.ntmps37
    go_upto_region 3 with (go_at_call 34; refine HP.out.mono ?_; rintro e w1 ⟨rfl, nq, rfl⟩)
    obtain ⟨X, hX⟩ : ∃ X, X = w.drewN nq := ⟨_, rfl⟩
    rw [← hX]
    have H0 : Hid (LgR0 w0 X.drew p bi bt (.slice va ml vc) L) := by rw [hX]; exact hidOf ((HL2.out nq).bel (bdrew _))
    have HX : Hid (EsR w0 X.drew (.slice (some ⟨b, off, none⟩) n xc) D) := by rw [hX]; exact hidOf ((HXX.out nq).below (by simpa using hw0) (bdrew _))
    have HW : Hid (w0.heap.size ≤ X.drew.heap.size) := by rw [hX]; exact hidOf (by simpa using hw0)
    have HCX : Hid (Chg w X.drew (Sp p (.slice va ml vc))) := by rw [hX]; exact hidOf ⟨rfl, rfl, rfl, Nat.le_refl _, fun _ _ _ => rfl⟩
    have HNX : Hid (Nx w (.slice va ml vc) (.slice va ml vc)) := hidOf (Nx.refl _ _)
    clear hX HL2 HXX
    refine wp_region_L (fun wz : World => wz.cell? ⟨p, 2, none⟩ = some (.slice va ml vc)) 10 (by kernel_rfl) ?_
    have hHeld : (fun wz : World => wz.cell? ⟨p, 2, none⟩ = some (.slice va ml vc)) _ := H0.out.c2
    refine wpAnyL_take (i := 0) (oi := { dst := some 28, op := Op.move (Operand.tmp 0), type := 23, pos := "raftlog.go:126", after := #[], guard := none }) (v := .pointer (some ⟨p, 0, none⟩)) rfl (by kernel_rfl) (by kernel_rfl) (by kernel_rfl) (by kernel_rfl) (fun _ _ _ h => h) (Or.inl ⟨by rfl, ?_⟩) hHeld ?_
    · (intro w hSw; (try dsimp only at hSw); go_simp)
    try simp only [Act.put, List.setIfInBounds_toArray, List.set_cons_zero, List.set_cons_succ]
    refine wpAnyL_take (i := 1) (oi := { dst := some 29, op := Op.move (Operand.tmp 0), type := 23, pos := "raftlog.go:126", after := #[], guard := none }) (v := .pointer (some ⟨p, 0, none⟩)) rfl (by kernel_rfl) (by kernel_rfl) (by kernel_rfl) (by kernel_rfl) (fun _ _ _ h => h) (Or.inl ⟨by rfl, ?_⟩) hHeld ?_
    · (intro w hSw; (try dsimp only at hSw); go_simp)
    try simp only [Act.put, List.setIfInBounds_toArray, List.set_cons_zero, List.set_cons_succ]
    refine wpAnyL_take (i := 2) (oi := { dst := some 30, op := Op.nilCheck (Operand.tmp 29), type := 0, pos := "raftlog.go:126", after := #[{ on := 1, ground := Ground.data }], guard := none }) (v := .pointer (some ⟨p, 0, none⟩)) rfl (by kernel_rfl) (by kernel_rfl) (by kernel_rfl) (by kernel_rfl) (fun _ _ _ h => h) (Or.inl ⟨by rfl, ?_⟩) hHeld ?_
    · (intro w hSw; (try dsimp only at hSw); go_simp)
    try simp only [Act.put, List.setIfInBounds_toArray, List.set_cons_zero, List.set_cons_succ]
    refine wpAnyL_take (i := 3) (oi := { dst := some 31, op := Op.fieldAddr 72 (Operand.tmp 30) 2, type := 0, pos := "raftlog.go:126", after := #[{ on := 2, ground := Ground.data }], guard := none }) (v := .pointer (some ⟨p, 2, none⟩)) rfl (by kernel_rfl) (by kernel_rfl) (by kernel_rfl) (by kernel_rfl) (fun _ _ _ h => h) (Or.inl ⟨by rfl, ?_⟩) hHeld ?_
    · (intro w hSw; (try dsimp only at hSw); go_simp)
    try simp only [Act.put, List.setIfInBounds_toArray, List.set_cons_zero, List.set_cons_succ]
    refine wpAnyL_take (i := 4) (oi := { dst := some 32, op := Op.load 28 (Operand.tmp 31), type := 28, pos := "raftlog.go:126", after := #[{ on := 3, ground := Ground.data }], guard := none }) (v := .slice va ml vc) rfl (by kernel_rfl) (by kernel_rfl) (by kernel_rfl) (by kernel_rfl) (fun _ _ _ h => h) (Or.inl ⟨by rfl, ?_⟩) hHeld ?_
    · (intro w hSw; go_simp)
    try simp only [Act.put, List.setIfInBounds_toArray, List.set_cons_zero, List.set_cons_succ]
    refine wpAnyL_take (i := 5) (oi := { dst := some 33, op := Op.move (Operand.tmp 1), type := 28, pos := "raftlog.go:126", after := #[], guard := none }) (v := .slice (some ⟨b, off, none⟩) n xc) rfl (by kernel_rfl) (by kernel_rfl) (by kernel_rfl) (by kernel_rfl) (fun _ _ _ h => h) (Or.inl ⟨by rfl, ?_⟩) hHeld ?_
    · (intro w hSw; (try dsimp only at hSw); go_simp)
    try simp only [Act.put, List.setIfInBounds_toArray, List.set_cons_zero, List.set_cons_succ]
    refine wpAnyL_one (i := 6) (o := { dst := some 34, op := Op.call { callee := Callee.value (Operand.func 38), args := #[Operand.tmp 33], argTypes := #[28] }, type := 28, pos := "raftlog.go:126", after := #[{ on := 5, ground := Ground.data }], guard := none }) (by kernel_rfl) rfl (fun K hK => ?_)
    rw [if_pos (by rfl)]
    go_simp
    refine (copyEntries_any w0 X.drew HW.out _ D HX.out (by have := HDL.out; omega)).mono ?_
    rintro en w3 ⟨v3, rfl, o1, o2, o3⟩
    have O1 := hidOf o1
    have O2 := hidOf o2
    have H3 := hidOf (H0.out.bel o2)
    have s3 := H3.out.c2
    have HW3 : Hid (w0.heap.size ≤ w3.heap.size) := hidOf (Nat.le_trans HW.out o2.size)
    clear o1 o2 o3
    refine hK.out _ _ (fun _ => s3) ?_
    have hHeld := s3
    clear hK K
    try simp only [Act.put, List.setIfInBounds_toArray, List.set_cons_zero, List.set_cons_succ]
    refine wpAnyL_one (i := 7) (o := { dst := some 35, op := Op.call { callee := Callee.builtin Builtin.append, args := #[Operand.tmp 32, Operand.tmp 34], argTypes := #[28, 28] }, type := 28, pos := "raftlog.go:126", after := #[{ on := 4, ground := Ground.data }, { on := 6, ground := Ground.data }, { on := 6, ground := Ground.chain }], guard := none }) (by kernel_rfl) rfl (fun K hK => ?_)
    rw [if_pos (by rfl)]
    refine oper_app _ (.tmp 32) (.tmp 34) rfl w0 HW3.out (.slice va ml vc) v3 (L) D rfl H3.out.own rfl O1.out.es HLN.out (fun v4 w4 a1 a2 a3 => ?_)
    have A1 := hidOf a1
    have A2 := hidOf a2
    have A3 := hidOf a3
    obtain ⟨va4, ln4, vc4, hv4⟩ : ∃ a n c, v4 = Value.slice a n c := by obtain ⟨a, c, h⟩ := a1.es.form; exact ⟨a, _, c, h⟩
    subst hv4
    have hch := H3.out.pkeep a2
    have s4 : w4.cell? ⟨p, 2, none⟩ = some (.slice va ml vc) := by rw [cell_of_row _ _ _ _ 72 (0, 0) hch]; rfl
    have lp4 := heap_lt hch
    have f4 : w4.frozen? ⟨p, 2, none⟩ = false := by simp [World.frozen?, hch]
    have HCH := hidOf hch
    clear a1 a2 a3 hch
    refine hK.out _ _ (fun _ => s4) ?_
    have hHeld := s4
    clear hK K
    try simp only [Act.put, List.setIfInBounds_toArray, List.set_cons_zero, List.set_cons_succ]
    refine wpAnyL_one (i := 8) (o := { dst := some 36, op := Op.nilCheck (Operand.tmp 28), type := 0, pos := "raftlog.go:126", after := #[{ on := 0, ground := Ground.data }, { on := 0, ground := Ground.phase }, { on := 1, ground := Ground.phase }, { on := 2, ground := Ground.phase }, { on := 3, ground := Ground.phase }, { on := 4, ground := Ground.phase }, { on := 5, ground := Ground.phase }, { on := 6, ground := Ground.phase }, { on := 7, ground := Ground.phase }], guard := none }) (by kernel_rfl) rfl (fun K hK => ?_)
    rw [if_pos (by rfl)]
    go_simp
    refine hK.out _ _ (fun _ => hHeld) ?_
    clear hK K
    try simp only [Act.put, List.setIfInBounds_toArray, List.set_cons_zero, List.set_cons_succ]
    refine wpAnyL_take (i := 9) (oi := { dst := some 37, op := Op.fieldAddr 72 (Operand.tmp 36) 2, type := 0, pos := "raftlog.go:126", after := #[{ on := 8, ground := Ground.data }, { on := 0, ground := Ground.phase }, { on := 1, ground := Ground.phase }, { on := 2, ground := Ground.phase }, { on := 3, ground := Ground.phase }, { on := 4, ground := Ground.phase }, { on := 5, ground := Ground.phase }, { on := 6, ground := Ground.phase }, { on := 7, ground := Ground.phase }], guard := none }) (v := .pointer (some ⟨p, 2, none⟩)) rfl (by kernel_rfl) (by kernel_rfl) (by kernel_rfl) (by kernel_rfl) (fun _ _ _ h => h) (Or.inl ⟨by rfl, ?_⟩) hHeld ?_
    · (intro w hSw; (try dsimp only at hSw); go_simp)
    try simp only [Act.put, List.setIfInBounds_toArray, List.set_cons_zero, List.set_cons_succ]
    refine wpAnyL_one (i := 10) (o := { dst := none, op := Op.store 28 (Operand.tmp 37) (Operand.tmp 35), type := 0, pos := "raftlog.go:126", after := #[{ on := 9, ground := Ground.data }, { on := 7, ground := Ground.data }, { on := 7, ground := Ground.chain }, { on := 0, ground := Ground.phase }, { on := 1, ground := Ground.phase }, { on := 2, ground := Ground.phase }, { on := 3, ground := Ground.phase }, { on := 4, ground := Ground.phase }, { on := 5, ground := Ground.phase }, { on := 6, ground := Ground.phase }, { on := 7, ground := Ground.phase }], guard := none }) (by kernel_rfl) rfl (fun K hK => ?_)
    rw [if_pos (by rfl)]
    go_simp
    refine hK.out _ _ (fun h => absurd rfl h) ?_
    clear hK K
    try simp only [Act.put, List.setIfInBounds_toArray, List.set_cons_zero, List.set_cons_succ]
    refine wpAnyL_done (by kernel_rfl) ?_ _
    go_wp2
    go_end0
    have hc24 : Chg X.drew w4 (Sp p (.slice va ml vc)) := (Chg.bel O2.out).trans (A2.out.sub (fun k e => .inr e)) (fun _ e => .inl e)
    have hc2 : Chg w w4 (Sp p (.slice va ml vc)) := HCX.out.trans hc24 (fun k e => by
      rcases e with e | e
      · exact .inl (.inl e)
      · rcases HNX.out k e with e | e
        · exact .inl (.inr e)
        · exact .inr e)
    refine ReP.mk (LgR.setv HCH.out (.inl rfl) HLO.out A1.out HWF.out HLL.out) (hc2.trans (chg_p _ p 2 _ _) (fun _ e => .inl e)) (fun k hk => ?_)
    rcases A3.out with e | e
    · rw [e] at hk; exact HNX.out k hk
    · rw [e] at hk
      have hk2 := Option.some.inj hk
      have h1 := HCX.out.size
      have h2 := O2.out.size
      exact .inr (by omega)
end
end Go.Proofs.Ytdkmlgkljhhokaa
