/- Crash. -/
import Derived.Test.YtkbmfookdhlphaaDsy
import Derived.Maps.RangeWalk
import Derived.Sort.MapsRangeIn
namespace Go.Proofs.Ytkbmfookdhlphaa
open Go.RowKit Go.Maps

/- which of s + 1 numbers is picked -/
def pickN (pick : Int) (s : Nat) : Nat := ((pick.tmod ((s : Int) + 1) + ((s : Int) + 1)).tmod ((s : Int) + 1)).toNat
theorem tmod_abs (a b : Int) (hb : 0 < b) : -b < a.tmod b ∧ a.tmod b < b := by
  have h1 := Int.tmod_lt_of_pos a hb
  have h2 : -b < a.tmod b := by
    have := Int.neg_lt_of_neg_lt (a := b) (b := a.tmod b)
    rcases Int.le_total 0 a with h | h
    · have := Int.tmod_nonneg b h; omega
    · have e : a.tmod b = -((-a).tmod b) := by rw [Int.neg_tmod]; omega
      have := Int.tmod_lt_of_pos (-a) hb
      omega
  exact ⟨h2, h1⟩
theorem pick_eq (pick : Int) (s : Nat) : (pick.tmod ((s : Int) + 1) + ((s : Int) + 1)).tmod ((s : Int) + 1) = (pickN pick s : Int) ∧ pickN pick s ≤ s := by
  obtain ⟨h1, h2⟩ := tmod_abs pick ((s : Int) + 1) (by omega)
  have h3 := Int.tmod_nonneg ((s : Int) + 1) (a := pick.tmod ((s : Int) + 1) + ((s : Int) + 1)) (by omega)
  have h4 := Int.tmod_lt_of_pos (pick.tmod ((s : Int) + 1) + ((s : Int) + 1)) (b := (s : Int) + 1) (by omega)
  unfold pickN
  omega

/- in the midst of the copying: D holds what was copied; left: what is still to come -/
structure CrS (w2 wr : World) (p bD cnt : Nat) (lf : Int) (DD D : DataW Value) (left : Lit → Bool) (cr : Nat) : Prop where
  rg : ∃ n, n ≤ cnt ∧ wr.ranges Try.prog 9 RV bD (w2.heap.size + 1) n DD left cr
  mN : ∃ n, n + cr ≤ cnt ∧ MapR wr w2.heap.size n D
  hs : ∀ k, Maps.has D (.string k) = (Maps.has DD (.string k) && !left (.string k))
  vs : ∀ k, vAt D k = if Maps.has D (.string k) = true then clipV (vAt DD k) else .slice none 0 0
  blk : DskB wr p w2.heap.size bD (.slice none 0 0) lf
  os : wr.os = w2.os
  tape : wr.tape = w2.tape
  output : wr.output = w2.output
  size : w2.heap.size + 2 ≤ wr.heap.size
  oth : ∀ k, k < w2.heap.size → k ≠ p → wr.heap[k]? = w2.heap[k]?
theorem dskB_files {w : World} {p bF bD : Nat} {dn : Value} {left : Int} (h : DskB w p bF bD dn left) (b : Nat) : DskB (w.setCell ⟨p, 0, none⟩ (.map (some b))) p b bD dn left := by
  have h' : w.heap[p]? = _ := h
  show _ = _
  rw [heap_setCell_same w p 0 _ 56 _ h']
  rfl
theorem CrS.step {w2 wr w5 w6 : World} {p bD cnt : Nat} {lf : Int} {DD D : DataW Value} {left : Lit → Bool} {cr cr' n : Nat} {x : ByteArray} (h : CrS w2 wr p bD cnt lf DD D left cr) (hr : ∃ n, n ≤ cnt ∧ w5.ranges Try.prog 9 RV bD (w2.heap.size + 1) n DD (fun z => left z && !z.sameKey (.string x.data.toList)) cr') (hlt : cr' < cr) (hn : n + cr ≤ cnt) (hg : wr.grownBy w5 (some (w2.heap.size + 1))) (hh : Maps.has DD (.string x.data.toList) = true) (hm : MapR wr w2.heap.size n D) (hbD : bD < w2.heap.size) (hp : p < w2.heap.size)
    (hm6 : MapR w6 w2.heap.size (n + 1) (D.put (.string x.data.toList) (.held (clipV (vAt DD x.data.toList))))) (hg6 : w5.grownBy w6 (some w2.heap.size)) : CrS w2 w6 p bD cnt lf DD (D.put (.string x.data.toList) (.held (clipV (vAt DD x.data.toList)))) (fun z => left z && !z.sameKey (.string x.data.toList)) cr' := by
  have hD := hm.isMap
  have hhs : ∀ k, Maps.has (D.put (.string x.data.toList) (.held (clipV (vAt DD x.data.toList)))) (.string k) = (Maps.has DD (.string k) && !(left (.string k) && !(Lit.string k).sameKey (.string x.data.toList))) := by
    intro k
    rw [has_put hD, h.hs]
    by_cases e : k = x.data.toList
    · subst e
      have : (Lit.string x.data.toList).sameKey (.string x.data.toList) = true := WideAt.sameKey_self (by simp [WideAt.IsKeyLit])
      simp [hh, this]
    · have : (Lit.string k).sameKey (.string x.data.toList) = false := sameKey_ne (by simpa using e)
      simp [e, this]
  obtain ⟨nr, hnr, hrg⟩ := hr
  refine ⟨⟨nr, hnr, hrg.kept hg6 (by simp; omega) (by simp)⟩, ⟨n + 1, by omega, hm6⟩, hhs, fun k => ?_, (hg6.block p (by have := hg.size; have := h.size; omega) (by simp; omega)).trans ((hg.block p (by have := h.size; omega) (by simp; omega)).trans h.blk), hg6.os.trans (hg.os.trans h.os), hg6.tape.trans (hg.tape.trans h.tape), hg6.output.trans (hg.output.trans h.output), Nat.le_trans h.size (Nat.le_trans hg.size hg6.size), fun k hk hkp => (hg6.block k (by have := hg.size; have := h.size; omega) (by simp; omega)).trans ((hg.block k (by have := h.size; omega) (by simp; omega)).trans (h.oth k hk hkp))⟩
  rw [vAt_put hD, has_put hD]
  by_cases e : k = x.data.toList
  · subst e; simp
  · simp only [e, if_false, decide_false, Bool.false_or]
    exact h.vs k
theorem turned_undrew {w w' : World} {b : Nat} (h : w.drew.mapTurned w' b) : w.grownBy w' (some b) := ⟨h.grown.os, h.grown.tape, h.grown.output, h.grown.size, h.grown.block⟩
theorem crash_mid {w2 : World} {p bF bD cnt : Nat} {M : Md} {DF DD : DataW Value} {dn : Value} {G : List Gd} (h : DkR w2 p M cnt bF bD DF DD dn G) : (∃ n, n ≤ cnt ∧ MapR ((w2.setCell ⟨p, 0, none⟩ (.map (some w2.heap.size))).alloc (.map #[] 0)) bD n DD) ∧ DskB ((w2.setCell ⟨p, 0, none⟩ (.map (some w2.heap.size))).alloc (.map #[] 0)) p w2.heap.size bD dn M.left := by
  obtain ⟨n, hn, hm⟩ := h.mD
  have hne : bD ≠ p := by
    intro e
    obtain ⟨es, c, hb⟩ := hm.obj
    have hb' : w2.heap[p]? = _ := h.blk
    rw [e, hb'] at hb
    cases hb
  have hlt := hm.lt
  have hlp := h.blk.lt
  exact ⟨⟨n, by omega, hm.kept ((Below.heap_alloc _ _ bD (by simpa using hlt)).trans (Below.heap_setCell w2 ⟨p, 0, none⟩ _ bD hne))⟩, (Below.heap_alloc _ _ p (by simpa using hlp)).trans (dskB_files h.blk _)⟩
theorem crash_begin {w2 w4 : World} {p bF bD cnt nD : Nat} {fs dur : FS} {lf : Int} {DF DD : DataW Value} (h : DkR w2 p ⟨fs, dur, [], lf⟩ cnt bF bD DF DD (.slice none 0 0) []) (hnD : nD ≤ cnt) (hm : MapR ((w2.setCell ⟨p, 0, none⟩ (.map (some w2.heap.size))).alloc (.map #[] 0)) bD nD DD) (hr : w4.ranges Try.prog 9 RV bD (w2.heap.size + 1) nD DD (Maps.has DD) (Maps.size DD)) (hg : World.grownBy ((w2.setCell ⟨p, 0, none⟩ (.map (some w2.heap.size))).alloc (.map #[] 0)) w4 none) : CrS w2 w4 p bD cnt lf DD (.map []) (Maps.has DD) (Maps.size DD) := by
  have hsz : Maps.size DD ≤ nD := World.ownsMap.size_le hm
  have e1 : (w2.setCell ⟨p, 0, none⟩ (.map (some w2.heap.size))).heap.size = w2.heap.size := by simp
  have hlp := h.blk.lt
  have hmN := mapR_new (w2.setCell ⟨p, 0, none⟩ (.map (some w2.heap.size)))
  rw [e1] at hmN
  have hs4 := hg.size
  have hblk := (crash_mid h).2
  refine ⟨⟨nD, hnD, hr⟩, ⟨0, by omega, hmN.kept (hg.block _ hmN.lt (by simp))⟩, fun k => ?_, fun k => rfl, (hg.block p (by simp; omega) (by simp)).trans hblk, hg.os, hg.tape, hg.output, ?_, fun k hk hkp => ?_⟩
  · rw [has_new]; cases Maps.has DD (.string k) <;> rfl
  · have := hr.lt; omega
  · exact (hg.block k (by simp; omega) (by simp)).trans ((Below.heap_alloc _ _ k (by simpa using hk)).trans (Below.heap_setCell w2 ⟨p, 0, none⟩ _ k hkp))
theorem clip_nil : clipV (.slice none 0 0) = .slice none 0 0 := rfl
theorem CrS.fin {w2 wr : World} {p bF bD cnt : Nat} {fs dur : FS} {lf : Int} {DF DD D : DataW Value} {left : Lit → Bool} {cr : Nat} (h : CrS w2 wr p bD cnt lf DD D left cr) (hl : ∀ kl, left kl = false) (h2 : DkR w2 p ⟨fs, dur, [], lf⟩ cnt bF bD DF DD (.slice none 0 0) []) :
    DkR (wr.setCell ⟨p, 3, none⟩ (.int .i64 (-1))) p ⟨dur, dur, [], -1⟩ cnt w2.heap.size bD D DD (.slice none 0 0) [] ∧ Fr w2 (wr.setCell ⟨p, 3, none⟩ (.int .i64 (-1))) (Ft p bF bD DF DD (.slice none 0 0) []) (Ft p w2.heap.size bD D DD (.slice none 0 0) []) := by
  have hhas : ∀ k, Maps.has D (.string k) = Maps.has DD (.string k) := fun k => by rw [h.hs, hl]; simp
  have hv : ∀ k, vAt D k = clipV (vAt DD k) := fun k => by
    rw [h.vs, hhas]
    by_cases e : Maps.has DD (.string k) = true
    · rw [if_pos e]
    · rw [if_neg e, vAt_no (by simpa using e), clip_nil]
  obtain ⟨nr, hnr, hrg⟩ := h.rg
  obtain ⟨nN, hnN, hmN⟩ := h.mN
  have hpl := h2.blk.lt
  have hold : ∀ k, SlR wr (vAt DD k) (cOf dur k) := fun k => (h2.liv.r true k).kept fun g hg => h.oth g ((h2.liv.r true k).lt g hg) (fun e => (h2.liv.r true k).ne_cells h2.blk (by decide) (by rw [hg, e]))
  have hsep : ∀ k k', k ≠ k' → Sep (vAt DD k) (vAt DD k') := fun k k' hne => h2.liv.sep true k true k' (fun e => hne e.2)
  have d1 : DkR wr p ⟨dur, dur, [], lf⟩ cnt w2.heap.size bD D DD (.slice none 0 0) [] := by
    refine ⟨h.blk, ⟨nN, by omega, hmN⟩, ⟨nr, by simpa using hnr, hrg.owns⟩, ?_, fun k => by rw [hhas]; exact h2.hD k, h2.hD, ⟨fun s k => ?_, fun s k s' k' hne => ?_, fun s k z hz => (by cases hz)⟩, ⟨rfl, .inl ⟨rfl, rfl⟩⟩, rfl, fun g hg => (by cases hg), h2.leb, h2.cn⟩
    · obtain ⟨n, _, hm⟩ := h2.mD
      have := hm.lt
      omega
    · cases s with
      | false => show SlR wr (vAt D k) (cOf dur k); rw [hv]; exact (hold k).clip
      | true => exact hold k
    · cases s <;> cases s'
      · show Sep (vAt D k) (vAt D k')
        rw [hv, hv]
        exact fun g _ _ => ⟨fun e => absurd e (clipV_gr _), fun e => absurd e (clipV_gr _)⟩
      · show Sep (vAt D k) (vAt DD k')
        rw [hv]
        intro g e1 e2
        refine ⟨fun e => absurd e (clipV_gr _), fun e => ⟨clipV_gr _, ?_⟩⟩
        rw [clipV_len]
        rw [clipV_own] at e1
        by_cases ek : k = k'
        · subst ek; exact Nat.le_refl _
        · exact ((hsep k k' ek g e1 e2).2 e).2
      · show Sep (vAt DD k) (vAt D k')
        rw [hv]
        intro g e1 e2
        refine ⟨fun e => ⟨clipV_gr _, ?_⟩, fun e => absurd e (clipV_gr _)⟩
        rw [clipV_len]
        rw [clipV_own] at e2
        by_cases ek : k = k'
        · subst ek; exact Nat.le_refl _
        · exact ((hsep k k' ek g e1 e2).1 e).2
      · exact hsep k k' (fun e => hne ⟨rfl, e⟩)
  have f1 : Fr w2 wr (Ft p bF bD DF DD (.slice none 0 0) []) (Ft p w2.heap.size bD D DD (.slice none 0 0) []) := by
    refine ⟨h.os, h.tape, h.output, by have := h.size; omega, fun k hk hF => h.oth k hk (fun e => hF (.inl e)), fun k hk => ?_⟩
    rcases hk with e | e | e | e | ⟨s, j, e2⟩ | ⟨_, e, _⟩
    · exact .inl (.inl e)
    · exact .inr (by omega)
    · exact .inl (.inr (.inr (.inl e)))
    · cases e
    · cases s with
      | false =>
        have e3 : (vAt D j).ownBlock = some k := e2
        rw [hv, clipV_own] at e3
        exact .inl (.inr (.inr (.inr (.inr (.inl ⟨true, j, e3⟩)))))
      | true => exact .inl (.inr (.inr (.inr (.inr (.inl ⟨true, j, e2⟩)))))
    · cases e
  exact ⟨d1.setLeft (-1) (by decide), f1.trans (Fr.setp _ _ _ _ _ _ _ _ _ _)⟩

set_option maxHeartbeats 4000000 in
set_option maxRecDepth 100000 in
theorem crash_any (pick : Int) (p cnt bF bD : Nat) (M : Md) (DF DD : DataW Value) (dn : Value) (G : List Gd) (w : World) (h : DkR w p M cnt bF bD DF DD dn G) (hU : ∀ x ∈ M.done, 1 ≤ x.1 ∧ x.1 ≤ 1048576) (hbd : ∀ k, Bd (rep (M.done.take k) M.dur)) (hc : cnt ≤ 2199023255552) : Calls Try.prog 21 #[.pointer (some ⟨p, 0, none⟩), .int .i64 pick] w fun e w' => e = .returned (.tuple #[]) ∧ ∃ bN DN DD', DkR w' p ⟨mkD M.done (pickN pick (sumU M.done)) M.dur, mkD M.done (pickN pick (sumU M.done)) M.dur, [], -1⟩ cnt bN bD DN DD' (.slice none 0 0) [] ∧ Fr w w' (Ft p bF bD DF DD dn (G.map (·.z))) (Ft p bN bD DN DD' (.slice none 0 0) []) := by
  have hsum : sumU M.done ≤ M.done.length * 1048576 := by
    have h1 := sumU_le M.done 1048576 (fun x hx => (hU x hx).2) M.done.length
    rwa [List.take_length] at h1
  have hlg := h.lenG
  obtain ⟨nD0, hnD0, _⟩ := h.mD
  have hU2 : ∀ x ∈ M.done, x.1 ≤ 1048576 := fun x hx => (hU x hx).2
  have HU := hidOf (units_any p cnt bF bD M DF DD dn G w h hU2)
  have HUU := hidOf hU
  have HBD := hidOf hbd
  have H := hidOf h
  generalize hs : sumU M.done = s at *
  obtain ⟨hp1, hp2⟩ := pick_eq pick s
  obtain ⟨ht1, ht2⟩ := tmod_abs pick ((s : Int) + 1) (by omega)
  have hnz : ¬ ((s : Int) + 1 = 0) := by omega
  have hs61 : s ≤ 2305843009213693952 := by omega
  have hmh : ∀ (n : Int) (w : World), (Instr.makeMap 53 (some (.int .i64 n))).run Try.prog w = .ok (.map (some w.heap.size)) (w.alloc (.map #[] 0)) := fun _ _ => by first | rfl | (simp [Instr.makeMap, go_sem]; done)
  clear h hU hbd hU2 hs hsum
  go_enter Try.func21, Try.ntmps21
  go_wp2_with (first
    | (go_at_call 49; refine HU.out.mono ?_; rintro e w1 ⟨rfl, hb⟩; have HB := hidOf hb; clear hb)
    | (go_at_call 48; refine (makeDurable_any p cnt bF bD M DF DD dn G _ (H.out.below HB.out) (pickN pick s) (by omega) HUU.out HBD.out hc).mono ?_; rintro e w2 ⟨rfl, DD', hd2, hf2⟩; have H2 := hidOf hd2; have F2 := hidOf hf2; have c1 := hd2.blk.c1; have lp := hd2.blk.lt; have fz := hd2.blk.fr; have c0 := hd2.blk.c0; have hlen : (Builtin.len_ #[53] 3 #[.map (some bD)]).run Try.prog w2 = .ok (.int .i64 (Maps.size DD')) w2 := (by obtain ⟨n, _, hm⟩ := hd2.mD; exact World.ownsMap.len hm Try.underlying53 3); clear hd2 hf2)
    | (at_range; have HM4 : Hid (∃ n, n ≤ cnt ∧ MapR ((w2.setCell ⟨p, 0, none⟩ (.map (some w2.heap.size))).alloc (.map #[] 0)) bD n DD') := hidOf (crash_mid H2.out).1; obtain ⟨nD, hnD, hmD4⟩ := HM4.out; refine wpList_range_own _ rfl _ 53 rfl 9 29 law9 Try.underlying53 RV bD nD DD' rfl hmD4 ?_; intro w4 hrg hgr hsz4; have HC4 := hidOf (crash_begin H2.out hnD hmD4 (by simpa using hrg) hgr); clear hrg hgr hmD4 c0 c1 lp fz hlen))
  have hbD : bD < w2.heap.size := by obtain ⟨n, _, hm⟩ := H2.out.mD; exact hm.lt
  have hpl : p < w2.heap.size := H2.out.blk.lt
  go_frame
  go_loopw [5] (fun _ wr => ∃ (D : DataW Value) (left : Lit → Bool) (cr : Nat), Hid (CrS w2 wr p bD cnt M.left DD' D left cr)) (fun _ wr => wr.rangeLeft bD (w2.heap.size + 1))
  case atStart => exact ⟨_, _, _, HC4⟩
  case round =>
    obtain ⟨D, left, cr, HR⟩ := hrel
    clear HC4
    obtain ⟨nr, hnr, hrg⟩ := HR.out.rg
    have HRG := hidOf hrg
    clear hrg
    go_wp2_with (at_next; refine wpList_next_ranges _ rfl _ rfl 9 law9 RV (fun s : ByteArray => .string s) (fun v : Value => v) (fun key kl hk => Maps.keyOf_string_inv Try.underlying9 hk) (fun v y _ => ⟨v, rfl⟩) bD (w2.heap.size + 1) nr DD' left cr (by simp [Act.eval]) HRG.out ?_ ?_)
    · intro _ hl0
      have HL0 := hidOf hl0
      clear hl0
      have d3 := HR.out.blk.c3
      have lq := HR.out.blk.lt
      have fq := HR.out.blk.fr
      go_wp2
      go_end0
      obtain ⟨g1, g2⟩ := HR.out.fin HL0.out H2.out
      exact ⟨rfl, w2.heap.size, D, DD', g1, ((Fr.of_below HB.out).trans F2.out).trans g2⟩
    · intro x c kl yd yp w5 cr5 hkey hlk hv hat hrg5 hlt5 hg5 hs5 hen
      obtain ⟨x', ex, ekl, hxs⟩ := WideMaps.string_of_keyOf Try.underlying9 hkey
      cases ex
      subst ekl
      have hy : yd = .held c := by simp [RV] at hv; exact hv.1.symm
      subst hy
      have hvx : vAt DD' x.data.toList = c := by
        unfold vAt
        rw [hat]
      have hhx : Maps.has DD' (.string x.data.toList) = true := has_true_of_atKey hat
      obtain ⟨fa, fc, ef, hle, _⟩ := (H2.out.liv.r true x.data.toList).form
      have ef : vAt DD' x.data.toList = .slice fa (cOf (mkD M.done (pickN pick s) M.dur) x.data.toList).length fc := ef
      have hnil := (show SlR w2 (.slice fa (cOf (mkD M.done (pickN pick s) M.dur) x.data.toList).length fc) (cOf (mkD M.done (pickN pick s) M.dur) x.data.toList) from ef ▸ H2.out.liv.r true x.data.toList).nilOf
      rw [ef] at hvx
      subst hvx
      obtain ⟨n, hn, hmN⟩ := HR.out.mN
      have hrl : wr.rangeLeft bD (w2.heap.size + 1) = cr := HRG.out.left_eq
      have hm5 : MapR w5 w2.heap.size n D := hmN.kept (hg5.block _ hmN.lt (by simp))
      have hb5 : DskB w5 p w2.heap.size bD (.slice none 0 0) M.left := (hg5.block p HR.out.blk.lt (by simp; omega)).trans HR.out.blk
      have c0 := hb5.c0
      have lq := hb5.lt
      have HM5 := hidOf hm5
      have HN := hidOf hmN
      have HG5 := hidOf hg5
      have HRG5 : Hid (∃ n, n ≤ cnt ∧ w5.ranges Try.prog 9 RV bD (w2.heap.size + 1) n DD' (fun z => left z && !z.sameKey (.string x.data.toList)) cr5) := hidOf ⟨nr, hnr, hrg5⟩
      have HEF := hidOf ef
      have hcn := H2.out.cn
      have hnm : n < maxLen := by unfold maxLen; omega
      have HRL := hidOf hrl
      clear hkey hlk hv hat hrg5 hg5 hm5 hmN hb5 ef hrl
      generalize hfl : (cOf (mkD M.done (pickN pick s) M.dur) x.data.toList).length = fl at *
      clear hfl
      go_wp2
      refine wp_region_L (fun w' : World => w'.cell? ⟨p, 0, none⟩ = some (.map (some w2.heap.size)) ∧ MapR w' w2.heap.size n D) 7 (by kernel_rfl) ?_
      have hHeld : (fun w' : World => w'.cell? ⟨p, 0, none⟩ = some (.map (some w2.heap.size)) ∧ MapR w' w2.heap.size n D) _ := ⟨c0, HM5.out⟩
      refine wpAnyL_take (i := 0) (oi := { dst := some 38, op := Op.move (Operand.tmp 0), type := 23, pos := "disk.go:140", after := #[], guard := none }) (v := .pointer (some ⟨p, 0, none⟩)) rfl (by kernel_rfl) (by kernel_rfl) (by kernel_rfl) (by kernel_rfl) (fun _ _ _ h => h) (Or.inl ⟨by rfl, ?_⟩) hHeld ?_
      · (intro w hSw; (try dsimp only at hSw); go_simp)
      try simp only [Act.put, List.setIfInBounds_toArray, List.set_cons_zero, List.set_cons_succ]
      refine wpAnyL_take (i := 1) (oi := { dst := some 39, op := Op.nilCheck (Operand.tmp 38), type := 0, pos := "disk.go:140", after := #[{ on := 0, ground := Ground.data }], guard := none }) (v := .pointer (some ⟨p, 0, none⟩)) rfl (by kernel_rfl) (by kernel_rfl) (by kernel_rfl) (by kernel_rfl) (fun _ _ _ h => h) (Or.inl ⟨by rfl, ?_⟩) hHeld ?_
      · (intro w hSw; (try dsimp only at hSw); go_simp)
      try simp only [Act.put, List.setIfInBounds_toArray, List.set_cons_zero, List.set_cons_succ]
      refine wpAnyL_take (i := 2) (oi := { dst := some 40, op := Op.fieldAddr 56 (Operand.tmp 39) 0, type := 0, pos := "disk.go:140", after := #[{ on := 1, ground := Ground.data }], guard := none }) (v := .pointer (some ⟨p, 0, none⟩)) rfl (by kernel_rfl) (by kernel_rfl) (by kernel_rfl) (by kernel_rfl) (fun _ _ _ h => h) (Or.inl ⟨by rfl, ?_⟩) hHeld ?_
      · (intro w hSw; (try dsimp only at hSw); go_simp)
      try simp only [Act.put, List.setIfInBounds_toArray, List.set_cons_zero, List.set_cons_succ]
      refine wpAnyL_take (i := 3) (oi := { dst := some 41, op := Op.load 53 (Operand.tmp 40), type := 53, pos := "disk.go:140", after := #[{ on := 2, ground := Ground.data }], guard := none }) (v := .map (some w2.heap.size)) rfl (by kernel_rfl) (by kernel_rfl) (by kernel_rfl) (by kernel_rfl) (fun _ _ _ h => h) (Or.inl ⟨by rfl, ?_⟩) hHeld ?_
      · (intro w hSw; obtain ⟨s1, _⟩ := hSw; go_simp)
      try simp only [Act.put, List.setIfInBounds_toArray, List.set_cons_zero, List.set_cons_succ]
      refine wpAnyL_take (i := 4) (oi := { dst := some 42, op := Op.move (Operand.tmp 5), type := 9, pos := "disk.go:140", after := #[], guard := none }) (v := .string x) rfl (by kernel_rfl) (by kernel_rfl) (by kernel_rfl) (by kernel_rfl) (fun _ _ _ h => h) (Or.inl ⟨by rfl, ?_⟩) hHeld ?_
      · (intro w hSw; (try dsimp only at hSw); go_simp)
      try simp only [Act.put, List.setIfInBounds_toArray, List.set_cons_zero, List.set_cons_succ]
      refine wpAnyL_take (i := 5) (oi := { dst := some 43, op := Op.move (Operand.tmp 6), type := 29, pos := "disk.go:140", after := #[], guard := none }) (v := .slice fa fl fc) rfl (by kernel_rfl) (by kernel_rfl) (by kernel_rfl) (by kernel_rfl) (fun _ _ _ h => h) (Or.inl ⟨by rfl, ?_⟩) hHeld ?_
      · (intro w hSw; (try dsimp only at hSw); go_simp)
      try simp only [Act.put, List.setIfInBounds_toArray, List.set_cons_zero, List.set_cons_succ]
      refine wpAnyL_one (i := 6) (o := { dst := some 44, op := Op.call { callee := Callee.value (Operand.func 43), args := #[Operand.tmp 43], argTypes := #[29] }, type := 29, pos := "disk.go:140", after := #[{ on := 5, ground := Ground.data }], guard := none }) (by kernel_rfl) rfl (fun K hK => ?_)
      rw [if_pos (by rfl)]
      go_simp
      refine (clip_any fa fl fc _ hnil.2.1 hnil.1 hnil.2.2).mono ?_
      rintro e w7 ⟨rfl, rfl⟩
      refine hK.out _ _ (fun _ => hHeld) ?_
      clear hK K
      try simp only [Act.put, List.setIfInBounds_toArray, List.set_cons_zero, List.set_cons_succ]
      refine wpAnyL_one (i := 7) (o := { dst := none, op := Op.mapUpdate 53 (Operand.tmp 41) (Operand.tmp 42) (Operand.tmp 44), type := 0, pos := "disk.go:140", after := #[{ on := 3, ground := Ground.data }, { on := 4, ground := Ground.data }, { on := 6, ground := Ground.data }, { on := 6, ground := Ground.chain }, { on := 0, ground := Ground.phase }, { on := 1, ground := Ground.phase }, { on := 2, ground := Ground.phase }, { on := 3, ground := Ground.phase }, { on := 4, ground := Ground.phase }, { on := 5, ground := Ground.phase }, { on := 6, ground := Ground.phase }], guard := none }) (by kernel_rfl) rfl (fun K hK => ?_)
      rw [if_pos (by rfl)]
      refine oper_mapUpdate _ (.tmp 41) (.tmp 42) (.tmp 44) rfl w2.heap.size n D rfl HM5.out hnm x hxs (.slice fa fl fl) rfl rfl (fun w6 hm6 ht6 => ?_)
      refine hK.out _ _ (fun h => absurd rfl h) ?_
      clear hK K
      try simp only [Act.put]
      refine wpAnyL_done (by kernel_rfl) ?_ _
      go_wp2
      go_roundw
      case rel =>
        have hst := HR.out.step HRG5.out hlt5 hn HG5.out hhx HN.out hbD hpl (by rw [HEF.out]; exact hm6) (turned_undrew ht6)
        exact ⟨_, _, _, hidOf hst⟩
      case measure =>
        have hst := HR.out.step HRG5.out hlt5 hn HG5.out hhx HN.out hbD hpl (by rw [HEF.out]; exact hm6) (turned_undrew ht6)
        obtain ⟨n', _, hr'⟩ := hst.rg
        have e1 := hr'.left_eq
        have e2 := HRL.out
        omega
end Go.Proofs.Ytkbmfookdhlphaa
