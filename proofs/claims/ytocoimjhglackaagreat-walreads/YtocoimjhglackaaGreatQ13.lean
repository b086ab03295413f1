/- Dcr, Dls -/
import Derived.Test.YtocoimjhglackaaGreatQ12
import Derived.Maps.RangeWalk
import Derived.Sort.MapsRangeIn
import Derived.OwnWalkIn
import Derived.Sort.KeysCollected
set_option maxHeartbeats 8000000
set_option maxRecDepth 100000
namespace Go.Proofs.YtocoimjhglackaaGreat
section
open Go.RowKit Go.Maps
def zS8 (pick : Int) (s : Nat) : Nat := ((pick.tmod ((s : Int) + 1) + ((s : Int) + 1)).tmod ((s : Int) + 1)).toNat
theorem yR6 (a b : Int) (hb : 0 < b) : -b < a.tmod b /\ a.tmod b < b := by
 have h1 := Int.tmod_lt_of_pos a hb
 have h2 : -b < a.tmod b := by
  have := Int.neg_lt_of_neg_lt (a := b) (b := a.tmod b)
  rcases Int.le_total 0 a with h | h
  · have := Int.tmod_nonneg b h; omega
  · have e : a.tmod b = -((-a).tmod b) := by rw [Int.neg_tmod]; omega
    have := Int.tmod_lt_of_pos (-a) hb
    omega
 exact ⟨h2, h1⟩
theorem xS6 (pick : Int) (s : Nat) : (pick.tmod ((s : Int) + 1) + ((s : Int) + 1)).tmod ((s : Int) + 1) = (zS8 pick s : Int) /\ zS8 pick s <= s := by
 obtain ⟨h1, h2⟩ := yR6 pick ((s : Int) + 1) (by omega)
 have h3 := Int.tmod_nonneg ((s : Int) + 1) (a := pick.tmod ((s : Int) + 1) + ((s : Int) + 1)) (by omega)
 have h4 := Int.tmod_lt_of_pos (pick.tmod ((s : Int) + 1) + ((s : Int) + 1)) (b := (s : Int) + 1) (by omega)
 unfold zS8
 omega
structure CrS (w2 wr : World) (p bD cnt : Nat) (lf : Int) (DD D : DataW Value) (left : Lit -> Bool) (cr : Nat) : Prop where
 rg : ∃ n, n <= cnt /\ wr.ranges Tryz.prog 9 RV bD (w2.heap.size + 1) n DD left cr
 mN : ∃ n, n + cr <= cnt /\ MapR wr w2.heap.size n D
 hs : ∀ k, Maps.has D (.string k) = (Maps.has DD (.string k) && !left (.string k))
 vs : ∀ k, vAt D k = if Maps.has D (.string k) = true then yA8 (vAt DD k) else .slice none 0 0
 blk : DskB wr p w2.heap.size bD (.slice none 0 0) lf
 os : wr.os = w2.os
 tape : wr.tape = w2.tape
 output : wr.output = w2.output
 size : w2.heap.size + 2 <= wr.heap.size
 oth : ∀ k, k < w2.heap.size -> k ≠ p -> wr.heap[k]? = w2.heap[k]?
theorem yY1 {w : World} {p bF bD : Nat} {dn : Value} {left : Int} (h : DskB w p bF bD dn left) (b : Nat) : DskB (w.setCell ⟨p, 0, none⟩ (.map (some b))) p b bD dn left := by
 have h' : w.heap[p]? = _ := h
 show _ = _
 rw [heap_setCell_same w p 0 _ 83 _ h']
 rfl
theorem CrS.step {w2 wr w5 w6 : World} {p bD cnt : Nat} {lf : Int} {DD D : DataW Value} {left : Lit -> Bool} {cr cr' n : Nat} {x : ByteArray} (h : CrS w2 wr p bD cnt lf DD D left cr) (hr : ∃ n, n <= cnt /\ w5.ranges Tryz.prog 9 RV bD (w2.heap.size + 1) n DD (fun z => left z && !z.sameKey (.string x.data.toList)) cr') (hlt : cr' < cr) (hn : n + cr <= cnt) (hg : wr.grownBy w5 (some (w2.heap.size + 1))) (hh : Maps.has DD (.string x.data.toList) = true) (hm : MapR wr w2.heap.size n D) (hbD : bD < w2.heap.size) (hp : p < w2.heap.size)
    (hm6 : MapR w6 w2.heap.size (n + 1) (D.put (.string x.data.toList) (.held (yA8 (vAt DD x.data.toList))))) (hg6 : w5.grownBy w6 (some w2.heap.size)) : CrS w2 w6 p bD cnt lf DD (D.put (.string x.data.toList) (.held (yA8 (vAt DD x.data.toList)))) (fun z => left z && !z.sameKey (.string x.data.toList)) cr' := by
 have hD := hm.isMap
 have hhs : ∀ k, Maps.has (D.put (.string x.data.toList) (.held (yA8 (vAt DD x.data.toList)))) (.string k) = (Maps.has DD (.string k) && !(left (.string k) && !(Lit.string k).sameKey (.string x.data.toList))) := by
  intro k
  rw [zZ6 hD, h.hs]
  by_cases e : k = x.data.toList
  · subst e
    have : (Lit.string x.data.toList).sameKey (.string x.data.toList) = true := WideAt.sameKey_self (by simp [WideAt.IsKeyLit])
    simp [hh, this]
  · have : (Lit.string k).sameKey (.string x.data.toList) = false := sameKey_ne (by simpa using e)
    simp [e, this]
 obtain ⟨nr, hnr, hrg⟩ := hr
 refine ⟨⟨nr, hnr, hrg.kept hg6 (by simp; omega) (by simp)⟩, ⟨n + 1, by omega, hm6⟩, hhs, fun k => ?_, (hg6.block p (by have := hg.size; have := h.size; omega) (by simp; omega)).trans ((hg.block p (by have := h.size; omega) (by simp; omega)).trans h.blk), hg6.os.trans (hg.os.trans h.os), hg6.tape.trans (hg.tape.trans h.tape), hg6.output.trans (hg.output.trans h.output), Nat.le_trans h.size (Nat.le_trans hg.size hg6.size), fun k hk hkp => (hg6.block k (by have := hg.size; have := h.size; omega) (by simp; omega)).trans ((hg.block k (by have := h.size; omega) (by simp; omega)).trans (h.oth k hk hkp))⟩
 rw [zP1 hD, zZ6 hD]
 by_cases e : k = x.data.toList
 · subst e; simp
 · simp only [e, if_false, decide_false, Bool.false_or]
   exact h.vs k
theorem zQ3 {w w' : World} {b : Nat} (h : w.drew.mapTurned w' b) : w.grownBy w' (some b) := ⟨h.grown.os, h.grown.tape, h.grown.output, h.grown.size, h.grown.block⟩
theorem yL0 {w2 : World} {p bF bD cnt : Nat} {M : Md} {DF DD : DataW Value} {dn : Value} {G : List Gd} (h : DkR w2 p M cnt bF bD DF DD dn G) : (∃ n, n <= cnt /\ MapR ((w2.setCell ⟨p, 0, none⟩ (.map (some w2.heap.size))).alloc (.map #[] 0)) bD n DD) /\ DskB ((w2.setCell ⟨p, 0, none⟩ (.map (some w2.heap.size))).alloc (.map #[] 0)) p w2.heap.size bD dn M.left := by
 obtain ⟨n, hn, hm⟩ := h.mD
 have hne : bD ≠ p := by
  intro e
  obtain ⟨es, c, hb⟩ := hm.obj
  have hb' : w2.heap[p]? = _ := h.blk
  rw [e, hb'] at hb
  cases hb
 have hlt := hm.lt
 have hlp := h.blk.lt
 exact ⟨⟨n, by omega, hm.kept ((Below.heap_alloc _ _ bD (by simpa using hlt)).trans (Below.heap_setCell w2 ⟨p, 0, none⟩ _ bD hne))⟩, (Below.heap_alloc _ _ p (by simpa using hlp)).trans (yY1 h.blk _)⟩
theorem yQ4 {w2 w4 : World} {p bF bD cnt nD : Nat} {fs dur : FS} {lf : Int} {DF DD : DataW Value} (h : DkR w2 p ⟨fs, dur, [], lf⟩ cnt bF bD DF DD (.slice none 0 0) []) (hnD : nD <= cnt) (hm : MapR ((w2.setCell ⟨p, 0, none⟩ (.map (some w2.heap.size))).alloc (.map #[] 0)) bD nD DD) (hr : w4.ranges Tryz.prog 9 RV bD (w2.heap.size + 1) nD DD (Maps.has DD) (Maps.size DD)) (hg : World.grownBy ((w2.setCell ⟨p, 0, none⟩ (.map (some w2.heap.size))).alloc (.map #[] 0)) w4 none) : CrS w2 w4 p bD cnt lf DD (.map []) (Maps.has DD) (Maps.size DD) := by
 have hsz : Maps.size DD <= nD := World.ownsMap.size_le hm
 have e1 : (w2.setCell ⟨p, 0, none⟩ (.map (some w2.heap.size))).heap.size = w2.heap.size := by simp
 have hlp := h.blk.lt
 have hmN := yF3 (w2.setCell ⟨p, 0, none⟩ (.map (some w2.heap.size)))
 rw [e1] at hmN
 have hs4 := hg.size
 have hblk := (yL0 h).2
 refine ⟨⟨nD, hnD, hr⟩, ⟨0, by omega, hmN.kept (hg.block _ hmN.lt (by simp))⟩, fun k => ?_, fun k => rfl, (hg.block p (by simp; omega) (by simp)).trans hblk, hg.os, hg.tape, hg.output, ?_, fun k hk hkp => ?_⟩
 · rw [xT9]; cases Maps.has DD (.string k) <;> rfl
 · have := hr.lt; omega
 · exact (hg.block k (by simp; omega) (by simp)).trans ((Below.heap_alloc _ _ k (by simpa using hk)).trans (Below.heap_setCell w2 ⟨p, 0, none⟩ _ k hkp))
theorem xL8 : yA8 (.slice none 0 0) = .slice none 0 0 := rfl
theorem CrS.fin {w2 wr : World} {p bF bD cnt : Nat} {fs dur : FS} {lf : Int} {DF DD D : DataW Value} {left : Lit -> Bool} {cr : Nat} (h : CrS w2 wr p bD cnt lf DD D left cr) (hl : ∀ kl, left kl = false) (h2 : DkR w2 p ⟨fs, dur, [], lf⟩ cnt bF bD DF DD (.slice none 0 0) []) :
    DkR (wr.setCell ⟨p, 3, none⟩ (.int .i64 (-1))) p ⟨dur, dur, [], -1⟩ cnt w2.heap.size bD D DD (.slice none 0 0) [] /\ Fr w2 (wr.setCell ⟨p, 3, none⟩ (.int .i64 (-1))) (Ft p bF bD DF DD (.slice none 0 0) []) (Ft p w2.heap.size bD D DD (.slice none 0 0) []) := by
 have hhas : ∀ k, Maps.has D (.string k) = Maps.has DD (.string k) := fun k => by rw [h.hs, hl]; simp
 have hv : ∀ k, vAt D k = yA8 (vAt DD k) := fun k => by
  rw [h.vs, hhas]
  by_cases e : Maps.has DD (.string k) = true
  · rw [if_pos e]
  · rw [if_neg e, xM7 (by simpa using e), xL8]
 obtain ⟨nr, hnr, hrg⟩ := h.rg
 obtain ⟨nN, hnN, hmN⟩ := h.mN
 have hpl := h2.blk.lt
 have hold : ∀ k, SlR wr (vAt DD k) (cOf dur k) := fun k => (h2.liv.r true k).kept fun g hg => h.oth g ((h2.liv.r true k).lt g hg) (fun e => (h2.liv.r true k).ne_cells h2.blk (by decide) (by rw [hg, e]))
 have hsep : ∀ k k', k ≠ k' -> Sep (vAt DD k) (vAt DD k') := fun k k' hne => h2.liv.sep true k true k' (fun e => hne e.2)
 have d1 : DkR wr p ⟨dur, dur, [], lf⟩ cnt w2.heap.size bD D DD (.slice none 0 0) [] := by
  refine ⟨h.blk, ⟨nN, by omega, hmN⟩, ⟨nr, by simpa using hnr, hrg.owns⟩, ?_, fun k => by rw [hhas]; exact h2.hD k, h2.hD, ⟨fun s k => ?_, fun s k s' k' hne => ?_, fun s k z hz => (by cases hz)⟩, ⟨rfl, .inl ⟨rfl, rfl⟩⟩, rfl, fun g hg => (by cases hg), h2.leb, h2.cn⟩
  · obtain ⟨n, _, hm⟩ := h2.mD
    have := hm.lt
    omega
  · cases s with
    | false => show SlR wr (vAt D k) (cOf dur k); rw [hv]; exact (hold k).clip
    | true => exact hold k
  · cases s <;> cases s'
    · show Sep (vAt D k) (vAt D k')
      rw [hv, hv]
      exact fun g _ _ => ⟨fun e => absurd e (zL7 _), fun e => absurd e (zL7 _)⟩
    · show Sep (vAt D k) (vAt DD k')
      rw [hv]
      intro g e1 e2
      refine ⟨fun e => absurd e (zL7 _), fun e => ⟨zL7 _, ?_⟩⟩
      rw [yL1]
      rw [zN2] at e1
      by_cases ek : k = k'
      · subst ek; exact Nat.le_refl _
      · exact ((hsep k k' ek g e1 e2).2 e).2
    · show Sep (vAt DD k) (vAt D k')
      rw [hv]
      intro g e1 e2
      refine ⟨fun e => ⟨zL7 _, ?_⟩, fun e => absurd e (zL7 _)⟩
      rw [yL1]
      rw [zN2] at e2
      by_cases ek : k = k'
      · subst ek; exact Nat.le_refl _
      · exact ((hsep k k' ek g e1 e2).1 e).2
    · exact hsep k k' (fun e => hne ⟨rfl, e⟩)
 have f1 : Fr w2 wr (Ft p bF bD DF DD (.slice none 0 0) []) (Ft p w2.heap.size bD D DD (.slice none 0 0) []) := by
  refine ⟨h.os, h.tape, h.output, by have := h.size; omega, fun k hk hF => h.oth k hk (fun e => hF (.inl e)), fun k hk => ?_⟩
  rcases hk with e | e | e | e | ⟨s, j, e2⟩ | ⟨_, e, _⟩
  · exact .inl (.inl e)
  · exact .inr (by omega)
  · exact .inl (.inr (.inr (.inl e)))
  · cases e
  · cases s with
    | false =>
     have e3 : (vAt D j).ownBlock = some k := e2
     rw [hv, zN2] at e3
     exact .inl (.inr (.inr (.inr (.inr (.inl ⟨true, j, e3⟩)))))
    | true => exact .inl (.inr (.inr (.inr (.inr (.inl ⟨true, j, e2⟩)))))
  · cases e
 exact ⟨d1.setLeft (-1) (by decide), f1.trans (Fr.setp _ _ _ _ _ _ _ _ _ _)⟩
theorem xF2 (pick : Int) (p cnt bF bD : Nat) (M : Md) (DF DD : DataW Value) (dn : Value) (G : List Gd) (w : World) (h : DkR w p M cnt bF bD DF DD dn G) (hU : ∀ x ∈ M.done, 1 <= x.1 /\ x.1 <= 1048576) (hbd : ∀ k, Bd (rep (M.done.take k) M.dur)) (hc : cnt <= 2199023255552) : Calls Tryz.prog 16 #[.pointer (some ⟨p, 0, none⟩), .int .i64 pick] w fun e w' => e = .returned (.tuple #[]) /\ ∃ bN DN DD', DkR w' p ⟨mkD M.done (zS8 pick (sumU M.done)) M.dur, mkD M.done (zS8 pick (sumU M.done)) M.dur, [], -1⟩ cnt bN bD DN DD' (.slice none 0 0) [] /\ Fr w w' (Ft p bF bD DF DD dn (G.map (·.z))) (Ft p bN bD DN DD' (.slice none 0 0) []) := by
 have hsum : sumU M.done <= M.done.length * 1048576 := by
  have h1 := yM6 M.done 1048576 (fun x hx => (hU x hx).2) M.done.length
  rwa [List.take_length] at h1
 have hlg := h.lenG
 obtain ⟨nD0, hnD0, _⟩ := h.mD
 have hU2 : ∀ x ∈ M.done, x.1 <= 1048576 := fun x hx => (hU x hx).2
 have HU := zA0 (yI1 p cnt bF bD M DF DD dn G w h hU2)
 have HUU := zA0 hU
 have HBD := zA0 hbd
 have H := zA0 h
 generalize hs : sumU M.done = s at *
 obtain ⟨hp1, hp2⟩ := xS6 pick s
 obtain ⟨ht1, ht2⟩ := yR6 pick ((s : Int) + 1) (by omega)
 have hnz : ¬ ((s : Int) + 1 = 0) := by omega
 have hs61 : s <= 2305843009213693952 := by omega
 have hmh : ∀ (n : Int) (w : World), (Instr.makeMap 80 (some (.int .i64 n))).run Tryz.prog w = .ok (.map (some w.heap.size)) (w.alloc (.map #[] 0)) := fun _ _ => by first | rfl | (simp [Instr.makeMap, go_sem]; done)
 clear h hU hbd hU2 hs hsum
 go_enter Tryz.func16, Tryz.ntmps16
 go_wp2_with (first
  | (go_at_call 34; refine HU.out.mono ?_; rintro e w1 ⟨rfl, hb⟩; have HB := zA0 hb; clear hb)
  | (go_at_call 33; refine (zM8 p cnt bF bD M DF DD dn G _ (H.out.below HB.out) (zS8 pick s) (by omega) HUU.out HBD.out hc).mono ?_; rintro e w2 ⟨rfl, DD', hd2, hf2⟩; have H2 := zA0 hd2; have F2 := zA0 hf2; have c1 := hd2.blk.c1; have lp := hd2.blk.lt; have fz := hd2.blk.fr; have c0 := hd2.blk.c0; have hlen : (Builtin.len_ #[80] 3 #[.map (some bD)]).run Tryz.prog w2 = .ok (.int .i64 (Maps.size DD')) w2 := (by obtain ⟨n, _, hm⟩ := hd2.mD; exact World.ownsMap.len hm Tryz.underlying80 3); clear hd2 hf2)
  | (at_range; have HM4 : Hid (∃ n, n <= cnt /\ MapR ((w2.setCell ⟨p, 0, none⟩ (.map (some w2.heap.size))).alloc (.map #[] 0)) bD n DD') := zA0 (yL0 H2.out).1; obtain ⟨nD, hnD, hmD4⟩ := HM4.out; refine wpList_range_own _ rfl _ 80 rfl 9 22 law9 Tryz.underlying80 RV bD nD DD' rfl hmD4 ?_; intro w4 hrg hgr hsz4; have HC4 := zA0 (yQ4 H2.out hnD hmD4 (by simpa using hrg) hgr); clear hrg hgr hmD4 c0 c1 lp fz hlen))
 have hbD : bD < w2.heap.size := by obtain ⟨n, _, hm⟩ := H2.out.mD; exact hm.lt
 have hpl : p < w2.heap.size := H2.out.blk.lt
 go_frame
 go_loopw [5] (fun _ wr => ∃ (D : DataW Value) (left : Lit -> Bool) (cr : Nat), Hid (CrS w2 wr p bD cnt M.left DD' D left cr)) (fun _ wr => wr.rangeLeft bD (w2.heap.size + 1))
 case atStart => exact ⟨_, _, _, HC4⟩
 case round =>
  obtain ⟨D, left, cr, HR⟩ := hrel
  clear HC4
  obtain ⟨nr, hnr, hrg⟩ := HR.out.rg
  have HRG := zA0 hrg
  clear hrg
  go_wp2_with (at_next; refine wpList_next_ranges _ rfl _ rfl 9 law9 RV (fun s : ByteArray => .string s) (fun v : Value => v) (fun key kl hk => Maps.keyOf_string_inv Tryz.underlying9 hk) (fun v y _ => ⟨v, rfl⟩) bD (w2.heap.size + 1) nr DD' left cr (by simp [Act.eval]) HRG.out ?_ ?_)
  · intro _ hl0
    have HL0 := zA0 hl0
    clear hl0
    have d3 := HR.out.blk.c3
    have lq := HR.out.blk.lt
    have fq := HR.out.blk.fr
    go_wp2
    go_end0
    obtain ⟨g1, g2⟩ := HR.out.fin HL0.out H2.out
    exact ⟨rfl, w2.heap.size, D, DD', g1, ((Fr.of_below HB.out).trans F2.out).trans g2⟩
  · intro x c kl yd yp w5 cr5 hkey hlk hv hat hrg5 hlt5 hg5 hs5 hen
    obtain ⟨x', ex, ekl, hxs⟩ := WideMaps.string_of_keyOf Tryz.underlying9 hkey
    cases ex
    subst ekl
    have hy : yd = .held c := by simp [RV] at hv; exact hv.1.symm
    subst hy
    have hvx : vAt DD' x.data.toList = c := by
     unfold vAt
     rw [hat]
    have hhx : Maps.has DD' (.string x.data.toList) = true := has_true_of_atKey hat
    obtain ⟨fa, fc, ef, hle, _⟩ := (H2.out.liv.r true x.data.toList).form
    have ef : vAt DD' x.data.toList = .slice fa (cOf (mkD M.done (zS8 pick s) M.dur) x.data.toList).length fc := ef
    have hnil := (show SlR w2 (.slice fa (cOf (mkD M.done (zS8 pick s) M.dur) x.data.toList).length fc) (cOf (mkD M.done (zS8 pick s) M.dur) x.data.toList) from ef ▸ H2.out.liv.r true x.data.toList).nilOf
    rw [ef] at hvx
    subst hvx
    obtain ⟨n, hn, hmN⟩ := HR.out.mN
    have hrl : wr.rangeLeft bD (w2.heap.size + 1) = cr := HRG.out.left_eq
    have hm5 : MapR w5 w2.heap.size n D := hmN.kept (hg5.block _ hmN.lt (by simp))
    have hb5 : DskB w5 p w2.heap.size bD (.slice none 0 0) M.left := (hg5.block p HR.out.blk.lt (by simp; omega)).trans HR.out.blk
    have c0 := hb5.c0
    have lq := hb5.lt
    have HM5 := zA0 hm5
    have HN := zA0 hmN
    have HG5 := zA0 hg5
    have HRG5 : Hid (∃ n, n <= cnt /\ w5.ranges Tryz.prog 9 RV bD (w2.heap.size + 1) n DD' (fun z => left z && !z.sameKey (.string x.data.toList)) cr5) := zA0 ⟨nr, hnr, hrg5⟩
    have HEF := zA0 ef
    have hcn := H2.out.cn
    have hnm : n < maxLen := by unfold maxLen; omega
    have HRL := zA0 hrl
    clear hkey hlk hv hat hrg5 hg5 hm5 hmN hb5 ef hrl
    generalize hfl : (cOf (mkD M.done (zS8 pick s) M.dur) x.data.toList).length = fl at *
    clear hfl
    go_wp2
    refine zG9 (fun w' : World => w'.cell? ⟨p, 0, none⟩ = some (.map (some w2.heap.size)) /\ MapR w' w2.heap.size n D) 7 (by kernel_rfl) ?_
    have hHeld : (fun w' : World => w'.cell? ⟨p, 0, none⟩ = some (.map (some w2.heap.size)) /\ MapR w' w2.heap.size n D) _ := ⟨c0, HM5.out⟩
    refine zB0 (i := 0) (oi := { dst := some 38, op := Op.move (Operand.tmp 0), type := 23, pos := "disk.go:140", after := #[], guard := none }) (v := .pointer (some ⟨p, 0, none⟩)) rfl (by kernel_rfl) (by kernel_rfl) (by kernel_rfl) (by kernel_rfl) (fun _ _ _ h => h) (Or.inl ⟨by rfl, ?_⟩) hHeld ?_
    · (intro w hSw; (try dsimp only at hSw); go_simp)
    try simp only [Act.put, List.setIfInBounds_toArray, List.set_cons_zero, List.set_cons_succ]
    refine zB0 (i := 1) (oi := { dst := some 39, op := Op.nilCheck (Operand.tmp 38), type := 0, pos := "disk.go:140", after := #[{ on := 0, ground := Ground.data }], guard := none }) (v := .pointer (some ⟨p, 0, none⟩)) rfl (by kernel_rfl) (by kernel_rfl) (by kernel_rfl) (by kernel_rfl) (fun _ _ _ h => h) (Or.inl ⟨by rfl, ?_⟩) hHeld ?_
    · (intro w hSw; (try dsimp only at hSw); go_simp)
    try simp only [Act.put, List.setIfInBounds_toArray, List.set_cons_zero, List.set_cons_succ]
    refine zB0 (i := 2) (oi := { dst := some 40, op := Op.fieldAddr 83 (Operand.tmp 39) 0, type := 0, pos := "disk.go:140", after := #[{ on := 1, ground := Ground.data }], guard := none }) (v := .pointer (some ⟨p, 0, none⟩)) rfl (by kernel_rfl) (by kernel_rfl) (by kernel_rfl) (by kernel_rfl) (fun _ _ _ h => h) (Or.inl ⟨by rfl, ?_⟩) hHeld ?_
    · (intro w hSw; (try dsimp only at hSw); go_simp)
    try simp only [Act.put, List.setIfInBounds_toArray, List.set_cons_zero, List.set_cons_succ]
    refine zB0 (i := 3) (oi := { dst := some 41, op := Op.load 80 (Operand.tmp 40), type := 80, pos := "disk.go:140", after := #[{ on := 2, ground := Ground.data }], guard := none }) (v := .map (some w2.heap.size)) rfl (by kernel_rfl) (by kernel_rfl) (by kernel_rfl) (by kernel_rfl) (fun _ _ _ h => h) (Or.inl ⟨by rfl, ?_⟩) hHeld ?_
    · (intro w hSw; obtain ⟨s1, _⟩ := hSw; go_simp)
    try simp only [Act.put, List.setIfInBounds_toArray, List.set_cons_zero, List.set_cons_succ]
    refine zB0 (i := 4) (oi := { dst := some 42, op := Op.move (Operand.tmp 5), type := 9, pos := "disk.go:140", after := #[], guard := none }) (v := .string x) rfl (by kernel_rfl) (by kernel_rfl) (by kernel_rfl) (by kernel_rfl) (fun _ _ _ h => h) (Or.inl ⟨by rfl, ?_⟩) hHeld ?_
    · (intro w hSw; (try dsimp only at hSw); go_simp)
    try simp only [Act.put, List.setIfInBounds_toArray, List.set_cons_zero, List.set_cons_succ]
    refine zB0 (i := 5) (oi := { dst := some 43, op := Op.move (Operand.tmp 6), type := 22, pos := "disk.go:140", after := #[], guard := none }) (v := .slice fa fl fc) rfl (by kernel_rfl) (by kernel_rfl) (by kernel_rfl) (by kernel_rfl) (fun _ _ _ h => h) (Or.inl ⟨by rfl, ?_⟩) hHeld ?_
    · (intro w hSw; (try dsimp only at hSw); go_simp)
    try simp only [Act.put, List.setIfInBounds_toArray, List.set_cons_zero, List.set_cons_succ]
    refine zD6 (i := 6) (o := { dst := some 44, op := Op.call { callee := Callee.value (Operand.func 46), args := #[Operand.tmp 43], argTypes := #[22] }, type := 22, pos := "disk.go:140", after := #[{ on := 5, ground := Ground.data }], guard := none }) (by kernel_rfl) rfl (fun K hK => ?_)
    rw [if_pos (by rfl)]
    go_simp
    refine (yV2 fa fl fc _ hnil.2.1 hnil.1 hnil.2.2).mono ?_
    rintro e w7 ⟨rfl, rfl⟩
    refine hK.out _ _ (fun _ => hHeld) ?_
    clear hK K
    try simp only [Act.put, List.setIfInBounds_toArray, List.set_cons_zero, List.set_cons_succ]
    refine zD6 (i := 7) (o := { dst := none, op := Op.mapUpdate 80 (Operand.tmp 41) (Operand.tmp 42) (Operand.tmp 44), type := 0, pos := "disk.go:140", after := #[{ on := 3, ground := Ground.data }, { on := 4, ground := Ground.data }, { on := 6, ground := Ground.data }, { on := 6, ground := Ground.chain }, { on := 0, ground := Ground.phase }, { on := 1, ground := Ground.phase }, { on := 2, ground := Ground.phase }, { on := 3, ground := Ground.phase }, { on := 4, ground := Ground.phase }, { on := 5, ground := Ground.phase }, { on := 6, ground := Ground.phase }], guard := none }) (by kernel_rfl) rfl (fun K hK => ?_)
    rw [if_pos (by rfl)]
    refine zJ4 _ (.tmp 41) (.tmp 42) (.tmp 44) rfl w2.heap.size n D rfl HM5.out hnm x hxs (.slice fa fl fl) rfl rfl (fun w6 hm6 ht6 => ?_)
    refine hK.out _ _ (fun h => absurd rfl h) ?_
    clear hK K
    try simp only [Act.put]
    refine zH0 (by kernel_rfl) ?_ _
    go_wp2
    go_roundw
    case rel =>
     have hst := HR.out.step HRG5.out hlt5 hn HG5.out hhx HN.out hbD hpl (by rw [HEF.out]; exact hm6) (zQ3 ht6)
     exact ⟨_, _, _, zA0 hst⟩
    case measure =>
     have hst := HR.out.step HRG5.out hlt5 hn HG5.out hhx HN.out hbD hpl (by rw [HEF.out]; exact hm6) (zQ3 ht6)
     obtain ⟨n', _, hr'⟩ := hst.rg
     have e1 := hr'.left_eq
     have e2 := HRL.out
     omega
end
section
open Go.RowKit Go.Maps Go.Sort
def Srt (fs : FS) (ks : List Nm) : Prop := ks.Pairwise (fun a b => a <= b) /\ ks.Nodup /\ ∀ k, k ∈ ks ↔ (fs k).isSome = true
theorem xK0 {w : World} {b n : Nat} {D : DataW Value} (h : MapR w b n D) : ∃ es, D = .map es /\ es.Pairwise (fun p q => p.1 ≠ q.1) /\ ∀ p ∈ es, ∃ s : Nm, p.1 = .string s := by
 obtain ⟨es, hD, hp, _⟩ := World.ownsMap.entries h law9
 refine ⟨es, hD, hp, fun p hpe => ?_⟩
 obtain ⟨es', clock, hb, F, hs, hD'⟩ := h
 rw [hD] at hD'
 cases hD'
 obtain ⟨v, hv⟩ := Maps.fit_keys F p (mem_sorted.1 hpe)
 obtain ⟨s, _, e, _⟩ := WideMaps.string_of_keyOf Tryz.underlying9 hv
 exact ⟨_, e⟩
theorem yX4 {w : World} {b n : Nat} {D : DataW Value} (h : MapR w b n D) : (strKeys D).Nodup /\ (∀ k, k ∈ strKeys D ↔ Maps.has D (.string k) = true) /\ (strKeys D).length = Maps.size D := by
 obtain ⟨es, rfl, hp, hk⟩ := xK0 h
 refine ⟨?_, fun k => ?_, by simp [strKeys, Maps.size]⟩
 · show (es.map fun p => strOf p.1).Nodup
   rw [List.Nodup, List.pairwise_map]
   refine hp.imp_of_mem fun {a b} ha hb hne e => ?_
   obtain ⟨s, hs⟩ := hk a ha
   obtain ⟨s', hs'⟩ := hk b hb
   rw [hs, hs'] at e
   have : s = s' := e
   exact hne (by rw [hs, hs', this])
 · show k ∈ (es.map fun p => strOf p.1) ↔ (es.any fun p => p.1.sameKey (.string k)) = true
   rw [List.mem_map, List.any_eq_true]
   constructor
   · rintro ⟨p, hpe, e⟩
     obtain ⟨s, hs⟩ := hk p hpe
     rw [hs] at e
     have e : s = k := e
     refine ⟨p, hpe, ?_⟩
     rw [hs, e]
     exact WideAt.sameKey_self (by simp [WideAt.IsKeyLit])
   · rintro ⟨p, hpe, e⟩
     refine ⟨p, hpe, ?_⟩
     rw [WideAt.sameKey_eq e]
     rfl
theorem xX6 {fs : FS} {w : World} {b n : Nat} {D : DataW Value} (h : MapR w b n D) (hF : ∀ k, Maps.has D (.string k) = (fs k).isSome) {ss : List Nm} (hp : ss.Perm (strKeys D)) : Srt fs (ss.mergeSort (fun x y => decide (x <= y))) /\ ss.length = Maps.size D := by
 obtain ⟨k1, k2, k3⟩ := yX4 h
 have hm : (ss.mergeSort (fun x y => decide (x <= y))).Perm (strKeys D) := (List.mergeSort_perm ss _).trans hp
 refine ⟨⟨?_, hm.nodup_iff.2 k1, fun k => by rw [hm.mem_iff, k2, hF]⟩, by rw [hp.length_eq, k3]⟩
 have := List.pairwise_mergeSort (le := fun x y : Nm => decide (x <= y)) (fun a b c h1 h2 => by simp at *; exact List.le_trans h1 h2) (fun a b => by simp; exact List.le_total a b) ss
 exact this.imp (fun h => by simpa using h)
def Card (fs : FS) (m : Nat) : Prop := ∃ ks, Srt fs ks /\ ks.length = m
theorem DkR.card {w : World} {p : Nat} {M : Md} {cnt bF bD : Nat} {DF DD : DataW Value} {dn : Value} {G : List Gd} (h : DkR w p M cnt bF bD DF DD dn G) : ∃ ks, Srt M.files ks /\ ks.length = Maps.size DF := by
 obtain ⟨n, _, hm⟩ := h.mF
 obtain ⟨h1, h2⟩ := xX6 hm h.hF (List.Perm.refl _)
 exact ⟨_, h1, by rw [List.length_mergeSort]; exact h2⟩
end
end Go.Proofs.YtocoimjhglackaaGreat
