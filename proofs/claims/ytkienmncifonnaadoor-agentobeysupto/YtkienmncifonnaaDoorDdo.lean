/- do: a deed is done on the files, and kept. -/
import Derived.Test.YtkienmncifonnaaDoorDdk
namespace Go.Proofs.YtkienmncifonnaaDoor
open Go.RowKit Go.Maps

theorem below1 (w : World) (a : Obj) : Below w.heap.size w (w.alloc a) := (Below.refl _ w).alloc (Nat.le_refl _) _
theorem sset_entE (DF DD D' : DataW Value) : sset (entE DF DD) false (vAt D') = entE D' DD := by
  funext s k
  cases s <;> rfl
theorem sset_entE_t (DF DD D' : DataW Value) : sset (entE DF DD) true (vAt D') = entE DF D' := by
  funext s k
  cases s <;> rfl
theorem sset_entC (F D F' : FS) : sset (entC F D) false (cOf F') = entC F' D := by
  funext s k
  cases s <;> rfl
theorem sset_entC_t (F D F' : FS) : sset (entC F D) true (cOf F') = entC F F' := by
  funext s k
  cases s <;> rfl
def lessOne (l : Int) : Int := if 0 < l then l - 1 else l

theorem do_post {w w1 w4 : World} {p : Nat} {M : Md} {cnt bF bD n : Nat} {DF DD : DataW Value} {dn dn' f z : Value} {G : List Gd} {x : Dd} {u : Nat} {files' : FS} {left' : Int}
    (h : DkR w p M cnt bF bD DF DD dn G) (hn : n ≤ cnt) (hm : MapR w bF n DF) (hL : Liv w (entE DF DD) (entC M.files M.dur) (G.map (·.z) ++ [z])) (hdp : DPost w w1 false bF n DF (entE DF DD) (entC M.files M.dur) (G.map (·.z) ++ [z]) M.files files') (hd : DeedR w f x z)
    (ht : Tch w1 w4 p dn.ownBlock) (hblk : DskB w4 p bF bD dn' left') (hrow : w4.ownsRow 0 132 2 dn' (G.length + 1) (rowL (G ++ [⟨u, x, f, z⟩]))) (hdn : dn'.ownBlock = dn.ownBlock ∨ ∃ k, dn'.ownBlock = some k ∧ w.heap.size ≤ k) (hl : -1 ≤ left' ∧ left' ≤ 1099511627776) (hc : cnt + 1 ≤ 4398046511104) :
    ∃ DF', DkR w4 p ⟨files', M.dur, M.done ++ [(u, x)], left'⟩ (cnt + 1) bF bD DF' DD dn' (G ++ [⟨u, x, f, z⟩]) ∧ Fr w w4 (Ft p bF bD DF DD dn (G.map (·.z) ++ [z])) (Ft p bF bD DF' DD dn' (G.map (·.z) ++ [z])) := by
  obtain ⟨D', v, v', c1, c2, c3, c4, c5, c6⟩ := hdp.ex
  obtain ⟨nD, hnD, hmD⟩ := h.mD
  obtain ⟨lv, hv⟩ : ∃ l, SlR w v l := by
    rcases c5 with rfl | ⟨k, rfl⟩
    · exact ⟨[], SlR.nil w⟩
    · exact ⟨_, h.liv.r false k⟩
  have hvz : ∀ y ∈ G.map (·.z) ++ [z], SepK v y := by
    rcases c5 with rfl | ⟨k, rfl⟩
    · exact fun y _ => SepK.nil' y
    · exact fun y hy => hL.kz false k y hy
  obtain ⟨es, c, hobj⟩ := hm.obj
  have hp1 : DskB w1 p bF bD dn M.left := (c4.cells hv hobj (by decide) h.blk).trans h.blk
  have hr1 : w1.ownsRow 0 132 2 dn G.length (rowL G) := ownsRow_kept h.row fun k hk => by
    obtain ⟨cur, hcur⟩ := ownsRow_blk h.row hk
    exact c4.cells hv hobj (by decide) hcur
  have kt := ht.keepT hp1 hr1
  have hmD1 : MapR w1 bD nD DD := hmD.kept (c4.block bD hmD.lt (fun e => h.ne (Option.some.inj e).symm) (fun _ e => hv.ne_map hmD e.symm))
  refine ⟨D', ⟨hblk, ⟨n + 1, by omega, c1.keepT kt⟩, ⟨nD, by simp; omega, hmD1.keepT kt⟩, h.ne, c2, h.hD, ?_, by simpa using hrow, by simp [h.done], fun g hg => ?_, hl, hc⟩, ⟨ht.os.trans c4.os, ht.tape.trans c4.tape, ht.output.trans c4.output, Nat.le_trans c4.size ht.size, fun k hk hF => ?_, fun k hk => ?_⟩⟩
  · rw [sset_entE, sset_entC] at c3
    simpa using c3.keepT kt
  · rcases List.mem_append.1 hg with hg | hg
    · exact ((h.deed g hg).app c4 hv hm (hvz _ (List.mem_append_left _ (List.mem_map_of_mem hg)))).keepT kt
    · rw [List.mem_singleton.1 hg]
      exact (hd.app c4 hv hm (hvz _ (by simp))).keepT kt
  · have n1 : k ≠ p := fun e => hF (.inl e)
    have n2 : k ≠ bF := fun e => hF (.inr (.inl e))
    have n3 : some k ≠ dn.ownBlock := fun e => hF (.inr (.inr (.inr (.inl e.symm))))
    refine (ht.block k (Nat.lt_of_lt_of_le hk c4.size) n1 n3).trans (c4.block k hk (fun e => n2 (Option.some.inj e)) (fun _ e => ?_))
    rcases c5 with rfl | ⟨j, rfl⟩
    · cases e
    · exact hF (.inr (.inr (.inr (.inr (.inl ⟨false, j, e.symm⟩)))))
  · rcases hk with e | e | e | e | ⟨s, j, e2⟩ | e
    · exact .inl (.inl e)
    · exact .inl (.inr (.inl e))
    · exact .inl (.inr (.inr (.inl e)))
    · rcases hdn with e3 | ⟨i, e3, e4⟩
      · exact .inl (.inr (.inr (.inr (.inl (e3 ▸ e)))))
      · rw [e3] at e; cases e; exact .inr e4
    · cases s with
      | false =>
        rcases c6 j k e2 with ⟨i, g2⟩ | g | g
        · exact .inl (.inr (.inr (.inr (.inr (.inl ⟨false, i, g2⟩)))))
        · exact .inl (.inr (.inr (.inr (.inr (.inr g)))))
        · exact .inr g
      | true => exact .inl (.inr (.inr (.inr (.inr (.inl ⟨true, j, e2⟩)))))
    · exact .inl (.inr (.inr (.inr (.inr (.inr e)))))

theorem Tryd.info132 : (Tryd.prog.info? 132).map (fun i => (i.zero, i.size, i.bytes)) = some (some (.agg #[.int .i64 0, .nilFunc]), 2, 16) := by kernel_rfl
theorem cell_two_new (w : World) (x y : Value) (t : TypeId) : ∀ j u, [x, y][j]? = some u → (w.alloc (.cells #[x, y] t)).cell? ((⟨w.heap.size, 0, none⟩ : Addr).add j) = some u := by
  intro j u hj
  have hadd : (⟨w.heap.size, 0, none⟩ : Addr).add j = ⟨w.heap.size, j, none⟩ := by unfold Addr.add; split <;> simp_all
  rw [hadd, cell_of_row _ w.heap.size j _ t (0, 0) (heap_alloc_new w _)]
  simpa using hj
theorem dpost_mid {w w1 : World} {p : Nat} {M : Md} {cnt bF bD n : Nat} {DF DD : DataW Value} {dn : Value} {G : List Gd} {zs : List Value} {files' : FS}
    (h : DkR w p M cnt bF bD DF DD dn G) (hm : MapR w bF n DF) (hdp : DPost w w1 false bF n DF (entE DF DD) (entC M.files M.dur) zs M.files files') : DskB w1 p bF bD dn M.left ∧ w1.ownsRow 0 132 2 dn G.length (rowL G) ∧ w.heap.size ≤ w1.heap.size := by
  obtain ⟨D', v, v', c1, c2, c3, c4, c5, c6⟩ := hdp.ex
  obtain ⟨lv, hv⟩ : ∃ l, SlR w v l := by
    rcases c5 with rfl | ⟨k, rfl⟩
    · exact ⟨[], SlR.nil w⟩
    · exact ⟨_, h.liv.r false k⟩
  obtain ⟨es, c, hobj⟩ := hm.obj
  exact ⟨(c4.cells hv hobj (by decide) h.blk).trans h.blk, ownsRow_kept h.row fun k hk => (by
    obtain ⟨cur, hcur⟩ := ownsRow_blk h.row hk
    exact c4.cells hv hobj (by decide) hcur), c4.size⟩
theorem dskB_dn {w : World} {p bF bD : Nat} {dn : Value} {left : Int} (h : DskB w p bF bD dn left) (v : Value) : DskB (w.setCell ⟨p, 2, none⟩ v) p bF bD v left := by
  have h' : w.heap[p]? = _ := h
  show _ = _
  rw [heap_setCell_same w p 2 _ 82 _ h']
  rfl
theorem ownsRow_some {w : World} {v : Value} {e n s : Nat} {xs : List Value} (h : w.ownsRow 0 e s v n xs) (hn : 0 < n) : ∃ g cap, v = .slice (some ⟨g, 0, none⟩) n cap := by
  rcases h.2 with ⟨rfl, e⟩ | ⟨g, cap, cur, rfl, _⟩
  · omega
  · exact ⟨g, cap, rfl⟩
theorem lessOne_le {l : Int} (h : -1 ≤ l ∧ l ≤ 1099511627776) : -1 ≤ lessOne l ∧ lessOne l ≤ 1099511627776 := by
  unfold lessOne; split <;> omega
theorem func_one (n : Nat) (cs : Array Value) : ∀ (k : Int), ∀ u ∈ ([.int .i64 k, .func (.func n) #[] cs] : List Value), u.oneCell' = true := by
  intro k u hu
  simp at hu
  rcases hu with rfl | rfl <;> rfl
/- the store of the row, and the count -/
theorem do_end {w2 : World} {p bF bD : Nat} {dn dn2 : Value} {left : Int} (hb2 : DskB w2 p bF bD dn left) (hne : dn2.ownBlock ≠ some p) {n : Nat} {xs : List Value} (hr : w2.ownsRow 0 132 2 dn2 n xs) (r : Option Nat) {w4 : World} (hw : w4 = (if 0 < left then (w2.setCell ⟨p, 2, none⟩ dn2).setCell ⟨p, 3, none⟩ (.int .i64 (left - 1)) else w2.setCell ⟨p, 2, none⟩ dn2)) :
    DskB w4 p bF bD dn2 (lessOne left) ∧ w4.ownsRow 0 132 2 dn2 n xs ∧ Tch w2 w4 p r := by
  have hb3 := dskB_dn hb2 dn2
  unfold lessOne
  have hk : ∀ (a : World) (j : Nat) (u : Value), ∀ k, dn2.ownBlock = some k → (a.setCell ⟨p, j, none⟩ u).heap[k]? = a.heap[k]? := fun a j u k hk => Below.heap_setCell a ⟨p, j, none⟩ u k (fun e => hne (by rw [hk, e]))
  by_cases hl : 0 < left
  · rw [if_pos hl] at hw ⊢
    subst hw
    exact ⟨dskB_left hb3 _, ownsRow_kept (ownsRow_kept hr (hk _ _ _)) (hk _ _ _), (Tch.setp w2 p r 2 dn2).trans (Tch.setp _ p r 3 _)⟩
  · rw [if_neg hl] at hw ⊢
    subst hw
    exact ⟨hb3, ownsRow_kept hr (hk _ _ _), Tch.setp w2 p r 2 dn2⟩

set_option maxHeartbeats 2000000 in
set_option maxRecDepth 100000 in
theorem do_pt (nm d : List UInt8) (p1 q1 : Nat) (p u cnt bF bD : Nat) (M : Md) (DF DD : DataW Value) (dn z : Value) (G : List Gd) (w : World) (h : DkR w p M cnt bF bD DF DD dn G) (hd : DeedR w (.func (.func 47) #[] #[.pointer (some ⟨q1, 0, none⟩), .pointer (some ⟨p1, 0, none⟩)]) (.pt nm d) z) (hzn : ∀ s k g, (entE DF DD s k).ownBlock = some g → z.ownBlock ≠ some g) (hc : cnt + 1 ≤ 4398046511104) :
    Calls Tryd.prog 46 #[.pointer (some ⟨p, 0, none⟩), .int .i64 (u : Int), .func (.func 47) #[] #[.pointer (some ⟨q1, 0, none⟩), .pointer (some ⟨p1, 0, none⟩)]] w fun e w' => e = .returned (.tuple #[]) ∧ ∃ DF' dn', DkR w' p ⟨doD (.pt nm d) u M.files, M.dur, M.done ++ [(u, .pt nm d)], lessOne M.left⟩ (cnt + 1) bF bD DF' DD dn' (G ++ [⟨u, .pt nm d, .func (.func 47) #[] #[.pointer (some ⟨q1, 0, none⟩), .pointer (some ⟨p1, 0, none⟩)], z⟩]) ∧ Fr w w' (Ft p bF bD DF DD dn (G.map (·.z) ++ [z])) (Ft p bF bD DF' DD dn' (G.map (·.z) ++ [z])) := by
  obtain ⟨n, hn, hm⟩ := h.mF
  have hL := h.liv.keep z hzn
  have HC : Hid (Calls Tryd.prog 47 #[.map (some bF), .int .i64 (u : Int), .pointer (some ⟨q1, 0, none⟩), .pointer (some ⟨p1, 0, none⟩)] w fun e w' => e = .returned (.tuple #[]) ∧ DPost w w' false bF n DF (entE DF DD) (entC M.files M.dur) (G.map (·.z) ++ [z]) M.files (doD (.pt nm d) u M.files)) := by
    obtain ⟨p2, q2, e, a1, a2⟩ := hd
    cases e
    exact hidOf (ptD_call hm (by unfold maxLen; omega) (fun _ => rfl) (fun _ => rfl) h.hF hL (by simp) a1 a2 u)
  have c0 := h.blk.c0
  have lp := h.blk.lt
  have H := hidOf h
  have HM := hidOf hm
  have HL := hidOf hL
  have HD := hidOf hd
  obtain ⟨i86, hi86, hz0, hz1, hz2⟩ := info_parts Tryd.info132
  have HLN : Hid (G.length + 1 ≤ maxLen ∧ (G.length + 1) * 16 ≤ 140737488355328) := hidOf (by obtain ⟨nD, hnD, _⟩ := h.mD; unfold maxLen; omega)
  clear h hm hL hd hzn
  go_enter Tryd.func46, Tryd.ntmps46
  have hle := H.out.leb.2
  go_wp2_with (first
    | (go_at_call 47; refine HC.out.mono ?_; rintro e w1 ⟨rfl, hdp⟩; clear c0; obtain ⟨hb1, hr1, hs1⟩ := dpost_mid H.out HM.out hdp; have HDP := hidOf hdp; have HR1 := hidOf hr1; have HB1 := hidOf hb1; have d2 := hb1.c2; have lp1 := hb1.lt; clear hdp hr1 hb1)
    | (at_builtin; refine wpList_append_own_at _ rfl (.tmp 17) (.tmp 21) 80 rfl 0 132 i86 _ 2 16 Tryd.underlying80 hi86 hz0 hz1 hz2 (by rfl) (by omega) dn G.length (rowL G) rfl (ownsRow_kept HR1.out (fun k hk => Below.heap_alloc w1 _ k (by obtain ⟨cur, hc⟩ := ownsRow_blk HR1.out hk; exact heap_lt hc))) ⟨w1.heap.size, 0, none⟩ 1 1 [.int .i64 (u : Int), .func (.func 47) #[] #[.pointer (some ⟨q1, 0, none⟩), .pointer (some ⟨p1, 0, none⟩)]] rfl rfl (cell_two_new w1 _ _ 132) (func_one _ _ _) HLN.out.1 HLN.out.2 (Nat.zero_le _) ?_; intro dn2 w2 hrow2 hgr2 hnil2 hat2; obtain ⟨g2, k2, hdn2⟩ := ownsRow_some hrow2 (Nat.succ_pos _); subst hdn2; clear hnil2; have HB2 : Hid (DskB w2 p bF bD dn M.left) := hidOf ((hgr2.block p (Nat.lt_of_lt_of_le HB1.out.lt (by simp)) (fun e => H.out.rowNe e.symm)).trans ((Below.heap_alloc w1 _ p HB1.out.lt).trans HB1.out)); have HR2 := hidOf hrow2; have HG2 := hidOf hgr2; have HA2 := hidOf hat2; clear hrow2 hgr2 hat2 d2 lp1; have e2 := HB2.out.c2; have lp2 := HB2.out.lt; have fz2 := HB2.out.fr)
    | (go_at_call 52; refine (countOne_any p bF bD _ M.left _ (dskB_dn HB2.out _) hle).mono ?_; rintro e w4 ⟨rfl, hw4⟩; have HW4 := hidOf hw4; clear hw4))
  go_end0
  have hne2 : (Value.slice (some ⟨g2, 0, none⟩) (G.length + 1) k2).ownBlock ≠ some p := by
    rcases HA2.out with e | e
    · rw [e]; exact H.out.rowNe
    · rw [e]; intro e3; have := HB1.out.lt; simp at e3; omega
  obtain ⟨f1, f2, f3⟩ := do_end HB2.out hne2 HR2.out dn.ownBlock HW4.out
  refine ⟨rfl, ?_⟩
  have ht : Tch w1 w4 p dn.ownBlock := ((Tch.of_below (below1 w1 _)).trans (Tch.of_grown HG2.out)).trans f3
  obtain ⟨DF', g1, g3⟩ := do_post (u := u) H.out hn HM.out HL.out HDP.out HD.out ht f1 (by rw [rowL_append]; exact f2) (by
    rcases HA2.out with e | e
    · exact .inl e
    · exact .inr ⟨_, e, by simp; omega⟩) (lessOne_le H.out.leb) hc
  exact ⟨DF', _, g1, g3⟩

end Go.Proofs.YtkienmncifonnaaDoor
