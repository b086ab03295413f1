/- Ddo, Dop -/
import Derived.Test.YtocoimjhglackaaGreatQ09
set_option maxHeartbeats 8000000
set_option maxRecDepth 100000
namespace Go.Proofs.YtocoimjhglackaaGreat
section
open Go.RowKit Go.Maps
theorem zB7 (w : World) (a : Obj) : Below w.heap.size w (w.alloc a) := (Below.refl _ w).alloc (Nat.le_refl _) _
theorem xA4 (DF DD D' : DataW Value) : sset (entE DF DD) false (vAt D') = entE D' DD := by
 funext s k
 cases s <;> rfl
theorem yM8 (DF DD D' : DataW Value) : sset (entE DF DD) true (vAt D') = entE DF D' := by
 funext s k
 cases s <;> rfl
theorem xA5 (F D F' : FS) : sset (entC F D) false (cOf F') = entC F' D := by
 funext s k
 cases s <;> rfl
theorem yM9 (F D F' : FS) : sset (entC F D) true (cOf F') = entC F F' := by
 funext s k
 cases s <;> rfl
def zF3 (l : Int) : Int := if 0 < l then l - 1 else l
theorem yQ2 {w w1 w4 : World} {p : Nat} {M : Md} {cnt bF bD n : Nat} {DF DD : DataW Value} {dn dn' f z : Value} {G : List Gd} {x : Dd} {u : Nat} {files' : FS} {left' : Int}
    (h : DkR w p M cnt bF bD DF DD dn G) (hn : n <= cnt) (hm : MapR w bF n DF) (hL : Liv w (entE DF DD) (entC M.files M.dur) (G.map (·.z) ++ [z])) (hdp : DPost w w1 false bF n DF (entE DF DD) (entC M.files M.dur) (G.map (·.z) ++ [z]) M.files files') (hd : zM0 w f x z)
    (ht : Tch w1 w4 p dn.ownBlock) (hblk : DskB w4 p bF bD dn' left') (hrow : w4.ownsRow 0 123 2 dn' (G.length + 1) (rowL (G ++ [⟨u, x, f, z⟩]))) (hdn : dn'.ownBlock = dn.ownBlock \/ ∃ k, dn'.ownBlock = some k /\ w.heap.size <= k) (hl : -1 <= left' /\ left' <= 1099511627776) (hc : cnt + 1 <= 4398046511104) :
    ∃ DF', DkR w4 p ⟨files', M.dur, M.done ++ [(u, x)], left'⟩ (cnt + 1) bF bD DF' DD dn' (G ++ [⟨u, x, f, z⟩]) /\ Fr w w4 (Ft p bF bD DF DD dn (G.map (·.z) ++ [z])) (Ft p bF bD DF' DD dn' (G.map (·.z) ++ [z])) := by
 obtain ⟨D', v, v', c1, c2, c3, c4, c5, c6⟩ := hdp.ex
 obtain ⟨nD, hnD, hmD⟩ := h.mD
 obtain ⟨lv, hv⟩ : ∃ l, SlR w v l := by
  rcases c5 with rfl | ⟨k, rfl⟩
  · exact ⟨[], SlR.nil w⟩
  · exact ⟨_, h.liv.r false k⟩
 have hvz : ∀ y ∈ G.map (·.z) ++ [z], SepK v y := by
  rcases c5 with rfl | ⟨k, rfl⟩
  · exact fun y _ => SepK.nil' y
  · exact fun y hy => hL.kz false k y hy
 obtain ⟨es, c, hobj⟩ := hm.obj
 have hp1 : DskB w1 p bF bD dn M.left := (c4.cells hv hobj (by decide) h.blk).trans h.blk
 have hr1 : w1.ownsRow 0 123 2 dn G.length (rowL G) := zD0 h.row fun k hk => by
  obtain ⟨cur, hcur⟩ := zE8 h.row hk
  exact c4.cells hv hobj (by decide) hcur
 have kt := ht.keepT hp1 hr1
 have hmD1 : MapR w1 bD nD DD := hmD.kept (c4.block bD hmD.lt (fun e => h.ne (Option.some.inj e).symm) (fun _ e => hv.ne_map hmD e.symm))
 refine ⟨D', ⟨hblk, ⟨n + 1, by omega, c1.keepT kt⟩, ⟨nD, by simp; omega, hmD1.keepT kt⟩, h.ne, c2, h.hD, ?_, by simpa using hrow, by simp [h.done], fun g hg => ?_, hl, hc⟩, ⟨ht.os.trans c4.os, ht.tape.trans c4.tape, ht.output.trans c4.output, Nat.le_trans c4.size ht.size, fun k hk hF => ?_, fun k hk => ?_⟩⟩
 · rw [xA4, xA5] at c3
   simpa using c3.keepT kt
 · rcases List.mem_append.1 hg with hg | hg
   · exact ((h.deed g hg).app c4 hv hm (hvz _ (List.mem_append_left _ (List.mem_map_of_mem hg)))).keepT kt
   · rw [List.mem_singleton.1 hg]
     exact (hd.app c4 hv hm (hvz _ (by simp))).keepT kt
 · have n1 : k ≠ p := fun e => hF (.inl e)
   have n2 : k ≠ bF := fun e => hF (.inr (.inl e))
   have n3 : some k ≠ dn.ownBlock := fun e => hF (.inr (.inr (.inr (.inl e.symm))))
   refine (ht.block k (Nat.lt_of_lt_of_le hk c4.size) n1 n3).trans (c4.block k hk (fun e => n2 (Option.some.inj e)) (fun _ e => ?_))
   rcases c5 with rfl | ⟨j, rfl⟩
   · cases e
   · exact hF (.inr (.inr (.inr (.inr (.inl ⟨false, j, e.symm⟩)))))
 · rcases hk with e | e | e | e | ⟨s, j, e2⟩ | e
   · exact .inl (.inl e)
   · exact .inl (.inr (.inl e))
   · exact .inl (.inr (.inr (.inl e)))
   · rcases hdn with e3 | ⟨i, e3, e4⟩
     · exact .inl (.inr (.inr (.inr (.inl (e3 ▸ e)))))
     · rw [e3] at e; cases e; exact .inr e4
   · cases s with
     | false =>
      rcases c6 j k e2 with ⟨i, g2⟩ | g | g
      · exact .inl (.inr (.inr (.inr (.inr (.inl ⟨false, i, g2⟩)))))
      · exact .inl (.inr (.inr (.inr (.inr (.inr g)))))
      · exact .inr g
     | true => exact .inl (.inr (.inr (.inr (.inr (.inl ⟨true, j, e2⟩)))))
   · exact .inl (.inr (.inr (.inr (.inr (.inr e)))))
theorem Tryz.info86 : (Tryz.prog.info? 123).map (fun i => (i.zero, i.size, i.bytes)) = some (some (.agg #[.int .i64 0, .nilFunc]), 2, 16) := by kernel_rfl
theorem zN3 (w : World) (x y : Value) (t : TypeId) : ∀ j u, [x, y][j]? = some u -> (w.alloc (.cells #[x, y] t)).cell? ((⟨w.heap.size, 0, none⟩ : Addr).add j) = some u := by
 intro j u hj
 have hadd : (⟨w.heap.size, 0, none⟩ : Addr).add j = ⟨w.heap.size, j, none⟩ := by unfold Addr.add; split <;> simp_all
 rw [hadd, cell_of_row _ w.heap.size j _ t (0, 0) (heap_alloc_new w _)]
 simpa using hj
theorem yA2 {w w1 : World} {p : Nat} {M : Md} {cnt bF bD n : Nat} {DF DD : DataW Value} {dn : Value} {G : List Gd} {zs : List Value} {files' : FS}
    (h : DkR w p M cnt bF bD DF DD dn G) (hm : MapR w bF n DF) (hdp : DPost w w1 false bF n DF (entE DF DD) (entC M.files M.dur) zs M.files files') : DskB w1 p bF bD dn M.left /\ w1.ownsRow 0 123 2 dn G.length (rowL G) /\ w.heap.size <= w1.heap.size := by
 obtain ⟨D', v, v', c1, c2, c3, c4, c5, c6⟩ := hdp.ex
 obtain ⟨lv, hv⟩ : ∃ l, SlR w v l := by
  rcases c5 with rfl | ⟨k, rfl⟩
  · exact ⟨[], SlR.nil w⟩
  · exact ⟨_, h.liv.r false k⟩
 obtain ⟨es, c, hobj⟩ := hm.obj
 exact ⟨(c4.cells hv hobj (by decide) h.blk).trans h.blk, zD0 h.row fun k hk => (by
  obtain ⟨cur, hcur⟩ := zE8 h.row hk
  exact c4.cells hv hobj (by decide) hcur), c4.size⟩
theorem yA0 {w : World} {p bF bD : Nat} {dn : Value} {left : Int} (h : DskB w p bF bD dn left) (v : Value) : DskB (w.setCell ⟨p, 2, none⟩ v) p bF bD v left := by
 have h' : w.heap[p]? = _ := h
 show _ = _
 rw [heap_setCell_same w p 2 _ 83 _ h']
 rfl
theorem zM6 {w : World} {v : Value} {e n s : Nat} {xs : List Value} (h : w.ownsRow 0 e s v n xs) (hn : 0 < n) : ∃ g cap, v = .slice (some ⟨g, 0, none⟩) n cap := by
 rcases h.2 with ⟨rfl, e⟩ | ⟨g, cap, cur, rfl, _⟩
 · omega
 · exact ⟨g, cap, rfl⟩
theorem zT3 {l : Int} (h : -1 <= l /\ l <= 1099511627776) : -1 <= zF3 l /\ zF3 l <= 1099511627776 := by
 unfold zF3; split <;> omega
theorem yG1 (n : Nat) (cs : Array Value) : ∀ (k : Int), ∀ u ∈ ([.int .i64 k, .func (.func n) #[] cs] : List Value), u.oneCell' = true := by
 intro k u hu
 simp at hu
 rcases hu with rfl | rfl <;> rfl
theorem xF0 {w2 : World} {p bF bD : Nat} {dn dn2 : Value} {left : Int} (hb2 : DskB w2 p bF bD dn left) (hne : dn2.ownBlock ≠ some p) {n : Nat} {xs : List Value} (hr : w2.ownsRow 0 123 2 dn2 n xs) (r : Option Nat) {w4 : World} (hw : w4 = (if 0 < left then (w2.setCell ⟨p, 2, none⟩ dn2).setCell ⟨p, 3, none⟩ (.int .i64 (left - 1)) else w2.setCell ⟨p, 2, none⟩ dn2)) :
    DskB w4 p bF bD dn2 (zF3 left) /\ w4.ownsRow 0 123 2 dn2 n xs /\ Tch w2 w4 p r := by
 have hb3 := yA0 hb2 dn2
 unfold zF3
 have hk : ∀ (a : World) (j : Nat) (u : Value), ∀ k, dn2.ownBlock = some k -> (a.setCell ⟨p, j, none⟩ u).heap[k]? = a.heap[k]? := fun a j u k hk => Below.heap_setCell a ⟨p, j, none⟩ u k (fun e => hne (by rw [hk, e]))
 by_cases hl : 0 < left
 · rw [if_pos hl] at hw ⊢
   subst hw
   exact ⟨yK8 hb3 _, zD0 (zD0 hr (hk _ _ _)) (hk _ _ _), (Tch.setp w2 p r 2 dn2).trans (Tch.setp _ p r 3 _)⟩
 · rw [if_neg hl] at hw ⊢
   subst hw
   exact ⟨hb3, zD0 hr (hk _ _ _), Tch.setp w2 p r 2 dn2⟩
theorem kF2 (nm d : List UInt8) (p1 q1 : Nat) (p u cnt bF bD : Nat) (M : Md) (DF DD : DataW Value) (dn z : Value) (G : List Gd) (w : World) (h : DkR w p M cnt bF bD DF DD dn G) (hd : zM0 w (.func (.func 31) #[] #[.pointer (some ⟨p1, 0, none⟩), .pointer (some ⟨q1, 0, none⟩)]) (.ap nm d) z) (hzn : ∀ s k g, (entE DF DD s k).ownBlock = some g -> z.ownBlock ≠ some g) (hc : cnt + 1 <= 4398046511104) (hu : u <= 1099511627776) (hlen : ∀ k, (cOf M.files k).length <= 1048576) :
    Calls Tryz.prog 30 #[.pointer (some ⟨p, 0, none⟩), .int .i64 (u : Int), .func (.func 31) #[] #[.pointer (some ⟨p1, 0, none⟩), .pointer (some ⟨q1, 0, none⟩)]] w fun e w' => e = .returned (.tuple #[]) /\ ∃ DF' dn', DkR w' p ⟨doD (.ap nm d) u M.files, M.dur, M.done ++ [(u, .ap nm d)], zF3 M.left⟩ (cnt + 1) bF bD DF' DD dn' (G ++ [⟨u, .ap nm d, .func (.func 31) #[] #[.pointer (some ⟨p1, 0, none⟩), .pointer (some ⟨q1, 0, none⟩)], z⟩]) /\ Fr w w' (Ft p bF bD DF DD dn (G.map (·.z) ++ [z])) (Ft p bF bD DF' DD dn' (G.map (·.z) ++ [z])) := by
 obtain ⟨n, hn, hm⟩ := h.mF
 have hL := h.liv.keep z hzn
 have hzs : ∀ y ∈ G.map (·.z) ++ [z], ∃ l, SlR w y l := fun y hy => by
  rcases List.mem_append.1 hy with hy | hy
  · obtain ⟨g, hg, rfl⟩ := List.mem_map.1 hy
    exact (h.deed g hg).z
  · rw [List.mem_singleton.1 hy]; exact hd.z
 have HC : Hid (Calls Tryz.prog 31 #[.map (some bF), .int .i64 (u : Int), .pointer (some ⟨p1, 0, none⟩), .pointer (some ⟨q1, 0, none⟩)] w fun e w' => e = .returned (.tuple #[]) /\ DPost w w' false bF n DF (entE DF DD) (entC M.files M.dur) (G.map (·.z) ++ [z]) M.files (doD (.ap nm d) u M.files)) := by
  obtain ⟨p2, q2, e, a1, a2⟩ := hd
  cases e
  exact zA0 (yV4 hm (by unfold maxLen; omega) (fun _ => rfl) (fun _ => rfl) h.hF hL hzs a1 a2 u hu (hlen nm))
 have c0 := h.blk.c0
 have lp := h.blk.lt
 have H := zA0 h
 have HM := zA0 hm
 have HL := zA0 hL
 have HD := zA0 hd
 obtain ⟨i86, hi86, hz0, hz1, hz2⟩ := info_parts Tryz.info86
 have HLN : Hid (G.length + 1 <= maxLen /\ (G.length + 1) * 16 <= 140737488355328) := zA0 (by obtain ⟨nD, hnD, _⟩ := h.mD; unfold maxLen; omega)
 clear h hm hL hd hzs hzn
 go_enter Tryz.func30, Tryz.ntmps30
 have hle := H.out.leb.2
 go_wp2_with (first
  | (go_at_call 31; refine HC.out.mono ?_; rintro e w1 ⟨rfl, hdp⟩; clear c0; obtain ⟨hb1, hr1, hs1⟩ := yA2 H.out HM.out hdp; have HDP := zA0 hdp; have HR1 := zA0 hr1; have HB1 := zA0 hb1; have d2 := hb1.c2; have lp1 := hb1.lt; clear hdp hr1 hb1)
  | (at_builtin; refine wpList_append_own_at _ rfl (.tmp 17) (.tmp 21) 81 rfl 0 123 i86 _ 2 16 Tryz.underlying81 hi86 hz0 hz1 hz2 (by rfl) (by omega) dn G.length (rowL G) rfl (zD0 HR1.out (fun k hk => Below.heap_alloc w1 _ k (by obtain ⟨cur, hc⟩ := zE8 HR1.out hk; exact zA4 hc))) ⟨w1.heap.size, 0, none⟩ 1 1 [.int .i64 (u : Int), .func (.func 31) #[] #[.pointer (some ⟨p1, 0, none⟩), .pointer (some ⟨q1, 0, none⟩)]] rfl rfl (zN3 w1 _ _ 123) (yG1 _ _ _) HLN.out.1 HLN.out.2 (Nat.zero_le _) ?_; intro dn2 w2 hrow2 hgr2 hnil2 hat2; obtain ⟨g2, k2, hdn2⟩ := zM6 hrow2 (Nat.succ_pos _); subst hdn2; clear hnil2; have HB2 : Hid (DskB w2 p bF bD dn M.left) := zA0 ((hgr2.block p (Nat.lt_of_lt_of_le HB1.out.lt (by simp)) (fun e => H.out.rowNe e.symm)).trans ((Below.heap_alloc w1 _ p HB1.out.lt).trans HB1.out)); have HR2 := zA0 hrow2; have HG2 := zA0 hgr2; have HA2 := zA0 hat2; clear hrow2 hgr2 hat2 d2 lp1; have e2 := HB2.out.c2; have lp2 := HB2.out.lt; have fz2 := HB2.out.fr)
  | (go_at_call 35; refine (zJ2 p bF bD _ M.left _ (yA0 HB2.out _) hle).mono ?_; rintro e w4 ⟨rfl, hw4⟩; have HW4 := zA0 hw4; clear hw4))
 go_end0
 have hne2 : (Value.slice (some ⟨g2, 0, none⟩) (G.length + 1) k2).ownBlock ≠ some p := by
  rcases HA2.out with e | e
  · rw [e]; exact H.out.rowNe
  · rw [e]; intro e3; have := HB1.out.lt; simp at e3; omega
 obtain ⟨f1, f2, f3⟩ := xF0 HB2.out hne2 HR2.out dn.ownBlock HW4.out
 refine ⟨rfl, ?_⟩
 have ht : Tch w1 w4 p dn.ownBlock := ((Tch.of_below (zB7 w1 _)).trans (Tch.of_grown HG2.out)).trans f3
 obtain ⟨DF', g1, g3⟩ := yQ2 (u := u) H.out hn HM.out HL.out HDP.out HD.out ht f1 (by rw [zP3]; exact f2) (by
  rcases HA2.out with e | e
  · exact .inl e
  · exact .inr ⟨_, e, by simp; omega⟩) (zT3 H.out.leb) hc
 exact ⟨DF', _, g1, g3⟩
theorem kF1 (nm d : List UInt8) (p1 q1 : Nat) (p u cnt bF bD : Nat) (M : Md) (DF DD : DataW Value) (dn z : Value) (G : List Gd) (w : World) (h : DkR w p M cnt bF bD DF DD dn G) (hd : zM0 w (.func (.func 98) #[] #[.pointer (some ⟨q1, 0, none⟩), .pointer (some ⟨p1, 0, none⟩)]) (.pt nm d) z) (hzn : ∀ s k g, (entE DF DD s k).ownBlock = some g -> z.ownBlock ≠ some g) (hc : cnt + 1 <= 4398046511104) :
    Calls Tryz.prog 30 #[.pointer (some ⟨p, 0, none⟩), .int .i64 (u : Int), .func (.func 98) #[] #[.pointer (some ⟨q1, 0, none⟩), .pointer (some ⟨p1, 0, none⟩)]] w fun e w' => e = .returned (.tuple #[]) /\ ∃ DF' dn', DkR w' p ⟨doD (.pt nm d) u M.files, M.dur, M.done ++ [(u, .pt nm d)], zF3 M.left⟩ (cnt + 1) bF bD DF' DD dn' (G ++ [⟨u, .pt nm d, .func (.func 98) #[] #[.pointer (some ⟨q1, 0, none⟩), .pointer (some ⟨p1, 0, none⟩)], z⟩]) /\ Fr w w' (Ft p bF bD DF DD dn (G.map (·.z) ++ [z])) (Ft p bF bD DF' DD dn' (G.map (·.z) ++ [z])) := by
 obtain ⟨n, hn, hm⟩ := h.mF
 have hL := h.liv.keep z hzn
 have HC : Hid (Calls Tryz.prog 98 #[.map (some bF), .int .i64 (u : Int), .pointer (some ⟨q1, 0, none⟩), .pointer (some ⟨p1, 0, none⟩)] w fun e w' => e = .returned (.tuple #[]) /\ DPost w w' false bF n DF (entE DF DD) (entC M.files M.dur) (G.map (·.z) ++ [z]) M.files (doD (.pt nm d) u M.files)) := by
  obtain ⟨p2, q2, e, a1, a2⟩ := hd
  cases e
  exact zA0 (yS6 hm (by unfold maxLen; omega) (fun _ => rfl) (fun _ => rfl) h.hF hL (by simp) a1 a2 u)
 have c0 := h.blk.c0
 have lp := h.blk.lt
 have H := zA0 h
 have HM := zA0 hm
 have HL := zA0 hL
 have HD := zA0 hd
 obtain ⟨i86, hi86, hz0, hz1, hz2⟩ := info_parts Tryz.info86
 have HLN : Hid (G.length + 1 <= maxLen /\ (G.length + 1) * 16 <= 140737488355328) := zA0 (by obtain ⟨nD, hnD, _⟩ := h.mD; unfold maxLen; omega)
 clear h hm hL hd hzn
 go_enter Tryz.func30, Tryz.ntmps30
 have hle := H.out.leb.2
 go_wp2_with (first
  | (go_at_call 98; refine HC.out.mono ?_; rintro e w1 ⟨rfl, hdp⟩; clear c0; obtain ⟨hb1, hr1, hs1⟩ := yA2 H.out HM.out hdp; have HDP := zA0 hdp; have HR1 := zA0 hr1; have HB1 := zA0 hb1; have d2 := hb1.c2; have lp1 := hb1.lt; clear hdp hr1 hb1)
  | (at_builtin; refine wpList_append_own_at _ rfl (.tmp 17) (.tmp 21) 81 rfl 0 123 i86 _ 2 16 Tryz.underlying81 hi86 hz0 hz1 hz2 (by rfl) (by omega) dn G.length (rowL G) rfl (zD0 HR1.out (fun k hk => Below.heap_alloc w1 _ k (by obtain ⟨cur, hc⟩ := zE8 HR1.out hk; exact zA4 hc))) ⟨w1.heap.size, 0, none⟩ 1 1 [.int .i64 (u : Int), .func (.func 98) #[] #[.pointer (some ⟨q1, 0, none⟩), .pointer (some ⟨p1, 0, none⟩)]] rfl rfl (zN3 w1 _ _ 123) (yG1 _ _ _) HLN.out.1 HLN.out.2 (Nat.zero_le _) ?_; intro dn2 w2 hrow2 hgr2 hnil2 hat2; obtain ⟨g2, k2, hdn2⟩ := zM6 hrow2 (Nat.succ_pos _); subst hdn2; clear hnil2; have HB2 : Hid (DskB w2 p bF bD dn M.left) := zA0 ((hgr2.block p (Nat.lt_of_lt_of_le HB1.out.lt (by simp)) (fun e => H.out.rowNe e.symm)).trans ((Below.heap_alloc w1 _ p HB1.out.lt).trans HB1.out)); have HR2 := zA0 hrow2; have HG2 := zA0 hgr2; have HA2 := zA0 hat2; clear hrow2 hgr2 hat2 d2 lp1; have e2 := HB2.out.c2; have lp2 := HB2.out.lt; have fz2 := HB2.out.fr)
  | (go_at_call 35; refine (zJ2 p bF bD _ M.left _ (yA0 HB2.out _) hle).mono ?_; rintro e w4 ⟨rfl, hw4⟩; have HW4 := zA0 hw4; clear hw4))
 go_end0
 have hne2 : (Value.slice (some ⟨g2, 0, none⟩) (G.length + 1) k2).ownBlock ≠ some p := by
  rcases HA2.out with e | e
  · rw [e]; exact H.out.rowNe
  · rw [e]; intro e3; have := HB1.out.lt; simp at e3; omega
 obtain ⟨f1, f2, f3⟩ := xF0 HB2.out hne2 HR2.out dn.ownBlock HW4.out
 refine ⟨rfl, ?_⟩
 have ht : Tch w1 w4 p dn.ownBlock := ((Tch.of_below (zB7 w1 _)).trans (Tch.of_grown HG2.out)).trans f3
 obtain ⟨DF', g1, g3⟩ := yQ2 (u := u) H.out hn HM.out HL.out HDP.out HD.out ht f1 (by rw [zP3]; exact f2) (by
  rcases HA2.out with e | e
  · exact .inl e
  · exact .inr ⟨_, e, by simp; omega⟩) (zT3 H.out.leb) hc
 exact ⟨DF', _, g1, g3⟩
theorem kF0 (na nb : List UInt8) (p1 q1 : Nat) (p u cnt bF bD : Nat) (M : Md) (DF DD : DataW Value) (dn z : Value) (G : List Gd) (w : World) (h : DkR w p M cnt bF bD DF DD dn G) (hd : zM0 w (.func (.func 99) #[] #[.pointer (some ⟨p1, 0, none⟩), .pointer (some ⟨q1, 0, none⟩)]) (.rn na nb) z) (hzn : ∀ s k g, (entE DF DD s k).ownBlock = some g -> z.ownBlock ≠ some g) (hc : cnt + 1 <= 4398046511104) :
    Calls Tryz.prog 30 #[.pointer (some ⟨p, 0, none⟩), .int .i64 (u : Int), .func (.func 99) #[] #[.pointer (some ⟨p1, 0, none⟩), .pointer (some ⟨q1, 0, none⟩)]] w fun e w' => e = .returned (.tuple #[]) /\ ∃ DF' dn', DkR w' p ⟨doD (.rn na nb) u M.files, M.dur, M.done ++ [(u, .rn na nb)], zF3 M.left⟩ (cnt + 1) bF bD DF' DD dn' (G ++ [⟨u, .rn na nb, .func (.func 99) #[] #[.pointer (some ⟨p1, 0, none⟩), .pointer (some ⟨q1, 0, none⟩)], z⟩]) /\ Fr w w' (Ft p bF bD DF DD dn (G.map (·.z) ++ [z])) (Ft p bF bD DF' DD dn' (G.map (·.z) ++ [z])) := by
 obtain ⟨n, hn, hm⟩ := h.mF
 have hL := h.liv.keep z hzn
 have HC : Hid (Calls Tryz.prog 99 #[.map (some bF), .int .i64 (u : Int), .pointer (some ⟨p1, 0, none⟩), .pointer (some ⟨q1, 0, none⟩)] w fun e w' => e = .returned (.tuple #[]) /\ DPost w w' false bF n DF (entE DF DD) (entC M.files M.dur) (G.map (·.z) ++ [z]) M.files (doD (.rn na nb) u M.files)) := by
  obtain ⟨p2, q2, e, a1, a2, _⟩ := hd
  cases e
  exact zA0 (yS2 hm (by unfold maxLen; omega) (fun _ => rfl) (fun _ => rfl) h.hF hL a1 a2 u)
 have c0 := h.blk.c0
 have lp := h.blk.lt
 have H := zA0 h
 have HM := zA0 hm
 have HL := zA0 hL
 have HD := zA0 hd
 obtain ⟨i86, hi86, hz0, hz1, hz2⟩ := info_parts Tryz.info86
 have HLN : Hid (G.length + 1 <= maxLen /\ (G.length + 1) * 16 <= 140737488355328) := zA0 (by obtain ⟨nD, hnD, _⟩ := h.mD; unfold maxLen; omega)
 clear h hm hL hd hzn
 go_enter Tryz.func30, Tryz.ntmps30
 have hle := H.out.leb.2
 go_wp2_with (first
  | (go_at_call 99; refine HC.out.mono ?_; rintro e w1 ⟨rfl, hdp⟩; clear c0; obtain ⟨hb1, hr1, hs1⟩ := yA2 H.out HM.out hdp; have HDP := zA0 hdp; have HR1 := zA0 hr1; have HB1 := zA0 hb1; have d2 := hb1.c2; have lp1 := hb1.lt; clear hdp hr1 hb1)
  | (at_builtin; refine wpList_append_own_at _ rfl (.tmp 17) (.tmp 21) 81 rfl 0 123 i86 _ 2 16 Tryz.underlying81 hi86 hz0 hz1 hz2 (by rfl) (by omega) dn G.length (rowL G) rfl (zD0 HR1.out (fun k hk => Below.heap_alloc w1 _ k (by obtain ⟨cur, hc⟩ := zE8 HR1.out hk; exact zA4 hc))) ⟨w1.heap.size, 0, none⟩ 1 1 [.int .i64 (u : Int), .func (.func 99) #[] #[.pointer (some ⟨p1, 0, none⟩), .pointer (some ⟨q1, 0, none⟩)]] rfl rfl (zN3 w1 _ _ 123) (yG1 _ _ _) HLN.out.1 HLN.out.2 (Nat.zero_le _) ?_; intro dn2 w2 hrow2 hgr2 hnil2 hat2; obtain ⟨g2, k2, hdn2⟩ := zM6 hrow2 (Nat.succ_pos _); subst hdn2; clear hnil2; have HB2 : Hid (DskB w2 p bF bD dn M.left) := zA0 ((hgr2.block p (Nat.lt_of_lt_of_le HB1.out.lt (by simp)) (fun e => H.out.rowNe e.symm)).trans ((Below.heap_alloc w1 _ p HB1.out.lt).trans HB1.out)); have HR2 := zA0 hrow2; have HG2 := zA0 hgr2; have HA2 := zA0 hat2; clear hrow2 hgr2 hat2 d2 lp1; have e2 := HB2.out.c2; have lp2 := HB2.out.lt; have fz2 := HB2.out.fr)
  | (go_at_call 35; refine (zJ2 p bF bD _ M.left _ (yA0 HB2.out _) hle).mono ?_; rintro e w4 ⟨rfl, hw4⟩; have HW4 := zA0 hw4; clear hw4))
 go_end0
 have hne2 : (Value.slice (some ⟨g2, 0, none⟩) (G.length + 1) k2).ownBlock ≠ some p := by
  rcases HA2.out with e | e
  · rw [e]; exact H.out.rowNe
  · rw [e]; intro e3; have := HB1.out.lt; simp at e3; omega
 obtain ⟨f1, f2, f3⟩ := xF0 HB2.out hne2 HR2.out dn.ownBlock HW4.out
 refine ⟨rfl, ?_⟩
 have ht : Tch w1 w4 p dn.ownBlock := ((Tch.of_below (zB7 w1 _)).trans (Tch.of_grown HG2.out)).trans f3
 obtain ⟨DF', g1, g3⟩ := yQ2 (u := u) H.out hn HM.out HL.out HDP.out HD.out ht f1 (by rw [zP3]; exact f2) (by
  rcases HA2.out with e | e
  · exact .inl e
  · exact .inr ⟨_, e, by simp; omega⟩) (zT3 H.out.leb) hc
 exact ⟨DF', _, g1, g3⟩
end
section
open Go.RowKit Go.Maps
def zG4 (L : List ByteArray) : Bool := L.all fun s => zF0 s.data.toList
def refE (L : List ByteArray) (left : Int) : Int := if zG4 L = true then (if left = 0 then 11 else 0) else 1
theorem zX9 (p bF bD g : Nat) (dn : Value) (left : Int) (L : List ByteArray) (cap : Nat) (w : World) (hd : DskB w p bF bD dn left) (hg : ∀ i s, L[i]? = some s -> w.cell? ⟨g, i, none⟩ = some (.string s)) (hgl : g < w.heap.size) (hl : L.length <= 4) : Calls Tryz.prog 26 #[.pointer (some ⟨p, 0, none⟩), .slice (some ⟨g, 0, none⟩) L.length cap] w fun e w' => e = .returned (.int .i64 (refE L left)) /\ w' = w := by
 have HG := zA0 hg
 have HD := zA0 hd
 have hcut := zA0 (zZ5 p bF bD dn left w hd)
 clear hg hd
 go_enter Tryz.func26, Tryz.ntmps26
 go_wp2
 go_loop [9] (fun i => ∃ k : Nat, k <= L.length /\ i = .int .i64 (k : Int) /\ Hid (∀ j s, j < k -> L[j]? = some s -> zF0 s.data.toList = true)) (fun i => L.length - (intOf i).toNat)
 case atStart => exact ⟨0, Nat.zero_le _, rfl, zA0 (fun j s h _ => by omega)⟩
 case round =>
  obtain ⟨k, hk, rfl, H⟩ := hrel
  by_cases hlt : k < L.length
  · have hltz : (k : Int) < (L.length : Int) := by omega
    obtain ⟨s, hs⟩ : ∃ s, L[k]? = some s := ⟨_, List.getElem?_eq_getElem hlt⟩
    have c0 := HG.out k s hs
    have HS := zA0 hs
    clear hs
    cases hn : zF0 s.data.toList with
    | true =>
     have HN := zA0 hn
     have hc := zA0 (zO2 s w)
     rw [hn] at hc
     clear hn
     go_wp2_with (go_at_call 47; refine hc.out.mono ?_; rintro e w' ⟨rfl, rfl⟩)
     go_round
     case rel =>
      refine ⟨k + 1, by omega, by go_num, zA0 (fun j t hj ht => ?_)⟩
      by_cases e : j < k
      · exact H.out j t e ht
      · have : j = k := by omega
        subst this
        rw [HS.out] at ht
        cases ht
        exact HN.out
     case measure => simp [intOf]; omega
    | false =>
     have HN := zA0 hn
     have hc := zA0 (zO2 s w)
     rw [hn] at hc
     clear hn
     go_wp2_with (go_at_call 47; refine hc.out.mono ?_; rintro e w' ⟨rfl, rfl⟩)
     go_ret
     refine ⟨?_, rfl⟩
     have : zG4 L = false := by
      unfold zG4
      rw [List.all_eq_false]
      exact ⟨s, List.mem_of_getElem? HS.out, by simp [HN.out]⟩
     unfold refE
     rw [this]
     rfl
  · have hltz : ¬ (k : Int) < (L.length : Int) := by omega
    have hok : zG4 L = true := by
     unfold zG4
     rw [List.all_eq_true]
     intro s hs
     obtain ⟨i, hi, rfl⟩ := List.getElem_of_mem hs
     exact H.out i _ (by omega) (List.getElem?_eq_getElem hi)
    have HOK := zA0 hok
    clear hok
    by_cases h0 : left = 0
    · have e0 : decide (left = 0) = true := by simp [h0]
      rw [e0] at hcut
      have HZ := zA0 h0
      clear e0 h0
      go_wp2_with (go_at_call 32; refine hcut.out.mono ?_; rintro e w' ⟨rfl, rfl⟩)
      go_ret
      refine ⟨?_, rfl⟩
      unfold refE
      rw [if_pos HOK.out, if_pos HZ.out]
      rfl
    · have e0 : decide (left = 0) = false := by simp [h0]
      rw [e0] at hcut
      have HZ := zA0 h0
      clear e0 h0
      go_wp2_with (go_at_call 32; refine hcut.out.mono ?_; rintro e w' ⟨rfl, rfl⟩)
      go_ret
      refine ⟨?_, rfl⟩
      unfold refE
      rw [if_pos HOK.out, if_neg HZ.out]
      rfl
def zH7 (sz : Int) (hs : Bool) (m : Nat) : Bool := decide (sz <= 1048576) && (hs || decide (m < 64))
theorem zL2 (p bF bD n : Nat) (D : DataW Value) (dn : Value) (left sz : Int) (s : ByteArray) (w : World) (hd : DskB w p bF bD dn left) (hm : MapR w bF n D) (hs : s.size <= maxLen) : Calls Tryz.prog 27 #[.pointer (some ⟨p, 0, none⟩), .string s, .int .i64 sz] w fun e w' => e = .returned (.bool (zH7 sz (Maps.has D (.string s.data.toList)) (Maps.size D))) /\ w' = w := by
 have hc := xD9 p bF bD n D dn left s w hd hm hs
 change Calls _ _ _ _ fun e w' => e = .returned (.bool (Maps.has D (.string s.data.toList))) /\ _ at hc
 have c0 := hd.c0
 have lp := hd.lt
 have hlen : (Builtin.len_ #[80] 3 #[.map (some bF)]).run Tryz.prog w = .ok (.int .i64 (Maps.size D)) w := World.ownsMap.len hm Tryz.underlying80 3
 clear hd hm
 generalize Maps.has D (.string s.data.toList) = d at *
 generalize Maps.size D = m at *
 have hc := zA0 hc
 by_cases h1 : sz <= 1048576
 · cases d
   · by_cases h2 : m < 64
     · have e : zH7 sz false m = true := by simp [zH7, h1, h2]
       have h2z : (m : Int) < 64 := by omega
       rw [e]
       go_enter Tryz.func27, Tryz.ntmps27
       go_wp2_with (go_at_call 55; refine hc.out.mono ?_; rintro e w' ⟨rfl, rfl⟩)
       go_ret
       exact ⟨rfl, rfl⟩
     · have e : zH7 sz false m = false := by simp [zH7, h2]
       have h2z : decide ((m : Int) < 64) = false := by simp; omega
       rw [e]
       go_enter Tryz.func27, Tryz.ntmps27
       go_wp2_with (go_at_call 55; refine hc.out.mono ?_; rintro e w' ⟨rfl, rfl⟩)
       go_ret
       exact ⟨rfl, rfl⟩
   · have e : zH7 sz true m = true := by simp [zH7, h1]
     rw [e]
     go_enter Tryz.func27, Tryz.ntmps27
     go_wp2_with (go_at_call 55; refine hc.out.mono ?_; rintro e w' ⟨rfl, rfl⟩)
     go_ret
     exact ⟨rfl, rfl⟩
 · have e : zH7 sz d m = false := by simp [zH7, h1]
   rw [e]
   go_enter Tryz.func27, Tryz.ntmps27
   go_wp2_with (go_at_call 55; refine hc.out.mono ?_; rintro e w' ⟨rfl, rfl⟩)
   go_ret
   exact ⟨rfl, rfl⟩
theorem xU3 (a : Addr) (n cap : Nat) (w : World) : (binOp .eql 22 (.slice (some a) n cap) (.slice none 0 0)).run Tryz.prog w = .ok (.bool false) w := by
 have e : ∃ d, Op.maxDepth = d + 1 := ⟨Op.maxDepth - 1, by decide⟩
 obtain ⟨d, e⟩ := e
 unfold binOp Op.equal
 rw [e]
 simp [go_sem, Op.equalIn, run_underlying Tryz.underlying22]
theorem xK8 (n cap : Nat) (w : World) : (binOp .eql 22 (.slice none n cap) (.slice none 0 0)).run Tryz.prog w = .ok (.bool true) w := by
 have e : ∃ d, Op.maxDepth = d + 1 := ⟨Op.maxDepth - 1, by decide⟩
 obtain ⟨d, e⟩ := e
 unfold binOp Op.equal
 rw [e]
 simp [go_sem, Op.equalIn, run_underlying Tryz.underlying22]
theorem zW3 {ops : Array Oper} {rest : List Oper} {o : Oper} {a : Act} {Q : Exit -> Act -> World -> Prop} (w : World) (hgd : o.guard = none) (s x : Operand)
    (ho : o.op = .call { callee := .builtin .append, args := #[s, x], argTypes := #[22, 22] })
    (v : Value) (l : List UInt8) (hs : a.eval s = v) (hown : SlR w v l) (xv : Value) (news : List UInt8) (hx : a.eval x = xv) (hsrc : Src Tryz.prog 1 22 xv news.length (vals news) w) (hlen : l.length + news.length <= 211106232532992)
    (h : ∀ v' w', SlR w' v' (l ++ news) -> App w w' none v v' -> wpList Tryz.prog ops Q rest (a.put o.dst v') w') : wpList Tryz.prog ops Q (o :: rest) a w :=
 wpList_plain hgd fun _ hK => zR1 w s x ho v l hs hown xv news hx hsrc hlen fun v' w' h1 h2 => hK _ _ (h v' w' h1 h2)
theorem SlR.empty (w : World) : SlR (w.alloc (.cells #[] 5)) (.slice (some ⟨w.heap.size, 0, none⟩) 0 0) [] :=
 .inr ⟨w.heap.size, 0, #[], rfl, heap_alloc_new w _, Nat.le_refl _, by simp, by unfold maxLen; simp, rfl⟩
def Frs (w : World) (z : Value) : Prop := ∀ k, z.ownBlock = some k -> w.heap.size <= k
theorem zO4 (a : Option Addr) (cap : Nat) (d : List UInt8) (w : World) (hB : Bs w a d) (hn : a = none -> d = []) : Calls Tryz.prog 29 #[.slice a d.length cap] w fun e w' => ∃ z, e = .returned z /\ SlR w' z d /\ Frs w z /\ Below w.heap.size w w' := by
 cases a with
 | none =>
  have hd := hn rfl
  subst hd
  clear hn hB
  have heq := xK8 0 cap w
  change Calls Tryz.prog 29 #[.slice none 0 cap] w _
  go_enter Tryz.func29, Tryz.ntmps29
  go_wp2
  go_ret
  exact ⟨_, rfl, SlR.nil _, fun k hk => (by cases hk), Below.refl _ _⟩
 | some a =>
  have HB := zA0 hB
  have hl := hB.1
  clear hn hB
  have heq := xU3 a d.length cap w
  go_enter Tryz.func29, Tryz.ntmps29
  go_wp2_with (at_builtin; refine zW3 _ rfl (.tmp 5) (.tmp 6) rfl (.slice (some ⟨w.heap.size, 0, none⟩) 0 0) [] rfl (SlR.empty w) (.slice (some a) d.length cap) d rfl ((HB.out.alloc _).src Tryz.underlying22 cap) (by simpa using hl) ?_; intro z w2 hz hap)
  go_ret
  have hb : Below w.heap.size w w2 := ((Below.refl _ w).alloc (Nat.le_refl _) _).trans ⟨hap.os, hap.tape, hap.output, hap.size, fun k hk => hap.block k (by simp; omega) (by simp) (fun h => absurd h (Nat.lt_irrefl 0))⟩
  refine ⟨z, rfl, by simpa using hz, fun k hk => ?_, hb⟩
  rcases hap.new with ⟨e1, _, _⟩ | ⟨k', e1, e2⟩
  · rw [hk] at e1
    have : k = w.heap.size := by simpa [Value.ownBlock] using e1
    omega
  · rw [hk] at e1
    cases e1
    simp at e2
    omega
end
end Go.Proofs.YtocoimjhglackaaGreat
