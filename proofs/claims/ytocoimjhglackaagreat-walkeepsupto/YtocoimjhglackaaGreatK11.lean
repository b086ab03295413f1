/- Dcr, Dls, Gds -/
import Derived.Test.YtocoimjhglackaaGreatK10
import Derived.Maps.RangeWalk
import Derived.Sort.MapsRangeIn
import Derived.OwnWalkIn
import Derived.Sort.KeysCollected
set_option maxHeartbeats 8000000
set_option maxRecDepth 100000
namespace Go.Proofs.YtocoimjhglackaaGreat
section
open Go.RowKit Go.Maps
def zI8 (pick:Int) (s:Nat) : Nat:=((pick.tmod ((s:Int) + 1) + ((s:Int) + 1)).tmod ((s:Int) + 1)).toNat
theorem yR7 (a b:Int) (hb:0 < b) : -b < a.tmod b/\a.tmod b < b:=by
 have h1:=Int.tmod_lt_of_pos a hb
 have h2 : -b < a.tmod b:=by
  have:=Int.neg_lt_of_neg_lt (a:=b) (b:=a.tmod b)
  rcases Int.le_total 0 a with h | h
  · have:=Int.tmod_nonneg b h; omega
  · have e : a.tmod b = -((-a).tmod b):=by rw [Int.neg_tmod]; omega
    have:=Int.tmod_lt_of_pos (-a) hb
    omega
 exact ⟨h2,h1⟩
theorem xV0 (pick:Int) (s:Nat) : (pick.tmod ((s:Int) + 1) + ((s:Int) + 1)).tmod ((s:Int) + 1) = (zI8 pick s:Int)/\zI8 pick s<=s:=by
 obtain ⟨h1,h2⟩:=yR7 pick ((s:Int) + 1) (by omega)
 have h3:=Int.tmod_nonneg ((s:Int) + 1) (a:=pick.tmod ((s:Int) + 1) + ((s:Int) + 1)) (by omega)
 have h4:=Int.tmod_lt_of_pos (pick.tmod ((s:Int) + 1) + ((s:Int) + 1)) (b:=(s:Int) + 1) (by omega)
 unfold zI8
 omega
structure CrS (w2 wr:World) (p bD cnt:Nat) (lf:Int) (DD D:DataW Value) (left:Lit->Bool) (cr:Nat) : Prop where
 rg : ∃ n,n<=cnt/\wr.ranges Tryz.prog 9 RV bD (w2.heap.size + 1) n DD left cr
 mN : ∃ n,n + cr<=cnt/\MapR wr w2.heap.size n D
 hs : ∀ k,Maps.has D (.string k) = (Maps.has DD (.string k) && !left (.string k))
 vs : ∀ k,vAt D k = if Maps.has D (.string k) = true then yA1 (vAt DD k) else .slice none 0 0
 blk : DskB wr p w2.heap.size bD (.slice none 0 0) lf
 os : wr.os = w2.os
 tape : wr.tape = w2.tape
 output : wr.output = w2.output
 size : w2.heap.size + 2<=wr.heap.size
 oth : ∀ k,k < w2.heap.size->k ≠ p->wr.heap[k]? = w2.heap[k]?
theorem yX9 {w:World} {p bF bD:Nat} {dn:Value} {left:Int} (h:DskB w p bF bD dn left) (b:Nat) : DskB (w.setCell ⟨p,0,none⟩ (.map (some b))) p b bD dn left:=by
 have h' : w.heap[p]? = _:=h
 show _ = _
 rw [heap_setCell_same w p 0 _ 83 _ h']
 rfl
theorem CrS.step {w2 wr w5 w6:World} {p bD cnt:Nat} {lf:Int} {DD D:DataW Value} {left:Lit->Bool} {cr cr' n:Nat} {x:ByteArray} (h:CrS w2 wr p bD cnt lf DD D left cr) (hr:∃ n,n<=cnt/\w5.ranges Tryz.prog 9 RV bD (w2.heap.size + 1) n DD (fun z=>left z && !z.sameKey (.string x.data.toList)) cr') (hlt:cr' < cr) (hn:n + cr<=cnt) (hg:wr.grownBy w5 (some (w2.heap.size + 1))) (hh:Maps.has DD (.string x.data.toList) = true) (hm:MapR wr w2.heap.size n D) (hbD:bD < w2.heap.size) (hp:p < w2.heap.size)
    (hm6:MapR w6 w2.heap.size (n + 1) (D.put (.string x.data.toList) (.held (yA1 (vAt DD x.data.toList))))) (hg6:w5.grownBy w6 (some w2.heap.size)) : CrS w2 w6 p bD cnt lf DD (D.put (.string x.data.toList) (.held (yA1 (vAt DD x.data.toList)))) (fun z=>left z && !z.sameKey (.string x.data.toList)) cr':=by
 have hD:=hm.isMap
 have hhs : ∀ k,Maps.has (D.put (.string x.data.toList) (.held (yA1 (vAt DD x.data.toList)))) (.string k) = (Maps.has DD (.string k) && !(left (.string k) && !(Lit.string k).sameKey (.string x.data.toList))):=by
  intro k
  rw [zZ2 hD,h.hs]
  by_cases e : k = x.data.toList
  · subst e
    have : (Lit.string x.data.toList).sameKey (.string x.data.toList) = true:=WideAt.sameKey_self (by simp [WideAt.IsKeyLit])
    simp [hh,this]
  · have : (Lit.string k).sameKey (.string x.data.toList) = false:=sameKey_ne (by simpa using e)
    simp [e,this]
 obtain ⟨nr,hnr,hrg⟩:=hr
 refine ⟨⟨nr,hnr,hrg.kept hg6 (by simp; omega) (by simp)⟩,⟨n + 1,by omega,hm6⟩,hhs,fun k=>?_,(hg6.block p (by have:=hg.size; have:=h.size; omega) (by simp; omega)).trans ((hg.block p (by have:=h.size; omega) (by simp; omega)).trans h.blk),hg6.os.trans (hg.os.trans h.os),hg6.tape.trans (hg.tape.trans h.tape),hg6.output.trans (hg.output.trans h.output),Nat.le_trans h.size (Nat.le_trans hg.size hg6.size),fun k hk hkp=>(hg6.block k (by have:=hg.size; have:=h.size; omega) (by simp; omega)).trans ((hg.block k (by have:=h.size; omega) (by simp; omega)).trans (h.oth k hk hkp))⟩
 rw [zP6 hD,zZ2 hD]
 by_cases e : k = x.data.toList
 · subst e; simp
 · simp only [e,if_false,decide_false,Bool.false_or]
   exact h.vs k
theorem zQ7 {w w':World} {b:Nat} (h:w.drew.mapTurned w' b) : w.grownBy w' (some b):=⟨h.grown.os,h.grown.tape,h.grown.output,h.grown.size,h.grown.block⟩
theorem yL4 {w2:World} {p bF bD cnt:Nat} {M:Md} {DF DD:DataW Value} {dn:Value} {G:List Gd} (h:DkR w2 p M cnt bF bD DF DD dn G) : (∃ n,n<=cnt/\MapR ((w2.setCell ⟨p,0,none⟩ (.map (some w2.heap.size))).alloc (.map #[] 0)) bD n DD)/\DskB ((w2.setCell ⟨p,0,none⟩ (.map (some w2.heap.size))).alloc (.map #[] 0)) p w2.heap.size bD dn M.left:=by
 obtain ⟨n,hn,hm⟩:=h.mD
 have hne : bD ≠ p:=by
  intro e
  obtain ⟨es,c,hb⟩:=hm.obj
  have hb' : w2.heap[p]? = _:=h.blk
  rw [e,hb'] at hb
  cases hb
 have hlt:=hm.lt
 have hlp:=h.blk.lt
 exact ⟨⟨n,by omega,hm.kept ((Below.heap_alloc _ _ bD (by simpa using hlt)).trans (Below.heap_setCell w2 ⟨p,0,none⟩ _ bD hne))⟩,(Below.heap_alloc _ _ p (by simpa using hlp)).trans (yX9 h.blk _)⟩
theorem yQ6 {w2 w4:World} {p bF bD cnt nD:Nat} {fs dur:FS} {lf:Int} {DF DD:DataW Value} (h:DkR w2 p ⟨fs,dur,[],lf⟩ cnt bF bD DF DD (.slice none 0 0) []) (hnD:nD<=cnt) (hm:MapR ((w2.setCell ⟨p,0,none⟩ (.map (some w2.heap.size))).alloc (.map #[] 0)) bD nD DD) (hr:w4.ranges Tryz.prog 9 RV bD (w2.heap.size + 1) nD DD (Maps.has DD) (Maps.size DD)) (hg:World.grownBy ((w2.setCell ⟨p,0,none⟩ (.map (some w2.heap.size))).alloc (.map #[] 0)) w4 none) : CrS w2 w4 p bD cnt lf DD (.map []) (Maps.has DD) (Maps.size DD):=by
 have hsz : Maps.size DD<=nD:=World.ownsMap.size_le hm
 have e1 : (w2.setCell ⟨p,0,none⟩ (.map (some w2.heap.size))).heap.size = w2.heap.size:=by simp
 have hlp:=h.blk.lt
 have hmN:=yE4 (w2.setCell ⟨p,0,none⟩ (.map (some w2.heap.size)))
 rw [e1] at hmN
 have hs4:=hg.size
 have hblk:=(yL4 h).2
 refine ⟨⟨nD,hnD,hr⟩,⟨0,by omega,hmN.kept (hg.block _ hmN.lt (by simp))⟩,fun k=>?_,fun k=>rfl,(hg.block p (by simp; omega) (by simp)).trans hblk,hg.os,hg.tape,hg.output,?_,fun k hk hkp=>?_⟩
 · rw [xW6]; cases Maps.has DD (.string k) <;> rfl
 · have:=hr.lt; omega
 · exact (hg.block k (by simp; omega) (by simp)).trans ((Below.heap_alloc _ _ k (by simpa using hk)).trans (Below.heap_setCell w2 ⟨p,0,none⟩ _ k hkp))
theorem xO4 : yA1 (.slice none 0 0) = .slice none 0 0:=rfl
theorem CrS.fin {w2 wr:World} {p bF bD cnt:Nat} {fs dur:FS} {lf:Int} {DF DD D:DataW Value} {left:Lit->Bool} {cr:Nat} (h:CrS w2 wr p bD cnt lf DD D left cr) (hl:∀ kl,left kl = false) (h2:DkR w2 p ⟨fs,dur,[],lf⟩ cnt bF bD DF DD (.slice none 0 0) []) :
    DkR (wr.setCell ⟨p,3,none⟩ (.int .i64 (-1))) p ⟨dur,dur,[],-1⟩ cnt w2.heap.size bD D DD (.slice none 0 0) []/\Fr w2 (wr.setCell ⟨p,3,none⟩ (.int .i64 (-1))) (Ft p bF bD DF DD (.slice none 0 0) []) (Ft p w2.heap.size bD D DD (.slice none 0 0) []):=by
 have hhas : ∀ k,Maps.has D (.string k) = Maps.has DD (.string k):=fun k=>by rw [h.hs,hl]; simp
 have hv : ∀ k,vAt D k = yA1 (vAt DD k):=fun k=>by
  rw [h.vs,hhas]
  by_cases e : Maps.has DD (.string k) = true
  · rw [if_pos e]
  · rw [if_neg e,xP0 (by simpa using e),xO4]
 obtain ⟨nr,hnr,hrg⟩:=h.rg
 obtain ⟨nN,hnN,hmN⟩:=h.mN
 have hpl:=h2.blk.lt
 have hold : ∀ k,SlR wr (vAt DD k) (cOf dur k):=fun k=>(h2.liv.r true k).kept fun g hg=>h.oth g ((h2.liv.r true k).lt g hg) (fun e=>(h2.liv.r true k).ne_cells h2.blk (by decide) (by rw [hg,e]))
 have hsep : ∀ k k',k ≠ k'->Sep (vAt DD k) (vAt DD k'):=fun k k' hne=>h2.liv.sep true k true k' (fun e=>hne e.2)
 have d1 : DkR wr p ⟨dur,dur,[],lf⟩ cnt w2.heap.size bD D DD (.slice none 0 0) []:=by
  refine ⟨h.blk,⟨nN,by omega,hmN⟩,⟨nr,by simpa using hnr,hrg.owns⟩,?_,fun k=>by rw [hhas]; exact h2.hD k,h2.hD,⟨fun s k=>?_,fun s k s' k' hne=>?_,fun s k z hz=>(by cases hz)⟩,⟨rfl,.inl ⟨rfl,rfl⟩⟩,rfl,fun g hg=>(by cases hg),h2.leb,h2.cn⟩
  · obtain ⟨n,_,hm⟩:=h2.mD
    have:=hm.lt
    omega
  · cases s with
    | false=>show SlR wr (vAt D k) (cOf dur k); rw [hv]; exact (hold k).clip
    | true=>exact hold k
  · cases s <;> cases s'
    · show Sep (vAt D k) (vAt D k')
      rw [hv,hv]
      exact fun g _ _=>⟨fun e=>absurd e (zM3 _),fun e=>absurd e (zM3 _)⟩
    · show Sep (vAt D k) (vAt DD k')
      rw [hv]
      intro g e1 e2
      refine ⟨fun e=>absurd e (zM3 _),fun e=>⟨zM3 _,?_⟩⟩
      rw [yL6]
      rw [zN7] at e1
      by_cases ek : k = k'
      · subst ek; exact Nat.le_refl _
      · exact ((hsep k k' ek g e1 e2).2 e).2
    · show Sep (vAt DD k) (vAt D k')
      rw [hv]
      intro g e1 e2
      refine ⟨fun e=>⟨zM3 _,?_⟩,fun e=>absurd e (zM3 _)⟩
      rw [yL6]
      rw [zN7] at e2
      by_cases ek : k = k'
      · subst ek; exact Nat.le_refl _
      · exact ((hsep k k' ek g e1 e2).1 e).2
    · exact hsep k k' (fun e=>hne ⟨rfl,e⟩)
 have f1 : Fr w2 wr (Ft p bF bD DF DD (.slice none 0 0) []) (Ft p w2.heap.size bD D DD (.slice none 0 0) []):=by
  refine ⟨h.os,h.tape,h.output,by have:=h.size; omega,fun k hk hF=>h.oth k hk (fun e=>hF (.inl e)),fun k hk=>?_⟩
  rcases hk with e | e | e | e | ⟨s,j,e2⟩ | ⟨_,e,_⟩
  · exact .inl (.inl e)
  · exact .inr (by omega)
  · exact .inl (.inr (.inr (.inl e)))
  · cases e
  · cases s with
    | false =>
     have e3 : (vAt D j).ownBlock = some k:=e2
     rw [hv,zN7] at e3
     exact .inl (.inr (.inr (.inr (.inr (.inl ⟨true,j,e3⟩)))))
    | true=>exact .inl (.inr (.inr (.inr (.inr (.inl ⟨true,j,e2⟩)))))
  · cases e
 exact ⟨d1.setLeft (-1) (by decide),f1.trans (Fr.setp _ _ _ _ _ _ _ _ _ _)⟩
theorem xG5 (pick:Int) (p cnt bF bD:Nat) (M:Md) (DF DD:DataW Value) (dn:Value) (G:List Gd) (w:World) (h:DkR w p M cnt bF bD DF DD dn G) (hU:∀ x ∈ M.done,1<=x.1/\x.1<=1048576) (hbd:∀ k,Bd (rep (M.done.take k) M.dur)) (hc:cnt<=2199023255552) : Calls Tryz.prog 16 #[.pointer (some ⟨p,0,none⟩),.int .i64 pick] w fun e w'=>e = .returned (.tuple #[])/\∃ bN DN DD',DkR w' p ⟨mkD M.done (zI8 pick (sumU M.done)) M.dur,mkD M.done (zI8 pick (sumU M.done)) M.dur,[],-1⟩ cnt bN bD DN DD' (.slice none 0 0) []/\Fr w w' (Ft p bF bD DF DD dn (G.map (·.z))) (Ft p bN bD DN DD' (.slice none 0 0) []):=by
 have hsum : sumU M.done<=M.done.length * 1048576:=by
  have h1:=yN3 M.done 1048576 (fun x hx=>(hU x hx).2) M.done.length
  rwa [List.take_length] at h1
 have hlg:=h.lenG
 obtain ⟨nD0,hnD0,_⟩:=h.mD
 have hU2 : ∀ x ∈ M.done,x.1<=1048576:=fun x hx=>(hU x hx).2
 have HU:=zA0 (yH6 p cnt bF bD M DF DD dn G w h hU2)
 have HUU:=zA0 hU
 have HBD:=zA0 hbd
 have H:=zA0 h
 generalize hs : sumU M.done = s at *
 obtain ⟨hp1,hp2⟩:=xV0 pick s
 obtain ⟨ht1,ht2⟩:=yR7 pick ((s:Int) + 1) (by omega)
 have hnz : ¬ ((s:Int) + 1 = 0):=by omega
 have hs61 : s<=2305843009213693952:=by omega
 have hmh : ∀ (n:Int) (w:World),(Instr.makeMap 80 (some (.int .i64 n))).run Tryz.prog w = .ok (.map (some w.heap.size)) (w.alloc (.map #[] 0)):=fun _ _=>by first | rfl | (simp [Instr.makeMap,go_sem]; done)
 clear h hU hbd hU2 hs hsum
 go_enter Tryz.func16,Tryz.ntmps16
 go_wp2_with (first
  | (go_at_call 34; refine HU.out.mono ?_; rintro e w1 ⟨rfl,hb⟩; have HB:=zA0 hb; clear hb)
  | (go_at_call 33; refine (zN3 p cnt bF bD M DF DD dn G _ (H.out.below HB.out) (zI8 pick s) (by omega) HUU.out HBD.out hc).mono ?_; rintro e w2 ⟨rfl,DD',hd2,hf2⟩; have H2:=zA0 hd2; have F2:=zA0 hf2; have c1:=hd2.blk.c1; have lp:=hd2.blk.lt; have fz:=hd2.blk.fr; have c0:=hd2.blk.c0; have hlen : (Builtin.len_ #[80] 3 #[.map (some bD)]).run Tryz.prog w2 = .ok (.int .i64 (Maps.size DD')) w2:=(by obtain ⟨n,_,hm⟩:=hd2.mD; exact World.ownsMap.len hm Tryz.underlying80 3); clear hd2 hf2)
  | (at_range; have HM4 : Hid (∃ n,n<=cnt/\MapR ((w2.setCell ⟨p,0,none⟩ (.map (some w2.heap.size))).alloc (.map #[] 0)) bD n DD'):=zA0 (yL4 H2.out).1; obtain ⟨nD,hnD,hmD4⟩:=HM4.out; refine wpList_range_own _ rfl _ 80 rfl 9 22 law9 Tryz.underlying80 RV bD nD DD' rfl hmD4 ?_; intro w4 hrg hgr hsz4; have HC4:=zA0 (yQ6 H2.out hnD hmD4 (by simpa using hrg) hgr); clear hrg hgr hmD4 c0 c1 lp fz hlen))
 have hbD : bD < w2.heap.size:=by obtain ⟨n,_,hm⟩:=H2.out.mD; exact hm.lt
 have hpl : p < w2.heap.size:=H2.out.blk.lt
 go_frame
 go_loopw [5] (fun _ wr=>∃ (D:DataW Value) (left:Lit->Bool) (cr:Nat),Hid (CrS w2 wr p bD cnt M.left DD' D left cr)) (fun _ wr=>wr.rangeLeft bD (w2.heap.size + 1))
 case atStart=>exact ⟨_,_,_,HC4⟩
 case round =>
  obtain ⟨D,left,cr,HR⟩:=hrel
  clear HC4
  obtain ⟨nr,hnr,hrg⟩:=HR.out.rg
  have HRG:=zA0 hrg
  clear hrg
  go_wp2_with (at_next; refine wpList_next_ranges _ rfl _ rfl 9 law9 RV (fun s:ByteArray=>.string s) (fun v:Value=>v) (fun key kl hk=>Maps.keyOf_string_inv Tryz.underlying9 hk) (fun v y _=>⟨v,rfl⟩) bD (w2.heap.size + 1) nr DD' left cr (by simp [Act.eval]) HRG.out ?_ ?_)
  · intro _ hl0
    have HL0:=zA0 hl0
    clear hl0
    have d3:=HR.out.blk.c3
    have lq:=HR.out.blk.lt
    have fq:=HR.out.blk.fr
    go_wp2
    go_end0
    obtain ⟨g1,g2⟩:=HR.out.fin HL0.out H2.out
    exact ⟨rfl,w2.heap.size,D,DD',g1,((Fr.of_below HB.out).trans F2.out).trans g2⟩
  · intro x c kl yd yp w5 cr5 hkey hlk hv hat hrg5 hlt5 hg5 hs5 hen
    obtain ⟨x',ex,ekl,hxs⟩:=WideMaps.string_of_keyOf Tryz.underlying9 hkey
    cases ex
    subst ekl
    have hy : yd = .held c:=by simp [RV] at hv; exact hv.1.symm
    subst hy
    have hvx : vAt DD' x.data.toList = c:=by
     unfold vAt
     rw [hat]
    have hhx : Maps.has DD' (.string x.data.toList) = true:=has_true_of_atKey hat
    obtain ⟨fa,fc,ef,hle,_⟩:=(H2.out.liv.r true x.data.toList).form
    have ef : vAt DD' x.data.toList = .slice fa (cOf (mkD M.done (zI8 pick s) M.dur) x.data.toList).length fc:=ef
    have hnil:=(show SlR w2 (.slice fa (cOf (mkD M.done (zI8 pick s) M.dur) x.data.toList).length fc) (cOf (mkD M.done (zI8 pick s) M.dur) x.data.toList) from ef ▸ H2.out.liv.r true x.data.toList).nilOf
    rw [ef] at hvx
    subst hvx
    obtain ⟨n,hn,hmN⟩:=HR.out.mN
    have hrl : wr.rangeLeft bD (w2.heap.size + 1) = cr:=HRG.out.left_eq
    have hm5 : MapR w5 w2.heap.size n D:=hmN.kept (hg5.block _ hmN.lt (by simp))
    have hb5 : DskB w5 p w2.heap.size bD (.slice none 0 0) M.left:=(hg5.block p HR.out.blk.lt (by simp; omega)).trans HR.out.blk
    have c0:=hb5.c0
    have lq:=hb5.lt
    have HM5:=zA0 hm5
    have HN:=zA0 hmN
    have HG5:=zA0 hg5
    have HRG5 : Hid (∃ n,n<=cnt/\w5.ranges Tryz.prog 9 RV bD (w2.heap.size + 1) n DD' (fun z=>left z && !z.sameKey (.string x.data.toList)) cr5):=zA0 ⟨nr,hnr,hrg5⟩
    have HEF:=zA0 ef
    have hcn:=H2.out.cn
    have hnm : n < maxLen:=by unfold maxLen; omega
    have HRL:=zA0 hrl
    clear hkey hlk hv hat hrg5 hg5 hm5 hmN hb5 ef hrl
    generalize hfl : (cOf (mkD M.done (zI8 pick s) M.dur) x.data.toList).length = fl at *
    clear hfl
    go_wp2
    refine zD8 (fun w':World=>w'.cell? ⟨p,0,none⟩ = some (.map (some w2.heap.size))/\MapR w' w2.heap.size n D) 7 (by kernel_rfl) ?_
    have hHeld : (fun w':World=>w'.cell? ⟨p,0,none⟩ = some (.map (some w2.heap.size))/\MapR w' w2.heap.size n D) _:=⟨c0,HM5.out⟩
    refine tkL 0 rfl (.pointer (some ⟨p,0,none⟩)) (by kernel_rfl) rfl (fun _ _ _=>id) hHeld (by intro w hSw; (try dsimp only at hSw); go_simp) ?_
    try simp only [aPa,aPc,aPd]
    refine tkL 1 rfl (.pointer (some ⟨p,0,none⟩)) (by kernel_rfl) rfl (fun _ _ _=>id) hHeld (by intro w hSw; (try dsimp only at hSw); go_simp) ?_
    try simp only [aPa,aPc,aPd]
    refine tkL 2 rfl (.pointer (some ⟨p,0,none⟩)) (by kernel_rfl) rfl (fun _ _ _=>id) hHeld (by intro w hSw; (try dsimp only at hSw); go_simp) ?_
    try simp only [aPa,aPc,aPd]
    refine tkL 3 rfl (.map (some w2.heap.size)) (by kernel_rfl) rfl (fun _ _ _=>id) hHeld (by intro w hSw; obtain ⟨s1,_⟩:=hSw; go_simp) ?_
    try simp only [aPa,aPc,aPd]
    refine tkL 4 rfl (.string x) (by kernel_rfl) rfl (fun _ _ _=>id) hHeld (by intro w hSw; (try dsimp only at hSw); go_simp) ?_
    try simp only [aPa,aPc,aPd]
    refine tkL 5 rfl (.slice fa fl fc) (by kernel_rfl) rfl (fun _ _ _=>id) hHeld (by intro w hSw; (try dsimp only at hSw); go_simp) ?_
    try simp only [aPa,aPc,aPd]
    refine tkLc 6 rfl (by kernel_rfl) rfl (fun K hK=>?_)
    go_simp
    refine (yV2 fa fl fc _ hnil.2.1 hnil.1 hnil.2.2).mono ?_
    rintro e w7 ⟨rfl,rfl⟩
    refine hK.out _ _ (fun _=>hHeld) ?_
    clear hK K
    try simp only [aPa,aPb,aPc,aPd]
    refine tkLc 7 rfl (by kernel_rfl) rfl (fun K hK=>?_)
    refine zJ4 _ (.tmp 41) (.tmp 42) (.tmp 44) rfl w2.heap.size n D rfl HM5.out hnm x hxs (.slice fa fl fl) rfl rfl (fun w6 hm6 ht6=>?_)
    refine hK.out _ _ (fun h=>absurd rfl h) ?_
    clear hK K
    try simp only [Act.put]
    refine zD9 (by kernel_rfl) ?_ _
    go_wp2
    go_roundw
    case rel =>
     have hst:=HR.out.step HRG5.out hlt5 hn HG5.out hhx HN.out hbD hpl (by rw [HEF.out]; exact hm6) (zQ7 ht6)
     exact ⟨_,_,_,zA0 hst⟩
    case measure =>
     have hst:=HR.out.step HRG5.out hlt5 hn HG5.out hhx HN.out hbD hpl (by rw [HEF.out]; exact hm6) (zQ7 ht6)
     obtain ⟨n',_,hr'⟩:=hst.rg
     have e1:=hr'.left_eq
     have e2:=HRL.out
     omega
end
section
open Go.RowKit Go.Maps Go.Sort
def Srt (fs:FS) (ks:List Nm) : Prop:=ks.Pairwise (fun a b=>a<=b)/\ks.Nodup/\∀ k,k ∈ ks ↔ (fs k).isSome = true
theorem xM3 {w:World} {b n:Nat} {D:DataW Value} (h:MapR w b n D) : ∃ es,D = .map es/\es.Pairwise (fun p q=>p.1 ≠ q.1)/\∀ p ∈ es,∃ s : Nm,p.1 = .string s:=by
 obtain ⟨es,hD,hp,_⟩:=World.ownsMap.entries h law9
 refine ⟨es,hD,hp,fun p hpe=>?_⟩
 obtain ⟨es',clock,hb,F,hs,hD'⟩:=h
 rw [hD] at hD'
 cases hD'
 obtain ⟨v,hv⟩:=Maps.fit_keys F p (mem_sorted.1 hpe)
 obtain ⟨s,_,e,_⟩:=WideMaps.string_of_keyOf Tryz.underlying9 hv
 exact ⟨_,e⟩
theorem yX3 {w:World} {b n:Nat} {D:DataW Value} (h:MapR w b n D) : (strKeys D).Nodup/\(∀ k,k ∈ strKeys D ↔ Maps.has D (.string k) = true)/\(strKeys D).length = Maps.size D:=by
 obtain ⟨es,rfl,hp,hk⟩:=xM3 h
 refine ⟨?_,fun k=>?_,by simp [strKeys,Maps.size]⟩
 · show (es.map fun p=>strOf p.1).Nodup
   rw [List.Nodup,List.pairwise_map]
   refine hp.imp_of_mem fun {a b} ha hb hne e=>?_
   obtain ⟨s,hs⟩:=hk a ha
   obtain ⟨s',hs'⟩:=hk b hb
   rw [hs,hs'] at e
   have : s = s':=e
   exact hne (by rw [hs,hs',this])
 · show k ∈ (es.map fun p=>strOf p.1) ↔ (es.any fun p=>p.1.sameKey (.string k)) = true
   rw [List.mem_map,List.any_eq_true]
   constructor
   · rintro ⟨p,hpe,e⟩
     obtain ⟨s,hs⟩:=hk p hpe
     rw [hs] at e
     have e : s = k:=e
     refine ⟨p,hpe,?_⟩
     rw [hs,e]
     exact WideAt.sameKey_self (by simp [WideAt.IsKeyLit])
   · rintro ⟨p,hpe,e⟩
     refine ⟨p,hpe,?_⟩
     rw [WideAt.sameKey_eq e]
     rfl
theorem kA8 {fs:FS} {w:World} {b n:Nat} {D:DataW Value} (h:MapR w b n D) (hF:∀ k,Maps.has D (.string k) = (fs k).isSome) {ss:List Nm} (hp:ss.Perm (strKeys D)) : Srt fs (ss.mergeSort (fun x y=>decide (x<=y)))/\ss.length = Maps.size D:=by
 obtain ⟨k1,k2,k3⟩:=yX3 h
 have hm : (ss.mergeSort (fun x y=>decide (x<=y))).Perm (strKeys D):=(List.mergeSort_perm ss _).trans hp
 refine ⟨⟨?_,hm.nodup_iff.2 k1,fun k=>by rw [hm.mem_iff,k2,hF]⟩,by rw [hp.length_eq,k3]⟩
 have:=List.pairwise_mergeSort (le:=fun x y : Nm=>decide (x<=y)) (fun a b c h1 h2=>by simp at *; exact List.le_trans h1 h2) (fun a b=>by simp; exact List.le_total a b) ss
 exact this.imp (fun h=>by simpa using h)
def Card (fs:FS) (m:Nat) : Prop:=∃ ks,Srt fs ks/\ks.length = m
theorem DkR.card {w:World} {p:Nat} {M:Md} {cnt bF bD:Nat} {DF DD:DataW Value} {dn:Value} {G:List Gd} (h:DkR w p M cnt bF bD DF DD dn G) : ∃ ks,Srt M.files ks/\ks.length = Maps.size DF:=by
 obtain ⟨n,_,hm⟩:=h.mF
 obtain ⟨h1,h2⟩:=kA8 hm h.hF (List.Perm.refl _)
 exact ⟨_,h1,by rw [List.length_mergeSort]; exact h2⟩
end
section
open Go.RowKit Go.Maps Go.Sort
theorem Bd.fup {fs:FS} (h:Bd fs) {k:Nm} {v:Option (List UInt8)} (hv:(v.getD []).length<=1048576) : Bd (fup fs k v):=fun j=>by
 rw [zT7]
 split
 · exact hv
 · exact h j
theorem bd0 : Bd fs0:=fun _=>by show ([] : List UInt8).length<=_; simp
def Nmd (fs:FS) : Prop:=∀ k,(fs k).isSome = true->zE6 k = true
def OkF (fs:FS) : Prop:=Bd fs/\Nmd fs
structure OkM (M:Md) : Prop where
 un : ∀ x ∈ M.done,1<=x.1/\x.1<=1048576
 ok : ∀ k,OkF (rep (M.done.take k) M.dur)
 fl : M.files = rep M.done M.dur
theorem OkM.files {M:Md} (h:OkM M) : OkF M.files:=by
 have:=h.ok M.done.length
 rw [List.take_length,<- h.fl] at this
 exact this
theorem OkM.bd {M:Md} (h:OkM M) : ∀ k,Bd (rep (M.done.take k) M.dur):=fun k=>(h.ok k).1
def yN5 (M:Md) (x:Dd) (u:Nat) : Md:=⟨doD x u M.files,M.dur,M.done ++ [(u,x)],zF0 M.left⟩
def xT6 (M:Md) : Md:=⟨M.files,rep M.done M.dur,[],zF0 M.left⟩
def zI6 (pick:Int) (M:Md) : Md:=⟨mkD M.done (zI8 pick (sumU M.done)) M.dur,mkD M.done (zI8 pick (sumU M.done)) M.dur,[],-1⟩
theorem yS7 (l:List (Nat × Dd)) (u:Nat) (x:Dd) (fs:FS) : rep (l ++ [(u,x)]) fs = doD x u (rep l fs):=by
 unfold rep; rw [List.foldl_append]; rfl
theorem OkM.step {M:Md} (h:OkM M) {x:Dd} {u:Nat} (hu:1<=u/\u<=1048576) (hf:OkF (doD x u M.files)) : OkM (yN5 M x u):=by
 refine ⟨fun y hy=>?_,fun k=>?_,?_⟩
 · rcases List.mem_append.1 hy with hy | hy
   · exact h.un y hy
   · rw [List.mem_singleton.1 hy]; exact hu
 · show OkF (rep ((M.done ++ [(u,x)]).take k) M.dur)
   by_cases hk : k<=M.done.length
   · rw [List.take_append_of_le_length hk]
     exact h.ok k
   · rw [List.take_of_length_le (by simp; omega),yS7,<- h.fl]
     exact hf
 · show doD x u M.files = rep (M.done ++ [(u,x)]) M.dur
   rw [yS7,<- h.fl]
theorem OkM.sync {M:Md} (h:OkM M) : OkM (xT6 M):=by
 refine ⟨fun y hy=>(by cases hy),fun k=>?_,h.fl⟩
 show OkF (rep (([] : List (Nat × Dd)).take k) (rep M.done M.dur))
 rw [List.take_nil]
 show OkF (rep M.done M.dur)
 rw [<- h.fl]
 exact h.files
theorem OkF.part {fs:FS} {x:Dd} {m v:Nat} (hm:m<=v) (h:OkF (doD x v fs)) : OkF (doD x m fs):=by
 cases x with
 | ap n d =>
  refine ⟨fun k=>?_,fun k hk=>h.2 k ?_⟩
  · have:=h.1 k
    rw [doD,zT7] at this ⊢
    split
    · rename_i e
      rw [if_pos e] at this
      simp only [Option.getD_some,List.length_append,List.length_take] at this ⊢
      omega
    · rename_i e
      rw [if_neg e] at this
      exact this
  · rw [doD,zG8] at hk ⊢
    exact hk
 | pt n d=>exact h
 | rm n=>exact h
 | rn a b=>exact h
theorem OkF.mkD (l:List (Nat × Dd)) : ∀ (fs:FS) (u:Nat),(∀ k,OkF (rep (l.take k) fs))->OkF (mkD l u fs):=by
 induction l with
 | nil=>intro fs u h; exact h 0
 | cons y l ih =>
  intro fs u h
  obtain ⟨v,x⟩:=y
  unfold Proofs.YtocoimjhglackaaGreat.mkD
  by_cases h0 : min u v = 0
  · rw [if_pos h0]; exact h 0
  · rw [if_neg h0]
    by_cases hv : v<=u
    · rw [Nat.min_eq_right hv]
      exact ih _ _ (fun k=>h (k + 1))
    · rw [Nat.min_eq_left (by omega),Nat.sub_self]
      have h1:=h 1
      have : OkF (doD x u fs):=OkF.part (by omega:u<=v) h1
      cases l with
      | nil=>exact this
      | cons z l=>simp only [Proofs.YtocoimjhglackaaGreat.mkD,Nat.zero_min,if_true]; exact this
theorem OkM.crash {M:Md} (h:OkM M) (pick:Int) : OkM (zI6 pick M):=by
 have:=OkF.mkD M.done M.dur (zI8 pick (sumU M.done)) h.ok
 exact ⟨fun y hy=>(by cases hy),fun k=>(by show OkF (rep (([] : List (Nat × Dd)).take k) _); rw [List.take_nil]; exact this),rfl⟩
theorem OkM.left {M:Md} (h:OkM M) (n:Int) : OkM ⟨M.files,M.dur,M.done,n⟩:=⟨h.un,h.ok,h.fl⟩
theorem okM0 : OkM M0:=⟨fun x hx=>(by cases hx),fun k=>(by show OkF (rep (([] : List (Nat × Dd)).take k) fs0); rw [List.take_nil]; exact ⟨bd0,fun k hk=>(by cases hk)⟩),rfl⟩
theorem Nmd.fup {fs:FS} (h:Nmd fs) {k:Nm} {v:Option (List UInt8)} (hk:v.isSome = true->zE6 k = true) : Nmd (fup fs k v):=fun j hj=>by
 rw [zG8] at hj
 split at hj
 · rename_i e; rw [e]; exact hk hj
 · exact h j hj
def apE (nm:Nm) (n:Nat) (M:Md) (m:Nat) : Int:=if zE6 nm = true then (if M.left = 0 then 11 else if zI2 (((cOf M.files nm).length + n : Nat) : Int) (M.files nm).isSome m = true then 0 else 2) else 1
def ptE (nm:Nm) (n:Nat) (M:Md) (m:Nat) : Int:=if zE6 nm = true then (if M.left = 0 then 11 else if zI2 (n:Int) (M.files nm).isSome m = true then 0 else 2) else 1
def rmE (nm:Nm) (M:Md) : Int:=if zE6 nm = true then (if M.left = 0 then 11 else if (M.files nm).isSome = true then 0 else 12) else 1
def rnE (na nb:Nm) (M:Md) : Int:=if zE6 na = true/\zE6 nb = true then (if M.left = 0 then 11 else if (M.files na).isSome = true then 0 else 12) else 1
def syE (M:Md) : Int:=if M.left = 0 then 11 else 0
def mv (E:Int) (M' M:Md) : Md:=if E = 0 then M' else M
theorem DkS.more {w:World} {p:Nat} {M:Md} {cnt:Nat} {F:Nat->Prop} (h:DkS w p M cnt F) (hc:cnt + 1<=4398046511104) : DkS w p M (cnt + 1) F:=by
 obtain ⟨bF,bD,DF,DD,dn,G,h1,h2⟩:=h
 exact ⟨bF,bD,DF,DD,dn,G,h1.more hc,h2⟩
def Dsk (w:World) (p:Nat) (M:Md) (cnt:Nat) (F:Nat->Prop) : Prop:=DkS w p M cnt F/\OkM M
theorem Dsk.below {w w':World} {p:Nat} {M:Md} {cnt:Nat} {F:Nat->Prop} (h:Dsk w p M cnt F) (hb:Below w.heap.size w w') : Dsk w' p M cnt F:=⟨h.1.below hb,h.2⟩
theorem kB5 (s:ByteArray) (l:Int) : refE [s] l = if zE6 s.data.toList = true then (if l = 0 then 11 else 0) else 1:=by
 unfold refE zF9; simp
theorem kG9 (s s2:ByteArray) (l:Int) : refE [s,s2] l = if zE6 s.data.toList = true/\zE6 s2.data.toList = true then (if l = 0 then 11 else 0) else 1:=by
 unfold refE zF9; simp
theorem zY6 {E:Int} {M' M:Md} (h:E ≠ 0) : mv E M' M = M:=if_neg h
theorem mv_0 (M' M:Md) : mv 0 M' M = M':=if_pos rfl
theorem xH0 (s:ByteArray) (a:Option Addr) (cap:Nat) (d:List UInt8) (p cnt:Nat) (M:Md) (F:Nat->Prop) (w:World) (h:Dsk w p M cnt F) (hB:Bs w a d) (hnn:a = none->d = []) (hc:cnt + 1<=2199023255552) : Calls Tryz.prog 10 #[.pointer (some ⟨p,0,none⟩),.string s,.slice a d.length cap] w fun e w'=>∃ m F',Card M.files m/\e = .returned (.int .i64 (apE s.data.toList d.length M m))/\Dsk w' p (mv (apE s.data.toList d.length M m) (yN5 M (.ap s.data.toList d) (max 1 d.length)) M) (cnt + 1) F'/\Fr w w' F F':=by
 obtain ⟨hS,hM⟩:=h
 obtain ⟨bF,bD,DF,DD,dn,G,hd,rfl⟩:=id hS
 obtain ⟨ks,hks,hkl⟩:=hd.card
 have hcard : Card M.files (Maps.size DF):=⟨ks,hks,hkl⟩
 by_cases hr : refE [s] M.left = 0
 · have hz:=zF7 hr
   have hn:=zL6 hz.1
   cases hroom : zI2 (((cOf M.files s.data.toList).length + d.length : Nat) : Int) (M.files s.data.toList).isSome (Maps.size DF) with
   | true =>
    have e0 : apE s.data.toList d.length M (Maps.size DF) = 0:=by unfold apE; rw [if_pos hn,if_neg hz.2,if_pos hroom]
    have hlen : (cOf M.files s.data.toList).length + d.length<=1048576:=by unfold zI2 at hroom; simp at hroom; omega
    refine (xH1 s a cap d p cnt bF bD M DF DD dn G w hd hr hB hnn hM.files.1 hroom (by omega)).mono ?_
    rintro e w' ⟨rfl,DF',dn',G',g1,g2⟩
    refine ⟨_,_,hcard,by rw [e0],?_,g2⟩
    rw [e0,mv_0]
    refine ⟨⟨_,_,_,_,_,_,g1,rfl⟩,hM.step (by omega) ⟨hM.files.1.fup ?_,hM.files.2.fup (fun _=>hn)⟩⟩
    show ((cOf M.files s.data.toList) ++ d.take (max 1 d.length)).length<=1048576
    rw [List.length_append,List.length_take]
    omega
   | false =>
    have e0 : apE s.data.toList d.length M (Maps.size DF) = 2:=by unfold apE; rw [if_pos hn,if_neg hz.2,if_neg (by rw [hroom]; decide)]
    refine (yQ9 s a d.length cap p cnt bF bD M DF DD dn G w hd hr hB.1 hM.files.1 hroom).mono ?_
    rintro e w' ⟨rfl,hb⟩
    refine ⟨_,_,hcard,by rw [e0],?_,Fr.of_below hb⟩
    rw [zY6 (by rw [e0]; decide)]
    exact ⟨(hS.below hb).more (by omega),hM⟩
 · have e0 : apE s.data.toList d.length M (Maps.size DF) = refE [s] M.left:=by
     rw [kB5] at hr ⊢
     unfold apE
     by_cases h1 : zE6 s.data.toList = true
     · rw [if_pos h1] at hr ⊢
       by_cases h2 : M.left = 0
       · rw [if_pos h2,if_pos h1,if_pos h2]
       · rw [if_neg h2] at hr; exact absurd rfl hr
     · rw [if_neg h1,if_neg h1]
   refine (yY6 s a d.length cap p cnt bF bD M DF DD dn G w hd hr).mono ?_
   rintro e w' ⟨rfl,hb⟩
   refine ⟨_,_,hcard,by rw [e0],?_,Fr.of_below hb⟩
   rw [zY6 (by rw [e0]; exact hr)]
   exact ⟨(hS.below hb).more (by omega),hM⟩
end
section
open Go.RowKit Go.Maps Go.Sort
theorem kB6 (s:ByteArray) (a:Option Addr) (cap:Nat) (d:List UInt8) (p cnt:Nat) (M:Md) (F:Nat->Prop) (w:World) (h:Dsk w p M cnt F) (hB:Bs w a d) (hnn:a = none->d = []) (hc:cnt + 1<=2199023255552) : Calls Tryz.prog 67 #[.pointer (some ⟨p,0,none⟩),.string s,.slice a d.length cap] w fun e w'=>∃ m F',Card M.files m/\e = .returned (.int .i64 (ptE s.data.toList d.length M m))/\Dsk w' p (mv (ptE s.data.toList d.length M m) (yN5 M (.pt s.data.toList d) 1) M) (cnt + 1) F'/\Fr w w' F F':=by
 obtain ⟨hS,hM⟩:=h
 obtain ⟨bF,bD,DF,DD,dn,G,hd,rfl⟩:=id hS
 obtain ⟨ks,hks,hkl⟩:=hd.card
 have hcard : Card M.files (Maps.size DF):=⟨ks,hks,hkl⟩
 by_cases hr : refE [s] M.left = 0
 · have hz:=zF7 hr
   have hn:=zL6 hz.1
   cases hroom : zI2 (d.length:Int) (M.files s.data.toList).isSome (Maps.size DF) with
   | true =>
    have e0 : ptE s.data.toList d.length M (Maps.size DF) = 0:=by unfold ptE; rw [if_pos hn,if_neg hz.2,if_pos hroom]
    have hlen : d.length<=1048576:=by unfold zI2 at hroom; simp at hroom; omega
    refine (kB8 s a cap d p cnt bF bD M DF DD dn G w hd hr hB hnn hroom (by omega)).mono ?_
    rintro e w' ⟨rfl,DF',dn',G',g1,g2⟩
    refine ⟨_,_,hcard,by rw [e0],?_,g2⟩
    rw [e0,mv_0]
    exact ⟨⟨_,_,_,_,_,_,g1,rfl⟩,hM.step (by omega) ⟨hM.files.1.fup hlen,hM.files.2.fup (fun _=>hn)⟩⟩
   | false =>
    have e0 : ptE s.data.toList d.length M (Maps.size DF) = 2:=by unfold ptE; rw [if_pos hn,if_neg hz.2,if_neg (by rw [hroom]; decide)]
    refine (xL1 s a d.length cap p cnt bF bD M DF DD dn G w hd hr hroom).mono ?_
    rintro e w' ⟨rfl,hb⟩
    refine ⟨_,_,hcard,by rw [e0],?_,Fr.of_below hb⟩
    rw [zY6 (by rw [e0]; decide)]
    exact ⟨(hS.below hb).more (by omega),hM⟩
 · have e0 : ptE s.data.toList d.length M (Maps.size DF) = refE [s] M.left:=by
     rw [kB5] at hr ⊢
     unfold ptE
     by_cases h1 : zE6 s.data.toList = true
     · rw [if_pos h1] at hr ⊢
       by_cases h2 : M.left = 0
       · rw [if_pos h2,if_pos h1,if_pos h2]
       · rw [if_neg h2] at hr; exact absurd rfl hr
     · rw [if_neg h1,if_neg h1]
   refine (xU9 s a d.length cap p cnt bF bD M DF DD dn G w hd hr).mono ?_
   rintro e w' ⟨rfl,hb⟩
   refine ⟨_,_,hcard,by rw [e0],?_,Fr.of_below hb⟩
   rw [zY6 (by rw [e0]; exact hr)]
   exact ⟨(hS.below hb).more (by omega),hM⟩
theorem xB8 (s s2:ByteArray) (p cnt:Nat) (M:Md) (F:Nat->Prop) (w:World) (h:Dsk w p M cnt F) (hc:cnt + 1<=2199023255552) : Calls Tryz.prog 69 #[.pointer (some ⟨p,0,none⟩),.string s,.string s2] w fun e w'=>∃ F',e = .returned (.int .i64 (rnE s.data.toList s2.data.toList M))/\Dsk w' p (mv (rnE s.data.toList s2.data.toList M) (yN5 M (.rn s.data.toList s2.data.toList) 1) M) (cnt + 1) F'/\Fr w w' F F':=by
 obtain ⟨hS,hM⟩:=h
 obtain ⟨bF,bD,DF,DD,dn,G,hd,rfl⟩:=id hS
 by_cases hr : refE [s,s2] M.left = 0
 · have hz:=zF7 hr
   have hn:=zL5 hz.1
   by_cases hy : (M.files s.data.toList).isSome = true
   · have e0 : rnE s.data.toList s2.data.toList M = 0:=by unfold rnE; rw [if_pos hn,if_neg hz.2,if_pos hy]
     refine (xB9 s s2 p cnt bF bD M DF DD dn G w hd hr hy (by omega)).mono ?_
     rintro e w' ⟨rfl,DF',dn',G',g1,g2⟩
     refine ⟨_,by rw [e0],?_,g2⟩
     rw [e0,mv_0]
     exact ⟨⟨_,_,_,_,_,_,g1,rfl⟩,hM.step (by omega) ⟨(hM.files.1.fup (by simp)).fup (hM.files.1 s.data.toList),(hM.files.2.fup (fun e=>by cases e)).fup (fun _=>hn.2)⟩⟩
   · have e0 : rnE s.data.toList s2.data.toList M = 12:=by unfold rnE; rw [if_pos hn,if_neg hz.2,if_neg hy]
     refine (yO2 s s2 p cnt bF bD M DF DD dn G w hd hr (by simpa using hy)).mono ?_
     rintro e w' ⟨rfl,hb⟩
     refine ⟨_,by rw [e0],?_,Fr.of_below hb⟩
     rw [zY6 (by rw [e0]; decide)]
     exact ⟨(hS.below hb).more (by omega),hM⟩
 · have e0 : rnE s.data.toList s2.data.toList M = refE [s,s2] M.left:=by
     rw [kG9] at hr ⊢
     unfold rnE
     by_cases h1 : zE6 s.data.toList = true/\zE6 s2.data.toList = true
     · rw [if_pos h1] at hr ⊢
       by_cases h2 : M.left = 0
       · rw [if_pos h2,if_pos h1,if_pos h2]
       · rw [if_neg h2] at hr; exact absurd rfl hr
     · rw [if_neg h1,if_neg h1]
   refine (yW8 s s2 p cnt bF bD M DF DD dn G w hd hr).mono ?_
   rintro e w' ⟨rfl,hb⟩
   refine ⟨_,by rw [e0],?_,Fr.of_below hb⟩
   rw [zY6 (by rw [e0]; exact hr)]
   exact ⟨(hS.below hb).more (by omega),hM⟩
theorem xT4 (p cnt:Nat) (M:Md) (F:Nat->Prop) (w:World) (h:Dsk w p M cnt F) (hc:cnt<=2199023255552) : Calls Tryz.prog 11 #[.pointer (some ⟨p,0,none⟩)] w fun e w'=>∃ F',e = .returned (.int .i64 (syE M))/\Dsk w' p (mv (syE M) (xT6 M) M) cnt F'/\Fr w w' F F':=by
 obtain ⟨hS,hM⟩:=h
 obtain ⟨bF,bD,DF,DD,dn,G,hd,rfl⟩:=id hS
 by_cases hl : M.left = 0
 · have e0 : syE M = 11:=if_pos hl
   refine (xI5 p cnt bF bD M DF DD dn G w hd hl).mono ?_
   rintro e w' ⟨rfl,rfl⟩
   refine ⟨_,by rw [e0],?_,Fr.refl _ _⟩
   rw [zY6 (by rw [e0]; decide)]
   exact ⟨hS,hM⟩
 · have e0 : syE M = 0:=if_neg hl
   refine (xT5 p cnt bF bD M DF DD dn G w hd hl hM.un hM.bd hc).mono ?_
   rintro e w' ⟨rfl,DD',g1,g2⟩
   refine ⟨_,by rw [e0],?_,g2⟩
   rw [e0,mv_0]
   exact ⟨⟨_,_,_,_,_,_,g1,rfl⟩,hM.sync⟩
theorem zV9 (pick:Int) (p cnt:Nat) (M:Md) (F:Nat->Prop) (w:World) (h:Dsk w p M cnt F) (hc:cnt<=2199023255552) : Calls Tryz.prog 16 #[.pointer (some ⟨p,0,none⟩),.int .i64 pick] w fun e w'=>∃ F',e = .returned (.tuple #[])/\Dsk w' p (zI6 pick M) cnt F'/\Fr w w' F F':=by
 obtain ⟨hS,hM⟩:=h
 obtain ⟨bF,bD,DF,DD,dn,G,hd,rfl⟩:=id hS
 refine (xG5 pick p cnt bF bD M DF DD dn G w hd hM.un hM.bd hc).mono ?_
 rintro e w' ⟨rfl,bN,DN,DD',g1,g2⟩
 exact ⟨_,rfl,⟨⟨_,_,_,_,_,_,g1,rfl⟩,hM.crash pick⟩,g2⟩
theorem kE9 (n:Int) (p cnt:Nat) (M:Md) (F:Nat->Prop) (w:World) (h:Dsk w p M cnt F) (hn:0<=n/\n<=1099511627776) : Calls Tryz.prog 21 #[.pointer (some ⟨p,0,none⟩),.int .i64 n] w fun e w'=>e = .returned (.int .i64 0)/\Dsk w' p ⟨M.files,M.dur,M.done,n⟩ cnt F/\Fr w w' F F:=by
 obtain ⟨hS,hM⟩:=h
 obtain ⟨bF,bD,DF,DD,dn,G,hd,rfl⟩:=id hS
 refine (kF0 p bF bD dn M.left n w hd.blk hn.1 hn.2).mono ?_
 rintro e w' ⟨rfl,rfl⟩
 exact ⟨rfl,⟨⟨_,_,_,_,_,_,hd.setLeft n (by omega),rfl⟩,hM.left n⟩,Fr.setp _ _ _ _ _ _ _ _ _ _⟩
theorem xQ0 (w:World) : Calls Tryz.prog 9 #[] w fun e w'=>∃ F,e = .returned (.pointer (some ⟨w.heap.size + 1 + 1,0,none⟩))/\Dsk w' (w.heap.size + 1 + 1) M0 0 F/\(∀ k,F k->w.heap.size<=k)/\Below w.heap.size w w':=by
 refine (xV5 w).mono ?_
 rintro e w' ⟨rfl,rfl⟩
 exact ⟨_,rfl,⟨⟨_,_,_,_,_,_,newR w,rfl⟩,okM0⟩,xL7 w,((zB5 w _).alloc (by simp) _).alloc (by simp; omega) _⟩
end
end Go.Proofs.YtocoimjhglackaaGreat
