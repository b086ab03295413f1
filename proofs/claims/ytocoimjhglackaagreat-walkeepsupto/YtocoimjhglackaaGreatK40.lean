/- Wjd -/
import Derived.Test.YtocoimjhglackaaGreatK32
import Derived.Test.YtocoimjhglackaaGreatK39
set_option maxHeartbeats 8000000
set_option maxRecDepth 100000
namespace Go.Proofs.YtocoimjhglackaaGreat
section
open Go.RowKit Go.Maps
theorem yW6 (tmps:Array Value) (W:World) (g:Nat) (cs:Array Value) (y:Int) (hs:cs.size = 8) (h6:tmps[8]?.getD undef = .pointer (some ⟨g,0,none⟩)) (h7:tmps[9]?.getD undef = .int .i64 y) (hg:W.heap[g]? = some (.cells cs 39 (0,0))) : (results Tryz.f48 tmps).run Tryz.prog W = .ok (.tuple #[.agg cs,.int .i64 y]) W:=by
 have hl:=run_loadVar_row (P:=Tryz.prog) W g 39 39 cs (0,0) _ hg Tryz.underlying39 rfl (by rw [hs]; exact zC1)
 simp [results,Tryz.results48,asAddr,h6,h7,hl]
def RtP (S:Nat->Prop) (w:World) (m:Sd) (t v:Int) (x:Sn) (all:Bool) (e:Ending) (w':World) : Prop:=∃ cs' y s',e = .returned (.tuple #[.agg cs'.toArray,.int .i64 y])/\Rep w' (Un S w.heap.size w') zB6 cs' (dec s')/\Below w.heap.size w w'/\((accT m t v x/\y = 0/\s' = nxT m t v x all)\/(¬ accT m t v x/\y = 1/\s' = m))
def stay (m:Sd) (i:Int) (all:Bool) (k:Nat) : List En:=if all = true then [] else ((m.bs.map dE).take k).drop (i - m.base).toNat
theorem xI9 {m:Sd} {i:Int} {all:Bool} {k:Nat} (hk:k<=m.bs.length) : (stay m i all k).length<=k:=by
 unfold stay
 split
 · exact Nat.zero_le _
 · rw [List.length_drop,List.length_take,List.length_map]; omega
theorem yI1 {m:Sd} {i:Int} {all:Bool} {k:Nat} (hk:k < m.bs.length) (h:all = true\/m.base + 1 + k<=i) : stay m i all (k + 1) = stay m i all k:=by
 unfold stay
 rcases h with h | h
 · rw [if_pos h,if_pos h]
 · split
   · rfl
   · rw [List.drop_eq_nil_of_le (by rw [List.length_take,List.length_map]; omega),List.drop_eq_nil_of_le (by rw [List.length_take,List.length_map]; omega)]
theorem xA7 {m:Sd} {i:Int} {k:Nat} (hk:k < (m.bs.map dE).length) (h:i < m.base + 1 + k) : stay m i false (k + 1) = stay m i false k ++ [(m.bs.map dE)[k]]:=by
 unfold stay
 rw [if_neg (by decide),if_neg (by decide),List.take_succ_eq_append_getElem hk,List.drop_append_of_le_length (by rw [List.length_take]; omega)]
theorem xJ0 {m:Sd} {t v:Int} {x:Sn} {all:Bool} : stay m (sI x) all m.bs.length = (nxT m t v x all).bs.map dE:=by
 unfold stay nxT
 cases all with
 | true=>rfl
 | false =>
  show ((m.bs.map dE).take m.bs.length).drop _ = (m.bs.drop _).map dE
  rw [List.take_of_length_le (by simp),List.map_drop]
theorem xX7 {m:Sd} {t v:Int} {x:Sn} {all:Bool} (h:(en zA2 x).2 = false) : dec (nxT m t v x all) = ((t,v),x,stay m (sI x) all m.bs.length):=by
 rw [xJ0 (t:=t) (v:=v)]
 unfold dec
 have e : snV (nxT m t v x all) = x:=by show dS _ = x; exact (yU1 h).2
 rw [e]; rfl
theorem yO4 (S:Nat->Prop) (cs:List Value) (m:Sd) (t v:Int) (xs:List Value) (x:Sn) (all:Bool) (w:World) (hr:Rep w S zB6 cs (dec m)) (hS:∀ k,S k->k < w.heap.size) (hrx:Rep w S zA2 xs x) (hok:Okd m) (hml:m.bs.length<=2097152) (hz:szb zA2 x<=137438953472) :
    Calls Tryz.prog 48 #[.agg cs.toArray,.agg #[.int .i64 t,.int .i64 v],.agg xs.toArray,.bool all] w (RtP S w m t v x all):=by
 have HR:=zA0 hr
 have HRX:=zA0 hrx
 obtain ⟨av0,nv0,cv0,al0,nl0,cl0,ad0,nd0,cd0,ea,ec,rfl,hsn0,hrle⟩:=zG1 hr
 obtain ⟨av,cv,al,cl,ad,cd,rfl,_,_,_,_⟩:=zH1 hrx
 have hml2 : (m.bs.map dE).length = m.bs.length:=by simp
 have hbI:=hok.snI
 simp only [dec] at *
 rw [hml2] at HR ⊢
 rw [hbI] at HR ⊢
 obtain ⟨len,hlen⟩ : ∃ x,x = m.bs.length:=⟨_,rfl⟩
 rw [<- hlen] at hml HR ⊢
 have HLEN:=zA0 hlen
 generalize (snV m).2.1 = bt0 at HR ⊢
 have hI : sI x = x.1:=rfl
 obtain ⟨I,hIe⟩ : ∃ I,I = sI x:=⟨_,rfl⟩
 rw [<- hI,<- hIe] at HRX ⊢
 have HI:=zA0 hIe
 clear hI hIe
 generalize x.2.1 = xt at HRX ⊢
 generalize x.2.2.1.1.length = nv at HRX ⊢
 generalize x.2.2.1.2.length = nl at HRX ⊢
 generalize x.2.2.2.length = nd at HRX ⊢
 have HS:=zA0 hS
 have HRLE:=zA0 hrle
 have HOK:=zA0 hok
 have HZ:=zA0 hz
 have HML2:=zA0 hml2
 have hb0:=hok.base.1
 have hb1:=hok.base.2
 clear hr hrx hS hsn0 hrle hok hz hbI hml2 hlen
 obtain ⟨w1,hw1⟩ : ∃ w1,w1 = (((w.alloc (.cells #[.int .i64 m.t,.int .i64 m.v,.int .i64 m.base,.int .i64 bt0,.slice av0 nv0 cv0,.slice al0 nl0 cl0,.slice ad0 nd0 cd0,.slice ea len ec] 39)).alloc (.cells #[.int .i64 t,.int .i64 v] 31)).alloc (.cells #[.int .i64 I,.int .i64 xt,.slice av nv cv,.slice al nl cl,.slice ad nd cd] 36)).alloc (.cells Z39 39):=⟨_,rfl⟩
 have HB1 : Hid (Below w.heap.size w w1):=zA0 (by rw [hw1]; exact (((zB5 w _).alloc (by simp) _).alloc (by simp <;> omega) _).alloc (by simp <;> omega) _)
 have HS1 : Hid (w1.heap.size = w.heap.size + 4):=zA0 (by rw [hw1]; simp)
 have G41 : Hid (w1.heap[w.heap.size]? = some (.cells #[.int .i64 m.t,.int .i64 m.v,.int .i64 m.base,.int .i64 bt0,.slice av0 nv0 cv0,.slice al0 nl0 cl0,.slice ad0 nd0 cd0,.slice ea len ec] 39 (0,0))):=zA0 (by rw [hw1]; exact (Below.heap_alloc _ _ _ (by simp <;> omega)).trans ((Below.heap_alloc _ _ _ (by simp <;> omega)).trans ((Below.heap_alloc _ _ _ (by simp)).trans (heap_alloc_new w _))))
 have G51 : Hid (w1.heap[w.heap.size + 1]? = some (.cells #[.int .i64 t,.int .i64 v] 31 (0,0))):=zA0 (by
  rw [hw1]
  refine (Below.heap_alloc _ _ _ (by simp <;> omega)).trans ((Below.heap_alloc _ _ _ (by simp)).trans ?_)
  have:=heap_alloc_new (w.alloc (.cells #[.int .i64 m.t,.int .i64 m.v,.int .i64 m.base,.int .i64 bt0,.slice av0 nv0 cv0,.slice al0 nl0 cl0,.slice ad0 nd0 cd0,.slice ea len ec] 39)) (.cells #[.int .i64 t,.int .i64 v] 31)
  rwa [World.size_alloc] at this)
 have G61 : Hid (w1.heap[w.heap.size + 2]? = some (.cells #[.int .i64 I,.int .i64 xt,.slice av nv cv,.slice al nl cl,.slice ad nd cd] 36 (0,0))):=zA0 (by
  rw [hw1]
  refine (Below.heap_alloc _ _ _ (by simp)).trans ?_
  have:=heap_alloc_new ((w.alloc (.cells #[.int .i64 m.t,.int .i64 m.v,.int .i64 m.base,.int .i64 bt0,.slice av0 nv0 cv0,.slice al0 nl0 cl0,.slice ad0 nd0 cd0,.slice ea len ec] 39)).alloc (.cells #[.int .i64 t,.int .i64 v] 31)) (.cells #[.int .i64 I,.int .i64 xt,.slice av nv cv,.slice al nl cl,.slice ad nd cd] 36)
  rwa [World.size_alloc,World.size_alloc] at this)
 have G81 : Hid (w1.heap[w.heap.size + 3]? = some (.cells Z39 39 (0,0))):=zA0 (by
  rw [hw1]
  have:=heap_alloc_new (((w.alloc (.cells #[.int .i64 m.t,.int .i64 m.v,.int .i64 m.base,.int .i64 bt0,.slice av0 nv0 cv0,.slice al0 nl0 cl0,.slice ad0 nd0 cd0,.slice ea len ec] 39)).alloc (.cells #[.int .i64 t,.int .i64 v] 31)).alloc (.cells #[.int .i64 I,.int .i64 xt,.slice av nv cv,.slice al nl cl,.slice ad nd cd] 36)) (.cells Z39 39)
  rwa [World.size_alloc,World.size_alloc,World.size_alloc] at this)
 have CF : Hid (∀ W : World,W.heap[w.heap.size]? = some (.cells #[.int .i64 m.t,.int .i64 m.v,.int .i64 m.base,.int .i64 bt0,.slice av0 nv0 cv0,.slice al0 nl0 cl0,.slice ad0 nd0 cd0,.slice ea len ec] 39 (0,0))->W.heap[w.heap.size + 1]? = some (.cells #[.int .i64 t,.int .i64 v] 31 (0,0))->W.heap[w.heap.size + 2]? = some (.cells #[.int .i64 I,.int .i64 xt,.slice av nv cv,.slice al nl cl,.slice ad nd cd] 36 (0,0))->(W.cell? ⟨w.heap.size,2,none⟩ = some (.int .i64 m.base)/\W.cell? ⟨w.heap.size,7,none⟩ = some (.slice ea len ec))/\(W.cell? ⟨w.heap.size + 1,0,none⟩ = some (.int .i64 t)/\W.cell? ⟨w.heap.size + 1,1,none⟩ = some (.int .i64 v))/\W.cell? ⟨w.heap.size + 2,0,none⟩ = some (.int .i64 I)/\W.cell? ⟨w.heap.size + 2,1,none⟩ = some (.int .i64 xt)/\W.cell? ⟨w.heap.size + 2,2,none⟩ = some (.slice av nv cv)/\W.cell? ⟨w.heap.size + 2,3,none⟩ = some (.slice al nl cl)/\W.cell? ⟨w.heap.size + 2,4,none⟩ = some (.slice ad nd cd)):=zA0 (fun W g1 g2 g3=>by
  refine ⟨⟨?_,?_⟩,⟨?_,?_⟩,?_,?_,?_,?_,?_⟩ <;> first | (rw [cell_of_row _ _ _ _ 39 (0,0) g1]; rfl) | (rw [cell_of_row _ _ _ _ 31 (0,0) g2]; rfl) | (rw [cell_of_row _ _ _ _ 36 (0,0) g3]; rfl))
 have HFAIL : Hid (∀ (wb:World),Below w.heap.size w wb->¬ accT m t v x->RtP S w m t v x all (.returned (.tuple #[.agg #[.int .i64 m.t,.int .i64 m.v,.int .i64 m.base,.int .i64 bt0,.slice av0 nv0 cv0,.slice al0 nl0 cl0,.slice ad0 nd0 cd0,.slice ea len ec],.int .i64 1])) wb):=zA0 (fun wb hB hna=>⟨(#[.int .i64 m.t,.int .i64 m.v,.int .i64 m.base,.int .i64 bt0,.slice av0 nv0 cv0,.slice al0 nl0 cl0,.slice ad0 nd0 cd0,.slice ea len ec] : Array Value).toList,1,m,rfl,HR.out.kept hB.size (fun k hk=>hB.block k (HS.out k hk)) (fun k hk=>.inl hk),hB,.inr ⟨hna,rfl,rfl⟩⟩)
 obtain ⟨⟨c2,c7⟩,⟨t0,t1⟩,x0,x1,x2,x3,x4⟩:=CF.out w1 G41.out G51.out G61.out
 have l4:=zA1 G41.out
 have l5:=zA1 G51.out
 have l6:=zA1 G61.out
 go_enter Tryz.func48,Tryz.ntmps48
 go_upto_region 1 with (fail)
 have hw1z:=hw1
 unfold Z39 at hw1z
 rw [<- hw1z]
 clear hw1 hw1z
 go_wp2_with fail
 refine (zY0 t v _).mono ?_
 rintro e w2 ⟨hB2,val,hv1,hv2,rfl⟩
 have HB02:=zA0 (HB1.out.trans (hB2.mono HB1.out.size))
 have G42:=zA0 ((hB2.block _ (zA1 G41.out)).trans G41.out)
 have G52:=zA0 ((hB2.block _ (zA1 G51.out)).trans G51.out)
 have G62:=zA0 ((hB2.block _ (zA1 G61.out)).trans G61.out)
 have G82:=zA0 ((hB2.block _ (zA1 G81.out)).trans G81.out)
 have HS2 : Hid (w.heap.size + 4<=w2.heap.size):=zA0 (by have:=hB2.size; have:=HS1.out; omega)
 clear hB2 hv1 hv2 c2 c7 t0 t1 x0 x1 x2 x3 x4 l4 l5 l6
 obtain ⟨⟨c2,c7⟩,⟨t0,t1⟩,x0,x1,x2,x3,x4⟩:=CF.out w2 G42.out G52.out G62.out
 have l4:=zA1 G42.out
 have l5:=zA1 G52.out
 have l6:=zA1 G62.out
 have HPS:=zA0 (zR6 [.int .i64 I,.int .i64 xt,.slice av nv cv,.slice al nl cl,.slice ad nd cd] x w2 HZ.out (HRX.out.kept HB02.out.size (fun k hk=>HB02.out.block k (HS.out k hk)) (fun k hk=>Nat.lt_of_lt_of_le (HS.out k hk) HB02.out.size)))
 obtain ⟨hb,hhb⟩ : ∃ hb,hb = decide (okN t/\okN v):=⟨_,rfl⟩
 rw [<- hhb]
 have HHB:=zA0 hhb
 clear hhb
 go_wp2_with fail
 refine Calls.mono HPS.out ?_
 rintro e w3 ⟨z3,rfl,ho3,_,hB3⟩
 obtain ⟨za3,zc3,hz3,_⟩:=ho3.form
 subst hz3
 generalize (zD6 (en zA2 x)).length = bn3
 have HB03:=zA0 (HB02.out.trans (hB3.mono HB02.out.size))
 have G43:=zA0 ((hB3.block _ (zA1 G42.out)).trans G42.out)
 have G53:=zA0 ((hB3.block _ (zA1 G52.out)).trans G52.out)
 have G63:=zA0 ((hB3.block _ (zA1 G62.out)).trans G62.out)
 have G83:=zA0 ((hB3.block _ (zA1 G82.out)).trans G82.out)
 have HS3 : Hid (w.heap.size + 4<=w3.heap.size):=zA0 (Nat.le_trans HS2.out hB3.size)
 clear ho3 hB3 c2 c7 t0 t1 x0 x1 x2 x3 x4 l4 l5 l6 HPS G42 G52 G62 G82
 obtain ⟨⟨c2,c7⟩,⟨t0,t1⟩,x0,x1,x2,x3,x4⟩:=CF.out w3 G43.out G53.out G63.out
 have l4:=zA1 G43.out
 have l5:=zA1 G53.out
 have l6:=zA1 G63.out
 obtain ⟨co,hco⟩ : ∃ co,co = zK5 (en zA2 x).2:=⟨_,rfl⟩
 rw [<- hco]
 have HCO:=zA0 hco
 clear hco
 cases hbq : hb with
 | false =>
  have HNA : Hid (¬ accT m t v x):=zA0 (fun h=>by have h1:=HHB.out; rw [hbq] at h1; exact of_decide_eq_false h1.symm h.2.1)
  subst hbq
  go_wp2_with (first
   | (refine wpList_load_row rfl 39 (.tmp 4) rfl w.heap.size rfl 39 #[.int .i64 m.t,.int .i64 m.v,.int .i64 m.base,.int .i64 bt0,.slice av0 nv0 cv0,.slice al0 nl0 cl0,.slice ad0 nd0 cd0,.slice ea len ec] (0,0) _ G43.out Tryz.underlying39 rfl zC1 ?_)
   | (refine zA5 rfl 39 (.tmp 8) (.tmp 50) rfl (w.heap.size + 3) #[.int .i64 m.t,.int .i64 m.v,.int .i64 m.base,.int .i64 bt0,.slice av0 nv0 cv0,.slice al0 nl0 cl0,.slice ad0 nd0 cd0,.slice ea len ec] rfl rfl 39 Z39 G83.out zC1 rfl (by simp [Value.oneCell']) ?nz))
  case nz =>
   intro w9 hw9h
   have G9 : Hid (w9.heap[w.heap.size + 3]? = some (.cells #[.int .i64 m.t,.int .i64 m.v,.int .i64 m.base,.int .i64 bt0,.slice av0 nv0 cv0,.slice al0 nl0 cl0,.slice ad0 nd0 cd0,.slice ea len ec] 39 (0,0))):=zA0 (by rw [hw9h.out]; exact setRow_heap _ _ _ _ 39 _ G83.out)
   have HB9 : Hid (Below w.heap.size w w9):=zA0 (HB03.out.trans (by rw [hw9h.out]; exact ⟨rfl,rfl,rfl,by simp [World.setRow],fun k hk=>setRow_other _ _ _ _ (by omega)⟩))
   clear hw9h
   go_wp2
   refine bodyPost_ret (v:=.tuple #[.agg #[.int .i64 m.t,.int .i64 m.v,.int .i64 m.base,.int .i64 bt0,.slice av0 nv0 cv0,.slice al0 nl0 cl0,.slice ad0 nd0 cd0,.slice ea len ec],.int .i64 1]) ?_ rfl (HFAIL.out _ HB9.out HNA.out)
   exact yW6 _ _ (w.heap.size + 3) _ _ rfl rfl rfl G9.out
 | true =>
  have HH : Hid (okN t/\okN v):=zA0 (by have h1:=HHB.out; rw [hbq] at h1; exact of_decide_eq_true h1.symm)
  subst hbq
  have hco1 : co = 1\/co = 0:=by rw [HCO.out]; unfold zK5; split; exact .inl rfl; exact .inr rfl
  rcases hco1 with hc1 | hc1
  · have HNA : Hid (¬ accT m t v x):=zA0 (fun h=>by have:=h.1; have h2:=HCO.out; rw [this,hc1] at h2; exact absurd h2 (by decide))
    subst hc1
    go_wp2_with (first
     | (refine wpList_load_row rfl 39 (.tmp 4) rfl w.heap.size rfl 39 #[.int .i64 m.t,.int .i64 m.v,.int .i64 m.base,.int .i64 bt0,.slice av0 nv0 cv0,.slice al0 nl0 cl0,.slice ad0 nd0 cd0,.slice ea len ec] (0,0) _ G43.out Tryz.underlying39 rfl zC1 ?_)
     | (refine zA5 rfl 39 (.tmp 8) (.tmp 50) rfl (w.heap.size + 3) #[.int .i64 m.t,.int .i64 m.v,.int .i64 m.base,.int .i64 bt0,.slice av0 nv0 cv0,.slice al0 nl0 cl0,.slice ad0 nd0 cd0,.slice ea len ec] rfl rfl 39 Z39 G83.out zC1 rfl (by simp [Value.oneCell']) ?nz))
    case nz =>
     intro w9 hw9h
     have G9 : Hid (w9.heap[w.heap.size + 3]? = some (.cells #[.int .i64 m.t,.int .i64 m.v,.int .i64 m.base,.int .i64 bt0,.slice av0 nv0 cv0,.slice al0 nl0 cl0,.slice ad0 nd0 cd0,.slice ea len ec] 39 (0,0))):=zA0 (by rw [hw9h.out]; exact setRow_heap _ _ _ _ 39 _ G83.out)
     have HB9 : Hid (Below w.heap.size w w9):=zA0 (HB03.out.trans (by rw [hw9h.out]; exact ⟨rfl,rfl,rfl,by simp [World.setRow],fun k hk=>setRow_other _ _ _ _ (by omega)⟩))
     clear hw9h
     go_wp2
     refine bodyPost_ret (v:=.tuple #[.agg #[.int .i64 m.t,.int .i64 m.v,.int .i64 m.base,.int .i64 bt0,.slice av0 nv0 cv0,.slice al0 nl0 cl0,.slice ad0 nd0 cd0,.slice ea len ec],.int .i64 1]) ?_ rfl (HFAIL.out _ HB9.out HNA.out)
     exact yW6 _ _ (w.heap.size + 3) _ _ rfl rfl rfl G9.out
  · have hgood : (en zA2 x).2 = false:=by
      have h2:=HCO.out
      cases hq : (en zA2 x).2 with
      | false=>rfl
      | true=>rw [hq,hc1] at h2; exact absurd h2 (by decide)
    have HGOOD:=zA0 hgood
    have hIle : I<=1099511627776:=by rw [HI.out]; exact xJ5 hgood
    subst hc1
    clear hgood
    by_cases h1 : I < 1
    · have HNA : Hid (¬ accT m t v x):=zA0 (fun h=>by have:=h.2.2.1; have:=HI.out; omega)
      go_wp2_with (first
       | (refine wpList_load_row rfl 39 (.tmp 4) rfl w.heap.size rfl 39 #[.int .i64 m.t,.int .i64 m.v,.int .i64 m.base,.int .i64 bt0,.slice av0 nv0 cv0,.slice al0 nl0 cl0,.slice ad0 nd0 cd0,.slice ea len ec] (0,0) _ G43.out Tryz.underlying39 rfl zC1 ?_)
       | (refine zA5 rfl 39 (.tmp 8) (.tmp 50) rfl (w.heap.size + 3) #[.int .i64 m.t,.int .i64 m.v,.int .i64 m.base,.int .i64 bt0,.slice av0 nv0 cv0,.slice al0 nl0 cl0,.slice ad0 nd0 cd0,.slice ea len ec] rfl rfl 39 Z39 G83.out zC1 rfl (by simp [Value.oneCell']) ?nz))
      case nz =>
       intro w9 hw9h
       have G9 : Hid (w9.heap[w.heap.size + 3]? = some (.cells #[.int .i64 m.t,.int .i64 m.v,.int .i64 m.base,.int .i64 bt0,.slice av0 nv0 cv0,.slice al0 nl0 cl0,.slice ad0 nd0 cd0,.slice ea len ec] 39 (0,0))):=zA0 (by rw [hw9h.out]; exact setRow_heap _ _ _ _ 39 _ G83.out)
       have HB9 : Hid (Below w.heap.size w w9):=zA0 (HB03.out.trans (by rw [hw9h.out]; exact ⟨rfl,rfl,rfl,by simp [World.setRow],fun k hk=>setRow_other _ _ _ _ (by omega)⟩))
       clear hw9h
       go_wp2
       refine bodyPost_ret (v:=.tuple #[.agg #[.int .i64 m.t,.int .i64 m.v,.int .i64 m.base,.int .i64 bt0,.slice av0 nv0 cv0,.slice al0 nl0 cl0,.slice ad0 nd0 cd0,.slice ea len ec],.int .i64 1]) ?_ rfl (HFAIL.out _ HB9.out HNA.out)
       exact yW6 _ _ (w.heap.size + 3) _ _ rfl rfl rfl G9.out
    · by_cases h2 : I < m.base
      · have HNA : Hid (¬ accT m t v x):=zA0 (fun h=>by have:=h.2.2.2; have:=HI.out; omega)
        go_wp2_with (first
         | (refine wpList_load_row rfl 39 (.tmp 4) rfl w.heap.size rfl 39 #[.int .i64 m.t,.int .i64 m.v,.int .i64 m.base,.int .i64 bt0,.slice av0 nv0 cv0,.slice al0 nl0 cl0,.slice ad0 nd0 cd0,.slice ea len ec] (0,0) _ G43.out Tryz.underlying39 rfl zC1 ?_)
         | (refine zA5 rfl 39 (.tmp 8) (.tmp 50) rfl (w.heap.size + 3) #[.int .i64 m.t,.int .i64 m.v,.int .i64 m.base,.int .i64 bt0,.slice av0 nv0 cv0,.slice al0 nl0 cl0,.slice ad0 nd0 cd0,.slice ea len ec] rfl rfl 39 Z39 G83.out zC1 rfl (by simp [Value.oneCell']) ?nz))
        case nz =>
         intro w9 hw9h
         have G9 : Hid (w9.heap[w.heap.size + 3]? = some (.cells #[.int .i64 m.t,.int .i64 m.v,.int .i64 m.base,.int .i64 bt0,.slice av0 nv0 cv0,.slice al0 nl0 cl0,.slice ad0 nd0 cd0,.slice ea len ec] 39 (0,0))):=zA0 (by rw [hw9h.out]; exact setRow_heap _ _ _ _ 39 _ G83.out)
         have HB9 : Hid (Below w.heap.size w w9):=zA0 (HB03.out.trans (by rw [hw9h.out]; exact ⟨rfl,rfl,rfl,by simp [World.setRow],fun k hk=>setRow_other _ _ _ _ (by omega)⟩))
         clear hw9h
         go_wp2
         refine bodyPost_ret (v:=.tuple #[.agg #[.int .i64 m.t,.int .i64 m.v,.int .i64 m.base,.int .i64 bt0,.slice av0 nv0 cv0,.slice al0 nl0 cl0,.slice ad0 nd0 cd0,.slice ea len ec],.int .i64 1]) ?_ rfl (HFAIL.out _ HB9.out HNA.out)
         exact yW6 _ _ (w.heap.size + 3) _ _ rfl rfl rfl G9.out
      · have HACC : Hid (accT m t v x):=zA0 ⟨HGOOD.out,HH.out,by have:=HI.out; omega,by have:=HI.out; omega⟩
        obtain ⟨b14,hb14⟩ : ∃ b14,b14 = w3.heap.size:=⟨_,rfl⟩
        obtain ⟨w4,hw4⟩ : ∃ w4,w4 = w3.alloc (.cells #[.int .i64 t,.int .i64 v,.int .i64 I,.int .i64 xt,.slice av nv cv,.slice al nl cl,.slice ad nd cd,.slice none 0 0] 39):=⟨_,rfl⟩
        go_upto_region 6 with (fail)
        rw [<- hb14,<- hw4]
        have hB34 : Below w3.heap.size w3 w4:=by rw [hw4]; exact zB5 w3 _
        have HBW4:=zA0 (HB03.out.trans (hB34.mono HB03.out.size))
        have G144 : Hid (w4.heap[b14]? = some (.cells #[.int .i64 t,.int .i64 v,.int .i64 I,.int .i64 xt,.slice av nv cv,.slice al nl cl,.slice ad nd cd,.slice none 0 0] 39 (0,0))):=zA0 (by rw [hw4,hb14]; exact heap_alloc_new w3 _)
        have G44:=zA0 ((hB34.block _ (zA1 G43.out)).trans G43.out)
        have G54:=zA0 ((hB34.block _ (zA1 G53.out)).trans G53.out)
        have G64:=zA0 ((hB34.block _ (zA1 G63.out)).trans G63.out)
        have G84:=zA0 ((hB34.block _ (zA1 G83.out)).trans G83.out)
        have HB14 : Hid (w.heap.size + 4<=b14):=zA0 (by rw [hb14]; exact HS3.out)
        have HS4 : Hid (w4.heap.size = b14 + 1):=zA0 (by rw [hw4,hb14]; simp)
        clear hw4 hb14 hB34 c2 c7 t0 t1 x0 x1 x2 x3 x4 l4 l5 l6 G43 G53 G63 G83 HB03 HS3
        go_wp2
        go_loopw [15] (fun i wr=>∃ (k:Nat) (ga:Option Addr) (gn gc:Nat) (ess:List (List Value)),k<=len/\i = .int .i64 (k:Int)/\Hid (wr.heap[b14]? = some (.cells #[.int .i64 t,.int .i64 v,.int .i64 I,.int .i64 xt,.slice av nv cv,.slice al nl cl,.slice ad nd cd,.slice ga gn gc] 39 (0,0)))/\Hid (wr.ownsRow (b14 + 1) 73 29 (.slice ga gn gc) (stay m I all k).length ess.flatten)/\Hid (ElW w S ess (stay m I all k))/\Hid (Below (b14 + 1) w4 wr\/True)/\Hid (Below w.heap.size w wr)/\Hid (wr.heap[w.heap.size]? = some (.cells #[.int .i64 m.t,.int .i64 m.v,.int .i64 m.base,.int .i64 bt0,.slice av0 nv0 cv0,.slice al0 nl0 cl0,.slice ad0 nd0 cd0,.slice ea len ec] 39 (0,0)))/\Hid (wr.heap[w.heap.size + 1]? = some (.cells #[.int .i64 t,.int .i64 v] 31 (0,0)))/\Hid (wr.heap[w.heap.size + 2]? = some (.cells #[.int .i64 I,.int .i64 xt,.slice av nv cv,.slice al nl cl,.slice ad nd cd] 36 (0,0)))/\Hid (wr.heap[w.heap.size + 3]? = some (.cells Z39 39 (0,0)))/\Hid (b14 + 1<=wr.heap.size)) (fun i _=>len - (intOf i).toNat)
        case atStart =>
         have hst : stay m I all 0 = []:=by unfold stay; split <;> simp
         exact ⟨0,none,0,0,[],Nat.zero_le _,rfl,G144,zA0 (by rw [hst]; exact World.ownsRow_nil _ _ _ _),zA0 (by rw [hst]; exact ⟨rfl,fun i h1=>by simp at h1⟩),zA0 (.inr trivial),HBW4,G44,G54,G64,G84,zA0 (by rw [HS4.out]; exact Nat.le_refl _)⟩
        case round =>
         obtain ⟨k,ga,gn,gc,ess,hk,rfl,HG,HROW,HELM,_,HBR,G4,G5,G6,G8,HSZ⟩:=hrel
         obtain ⟨⟨c2,c7⟩,⟨t0,t1⟩,x0,x1,x2,x3,x4⟩:=CF.out wr G4.out G5.out G6.out
         have l4:=zA1 G4.out
         have l6:=zA1 G6.out
         have p7 : wr.cell? ⟨b14,7,none⟩ = some (.slice ga gn gc):=cor HG.out rfl
         have l14:=zA1 HG.out
         have hlk : (stay m I all k).length<=k:=xI9 (by have:=HLEN.out; omega)
         by_cases hlt : k < len
         · have hkl : k < (m.bs.map dE).length:=by rw [HML2.out,<- HLEN.out]; exact hlt
           obtain ⟨b1,o1,es,rfl,hsb,hre,hrg⟩:=Rep.load HRLE.out hkl
           obtain ⟨xe,hxe⟩ : ∃ xe,xe = (m.bs.map dE)[k]:=⟨_,rfl⟩
           rw [<- hxe] at hre
           obtain ⟨r,he,hel⟩:=zD3 hre
           have lb1 : b1 < w.heap.size:=HS.out b1 hsb
           have HRG : Hid (wr.rangeAt b1 (o1 + k * 29) es):=zA0 (zB1 hrg (HBR.out.block b1 lb1))
           have hx : wr.cell? ⟨b1,o1 + k * 29,none⟩ = some (.int .i64 (m.base + 1 + k)):=by
            have:=HRG.out 0 (.int .i64 (eI xe)) (by rw [he]; rfl)
            rw [hxe,HOK.out.idx hkl] at this
            simpa using this
           have HX:=zA0 hx
           have HRE:=zA0 hre
           have HIN:=zA0 (zF6 hel)
           have HEL:=zA0 hel
           have HKL:=zA0 hkl
           have HXE : Hid (xe = (m.bs.map dE)[k]'HKL.out):=zA0 hxe
           have HONE : Hid (∀ u ∈ es,u.oneCell' = true):=zA0 (fun u hu=>hre.one u hu)
           have LB1:=zA0 lb1
           have lbr : b1 < wr.heap.size:=Nat.lt_of_lt_of_le lb1 HBR.out.size
           have LBR:=zA0 lbr
           clear hre hrg he hel hsb lb1 hxe x1 x2 x3 x4 c2 t0 t1
           have C7:=zA0 c7
           have P7:=zA0 p7
           have X0:=zA0 x0
           clear hx p7 x0 hkl
           by_cases hgt : I < m.base + 1 + k
           · cases all with
             | false =>
              have hdg : decide (I < m.base + 1 + (k:Int)) = true:=decide_eq_true hgt
              have HST : Hid (stay m I false (k + 1) = stay m I false k ++ [xe]):=zA0 (by rw [HXE.out]; exact xA7 HKL.out hgt)
              go_wp2
              refine wp_region_held_drew (S:=fun wz : World=>wz.cell? ⟨w.heap.size,7,none⟩ = some (.slice (some ⟨b1,o1,none⟩) len ec)/\wz.cell? ⟨b1,o1 + k * 29,none⟩ = some (.int .i64 (m.base + 1 + k))/\wz.cell? ⟨w.heap.size + 2,0,none⟩ = some (.int .i64 I)) (by kernel_rfl) ⟨C7.out,HX.out,X0.out⟩ (fun hHeld=>?_)
              refine tkHp 0 rfl (.pointer (some ⟨w.heap.size,7,none⟩)) (by kernel_rfl) rfl (fun _ _ _=>id) hHeld (by intro w; go_simp) ?_
              try simp only [aPa,aPc,aPd]
              refine tkH 1 rfl (.slice (some ⟨b1,o1,none⟩) len ec) (by kernel_rfl) rfl (fun _ _ _=>id) hHeld (by intro wz hSw; obtain ⟨e1,e2,e3⟩:=hSw; clear e2 e3; go_simp) ?_
              try simp only [aPa,aPc,aPd]
              refine tkHp 2 rfl (.int .i64 (k:Int)) (by kernel_rfl) rfl (fun _ _ _=>id) hHeld (by intro w; go_simp) ?_
              try simp only [aPa,aPc,aPd]
              refine tkH 3 rfl (.pointer (some ⟨b1,o1 + k * 29,none⟩)) (by kernel_rfl) rfl (fun _ _ _=>id) hHeld (by intro wz hSw; clear hSw; go_simp; all_goals (first | done | (intro hh; exfalso; omega))) ?_
              try simp only [aPa,aPc,aPd]
              refine tkHp 4 rfl (.pointer (some ⟨b1,o1 + k * 29,none⟩)) (by kernel_rfl) rfl (fun _ _ _=>id) hHeld (by intro w; go_simp) ?_
              try simp only [aPa,aPc,aPd]
              refine tkH 5 rfl (.int .i64 (m.base + 1 + k)) (by kernel_rfl) rfl (fun _ _ _=>id) hHeld (by intro wz hSw; obtain ⟨e1,e2,e3⟩:=hSw; clear e1 e3; go_simp) ?_
              try simp only [aPa,aPc,aPd]
              refine tkHp 6 rfl (.pointer (some ⟨w.heap.size + 2,0,none⟩)) (by kernel_rfl) rfl (fun _ _ _=>id) hHeld (by intro w; go_simp) ?_
              try simp only [aPa,aPc,aPd]
              refine tkH 7 rfl (.int .i64 I) (by kernel_rfl) rfl (fun _ _ _=>id) hHeld (by intro wz hSw; obtain ⟨e1,e2,e3⟩:=hSw; clear e1 e2; go_simp) ?_
              try simp only [aPa,aPc,aPd]
              refine tkH 8 rfl (.bool true) (by kernel_rfl) rfl (fun _ _ _=>id) hHeld (by intro wz hSw; clear hSw; go_simp; all_goals (first | done | rw [hdg] | (simp; omega))) ?_
              try simp only [aPa,aPc,aPd]
              refine tkHp 9 rfl (.bool true) (by kernel_rfl) rfl (fun _ _ _=>id) hHeld (by intro w; go_simp) ?_
              try simp only [aPa,aPc,aPd]
              refine tkHp 10 rfl (.bool false) (by kernel_rfl) rfl (fun _ _ _=>id) hHeld (by intro w; go_simp) ?_
              try simp only [aPa,aPc,aPd]
              refine tkHp 11 rfl (.bool true) (by kernel_rfl) rfl (fun _ _ _=>id) hHeld (by intro w; go_simp) ?_
              try simp only [aPa,aPc,aPd]
              refine tkHp 12 rfl (.bool true) (by kernel_rfl) rfl (fun _ _ _=>id) hHeld (by intro w; go_simp) ?_
              try simp only [aPa,aPc,aPd]
              refine wpAnyH_done (by kernel_rfl) ?_ _
              have P7 : Hid (wr.drew.cell? ⟨b14,7,none⟩ = some (.slice ga gn gc)):=P7
              go_wp2
              refine zD8 (fun wz:World=>wz.cell? ⟨b14,7,none⟩ = some (.slice ga gn gc)/\wz.cell? ⟨w.heap.size,7,none⟩ = some (.slice (some ⟨b1,o1,none⟩) len ec)/\wz.rangeAt b1 (o1 + k * 29) es) 10 (by kernel_rfl) ?_
              have hHeld : (fun wz:World=>wz.cell? ⟨b14,7,none⟩ = some (.slice ga gn gc)/\wz.cell? ⟨w.heap.size,7,none⟩ = some (.slice (some ⟨b1,o1,none⟩) len ec)/\wz.rangeAt b1 (o1 + k * 29) es) _:=⟨P7.out,C7.out,HRG.out⟩
              refine tkLp 0 rfl (.pointer (some ⟨b14,7,none⟩)) (by kernel_rfl) rfl (fun _ _ _=>id) hHeld (by intro w; go_simp) ?_
              try simp only [aPa,aPc,aPd]
              refine tkL 1 rfl (.slice ga gn gc) (by kernel_rfl) rfl (fun _ _ _=>id) hHeld (by intro wz hSw; obtain ⟨e1,e2,e3⟩:=hSw; clear e2 e3; go_simp) ?_
              try simp only [aPa,aPc,aPd]
              refine tkLp 2 rfl (.pointer (some ⟨w.heap.size,7,none⟩)) (by kernel_rfl) rfl (fun _ _ _=>id) hHeld (by intro w; go_simp) ?_
              try simp only [aPa,aPc,aPd]
              refine tkL 3 rfl (.slice (some ⟨b1,o1,none⟩) len ec) (by kernel_rfl) rfl (fun _ _ _=>id) hHeld (by intro wz hSw; obtain ⟨e1,e2,e3⟩:=hSw; clear e1 e3; go_simp) ?_
              try simp only [aPa,aPc,aPd]
              refine tkLp 4 rfl (.int .i64 (k:Int)) (by kernel_rfl) rfl (fun _ _ _=>id) hHeld (by intro w; go_simp) ?_
              try simp only [aPa,aPc,aPd]
              refine tkL 5 rfl (.pointer (some ⟨b1,o1 + k * 29,none⟩)) (by kernel_rfl) rfl (fun _ _ _=>id) hHeld (by intro wz hSw; clear hSw; go_simp; all_goals (first | done | (intro hh; exfalso; omega))) ?_
              try simp only [aPa,aPc,aPd]
              refine tkLy 6 rfl (.agg es.toArray) (by kernel_rfl) (fun _ _ _=>id) hHeld (yieldsIf_load_mid (by rfl) 73 (.tmp 79) rfl b1 (o1 + k * 29) rfl es _ (fun _ h=>h.2.2) Tryz.underlying73 rfl HIN.out) ?_
              try simp only [aPa,aPc,aPd]
              refine tkLc 7 rfl (by kernel_rfl) rfl (fun K hK=>?_)
              refine yI8 _ (.tmp 80) rfl es HEL.out rfl ?_
              obtain ⟨w7,hw7⟩ : ∃ w7,w7 = wr.drew.drew.alloc (.cells es.toArray 73):=⟨_,rfl⟩
              have hz7 : wr.drew.drew.heap.size = wr.heap.size:=rfl
              have hB7 : Below wr.heap.size wr w7:=by rw [hw7]; exact (Below.refl _ wr).drew.drew.alloc (Nat.le_refl _) _
              have hs7 : w7.heap.size = wr.heap.size + 1:=by rw [hw7]; simp
              have HN7 : Hid (∀ j u,es[j]? = some u->w7.cell? ((⟨wr.heap.size,0,none⟩ : Addr).add j) = some u):=zA0 (fun j u hj=>by rw [hw7]; exact zG4 wr.drew.drew es.toArray 73 j u (by simpa using hj))
              have HROW7 : Hid (w7.ownsRow (b14 + 1) 73 29 (.slice ga gn gc) (stay m I false k).length ess.flatten):=zA0 (by rw [hw7]; exact (show wr.drew.drew.ownsRow _ _ _ _ _ _ from HROW.out).alloc _)
              have s7 : (fun wz:World=>wz.cell? ⟨b14,7,none⟩ = some (.slice ga gn gc)/\wz.cell? ⟨w.heap.size,7,none⟩ = some (.slice (some ⟨b1,o1,none⟩) len ec)/\wz.rangeAt b1 (o1 + k * 29) es) w7:=⟨(hB7.cell (p:=⟨b14,7,none⟩) l14).trans P7.out,(hB7.cell (p:=⟨w.heap.size,7,none⟩) l4).trans C7.out,zB1 HRG.out (hB7.block b1 LBR.out)⟩
              rw [<- hw7]
              have HB7:=zA0 hB7
              have HS7:=zA0 hs7
              clear hw7 hB7 hs7 hz7
              refine hK.out _ _ (fun _=>s7) ?_
              have hHeld:=s7
              clear hK K
              try simp only [aPa,aPc,aPd]
              refine tkLc 8 rfl (by kernel_rfl) rfl (fun K hK=>?_)
              refine yB7 w7 (.tmp 75) (.tmp 81) rfl (b14 + 1) (.slice ga gn gc) (stay m I false k).length ess.flatten rfl HROW7.out ⟨wr.heap.size,0,none⟩ es rfl HEL.out HN7.out HONE.out (by omega) (by have:=HS7.out; have:=HSZ.out; omega) ?_
              intro v5 w5 a1 a2 a3
              obtain ⟨va5,ln5,vc5,hv5⟩ : ∃ a n c,v5 = Value.slice a n c:=zJ9 a1
              subst hv5
              have hB75 : Below (b14 + 1) w7 w5:=(Below.refl _ w7).grown a2 (by have:=HS7.out; have:=HSZ.out; omega) (fun q hq=>(zD7 HROW7.out hq).1)
              have A1:=zA0 a1
              have HB75:=zA0 hB75
              have hb14l : b14 < w7.heap.size:=by have:=HS7.out; omega
              have s5 : (fun wz:World=>wz.cell? ⟨b14,7,none⟩ = some (.slice ga gn gc)/\wz.cell? ⟨w.heap.size,7,none⟩ = some (.slice (some ⟨b1,o1,none⟩) len ec)/\wz.rangeAt b1 (o1 + k * 29) es) w5:=⟨(World.cell?_of_block (a:=⟨b14,7,none⟩) (hB75.block b14 (by omega))).trans hHeld.1,(World.cell?_of_block (a:=⟨w.heap.size,7,none⟩) (hB75.block w.heap.size (by have:=HB14.out; omega))).trans hHeld.2.1,zB1 hHeld.2.2 (hB75.block b1 (by have:=HB14.out; have:=LB1.out; omega))⟩
              have g5 : w5.heap[b14]? = _:=(hB75.block b14 (by omega)).trans ((HB7.out.block b14 l14).trans HG.out)
              have f5 : w5.frozen? ⟨b14,7,none⟩ = false:=by simp [World.frozen?,g5]
              have q5 : w5.cell? ⟨b14,7,none⟩ = some (.slice ga gn gc):=s5.1
              have lq5:=zA1 g5
              have HG5:=zA0 g5
              clear a1 a2 a3 hB75 hb14l g5
              refine hK.out _ _ (fun _=>s5) ?_
              clear hHeld
              have hHeld:=s5
              clear hK K
              try simp only [aPa,aPc,aPd]
              refine tkLp 9 rfl (.pointer (some ⟨b14,7,none⟩)) (by kernel_rfl) rfl (fun _ _ _=>id) hHeld (by intro w; go_simp) ?_
              try simp only [aPa,aPc,aPd]
              refine tkLc 10 rfl (by kernel_rfl) rfl (fun K hK=>?_)
              clear hHeld
              go_simp
              refine hK.out _ _ (fun h=>absurd rfl h) ?_
              clear hK K
              try simp only [aPa,aPb,aPc,aPd]
              refine zD9 (by kernel_rfl) ?_ _
              obtain ⟨w9,hw9⟩ : ∃ w9,w9 = w5.setCell ⟨b14,7,none⟩ (.slice va5 ln5 vc5):=⟨_,rfl⟩
              rw [<- hw9]
              have hk9 : ∀ j,j ≠ b14->w9.heap[j]? = w5.heap[j]?:=fun j hj=>by rw [hw9]; exact zB0 _ _ _ _ j hj
              have hs9 : w9.heap.size = w5.heap.size:=by rw [hw9]; simp
              have HG9 : Hid (w9.heap[b14]? = some (.cells #[.int .i64 t,.int .i64 v,.int .i64 I,.int .i64 xt,.slice av nv cv,.slice al nl cl,.slice ad nd cd,.slice va5 ln5 vc5] 39 (0,0))):=zA0 (by rw [hw9,heap_setCell_same w5 _ 7 _ 39 _ HG5.out]; rfl)
              have hst1 : (stay m I false (k + 1)).length = (stay m I false k).length + 1:=by rw [HST.out]; simp
              have HROW9 : Hid (w9.ownsRow (b14 + 1) 73 29 (.slice va5 ln5 vc5) (stay m I false (k + 1)).length (ess ++ [es]).flatten):=zA0 (by
               rw [hst1,zZ3]
               refine ⟨A1.out.1,?_⟩
               rcases A1.out.2 with h2 | ⟨g,cap,cur,e,h3,h4,h5⟩
               · exact .inl h2
               · exact .inr ⟨g,cap,cur,e,h3,(hk9 g (by omega)).trans h4,h5⟩)
              have hB59 : Below w.heap.size w5 w9:=by rw [hw9]; exact zC2 (by have:=HB14.out; omega) w5 7 _
              have HB9 : Hid (Below w.heap.size w w9):=zA0 (((HBR.out.trans (HB7.out.mono HBR.out.size)).trans (HB75.out.mono (by have:=HB14.out; omega))).trans hB59)
              have KK : ∀ j,j < b14->w9.heap[j]? = wr.heap[j]?:=fun j hj=>(hk9 j (by omega)).trans ((HB75.out.block j (by omega)).trans (HB7.out.block j (by omega)))
              have G49:=zA0 ((KK _ (by have:=HB14.out; omega)).trans G4.out)
              have G59:=zA0 ((KK _ (by have:=HB14.out; omega)).trans G5.out)
              have G69:=zA0 ((KK _ (by have:=HB14.out; omega)).trans G6.out)
              have G89:=zA0 ((KK _ (by have:=HB14.out; omega)).trans G8.out)
              have HSZ9 : Hid (b14 + 1<=w9.heap.size):=zA0 (by rw [hs9]; have:=HB75.out.size; have:=HS7.out; omega)
              clear hw9 hk9 hs9 hst1 hB59 KK f5 q5 lq5
              clear hdg
              go_wp2
              refine ⟨⟨k + 1,va5,ln5,vc5,ess ++ [es],by omega,by go_num,HG9,HROW9,zA0 (by rw [HST.out]; exact HELM.out.more HRE.out),zA0 (.inr trivial),HB9,G49,G59,G69,G89,HSZ9⟩,by simp [intOf]; omega⟩
             | true =>
              have hdg : decide (I < m.base + 1 + (k:Int)) = true:=decide_eq_true hgt
              have HST : Hid (stay m I true (k + 1) = stay m I true k):=zA0 (yI1 (by have:=HLEN.out; omega) (.inl rfl))
              go_wp2
              refine wp_region_held_drew (S:=fun wz : World=>wz.cell? ⟨w.heap.size,7,none⟩ = some (.slice (some ⟨b1,o1,none⟩) len ec)/\wz.cell? ⟨b1,o1 + k * 29,none⟩ = some (.int .i64 (m.base + 1 + k))/\wz.cell? ⟨w.heap.size + 2,0,none⟩ = some (.int .i64 I)) (by kernel_rfl) ⟨C7.out,HX.out,X0.out⟩ (fun hHeld=>?_)
              refine tkHp 0 rfl (.pointer (some ⟨w.heap.size,7,none⟩)) (by kernel_rfl) rfl (fun _ _ _=>id) hHeld (by intro w; go_simp) ?_
              try simp only [aPa,aPc,aPd]
              refine tkH 1 rfl (.slice (some ⟨b1,o1,none⟩) len ec) (by kernel_rfl) rfl (fun _ _ _=>id) hHeld (by intro wz hSw; obtain ⟨e1,e2,e3⟩:=hSw; clear e2 e3; go_simp) ?_
              try simp only [aPa,aPc,aPd]
              refine tkHp 2 rfl (.int .i64 (k:Int)) (by kernel_rfl) rfl (fun _ _ _=>id) hHeld (by intro w; go_simp) ?_
              try simp only [aPa,aPc,aPd]
              refine tkH 3 rfl (.pointer (some ⟨b1,o1 + k * 29,none⟩)) (by kernel_rfl) rfl (fun _ _ _=>id) hHeld (by intro wz hSw; clear hSw; go_simp; all_goals (first | done | (intro hh; exfalso; omega))) ?_
              try simp only [aPa,aPc,aPd]
              refine tkHp 4 rfl (.pointer (some ⟨b1,o1 + k * 29,none⟩)) (by kernel_rfl) rfl (fun _ _ _=>id) hHeld (by intro w; go_simp) ?_
              try simp only [aPa,aPc,aPd]
              refine tkH 5 rfl (.int .i64 (m.base + 1 + k)) (by kernel_rfl) rfl (fun _ _ _=>id) hHeld (by intro wz hSw; obtain ⟨e1,e2,e3⟩:=hSw; clear e1 e3; go_simp) ?_
              try simp only [aPa,aPc,aPd]
              refine tkHp 6 rfl (.pointer (some ⟨w.heap.size + 2,0,none⟩)) (by kernel_rfl) rfl (fun _ _ _=>id) hHeld (by intro w; go_simp) ?_
              try simp only [aPa,aPc,aPd]
              refine tkH 7 rfl (.int .i64 I) (by kernel_rfl) rfl (fun _ _ _=>id) hHeld (by intro wz hSw; obtain ⟨e1,e2,e3⟩:=hSw; clear e1 e2; go_simp) ?_
              try simp only [aPa,aPc,aPd]
              refine tkH 8 rfl (.bool true) (by kernel_rfl) rfl (fun _ _ _=>id) hHeld (by intro wz hSw; clear hSw; go_simp; all_goals (first | done | rw [hdg] | (simp; omega))) ?_
              try simp only [aPa,aPc,aPd]
              refine tkHp 9 rfl (.bool true) (by kernel_rfl) rfl (fun _ _ _=>id) hHeld (by intro w; go_simp) ?_
              try simp only [aPa,aPc,aPd]
              refine tkHp 10 rfl (.bool true) (by kernel_rfl) rfl (fun _ _ _=>id) hHeld (by intro w; go_simp) ?_
              try simp only [aPa,aPc,aPd]
              refine tkHp 11 rfl (.bool false) (by kernel_rfl) rfl (fun _ _ _=>id) hHeld (by intro w; go_simp) ?_
              try simp only [aPa,aPc,aPd]
              refine tkHp 12 rfl (.bool false) (by kernel_rfl) rfl (fun _ _ _=>id) hHeld (by intro w; go_simp) ?_
              try simp only [aPa,aPc,aPd]
              refine wpAnyH_done (by kernel_rfl) ?_ _
              go_wp2
              exact ⟨⟨k + 1,ga,gn,gc,ess,by omega,by go_num,HG,zA0 (by rw [HST.out]; exact HROW.out),zA0 (by rw [HST.out]; exact HELM.out),zA0 (.inr trivial),zA0 HBR.out.drew,G4,G5,G6,G8,HSZ⟩,by simp [intOf]; omega⟩
           · have hdg : decide (I < m.base + 1 + (k:Int)) = false:=decide_eq_false hgt
             have HST : Hid (stay m I all (k + 1) = stay m I all k):=zA0 (yI1 (by have:=HLEN.out; omega) (.inr (by omega)))
             go_wp2
             refine wp_region_held_drew (S:=fun wz : World=>wz.cell? ⟨w.heap.size,7,none⟩ = some (.slice (some ⟨b1,o1,none⟩) len ec)/\wz.cell? ⟨b1,o1 + k * 29,none⟩ = some (.int .i64 (m.base + 1 + k))/\wz.cell? ⟨w.heap.size + 2,0,none⟩ = some (.int .i64 I)) (by kernel_rfl) ⟨C7.out,HX.out,X0.out⟩ (fun hHeld=>?_)
             refine tkHp 0 rfl (.pointer (some ⟨w.heap.size,7,none⟩)) (by kernel_rfl) rfl (fun _ _ _=>id) hHeld (by intro w; go_simp) ?_
             try simp only [aPa,aPc,aPd]
             refine tkH 1 rfl (.slice (some ⟨b1,o1,none⟩) len ec) (by kernel_rfl) rfl (fun _ _ _=>id) hHeld (by intro wz hSw; obtain ⟨e1,e2,e3⟩:=hSw; clear e2 e3; go_simp) ?_
             try simp only [aPa,aPc,aPd]
             refine tkHp 2 rfl (.int .i64 (k:Int)) (by kernel_rfl) rfl (fun _ _ _=>id) hHeld (by intro w; go_simp) ?_
             try simp only [aPa,aPc,aPd]
             refine tkH 3 rfl (.pointer (some ⟨b1,o1 + k * 29,none⟩)) (by kernel_rfl) rfl (fun _ _ _=>id) hHeld (by intro wz hSw; clear hSw; go_simp; all_goals (first | done | (intro hh; exfalso; omega))) ?_
             try simp only [aPa,aPc,aPd]
             refine tkHp 4 rfl (.pointer (some ⟨b1,o1 + k * 29,none⟩)) (by kernel_rfl) rfl (fun _ _ _=>id) hHeld (by intro w; go_simp) ?_
             try simp only [aPa,aPc,aPd]
             refine tkH 5 rfl (.int .i64 (m.base + 1 + k)) (by kernel_rfl) rfl (fun _ _ _=>id) hHeld (by intro wz hSw; obtain ⟨e1,e2,e3⟩:=hSw; clear e1 e3; go_simp) ?_
             try simp only [aPa,aPc,aPd]
             refine tkHp 6 rfl (.pointer (some ⟨w.heap.size + 2,0,none⟩)) (by kernel_rfl) rfl (fun _ _ _=>id) hHeld (by intro w; go_simp) ?_
             try simp only [aPa,aPc,aPd]
             refine tkH 7 rfl (.int .i64 I) (by kernel_rfl) rfl (fun _ _ _=>id) hHeld (by intro wz hSw; obtain ⟨e1,e2,e3⟩:=hSw; clear e1 e2; go_simp) ?_
             try simp only [aPa,aPc,aPd]
             refine tkH 8 rfl (.bool false) (by kernel_rfl) rfl (fun _ _ _=>id) hHeld (by intro wz hSw; clear hSw; go_simp; all_goals (first | done | rw [hdg] | (simp; omega))) ?_
             try simp only [aPa,aPc,aPd]
             refine tkHp 9 rfl (.bool false) (by kernel_rfl) rfl (fun _ _ _=>id) hHeld (by intro w; go_simp) ?_
             try simp only [aPa,aPc,aPd]
             refine tkHn 10 rfl (by kernel_rfl) rfl (fun _ _ _=>id) hHeld ?_
             try simp only [aPa,aPc,aPd]
             refine tkHn 11 rfl (by kernel_rfl) rfl (fun _ _ _=>id) hHeld ?_
             try simp only [aPa,aPc,aPd]
             refine tkHp 12 rfl (.bool false) (by kernel_rfl) rfl (fun _ _ _=>id) hHeld (by intro w; go_simp) ?_
             try simp only [aPa,aPc,aPd]
             refine wpAnyH_done (by kernel_rfl) ?_ _
             go_wp2
             exact ⟨⟨k + 1,ga,gn,gc,ess,by omega,by go_num,HG,zA0 (by rw [HST.out]; exact HROW.out),zA0 (by rw [HST.out]; exact HELM.out),zA0 (.inr trivial),zA0 HBR.out.drew,G4,G5,G6,G8,HSZ⟩,by simp [intOf]; omega⟩
         · have hke : k = m.bs.length:=by have:=HLEN.out; omega
           have HDEC : Hid (dec (nxT m t v x all) = ((t,v),x,stay m I all k)):=zA0 (by rw [xX7 HGOOD.out,hke,HI.out])
           have HLB : Hid ((stay m I all k).length<=8388608):=zA0 (by omega)
           obtain ⟨ae,ce,hse,hrl9⟩:=kB3 (S:=fun j=>S j\/NBr (b14 + 1) wr j) HROW.out HELM.out.1 (fun i h1 h2=>(HELM.out.2 i h1 h2).kept HBR.out.size (fun j hj=>HBR.out.block j (HS.out j hj)) (fun j hj=>.inl hj)) (fun j hj=>.inr hj) HLB.out
           have hge : gn = (stay m I all k).length:=by injection hse
           cases hse
           have HRL9:=zA0 hrl9
           have HREP : Hid (Rep wr (fun j=>S j\/NBr (b14 + 1) wr j) zB6 (#[.int .i64 t,.int .i64 v,.int .i64 I,.int .i64 xt,.slice av nv cv,.slice al nl cl,.slice ad nd cd,.slice ga (stay m I all k).length gc] : Array Value).toList (dec (nxT m t v x all))):=zA0 (by
            rw [HDEC.out]
            exact zO8 t v _ _ _ _ _ x ga gc _ (HRX.out.kept HBR.out.size (fun j hj=>HBR.out.block j (HS.out j hj)) (fun j hj=>.inl hj)) hrl9)
           have HFIRST : Hid (0 < (stay m I all k).length->∃ b o,ga = some ⟨b,o,none⟩/\b < wr.heap.size/\wr.cell? ⟨b,o,none⟩ = some (.int .i64 (I + 1))):=zA0 (fun hp=>by
            obtain ⟨b,o,es,e1,e2,e3,e4⟩:=Rep.load (k:=0) HRL9.out hp
            obtain ⟨r,he,_⟩:=zD3 e3
            refine ⟨b,o,e1,?_,?_⟩
            · rcases e2 with e2 | e2
              · exact Nat.lt_of_lt_of_le (HS.out b e2) HBR.out.size
              · exact e2.2.1
            · have h0:=e4 0 (.int .i64 (eI (stay m I all k)[0])) (by rw [he]; rfl)
              have h1 : eI (stay m I all k)[0] = I + 1:=by
               have hall : all = false:=by
                cases all with
                | false=>rfl
                | true=>simp [stay] at hp
               subst hall
               have hg : (stay m I false k)[0]? = some (stay m I false k)[0]:=List.getElem?_eq_getElem hp
               have hg2 : (((m.bs.map dE).take k).drop (I - m.base).toNat)[0]? = some (stay m I false k)[0]:=hg
               rw [List.getElem?_drop,List.getElem?_take] at hg2
               split at hg2
               · obtain ⟨hq,hq2⟩:=List.getElem?_eq_some_iff.1 hg2
                 rw [<- hq2,HOK.out.idx hq]
                 omega
               · cases hg2
              rw [h1] at h0
              simpa using h0)
           have hge2 : (stay m I all k).length<=len:=by omega
           generalize (stay m I all k).length = sl at *
           clear hke hrl9 HRL9 HDEC HROW HELM HLB t0 t1 c2 x1 x2 x3 x4
           by_cases hp : 0 < sl
           · obtain ⟨fb,fo,rfl,lfb,hfc⟩:=HFIRST.out hp
             have FC:=zA0 hfc
             have P7:=zA0 p7
             have X0:=zA0 x0
             have hdp : decide ((0:Int) < (sl:Int)) = true:=decide_eq_true (by omega)
             have hdp' : decide (0 < sl) = true:=decide_eq_true hp
             clear hfc p7 x0 HFIRST
             go_wp2
             refine wp_region_held_drew (S:=fun wz : World=>wz.cell? ⟨b14,7,none⟩ = some (.slice (some ⟨fb,fo,none⟩) sl gc)/\wz.cell? ⟨fb,fo,none⟩ = some (.int .i64 (I + 1))/\wz.cell? ⟨w.heap.size + 2,0,none⟩ = some (.int .i64 I)) (by kernel_rfl) ⟨P7.out,FC.out,X0.out⟩ (fun hHeld=>?_)
             refine tkHp 0 rfl (.pointer (some ⟨b14,7,none⟩)) (by kernel_rfl) rfl (fun _ _ _=>id) hHeld (by intro w; go_simp) ?_
             try simp only [aPa,aPc,aPd]
             refine tkH 1 rfl (.slice (some ⟨fb,fo,none⟩) sl gc) (by kernel_rfl) rfl (fun _ _ _=>id) hHeld (by intro wz hSw; obtain ⟨e1,e2,e3⟩:=hSw; clear e2 e3; go_simp) ?_
             try simp only [aPa,aPc,aPd]
             refine tkHp 2 rfl (.int .i64 (sl:Int)) (by kernel_rfl) rfl (fun _ _ _=>id) hHeld (by intro w; go_simp) ?_
             try simp only [aPa,aPc,aPd]
             refine tkH 3 rfl (.bool true) (by kernel_rfl) rfl (fun _ _ _=>id) hHeld (by intro wz hSw; clear hSw; go_simp; all_goals (first | done | rw [hdp] | rw [hdp'] | (simp; omega))) ?_
             try simp only [aPa,aPc,aPd]
             refine tkHp 4 rfl (.bool true) (by kernel_rfl) rfl (fun _ _ _=>id) hHeld (by intro w; go_simp) ?_
             try simp only [aPa,aPc,aPd]
             refine tkHp 5 rfl (.pointer (some ⟨b14,7,none⟩)) (by kernel_rfl) rfl (fun _ _ _=>id) hHeld (by intro w; go_simp) ?_
             try simp only [aPa,aPc,aPd]
             refine tkH 6 rfl (.slice (some ⟨fb,fo,none⟩) sl gc) (by kernel_rfl) rfl (fun _ _ _=>id) hHeld (by intro wz hSw; obtain ⟨e1,e2,e3⟩:=hSw; clear e2 e3; go_simp) ?_
             try simp only [aPa,aPc,aPd]
             refine tkH 7 rfl (.pointer (some ⟨fb,fo,none⟩)) (by kernel_rfl) rfl (fun _ _ _=>id) hHeld (by intro wz hSw; clear hSw; go_simp; all_goals (first | done | (intro hh; exfalso; omega))) ?_
             try simp only [aPa,aPc,aPd]
             refine tkHp 8 rfl (.pointer (some ⟨fb,fo,none⟩)) (by kernel_rfl) rfl (fun _ _ _=>id) hHeld (by intro w; go_simp) ?_
             try simp only [aPa,aPc,aPd]
             refine tkH 9 rfl (.int .i64 (I + 1)) (by kernel_rfl) rfl (fun _ _ _=>id) hHeld (by intro wz hSw; obtain ⟨e1,e2,e3⟩:=hSw; clear e1 e3; go_simp) ?_
             try simp only [aPa,aPc,aPd]
             refine tkHp 10 rfl (.pointer (some ⟨w.heap.size + 2,0,none⟩)) (by kernel_rfl) rfl (fun _ _ _=>id) hHeld (by intro w; go_simp) ?_
             try simp only [aPa,aPc,aPd]
             refine tkH 11 rfl (.int .i64 I) (by kernel_rfl) rfl (fun _ _ _=>id) hHeld (by intro wz hSw; obtain ⟨e1,e2,e3⟩:=hSw; clear e1 e2; go_simp) ?_
             try simp only [aPa,aPc,aPd]
             refine tkH 12 rfl (.int .i64 (I + 1)) (by kernel_rfl) rfl (fun _ _ _=>id) hHeld (by intro wz hSw; clear hSw; go_simp; all_goals (first | done | (rw [IntKind.wrap_i64] <;> omega))) ?_
             try simp only [aPa,aPc,aPd]
             refine tkHp 13 rfl (.bool false) (by kernel_rfl) rfl (fun _ _ _=>id) hHeld (by intro w; go_simp) ?_
             try simp only [aPa,aPc,aPd]
             refine tkHp 14 rfl (.bool false) (by kernel_rfl) rfl (fun _ _ _=>id) hHeld (by intro w; go_simp) ?_
             try simp only [aPa,aPc,aPd]
             refine wpAnyH_done (by kernel_rfl) ?_ _
             clear hdp hdp'
             go_wp2_with (first
              | (refine wpList_load_row rfl 39 (.tmp 14) rfl b14 rfl 39 #[.int .i64 t,.int .i64 v,.int .i64 I,.int .i64 xt,.slice av nv cv,.slice al nl cl,.slice ad nd cd,.slice (some ⟨fb,fo,none⟩) sl gc] (0,0) _ (show wr.drew.heap[b14]? = _ from HG.out) Tryz.underlying39 rfl zC1 ?_)
              | (refine zA5 rfl 39 (.tmp 8) (.tmp 100) rfl (w.heap.size + 3) #[.int .i64 t,.int .i64 v,.int .i64 I,.int .i64 xt,.slice av nv cv,.slice al nl cl,.slice ad nd cd,.slice (some ⟨fb,fo,none⟩) sl gc] rfl rfl 39 Z39 (show wr.drew.heap[w.heap.size + 3]? = _ from G8.out) zC1 rfl (by simp [Value.oneCell']) ?ny))
             case ny =>
              intro w9 hw9h
              have hk9 : ∀ j,j ≠ w.heap.size + 3->w9.heap[j]? = wr.heap[j]?:=fun j hj=>by rw [hw9h.out]; exact setRow_other _ _ _ _ hj
              have G9 : Hid (w9.heap[w.heap.size + 3]? = some (.cells #[.int .i64 t,.int .i64 v,.int .i64 I,.int .i64 xt,.slice av nv cv,.slice al nl cl,.slice ad nd cd,.slice (some ⟨fb,fo,none⟩) sl gc] 39 (0,0))):=zA0 (by rw [hw9h.out]; exact setRow_heap _ _ _ _ 39 _ (show wr.drew.heap[w.heap.size + 3]? = _ from G8.out))
              have hB9 : Below w.heap.size wr w9:=by rw [hw9h.out]; exact ⟨rfl,rfl,rfl,by simp [World.setRow],fun k hk=>setRow_other _ _ _ _ (by omega)⟩
              have HR9 : Hid (Rep w9 (Un S w.heap.size w9) zB6 (#[.int .i64 t,.int .i64 v,.int .i64 I,.int .i64 xt,.slice av nv cv,.slice al nl cl,.slice ad nd cd,.slice (some ⟨fb,fo,none⟩) sl gc] : Array Value).toList (dec (nxT m t v x all))):=zA0 (by
               refine HREP.out.kept hB9.size (fun j hj=>hk9 j ?_) (fun j hj=>?_)
               · rcases hj with hj | hj
                 · have:=HS.out j hj; omega
                 · have:=hj.1; have:=HB14.out; omega
               · rcases hj with hj | hj
                 · exact .inl hj
                 · refine .inr ⟨by have:=hj.1; have:=HB14.out; omega,Nat.lt_of_lt_of_le hj.2.1 hB9.size,hj.2.2.to (hk9 j (by have:=hj.1; have:=HB14.out; omega))⟩)
              have HB9:=zA0 (HBR.out.trans hB9)
              clear hw9h hk9 hB9
              go_wp2
              refine bodyPost_ret (v:=.tuple #[.agg #[.int .i64 t,.int .i64 v,.int .i64 I,.int .i64 xt,.slice av nv cv,.slice al nl cl,.slice ad nd cd,.slice (some ⟨fb,fo,none⟩) sl gc],.int .i64 0]) ?_ rfl ⟨(#[.int .i64 t,.int .i64 v,.int .i64 I,.int .i64 xt,.slice av nv cv,.slice al nl cl,.slice ad nd cd,.slice (some ⟨fb,fo,none⟩) sl gc] : Array Value).toList,0,nxT m t v x all,rfl,HR9.out,HB9.out,.inl ⟨HACC.out,rfl,rfl⟩⟩
              exact yW6 _ _ (w.heap.size + 3) _ _ rfl rfl rfl G9.out
           · have hdp : decide ((0:Int) < (sl:Int)) = false:=decide_eq_false (by omega)
             have hdp' : decide (0 < sl) = false:=decide_eq_false hp
             have P7:=zA0 p7
             clear p7 x0 HFIRST
             go_wp2
             refine wp_region_held_drew (S:=fun wz : World=>wz.cell? ⟨b14,7,none⟩ = some (.slice ga sl gc)) (by kernel_rfl) P7.out (fun hHeld=>?_)
             refine tkHp 0 rfl (.pointer (some ⟨b14,7,none⟩)) (by kernel_rfl) rfl (fun _ _ _=>id) hHeld (by intro w; go_simp) ?_
             try simp only [aPa,aPc,aPd]
             refine tkH 1 rfl (.slice ga sl gc) (by kernel_rfl) rfl (fun _ _ _=>id) hHeld (by intro wz hSw; go_simp) ?_
             try simp only [aPa,aPc,aPd]
             refine tkHp 2 rfl (.int .i64 (sl:Int)) (by kernel_rfl) rfl (fun _ _ _=>id) hHeld (by intro w; go_simp) ?_
             try simp only [aPa,aPc,aPd]
             refine tkH 3 rfl (.bool false) (by kernel_rfl) rfl (fun _ _ _=>id) hHeld (by intro wz hSw; clear hSw; go_simp; all_goals (first | done | rw [hdp] | rw [hdp'] | (simp; omega))) ?_
             try simp only [aPa,aPc,aPd]
             refine tkHp 4 rfl (.bool false) (by kernel_rfl) rfl (fun _ _ _=>id) hHeld (by intro w; go_simp) ?_
             try simp only [aPa,aPc,aPd]
             refine tkHn 5 rfl (by kernel_rfl) rfl (fun _ _ _=>id) hHeld ?_
             try simp only [aPa,aPc,aPd]
             refine tkHn 6 rfl (by kernel_rfl) rfl (fun _ _ _=>id) hHeld ?_
             try simp only [aPa,aPc,aPd]
             refine tkHn 7 rfl (by kernel_rfl) rfl (fun _ _ _=>id) hHeld ?_
             try simp only [aPa,aPc,aPd]
             refine tkHn 8 rfl (by kernel_rfl) rfl (fun _ _ _=>id) hHeld ?_
             try simp only [aPa,aPc,aPd]
             refine tkHn 9 rfl (by kernel_rfl) rfl (fun _ _ _=>id) hHeld ?_
             try simp only [aPa,aPc,aPd]
             refine tkHn 10 rfl (by kernel_rfl) rfl (fun _ _ _=>id) hHeld ?_
             try simp only [aPa,aPc,aPd]
             refine tkHn 11 rfl (by kernel_rfl) rfl (fun _ _ _=>id) hHeld ?_
             try simp only [aPa,aPc,aPd]
             refine tkHn 12 rfl (by kernel_rfl) rfl (fun _ _ _=>id) hHeld ?_
             try simp only [aPa,aPc,aPd]
             refine tkHn 13 rfl (by kernel_rfl) rfl (fun _ _ _=>id) hHeld ?_
             try simp only [aPa,aPc,aPd]
             refine tkHp 14 rfl (.bool false) (by kernel_rfl) rfl (fun _ _ _=>id) hHeld (by intro w; go_simp) ?_
             try simp only [aPa,aPc,aPd]
             refine wpAnyH_done (by kernel_rfl) ?_ _
             clear hdp hdp'
             go_wp2_with (first
              | (refine wpList_load_row rfl 39 (.tmp 14) rfl b14 rfl 39 #[.int .i64 t,.int .i64 v,.int .i64 I,.int .i64 xt,.slice av nv cv,.slice al nl cl,.slice ad nd cd,.slice ga sl gc] (0,0) _ (show wr.drew.heap[b14]? = _ from HG.out) Tryz.underlying39 rfl zC1 ?_)
              | (refine zA5 rfl 39 (.tmp 8) (.tmp 100) rfl (w.heap.size + 3) #[.int .i64 t,.int .i64 v,.int .i64 I,.int .i64 xt,.slice av nv cv,.slice al nl cl,.slice ad nd cd,.slice ga sl gc] rfl rfl 39 Z39 (show wr.drew.heap[w.heap.size + 3]? = _ from G8.out) zC1 rfl (by simp [Value.oneCell']) ?ny))
             case ny =>
              intro w9 hw9h
              have hk9 : ∀ j,j ≠ w.heap.size + 3->w9.heap[j]? = wr.heap[j]?:=fun j hj=>by rw [hw9h.out]; exact setRow_other _ _ _ _ hj
              have G9 : Hid (w9.heap[w.heap.size + 3]? = some (.cells #[.int .i64 t,.int .i64 v,.int .i64 I,.int .i64 xt,.slice av nv cv,.slice al nl cl,.slice ad nd cd,.slice ga sl gc] 39 (0,0))):=zA0 (by rw [hw9h.out]; exact setRow_heap _ _ _ _ 39 _ (show wr.drew.heap[w.heap.size + 3]? = _ from G8.out))
              have hB9 : Below w.heap.size wr w9:=by rw [hw9h.out]; exact ⟨rfl,rfl,rfl,by simp [World.setRow],fun k hk=>setRow_other _ _ _ _ (by omega)⟩
              have HR9 : Hid (Rep w9 (Un S w.heap.size w9) zB6 (#[.int .i64 t,.int .i64 v,.int .i64 I,.int .i64 xt,.slice av nv cv,.slice al nl cl,.slice ad nd cd,.slice ga sl gc] : Array Value).toList (dec (nxT m t v x all))):=zA0 (by
               refine HREP.out.kept hB9.size (fun j hj=>hk9 j ?_) (fun j hj=>?_)
               · rcases hj with hj | hj
                 · have:=HS.out j hj; omega
                 · have:=hj.1; have:=HB14.out; omega
               · rcases hj with hj | hj
                 · exact .inl hj
                 · refine .inr ⟨by have:=hj.1; have:=HB14.out; omega,Nat.lt_of_lt_of_le hj.2.1 hB9.size,hj.2.2.to (hk9 j (by have:=hj.1; have:=HB14.out; omega))⟩)
              have HB9:=zA0 (HBR.out.trans hB9)
              clear hw9h hk9 hB9
              go_wp2
              refine bodyPost_ret (v:=.tuple #[.agg #[.int .i64 t,.int .i64 v,.int .i64 I,.int .i64 xt,.slice av nv cv,.slice al nl cl,.slice ad nd cd,.slice ga sl gc],.int .i64 0]) ?_ rfl ⟨(#[.int .i64 t,.int .i64 v,.int .i64 I,.int .i64 xt,.slice av nv cv,.slice al nl cl,.slice ad nd cd,.slice ga sl gc] : Array Value).toList,0,nxT m t v x all,rfl,HR9.out,HB9.out,.inl ⟨HACC.out,rfl,rfl⟩⟩
              exact yW6 _ _ (w.heap.size + 3) _ _ rfl rfl rfl G9.out
end
end Go.Proofs.YtocoimjhglackaaGreat
