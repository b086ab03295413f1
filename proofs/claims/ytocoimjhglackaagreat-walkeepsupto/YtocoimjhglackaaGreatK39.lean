/- Wjc -/
import Derived.Test.YtocoimjhglackaaGreatK30
import Derived.Test.YtocoimjhglackaaGreatK38
set_option maxHeartbeats 8000000
set_option maxRecDepth 100000
namespace Go.Proofs.YtocoimjhglackaaGreat
section
open Go.RowKit Go.Maps
def skS (m:Sd) (t v:Int) (vs:List En) (k:Nat) : Sd:=putB (setH m t v) (n0 vs) (bods (vs.take k))
theorem yL7 {vs:List En} {k:Nat} {x:En} (h:vs[k]? = some x) : bods (vs.take (k + 1)) = bods (vs.take k) ++ [(en zA8 x).1]:=by
 obtain ⟨hk,hx⟩:=List.getElem?_eq_some_iff.1 h
 unfold bods
 rw [List.take_succ_eq_append_getElem hk,List.map_append,hx]; rfl
theorem xJ3 {m:Sd} {t v:Int} {vs:List En} {k:Nat} (h:∀ (j:Nat) (x:En),j < k->vs[j]? = some x->okX m vs j x) : Cont (setH m t v) (n0 vs) (bods (vs.take k)):=by
 refine ⟨fun hne=>?_,fun i b hb=>?_⟩
 · have hk : 0 < k/\0 < vs.length:=by
     constructor
     · refine Nat.pos_of_ne_zero (fun e=>hne ?_); subst e; rfl
     · refine Nat.pos_of_ne_zero (fun e=>hne ?_); rw [List.length_eq_zero_iff.1 e]; simp [bods]
   have:=h 0 _ hk.1 (List.getElem?_eq_getElem hk.2)
   exact ⟨this.2.2.1,this.2.2.2⟩
 · unfold bods at hb
   rw [List.getElem?_map,List.getElem?_take] at hb
   split at hb
   · rename_i hik
     cases hv : vs[i]? with
     | none=>rw [hv] at hb; cases hb
     | some x =>
      rw [hv] at hb
      cases hb
      have:=h i x hik hv
      obtain ⟨g1,g2⟩:=yK8 this.1
      exact ⟨g1,by rw [g2]; exact this.2.1⟩
   · cases hb
theorem xP3 {m:Sd} {t v:Int} {vs:List En} {k:Nat} (hm:Okd m) (ht:okN t) (hv:okN v) (h:∀ (j:Nat) (x:En),j < k->vs[j]? = some x->okX m vs j x) : Okd (skS m t v vs k):=xC6 ⟨ht,hv,hm.no,hm.sn,hm.base,hm.es⟩ (xJ3 h)
theorem yI3 (m:Sd) (t v:Int) (vs:List En) : skS m t v vs 0 = setH m t v:=by unfold skS; exact zO6 _ _
theorem zL1 (m:Sd) (t v:Int) (vs:List En) (k:Nat) : (skS m t v vs k).t = t/\(skS m t v vs k).v = v/\(skS m t v vs k).sn = m.sn/\(skS m t v vs k).base = m.base:=by
 unfold skS putB
 split <;> exact ⟨rfl,rfl,rfl,rfl⟩
theorem xB3 {m:Sd} {t v:Int} {vs:List En} {k:Nat} (hk:0 < k) (hl:k<=vs.length) : (skS m t v vs k).bs = m.bs.take (n0 vs - m.base - 1).toNat ++ bods (vs.take k):=by
 unfold skS putB
 rw [if_neg]
 · rfl
 · intro e
   have : (bods (vs.take k)).length = 0:=by rw [e]; rfl
   unfold bods at this
   rw [List.length_map,List.length_take] at this
   omega
theorem zX7 {m:Sd} {t v:Int} {vs:List En} {k:Nat} (_hm:okN m.base) (hk:0 < k) (hl:k<=vs.length) (h:∀ (j:Nat) (x:En),j < k->vs[j]? = some x->okX m vs j x) : ((skS m t v vs k).bs.length : Int) = n0 vs - m.base - 1 + k/\m.base < n0 vs:=by
 have h0:=h 0 _ hk (List.getElem?_eq_getElem (by omega))
 have h1 : m.base < n0 vs:=h0.2.2.1
 have h2 : n0 vs<=m.base + m.bs.length + 1:=h0.2.2.2
 rw [xB3 hk hl]
 unfold bods
 rw [List.length_append,List.length_take,List.length_map,List.length_take]
 refine ⟨by omega,h1⟩
theorem yD7 {m:Sd} {t v:Int} {vs:List En} {k:Nat} {x:En} (hm:okN m.base) (hx:vs[k]? = some x) (h:∀ (j:Nat) (x:En),j < k + 1->vs[j]? = some x->okX m vs j x) : (eI x - m.base - 1).toNat<=(skS m t v vs k).bs.length/\eI x = m.base + 1 + ((eI x - m.base - 1).toNat : Nat)/\(⟨(skS m t v vs k).t,(skS m t v vs k).v,(skS m t v vs k).sn,(skS m t v vs k).base,(skS m t v vs k).bs.take (eI x - m.base - 1).toNat ++ [(en zA8 x).1]⟩ : Sd) = skS m t v vs (k + 1):=by
 obtain ⟨hkl,_⟩:=List.getElem?_eq_some_iff.1 hx
 have hox:=h k x (by omega) hx
 have e1 : eI x = n0 vs + k:=hox.2.1
 have e2 : m.base < n0 vs:=hox.2.2.1
 have e3 : n0 vs<=m.base + m.bs.length + 1:=hox.2.2.2
 obtain ⟨f1,f2,f3,f4⟩:=zL1 m t v vs k
 obtain ⟨g1,g2,g3,g4⟩:=zL1 m t v vs (k + 1)
 have hb:=xB3 (m:=m) (t:=t) (v:=v) (vs:=vs) (k:=k + 1) (by omega) (by omega)
 have hS : ∀ (a b:Sd),a.t = b.t->a.v = b.v->a.sn = b.sn->a.base = b.base->a.bs = b.bs->a = b:=fun a b=>by cases a; cases b; simp; intros; exact ⟨‹_›,‹_›,‹_›,‹_›,‹_›⟩
 by_cases hk : k = 0
 · subst hk
   have e0 : (skS m t v vs 0).bs = m.bs:=by rw [yI3]; rfl
   refine ⟨by rw [e0]; omega,by omega,hS _ _ ?_ ?_ ?_ ?_ ?_⟩
   · show (skS m t v vs 0).t = _; rw [f1,g1]
   · show (skS m t v vs 0).v = _; rw [f2,g2]
   · show (skS m t v vs 0).sn = _; rw [f3,g3]
   · show (skS m t v vs 0).base = _; rw [f4,g4]
   · show (skS m t v vs 0).bs.take _ ++ _ = _
     rw [hb,yL7 hx,e0,show (eI x - m.base - 1).toNat = (n0 vs - m.base - 1).toNat by omega]
     simp [bods]
 · have hl:=zX7 (m:=m) (t:=t) (v:=v) (vs:=vs) (k:=k) hm (by omega) (by omega) (fun j y hj hy=>h j y (by omega) hy)
   have hb0:=xB3 (m:=m) (t:=t) (v:=v) (vs:=vs) (k:=k) (by omega) (by omega)
   refine ⟨by omega,by omega,hS _ _ ?_ ?_ ?_ ?_ ?_⟩
   · show (skS m t v vs k).t = _; rw [f1,g1]
   · show (skS m t v vs k).v = _; rw [f2,g2]
   · show (skS m t v vs k).sn = _; rw [f3,g3]
   · show (skS m t v vs k).base = _; rw [f4,g4]
   · show (skS m t v vs k).bs.take _ ++ _ = _
     rw [List.take_of_length_le (by omega),hb,yL7 hx,hb0,List.append_assoc]
theorem xU1 {m:Sd} {t v:Int} {vs:List En} : skS m t v vs vs.length = nxS m t v vs:=by unfold skS nxS; rw [List.take_length]
theorem xB7 (tmps:Array Value) (W:World) (g:Nat) (cs:Array Value) (y:Int) (hs:cs.size = 8) (h6:tmps[6]?.getD undef = .pointer (some ⟨g,0,none⟩)) (h7:tmps[7]?.getD undef = .int .i64 y) (hg:W.heap[g]? = some (.cells cs 39 (0,0))) : (results Tryz.f50 tmps).run Tryz.prog W = .ok (.tuple #[.agg cs,.int .i64 y]) W:=by
 have hl:=run_loadVar_row (P:=Tryz.prog) W g 39 39 cs (0,0) _ hg Tryz.underlying39 rfl (by rw [hs]; exact zC1)
 simp [results,Tryz.results50,asAddr,h6,h7,hl]
def RvP (S:Nat->Prop) (w:World) (m:Sd) (t v:Int) (vs:List En) (e:Ending) (w':World) : Prop:=∃ cs' y s',e = .returned (.tuple #[.agg cs'.toArray,.int .i64 y])/\Rep w' (Un S w.heap.size w') zB6 cs' (dec s')/\Below w.heap.size w w'/\((accS m t v vs/\y = 0/\s' = nxS m t v vs)\/(¬ accS m t v vs/\y = 1/\s' = m))
theorem z8 {cs:List Value} (h:cs.length = 8) : cs.toArray.size = 8:=by rw [List.size_toArray,h]
theorem zM5 {w:World} {b:Nat} {cs:List Value} {t:TypeId} (h:w.heap[b]? = some (.cells cs.toArray t (0,0))) : w.rangeAt b 0 cs:=fun j u hu=>by rw [Nat.zero_add,cell_of_row _ _ _ _ t (0,0) h]; simpa using hu
theorem yO5 (S:Nat->Prop) (cs:List Value) (m:Sd) (t v:Int) (a:Option Addr) (n cap:Nat) (vs:List En) (w:World) (hr:Rep w S zB6 cs (dec m)) (hS:∀ k,S k->k < w.heap.size) (hrl:RepL w S zA8 a vs) (hn:n = vs.length) (hok:Okd m) (hml:m.bs.length<=2097152) (hvl:vs.length<=1048576) (hz:∀ x ∈ vs,szb zA8 x<=137438953472) :
    Calls Tryz.prog 50 #[.agg cs.toArray,.agg #[.int .i64 t,.int .i64 v],.slice a n cap] w (RvP S w m t v vs):=by
 have hcl : cs.length = 8:=hr.len
 have HCL:=zA0 hcl
 have HCA : Hid (cs.toArray.all (·.oneCell') = true):=hr.all
 have HCI : Hid ((Tryz.prog.info? 39).map (·.size) = some cs.toArray.size):=by show _ = _; rw [z8 hcl]; exact zC1
 have HR:=zA0 hr
 have HS:=zA0 hS
 have HRL:=zA0 hrl
 have HN:=zA0 hn
 have HOK:=zA0 hok
 have HML:=zA0 hml
 have HVL:=zA0 hvl
 have HZ:=zA0 hz
 have hnb : (n:Int)<=1048576:=by omega
 obtain ⟨w1,hw1⟩ : ∃ w1,w1 = ((w.alloc (.cells cs.toArray 39)).alloc (.cells #[.int .i64 t,.int .i64 v] 31)).alloc (.cells Z39 39):=⟨_,rfl⟩
 have HB1 : Hid (Below w.heap.size w w1):=zA0 (by rw [hw1]; exact ((zB5 w _).alloc (by simp) _).alloc (by simp; omega) _)
 have HS1 : Hid (w1.heap.size = w.heap.size + 3):=zA0 (by rw [hw1]; simp)
 have G31 : Hid (w1.heap[w.heap.size]? = some (.cells cs.toArray 39 (0,0))):=zA0 (by rw [hw1]; exact (Below.heap_alloc _ _ _ (by simp; omega)).trans ((Below.heap_alloc _ _ _ (by simp)).trans (heap_alloc_new w _)))
 have G41 : Hid (w1.heap[w.heap.size + 1]? = some (.cells #[.int .i64 t,.int .i64 v] 31 (0,0))):=zA0 (by
  rw [hw1]
  refine (Below.heap_alloc _ _ _ (by simp)).trans ?_
  have:=heap_alloc_new (w.alloc (.cells cs.toArray 39)) (.cells #[.int .i64 t,.int .i64 v] 31)
  rwa [World.size_alloc] at this)
 have G61 : Hid (w1.heap[w.heap.size + 2]? = some (.cells Z39 39 (0,0))):=zA0 (by
  rw [hw1]
  have:=heap_alloc_new ((w.alloc (.cells cs.toArray 39)).alloc (.cells #[.int .i64 t,.int .i64 v] 31)) (.cells Z39 39)
  rwa [World.size_alloc,World.size_alloc] at this)
 have t0 : w1.cell? ⟨w.heap.size + 1,0,none⟩ = some (.int .i64 t):=cor G41.out rfl
 have t1 : w1.cell? ⟨w.heap.size + 1,1,none⟩ = some (.int .i64 v):=cor G41.out rfl
 have l4:=zA1 G41.out
 clear hr hS hrl hn hok hml hvl hz hcl
 have HFAIL : Hid (∀ (wb:World),Below w.heap.size w wb->wb.heap[w.heap.size + 2]? = some (.cells cs.toArray 39 (0,0))->¬ accS m t v vs->RvP S w m t v vs (.returned (.tuple #[.agg cs.toArray,.int .i64 1])) wb):=zA0 (fun wb hB _ hna=>⟨cs,1,m,rfl,HR.out.kept hB.size (fun k hk=>hB.block k (HS.out k hk)) (fun k hk=>.inl hk),hB,.inr ⟨hna,rfl,rfl⟩⟩)
 go_enter Tryz.func50,Tryz.ntmps50
 go_upto_region 1 with (fail)
 have hw1z:=hw1
 unfold Z39 at hw1z
 rw [<- hw1z]
 clear hw1 hw1z
 go_wp2_with fail
 refine (zY0 t v _).mono ?_
 rintro e w2 ⟨hB2,val,hv1,hv2,rfl⟩
 have HB02:=zA0 (HB1.out.trans (hB2.mono HB1.out.size))
 have G32:=zA0 ((hB2.block _ (zA1 G31.out)).trans G31.out)
 have G42:=zA0 ((hB2.block _ (zA1 G41.out)).trans G41.out)
 have G62:=zA0 ((hB2.block _ (zA1 G61.out)).trans G61.out)
 have HS2 : Hid (w.heap.size + 3<=w2.heap.size):=zA0 (by have:=hB2.size; have:=HS1.out; omega)
 clear hB2 hv1 hv2 t0 t1 l4
 by_cases hH : okN t/\okN v
 · have HH:=zA0 hH
   rw [decide_eq_true hH]
   clear hH
   obtain ⟨b10,hb10⟩ : ∃ b10,b10 = w2.heap.size:=⟨_,rfl⟩
   go_wp2_with (first
    | (refine wpList_load_row rfl 39 (.tmp 3) rfl w.heap.size rfl 39 cs.toArray (0,0) _ G32.out Tryz.underlying39 rfl HCI.out ?_)
    | (refine zA5 rfl 39 (.tmp 10) (.tmp 23) rfl w2.heap.size cs.toArray rfl rfl 39 Z39 (heap_alloc_new w2 (.cells Z39 39)) HCI.out (by rw [z8 HCL.out]; rfl) HCA.out ?nz))
   case nz =>
    intro w3 hw3h
    have hw3:=hw3h.out
    have hB23 : Below w2.heap.size w2 w3:=by rw [hw3]; exact ((Below.refl _ _).alloc (Nat.le_refl _) _).trans ⟨rfl,rfl,rfl,by simp [World.setRow],fun k hk=>setRow_other _ _ _ _ (by omega)⟩
    have g103 : w3.heap[b10]? = some (.cells cs.toArray 39 (0,0)):=by rw [hw3,hb10]; exact setRow_heap _ _ _ _ 39 _ (heap_alloc_new w2 _)
    have hs3 : w3.heap.size = b10 + 1:=by rw [hw3,hb10]; simp [World.setRow]
    clear hw3 hw3h
    rw [<- hb10]
    obtain ⟨av,nv,cv,al,nl,cl,ad,nd,cd,ea,ec,hcf,hsn,hrle⟩:=zG1 HR.out
    have HCF:=zA0 hcf
    have HSN:=zA0 hsn
    have HRLE:=zA0 hrle
    have HB03:=zA0 (HB02.out.trans (hB23.mono HB02.out.size))
    have G33:=zA0 ((hB23.block _ (zA1 G32.out)).trans G32.out)
    have G43:=zA0 ((hB23.block _ (zA1 G42.out)).trans G42.out)
    have G63:=zA0 ((hB23.block _ (zA1 G62.out)).trans G62.out)
    have HS3:=zA0 hs3
    have HB10 : Hid (w.heap.size + 3<=b10):=zA0 (by rw [hb10]; exact HS2.out)
    rw [hcf] at g103
    have G103:=zA0 g103
    have q0 : w3.cell? ⟨b10,0,none⟩ = some (.int .i64 m.t):=cor g103 rfl
    have q1 : w3.cell? ⟨b10,1,none⟩ = some (.int .i64 m.v):=cor g103 rfl
    have fq : ∀ o,w3.frozen? ⟨b10,o,none⟩ = false:=fun o=>by simp [World.frozen?,g103]
    have t0 : w3.cell? ⟨w.heap.size + 1,0,none⟩ = some (.int .i64 t):=cor G43.out rfl
    have t1 : w3.cell? ⟨w.heap.size + 1,1,none⟩ = some (.int .i64 v):=cor G43.out rfl
    have l4:=zA1 G43.out
    have l10:=zA1 g103
    clear hb10 hB23 g103 hs3 hcf hsn hrle
    go_upto_region 6 with (fail)
    obtain ⟨w4,hw4⟩ : ∃ w4,w4 = (w3.setCell ⟨b10,0,none⟩ (.int .i64 t)).setCell ⟨b10,1,none⟩ (.int .i64 v):=⟨_,rfl⟩
    rw [<- hw4]
    have hk4 : ∀ j,j ≠ b10->w4.heap[j]? = w3.heap[j]?:=fun j hj=>by rw [hw4]; exact (zB0 _ _ 1 _ j hj).trans (zB0 w3 _ 0 _ j hj)
    have hs4 : w4.heap.size = w3.heap.size:=by rw [hw4]; simp
    have hB34 : Below w.heap.size w3 w4:=by rw [hw4]; exact (zC2 (by have:=HB10.out; omega) w3 0 _).trans (zC2 (by have:=HB10.out; omega) _ 1 _)
    have HBW4:=zA0 (HB03.out.trans hB34)
    obtain ⟨c4,hc4⟩ : ∃ c4 : List Value,c4 = [.int .i64 t,.int .i64 v,.int .i64 (dec m).2.1.1,.int .i64 (dec m).2.1.2.1,.slice av nv cv,.slice al nl cl,.slice ad nd cd,.slice ea (dec m).2.2.length ec]:=⟨_,rfl⟩
    have G104 : Hid (w4.heap[b10]? = some (.cells c4.toArray 39 (0,0))):=zA0 (by
     rw [hw4,heap_setCell_same _ _ 1 _ 39 _ (heap_setCell_same w3 _ 0 _ 39 _ G103.out),hc4]
     rfl)
    have HR4 : Hid (Rep w4 (Un S (b10 + 1) w4) zB6 c4 (dec (skS m t v vs 0))):=zA0 (by
     rw [hc4,yI3]
     have hk : ∀ k,S k->w4.heap[k]? = w.heap[k]?:=fun k hk=>HBW4.out.block k (HS.out k hk)
     exact zO8 t v _ _ _ _ _ (snV m) ea ec _ (HSN.out.kept HBW4.out.size hk (fun k h=>.inl h)) (HRLE.out.kept HBW4.out.size hk (fun k h=>.inl h)))
    have G34:=zA0 ((hk4 _ (by have:=HB10.out; omega)).trans G33.out)
    have G64:=zA0 ((hk4 _ (by have:=HB10.out; omega)).trans G63.out)
    have HS4 : Hid (w4.heap.size = b10 + 1):=zA0 (by rw [hs4]; exact HS3.out)
    clear hw4 hk4 hs4 hB34 hc4 q0 q1 fq t0 t1 l4 l10 G103 HCF HSN HRLE G33 G43 G63 HB03 HS3
    go_wp2
    go_loopw [11] (fun i wr=>∃ (k:Nat) (ck:List Value),k<=n/\i = .int .i64 (k:Int)/\Hid (wr.heap[b10]? = some (.cells ck.toArray 39 (0,0)))/\Hid (Rep wr (Un S (b10 + 1) wr) zB6 ck (dec (skS m t v vs k)))/\Hid (∀ (j:Nat) (x:En),j < k->vs[j]? = some x->okX m vs j x)/\Hid (Below w.heap.size w wr)/\Hid (wr.heap[w.heap.size]? = some (.cells cs.toArray 39 (0,0)))/\Hid (wr.heap[w.heap.size + 2]? = some (.cells Z39 39 (0,0)))/\Hid (b10 + 1<=wr.heap.size)) (fun i _=>n - (intOf i).toNat)
    case atStart=>exact ⟨0,c4,Nat.zero_le _,rfl,G104,HR4,zA0 (fun j x hj=>absurd hj (by omega)),HBW4,G34,G64,zA0 (by rw [HS4.out]; exact Nat.le_refl _)⟩
    case round =>
     obtain ⟨k,ck,hk,rfl,HG,HRK,HOX,HBR,G3,G6,HSZ⟩:=hrel
     have hckl : ck.length = 8:=HRK.out.len
     have HCKI : Hid ((Tryz.prog.info? 39).map (·.size) = some ck.length):=zA0 (by rw [hckl]; exact zC1)
     have HCKS : Hid ((Tryz.prog.info? 39).map (·.size) = some ck.toArray.size):=zA0 (by rw [z8 hckl]; exact zC1)
     have HCKA : Hid (ck.toArray.all (·.oneCell') = true):=HRK.out.all
     have HCKL:=zA0 hckl
     clear hckl
     by_cases hlt : k < n
     · have hkl : k < vs.length:=by rw [<- HN.out]; exact hlt
       obtain ⟨b1,o1,es,rfl,hsb,hre,hrg⟩:=Rep.load HRL.out hkl
       obtain ⟨x,hx⟩ : ∃ x,vs[k]? = some x:=⟨_,List.getElem?_eq_getElem hkl⟩
       have hxe : vs[k] = x:=by rw [List.getElem?_eq_getElem hkl] at hx; exact Option.some.inj hx
       rw [hxe] at hre
       obtain ⟨r,he,hel⟩:=zD3 hre
       have lb1 : b1 < w.heap.size:=HS.out b1 hsb
       have HX:=zA0 hx
       have HSZX:=zA0 (HZ.out x (List.mem_of_getElem? hx))
       have HRG : Hid (wr.rangeAt b1 (o1 + k * 29) es):=zA0 (zB1 hrg (HBR.out.block b1 lb1))
       have HRE:=zA0 hre
       have HIN:=zA0 (zF6 hel)
       have HE:=zA0 he
       have LB1:=zA0 lb1
       clear hre hrg he hel hxe hx hkl hsb lb1
       have lbr : b1 < wr.heap.size:=Nat.lt_of_lt_of_le LB1.out HBR.out.size
       go_wp2_with (refine wpList_load_mid rfl 73 (.tmp 35) rfl b1 (o1 + k * 29) rfl es _ HRG.out Tryz.underlying73 rfl HIN.out ?_)
       refine (zI1 es x wr HSZX.out (HRE.out.kept HBR.out.size (fun j hj=>HBR.out.block j (HS.out j hj)) (fun j hj=>Nat.lt_of_lt_of_le (HS.out j hj) HBR.out.size))).mono ?_
       rintro e w5 ⟨z5,rfl,ho5,_,hB5⟩
       obtain ⟨za5,zc5,hz5,_⟩:=ho5.form
       subst hz5
       generalize (zD6 (en zA8 x)).length = bn5
       have HB5:=zA0 (HBR.out.trans (hB5.mono HBR.out.size))
       have HG5:=zA0 ((hB5.block _ (zA1 HG.out)).trans HG.out)
       have G35:=zA0 ((hB5.block _ (zA1 G3.out)).trans G3.out)
       have G65:=zA0 ((hB5.block _ (zA1 G6.out)).trans G6.out)
       have HSZ5 : Hid (b10 + 1<=w5.heap.size):=zA0 (Nat.le_trans HSZ.out hB5.size)
       have HRK5 : Hid (Rep w5 (Un S (b10 + 1) w5) zB6 ck (dec (skS m t v vs k))):=zA0 (HRK.out.kept hB5.size (fun j hj=>hB5.block j (by rcases hj with hj | hj; exact Nat.lt_of_lt_of_le (HS.out j hj) HBR.out.size; exact hj.2.1)) (fun j hj=>by rcases hj with hj | hj; exact .inl hj; exact .inr (hj.to hB5.size (fun b _ hb=>hB5.block b hb) (Nat.le_refl _))))
       have HRG5 : Hid (w5.rangeAt b1 (o1 + k * 29) es):=zA0 (zB1 HRG.out (hB5.block b1 lbr))
       have HRE5 : Hid (Rep w5 (Un S (b10 + 1) w5) zA8 es x):=zA0 (HRE.out.kept HB5.out.size (fun j hj=>HB5.out.block j (HS.out j hj)) (fun j hj=>.inl hj))
       clear ho5 hB5 lbr HG HRK G3 G6 HSZ HRG HBR
       obtain ⟨I,hI⟩ : ∃ I,I = eI x:=⟨_,rfl⟩
       obtain ⟨bb,hbb⟩ : ∃ bb,bb = decide ((skS m t v vs k).base < I/\I<=(skS m t v vs k).base + (skS m t v vs k).bs.length + 1):=⟨_,rfl⟩
       have HSK:=zA0 (xP3 HOK.out HH.out.1 HH.out.2 HOX.out)
       have X5 : Hid (w5.cell? ⟨b1,o1 + k * 29,none⟩ = some (.int .i64 I)):=zA0 (by
        have:=HRG5.out 0 (.int .i64 (eI x)) (by rw [HE.out]; rfl)
        rw [hI]; simpa using this)
       have HFO:=zA0 (yQ2 (Un S (b10 + 1) w5) ck (skS m t v vs k) I bb w5.drew HRK5.out (fun j hj=>by rcases hj with hj | hj; exact Nat.lt_of_lt_of_le (HS.out j hj) HB5.out.size; exact hj.2.1) HSK.out hbb.symm)
       have HI:=zA0 hI
       have HBB:=zA0 hbb
       have LB5 : Hid (b1 < w5.heap.size):=zA0 (Nat.lt_of_lt_of_le LB1.out HB5.out.size)
       clear hI hbb
       obtain ⟨co,hco⟩ : ∃ co,co = zK5 (en zA8 x).2:=⟨_,rfl⟩
       rw [<- hco]
       have HCO:=zA0 hco
       clear hco
       go_wp2
       refine wp_region_held_drew (S:=fun wz : World=>wz.rangeAt b10 0 ck/\wz.cell? ⟨b1,o1 + k * 29,none⟩ = some (.int .i64 I)) (by kernel_rfl) ⟨zM5 HG5.out,X5.out⟩ (fun hHeld=>?_)
       refine tkHy 0 rfl (.agg ck.toArray) (by kernel_rfl) (fun _ _ _=>id) hHeld (yieldsIf_load_mid (by rfl) 39 (.tmp 10) rfl b10 0 rfl ck _ (fun _ h=>h.1) Tryz.underlying39 rfl HCKI.out) ?_
       try simp only [aPa,aPc,aPd]
       refine tkHp 1 rfl (.slice (some ⟨b1,o1,none⟩) n cap) (by kernel_rfl) rfl (fun _ _ _=>id) hHeld (by intro w; go_simp) ?_
       try simp only [aPa,aPc,aPd]
       refine tkHp 2 rfl (.int .i64 (k:Int)) (by kernel_rfl) rfl (fun _ _ _=>id) hHeld (by intro w; go_simp) ?_
       try simp only [aPa,aPc,aPd]
       refine tkH 3 rfl (.pointer (some ⟨b1,o1 + k * 29,none⟩)) (by kernel_rfl) rfl (fun _ _ _=>id) hHeld (by intro wz hSw; clear hSw; go_simp; all_goals (first | done | (intro hh; exfalso; omega))) ?_
       try simp only [aPa,aPc,aPd]
       refine tkHp 4 rfl (.pointer (some ⟨b1,o1 + k * 29,none⟩)) (by kernel_rfl) rfl (fun _ _ _=>id) hHeld (by intro w; go_simp) ?_
       try simp only [aPa,aPc,aPd]
       refine tkH 5 rfl (.int .i64 I) (by kernel_rfl) rfl (fun _ _ _=>id) hHeld (by intro wz hSw; obtain ⟨e1,e2⟩:=hSw; clear e1; go_simp) ?_
       try simp only [aPa,aPc,aPd]
       refine tkHc 6 rfl (by kernel_rfl) rfl (fun K hK=>?_)
       go_simp
       refine Calls.mono HFO.out ?_
       rintro e w6 ⟨rfl,hb6x⟩
       have HB56 : Hid (Below w5.heap.size w5 w6):=zA0 ⟨hb6x.os,hb6x.tape,hb6x.output,hb6x.size,hb6x.block⟩
       have s6 : (fun wz:World=>wz.rangeAt b10 0 ck/\wz.cell? ⟨b1,o1 + k * 29,none⟩ = some (.int .i64 I)) w6:=⟨zB1 (zM5 HG5.out) (HB56.out.block b10 (by have:=HSZ5.out; omega)),(HB56.out.cell (p:=⟨b1,o1 + k * 29,none⟩) LB5.out).trans X5.out⟩
       clear hb6x
       refine hK.out _ _ s6 (fun hHeld1=>?_)
       clear hK K
       try simp only [aPa,aPb,aPc,aPd]
       refine tkHp 7 rfl (.bool bb) (by kernel_rfl) rfl (fun _ _ _=>id) hHeld1 (by intro w; go_simp) ?_
       try simp only [aPa,aPc,aPd]
       refine wpAnyH_done (by kernel_rfl) ?_ _
       have HB6:=zA0 (HB5.out.trans (HB56.out.mono HB5.out.size))
       have HG6:=zA0 ((HB56.out.block _ (zA1 HG5.out)).trans HG5.out)
       have G36:=zA0 ((HB56.out.block _ (zA1 G35.out)).trans G35.out)
       have G66:=zA0 ((HB56.out.block _ (zA1 G65.out)).trans G65.out)
       have HSZ6 : Hid (b10 + 1<=w6.heap.size):=zA0 (Nat.le_trans HSZ5.out HB56.out.size)
       have HRK6 : Hid (Rep w6 (Un S (b10 + 1) w6) zB6 ck (dec (skS m t v vs k))):=zA0 (HRK5.out.kept HB56.out.size (fun j hj=>HB56.out.block j (by rcases hj with hj | hj; exact Nat.lt_of_lt_of_le (HS.out j hj) HB5.out.size; exact hj.2.1)) (fun j hj=>by rcases hj with hj | hj; exact .inl hj; exact .inr (hj.to HB56.out.size (fun b _ hb=>HB56.out.block b hb) (Nat.le_refl _))))
       have HRG6 : Hid (w6.rangeAt b1 (o1 + k * 29) es):=zA0 (zB1 HRG5.out (HB56.out.block b1 LB5.out))
       have HRE6 : Hid (Rep w6 (Un S (b10 + 1) w6) zA8 es x):=zA0 (HRE.out.kept HB6.out.size (fun j hj=>HB6.out.block j (HS.out j hj)) (fun j hj=>.inl hj))
       have X6 : Hid (w6.cell? ⟨b1,o1 + k * 29,none⟩ = some (.int .i64 I)):=zA0 ((HB56.out.cell (p:=⟨b1,o1 + k * 29,none⟩) LB5.out).trans X5.out)
       have hIb : (en zA8 x).2 = false->I<=1099511627776:=fun h=>by rw [HI.out]; exact xG0 h
       clear HFO HG5 G35 G65 HSZ5 HRK5 HRG5 HRE5 X5 HB5 HB56
       have HERR : Hid (¬ okX m vs k x->¬ accS m t v vs):=zA0 (fun h1 h2=>h1 (h2.1 k x HX.out))
       have hco1 : co = 1\/co = 0:=by rw [HCO.out]; unfold zK5; split; exact .inl rfl; exact .inr rfl
       rcases hco1 with hc1 | hc1
       · have HNA:=zA0 (HERR.out (fun h=>by have:=h.1; have h2:=HCO.out; rw [this] at h2; rw [hc1] at h2; exact absurd h2 (by decide)))
         subst hc1
         go_wp2
         refine wp_region_held_drew (S:=fun wz : World=>wz.cell? ⟨b1,o1 + k * 29,none⟩ = some (.int .i64 I)) (by kernel_rfl) X6.out (fun hHeld=>?_)
         refine tkHp 0 rfl (.int .i64 1) (by kernel_rfl) rfl (fun _ _ _=>id) hHeld (by intro w; go_simp) ?_
         try simp only [aPa,aPc,aPd]
         refine tkHp 1 rfl (.bool true) (by kernel_rfl) rfl (fun _ _ _=>id) hHeld (by intro w; go_simp) ?_
         try simp only [aPa,aPc,aPd]
         refine tkHp 2 rfl (.bool true) (by kernel_rfl) rfl (fun _ _ _=>id) hHeld (by intro w; go_simp) ?_
         try simp only [aPa,aPc,aPd]
         refine tkHn 3 rfl (by kernel_rfl) rfl (fun _ _ _=>id) hHeld ?_
         try simp only [aPa,aPc,aPd]
         refine tkHn 4 rfl (by kernel_rfl) rfl (fun _ _ _=>id) hHeld ?_
         try simp only [aPa,aPc,aPd]
         refine tkHp 5 rfl (.bool true) (by kernel_rfl) rfl (fun _ _ _=>id) hHeld (by intro w; go_simp) ?_
         try simp only [aPa,aPc,aPd]
         refine tkHp 6 rfl (.bool true) (by kernel_rfl) rfl (fun _ _ _=>id) hHeld (by intro w; go_simp) ?_
         try simp only [aPa,aPc,aPd]
         refine tkHn 7 rfl (by kernel_rfl) rfl (fun _ _ _=>id) hHeld ?_
         try simp only [aPa,aPc,aPd]
         refine tkHn 8 rfl (by kernel_rfl) rfl (fun _ _ _=>id) hHeld ?_
         try simp only [aPa,aPc,aPd]
         refine tkHn 9 rfl (by kernel_rfl) rfl (fun _ _ _=>id) hHeld ?_
         try simp only [aPa,aPc,aPd]
         refine tkHn 10 rfl (by kernel_rfl) rfl (fun _ _ _=>id) hHeld ?_
         try simp only [aPa,aPc,aPd]
         refine tkHn 11 rfl (by kernel_rfl) rfl (fun _ _ _=>id) hHeld ?_
         try simp only [aPa,aPc,aPd]
         refine tkHn 12 rfl (by kernel_rfl) rfl (fun _ _ _=>id) hHeld ?_
         try simp only [aPa,aPc,aPd]
         refine tkHn 13 rfl (by kernel_rfl) rfl (fun _ _ _=>id) hHeld ?_
         try simp only [aPa,aPc,aPd]
         refine tkHn 14 rfl (by kernel_rfl) rfl (fun _ _ _=>id) hHeld ?_
         try simp only [aPa,aPc,aPd]
         refine tkHn 15 rfl (by kernel_rfl) rfl (fun _ _ _=>id) hHeld ?_
         try simp only [aPa,aPc,aPd]
         refine tkHn 16 rfl (by kernel_rfl) rfl (fun _ _ _=>id) hHeld ?_
         try simp only [aPa,aPc,aPd]
         refine tkHn 17 rfl (by kernel_rfl) rfl (fun _ _ _=>id) hHeld ?_
         try simp only [aPa,aPc,aPd]
         refine tkHn 18 rfl (by kernel_rfl) rfl (fun _ _ _=>id) hHeld ?_
         try simp only [aPa,aPc,aPd]
         refine tkHn 19 rfl (by kernel_rfl) rfl (fun _ _ _=>id) hHeld ?_
         try simp only [aPa,aPc,aPd]
         refine tkHn 20 rfl (by kernel_rfl) rfl (fun _ _ _=>id) hHeld ?_
         try simp only [aPa,aPc,aPd]
         refine tkHn 21 rfl (by kernel_rfl) rfl (fun _ _ _=>id) hHeld ?_
         try simp only [aPa,aPc,aPd]
         refine tkHn 22 rfl (by kernel_rfl) rfl (fun _ _ _=>id) hHeld ?_
         try simp only [aPa,aPc,aPd]
         refine tkHn 23 rfl (by kernel_rfl) rfl (fun _ _ _=>id) hHeld ?_
         try simp only [aPa,aPc,aPd]
         refine tkHp 24 rfl (.bool true) (by kernel_rfl) rfl (fun _ _ _=>id) hHeld (by intro w; go_simp) ?_
         try simp only [aPa,aPc,aPd]
         refine tkHp 25 rfl (.bool true) (by kernel_rfl) rfl (fun _ _ _=>id) hHeld (by intro w; go_simp) ?_
         try simp only [aPa,aPc,aPd]
         refine tkHn 26 rfl (by kernel_rfl) rfl (fun _ _ _=>id) hHeld ?_
         try simp only [aPa,aPc,aPd]
         refine tkHn 27 rfl (by kernel_rfl) rfl (fun _ _ _=>id) hHeld ?_
         try simp only [aPa,aPc,aPd]
         refine tkHn 28 rfl (by kernel_rfl) rfl (fun _ _ _=>id) hHeld ?_
         try simp only [aPa,aPc,aPd]
         refine tkHn 29 rfl (by kernel_rfl) rfl (fun _ _ _=>id) hHeld ?_
         try simp only [aPa,aPc,aPd]
         refine tkHn 30 rfl (by kernel_rfl) rfl (fun _ _ _=>id) hHeld ?_
         try simp only [aPa,aPc,aPd]
         refine tkHn 31 rfl (by kernel_rfl) rfl (fun _ _ _=>id) hHeld ?_
         try simp only [aPa,aPc,aPd]
         refine tkHp 32 rfl (.bool true) (by kernel_rfl) rfl (fun _ _ _=>id) hHeld (by intro w; go_simp) ?_
         try simp only [aPa,aPc,aPd]
         refine wpAnyH_done (by kernel_rfl) ?_ _
         go_wp2_with (first
          | (refine wpList_load_row rfl 39 (.tmp 3) rfl w.heap.size rfl 39 cs.toArray (0,0) _ (show w6.drew.heap[w.heap.size]? = _ from G36.out) Tryz.underlying39 rfl HCI.out ?_)
          | (refine zA5 rfl 39 (.tmp 6) (.tmp 80) rfl (w.heap.size + 2) cs.toArray rfl rfl 39 Z39 (show w6.drew.heap[w.heap.size + 2]? = _ from G66.out) HCI.out (by rw [z8 HCL.out]; rfl) HCA.out ?nz))
         case nz =>
          intro w9 hw9h
          have G9 : Hid (w9.heap[w.heap.size + 2]? = some (.cells cs.toArray 39 (0,0))):=zA0 (by rw [hw9h.out]; exact setRow_heap _ _ _ _ 39 _ (show w6.drew.heap[w.heap.size + 2]? = _ from G66.out))
          have HB9 : Hid (Below w.heap.size w w9):=zA0 (HB6.out.drew.trans (by rw [hw9h.out]; exact ⟨rfl,rfl,rfl,by simp [World.setRow],fun k hk=>setRow_other _ _ _ _ (by omega)⟩))
          clear hw9h
          go_wp2
          refine bodyPost_ret (v:=.tuple #[.agg cs.toArray,.int .i64 1]) ?_ rfl (HFAIL.out _ HB9.out G9.out HNA.out)
          exact xB7 _ _ (w.heap.size + 2) _ _ (z8 HCL.out) rfl rfl G9.out
       · have hgood : (en zA8 x).2 = false:=by
           have h2:=HCO.out
           cases hq : (en zA8 x).2 with
           | false=>rfl
           | true=>rw [hq,hc1] at h2; exact absurd h2 (by decide)
         have HGOOD:=zA0 hgood
         have hIle:=hIb hgood
         have HILE:=zA0 hIle
         subst hc1
         clear hgood hIb
         cases hbc : bb with
         | false =>
          have HNA : Hid (¬ accS m t v vs):=zA0 (HERR.out (fun h=>by
           have h1:=HBB.out
           rw [hbc] at h1
           have h2:=of_decide_eq_false h1.symm
           obtain ⟨f1,f2,f3,f4⟩:=zL1 m t v vs k
           have e1 : eI x = n0 vs + k:=h.2.1
           have e2 : m.base < n0 vs:=h.2.2.1
           have e3 : n0 vs<=m.base + m.bs.length + 1:=h.2.2.2
           refine h2 ?_
           rw [f4,HI.out]
           by_cases hk0 : k = 0
           · subst hk0
             have e0 : (skS m t v vs 0).bs = m.bs:=by rw [yI3]; rfl
             rw [e0]
             omega
           · have:=(zX7 (m:=m) (t:=t) (v:=v) (vs:=vs) (k:=k) HOK.out.base (by omega) (by have:=HN.out; omega) HOX.out).1
             omega))
          subst hbc
          clear hIle
          go_wp2
          refine wp_region_held_drew (S:=fun wz : World=>wz.cell? ⟨b1,o1 + k * 29,none⟩ = some (.int .i64 I)) (by kernel_rfl) X6.out (fun hHeld=>?_)
          refine tkHp 0 rfl (.int .i64 0) (by kernel_rfl) rfl (fun _ _ _=>id) hHeld (by intro w; go_simp) ?_
          try simp only [aPa,aPc,aPd]
          refine tkHp 1 rfl (.bool false) (by kernel_rfl) rfl (fun _ _ _=>id) hHeld (by intro w; go_simp) ?_
          try simp only [aPa,aPc,aPd]
          refine tkHp 2 rfl (.bool false) (by kernel_rfl) rfl (fun _ _ _=>id) hHeld (by intro w; go_simp) ?_
          try simp only [aPa,aPc,aPd]
          refine tkHp 3 rfl (.bool false) (by kernel_rfl) rfl (fun _ _ _=>id) hHeld (by intro w; go_simp) ?_
          try simp only [aPa,aPc,aPd]
          refine tkHp 4 rfl (.bool true) (by kernel_rfl) rfl (fun _ _ _=>id) hHeld (by intro w; go_simp) ?_
          try simp only [aPa,aPc,aPd]
          refine tkHp 5 rfl (.bool true) (by kernel_rfl) rfl (fun _ _ _=>id) hHeld (by intro w; go_simp) ?_
          try simp only [aPa,aPc,aPd]
          refine tkHp 6 rfl (.bool true) (by kernel_rfl) rfl (fun _ _ _=>id) hHeld (by intro w; go_simp) ?_
          try simp only [aPa,aPc,aPd]
          refine tkHn 7 rfl (by kernel_rfl) rfl (fun _ _ _=>id) hHeld ?_
          try simp only [aPa,aPc,aPd]
          refine tkHn 8 rfl (by kernel_rfl) rfl (fun _ _ _=>id) hHeld ?_
          try simp only [aPa,aPc,aPd]
          refine tkHn 9 rfl (by kernel_rfl) rfl (fun _ _ _=>id) hHeld ?_
          try simp only [aPa,aPc,aPd]
          refine tkHn 10 rfl (by kernel_rfl) rfl (fun _ _ _=>id) hHeld ?_
          try simp only [aPa,aPc,aPd]
          refine tkHn 11 rfl (by kernel_rfl) rfl (fun _ _ _=>id) hHeld ?_
          try simp only [aPa,aPc,aPd]
          refine tkHn 12 rfl (by kernel_rfl) rfl (fun _ _ _=>id) hHeld ?_
          try simp only [aPa,aPc,aPd]
          refine tkHn 13 rfl (by kernel_rfl) rfl (fun _ _ _=>id) hHeld ?_
          try simp only [aPa,aPc,aPd]
          refine tkHn 14 rfl (by kernel_rfl) rfl (fun _ _ _=>id) hHeld ?_
          try simp only [aPa,aPc,aPd]
          refine tkHn 15 rfl (by kernel_rfl) rfl (fun _ _ _=>id) hHeld ?_
          try simp only [aPa,aPc,aPd]
          refine tkHn 16 rfl (by kernel_rfl) rfl (fun _ _ _=>id) hHeld ?_
          try simp only [aPa,aPc,aPd]
          refine tkHn 17 rfl (by kernel_rfl) rfl (fun _ _ _=>id) hHeld ?_
          try simp only [aPa,aPc,aPd]
          refine tkHn 18 rfl (by kernel_rfl) rfl (fun _ _ _=>id) hHeld ?_
          try simp only [aPa,aPc,aPd]
          refine tkHn 19 rfl (by kernel_rfl) rfl (fun _ _ _=>id) hHeld ?_
          try simp only [aPa,aPc,aPd]
          refine tkHn 20 rfl (by kernel_rfl) rfl (fun _ _ _=>id) hHeld ?_
          try simp only [aPa,aPc,aPd]
          refine tkHn 21 rfl (by kernel_rfl) rfl (fun _ _ _=>id) hHeld ?_
          try simp only [aPa,aPc,aPd]
          refine tkHn 22 rfl (by kernel_rfl) rfl (fun _ _ _=>id) hHeld ?_
          try simp only [aPa,aPc,aPd]
          refine tkHn 23 rfl (by kernel_rfl) rfl (fun _ _ _=>id) hHeld ?_
          try simp only [aPa,aPc,aPd]
          refine tkHp 24 rfl (.bool true) (by kernel_rfl) rfl (fun _ _ _=>id) hHeld (by intro w; go_simp) ?_
          try simp only [aPa,aPc,aPd]
          refine tkHp 25 rfl (.bool true) (by kernel_rfl) rfl (fun _ _ _=>id) hHeld (by intro w; go_simp) ?_
          try simp only [aPa,aPc,aPd]
          refine tkHn 26 rfl (by kernel_rfl) rfl (fun _ _ _=>id) hHeld ?_
          try simp only [aPa,aPc,aPd]
          refine tkHn 27 rfl (by kernel_rfl) rfl (fun _ _ _=>id) hHeld ?_
          try simp only [aPa,aPc,aPd]
          refine tkHn 28 rfl (by kernel_rfl) rfl (fun _ _ _=>id) hHeld ?_
          try simp only [aPa,aPc,aPd]
          refine tkHn 29 rfl (by kernel_rfl) rfl (fun _ _ _=>id) hHeld ?_
          try simp only [aPa,aPc,aPd]
          refine tkHn 30 rfl (by kernel_rfl) rfl (fun _ _ _=>id) hHeld ?_
          try simp only [aPa,aPc,aPd]
          refine tkHn 31 rfl (by kernel_rfl) rfl (fun _ _ _=>id) hHeld ?_
          try simp only [aPa,aPc,aPd]
          refine tkHp 32 rfl (.bool true) (by kernel_rfl) rfl (fun _ _ _=>id) hHeld (by intro w; go_simp) ?_
          try simp only [aPa,aPc,aPd]
          refine wpAnyH_done (by kernel_rfl) ?_ _
          go_wp2_with (first
           | (refine wpList_load_row rfl 39 (.tmp 3) rfl w.heap.size rfl 39 cs.toArray (0,0) _ (show w6.drew.heap[w.heap.size]? = _ from G36.out) Tryz.underlying39 rfl HCI.out ?_)
           | (refine zA5 rfl 39 (.tmp 6) (.tmp 80) rfl (w.heap.size + 2) cs.toArray rfl rfl 39 Z39 (show w6.drew.heap[w.heap.size + 2]? = _ from G66.out) HCI.out (by rw [z8 HCL.out]; rfl) HCA.out ?nz))
          case nz =>
           intro w9 hw9h
           have G9 : Hid (w9.heap[w.heap.size + 2]? = some (.cells cs.toArray 39 (0,0))):=zA0 (by rw [hw9h.out]; exact setRow_heap _ _ _ _ 39 _ (show w6.drew.heap[w.heap.size + 2]? = _ from G66.out))
           have HB9 : Hid (Below w.heap.size w w9):=zA0 (HB6.out.drew.trans (by rw [hw9h.out]; exact ⟨rfl,rfl,rfl,by simp [World.setRow],fun k hk=>setRow_other _ _ _ _ (by omega)⟩))
           clear hw9h
           go_wp2
           refine bodyPost_ret (v:=.tuple #[.agg cs.toArray,.int .i64 1]) ?_ rfl (HFAIL.out _ HB9.out G9.out HNA.out)
           exact xB7 _ _ (w.heap.size + 2) _ _ (z8 HCL.out) rfl rfl G9.out
         | true =>
          by_cases hkz : k = 0
          · have HOX1 : Hid (∀ (j:Nat) (x:En),j < k + 1->vs[j]? = some x->okX m vs j x):=zA0 (fun j y hj hy=>by
              have hj0 : j = k:=by omega
              subst hj0
              have hyx : y = x:=by rw [HX.out] at hy; exact (Option.some.inj hy).symm
              subst hyx
              have h1:=HBB.out
              rw [hbc] at h1
              have h2:=of_decide_eq_true h1.symm
              obtain ⟨f1,f2,f3,f4⟩:=zL1 m t v vs j
              have e0 : (skS m t v vs j).bs = m.bs:=by rw [hkz,yI3]; rfl
              rw [f4,e0,HI.out] at h2
              have hn0 : n0 vs = eI y:=by
               have hx0:=HX.out
               rw [hkz] at hx0
               cases vs with
               | nil=>cases hx0
               | cons z zs=>cases hx0; rfl
              exact ⟨HGOOD.out,by rw [hn0,hkz]; simp,by rw [hn0]; exact h2.1,by rw [hn0]; exact h2.2⟩)
            have hd0 : decide ((0:Int) < (k:Int)) = false:=decide_eq_false (by omega)
            have hd0' : decide (0 < k) = false:=decide_eq_false (by omega)
            have hdm : decide ((1099511627776:Int) < I) = false:=decide_eq_false (by omega)
            subst hbc
            clear hkz hIle
            go_wp2
            refine wp_region_held_drew (S:=fun wz : World=>wz.cell? ⟨b1,o1 + k * 29,none⟩ = some (.int .i64 I)) (by kernel_rfl) X6.out (fun hHeld=>?_)
            refine tkHp 0 rfl (.int .i64 0) (by kernel_rfl) rfl (fun _ _ _=>id) hHeld (by intro w; go_simp) ?_
            try simp only [aPa,aPc,aPd]
            refine tkHp 1 rfl (.bool false) (by kernel_rfl) rfl (fun _ _ _=>id) hHeld (by intro w; go_simp) ?_
            try simp only [aPa,aPc,aPd]
            refine tkHp 2 rfl (.bool false) (by kernel_rfl) rfl (fun _ _ _=>id) hHeld (by intro w; go_simp) ?_
            try simp only [aPa,aPc,aPd]
            refine tkHp 3 rfl (.bool true) (by kernel_rfl) rfl (fun _ _ _=>id) hHeld (by intro w; go_simp) ?_
            try simp only [aPa,aPc,aPd]
            refine tkHp 4 rfl (.bool false) (by kernel_rfl) rfl (fun _ _ _=>id) hHeld (by intro w; go_simp) ?_
            try simp only [aPa,aPc,aPd]
            refine tkHp 5 rfl (.bool false) (by kernel_rfl) rfl (fun _ _ _=>id) hHeld (by intro w; go_simp) ?_
            try simp only [aPa,aPc,aPd]
            refine tkHp 6 rfl (.bool false) (by kernel_rfl) rfl (fun _ _ _=>id) hHeld (by intro w; go_simp) ?_
            try simp only [aPa,aPc,aPd]
            refine tkHp 7 rfl (.int .i64 (k:Int)) (by kernel_rfl) rfl (fun _ _ _=>id) hHeld (by intro w; go_simp) ?_
            try simp only [aPa,aPc,aPd]
            refine tkH 8 rfl (.bool false) (by kernel_rfl) rfl (fun _ _ _=>id) hHeld (by intro wz hSw; clear hSw; go_simp; first | done | rw [hd0] | rw [hd0'] | (simp; omega)) ?_
            try simp only [aPa,aPc,aPd]
            refine tkHp 9 rfl (.bool false) (by kernel_rfl) rfl (fun _ _ _=>id) hHeld (by intro w; go_simp) ?_
            try simp only [aPa,aPc,aPd]
            refine tkHn 10 rfl (by kernel_rfl) rfl (fun _ _ _=>id) hHeld ?_
            try simp only [aPa,aPc,aPd]
            refine tkHn 11 rfl (by kernel_rfl) rfl (fun _ _ _=>id) hHeld ?_
            try simp only [aPa,aPc,aPd]
            refine tkHn 12 rfl (by kernel_rfl) rfl (fun _ _ _=>id) hHeld ?_
            try simp only [aPa,aPc,aPd]
            refine tkHn 13 rfl (by kernel_rfl) rfl (fun _ _ _=>id) hHeld ?_
            try simp only [aPa,aPc,aPd]
            refine tkHn 14 rfl (by kernel_rfl) rfl (fun _ _ _=>id) hHeld ?_
            try simp only [aPa,aPc,aPd]
            refine tkHn 15 rfl (by kernel_rfl) rfl (fun _ _ _=>id) hHeld ?_
            try simp only [aPa,aPc,aPd]
            refine tkHn 16 rfl (by kernel_rfl) rfl (fun _ _ _=>id) hHeld ?_
            try simp only [aPa,aPc,aPd]
            refine tkHn 17 rfl (by kernel_rfl) rfl (fun _ _ _=>id) hHeld ?_
            try simp only [aPa,aPc,aPd]
            refine tkHn 18 rfl (by kernel_rfl) rfl (fun _ _ _=>id) hHeld ?_
            try simp only [aPa,aPc,aPd]
            refine tkHn 19 rfl (by kernel_rfl) rfl (fun _ _ _=>id) hHeld ?_
            try simp only [aPa,aPc,aPd]
            refine tkHn 20 rfl (by kernel_rfl) rfl (fun _ _ _=>id) hHeld ?_
            try simp only [aPa,aPc,aPd]
            refine tkHn 21 rfl (by kernel_rfl) rfl (fun _ _ _=>id) hHeld ?_
            try simp only [aPa,aPc,aPd]
            refine tkHn 22 rfl (by kernel_rfl) rfl (fun _ _ _=>id) hHeld ?_
            try simp only [aPa,aPc,aPd]
            refine tkHp 23 rfl (.bool false) (by kernel_rfl) rfl (fun _ _ _=>id) hHeld (by intro w; go_simp) ?_
            try simp only [aPa,aPc,aPd]
            refine tkHp 24 rfl (.bool false) (by kernel_rfl) rfl (fun _ _ _=>id) hHeld (by intro w; go_simp) ?_
            try simp only [aPa,aPc,aPd]
            refine tkHp 25 rfl (.bool false) (by kernel_rfl) rfl (fun _ _ _=>id) hHeld (by intro w; go_simp) ?_
            try simp only [aPa,aPc,aPd]
            refine tkHp 26 rfl (.slice (some ⟨b1,o1,none⟩) n cap) (by kernel_rfl) rfl (fun _ _ _=>id) hHeld (by intro w; go_simp) ?_
            try simp only [aPa,aPc,aPd]
            refine tkHp 27 rfl (.int .i64 (k:Int)) (by kernel_rfl) rfl (fun _ _ _=>id) hHeld (by intro w; go_simp) ?_
            try simp only [aPa,aPc,aPd]
            refine tkH 28 rfl (.pointer (some ⟨b1,o1 + k * 29,none⟩)) (by kernel_rfl) rfl (fun _ _ _=>id) hHeld (by intro wz hSw; clear hSw; go_simp; all_goals (first | done | (intro hh; exfalso; omega))) ?_
            try simp only [aPa,aPc,aPd]
            refine tkHp 29 rfl (.pointer (some ⟨b1,o1 + k * 29,none⟩)) (by kernel_rfl) rfl (fun _ _ _=>id) hHeld (by intro w; go_simp) ?_
            try simp only [aPa,aPc,aPd]
            refine tkH 30 rfl (.int .i64 I) (by kernel_rfl) rfl (fun _ _ _=>id) hHeld (by intro wz hSw; go_simp) ?_
            try simp only [aPa,aPc,aPd]
            refine tkH 31 rfl (.bool false) (by kernel_rfl) rfl (fun _ _ _=>id) hHeld (by intro wz hSw; clear hSw; go_simp; first | done | rw [hdm] | (simp; omega)) ?_
            try simp only [aPa,aPc,aPd]
            refine tkHp 32 rfl (.bool false) (by kernel_rfl) rfl (fun _ _ _=>id) hHeld (by intro w; go_simp) ?_
            try simp only [aPa,aPc,aPd]
            refine wpAnyH_done (by kernel_rfl) ?_ _
            have hstp:=yD7 (t:=t) (v:=v) HOK.out.base HX.out HOX1.out
            obtain ⟨g1,g2⟩:=yK8 HGOOD.out
            have HPU:=zA0 (xU8 (Un S (b10 + 1) w6) ck es (skS m t v vs k) (en zA8 x).1 (eI x - m.base - 1).toNat w6.drew.drew HRK6.out (by rw [g2]; exact HRE6.out) HSK.out hstp.1 (by rw [g2,(zL1 m t v vs k).2.2.2]; exact hstp.2.1) (fun j hj=>by rcases hj with hj | hj; exact Nat.lt_of_lt_of_le (HS.out j hj) HB6.out.size; exact hj.2.1) (by
             show _<=4194304
             by_cases hk0 : k = 0
             · rw [hk0,yI3]; show m.bs.length<=_; have:=HML.out; omega
             · have h1:=(zX7 (m:=m) (t:=t) (v:=v) (vs:=vs) (k:=k) HOK.out.base (by omega) (by have:=HN.out; omega) HOX.out).1
               have h2:=HOX.out 0 _ (by omega) (List.getElem?_eq_getElem (by have:=HN.out; omega))
               have h3 : n0 vs<=m.base + m.bs.length + 1:=h2.2.2.2
               have:=HML.out; have:=HVL.out; have:=HN.out
               omega))
            rw [hstp.2.2] at HPU
            clear hstp g1 g2
            go_wp2
            refine zD8 (fun wz:World=>wz.rangeAt b10 0 ck/\wz.rangeAt b1 (o1 + k * 29) es) 6 (by kernel_rfl) ?_
            have hHeld : (fun wz:World=>wz.rangeAt b10 0 ck/\wz.rangeAt b1 (o1 + k * 29) es) _:=⟨zM5 HG6.out,HRG6.out⟩
            refine tkLy 0 rfl (.agg ck.toArray) (by kernel_rfl) (fun _ _ _=>id) hHeld (yieldsIf_load_mid (by rfl) 39 (.tmp 10) rfl b10 0 rfl ck _ (fun _ h=>h.1) Tryz.underlying39 rfl HCKI.out) ?_
            try simp only [aPa,aPc,aPd]
            refine tkLp 1 rfl (.slice (some ⟨b1,o1,none⟩) n cap) (by kernel_rfl) rfl (fun _ _ _=>id) hHeld (by intro w; go_simp) ?_
            try simp only [aPa,aPc,aPd]
            refine tkLp 2 rfl (.int .i64 (k:Int)) (by kernel_rfl) rfl (fun _ _ _=>id) hHeld (by intro w; go_simp) ?_
            try simp only [aPa,aPc,aPd]
            refine tkL 3 rfl (.pointer (some ⟨b1,o1 + k * 29,none⟩)) (by kernel_rfl) rfl (fun _ _ _=>id) hHeld (by intro wz hSw; clear hSw; go_simp; all_goals (first | done | (intro hh; exfalso; omega))) ?_
            try simp only [aPa,aPc,aPd]
            refine tkLy 4 rfl (.agg es.toArray) (by kernel_rfl) (fun _ _ _=>id) hHeld (yieldsIf_load_mid (by rfl) 73 (.tmp 84) rfl b1 (o1 + k * 29) rfl es _ (fun _ h=>h.2) Tryz.underlying73 rfl HIN.out) ?_
            try simp only [aPa,aPc,aPd]
            refine tkLc 5 rfl (by kernel_rfl) rfl (fun K hK=>?_)
            go_simp
            refine Calls.mono HPU.out ?_
            rintro e w8 ⟨c8,rfl,hrp,hb8x⟩
            have HB68 : Hid (Below w6.heap.size w6 w8):=zA0 ⟨hb8x.os,hb8x.tape,hb8x.output,hb8x.size,hb8x.block⟩
            have HRP:=zA0 hrp
            have hc8 : c8.length = 8:=hrp.len
            have HA8 : Hid (c8.toArray.all (·.oneCell') = true):=hrp.all
            have HC8:=zA0 hc8
            have s8 : (fun wz:World=>wz.rangeAt b10 0 ck/\wz.rangeAt b1 (o1 + k * 29) es) w8:=⟨zB1 (zM5 HG6.out) (HB68.out.block b10 (by have:=HSZ6.out; omega)),zB1 HRG6.out (HB68.out.block b1 (by have:=LB1.out; have:=HB6.out.size; omega))⟩
            clear hrp hb8x hc8
            refine hK.out _ _ (fun _=>s8) ?_
            have hHeld:=s8
            clear hK K
            try simp only [aPa,aPb,aPc,aPd]
            refine tkLc 6 rfl (by kernel_rfl) rfl (fun K hK=>?_)
            clear hHeld
            refine wp_store_row 39 (.tmp 10) (.tmp 86) rfl b10 c8.toArray rfl rfl 39 ck.toArray ((HB68.out.block b10 (by have:=HSZ6.out; omega)).trans HG6.out) (by rw [z8 HC8.out]; exact zC1) (by rw [z8 HC8.out,z8 HCKL.out]) HA8.out ?_
            refine hK.out _ _ (fun h=>absurd rfl h) ?_
            clear hK K
            try simp only [aPb]
            refine zD9 (by kernel_rfl) ?_ _
            have HB69 : Hid (Below w6.heap.size w6 w8):=HB68
            obtain ⟨w9,hw9⟩ : ∃ w9,w9 = w8.setRow b10 c8.toArray:=⟨_,rfl⟩
            rw [<- hw9]
            have hk9 : ∀ j,j ≠ b10->w9.heap[j]? = w8.heap[j]?:=fun j hj=>by rw [hw9]; exact setRow_other _ _ _ _ hj
            have hs9 : w9.heap.size = w8.heap.size:=by rw [hw9]; simp [World.setRow]
            have HG9 : Hid (w9.heap[b10]? = some (.cells c8.toArray 39 (0,0))):=zA0 (by rw [hw9]; exact setRow_heap _ _ _ _ 39 _ ((HB69.out.block b10 (by have:=HSZ6.out; omega)).trans HG6.out))
            have hB89 : Below w.heap.size w8 w9:=by rw [hw9]; exact ⟨rfl,rfl,rfl,by simp [World.setRow],fun k hk=>setRow_other _ _ _ _ (by have:=HB10.out; omega)⟩
            have HB9:=zA0 ((HB6.out.trans (HB69.out.mono HB6.out.size)).trans hB89)
            have HR9 : Hid (Rep w9 (Un S (b10 + 1) w9) zB6 c8 (dec (skS m t v vs (k + 1)))):=zA0 (by
             refine HRP.out.kept (by omega) (fun j hj=>hk9 j ?_) (fun j hj=>?_)
             · rcases hj with (hj | hj) | hj
               · have:=HS.out j hj; have:=HB10.out; omega
               · have:=hj.1; omega
               · have h1 : w6.heap.size<=j:=hj.1; have:=HSZ6.out; omega
             · rcases hj with (hj | hj) | hj
               · exact .inl hj
               · exact .inr ⟨hj.1,by rw [hs9]; exact Nat.lt_of_lt_of_le hj.2.1 HB69.out.size,(hj.2.2.to (HB69.out.block j hj.2.1)).to (hk9 j (by have:=hj.1; omega))⟩
               · have h1 : w6.heap.size<=j:=hj.1
                 exact .inr ⟨by have:=HSZ6.out; omega,by rw [hs9]; exact hj.2.1,hj.2.2.to (hk9 j (by have:=HSZ6.out; omega))⟩)
            have G39:=zA0 ((hk9 _ (by have:=HB10.out; omega)).trans ((HB69.out.block _ (zA1 G36.out)).trans G36.out))
            have G69:=zA0 ((hk9 _ (by have:=HB10.out; omega)).trans ((HB69.out.block _ (zA1 G66.out)).trans G66.out))
            have HSZ9 : Hid (b10 + 1<=w9.heap.size):=zA0 (by rw [hs9]; exact Nat.le_trans HSZ6.out HB69.out.size)
            clear hw9 hk9 hs9 hB89 HPU
            go_wp2
            exact ⟨⟨k + 1,c8,by omega,by go_num,HG9,HR9,HOX1,HB9,G39,G69,HSZ9⟩,by simp [intOf]; omega⟩
          · obtain ⟨kk,rfl⟩ : ∃ kk,k = kk + 1:=⟨k - 1,by omega⟩
            have hkl2 : kk < vs.length:=by have:=HN.out; omega
            obtain ⟨_,_,es2,he2,_,hre2,hrg2⟩:=Rep.load HRL.out hkl2
            cases he2
            obtain ⟨r2,hh2,_⟩:=zD3 hre2
            obtain ⟨J,hJ⟩ : ∃ J,J = eI vs[kk]:=⟨_,rfl⟩
            have Y6 : Hid (w6.cell? ⟨b1,o1 + kk * 29,none⟩ = some (.int .i64 J)):=zA0 (by
             rw [HB6.out.cell (p:=⟨b1,o1 + kk * 29,none⟩) LB1.out]
             have:=hrg2 0 (.int .i64 (eI vs[kk])) (by rw [hh2]; rfl)
             rw [hJ]; simpa using this)
            have hox2:=HOX.out kk vs[kk] (by omega) (List.getElem?_eq_getElem hkl2)
            have hJ1 : J = n0 vs + kk:=by rw [hJ]; exact hox2.2.1
            have hJb : J<=1099511627776:=by rw [hJ]; exact xG0 hox2.1
            have hJ0 : 0<=J:=by have:=hox2.2.2.1; have:=HOK.out.base.1; omega
            have hd0 : decide ((0:Int) < ((kk + 1 : Nat) : Int)) = true:=decide_eq_true (by omega)
            have hd0' : decide (0 < kk + 1) = true:=decide_eq_true (by omega)
            have hdm : decide ((1099511627776:Int) < I) = false:=decide_eq_false (by omega)
            have HJ1:=zA0 hJ1
            clear hre2 hrg2 hh2 hJ r2 hkz
            by_cases hIJ : I = J + 1
            · have HOX1 : Hid (∀ (j:Nat) (x:En),j < kk + 1 + 1->vs[j]? = some x->okX m vs j x):=zA0 (fun j y hj hy=>by
                by_cases hj2 : j < kk + 1
                · exact HOX.out j y hj2 hy
                · have hj0 : j = kk + 1:=by omega
                  subst hj0
                  have hyx : y = x:=by rw [HX.out] at hy; exact (Option.some.inj hy).symm
                  subst hyx
                  exact ⟨HGOOD.out,by rw [<- HI.out,hIJ,hJ1]; omega,hox2.2.2.1,hox2.2.2.2⟩)
              have hdn : decide (¬ I = J + 1) = false:=decide_eq_false (fun h=>h hIJ)
              subst hbc
              have HIJ:=zA0 hIJ
              clear hox2 hkl2 hJ1 hIle hIJ
              go_wp2
              refine wp_region_held_drew (S:=fun wz : World=>wz.cell? ⟨b1,o1 + (kk + 1) * 29,none⟩ = some (.int .i64 I)/\wz.cell? ⟨b1,o1 + kk * 29,none⟩ = some (.int .i64 J)) (by kernel_rfl) ⟨X6.out,Y6.out⟩ (fun hHeld=>?_)
              refine tkHp 0 rfl (.int .i64 0) (by kernel_rfl) rfl (fun _ _ _=>id) hHeld (by intro w; go_simp) ?_
              try simp only [aPa,aPc,aPd]
              refine tkHp 1 rfl (.bool false) (by kernel_rfl) rfl (fun _ _ _=>id) hHeld (by intro w; go_simp) ?_
              try simp only [aPa,aPc,aPd]
              refine tkHp 2 rfl (.bool false) (by kernel_rfl) rfl (fun _ _ _=>id) hHeld (by intro w; go_simp) ?_
              try simp only [aPa,aPc,aPd]
              refine tkHp 3 rfl (.bool true) (by kernel_rfl) rfl (fun _ _ _=>id) hHeld (by intro w; go_simp) ?_
              try simp only [aPa,aPc,aPd]
              refine tkHp 4 rfl (.bool false) (by kernel_rfl) rfl (fun _ _ _=>id) hHeld (by intro w; go_simp) ?_
              try simp only [aPa,aPc,aPd]
              refine tkHp 5 rfl (.bool false) (by kernel_rfl) rfl (fun _ _ _=>id) hHeld (by intro w; go_simp) ?_
              try simp only [aPa,aPc,aPd]
              refine tkHp 6 rfl (.bool false) (by kernel_rfl) rfl (fun _ _ _=>id) hHeld (by intro w; go_simp) ?_
              try simp only [aPa,aPc,aPd]
              refine tkHp 7 rfl (.int .i64 ((kk + 1 : Nat) : Int)) (by kernel_rfl) rfl (fun _ _ _=>id) hHeld (by intro w; go_simp) ?_
              try simp only [aPa,aPc,aPd]
              refine tkH 8 rfl (.bool true) (by kernel_rfl) rfl (fun _ _ _=>id) hHeld (by intro wz hSw; clear hSw; go_simp; first | done | rw [hd0] | rw [hd0'] | (simp; omega)) ?_
              try simp only [aPa,aPc,aPd]
              refine tkHp 9 rfl (.bool true) (by kernel_rfl) rfl (fun _ _ _=>id) hHeld (by intro w; go_simp) ?_
              try simp only [aPa,aPc,aPd]
              refine tkHp 10 rfl (.slice (some ⟨b1,o1,none⟩) n cap) (by kernel_rfl) rfl (fun _ _ _=>id) hHeld (by intro w; go_simp) ?_
              try simp only [aPa,aPc,aPd]
              refine tkHp 11 rfl (.int .i64 ((kk + 1 : Nat) : Int)) (by kernel_rfl) rfl (fun _ _ _=>id) hHeld (by intro w; go_simp) ?_
              try simp only [aPa,aPc,aPd]
              refine tkH 12 rfl (.pointer (some ⟨b1,o1 + (kk + 1) * 29,none⟩)) (by kernel_rfl) rfl (fun _ _ _=>id) hHeld (by intro wz hSw; clear hSw; go_simp; all_goals (first | done | (intro hh; exfalso; omega))) ?_
              try simp only [aPa,aPc,aPd]
              refine tkHp 13 rfl (.pointer (some ⟨b1,o1 + (kk + 1) * 29,none⟩)) (by kernel_rfl) rfl (fun _ _ _=>id) hHeld (by intro w; go_simp) ?_
              try simp only [aPa,aPc,aPd]
              refine tkH 14 rfl (.int .i64 I) (by kernel_rfl) rfl (fun _ _ _=>id) hHeld (by intro wz hSw; obtain ⟨e1,e2⟩:=hSw; clear e2; go_simp) ?_
              try simp only [aPa,aPc,aPd]
              refine tkHp 15 rfl (.slice (some ⟨b1,o1,none⟩) n cap) (by kernel_rfl) rfl (fun _ _ _=>id) hHeld (by intro w; go_simp) ?_
              try simp only [aPa,aPc,aPd]
              refine tkHp 16 rfl (.int .i64 ((kk + 1 : Nat) : Int)) (by kernel_rfl) rfl (fun _ _ _=>id) hHeld (by intro w; go_simp) ?_
              try simp only [aPa,aPc,aPd]
              refine tkH 17 rfl (.int .i64 (kk:Int)) (by kernel_rfl) rfl (fun _ _ _=>id) hHeld (by intro wz hSw; clear hSw; go_simp; all_goals (first | done | (rw [IntKind.wrap_i64] <;> omega) | go_num)) ?_
              try simp only [aPa,aPc,aPd]
              refine tkH 18 rfl (.pointer (some ⟨b1,o1 + kk * 29,none⟩)) (by kernel_rfl) rfl (fun _ _ _=>id) hHeld (by intro wz hSw; clear hSw; go_simp; all_goals (first | done | (intro hh; exfalso; omega))) ?_
              try simp only [aPa,aPc,aPd]
              refine tkHp 19 rfl (.pointer (some ⟨b1,o1 + kk * 29,none⟩)) (by kernel_rfl) rfl (fun _ _ _=>id) hHeld (by intro w; go_simp) ?_
              try simp only [aPa,aPc,aPd]
              refine tkH 20 rfl (.int .i64 J) (by kernel_rfl) rfl (fun _ _ _=>id) hHeld (by intro wz hSw; obtain ⟨e1,e2⟩:=hSw; clear e1; go_simp) ?_
              try simp only [aPa,aPc,aPd]
              refine tkH 21 rfl (.int .i64 (J + 1)) (by kernel_rfl) rfl (fun _ _ _=>id) hHeld (by intro wz hSw; clear hSw; go_simp; all_goals (first | done | (rw [IntKind.wrap_i64] <;> omega))) ?_
              try simp only [aPa,aPc,aPd]
              refine tkH 22 rfl (.bool false) (by kernel_rfl) rfl (fun _ _ _=>id) hHeld (by intro wz hSw; clear hSw; go_simp; all_goals (first | done | rw [hdn] | exact HIJ.out | (simp; exact HIJ.out))) ?_
              try simp only [aPa,aPc,aPd]
              refine tkHp 23 rfl (.bool false) (by kernel_rfl) rfl (fun _ _ _=>id) hHeld (by intro w; go_simp) ?_
              try simp only [aPa,aPc,aPd]
              refine tkHp 24 rfl (.bool false) (by kernel_rfl) rfl (fun _ _ _=>id) hHeld (by intro w; go_simp) ?_
              try simp only [aPa,aPc,aPd]
              refine tkHp 25 rfl (.bool false) (by kernel_rfl) rfl (fun _ _ _=>id) hHeld (by intro w; go_simp) ?_
              try simp only [aPa,aPc,aPd]
              refine tkHp 26 rfl (.slice (some ⟨b1,o1,none⟩) n cap) (by kernel_rfl) rfl (fun _ _ _=>id) hHeld (by intro w; go_simp) ?_
              try simp only [aPa,aPc,aPd]
              refine tkHp 27 rfl (.int .i64 ((kk + 1 : Nat) : Int)) (by kernel_rfl) rfl (fun _ _ _=>id) hHeld (by intro w; go_simp) ?_
              try simp only [aPa,aPc,aPd]
              refine tkH 28 rfl (.pointer (some ⟨b1,o1 + (kk + 1) * 29,none⟩)) (by kernel_rfl) rfl (fun _ _ _=>id) hHeld (by intro wz hSw; clear hSw; go_simp; all_goals (first | done | (intro hh; exfalso; omega))) ?_
              try simp only [aPa,aPc,aPd]
              refine tkHp 29 rfl (.pointer (some ⟨b1,o1 + (kk + 1) * 29,none⟩)) (by kernel_rfl) rfl (fun _ _ _=>id) hHeld (by intro w; go_simp) ?_
              try simp only [aPa,aPc,aPd]
              refine tkH 30 rfl (.int .i64 I) (by kernel_rfl) rfl (fun _ _ _=>id) hHeld (by intro wz hSw; obtain ⟨e1,e2⟩:=hSw; clear e2; go_simp) ?_
              try simp only [aPa,aPc,aPd]
              refine tkH 31 rfl (.bool false) (by kernel_rfl) rfl (fun _ _ _=>id) hHeld (by intro wz hSw; clear hSw; go_simp; first | done | rw [hdm] | (simp; omega)) ?_
              try simp only [aPa,aPc,aPd]
              refine tkHp 32 rfl (.bool false) (by kernel_rfl) rfl (fun _ _ _=>id) hHeld (by intro w; go_simp) ?_
              try simp only [aPa,aPc,aPd]
              refine wpAnyH_done (by kernel_rfl) ?_ _
              have hstp:=yD7 (t:=t) (v:=v) HOK.out.base HX.out HOX1.out
              obtain ⟨g1,g2⟩:=yK8 HGOOD.out
              have HPU:=zA0 (xU8 (Un S (b10 + 1) w6) ck es (skS m t v vs (kk + 1)) (en zA8 x).1 (eI x - m.base - 1).toNat w6.drew.drew HRK6.out (by rw [g2]; exact HRE6.out) HSK.out hstp.1 (by rw [g2,(zL1 m t v vs (kk + 1)).2.2.2]; exact hstp.2.1) (fun j hj=>by rcases hj with hj | hj; exact Nat.lt_of_lt_of_le (HS.out j hj) HB6.out.size; exact hj.2.1) (by
               show _<=4194304
               by_cases hk0 : (kk + 1) = 0
               · rw [hk0,yI3]; show m.bs.length<=_; have:=HML.out; omega
               · have h1:=(zX7 (m:=m) (t:=t) (v:=v) (vs:=vs) (k:=(kk + 1)) HOK.out.base (by omega) (by have:=HN.out; omega) HOX.out).1
                 have h2:=HOX.out 0 _ (by omega) (List.getElem?_eq_getElem (by have:=HN.out; omega))
                 have h3 : n0 vs<=m.base + m.bs.length + 1:=h2.2.2.2
                 have:=HML.out; have:=HVL.out; have:=HN.out
                 omega))
              rw [hstp.2.2] at HPU
              clear hstp g1 g2
              go_wp2
              refine zD8 (fun wz:World=>wz.rangeAt b10 0 ck/\wz.rangeAt b1 (o1 + (kk + 1) * 29) es) 6 (by kernel_rfl) ?_
              have hHeld : (fun wz:World=>wz.rangeAt b10 0 ck/\wz.rangeAt b1 (o1 + (kk + 1) * 29) es) _:=⟨zM5 HG6.out,HRG6.out⟩
              refine tkLy 0 rfl (.agg ck.toArray) (by kernel_rfl) (fun _ _ _=>id) hHeld (yieldsIf_load_mid (by rfl) 39 (.tmp 10) rfl b10 0 rfl ck _ (fun _ h=>h.1) Tryz.underlying39 rfl HCKI.out) ?_
              try simp only [aPa,aPc,aPd]
              refine tkLp 1 rfl (.slice (some ⟨b1,o1,none⟩) n cap) (by kernel_rfl) rfl (fun _ _ _=>id) hHeld (by intro w; go_simp) ?_
              try simp only [aPa,aPc,aPd]
              refine tkLp 2 rfl (.int .i64 ((kk + 1 : Nat) : Int)) (by kernel_rfl) rfl (fun _ _ _=>id) hHeld (by intro w; go_simp) ?_
              try simp only [aPa,aPc,aPd]
              refine tkL 3 rfl (.pointer (some ⟨b1,o1 + (kk + 1) * 29,none⟩)) (by kernel_rfl) rfl (fun _ _ _=>id) hHeld (by intro wz hSw; clear hSw; go_simp; all_goals (first | done | (intro hh; exfalso; omega))) ?_
              try simp only [aPa,aPc,aPd]
              refine tkLy 4 rfl (.agg es.toArray) (by kernel_rfl) (fun _ _ _=>id) hHeld (yieldsIf_load_mid (by rfl) 73 (.tmp 84) rfl b1 (o1 + (kk + 1) * 29) rfl es _ (fun _ h=>h.2) Tryz.underlying73 rfl HIN.out) ?_
              try simp only [aPa,aPc,aPd]
              refine tkLc 5 rfl (by kernel_rfl) rfl (fun K hK=>?_)
              go_simp
              refine Calls.mono HPU.out ?_
              rintro e w8 ⟨c8,rfl,hrp,hb8x⟩
              have HB68 : Hid (Below w6.heap.size w6 w8):=zA0 ⟨hb8x.os,hb8x.tape,hb8x.output,hb8x.size,hb8x.block⟩
              have HRP:=zA0 hrp
              have hc8 : c8.length = 8:=hrp.len
              have HA8 : Hid (c8.toArray.all (·.oneCell') = true):=hrp.all
              have HC8:=zA0 hc8
              have s8 : (fun wz:World=>wz.rangeAt b10 0 ck/\wz.rangeAt b1 (o1 + (kk + 1) * 29) es) w8:=⟨zB1 (zM5 HG6.out) (HB68.out.block b10 (by have:=HSZ6.out; omega)),zB1 HRG6.out (HB68.out.block b1 (by have:=LB1.out; have:=HB6.out.size; omega))⟩
              clear hrp hb8x hc8
              refine hK.out _ _ (fun _=>s8) ?_
              have hHeld:=s8
              clear hK K
              try simp only [aPa,aPb,aPc,aPd]
              refine tkLc 6 rfl (by kernel_rfl) rfl (fun K hK=>?_)
              clear hHeld
              refine wp_store_row 39 (.tmp 10) (.tmp 86) rfl b10 c8.toArray rfl rfl 39 ck.toArray ((HB68.out.block b10 (by have:=HSZ6.out; omega)).trans HG6.out) (by rw [z8 HC8.out]; exact zC1) (by rw [z8 HC8.out,z8 HCKL.out]) HA8.out ?_
              refine hK.out _ _ (fun h=>absurd rfl h) ?_
              clear hK K
              try simp only [aPb]
              refine zD9 (by kernel_rfl) ?_ _
              have HB69 : Hid (Below w6.heap.size w6 w8):=HB68
              obtain ⟨w9,hw9⟩ : ∃ w9,w9 = w8.setRow b10 c8.toArray:=⟨_,rfl⟩
              rw [<- hw9]
              have hk9 : ∀ j,j ≠ b10->w9.heap[j]? = w8.heap[j]?:=fun j hj=>by rw [hw9]; exact setRow_other _ _ _ _ hj
              have hs9 : w9.heap.size = w8.heap.size:=by rw [hw9]; simp [World.setRow]
              have HG9 : Hid (w9.heap[b10]? = some (.cells c8.toArray 39 (0,0))):=zA0 (by rw [hw9]; exact setRow_heap _ _ _ _ 39 _ ((HB69.out.block b10 (by have:=HSZ6.out; omega)).trans HG6.out))
              have hB89 : Below w.heap.size w8 w9:=by rw [hw9]; exact ⟨rfl,rfl,rfl,by simp [World.setRow],fun k hk=>setRow_other _ _ _ _ (by have:=HB10.out; omega)⟩
              have HB9:=zA0 ((HB6.out.trans (HB69.out.mono HB6.out.size)).trans hB89)
              have HR9 : Hid (Rep w9 (Un S (b10 + 1) w9) zB6 c8 (dec (skS m t v vs ((kk + 1) + 1)))):=zA0 (by
               refine HRP.out.kept (by omega) (fun j hj=>hk9 j ?_) (fun j hj=>?_)
               · rcases hj with (hj | hj) | hj
                 · have:=HS.out j hj; have:=HB10.out; omega
                 · have:=hj.1; omega
                 · have h1 : w6.heap.size<=j:=hj.1; have:=HSZ6.out; omega
               · rcases hj with (hj | hj) | hj
                 · exact .inl hj
                 · exact .inr ⟨hj.1,by rw [hs9]; exact Nat.lt_of_lt_of_le hj.2.1 HB69.out.size,(hj.2.2.to (HB69.out.block j hj.2.1)).to (hk9 j (by have:=hj.1; omega))⟩
                 · have h1 : w6.heap.size<=j:=hj.1
                   exact .inr ⟨by have:=HSZ6.out; omega,by rw [hs9]; exact hj.2.1,hj.2.2.to (hk9 j (by have:=HSZ6.out; omega))⟩)
              have G39:=zA0 ((hk9 _ (by have:=HB10.out; omega)).trans ((HB69.out.block _ (zA1 G36.out)).trans G36.out))
              have G69:=zA0 ((hk9 _ (by have:=HB10.out; omega)).trans ((HB69.out.block _ (zA1 G66.out)).trans G66.out))
              have HSZ9 : Hid (b10 + 1<=w9.heap.size):=zA0 (by rw [hs9]; exact Nat.le_trans HSZ6.out HB69.out.size)
              clear hw9 hk9 hs9 hB89 HPU
              go_wp2
              exact ⟨⟨(kk + 1) + 1,c8,by omega,by go_num,HG9,HR9,HOX1,HB9,G39,G69,HSZ9⟩,by simp [intOf]; omega⟩
            · have HNA : Hid (¬ accS m t v vs):=zA0 (HERR.out (fun h=>hIJ (by rw [HI.out,h.2.1,hJ1]; omega)))
              have hdn : decide (¬ I = J + 1) = true:=decide_eq_true hIJ
              subst hbc
              have HIJ:=zA0 hIJ
              clear hox2 hkl2 hJ1 hIle hIJ
              go_wp2
              refine wp_region_held_drew (S:=fun wz : World=>wz.cell? ⟨b1,o1 + (kk + 1) * 29,none⟩ = some (.int .i64 I)/\wz.cell? ⟨b1,o1 + kk * 29,none⟩ = some (.int .i64 J)) (by kernel_rfl) ⟨X6.out,Y6.out⟩ (fun hHeld=>?_)
              refine tkHp 0 rfl (.int .i64 0) (by kernel_rfl) rfl (fun _ _ _=>id) hHeld (by intro w; go_simp) ?_
              try simp only [aPa,aPc,aPd]
              refine tkHp 1 rfl (.bool false) (by kernel_rfl) rfl (fun _ _ _=>id) hHeld (by intro w; go_simp) ?_
              try simp only [aPa,aPc,aPd]
              refine tkHp 2 rfl (.bool false) (by kernel_rfl) rfl (fun _ _ _=>id) hHeld (by intro w; go_simp) ?_
              try simp only [aPa,aPc,aPd]
              refine tkHp 3 rfl (.bool true) (by kernel_rfl) rfl (fun _ _ _=>id) hHeld (by intro w; go_simp) ?_
              try simp only [aPa,aPc,aPd]
              refine tkHp 4 rfl (.bool false) (by kernel_rfl) rfl (fun _ _ _=>id) hHeld (by intro w; go_simp) ?_
              try simp only [aPa,aPc,aPd]
              refine tkHp 5 rfl (.bool false) (by kernel_rfl) rfl (fun _ _ _=>id) hHeld (by intro w; go_simp) ?_
              try simp only [aPa,aPc,aPd]
              refine tkHp 6 rfl (.bool false) (by kernel_rfl) rfl (fun _ _ _=>id) hHeld (by intro w; go_simp) ?_
              try simp only [aPa,aPc,aPd]
              refine tkHp 7 rfl (.int .i64 ((kk + 1 : Nat) : Int)) (by kernel_rfl) rfl (fun _ _ _=>id) hHeld (by intro w; go_simp) ?_
              try simp only [aPa,aPc,aPd]
              refine tkH 8 rfl (.bool true) (by kernel_rfl) rfl (fun _ _ _=>id) hHeld (by intro wz hSw; clear hSw; go_simp; first | done | rw [hd0] | rw [hd0'] | (simp; omega)) ?_
              try simp only [aPa,aPc,aPd]
              refine tkHp 9 rfl (.bool true) (by kernel_rfl) rfl (fun _ _ _=>id) hHeld (by intro w; go_simp) ?_
              try simp only [aPa,aPc,aPd]
              refine tkHp 10 rfl (.slice (some ⟨b1,o1,none⟩) n cap) (by kernel_rfl) rfl (fun _ _ _=>id) hHeld (by intro w; go_simp) ?_
              try simp only [aPa,aPc,aPd]
              refine tkHp 11 rfl (.int .i64 ((kk + 1 : Nat) : Int)) (by kernel_rfl) rfl (fun _ _ _=>id) hHeld (by intro w; go_simp) ?_
              try simp only [aPa,aPc,aPd]
              refine tkH 12 rfl (.pointer (some ⟨b1,o1 + (kk + 1) * 29,none⟩)) (by kernel_rfl) rfl (fun _ _ _=>id) hHeld (by intro wz hSw; clear hSw; go_simp; all_goals (first | done | (intro hh; exfalso; omega))) ?_
              try simp only [aPa,aPc,aPd]
              refine tkHp 13 rfl (.pointer (some ⟨b1,o1 + (kk + 1) * 29,none⟩)) (by kernel_rfl) rfl (fun _ _ _=>id) hHeld (by intro w; go_simp) ?_
              try simp only [aPa,aPc,aPd]
              refine tkH 14 rfl (.int .i64 I) (by kernel_rfl) rfl (fun _ _ _=>id) hHeld (by intro wz hSw; obtain ⟨e1,e2⟩:=hSw; clear e2; go_simp) ?_
              try simp only [aPa,aPc,aPd]
              refine tkHp 15 rfl (.slice (some ⟨b1,o1,none⟩) n cap) (by kernel_rfl) rfl (fun _ _ _=>id) hHeld (by intro w; go_simp) ?_
              try simp only [aPa,aPc,aPd]
              refine tkHp 16 rfl (.int .i64 ((kk + 1 : Nat) : Int)) (by kernel_rfl) rfl (fun _ _ _=>id) hHeld (by intro w; go_simp) ?_
              try simp only [aPa,aPc,aPd]
              refine tkH 17 rfl (.int .i64 (kk:Int)) (by kernel_rfl) rfl (fun _ _ _=>id) hHeld (by intro wz hSw; clear hSw; go_simp; all_goals (first | done | (rw [IntKind.wrap_i64] <;> omega) | go_num)) ?_
              try simp only [aPa,aPc,aPd]
              refine tkH 18 rfl (.pointer (some ⟨b1,o1 + kk * 29,none⟩)) (by kernel_rfl) rfl (fun _ _ _=>id) hHeld (by intro wz hSw; clear hSw; go_simp; all_goals (first | done | (intro hh; exfalso; omega))) ?_
              try simp only [aPa,aPc,aPd]
              refine tkHp 19 rfl (.pointer (some ⟨b1,o1 + kk * 29,none⟩)) (by kernel_rfl) rfl (fun _ _ _=>id) hHeld (by intro w; go_simp) ?_
              try simp only [aPa,aPc,aPd]
              refine tkH 20 rfl (.int .i64 J) (by kernel_rfl) rfl (fun _ _ _=>id) hHeld (by intro wz hSw; obtain ⟨e1,e2⟩:=hSw; clear e1; go_simp) ?_
              try simp only [aPa,aPc,aPd]
              refine tkH 21 rfl (.int .i64 (J + 1)) (by kernel_rfl) rfl (fun _ _ _=>id) hHeld (by intro wz hSw; clear hSw; go_simp; all_goals (first | done | (rw [IntKind.wrap_i64] <;> omega))) ?_
              try simp only [aPa,aPc,aPd]
              refine tkH 22 rfl (.bool true) (by kernel_rfl) rfl (fun _ _ _=>id) hHeld (by intro wz hSw; clear hSw; go_simp; all_goals (first | done | rw [hdn] | exact HIJ.out | (simp; exact HIJ.out))) ?_
              try simp only [aPa,aPc,aPd]
              refine tkHp 23 rfl (.bool true) (by kernel_rfl) rfl (fun _ _ _=>id) hHeld (by intro w; go_simp) ?_
              try simp only [aPa,aPc,aPd]
              refine tkHp 24 rfl (.bool true) (by kernel_rfl) rfl (fun _ _ _=>id) hHeld (by intro w; go_simp) ?_
              try simp only [aPa,aPc,aPd]
              refine tkHp 25 rfl (.bool true) (by kernel_rfl) rfl (fun _ _ _=>id) hHeld (by intro w; go_simp) ?_
              try simp only [aPa,aPc,aPd]
              refine tkHn 26 rfl (by kernel_rfl) rfl (fun _ _ _=>id) hHeld ?_
              try simp only [aPa,aPc,aPd]
              refine tkHn 27 rfl (by kernel_rfl) rfl (fun _ _ _=>id) hHeld ?_
              try simp only [aPa,aPc,aPd]
              refine tkHn 28 rfl (by kernel_rfl) rfl (fun _ _ _=>id) hHeld ?_
              try simp only [aPa,aPc,aPd]
              refine tkHn 29 rfl (by kernel_rfl) rfl (fun _ _ _=>id) hHeld ?_
              try simp only [aPa,aPc,aPd]
              refine tkHn 30 rfl (by kernel_rfl) rfl (fun _ _ _=>id) hHeld ?_
              try simp only [aPa,aPc,aPd]
              refine tkHn 31 rfl (by kernel_rfl) rfl (fun _ _ _=>id) hHeld ?_
              try simp only [aPa,aPc,aPd]
              refine tkHp 32 rfl (.bool true) (by kernel_rfl) rfl (fun _ _ _=>id) hHeld (by intro w; go_simp) ?_
              try simp only [aPa,aPc,aPd]
              refine wpAnyH_done (by kernel_rfl) ?_ _
              go_wp2_with (first
               | (refine wpList_load_row rfl 39 (.tmp 3) rfl w.heap.size rfl 39 cs.toArray (0,0) _ (show w6.drew.heap[w.heap.size]? = _ from G36.out) Tryz.underlying39 rfl HCI.out ?_)
               | (refine zA5 rfl 39 (.tmp 6) (.tmp 80) rfl (w.heap.size + 2) cs.toArray rfl rfl 39 Z39 (show w6.drew.heap[w.heap.size + 2]? = _ from G66.out) HCI.out (by rw [z8 HCL.out]; rfl) HCA.out ?nz))
              case nz =>
               intro w9 hw9h
               have G9 : Hid (w9.heap[w.heap.size + 2]? = some (.cells cs.toArray 39 (0,0))):=zA0 (by rw [hw9h.out]; exact setRow_heap _ _ _ _ 39 _ (show w6.drew.heap[w.heap.size + 2]? = _ from G66.out))
               have HB9 : Hid (Below w.heap.size w w9):=zA0 (HB6.out.drew.trans (by rw [hw9h.out]; exact ⟨rfl,rfl,rfl,by simp [World.setRow],fun k hk=>setRow_other _ _ _ _ (by omega)⟩))
               clear hw9h
               go_wp2
               refine bodyPost_ret (v:=.tuple #[.agg cs.toArray,.int .i64 1]) ?_ rfl (HFAIL.out _ HB9.out G9.out HNA.out)
               exact xB7 _ _ (w.heap.size + 2) _ _ (z8 HCL.out) rfl rfl G9.out
     · have hke : k = n:=by omega
       have HACC : Hid (accS m t v vs):=zA0 ⟨fun i x hx=>HOX.out i x (by obtain ⟨h1,_⟩:=List.getElem?_eq_some_iff.1 hx; have:=HN.out; omega) hx,HH.out⟩
       have HSE : Hid (skS m t v vs k = nxS m t v vs):=zA0 (by rw [hke,HN.out]; exact xU1)
       clear hke
       go_wp2_with (first
        | (refine wpList_load_row rfl 39 (.tmp 10) rfl b10 rfl 39 ck.toArray (0,0) _ HG.out Tryz.underlying39 rfl HCKS.out ?_)
        | (refine zA5 rfl 39 (.tmp 6) (.tmp 87) rfl (w.heap.size + 2) ck.toArray rfl rfl 39 Z39 G6.out HCKS.out (by rw [z8 HCKL.out]; rfl) HCKA.out ?ny))
       case ny =>
        intro w9 hw9h
        have hk9 : ∀ j,j ≠ w.heap.size + 2->w9.heap[j]? = wr.heap[j]?:=fun j hj=>by rw [hw9h.out]; exact setRow_other _ _ _ _ hj
        have G9 : Hid (w9.heap[w.heap.size + 2]? = some (.cells ck.toArray 39 (0,0))):=zA0 (by rw [hw9h.out]; exact setRow_heap _ _ _ _ 39 _ G6.out)
        have hB9 : Below w.heap.size wr w9:=by rw [hw9h.out]; exact ⟨rfl,rfl,rfl,by simp [World.setRow],fun k hk=>setRow_other _ _ _ _ (by omega)⟩
        have HR9 : Hid (Rep w9 (Un S w.heap.size w9) zB6 ck (dec (nxS m t v vs))):=zA0 (by
         rw [<- HSE.out]
         refine HRK.out.kept hB9.size (fun j hj=>hk9 j ?_) (fun j hj=>?_)
         · rcases hj with hj | hj
           · have:=HS.out j hj; omega
           · have:=hj.1; have:=HB10.out; omega
         · rcases hj with hj | hj
           · exact .inl hj
           · refine .inr ⟨by have:=hj.1; have:=HB10.out; omega,Nat.lt_of_lt_of_le hj.2.1 hB9.size,hj.2.2.to (hk9 j (by have:=hj.1; have:=HB10.out; omega))⟩)
        have HB9:=zA0 (HBR.out.trans hB9)
        clear hw9h hk9 hB9
        go_wp2
        refine bodyPost_ret (v:=.tuple #[.agg ck.toArray,.int .i64 0]) ?_ rfl ⟨ck,0,nxS m t v vs,rfl,HR9.out,HB9.out,.inl ⟨HACC.out,rfl,rfl⟩⟩
        exact xB7 _ _ (w.heap.size + 2) _ _ (z8 HCKL.out) rfl rfl G9.out
 · have HNA : Hid (¬ accS m t v vs):=zA0 (fun h=>hH h.2)
   rw [decide_eq_false hH]
   clear hH
   go_wp2_with (first
    | (refine wpList_load_row rfl 39 (.tmp 3) rfl w.heap.size rfl 39 cs.toArray (0,0) _ G32.out Tryz.underlying39 rfl HCI.out ?_)
    | (refine zA5 rfl 39 (.tmp 6) (.tmp 22) rfl (w.heap.size + 2) cs.toArray rfl rfl 39 Z39 G62.out HCI.out (by rw [z8 HCL.out]; rfl) HCA.out ?nz))
   case nz =>
    intro w9 hw9h
    have G9 : Hid (w9.heap[w.heap.size + 2]? = some (.cells cs.toArray 39 (0,0))):=zA0 (by rw [hw9h.out]; exact setRow_heap _ _ _ _ 39 _ G62.out)
    have HB9 : Hid (Below w.heap.size w w9):=zA0 (HB02.out.trans (by rw [hw9h.out]; exact ⟨rfl,rfl,rfl,by simp [World.setRow],fun k hk=>setRow_other _ _ _ _ (by omega)⟩))
    clear hw9h
    go_wp2
    refine bodyPost_ret (v:=.tuple #[.agg cs.toArray,.int .i64 1]) ?_ rfl (HFAIL.out _ HB9.out G9.out HNA.out)
    exact xB7 _ _ (w.heap.size + 2) _ _ (z8 HCL.out) rfl rfl G9.out
end
end Go.Proofs.YtocoimjhglackaaGreat
