/- Wfj -/
import Derived.Test.YtocoimjhglackaaGreatK26
import Derived.Great.BuildSlice
import Derived.Deep.Cut
set_option maxHeartbeats 8000000
set_option maxRecDepth 100000
namespace Go.Proofs.YtocoimjhglackaaGreat
section
open Go.RowKit Go.Maps
def zB6 : Fm:=.cat (.cat .num .num) (.cat zA2 (.lst zA8))
def snV (s:Sd) : Sn:=match s.sn with
 | none=>zH0
 | some b=>dS b
def dec (s:Sd) : Vl zB6:=((s.t,s.v),snV s,s.bs.map dE)
def Z39 : Array Value:=#[.int .i64 0,.int .i64 0,.int .i64 0,.int .i64 0,.slice none 0 0,.slice none 0 0,.slice none 0 0,.slice none 0 0]
theorem zC1 : (Tryz.prog.info? 39).map (·.size) = some 8:=by kernel_rfl
theorem xE5 : (Tryz.prog.info? 73).map (fun i=>(i.zero,i.size,i.bytes)) = some (some (.agg zB7),29,320):=by kernel_rfl
theorem xJ7 (w:World) (c:List Value) (hc:c.length = 29) : (Instr.buildSlice 37 1 #[(0,.agg c.toArray)]).run Tryz.prog w = .ok (.slice (some ⟨w.heap.size,0,none⟩) 1 1) (w.alloc (.cells c.toArray 73)):=by
 obtain ⟨i,hi,hz,h1,h2⟩:=info_parts xE5
 refine run_buildSlice w 37 73 1 _ c.toArray i _ Tryz.underlying37 hi hz (by rw [h1]; decide) (by rw [h1]; decide) ?_
 rw [h1]
 have:=Great.fill_whole (s:=29) (by decide) [.agg c.toArray] ((Array.range (1 * 29)).map (fun k=>(Value.agg zB7).cells[k % (Value.agg zB7).cells.size]!)) (fun v hv=>by rw [List.mem_singleton.1 hv]; simpa [Value.cells] using hc) (by simp)
 simpa [Value.cells] using this
theorem yI8 {o:Oper} {a:Act} {K:Act->World->Prop} {Q:Exit->Act->World->Prop} (w:World) (x:Operand) (ho:o.op = .buildSlice 37 1 #[(0,x)]) (c:List Value) (hc:c.length = 29) (hx:a.eval x = .agg c.toArray)
    (h:K (a.put o.dst (.slice (some ⟨w.heap.size,0,none⟩) 1 1)) (w.alloc (.cells c.toArray 73))) : Oper.wp Tryz.prog o a w K Q:=by
 unfold Oper.wp execOp
 simp only [ho,List.map_toArray,List.map_cons,List.map_nil,hx,Sem.run_bind,xJ7 w c hc,Result.andThen_ok]
 exact h
theorem zK7 {ops:Array Oper} {rest:List Oper} {o:Oper} {a:Act} {w:World} {Q:Exit->Act->World->Prop} (hg:o.guard = none) (x:Operand) (ho:o.op = .buildSlice 37 1 #[(0,x)]) (c:List Value) (hc:c.length = 29) (hx:a.eval x = .agg c.toArray)
    (h:wpList Tryz.prog ops Q rest (a.put o.dst (.slice (some ⟨w.heap.size,0,none⟩) 1 1)) (w.alloc (.cells c.toArray 73))) : wpList Tryz.prog ops Q (o :: rest) a w :=
 wpList_plain hg fun _ hK=>yI8 w x ho c hc hx (hK _ _ h)
theorem xB5 (w:World) (ty:TypeId) (base:Nat) (v:Value) (n:Nat) (xs:List Value) (hown:w.ownsRow base 73 29 v n xs) (ad:Addr) (es:List Value) (hl:es.length = 29) (hnews:∀ j u,es[j]? = some u->w.cell? (ad.add j) = some u) (h1:∀ u ∈ es,u.oneCell' = true) (hn:n + 1<=8388608) (hbase:base<=w.heap.size) :
    ∃ v' w',(Builtin.append_ #[37,37] ty #[v,.slice (some ad) 1 1]).run Tryz.prog w = .ok v' w'/\w'.ownsRow base 73 29 v' (n + 1) (xs ++ es)/\w.grownBy w' v.ownBlock/\(v'.ownBlock = v.ownBlock\/v'.ownBlock = some w.heap.size):=by
 obtain ⟨i0,hi,hz0,hz1,hz2⟩:=info_parts xE5
 obtain ⟨v',w',g1,g2,g3,_,g5⟩:=run_append_own_at (P:=Tryz.prog) w base 37 ty 73 i0 (.agg zB7) 29 320 Tryz.underlying37 hi hz0 hz1 hz2 (by rfl) (by decide) v n xs hown ad 1 1 es (by omega) hnews h1 (by unfold maxLen; omega) (by omega) hbase
 exact ⟨v',w',g1,g2,g3,g5⟩
theorem yB7 {o:Oper} {a:Act} {K:Act->World->Prop} {Q:Exit->Act->World->Prop} (w:World) (s x:Operand) (ho:o.op = .call { callee:=.builtin .append,args:=#[s,x],argTypes:=#[37,37] })
    (base:Nat) (v:Value) (n:Nat) (xs:List Value) (hs:a.eval s = v) (hown:w.ownsRow base 73 29 v n xs) (ad:Addr) (es:List Value) (hx:a.eval x = .slice (some ad) 1 1) (hl:es.length = 29) (hnews:∀ j u,es[j]? = some u->w.cell? (ad.add j) = some u) (h1:∀ u ∈ es,u.oneCell' = true) (hn:n + 1<=8388608) (hbase:base<=w.heap.size)
    (h:∀ v' w',w'.ownsRow base 73 29 v' (n + 1) (xs ++ es)->w.grownBy w' v.ownBlock->(v'.ownBlock = v.ownBlock\/v'.ownBlock = some w.heap.size)->K (a.put o.dst v') w') : Oper.wp Tryz.prog o a w K Q:=by
 obtain ⟨v',w',hr1,h2,h3,h5⟩:=xB5 w o.type base v n xs hown ad es hl hnews h1 hn hbase
 unfold Oper.wp execOp
 simp only [ho,resolve,invoke,builtin,Sem.run_bind,Sem.run_pure,Result.andThen_ok,List.map_toArray,List.map_cons,List.map_nil,hs,hx,hr1]
 exact h v' w' h2 h3 h5
theorem zJ0 {ops:Array Oper} {rest:List Oper} {o:Oper} {a:Act} {Q:Exit->Act->World->Prop} (w:World) (hgd:o.guard = none) (s x:Operand) (ho:o.op = .call { callee:=.builtin .append,args:=#[s,x],argTypes:=#[37,37] })
    (base:Nat) (v:Value) (n:Nat) (xs:List Value) (hs:a.eval s = v) (hown:w.ownsRow base 73 29 v n xs) (ad:Addr) (es:List Value) (hx:a.eval x = .slice (some ad) 1 1) (hl:es.length = 29) (hnews:∀ j u,es[j]? = some u->w.cell? (ad.add j) = some u) (h1:∀ u ∈ es,u.oneCell' = true) (hn:n + 1<=8388608) (hbase:base<=w.heap.size)
    (h:∀ v' w',w'.ownsRow base 73 29 v' (n + 1) (xs ++ es)->w.grownBy w' v.ownBlock->(v'.ownBlock = v.ownBlock\/v'.ownBlock = some w.heap.size)->wpList Tryz.prog ops Q rest (a.put o.dst v') w') : wpList Tryz.prog ops Q (o :: rest) a w :=
 wpList_plain hgd fun _ hK=>yB7 w s x ho base v n xs hs hown ad es hx hl hnews h1 hn hbase (fun v' w' g1 g2 g3=>hK _ _ (h v' w' g1 g2 g3))
theorem zJ9 {w:World} {D n:Nat} {v:Value} {xs:List Value} (h:w.ownsRow D 73 29 v n xs) : ∃ a n c,v = .slice a n c:=by
 rcases h.2 with ⟨rfl,_⟩ | ⟨g,cap,cur,rfl,_⟩
 · exact ⟨_,_,_,rfl⟩
 · exact ⟨_,_,_,rfl⟩
theorem zL3 {w w':World} {D:Nat} {v:Value} {n:Nat} {xs:List Value} (h:w.ownsRow D 73 29 v n xs) (hb:∀ (k:Nat) (cs:Array Value),w.heap[k]? = some (Obj.cells cs 73 (0,0))->w'.heap[k]? = w.heap[k]?) : w'.ownsRow D 73 29 v n xs:=by
 refine ⟨h.1,?_⟩
 rcases h.2 with h2 | ⟨g,cap,cur,rfl,h3,h4,h5⟩
 · exact .inl h2
 · exact .inr ⟨g,cap,cur,rfl,h3,(hb _ _ h4).trans h4,h5⟩
theorem zO8 {w:World} {S:Nat->Prop} (t v:Int) (x2 x3 x4 x5 x6:Value) (sn:Sn) (a:Option Addr) (c:Nat) (vs:List En) (h1:Rep w S zA2 [x2,x3,x4,x5,x6] sn) (h2:RepL w S zA8 a vs) : Rep w S zB6 [.int .i64 t,.int .i64 v,x2,x3,x4,x5,x6,.slice a vs.length c] ((t,v),sn,vs) :=
 ⟨[.int .i64 t,.int .i64 v],[x2,x3,x4,x5,x6,.slice a vs.length c],rfl,⟨[.int .i64 t],[.int .i64 v],rfl,rfl,rfl⟩,[x2,x3,x4,x5,x6],[.slice a vs.length c],rfl,h1,⟨a,c,rfl,h2.1,h2.2⟩⟩
theorem zE4.doneL {w wr:World} {f:Fm} {e:TypeId} {v:Value} {xs:List Value} {vals:List (Vl f)} (h:zE4 w wr f v xs vals) (ho:wr.ownsRow w.heap.size e (wd f) v vals.length xs) (hb:vals.length<=8388608) :
    ∃ a c,v = .slice a vals.length c/\RepL wr (NB w wr) f a vals:=by
 obtain ⟨ess,h1,h2,h3⟩:=h
 rcases ho.2 with ⟨rfl,hn⟩ | ⟨g,cap,cur,rfl,hbg,hg,hnc,hcm,hcs,htake⟩
 · have : vals = []:=List.eq_nil_of_length_eq_zero hn
   subst this
   exact ⟨none,0,rfl,by simp,fun h=>absurd rfl h⟩
 · refine ⟨_,cap,rfl,by omega,fun _=>⟨g,0,rfl,⟨hbg,(Array.getElem?_eq_some_iff.1 hg).1,_,_,hg⟩,fun i hi=>?_⟩⟩
   have hie : i < ess.length:=by omega
   refine ⟨ess[i],(h3 i hie hi).kept (Nat.le_refl _) (fun _ _=>rfl) (fun _ hk=>hk.1),fun j u hu=>?_⟩
   have hel : ∀ es ∈ ess,es.length = wd f:=by
    intro es hes
    obtain ⟨q,hq,rfl⟩:=List.getElem_of_mem hes
    exact (h3 q hq (by omega)).len
   have hj : j < wd f:=by rw [<- hel ess[i] (List.getElem_mem hie)]; exact (List.getElem?_eq_some_iff.1 hu).1
   rw [cell_of_row wr g _ cur e (0,0) hg,Nat.zero_add]
   have:=zQ2 (wd f) ess hel i hie j hj
   rw [hu,<- h1,<- htake,List.getElem?_take] at this
   split at this
   · simpa using this
   · cases this
def SvP (w:World) (s:Sd) (e:Ending) (w':World) : Prop:=∃ cs,e = .returned (.agg cs.toArray)/\Rep w' (NBr w.heap.size w') zB6 cs (dec s)/\Below w.heap.size w w'
theorem xB4 (S:Nat->Prop) (p o:Nat) (s:Sd) (w:World) (hs:zE7 w S p o s) (hSS:∀ k,S k->k < w.heap.size) (hpl:p < w.heap.size) (hok:Okd s) (hn:s.bs.length<=4194304) : Calls Tryz.prog 51 #[.pointer (some ⟨p,o,none⟩)] w (SvP w s):=by
 obtain ⟨sv,ev,hsn,hrow,c0,c1,c2,c3,c4⟩:=hs.cells
 obtain ⟨ea,ec,ys,rfl,e1,e2,e3,e4,e5,e6⟩:=hrow.xs (by omega)
 have HOK:=zA0 hok
 have HN:=zA0 hn
 have HSN:=zA0 hsn
 have HSS:=zA0 hSS
 have HPL:=zA0 hpl
 have HE4:=zA0 e4
 have HE6:=zA0 e6
 have HE3:=zA0 e3
 have C2:=zA0 c2
 have C4:=zA0 c4
 have HST : Hid (dec s = ((s.t,s.v),snV s,s.bs.map dE)):=zA0 rfl
 clear hs hok hrow hSS hpl e3 e4 e5 e6 c3 hsn
 obtain ⟨w0,hw0⟩ : ∃ w0,w0 = (w.alloc (.cells Z39 39)).alloc (.cells #[.int .i64 s.t,.int .i64 s.v,.int .i64 0,.int .i64 0,.slice none 0 0,.slice none 0 0,.slice none 0 0,.slice none 0 0] 39):=⟨_,rfl⟩
 have hB0 : Below w.heap.size w w0:=by rw [hw0]; exact (zB5 w _).alloc (by simp) _
 have hq0 : w0.heap[w.heap.size + 1]? = some (.cells #[.int .i64 s.t,.int .i64 s.v,.int .i64 0,.int .i64 0,.slice none 0 0,.slice none 0 0,.slice none 0 0,.slice none 0 0] 39 (0,0)):=by
  rw [hw0]
  have:=heap_alloc_new (w.alloc (.cells Z39 39)) (.cells #[.int .i64 s.t,.int .i64 s.v,.int .i64 0,.int .i64 0,.slice none 0 0,.slice none 0 0,.slice none 0 0,.slice none 0 0] 39)
  rwa [World.size_alloc] at this
 have hg0 : w0.heap[w.heap.size]? = some (.cells Z39 39 (0,0)):=by rw [hw0]; exact (Below.heap_alloc _ _ _ (by simp)).trans (heap_alloc_new w _)
 have hz0 : w0.heap.size = w.heap.size + 2:=by rw [hw0]; simp
 have HB0:=zA0 hB0
 have HQ0:=zA0 hq0
 have HG0:=zA0 hg0
 have HZ0:=zA0 hz0
 clear hB0 hq0 hg0 hz0
 have lpw:=HPL.out
 go_enter Tryz.func51,Tryz.ntmps51
 go_upto_region 2 with (fail)
 have hw1:=hw0
 unfold Z39 at hw1
 rw [<- hw1]
 clear hw0 hw1 lpw c0 c1 c2 c4
 have d2 : w0.cell? ⟨p,o + 2,none⟩ = some sv:=(HB0.out.cell (p:=⟨p,o + 2,none⟩) HPL.out).trans C2.out
 have lp0 : p < w0.heap.size:=Nat.lt_of_lt_of_le HPL.out HB0.out.size
 cases hsn2 : s.sn with
 | none =>
  have hsv : sv = .slice none 0 0:=by have:=HSN.out; rw [hsn2] at this; exact this
  subst hsv
  have hnq:=yJ3 0 0 w0
  have HSV : Hid (snV s = zH0):=zA0 (by unfold snV; rw [hsn2])
  clear hsn2 HSN
  go_upto_region 4 with (fail)
  obtain ⟨x2,hx2⟩ : ∃ x,x = Value.int .i64 0:=⟨_,rfl⟩
  obtain ⟨x3,hx3⟩ : ∃ x,x = Value.int .i64 0:=⟨_,rfl⟩
  obtain ⟨x4,hx4⟩ : ∃ x,x = Value.slice none 0 0:=⟨_,rfl⟩
  obtain ⟨x5,hx5⟩ : ∃ x,x = Value.slice none 0 0:=⟨_,rfl⟩
  obtain ⟨x6,hx6⟩ : ∃ x,x = Value.slice none 0 0:=⟨_,rfl⟩
  have HQB : Hid (w0.heap[w.heap.size + 1]? = some (.cells #[.int .i64 s.t,.int .i64 s.v,x2,x3,x4,x5,x6,.slice none 0 0] 39 (0,0))):=zA0 (by rw [hx2,hx3,hx4,hx5,hx6]; exact HQ0.out)
  have HSB : Hid (Rep w0 (NBr (w.heap.size + 2) w0) zA2 [x2,x3,x4,x5,x6] (snV s)):=zA0 (by rw [HSV.out,hx2,hx3,hx4,hx5,hx6]; exact zM8 w0 _)
  have HXO : Hid (∃ a b c d e f g h i j k,x2 = Value.int .i64 a/\x3 = Value.int .i64 b/\x4 = Value.slice c d e/\x5 = Value.slice f g h/\x6 = Value.slice i j k):=zA0 ⟨_,_,_,_,_,_,_,_,_,_,_,hx2,hx3,hx4,hx5,hx6⟩
  have HBB:=HB0
  have HGB:=HG0
  clear hx2 hx3 hx4 hx5 hx6 HQ0 HSV d2 hnq
  obtain ⟨wb,hwb⟩ : ∃ wb,wb = w0:=⟨_,rfl⟩
  rw [<- hwb] at HQB HSB HBB HGB ⊢
  have LQB:=zA0 (zA1 HQB.out)
  have HCB : Hid (wb.cell? ⟨p,o + 4,none⟩ = some (.slice ea s.bs.length ec)):=zA0 ((HBB.out.cell (p:=⟨p,o + 4,none⟩) HPL.out).trans C4.out)
  have hcb:=HCB.out
  have lpb : p < wb.heap.size:=Nat.lt_of_lt_of_le HPL.out HBB.out.size
  clear hwb HCB
  go_wp2
  go_loopw [32] (fun i wr=>∃ (k:Nat) (ga:Option Addr) (gn gc:Nat) (xs:List Value),k<=s.bs.length/\i = .int .i64 (k:Int)/\Hid (wr.heap[w.heap.size + 1]? = some (.cells #[.int .i64 s.t,.int .i64 s.v,x2,x3,x4,x5,x6,.slice ga gn gc] 39 (0,0)))/\Hid (wr.ownsRow wb.heap.size 73 29 (.slice ga gn gc) k xs)/\Hid (zE4 wb wr zA8 (.slice ga gn gc) xs ((s.bs.take k).map dE))/\Hid (RS wb wr (w.heap.size + 1))) (fun i _=>s.bs.length - (intOf i).toNat)
  case atStart=>exact ⟨0,none,0,0,[],Nat.zero_le _,rfl,HQB,zA0 (World.ownsRow_nil _ _ _ _),zA0 (zE4.nil _ _ _ _),zA0 (RS.refl _ _)⟩
  case round =>
   obtain ⟨k,ga,gn,gc,xs,hk,rfl,HQR,HROW,HELM,HRS⟩:=hrel
   by_cases hlt : k < s.bs.length
   · obtain ⟨x,hx⟩ : ∃ x,ys[k]? = some x:=⟨_,List.getElem?_eq_getElem (by rw [HE3.out]; exact hlt)⟩
     obtain ⟨bd,hbd⟩ : ∃ bd,s.bs[k]? = some bd:=⟨_,List.getElem?_eq_getElem hlt⟩
     have hok:=(HOK.out.es k bd hbd).1
     have hBr : Below w.heap.size w wr:=HBB.out.trans ⟨HRS.out.os,HRS.out.tape,HRS.out.output,HRS.out.size,fun j hj=>HRS.out.block j (by have:=LQB.out; omega) (by omega)⟩
     obtain ⟨xa,xc,hxe,hxc,hxb⟩:=(((HE6.out k x bd hx hbd).1).grow hBr).bs (by have:=zI3 hok; omega)
     obtain ⟨gb,goff,hea,hgl,hgc⟩:=HE4.out.2.2 (by intro e; rw [e] at hx; simp at hx)
     have y0 : wr.cell? ⟨gb,goff + k,none⟩ = some x:=(hBr.cell (p:=⟨gb,goff + k,none⟩) hgl).trans (hgc k x hx)
     have lg : gb < wr.heap.size:=Nat.lt_of_lt_of_le hgl hBr.size
     have hxbl : ∀ y,xa = some y->y.block < wr.heap.size:=by
      have:=((HE6.out k x bd hx hbd).1).grow hBr
      rw [hxe] at this
      exact this.blk
     subst hea
     subst hxe
     have HGE:=zA0 (zT6 xa bd.length xc bd wr rfl hxc hxb hxbl)
     have HBD:=zA0 hbd
     have HOKB:=zA0 hok
     have HBr:=zA0 hBr
     clear hbd hx hxb hxc hgc hBr hxbl hok
     generalize hbn : bd.length = bn at HGE y0
     clear hbn
     go_wp2_with fail
     refine HGE.out.mono ?_
     rintro e w3 ⟨es,v,rfl,hrep,hval,hb3⟩
     obtain ⟨rr,hrr,hel⟩:=zD3 hrep
     clear hrr rr
     have hvd : v = dE bd:=hval HOKB.out
     subst hvd
     have HREP:=zA0 hrep
     have HEL:=zA0 hel
     have HIN:=zA0 (zF6 hel)
     have HCI : Hid ((Tryz.prog.info? 73).map (·.size) = some es.toArray.size):=by show _ = _; rw [List.size_toArray]; exact zF6 hel
     have HCS : Hid (es.toArray.size = zB7.size):=by show _ = _; rw [List.size_toArray,hel]; rfl
     have HCO : Hid (es.toArray.all (·.oneCell') = true):=hrep.all
     have HONE : Hid (∀ u ∈ es,u.oneCell' = true):=zA0 (fun u hu=>hrep.one u hu)
     have HB3:=zA0 hb3
     clear hrep hel hb3 hval HGE
     rw [decide_eq_true HOKB.out]
     go_wp2_with (refine zA5 rfl 73 (.tmp 6) (.tmp 39) rfl w3.heap.size es.toArray rfl rfl 73 zB7 (heap_alloc_new w3 (.cells zB7 73)) HCI.out HCS.out.symm HCO.out ?nx)
     case nx =>
      intro w4 hw4h
      have hw4:=hw4h.out
      have hB4 : Below w3.heap.size w3 w4:=by rw [hw4]; exact ((Below.refl _ _).alloc (Nat.le_refl _) _).trans ⟨rfl,rfl,rfl,by simp [World.setRow],fun k hk=>setRow_other _ _ _ _ (by omega)⟩
      have G4:=zA0 (show w4.heap[w3.heap.size]? = some (.cells es.toArray 73 (0,0)) by rw [hw4]; exact setRow_heap _ _ _ _ 73 _ (heap_alloc_new w3 _))
      have hB34 : Below wr.heap.size wr w4:=HB3.out.trans (hB4.mono HB3.out.size)
      have HQ4:=zA0 ((hB34.block _ (zA1 HQR.out)).trans HQR.out)
      have Q74 : Hid (w4.cell? ⟨w.heap.size + 1,7,none⟩ = some (.slice ga gn gc)):=zA0 (by rw [cell_of_row _ _ _ _ 39 (0,0) HQ4.out]; rfl)
      have RG4 : Hid (w4.rangeAt w3.heap.size 0 es):=zA0 (fun j v hv=>by rw [Nat.zero_add,cell_of_row _ _ _ _ 73 (0,0) G4.out]; simpa using hv)
      have LQ4:=zA0 (zA1 HQ4.out)
      have LX4:=zA0 (zA1 G4.out)
      have W4B : Hid (Below w4.heap.size w4 (w4.alloc (.cells es.toArray 73))):=zA0 (zB5 w4 _)
      have ROW4 : Hid ((w4.alloc (.cells es.toArray 73)).ownsRow wb.heap.size 73 29 (.slice ga gn gc) k xs):=zA0 (zL3 HROW.out (fun j _ hj=>(W4B.out.block j (Nat.lt_of_lt_of_le (zA1 hj) hB34.size)).trans (hB34.block j (zA1 hj))))
      have WBL : Hid (wb.heap.size<=(w4.alloc (.cells es.toArray 73)).heap.size):=zA0 (Nat.le_trans (Nat.le_trans HRS.out.size hB34.size) W4B.out.size)
      have NQ : Hid (some (w.heap.size + 1) ≠ (Value.slice ga gn gc).ownBlock):=zA0 (fun e=>by have:=(zD7 HROW.out e.symm).1; have:=LQB.out; omega)
      have NX : Hid (some w3.heap.size ≠ (Value.slice ga gn gc).ownBlock):=zA0 (fun e=>by have:=(zD7 HROW.out e.symm).2.1; have:=HB3.out.size; omega)
      have HB34:=zA0 hB34
      have B34:=zA0 hB4
      have hlen:=HN.out
      clear hw4 hw4h hB4 hB34 HCS HCO
      have q74:=Q74.out
      have lq4:=LQ4.out
      go_wp2_with (first
       | (refine wpList_load_row rfl 73 (.tmp 6) rfl w3.heap.size rfl 73 es.toArray (0,0) _ G4.out Tryz.underlying73 rfl HCI.out ?_)
       | (refine zK7 rfl (.tmp 43) rfl es HEL.out rfl ?_)
       | (at_builtin; refine zJ0 (w4.alloc (.cells es.toArray 73)) rfl (.tmp 42) (.tmp 44) rfl wb.heap.size (.slice ga gn gc) k xs rfl ROW4.out ⟨w4.heap.size,0,none⟩ es rfl HEL.out (fun j u hj=>zG4 w4 es.toArray 73 j u (by simpa using hj)) HONE.out (by omega) WBL.out ?na))
      case na =>
       intro v5 w5 a1 a2 a3
       have A1:=zA0 a1
       have A2:=zA0 a2
       have A3:=zA0 a3
       obtain ⟨va5,ln5,vc5,hv5⟩ : ∃ a n c,v5 = Value.slice a n c:=zJ9 a1
       subst hv5
       have q5 : w5.heap[w.heap.size + 1]? = some (.cells #[.int .i64 s.t,.int .i64 s.v,x2,x3,x4,x5,x6,.slice ga gn gc] 39 (0,0)):=(a2.block _ (by have:=LQ4.out; simp; omega) NQ.out).trans ((W4B.out.block _ LQ4.out).trans HQ4.out)
       have HQ5:=zA0 q5
       have c5 : w5.cell? ⟨w.heap.size + 1,7,none⟩ = some (.slice ga gn gc):=by rw [cell_of_row _ _ _ _ 39 (0,0) q5]; rfl
       have lq5:=zA1 q5
       have f5 : w5.frozen? ⟨w.heap.size + 1,7,none⟩ = false:=by simp [World.frozen?,q5]
       clear a1 a2 a3 q5
       go_wp2
       go_roundw
       case rel =>
        obtain ⟨w6,hw6⟩ : ∃ w6,w6 = w5.setCell ⟨w.heap.size + 1,7,none⟩ (.slice va5 ln5 vc5):=⟨_,rfl⟩
        rw [<- hw6]
        have hk6 : ∀ j,j ≠ w.heap.size + 1->w6.heap[j]? = w5.heap[j]?:=fun j hj=>by rw [hw6]; exact zB0 _ _ _ _ j hj
        have hs6 : w6.heap.size = w5.heap.size:=by rw [hw6]; simp
        refine ⟨k + 1,va5,ln5,vc5,xs ++ es,by omega,by go_num,zA0 ?_,zA0 ?_,zA0 ?_,zA0 ?_⟩
        · rw [hw6,heap_setCell_same w5 _ 7 _ 39 _ HQ5.out]; rfl
        · exact zL3 A1.out (fun j _ hj=>hk6 j (fun e=>by
            subst e
            rw [HQ5.out] at hj; cases hj))
        · have e1 : (s.bs.take (k + 1)).map dE = (s.bs.take k).map dE ++ [dE bd]:=by
            have hb2:=HBD.out
            rw [List.getElem?_eq_getElem hlt] at hb2
            cases hb2
            rw [List.take_succ_eq_append_getElem hlt,List.map_append]; rfl
          rw [e1]
          have hRS3 : RS wr w3 (w.heap.size + 1):=⟨HB3.out.os,HB3.out.tape,HB3.out.output,HB3.out.size,fun j hj _=>HB3.out.block j hj⟩
          have hE3:=HELM.out.rs hRS3 LQB.out
          have hb34 : Below w3.heap.size w3 (w4.alloc (.cells es.toArray 73)):=by
           have h34 : Below w3.heap.size w3 w4:=B34.out
           exact h34.trans (W4B.out.mono h34.size)
          have hE5:=zE4.more (wr:=wr) hE3 HREP.out HRS.out.size (fun j hj=>(zD7 HROW.out hj).2.1) hb34 A2.out (by have:=A3.out; rw [World.size_alloc]; exact this)
          exact hE5.rs (p:=w.heap.size + 1) ⟨by rw [hw6]; rfl,by rw [hw6]; rfl,by rw [hw6]; rfl,by rw [hs6]; exact Nat.le_refl _,fun j _ hj=>hk6 j hj⟩ LQB.out
        · have h45 : ∀ j,j < wb.heap.size->j ≠ w.heap.size + 1->w5.heap[j]? = wb.heap[j]?:=fun j hj hjq=>by
            have hlt4 : j < w4.heap.size:=Nat.lt_of_lt_of_le (Nat.lt_of_lt_of_le hj HRS.out.size) HB34.out.size
            refine (A2.out.block j (by simp; exact Nat.lt_succ_of_lt hlt4) (fun e=>?_)).trans ((W4B.out.block j hlt4).trans ((HB34.out.block j (Nat.lt_of_lt_of_le hj HRS.out.size)).trans (HRS.out.block j hj hjq)))
            have:=(zD7 HROW.out e.symm).1
            omega
          refine ⟨?_,?_,?_,?_,fun j hj hjq=>(hk6 j hjq).trans (h45 j hj hjq)⟩
          · rw [hw6]; exact A2.out.os.trans (W4B.out.os.trans (HB34.out.os.trans HRS.out.os))
          · rw [hw6]; exact A2.out.tape.trans (W4B.out.tape.trans (HB34.out.tape.trans HRS.out.tape))
          · rw [hw6]; exact A2.out.output.trans (W4B.out.output.trans (HB34.out.output.trans HRS.out.output))
          · rw [hs6]; exact Nat.le_trans HRS.out.size (Nat.le_trans HB34.out.size (Nat.le_trans W4B.out.size A2.out.size))
       case measure=>simp [intOf]; omega
   · have hkn : k = s.bs.length:=by omega
     subst hkn
     have HGR : Hid (wr.heap[w.heap.size]? = some (.cells Z39 39 (0,0))):=zA0 ((HRS.out.block _ (by have:=LQB.out; omega) (by omega)).trans HGB.out)
     have HXA : Hid ((#[.int .i64 s.t,.int .i64 s.v,x2,x3,x4,x5,x6,.slice ga gn gc] : Array Value).all (·.oneCell') = true):=zA0 (by obtain ⟨_,_,_,_,_,_,_,_,_,_,_,e2,e3,e4,e5,e6⟩:=HXO.out; rw [e2,e3,e4,e5,e6]; simp [Value.oneCell'])
     clear hcb lpb
     go_wp2_with (first
      | (refine wpList_load_row rfl 39 (.tmp 3) rfl (w.heap.size + 1) rfl 39 #[.int .i64 s.t,.int .i64 s.v,x2,x3,x4,x5,x6,.slice ga gn gc] (0,0) _ HQR.out Tryz.underlying39 rfl zC1 ?_)
      | (refine zA5 rfl 39 (.tmp 2) (.tmp 48) rfl w.heap.size #[.int .i64 s.t,.int .i64 s.v,x2,x3,x4,x5,x6,.slice ga gn gc] rfl rfl 39 Z39 HGR.out zC1 rfl HXA.out ?nz))
     case nz =>
      intro w9 hw9h
      have hw9:=hw9h.out
      have g9 : w9.heap[w.heap.size]? = some (.cells #[.int .i64 s.t,.int .i64 s.v,x2,x3,x4,x5,x6,.slice ga gn gc] 39 (0,0)):=by rw [hw9]; exact setRow_heap _ _ _ _ 39 _ HGR.out
      have k9 : ∀ j,j ≠ w.heap.size->w9.heap[j]? = wr.heap[j]?:=fun j hj=>by rw [hw9]; exact setRow_other _ _ _ _ hj
      have s9 : w9.heap.size = wr.heap.size:=by rw [hw9]; simp [World.setRow]
      have b9 : Below w.heap.size wr w9:=by rw [hw9]; exact ⟨rfl,rfl,rfl,by simp [World.setRow],fun k hk=>setRow_other _ _ _ _ (by omega)⟩
      have hBr : Below w.heap.size w wr:=HBB.out.trans ⟨HRS.out.os,HRS.out.tape,HRS.out.output,HRS.out.size,fun j hj=>HRS.out.block j (by have:=LQB.out; omega) (by omega)⟩
      have hLl : ((s.bs.take s.bs.length).map dE).length = s.bs.length:=by simp
      obtain ⟨ae,ce,hse,hrl⟩:=zE4.doneL (e:=73) HELM.out (by rw [hLl]; exact HROW.out) (by rw [hLl]; have:=HN.out; omega)
      have hrl9 : RepL w9 (NBr w.heap.size w9) zA8 ae (s.bs.map dE):=by
       rw [List.take_length] at hrl
       exact hrl.keptN (by rw [s9]; exact Nat.le_refl _) (fun j h1 h2=>k9 j (by have:=LQB.out; omega)) (by have:=LQB.out; omega)
      have hsr9 : Rep w9 (NBr w.heap.size w9) zA2 [x2,x3,x4,x5,x6] (snV s):=by
       have h1:=HSB.out.keptN (lo':=w.heap.size + 2) (w':=wr) HRS.out.size (fun j h1 h2=>HRS.out.block j h2 (by omega)) (Nat.le_refl _)
       exact h1.keptN (by rw [s9]; exact Nat.le_refl _) (fun j h1 h2=>k9 j (by omega)) (by omega)
      have hse2 : Value.slice ga gn gc = .slice ae (s.bs.map dE).length ce:=by rw [hse]; simp
      have HREP9 : Hid (Rep w9 (NBr w.heap.size w9) zB6 (#[.int .i64 s.t,.int .i64 s.v,x2,x3,x4,x5,x6,.slice ga gn gc] : Array Value).toList (dec s)):=zA0 (by rw [HST.out,hse2]; exact zO8 s.t s.v x2 x3 x4 x5 x6 (snV s) ae ce (s.bs.map dE) hsr9 hrl9)
      have HB9:=zA0 (hBr.trans b9)
      have G9:=zA0 g9
      clear hw9 hw9h g9 k9 s9 b9 hBr hLl hse hrl hrl9 hsr9 hse2
      go_wp2
      refine bodyPost_ret (v:=.agg #[.int .i64 s.t,.int .i64 s.v,x2,x3,x4,x5,x6,.slice ga gn gc]) ?_ rfl ⟨(#[.int .i64 s.t,.int .i64 s.v,x2,x3,x4,x5,x6,.slice ga gn gc] : Array Value).toList,rfl,HREP9.out,HB9.out⟩
      refine results_cell_row Tryz.results51 _ _ w.heap.size 39 _ (0,0) _ ?_ G9.out Tryz.underlying39 rfl zC1
      rfl
 | some sb =>
  have hsv : BodV w S sv sb:=by have:=HSN.out; rw [hsn2] at this; exact this
  have hsok:=(HOK.out.sn sb hsn2).1
  have hsl:=yO9 hsok
  obtain ⟨sa,sc,hse,hsc,hsb⟩:=(hsv.1.grow HB0.out).bs (by omega)
  obtain ⟨sg,soff,rfl,_,_⟩:=hsb.2 (xP8 hsok)
  have hsbl : ∀ y,some (⟨sg,soff,none⟩ : Addr) = some y->y.block < w0.heap.size:=by
   have:=hsv.1.grow HB0.out
   rw [hse] at this
   exact this.blk
  subst hse
  have hnq:=yT5 ⟨sg,soff,none⟩ sb.length sc w0
  have HSV : Hid (snV s = dS sb):=zA0 (by unfold snV; rw [hsn2])
  have HGS:=zA0 (zL8 (some ⟨sg,soff,none⟩) sb.length sc sb w0 rfl hsc hsb hsbl)
  have HSOK:=zA0 hsok
  clear hsn2 HSN hsv hsb hsc hsl hsbl hsok
  generalize hsn3 : sb.length = sn at HGS hnq d2
  clear hsn3
  go_wp2_with fail
  refine HGS.out.mono ?_
  rintro e w3 ⟨cs,v,rfl,hrep,hval,hb3⟩
  have hvd : v = dS sb:=hval HSOK.out
  subst hvd
  obtain ⟨av,cv,al,cl,ad,cd,rfl,r1,r2,r3,r4⟩:=zH1 hrep
  rw [decide_eq_true HSOK.out]
  have hq3 : w3.heap[w.heap.size + 1]? = some (.cells #[.int .i64 s.t,.int .i64 s.v,.int .i64 0,.int .i64 0,.slice none 0 0,.slice none 0 0,.slice none 0 0,.slice none 0 0] 39 (0,0)):=(hb3.block _ (zA1 HQ0.out)).trans HQ0.out
  have f3 : ∀ o,w3.frozen? ⟨w.heap.size + 1,o,none⟩ = false:=fun o=>by simp [World.frozen?,hq3]
  have k2 : w3.cell? ⟨w.heap.size + 1,2,none⟩ = some (.int .i64 0):=by rw [cell_of_row _ _ _ _ 39 (0,0) hq3]; rfl
  have k3 : w3.cell? ⟨w.heap.size + 1,3,none⟩ = some (.int .i64 0):=by rw [cell_of_row _ _ _ _ 39 (0,0) hq3]; rfl
  have k4 : w3.cell? ⟨w.heap.size + 1,4,none⟩ = some (.slice none 0 0):=by rw [cell_of_row _ _ _ _ 39 (0,0) hq3]; rfl
  have k5 : w3.cell? ⟨w.heap.size + 1,5,none⟩ = some (.slice none 0 0):=by rw [cell_of_row _ _ _ _ 39 (0,0) hq3]; rfl
  have k6 : w3.cell? ⟨w.heap.size + 1,6,none⟩ = some (.slice none 0 0):=by rw [cell_of_row _ _ _ _ 39 (0,0) hq3]; rfl
  have l3:=zA1 hq3
  have HQ3:=zA0 hq3
  have HREP:=zA0 hrep
  have HB3:=zA0 hb3
  clear hrep hval hb3 HGS r1 r2 r3 r4 hq3 hnq d2
  generalize hn1 : (dS sb).2.2.1.1.length = nv at HREP ⊢
  generalize hn2 : (dS sb).2.2.1.2.length = nl at HREP ⊢
  generalize hn3 : (dS sb).2.2.2.length = nd at HREP ⊢
  generalize hn4 : (dS sb).1 = vi at HREP ⊢
  generalize hn5 : (dS sb).2.1 = vt at HREP ⊢
  clear hn1 hn2 hn3 hn4 hn5
  go_upto_region 4 with (fail)
  obtain ⟨w4,hw4⟩ : ∃ w4,w4 = (((((w3.setCell ⟨w.heap.size + 1,2,none⟩ (.int .i64 vi)).setCell ⟨w.heap.size + 1,3,none⟩ (.int .i64 vt)).setCell ⟨w.heap.size + 1,4,none⟩ (.slice av nv cv)).setCell ⟨w.heap.size + 1,5,none⟩ (.slice al nl cl)).setCell ⟨w.heap.size + 1,6,none⟩ (.slice ad nd cd)):=⟨_,rfl⟩
  rw [<- hw4]
  have hk4 : ∀ j,j ≠ w.heap.size + 1->w4.heap[j]? = w3.heap[j]?:=fun j hj=>by
   rw [hw4]
   exact (zB0 _ _ 6 _ j hj).trans ((zB0 _ _ 5 _ j hj).trans ((zB0 _ _ 4 _ j hj).trans ((zB0 _ _ 3 _ j hj).trans (zB0 w3 _ 2 _ j hj))))
  have hs4 : w4.heap.size = w3.heap.size:=by rw [hw4]; simp
  have hB4 : Below (w.heap.size + 1) w3 w4:=by
   rw [hw4]
   exact ((((zC2 (Nat.le_refl _) w3 2 _).trans (zC2 (Nat.le_refl _) _ 3 _)).trans (zC2 (Nat.le_refl _) _ 4 _)).trans (zC2 (Nat.le_refl _) _ 5 _)).trans (zC2 (Nat.le_refl _) _ 6 _)
  obtain ⟨x2,hx2⟩ : ∃ x,x = Value.int .i64 vi:=⟨_,rfl⟩
  obtain ⟨x3,hx3⟩ : ∃ x,x = Value.int .i64 vt:=⟨_,rfl⟩
  obtain ⟨x4,hx4⟩ : ∃ x,x = Value.slice av nv cv:=⟨_,rfl⟩
  obtain ⟨x5,hx5⟩ : ∃ x,x = Value.slice al nl cl:=⟨_,rfl⟩
  obtain ⟨x6,hx6⟩ : ∃ x,x = Value.slice ad nd cd:=⟨_,rfl⟩
  have HQB : Hid (w4.heap[w.heap.size + 1]? = some (.cells #[.int .i64 s.t,.int .i64 s.v,x2,x3,x4,x5,x6,.slice none 0 0] 39 (0,0))):=zA0 (by
   rw [hw4,heap_setCell_same _ _ 6 _ 39 _ (heap_setCell_same _ _ 5 _ 39 _ (heap_setCell_same _ _ 4 _ 39 _ (heap_setCell_same _ _ 3 _ 39 _ (heap_setCell_same w3 _ 2 _ 39 _ HQ3.out)))),hx2,hx3,hx4,hx5,hx6]
   rfl)
  have HSB : Hid (Rep w4 (NBr (w.heap.size + 2) w4) zA2 [x2,x3,x4,x5,x6] (snV s)):=zA0 (by
   rw [HSV.out,hx2,hx3,hx4,hx5,hx6]
   exact HREP.out.keptN (by rw [hs4]; exact Nat.le_refl _) (fun j h1 h2=>hk4 j (by have:=HZ0.out; omega)) (by have:=HZ0.out; omega))
  have HXO : Hid (∃ a b c d e f g h i j k,x2 = Value.int .i64 a/\x3 = Value.int .i64 b/\x4 = Value.slice c d e/\x5 = Value.slice f g h/\x6 = Value.slice i j k):=zA0 ⟨_,_,_,_,_,_,_,_,_,_,_,hx2,hx3,hx4,hx5,hx6⟩
  have HBB : Hid (Below w.heap.size w w4):=zA0 ((HB0.out.trans (HB3.out.mono HB0.out.size)).trans (hB4.mono (Nat.le_succ _)))
  have HGB : Hid (w4.heap[w.heap.size]? = some (.cells Z39 39 (0,0))):=zA0 ((hk4 _ (by omega)).trans ((HB3.out.block _ (zA1 HG0.out)).trans HG0.out))
  clear hx2 hx3 hx4 hx5 hx6 hk4 hs4 hB4 hw4 HQ0 HQ3 HSV HREP HB3 k2 k3 k4 k5 k6 l3 f3 lp0
  obtain ⟨wb,hwb⟩ : ∃ wb,wb = w4:=⟨_,rfl⟩
  rw [<- hwb] at HQB HSB HBB HGB ⊢
  have LQB:=zA0 (zA1 HQB.out)
  have HCB : Hid (wb.cell? ⟨p,o + 4,none⟩ = some (.slice ea s.bs.length ec)):=zA0 ((HBB.out.cell (p:=⟨p,o + 4,none⟩) HPL.out).trans C4.out)
  have hcb:=HCB.out
  have lpb : p < wb.heap.size:=Nat.lt_of_lt_of_le HPL.out HBB.out.size
  clear hwb HCB
  go_wp2
  go_loopw [32] (fun i wr=>∃ (k:Nat) (ga:Option Addr) (gn gc:Nat) (xs:List Value),k<=s.bs.length/\i = .int .i64 (k:Int)/\Hid (wr.heap[w.heap.size + 1]? = some (.cells #[.int .i64 s.t,.int .i64 s.v,x2,x3,x4,x5,x6,.slice ga gn gc] 39 (0,0)))/\Hid (wr.ownsRow wb.heap.size 73 29 (.slice ga gn gc) k xs)/\Hid (zE4 wb wr zA8 (.slice ga gn gc) xs ((s.bs.take k).map dE))/\Hid (RS wb wr (w.heap.size + 1))) (fun i _=>s.bs.length - (intOf i).toNat)
  case atStart=>exact ⟨0,none,0,0,[],Nat.zero_le _,rfl,HQB,zA0 (World.ownsRow_nil _ _ _ _),zA0 (zE4.nil _ _ _ _),zA0 (RS.refl _ _)⟩
  case round =>
   obtain ⟨k,ga,gn,gc,xs,hk,rfl,HQR,HROW,HELM,HRS⟩:=hrel
   by_cases hlt : k < s.bs.length
   · obtain ⟨x,hx⟩ : ∃ x,ys[k]? = some x:=⟨_,List.getElem?_eq_getElem (by rw [HE3.out]; exact hlt)⟩
     obtain ⟨bd,hbd⟩ : ∃ bd,s.bs[k]? = some bd:=⟨_,List.getElem?_eq_getElem hlt⟩
     have hok:=(HOK.out.es k bd hbd).1
     have hBr : Below w.heap.size w wr:=HBB.out.trans ⟨HRS.out.os,HRS.out.tape,HRS.out.output,HRS.out.size,fun j hj=>HRS.out.block j (by have:=LQB.out; omega) (by omega)⟩
     obtain ⟨xa,xc,hxe,hxc,hxb⟩:=(((HE6.out k x bd hx hbd).1).grow hBr).bs (by have:=zI3 hok; omega)
     obtain ⟨gb,goff,hea,hgl,hgc⟩:=HE4.out.2.2 (by intro e; rw [e] at hx; simp at hx)
     have y0 : wr.cell? ⟨gb,goff + k,none⟩ = some x:=(hBr.cell (p:=⟨gb,goff + k,none⟩) hgl).trans (hgc k x hx)
     have lg : gb < wr.heap.size:=Nat.lt_of_lt_of_le hgl hBr.size
     have hxbl : ∀ y,xa = some y->y.block < wr.heap.size:=by
      have:=((HE6.out k x bd hx hbd).1).grow hBr
      rw [hxe] at this
      exact this.blk
     subst hea
     subst hxe
     have HGE:=zA0 (zT6 xa bd.length xc bd wr rfl hxc hxb hxbl)
     have HBD:=zA0 hbd
     have HOKB:=zA0 hok
     have HBr:=zA0 hBr
     clear hbd hx hxb hxc hgc hBr hxbl hok
     generalize hbn : bd.length = bn at HGE y0
     clear hbn
     go_wp2_with fail
     refine HGE.out.mono ?_
     rintro e w3 ⟨es,v,rfl,hrep,hval,hb3⟩
     obtain ⟨rr,hrr,hel⟩:=zD3 hrep
     clear hrr rr
     have hvd : v = dE bd:=hval HOKB.out
     subst hvd
     have HREP:=zA0 hrep
     have HEL:=zA0 hel
     have HIN:=zA0 (zF6 hel)
     have HCI : Hid ((Tryz.prog.info? 73).map (·.size) = some es.toArray.size):=by show _ = _; rw [List.size_toArray]; exact zF6 hel
     have HCS : Hid (es.toArray.size = zB7.size):=by show _ = _; rw [List.size_toArray,hel]; rfl
     have HCO : Hid (es.toArray.all (·.oneCell') = true):=hrep.all
     have HONE : Hid (∀ u ∈ es,u.oneCell' = true):=zA0 (fun u hu=>hrep.one u hu)
     have HB3:=zA0 hb3
     clear hrep hel hb3 hval HGE
     rw [decide_eq_true HOKB.out]
     go_wp2_with (refine zA5 rfl 73 (.tmp 6) (.tmp 39) rfl w3.heap.size es.toArray rfl rfl 73 zB7 (heap_alloc_new w3 (.cells zB7 73)) HCI.out HCS.out.symm HCO.out ?nx)
     case nx =>
      intro w4 hw4h
      have hw4:=hw4h.out
      have hB4 : Below w3.heap.size w3 w4:=by rw [hw4]; exact ((Below.refl _ _).alloc (Nat.le_refl _) _).trans ⟨rfl,rfl,rfl,by simp [World.setRow],fun k hk=>setRow_other _ _ _ _ (by omega)⟩
      have G4:=zA0 (show w4.heap[w3.heap.size]? = some (.cells es.toArray 73 (0,0)) by rw [hw4]; exact setRow_heap _ _ _ _ 73 _ (heap_alloc_new w3 _))
      have hB34 : Below wr.heap.size wr w4:=HB3.out.trans (hB4.mono HB3.out.size)
      have HQ4:=zA0 ((hB34.block _ (zA1 HQR.out)).trans HQR.out)
      have Q74 : Hid (w4.cell? ⟨w.heap.size + 1,7,none⟩ = some (.slice ga gn gc)):=zA0 (by rw [cell_of_row _ _ _ _ 39 (0,0) HQ4.out]; rfl)
      have RG4 : Hid (w4.rangeAt w3.heap.size 0 es):=zA0 (fun j v hv=>by rw [Nat.zero_add,cell_of_row _ _ _ _ 73 (0,0) G4.out]; simpa using hv)
      have LQ4:=zA0 (zA1 HQ4.out)
      have LX4:=zA0 (zA1 G4.out)
      have W4B : Hid (Below w4.heap.size w4 (w4.alloc (.cells es.toArray 73))):=zA0 (zB5 w4 _)
      have ROW4 : Hid ((w4.alloc (.cells es.toArray 73)).ownsRow wb.heap.size 73 29 (.slice ga gn gc) k xs):=zA0 (zL3 HROW.out (fun j _ hj=>(W4B.out.block j (Nat.lt_of_lt_of_le (zA1 hj) hB34.size)).trans (hB34.block j (zA1 hj))))
      have WBL : Hid (wb.heap.size<=(w4.alloc (.cells es.toArray 73)).heap.size):=zA0 (Nat.le_trans (Nat.le_trans HRS.out.size hB34.size) W4B.out.size)
      have NQ : Hid (some (w.heap.size + 1) ≠ (Value.slice ga gn gc).ownBlock):=zA0 (fun e=>by have:=(zD7 HROW.out e.symm).1; have:=LQB.out; omega)
      have NX : Hid (some w3.heap.size ≠ (Value.slice ga gn gc).ownBlock):=zA0 (fun e=>by have:=(zD7 HROW.out e.symm).2.1; have:=HB3.out.size; omega)
      have HB34:=zA0 hB34
      have B34:=zA0 hB4
      have hlen:=HN.out
      clear hw4 hw4h hB4 hB34 HCS HCO
      have q74:=Q74.out
      have lq4:=LQ4.out
      go_wp2_with (first
       | (refine wpList_load_row rfl 73 (.tmp 6) rfl w3.heap.size rfl 73 es.toArray (0,0) _ G4.out Tryz.underlying73 rfl HCI.out ?_)
       | (refine zK7 rfl (.tmp 43) rfl es HEL.out rfl ?_)
       | (at_builtin; refine zJ0 (w4.alloc (.cells es.toArray 73)) rfl (.tmp 42) (.tmp 44) rfl wb.heap.size (.slice ga gn gc) k xs rfl ROW4.out ⟨w4.heap.size,0,none⟩ es rfl HEL.out (fun j u hj=>zG4 w4 es.toArray 73 j u (by simpa using hj)) HONE.out (by omega) WBL.out ?na))
      case na =>
       intro v5 w5 a1 a2 a3
       have A1:=zA0 a1
       have A2:=zA0 a2
       have A3:=zA0 a3
       obtain ⟨va5,ln5,vc5,hv5⟩ : ∃ a n c,v5 = Value.slice a n c:=zJ9 a1
       subst hv5
       have q5 : w5.heap[w.heap.size + 1]? = some (.cells #[.int .i64 s.t,.int .i64 s.v,x2,x3,x4,x5,x6,.slice ga gn gc] 39 (0,0)):=(a2.block _ (by have:=LQ4.out; simp; omega) NQ.out).trans ((W4B.out.block _ LQ4.out).trans HQ4.out)
       have HQ5:=zA0 q5
       have c5 : w5.cell? ⟨w.heap.size + 1,7,none⟩ = some (.slice ga gn gc):=by rw [cell_of_row _ _ _ _ 39 (0,0) q5]; rfl
       have lq5:=zA1 q5
       have f5 : w5.frozen? ⟨w.heap.size + 1,7,none⟩ = false:=by simp [World.frozen?,q5]
       clear a1 a2 a3 q5
       go_wp2
       go_roundw
       case rel =>
        obtain ⟨w6,hw6⟩ : ∃ w6,w6 = w5.setCell ⟨w.heap.size + 1,7,none⟩ (.slice va5 ln5 vc5):=⟨_,rfl⟩
        rw [<- hw6]
        have hk6 : ∀ j,j ≠ w.heap.size + 1->w6.heap[j]? = w5.heap[j]?:=fun j hj=>by rw [hw6]; exact zB0 _ _ _ _ j hj
        have hs6 : w6.heap.size = w5.heap.size:=by rw [hw6]; simp
        refine ⟨k + 1,va5,ln5,vc5,xs ++ es,by omega,by go_num,zA0 ?_,zA0 ?_,zA0 ?_,zA0 ?_⟩
        · rw [hw6,heap_setCell_same w5 _ 7 _ 39 _ HQ5.out]; rfl
        · exact zL3 A1.out (fun j _ hj=>hk6 j (fun e=>by
            subst e
            rw [HQ5.out] at hj; cases hj))
        · have e1 : (s.bs.take (k + 1)).map dE = (s.bs.take k).map dE ++ [dE bd]:=by
            have hb2:=HBD.out
            rw [List.getElem?_eq_getElem hlt] at hb2
            cases hb2
            rw [List.take_succ_eq_append_getElem hlt,List.map_append]; rfl
          rw [e1]
          have hRS3 : RS wr w3 (w.heap.size + 1):=⟨HB3.out.os,HB3.out.tape,HB3.out.output,HB3.out.size,fun j hj _=>HB3.out.block j hj⟩
          have hE3:=HELM.out.rs hRS3 LQB.out
          have hb34 : Below w3.heap.size w3 (w4.alloc (.cells es.toArray 73)):=by
           have h34 : Below w3.heap.size w3 w4:=B34.out
           exact h34.trans (W4B.out.mono h34.size)
          have hE5:=zE4.more (wr:=wr) hE3 HREP.out HRS.out.size (fun j hj=>(zD7 HROW.out hj).2.1) hb34 A2.out (by have:=A3.out; rw [World.size_alloc]; exact this)
          exact hE5.rs (p:=w.heap.size + 1) ⟨by rw [hw6]; rfl,by rw [hw6]; rfl,by rw [hw6]; rfl,by rw [hs6]; exact Nat.le_refl _,fun j _ hj=>hk6 j hj⟩ LQB.out
        · have h45 : ∀ j,j < wb.heap.size->j ≠ w.heap.size + 1->w5.heap[j]? = wb.heap[j]?:=fun j hj hjq=>by
            have hlt4 : j < w4.heap.size:=Nat.lt_of_lt_of_le (Nat.lt_of_lt_of_le hj HRS.out.size) HB34.out.size
            refine (A2.out.block j (by simp; exact Nat.lt_succ_of_lt hlt4) (fun e=>?_)).trans ((W4B.out.block j hlt4).trans ((HB34.out.block j (Nat.lt_of_lt_of_le hj HRS.out.size)).trans (HRS.out.block j hj hjq)))
            have:=(zD7 HROW.out e.symm).1
            omega
          refine ⟨?_,?_,?_,?_,fun j hj hjq=>(hk6 j hjq).trans (h45 j hj hjq)⟩
          · rw [hw6]; exact A2.out.os.trans (W4B.out.os.trans (HB34.out.os.trans HRS.out.os))
          · rw [hw6]; exact A2.out.tape.trans (W4B.out.tape.trans (HB34.out.tape.trans HRS.out.tape))
          · rw [hw6]; exact A2.out.output.trans (W4B.out.output.trans (HB34.out.output.trans HRS.out.output))
          · rw [hs6]; exact Nat.le_trans HRS.out.size (Nat.le_trans HB34.out.size (Nat.le_trans W4B.out.size A2.out.size))
       case measure=>simp [intOf]; omega
   · have hkn : k = s.bs.length:=by omega
     subst hkn
     have HGR : Hid (wr.heap[w.heap.size]? = some (.cells Z39 39 (0,0))):=zA0 ((HRS.out.block _ (by have:=LQB.out; omega) (by omega)).trans HGB.out)
     have HXA : Hid ((#[.int .i64 s.t,.int .i64 s.v,x2,x3,x4,x5,x6,.slice ga gn gc] : Array Value).all (·.oneCell') = true):=zA0 (by obtain ⟨_,_,_,_,_,_,_,_,_,_,_,e2,e3,e4,e5,e6⟩:=HXO.out; rw [e2,e3,e4,e5,e6]; simp [Value.oneCell'])
     clear hcb lpb
     go_wp2_with (first
      | (refine wpList_load_row rfl 39 (.tmp 3) rfl (w.heap.size + 1) rfl 39 #[.int .i64 s.t,.int .i64 s.v,x2,x3,x4,x5,x6,.slice ga gn gc] (0,0) _ HQR.out Tryz.underlying39 rfl zC1 ?_)
      | (refine zA5 rfl 39 (.tmp 2) (.tmp 48) rfl w.heap.size #[.int .i64 s.t,.int .i64 s.v,x2,x3,x4,x5,x6,.slice ga gn gc] rfl rfl 39 Z39 HGR.out zC1 rfl HXA.out ?nz))
     case nz =>
      intro w9 hw9h
      have hw9:=hw9h.out
      have g9 : w9.heap[w.heap.size]? = some (.cells #[.int .i64 s.t,.int .i64 s.v,x2,x3,x4,x5,x6,.slice ga gn gc] 39 (0,0)):=by rw [hw9]; exact setRow_heap _ _ _ _ 39 _ HGR.out
      have k9 : ∀ j,j ≠ w.heap.size->w9.heap[j]? = wr.heap[j]?:=fun j hj=>by rw [hw9]; exact setRow_other _ _ _ _ hj
      have s9 : w9.heap.size = wr.heap.size:=by rw [hw9]; simp [World.setRow]
      have b9 : Below w.heap.size wr w9:=by rw [hw9]; exact ⟨rfl,rfl,rfl,by simp [World.setRow],fun k hk=>setRow_other _ _ _ _ (by omega)⟩
      have hBr : Below w.heap.size w wr:=HBB.out.trans ⟨HRS.out.os,HRS.out.tape,HRS.out.output,HRS.out.size,fun j hj=>HRS.out.block j (by have:=LQB.out; omega) (by omega)⟩
      have hLl : ((s.bs.take s.bs.length).map dE).length = s.bs.length:=by simp
      obtain ⟨ae,ce,hse,hrl⟩:=zE4.doneL (e:=73) HELM.out (by rw [hLl]; exact HROW.out) (by rw [hLl]; have:=HN.out; omega)
      have hrl9 : RepL w9 (NBr w.heap.size w9) zA8 ae (s.bs.map dE):=by
       rw [List.take_length] at hrl
       exact hrl.keptN (by rw [s9]; exact Nat.le_refl _) (fun j h1 h2=>k9 j (by have:=LQB.out; omega)) (by have:=LQB.out; omega)
      have hsr9 : Rep w9 (NBr w.heap.size w9) zA2 [x2,x3,x4,x5,x6] (snV s):=by
       have h1:=HSB.out.keptN (lo':=w.heap.size + 2) (w':=wr) HRS.out.size (fun j h1 h2=>HRS.out.block j h2 (by omega)) (Nat.le_refl _)
       exact h1.keptN (by rw [s9]; exact Nat.le_refl _) (fun j h1 h2=>k9 j (by omega)) (by omega)
      have hse2 : Value.slice ga gn gc = .slice ae (s.bs.map dE).length ce:=by rw [hse]; simp
      have HREP9 : Hid (Rep w9 (NBr w.heap.size w9) zB6 (#[.int .i64 s.t,.int .i64 s.v,x2,x3,x4,x5,x6,.slice ga gn gc] : Array Value).toList (dec s)):=zA0 (by rw [HST.out,hse2]; exact zO8 s.t s.v x2 x3 x4 x5 x6 (snV s) ae ce (s.bs.map dE) hsr9 hrl9)
      have HB9:=zA0 (hBr.trans b9)
      have G9:=zA0 g9
      clear hw9 hw9h g9 k9 s9 b9 hBr hLl hse hrl hrl9 hsr9 hse2
      go_wp2
      refine bodyPost_ret (v:=.agg #[.int .i64 s.t,.int .i64 s.v,x2,x3,x4,x5,x6,.slice ga gn gc]) ?_ rfl ⟨(#[.int .i64 s.t,.int .i64 s.v,x2,x3,x4,x5,x6,.slice ga gn gc] : Array Value).toList,rfl,HREP9.out,HB9.out⟩
      refine results_cell_row Tryz.results51 _ _ w.heap.size 39 _ (0,0) _ ?_ G9.out Tryz.underlying39 rfl zC1
      rfl
end
end Go.Proofs.YtocoimjhglackaaGreat
