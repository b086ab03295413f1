/- Wfe -/
import Derived.Test.YtocoimjhglackaaGreatK22
import Derived.BigRegion
set_option maxHeartbeats 8000000
set_option maxRecDepth 100000
namespace Go.Proofs.YtocoimjhglackaaGreat
section
open Go.RowKit Go.Maps
def SdB (w:World) (p:Nat) (s:Sd) (sv ev:Value) : Prop:=w.heap[p]? = some (.cells #[.int .i64 s.t,.int .i64 s.v,sv,.int .i64 s.base,ev] 94 (0,0))
structure SdR (D:Nat) (w:World) (p:Nat) (s:Sd) (sv ev:Value) (xs:List Value) : Prop where
 blk : SdB w p s sv ev
 lo : D<=p
 sn : SnV w (fun k=>D<=k) sv s.sn
 row : w.ownsRow D 22 1 ev xs.length xs
 len : xs.length = s.bs.length
 bod : ∀ (i:Nat) (x:Value) (b:List UInt8),xs[i]? = some x->s.bs[i]? = some b->BodV w (fun k=>D<=k) x b
theorem SdB.cells {w:World} {p:Nat} {s:Sd} {sv ev:Value} (h:SdB w p s sv ev) : w.cell? ⟨p,0,none⟩ = some (.int .i64 s.t)/\w.cell? ⟨p,1,none⟩ = some (.int .i64 s.v)/\w.cell? ⟨p,2,none⟩ = some sv/\w.cell? ⟨p,3,none⟩ = some (.int .i64 s.base)/\w.cell? ⟨p,4,none⟩ = some ev/\p < w.heap.size/\∀ o,w.frozen? ⟨p,o,none⟩ = false:=by
 refine ⟨?_,?_,?_,?_,?_,zA1 h,fun o=>by simp [World.frozen?,show w.heap[p]? = _ from h]⟩ <;> rw [cell_of_row w p _ _ 94 (0,0) h] <;> rfl
theorem BodV.alike {w w':World} {S:Nat->Prop} {v:Value} {b:List UInt8} (h:BodV w S v b) (hb:∀ (k:Nat) (cs:Array Value),w.heap[k]? = some (Obj.cells cs 5 (0,0))->w'.heap[k]? = w.heap[k]?) : BodV w' S v b:=by
 refine ⟨h.1.kept fun k hk=>?_,h.2⟩
 rcases h.1 with ⟨rfl,_⟩ | ⟨g,cap,cur,rfl,hg,_⟩
 · cases hk
 · cases hk; exact hb _ _ hg
theorem SnV.alike {w w':World} {S:Nat->Prop} {v:Value} {o:Option (List UInt8)} (h:SnV w S v o) (hb:∀ (k:Nat) (cs:Array Value),w.heap[k]? = some (Obj.cells cs 5 (0,0))->w'.heap[k]? = w.heap[k]?) : SnV w' S v o:=by
 cases o with
 | none=>exact h
 | some b=>exact BodV.alike h hb
theorem zK0 {w w':World} {D:Nat} {v:Value} {n:Nat} {xs:List Value} (h:w.ownsRow D 22 1 v n xs) (hb:∀ (k:Nat) (cs:Array Value),w.heap[k]? = some (Obj.cells cs 22 (0,0))->w'.heap[k]? = w.heap[k]?) : w'.ownsRow D 22 1 v n xs:=by
 refine ⟨h.1,?_⟩
 rcases h.2 with h2 | ⟨g,cap,cur,rfl,h3,h4,h5⟩
 · exact .inl h2
 · exact .inr ⟨g,cap,cur,rfl,h3,(hb _ _ h4).trans h4,h5⟩
theorem SdR.grow {D:Nat} {w w':World} {p:Nat} {s:Sd} {sv ev:Value} {xs:List Value} (h:SdR D w p s sv ev xs) (hb:Below w.heap.size w w') : SdR D w' p s sv ev xs :=
 ⟨(hb.block p (zA1 h.blk)).trans h.blk,h.lo,h.sn.alike (fun k _ hk=>hb.block k (zA1 hk)),zK0 h.row (fun k _ hk=>hb.block k (zA1 hk)),h.len,fun i x b h1 h2=>(h.bod i x b h1 h2).alike (fun k _ hk=>hb.block k (zA1 hk))⟩
theorem SdR.set {D:Nat} {w w':World} {p:Nat} {s s':Sd} {sv ev sv' ev':Value} {xs xs':List Value} (h:SdR D w p s sv ev xs) (hk:∀ k,k ≠ p->w'.heap[k]? = w.heap[k]?) (hp:SdB w' p s' sv' ev') (hsn:SnV w (fun k=>D<=k) sv' s'.sn) (hrow:w.ownsRow D 22 1 ev' xs'.length xs') (hlen:xs'.length = s'.bs.length) (hbod:∀ (i:Nat) (x:Value) (b:List UInt8),xs'[i]? = some x->s'.bs[i]? = some b->BodV w (fun k=>D<=k) x b) : SdR D w' p s' sv' ev' xs':=by
 have ne : ∀ (k:Nat) (cs:Array Value) (t:TypeId),w.heap[k]? = some (Obj.cells cs t (0,0))->t ≠ 94->k ≠ p:=fun k cs t hk ht e=>by
  have hb : w.heap[p]? = _:=h.blk
  rw [e,hb] at hk
  cases hk
  exact ht rfl
 exact ⟨hp,h.lo,hsn.alike (fun k cs hk2=>hk k (ne k cs 5 hk2 (by decide))),zK0 hrow (fun k cs hk2=>hk k (ne k cs 22 hk2 (by decide))),hlen,fun i x b h1 h2=>(hbod i x b h1 h2).alike (fun k cs hk2=>hk k (ne k cs 5 hk2 (by decide)))⟩
def TkP (D:Nat) (w:World) (p:Nat) (o:Option Sd) (e:Ending) (w':World) : Prop:=e = .returned (.bool o.isSome)/\Below D w w'/\∀ s',o = some s'->∃ sv ev xs,SdR D w' p s' sv ev xs
theorem zB0 (w:World) (p j:Nat) (v:Value) : ∀ k,k ≠ p->(w.setCell ⟨p,j,none⟩ v).heap[k]? = w.heap[k]?:=fun k hk=>Below.heap_setCell w ⟨p,j,none⟩ v k hk
theorem SdR.hard {D:Nat} {w:World} {p:Nat} {s:Sd} {sv ev:Value} {xs:List Value} (h:SdR D w p s sv ev xs) (t v:Int) : SdR D ((w.setCell ⟨p,0,none⟩ (.int .i64 t)).setCell ⟨p,1,none⟩ (.int .i64 v)) p ⟨t,v,s.sn,s.base,s.bs⟩ sv ev xs:=by
 refine h.set (fun k hk=>(zB0 _ p 1 _ k hk).trans (zB0 w p 0 _ k hk)) ?_ h.sn h.row h.len h.bod
 show _ = _
 rw [heap_setCell_same _ p 1 _ 94 _ (heap_setCell_same w p 0 _ 94 _ h.blk)]
 rfl
theorem zC2 {D p:Nat} (h:D<=p) (w:World) (j:Nat) (v:Value) : Below D w (w.setCell ⟨p,j,none⟩ v):=(Below.refl D w).setCell (p:=⟨p,j,none⟩) h v
theorem zU1 (D p:Nat) (s:Sd) (sv ev:Value) (xs:List Value) (place:Int) (a:Option Addr) (n cap:Nat) (b:List UInt8) (w:World) (hD:D<=w.heap.size) (h:SdR D w p s sv ev xs) (hn:n = b.length) (hb:Bs w a b) (hl:b.length<=1048576) :
    Calls Tryz.prog 62 #[.pointer (some ⟨p,0,none⟩),.int .i64 place,.slice a n cap] w (TkP D w p (yA7 s place b)):=by
 have HG:=zA0 (yQ0 a n cap b w hn hb hl)
 have HS:=zA0 h
 have hDD:=zA0 hD
 clear hn hb hl h hD
 go_enter Tryz.func62,Tryz.ntmps62
 go_wp2_with fail
 refine HG.out.mono ?_
 rintro e w1 ⟨rfl,hb1⟩
 have h1:=HS.out.grow hb1
 obtain ⟨c0,c1,c2,c3,c4,lp,fp⟩:=h1.blk.cells
 have H1:=zA0 h1
 have HB1:=zA0 hb1
 clear hb1 h1 HG c2 c3 c4
 by_cases ok : okH b
 · have e1 : hv1 b = (dH b).1:=if_pos ok
   have e2 : hv2 b = (dH b).2:=if_pos ok
   rw [e1,e2,decide_eq_true ok]
   by_cases hp : place = 0
   · have HT : Hid (yA7 s place b = some ⟨(dH b).1,(dH b).2,s.sn,s.base,s.bs⟩):=zA0 (if_pos ⟨ok,hp⟩)
     subst hp
     clear e1 e2 ok
     generalize (dH b).1 = tt at *
     generalize (dH b).2 = vv at *
     go_wp2
     go_ret
     refine ⟨by rw [HT.out]; rfl,?_,?_⟩
     · exact (((HB1.out.mono hDD.out).trans (zC2 H1.out.lo _ _ _)).trans (zC2 H1.out.lo _ _ _)).alloc (by have:=HB1.out.size; have:=hDD.out; simp; omega) _
     · intro s' hs
       rw [HT.out] at hs
       cases hs
       exact ⟨sv,ev,xs,(H1.out.hard tt vv).grow (zB5 _ _)⟩
   · have HT : Hid (yA7 s place b = none):=zA0 (if_neg (fun h=>hp h.2))
     clear e1 e2 ok
     generalize (dH b).1 = tt at *
     generalize (dH b).2 = vv at *
     have hp2 : (place == 0) = false:=by simpa using hp
     clear hp
     go_wp2
     go_ret
     refine ⟨by rw [HT.out]; rfl,?_,fun s' h=>by rw [HT.out] at h; cases h⟩
     exact (HB1.out.mono hDD.out).alloc (by have:=HB1.out.size; have:=hDD.out; omega) _
 · have HT : Hid (yA7 s place b = none):=zA0 (if_neg (fun h=>ok h.1))
   rw [decide_eq_false ok]
   clear ok
   generalize hv1 b = tt at *
   generalize hv2 b = vv at *
   go_wp2
   go_ret
   refine ⟨by rw [HT.out]; rfl,?_,fun s' h=>by rw [HT.out] at h; cases h⟩
   exact (HB1.out.mono hDD.out).alloc (by have:=HB1.out.size; have:=hDD.out; omega) _
theorem SdR.snap {D:Nat} {w:World} {p:Nat} {s:Sd} {sv ev:Value} {xs:List Value} (h:SdR D w p s sv ev xs) (u:Value) (b:List UInt8) (n:Int) (hu:BodV w (fun k=>D<=k) u b) : SdR D (((w.setCell ⟨p,2,none⟩ u).setCell ⟨p,3,none⟩ (.int .i64 n)).setCell ⟨p,4,none⟩ (.slice none 0 0)) p ⟨s.t,s.v,some b,n,[]⟩ u (.slice none 0 0) []:=by
 refine h.set (fun k hk=>(zB0 _ p 4 _ k hk).trans ((zB0 _ p 3 _ k hk).trans (zB0 w p 2 _ k hk))) ?_ hu ⟨rfl,.inl ⟨rfl,rfl⟩⟩ rfl (fun i x b h=>by simp at h)
 show _ = _
 rw [heap_setCell_same _ p 4 _ 94 _ (heap_setCell_same _ p 3 _ 94 _ (heap_setCell_same w p 2 _ 94 _ h.blk))]
 rfl
theorem yN1 {w:World} {a:Option Addr} {n cap:Nat} {b:List UInt8} (h:SlR w (.slice a n cap) b) (hl:b.length<=1048576) : n = b.length/\n<=cap/\Bs w a b/\∀ y,a = some y->y.block < w.heap.size:=by
 obtain ⟨a',c',e,h1,h2⟩:=h.bs (by omega)
 cases e
 exact ⟨rfl,h1,h2,h.blk⟩
theorem zM4 (D p:Nat) (s:Sd) (sv ev:Value) (xs:List Value) (place:Int) (a:Option Addr) (n cap:Nat) (b:List UInt8) (w:World) (hD:D<=w.heap.size) (h:SdR D w p s sv ev xs) (hb:BodV w (fun k=>D<=k) (.slice a n cap) b) (hl:b.length<=1048576) :
    Calls Tryz.prog 64 #[.pointer (some ⟨p,0,none⟩),.int .i64 place,.slice a n cap] w (TkP D w p (yA6 s place b)):=by
 obtain ⟨g1,g2,g3,g4⟩:=yN1 hb.1 hl
 have HG:=zA0 (zL8 a n cap b w g1 g2 g3 g4)
 have HS:=zA0 h
 have hDD:=zA0 hD
 have HU:=zA0 hb
 clear g1 g2 g3 g4 hb hl h hD
 go_enter Tryz.func64,Tryz.ntmps64
 go_wp2_with fail
 refine HG.out.mono ?_
 rintro e w1 ⟨cs,v,rfl,hrep,hval,hb1⟩
 obtain ⟨av,cv,al,cl,ad,cd,rfl,_,_,_,_⟩:=zH1 hrep
 have h1:=HS.out.grow hb1
 obtain ⟨c0,c1,c2,c3,c4,lp,fp⟩:=h1.blk.cells
 have H1:=zA0 h1
 have HB1:=zA0 hb1
 have HU1:=zA0 (HU.out.alike (w':=w1) (fun k _ hk=>hb1.block k (zA1 hk)))
 clear hb1 h1 HG c0 c1 hrep
 by_cases ok : okS b
 · have hv:=hval ok
   have hvv : v = dS b:=hv
   have hi : v.1 = sI (dS b):=by rw [hvv]; rfl
   rw [decide_eq_true ok]
   rw [hi]
   by_cases hp : place = sI (dS b)
   · have HT : Hid (yA6 s place b = some ⟨s.t,s.v,some b,sI (dS b),[]⟩):=zA0 (if_pos ⟨ok,hp⟩)
     clear hv hvv hi hval ok
     generalize v.2.2.1.1.length = nv at *
     generalize v.2.2.1.2.length = nl at *
     generalize v.2.2.2.length = nd at *
     generalize v.2.1 = vt at *
     generalize sI (dS b) = vi at *
     subst hp
     go_wp2
     go_region
     go_wp2
     go_ret
     refine ⟨by rw [HT.out]; rfl,?_,?_⟩
     · exact (((((HB1.out.mono hDD.out).trans (zC2 H1.out.lo _ _ _)).trans (zC2 H1.out.lo _ _ _)).trans (zC2 H1.out.lo _ _ _)).alloc (by have:=HB1.out.size; have:=hDD.out; simp; omega) _).drew
     · intro s' hs
       rw [HT.out] at hs
       cases hs
       exact ⟨_,_,_,((H1.out.snap _ b _ HU1.out).grow (zB5 _ _)).grow (Below.refl _ _).drew⟩
   · have HT : Hid (yA6 s place b = none):=zA0 (if_neg (fun h=>hp h.2))
     clear hv hvv hi hval ok
     generalize v.2.2.1.1.length = nv at *
     generalize v.2.2.1.2.length = nl at *
     generalize v.2.2.2.length = nd at *
     generalize v.2.1 = vt at *
     generalize sI (dS b) = vi at *
     have hp2 : (place == vi) = false:=by simpa using hp
     clear hp
     go_wp2
     go_ret
     exact ⟨by rw [HT.out]; rfl,(HB1.out.mono hDD.out).alloc (by have:=HB1.out.size; have:=hDD.out; omega) _,fun s' h=>by rw [HT.out] at h; cases h⟩
 · have HT : Hid (yA6 s place b = none):=zA0 (if_neg (fun h=>ok h.1))
   rw [decide_eq_false ok]
   clear ok hval
   generalize v.2.2.1.1.length = nv at *
   generalize v.2.2.1.2.length = nl at *
   generalize v.2.2.2.length = nd at *
   generalize v.2.1 = vt at *
   generalize v.1 = vi at *
   go_wp2
   go_ret
   exact ⟨by rw [HT.out]; rfl,(HB1.out.mono hDD.out).alloc (by have:=HB1.out.size; have:=hDD.out; omega) _,fun s' h=>by rw [HT.out] at h; cases h⟩
theorem SdR.at {D:Nat} {w:World} {p:Nat} {s:Sd} {sv ev:Value} {xs:List Value} (h:SdR D w p s sv ev xs) : zE7 w (fun k=>D<=k) p 0 s:=by
 refine ⟨_,⟨sv,ev,rfl,h.sn,?_⟩,fun j v hv=>?_⟩
 · rcases h.row.2 with ⟨rfl,e⟩ | ⟨g,cap,cur,rfl,h3,h4,h5,h6,h7,h8⟩
   · have hl : s.bs = []:=List.length_eq_zero_iff.1 (by rw [<- h.len]; exact e)
     exact ⟨none,0,by rw [hl]; rfl,by rw [hl]; exact Nat.le_refl _,by unfold maxLen; omega,fun hne=>absurd hl hne⟩
   · refine ⟨_,cap,by rw [h.len],by rw [<- h.len]; exact h5,h6,fun _=>⟨g,0,rfl,⟨cur,h4⟩,h3,fun i hi=>?_⟩⟩
     have hx : i < xs.length:=by rw [h.len]; exact hi
     obtain ⟨x,hxx⟩ : ∃ x,xs[i]? = some x:=⟨_,List.getElem?_eq_getElem hx⟩
     refine ⟨x,?_,h.bod i _ _ hxx (List.getElem?_eq_getElem hi)⟩
     rw [Nat.zero_add,cell_of_row w g i cur 22 (0,0) h4]
     rw [<- h8,List.getElem?_take,if_pos (by omega)] at hxx
     simpa using hxx
 · rw [Nat.zero_add,cell_of_row w p j _ 94 (0,0) h.blk]
   simpa using hv
theorem zD3 {w:World} {S:Nat->Prop} {cs:List Value} {v:En} (h:Rep w S zA8 cs v) : ∃ r,cs = .int .i64 (eI v) :: r/\cs.length = 29:=by
 have hl:=h.len
 obtain ⟨x1,y1,rfl,h1,h2⟩:=h
 rw [show x1 = _ from h1] at hl ⊢
 exact ⟨y1,rfl,hl⟩
theorem Tryz.elem92 : Tryz.prog.underlying 92 = some (.slice (Tryz.prog.elem 92)):=by kernel_rfl
theorem Tryz.size22 (w:World) : (sizeOf (Tryz.prog.elem 92)).run Tryz.prog w = .ok 1 w:=by
 obtain ⟨i,hi,hz0,hz1,hz2⟩:=info_parts yP9
 have e : Tryz.prog.elem 92 = 22:=by kernel_rfl
 rw [e]
 simp [sizeOf,typeInfo,hi,hz1]
theorem yS3 (a:Option Addr) (n cap hi':Nat) (y:Int) (hy:y = hi') (h2:hi'<=cap) (w:World) :
    (Instr.slice 92 (.slice a n cap) none (some (.int .i64 y)) none).run Tryz.prog w = .ok (.slice a hi' cap) w:=by
 subst hy
 rw [run_slice_h (P:=Tryz.prog) w 92 _ n cap Tryz.elem92 .i64 hi' (by omega) (by omega),Tryz.size22]
 simp only [Result.andThen_ok,sliced,Int.toNat_natCast]
 cases a with
 | none=>simp
 | some a=>simp; cases a; simp [Addr.add]
theorem zV7 {w:World} {D n:Nat} {v:Value} {xs:List Value} (h:w.ownsRow D 22 1 v n xs) : ∃ a n c,v = .slice a n c:=by
 rcases h.2 with ⟨rfl,_⟩ | ⟨g,cap,cur,rfl,_⟩
 · exact ⟨_,_,_,rfl⟩
 · exact ⟨_,_,_,rfl⟩
theorem yO8 (a:Option Addr) (n m c c':Nat) : (Value.slice a n c).ownBlock = (Value.slice a m c').ownBlock:=by cases a <;> rfl
theorem xJ8 {w w':World} {D:Nat} {ea:Option Addr} {ec:Nat} {xs:List Value} {k:Nat} (h:w.ownsRow D 22 1 (.slice ea xs.length ec) xs.length xs) (hk:k<=xs.length) (hb:∀ (k:Nat) (cs:Array Value),w.heap[k]? = some (Obj.cells cs 22 (0,0))->w'.heap[k]? = w.heap[k]?) : w'.ownsRow D 22 1 (.slice ea k ec) (xs.take k).length (xs.take k):=by
 have hl : (xs.take k).length = k:=by rw [List.length_take]; omega
 refine ⟨by rw [Nat.mul_one],?_⟩
 rcases h.2 with ⟨e,e2⟩ | ⟨g,cap,cur,e,h3,h4,h5,h6,h7,h8⟩
 · injection e with e1 e3 e4
   have : k = 0:=by omega
   subst this e1 e4
   exact .inl ⟨rfl,by simp⟩
 · cases e
   refine .inr ⟨g,ec,cur,by rw [hl],h3,(hb _ _ h4).trans h4,by omega,h6,h7,?_⟩
   rw [Nat.mul_one] at h8 ⊢
   rw [hl]
   have:=congrArg (List.take k) h8
   rw [List.take_take,Nat.min_eq_left hk] at this
   exact this
theorem xC8 {o:Oper} {a:Act} {K:Act->World->Prop} {Q:Exit->Act->World->Prop} (w:World) (s x:Operand) (ho:o.op = .call { callee:=.builtin .append,args:=#[s,x],argTypes:=#[92,92] })
    (D:Nat) (v:Value) (l:List Value) (hs:a.eval s = v) (hr:w.ownsRow D 22 1 v l.length l) (ax:Option Addr) (m cx:Nat) (k:List Value) (hx:a.eval x = .slice ax m cx) (hm:m = k.length) (hk:VsR w ax k) (hlen:l.length + k.length<=2199023255552) (hD:D<=w.heap.size)
    (h:∀ v' w',w'.ownsRow D 22 1 v' (l ++ k).length (l ++ k)->w.grownBy w' v.ownBlock->(v'.ownBlock = v.ownBlock\/v'.ownBlock = some w.heap.size)->K (a.put o.dst v') w') : Oper.wp Tryz.prog o a w K Q:=by
 subst hm
 obtain ⟨v',w',hr1,h2,h3,h5⟩:=yS5 w D v l o.type ax cx k hr hk hlen hD
 unfold Oper.wp execOp
 simp only [ho,resolve,invoke,builtin,Sem.run_bind,Sem.run_pure,Result.andThen_ok,List.map_toArray,List.map_cons,List.map_nil,hs,hx,hr1]
 exact h v' w' h2 h3 h5
theorem SdR.ent {D:Nat} {w2 w4:World} {p:Nat} {s:Sd} {sv:Value} {ea:Option Addr} {ec:Nat} {xs:List Value} {kk:Nat} {v4 u:Value} {b:List UInt8} (h:SdR D w2 p s sv (.slice ea xs.length ec) xs) (hk:kk<=xs.length) (hr:w4.ownsRow D 22 1 v4 (xs.take kk ++ [u]).length (xs.take kk ++ [u])) (hp:w4.heap[p]? = some (.cells #[.int .i64 s.t,.int .i64 s.v,sv,.int .i64 s.base,.slice ea xs.length ec] 94 (0,0)))
    (hb:∀ (k:Nat) (cs:Array Value),w2.heap[k]? = some (Obj.cells cs 5 (0,0))->w4.heap[k]? = w2.heap[k]?) (hu:BodV w2 (fun k=>D<=k) u b) : SdR D (w4.setCell ⟨p,4,none⟩ v4) p ⟨s.t,s.v,s.sn,s.base,s.bs.take kk ++ [b]⟩ sv v4 (xs.take kk ++ [u]):=by
 have ne : ∀ (k:Nat) (cs:Array Value) (t:TypeId),w4.heap[k]? = some (Obj.cells cs t (0,0))->t ≠ 94->(w4.setCell ⟨p,4,none⟩ v4).heap[k]? = w4.heap[k]?:=fun k cs t hk2 ht=>zB0 _ _ _ _ k (fun e=>by
  rw [e,hp] at hk2
  cases hk2
  exact ht rfl)
 have b5 : ∀ (k:Nat) (cs:Array Value),w2.heap[k]? = some (Obj.cells cs 5 (0,0))->(w4.setCell ⟨p,4,none⟩ v4).heap[k]? = w2.heap[k]?:=fun k cs hk2=>(ne k cs 5 ((hb k cs hk2).trans hk2) (by decide)).trans (hb k cs hk2)
 have hl:=h.len
 refine ⟨?_,h.lo,h.sn.alike b5,zK0 hr (fun k cs hk2=>ne k cs 22 hk2 (by decide)),by simp [hl],fun i x c hx hc=>?_⟩
 · show _ = _
   rw [heap_setCell_same w4 p 4 _ 94 _ hp]
   rfl
 · have hlx : (xs.take kk).length = kk:=by rw [List.length_take]; omega
   have hlb : (s.bs.take kk).length = kk:=by rw [List.length_take]; omega
   by_cases hi : i < kk
   · rw [List.getElem?_append_left (by omega),List.getElem?_take,if_pos hi] at hx
     simp only at hc
     rw [List.getElem?_append_left (by omega),List.getElem?_take,if_pos hi] at hc
     exact (h.bod i x c hx hc).alike b5
   · rw [List.getElem?_append_right (by omega)] at hx
     simp only at hc
     rw [List.getElem?_append_right (by omega)] at hc
     have h0 : i - kk = 0:=by
      have:=(List.getElem?_eq_some_iff.1 hx).1
      simp at this; omega
     rw [hlx,h0] at hx
     rw [hlb,h0] at hc
     simp at hx hc
     subst hx hc
     exact hu.alike b5
theorem xQ5 : (Tryz.prog.info? 73).map (·.size) = some 29:=by kernel_rfl
theorem zQ9 (D p:Nat) (s:Sd) (sv ev:Value) (xs:List Value) (place:Int) (a:Option Addr) (n cap:Nat) (b:List UInt8) (w:World) (hD:D<=w.heap.size) (h:SdR D w p s sv ev xs) (hb:BodV w (fun k=>D<=k) (.slice a n cap) b) (hl:b.length<=1048576) (hbase:okN s.base) (hlen:s.bs.length<=1099511627776) :
    Calls Tryz.prog 63 #[.pointer (some ⟨p,0,none⟩),.int .i64 place,.slice a n cap] w (TkP D w p (zR0 s place b)):=by
 obtain ⟨ea,ec,hev,hec⟩ : ∃ ea ec,ev = .slice ea xs.length ec/\xs.length<=ec:=by
  rcases h.row.2 with ⟨e,e2⟩ | ⟨g,cap,cur,e,h3,h4,h5,_⟩
  · exact ⟨none,0,by rw [e,e2],by omega⟩
  · exact ⟨_,cap,e,h5⟩
 subst hev
 obtain ⟨g1,g2,g3,g4⟩:=yN1 hb.1 hl
 have HG:=zA0 (zT6 a n cap b w g1 g2 g3 g4)
 have HS:=zA0 h
 have hDD:=zA0 hD
 have HU:=zA0 hb
 have HBA:=zA0 hbase
 have HLE:=zA0 hlen
 clear g1 g2 g3 g4 hb hl h hD
 go_enter Tryz.func63,Tryz.ntmps63
 go_wp2_with fail
 refine HG.out.mono ?_
 rintro e w1 ⟨cs,v,rfl,hrep,hval,hb1⟩
 obtain ⟨r,hcs,hcl⟩:=zD3 hrep
 have h1:=HS.out.grow hb1
 have H1:=zA0 h1
 have HB1:=zA0 hb1
 have HU1:=zA0 (HU.out.alike (w':=w1) (fun k _ hk=>hb1.block k (zA1 hk)))
 have HCI : Hid ((Tryz.prog.info? 73).map (·.size) = some cs.toArray.size):=by show _ = _; rw [List.size_toArray,hcl]; exact xQ5
 have HCS : Hid (cs.toArray.size = zB7.size):=by show _ = _; rw [List.size_toArray,hcl]; rfl
 have HCO : Hid (cs.toArray.all (·.oneCell') = true):=hrep.all
 have HVAL:=zA0 hval
 have HR0 : Hid (cs.toArray[0]? = some (.int .i64 (eI v))):=by show _ = _; rw [hcs]; rfl
 clear hb1 h1 HG hrep hval hcs hcl HS
 go_wp2_with (refine zA5 rfl 73 (.tmp 7) (.tmp 12) rfl w1.heap.size cs.toArray rfl rfl 73 zB7 (heap_alloc_new w1 (.cells zB7 73)) HCI.out HCS.out.symm HCO.out ?next)
 case next =>
  intro w2 hw2h
  have hw2:=hw2h.out
  have hB2 : Below w1.heap.size w1 w2:=by rw [hw2]; exact ((Below.refl _ _).alloc (Nat.le_refl _) _).trans ⟨rfl,rfl,rfl,by simp [World.setRow],fun k hk=>setRow_other _ _ _ _ (by omega)⟩
  have G2:=zA0 (show w2.heap[w1.heap.size]? = some (.cells cs.toArray 73 (0,0)) by rw [hw2]; exact setRow_heap _ _ _ _ 73 _ (heap_alloc_new w1 _))
  have x0 : w2.cell? ⟨w1.heap.size,0,none⟩ = some (.int .i64 (eI v)):=by rw [cell_of_row w2 _ 0 _ 73 (0,0) G2.out]; exact HR0.out
  have lx:=zA1 G2.out
  have H2:=zA0 (H1.out.grow hB2)
  have HU2:=zA0 (HU1.out.alike (w':=w2) (fun k _ hk=>hB2.block k (zA1 hk)))
  obtain ⟨c0,c1,c2,c3,c4,lp,fp⟩:=H2.out.blk.cells
  have HB2:=zA0 ((HB1.out.mono hDD.out).trans (hB2.mono (Nat.le_trans hDD.out HB1.out.size)))
  have HS2:=zA0 H2.out.at
  clear hw2 hw2h hB2 HR0 HCI HCS HCO H1 HU1 c0 c1 c2
  by_cases ok : okE b
  · have hv : v = dE b:=HVAL.out ok
    subst hv
    rw [decide_eq_true ok]
    generalize hI : eI (dE b) = I at *
    by_cases hp : place = I
    · subst hp
      by_cases hm : s.base < place/\place<=s.base + s.bs.length + 1
      · have HT : Hid (zR0 s place b = some ⟨s.t,s.v,s.sn,s.base,s.bs.take (place - s.base - 1).toNat ++ [b]⟩):=zA0 (by unfold zR0; rw [hI,if_pos ⟨ok,rfl,hm.1,hm.2⟩])
        have HM:=zA0 hm
        clear ok HVAL
        go_wp2_with (go_at_call 89; refine (zN2 _ p 0 s place _ HS2.out HBA.out HLE.out).mono ?_; rintro e w3 ⟨rfl,nq,rfl⟩; rw [decide_eq_true HM.out])
        -- REGION
        obtain ⟨kk,hkk⟩ : ∃ kk,kk = (place - s.base - 1).toNat:=⟨_,rfl⟩
        have hkl : kk<=xs.length:=by have:=H2.out.len; omega
        have hxl : xs.length<=1099511627776:=by have:=H2.out.len; omega
        have hki : place - s.base - 1 = (kk:Int):=by omega
        have hsl:=yS3 ea xs.length ec kk (place - s.base - 1) hki (Nat.le_trans hkl hec)
        have ROW:=zA0 (xJ8 (w':=(w2.drewN nq).drew.alloc (.cells #[.slice a n cap] 22)) H2.out.row hkl (fun k _ hk=>Below.heap_alloc (w2.drewN nq).drew _ k (zA1 hk)))
        have VS1 : Hid (VsR ((w2.drewN nq).drew.alloc (.cells #[.slice a n cap] 22)) (some ⟨w2.heap.size,0,none⟩) [.slice a n cap]):=zA0 (xO9 (w2.drewN nq).drew (.slice a n cap) rfl)
        have W2B : Hid (Below w2.heap.size w2 ((w2.drewN nq).drew.alloc (.cells #[.slice a n cap] 22))):=zA0 (⟨rfl,rfl,rfl,by simp,fun k hk=>Below.heap_alloc (w2.drewN nq).drew _ k hk⟩)
        have DW : Hid (D<=((w2.drewN nq).drew.alloc (.cells #[.slice a n cap] 22)).heap.size):=zA0 (by have:=HB2.out.size; have:=hDD.out; simp; show D<=w2.heap.size + 1; omega)
        have LP:=zA0 lp
        have LX:=zA0 lx
        have C4:=zA0 c4
        have C3:=zA0 c3
        have X0:=zA0 x0
        have NP : Hid (some p ≠ (Value.slice ea kk ec).ownBlock):=zA0 (fun e=>by
         obtain ⟨_,_,cur,hc⟩:=zD7 (k:=p) H2.out.row (by rw [<- yO8 ea kk xs.length ec ec]; exact e.symm)
         have hb : w2.heap[p]? = _:=H2.out.blk
         rw [hb] at hc; cases hc)
        have NX : Hid (some w1.heap.size ≠ (Value.slice ea kk ec).ownBlock):=zA0 (fun e=>by
         obtain ⟨_,_,cur,hc⟩:=zD7 (k:=w1.heap.size) H2.out.row (by rw [<- yO8 ea kk xs.length ec ec]; exact e.symm)
         rw [G2.out] at hc; cases hc)
        have HKK:=zA0 hkk
        have HKL:=zA0 hkl
        have HXL:=zA0 hxl
        clear hkk HS2
        refine zD8 (fun wz:World=>wz.cell? ⟨p,4,none⟩ = some (.slice ea xs.length ec)/\wz.cell? ⟨p,3,none⟩ = some (.int .i64 s.base)/\wz.cell? ⟨w1.heap.size,0,none⟩ = some (.int .i64 place)) 19 (by kernel_rfl) ?_
        have hHeld : (fun wz:World=>wz.cell? ⟨p,4,none⟩ = some (.slice ea xs.length ec)/\wz.cell? ⟨p,3,none⟩ = some (.int .i64 s.base)/\wz.cell? ⟨w1.heap.size,0,none⟩ = some (.int .i64 place)) _:=⟨C4.out,C3.out,X0.out⟩
        refine tkL 0 rfl (.pointer (some ⟨p,0,none⟩)) (by kernel_rfl) rfl (fun _ _ _=>id) hHeld (by intro w hSw; (try dsimp only at hSw); go_simp) ?_
        try simp only [aPa,aPc,aPd]
        refine tkL 1 rfl (.pointer (some ⟨p,0,none⟩)) (by kernel_rfl) rfl (fun _ _ _=>id) hHeld (by intro w hSw; (try dsimp only at hSw); go_simp) ?_
        try simp only [aPa,aPc,aPd]
        refine tkL 2 rfl (.pointer (some ⟨p,0,none⟩)) (by kernel_rfl) rfl (fun _ _ _=>id) hHeld (by intro w hSw; (try dsimp only at hSw); go_simp) ?_
        try simp only [aPa,aPc,aPd]
        refine tkL 3 rfl (.pointer (some ⟨p,4,none⟩)) (by kernel_rfl) rfl (fun _ _ _=>id) hHeld (by intro w hSw; (try dsimp only at hSw); go_simp) ?_
        try simp only [aPa,aPc,aPd]
        refine tkL 4 rfl (.slice ea xs.length ec) (by kernel_rfl) rfl (fun _ _ _=>id) hHeld (by intro w hSw; obtain ⟨s1,s2,s3⟩:=hSw; go_simp) ?_
        try simp only [aPa,aPc,aPd]
        refine tkL 5 rfl (.pointer (some ⟨w1.heap.size,0,none⟩)) (by kernel_rfl) rfl (fun _ _ _=>id) hHeld (by intro w hSw; (try dsimp only at hSw); go_simp) ?_
        try simp only [aPa,aPc,aPd]
        refine tkL 6 rfl (.int .i64 place) (by kernel_rfl) rfl (fun _ _ _=>id) hHeld (by intro w hSw; obtain ⟨s1,s2,s3⟩:=hSw; go_simp) ?_
        try simp only [aPa,aPc,aPd]
        refine tkL 7 rfl (.pointer (some ⟨p,0,none⟩)) (by kernel_rfl) rfl (fun _ _ _=>id) hHeld (by intro w hSw; (try dsimp only at hSw); go_simp) ?_
        try simp only [aPa,aPc,aPd]
        refine tkL 8 rfl (.pointer (some ⟨p,0,none⟩)) (by kernel_rfl) rfl (fun _ _ _=>id) hHeld (by intro w hSw; (try dsimp only at hSw); go_simp) ?_
        try simp only [aPa,aPc,aPd]
        refine tkL 9 rfl (.pointer (some ⟨p,3,none⟩)) (by kernel_rfl) rfl (fun _ _ _=>id) hHeld (by intro w hSw; (try dsimp only at hSw); go_simp) ?_
        try simp only [aPa,aPc,aPd]
        refine tkL 10 rfl (.int .i64 s.base) (by kernel_rfl) rfl (fun _ _ _=>id) hHeld (by intro w hSw; obtain ⟨s1,s2,s3⟩:=hSw; go_simp) ?_
        try simp only [aPa,aPc,aPd]
        refine tkL 11 rfl (.int .i64 (place - s.base)) (by kernel_rfl) rfl (fun _ _ _=>id) hHeld (by intro w hSw; clear hSw; go_simp; (rw [IntKind.wrap_i64]; omega)) ?_
        try simp only [aPa,aPc,aPd]
        refine tkL 12 rfl (.int .i64 (place - s.base - 1)) (by kernel_rfl) rfl (fun _ _ _=>id) hHeld (by intro w hSw; clear hSw; go_simp; (rw [IntKind.wrap_i64]; omega)) ?_
        try simp only [aPa,aPc,aPd]
        refine tkL 13 rfl (.slice ea kk ec) (by kernel_rfl) rfl (fun _ _ _=>id) hHeld (by intro w hSw; clear hSw; go_simp; intro hh; omega) ?_
        try simp only [aPa,aPc,aPd]
        refine tkL 14 rfl (.slice a n cap) (by kernel_rfl) rfl (fun _ _ _=>id) hHeld (by intro w hSw; (try dsimp only at hSw); go_simp) ?_
        try simp only [aPa,aPc,aPd]
        refine tkLc 15 rfl (by kernel_rfl) rfl (fun K hK=>?_)
        go_simp
        have s4 : (fun wz:World=>wz.cell? ⟨p,4,none⟩ = some (.slice ea xs.length ec)/\wz.cell? ⟨p,3,none⟩ = some (.int .i64 s.base)/\wz.cell? ⟨w1.heap.size,0,none⟩ = some (.int .i64 place)) ((w2.drewN nq).drew.alloc (.cells #[.slice a n cap] 22)):=⟨(W2B.out.cell (p:=⟨p,4,none⟩) LP.out).trans C4.out,(W2B.out.cell (p:=⟨p,3,none⟩) LP.out).trans C3.out,(W2B.out.cell (p:=⟨w1.heap.size,0,none⟩) LX.out).trans X0.out⟩
        refine hK.out _ _ (fun _=>s4) ?_
        have hHeld:=s4
        clear hK K
        try simp only [aPa,aPb,aPc,aPd]
        refine tkLc 16 rfl (by kernel_rfl) rfl (fun K hK=>?_)
        refine xC8 _ (.tmp 42) (.tmp 44) rfl D (.slice ea kk ec) (xs.take kk) rfl (ROW.out) (some ⟨w2.heap.size,0,none⟩) 1 1 [.slice a n cap] rfl rfl VS1.out (by simp; omega) DW.out (fun v4 w4 a1 a2 a3=>?_)
        have A1:=zA0 a1
        have A2:=zA0 a2
        obtain ⟨va4,ln4,vc4,hv4⟩ : ∃ a n c,v4 = Value.slice a n c:=zV7 a1
        subst hv4
        have p4 : w4.heap[p]? = _:=(a2.block p (by simp; exact Nat.lt_succ_of_lt LP.out) NP.out).trans ((W2B.out.block p LP.out).trans H2.out.blk)
        have P4:=zA0 p4
        have x4 : w4.heap[w1.heap.size]? = _:=(a2.block _ (by simp; exact Nat.lt_succ_of_lt LX.out) NX.out).trans ((W2B.out.block _ LX.out).trans G2.out)
        have s5 : (fun wz:World=>wz.cell? ⟨p,4,none⟩ = some (.slice ea xs.length ec)/\wz.cell? ⟨p,3,none⟩ = some (.int .i64 s.base)/\wz.cell? ⟨w1.heap.size,0,none⟩ = some (.int .i64 place)) w4:=⟨cor p4 rfl,cor p4 rfl,by rw [cell_of_row _ _ _ _ 73 (0,0) x4]; exact (cell_of_row w2 _ 0 _ 73 (0,0) G2.out).symm.trans X0.out⟩
        have c5:=s5.1
        have lp5:=zA1 p4
        have f5 : w4.frozen? ⟨p,4,none⟩ = false:=by simp [World.frozen?,p4]
        clear a1 a2 a3 p4 x4
        refine hK.out _ _ (fun _=>s5) ?_
        have hHeld:=s5
        clear hK K
        try simp only [aPa,aPc,aPd]
        refine tkLc 17 rfl (by kernel_rfl) rfl (fun K hK=>?_)
        go_simp
        refine hK.out _ _ (fun _=>hHeld) ?_
        clear hK K
        try simp only [aPa,aPb,aPc,aPd]
        refine tkL 18 rfl (.pointer (some ⟨p,4,none⟩)) (by kernel_rfl) rfl (fun _ _ _=>id) hHeld (by intro w hSw; (try dsimp only at hSw); go_simp) ?_
        try simp only [aPa,aPc,aPd]
        refine tkLc 19 rfl (by kernel_rfl) rfl (fun K hK=>?_)
        clear hHeld
        go_simp
        refine hK.out _ _ (fun h=>absurd rfl h) ?_
        clear hK K
        try simp only [aPa,aPb,aPc,aPd]
        refine zD9 (by kernel_rfl) ?_ _
        go_wp2
        go_ret
        refine ⟨by rw [HT.out]; rfl,?_,?_⟩
        · refine (HB2.out.trans ((W2B.out.mono (by have:=HB2.out.size; have:=hDD.out; omega)).trans (zM9 ROW.out A2.out DW.out))).trans (zC2 H2.out.lo _ _ _)
        · intro s' hs
          rw [HT.out] at hs
          cases hs
          refine ⟨sv,.slice va4 ln4 vc4,xs.take kk ++ [.slice a n cap],?_⟩
          rw [<- HKK.out]
          have hb5 : ∀ (k:Nat) (cs:Array Value),w2.heap[k]? = some (Obj.cells cs 5 (0,0))->w4.heap[k]? = w2.heap[k]?:=fun k cs hk=>(A2.out.block k (by simp; exact Nat.lt_succ_of_lt (zA1 hk)) (fun e=>by
           obtain ⟨_,_,cur,hc⟩:=zD7 (k:=k) H2.out.row (by rw [<- yO8 ea kk xs.length ec ec]; exact e.symm)
           rw [hk] at hc; cases hc)).trans (W2B.out.block k (zA1 hk))
          exact SdR.ent H2.out HKL.out A1.out P4.out hb5 HU2.out
      · have HT : Hid (zR0 s place b = none):=zA0 (by unfold zR0; rw [hI,if_neg (fun h=>hm ⟨h.2.2.1,h.2.2.2⟩)])
        have HM:=zA0 hm
        clear ok HVAL hm
        go_wp2_with (go_at_call 89; refine (zN2 _ p 0 s place _ HS2.out HBA.out HLE.out).mono ?_; rintro e w3 ⟨rfl,nq,rfl⟩; rw [decide_eq_false HM.out])
        go_ret
        exact ⟨by rw [HT.out]; rfl,HB2.out.trans ⟨rfl,rfl,rfl,Nat.le_refl _,fun _ _=>rfl⟩,fun s' h=>by rw [HT.out] at h; cases h⟩
    · have HT : Hid (zR0 s place b = none):=zA0 (by unfold zR0; rw [hI,if_neg (fun h=>hp h.2.1)])
      have hp3 : (place != I) = true:=by simpa using hp
      clear ok HVAL hp
      go_wp2
      go_ret
      exact ⟨by rw [HT.out]; rfl,HB2.out,fun s' h=>by rw [HT.out] at h; cases h⟩
  · have HT : Hid (zR0 s place b = none):=zA0 (if_neg (fun h=>ok h.1))
    rw [decide_eq_false ok]
    clear ok HVAL
    go_wp2
    go_ret
    exact ⟨by rw [HT.out]; rfl,HB2.out,fun s' h=>by rw [HT.out] at h; cases h⟩
end
end Go.Proofs.YtocoimjhglackaaGreat
