/- Wfc -/
import Derived.Test.YtocoimjhglackaaGreatK20
set_option maxHeartbeats 8000000
set_option maxRecDepth 100000
namespace Go.Proofs.YtocoimjhglackaaGreat
section
open Go.RowKit Go.Maps
theorem zH1 {w:World} {S:Nat->Prop} {cs:List Value} {v:Sn} (h:Rep w S zA2 cs v) : ∃ av cv al cl ad cd,cs = [.int .i64 v.1,.int .i64 v.2.1,.slice av v.2.2.1.1.length cv,.slice al v.2.2.1.2.length cl,.slice ad v.2.2.2.length cd]/\RepL w S .num av v.2.2.1.1/\RepL w S .num al v.2.2.1.2/\v.2.2.2.length<=cd/\RepB w S ad v.2.2.2:=by
 obtain ⟨x1,y1,rfl,h1,h2⟩:=h
 obtain ⟨x2,y2,rfl,h2,h3⟩:=h2
 obtain ⟨x3,y3,rfl,h3,h4⟩:=h3
 obtain ⟨x4,y4,rfl,h5,h6⟩:=h3
 obtain ⟨ad,cd,rfl,h7,h8,h9⟩:=h4
 obtain ⟨av,cv,rfl,h10,h11⟩:=h5
 obtain ⟨al,cl,rfl,h12,h13⟩:=h6
 rw [show x1 = _ from h1,show x2 = _ from h2]
 exact ⟨av,cv,al,cl,ad,cd,rfl,⟨h10,h11⟩,⟨h12,h13⟩,h7,h8,h9⟩
theorem xE0 {f:Fm} {vs:List (Vl f)} (h:(en (.lst f) vs).2 = false) : vs.length<=64:=by
 by_cases g : vs.length<=64
 · exact g
 · exfalso
   have : en (.lst f) vs = ([],true):=by show (if _ then _ else _) = _; rw [if_neg g]
   rw [this] at h; cases h
theorem xY8 {l:List UInt8} (h:(en .byt l).2 = false) : l.length<=65536:=by
 by_cases g : l.length<=65536
 · exact g
 · exfalso
   have : en .byt l = ([],true):=by show (if _ then _ else _) = _; rw [if_neg g]
   rw [this] at h; cases h
theorem zS2 {a b:Fm} {v:Vl (.cat a b)} (h:(en (.cat a b) v).2 = false) : (en a v.1).2 = false/\(en b v.2).2 = false:=by
 have h' : ((en a v.1).2 || (en b v.2).2) = false:=h
 exact Bool.or_eq_false_iff.1 h'
theorem xB2 {v:Sn} (h:(en zA2 v).2 = false) : v.2.2.1.1.length<=64/\v.2.2.1.2.length<=64/\v.2.2.2.length<=65536:=by
 have h1:=zS2 (zS2 (zS2 h).2).2
 have h2:=zS2 (a:=.lst .num) (b:=.lst .num) h1.1
 exact ⟨xE0 h2.1,xE0 h2.2,xY8 h1.2⟩
theorem xM9 {b:List UInt8} : okH b ↔ okS (b ++ z3)/\okN (dS (b ++ z3)).1/\okN (dS (b ++ z3)).2.1/\(dS (b ++ z3)).2.2.1.1.length + (dS (b ++ z3)).2.2.1.2.length + (dS (b ++ z3)).2.2.2.length = 0:=by
 constructor
 · intro h
   have e:=xP9 h
   have en1:=yF8 h.2.1 h.2.2
   obtain ⟨h1,h2⟩:=yU1 (x:=((dH b).1,(dH b).2,([],[]),[])) (by rw [en1])
   rw [en1] at h1 h2
   simp only [<- e] at h1 h2
   refine ⟨h1,?_⟩
   rw [h2]
   exact ⟨h.2.1,h.2.2,rfl⟩
 · rintro ⟨h1,h2,h3,h4⟩
   obtain ⟨g1,g2⟩:=zY3 h1
   generalize hv : dS (b ++ z3) = v at *
   obtain ⟨i,t,⟨vs,ls⟩,d⟩:=v
   simp only at h2 h3 h4
   obtain rfl : vs = []:=List.length_eq_zero_iff.1 (by omega)
   obtain rfl : ls = []:=List.length_eq_zero_iff.1 (by omega)
   obtain rfl : d = []:=List.length_eq_zero_iff.1 (by omega)
   rw [yF8 h2 h3] at g2
   have hb : b = zE0 i t:=List.append_cancel_right g2
   rw [hb]
   exact (yT3 h2 h3).1
theorem xM8 {b:List UInt8} (h:okH b) : dS (b ++ z3) = ((dH b).1,(dH b).2,([],[]),[]):=by
 have e:=xP9 h
 have en1:=yF8 h.2.1 h.2.2
 obtain ⟨h1,h2⟩:=yU1 (x:=((dH b).1,(dH b).2,([],[]),[])) (by rw [en1])
 rw [en1] at h2
 simp only [<- e] at h2
 exact h2
theorem kD8 : (Tryz.prog.info? 31).map (·.size) = some 2:=by kernel_rfl
theorem set2 {w:World} {g:Nat} {a b:Value} {t:TypeId} (h:w.heap[g]? = some (.cells #[a,b] t (0,0))) (x y:Value) : ((w.setCell ⟨g,0,none⟩ x).setCell ⟨g,1,none⟩ y).heap[g]? = some (.cells #[x,y] t (0,0)):=by
 have h1:=heap_setCell_same w g 0 _ t x h
 have h2:=heap_setCell_same _ g 1 _ t y h1
 rw [h2]; rfl
theorem zO4 (w:World) (g:Nat) (x y:Value) : Below g w ((w.setCell ⟨g,0,none⟩ x).setCell ⟨g,1,none⟩ y):=((Below.refl g w).setCell (p:=⟨g,0,none⟩) (Nat.le_refl _) x).trans ((Below.refl g _).setCell (p:=⟨g,1,none⟩) (Nat.le_refl _) y)
theorem xK0 (tmps:Array Value) (W:World) (g:Nat) (x y:Int) (bl:Bool) (h2:tmps[2]?.getD undef = .pointer (some ⟨g,0,none⟩)) (h3:tmps[3]?.getD undef = .bool bl) (hg:W.heap[g]? = some (.cells #[.int .i64 x,.int .i64 y] 31 (0,0))) : (results Tryz.f97 tmps).run Tryz.prog W = .ok (.tuple #[.agg #[.int .i64 x,.int .i64 y],.bool bl]) W:=by
 have hl:=run_loadVar_row (P:=Tryz.prog) W g 31 31 #[.int .i64 x,.int .i64 y] (0,0) _ hg Tryz.underlying31 rfl kD8
 simp [results,Tryz.results97,asAddr,h2,h3,hl]
theorem xW1 {w3 w4:World} {g:Nat} {x y A B:Value} {cs:Array Value} (hg:w3.heap[g]? = some (.cells #[x,y] 31 (0,0))) (hb:Below ((w3.alloc (.cells cs 36)).alloc (.cells #[A,B] 31)).heap.size ((w3.alloc (.cells cs 36)).alloc (.cells #[A,B] 31)) w4) :
    w4.heap[w3.heap.size]? = some (.cells cs 36 (0,0))/\w4.heap[w3.heap.size + 1]? = some (.cells #[A,B] 31 (0,0))/\w4.heap[g]? = some (.cells #[x,y] 31 (0,0)):=by
 have hl:=zA1 hg
 refine ⟨(hb.block _ (by simp; omega)).trans ((Below.heap_alloc _ _ _ (by simp)).trans (heap_alloc_new w3 _)),(hb.block _ (by simp)).trans ?_,(hb.block _ (by simp; omega)).trans ((Below.heap_alloc _ _ _ (by simp; omega)).trans ((Below.heap_alloc _ _ _ hl).trans hg))⟩
 have:=heap_alloc_new (w3.alloc (.cells cs 36)) (.cells #[A,B] 31)
 rwa [World.size_alloc] at this
def hv1 (b:List UInt8) : Int:=if okH b then (dH b).1 else 0
def hv2 (b:List UInt8) : Int:=if okH b then (dH b).2 else 0
def GhP (w:World) (b:List UInt8) (e:Ending) (w':World) : Prop:=e = .returned (.tuple #[.agg #[.int .i64 (hv1 b),.int .i64 (hv2 b)],.bool (decide (okH b))])/\Below w.heap.size w w'
theorem xG8 {w:World} {l:List UInt8} (h:Bs w none l) : l = []:=by
 refine Classical.byContradiction fun hn=>?_
 obtain ⟨b,off,e,_⟩:=h.2 hn
 cases e
theorem yD9 {P:Program} {i:TypeInfo} (ty:TypeId) (hk:P.underlying 22 = some (.slice 5)) (hk9:P.underlying 9 = some .string) (hi:P.info? 5 = some i) (hz:i.zero = some (.int .u8 0)) (hs1:i.size = 1) (hb1:i.bytes = 1)
    (w:World) (v:Value) (l:List UInt8) (hown:SlR w v l) (x:Value) (news:List UInt8) (hs:Src P 1 9 x news.length (vals news) w) (hlen:l.length + news.length<=211106232532992) :
    ∃ v' w',(Builtin.append_ #[22,9] ty #[v,x]).run P w = .ok v' w'/\SlR w' v' (l ++ news)/\App w w' none v v':=by
 by_cases hn : news = []
 · subst hn
   have hs' : Src P i.size 9 x 0 [] w:=by rw [hs1]; exact hs
   have hc:=hs'.cells
   have hlen0:=hs'.len
   rcases hown with ⟨rfl,rfl⟩ | ⟨g,cap,cur,rfl,hg,h1,h2,h3,h4⟩
   · exact ⟨.slice none 0 0,w,by simp [Builtin.append_,run_underlying hk,run_underlying hk9,sizeOf,typeInfo,hi,hlen0,hc],.inl ⟨rfl,rfl⟩,App.refl _ _ _⟩
   · have hst:=run_storeCells_at P g (l.length * i.size) 5 [] 0 cur w hg (by rw [hs1]; simp; omega) (by simp)
     simp only [Nat.add_zero] at hst
     have ew : (cur.toList.take (l.length * i.size) ++ [] ++ cur.toList.drop (l.length * i.size + ([] : List Value).length)).toArray = cur:=by simp
     rw [ew] at hst
     have hr : (Builtin.append_ #[22,9] ty #[.slice (some ⟨g,0,none⟩) l.length cap,x]).run P w = .ok (.slice (some ⟨g,0,none⟩) l.length cap) (w.setRow g cur):=by
      simp [Builtin.append_,run_underlying hk,run_underlying hk9,sizeOf,typeInfo,hi,hlen0,h1,hc,Addr.add_lit,hst]
     have hb : ∀ k,(w.setRow g cur).heap[k]? = w.heap[k]?:=fun k=>by
      by_cases e : k = g
      · subst e; rw [setRow_heap w k cur _ 5 _ hg,hg]
      · exact setRow_other w g k _ e
     refine ⟨_,_,hr,.inr ⟨g,cap,cur,by simp,(hb g).trans hg,by simpa using h1,h2,h3,by simpa using h4⟩,⟨rfl,rfl,rfl,by simp,fun k _ _ _=>hb k,fun _ g' cur' e1 e2=>⟨cur',(hb g').trans e2,rfl,rfl⟩,.inl ⟨rfl,rfl,Nat.le_refl _⟩⟩⟩
 · have hp : 0 < news.length:=List.length_pos_iff.2 hn
   have hs' : Src P i.size 9 x news.length (vals news) w:=by rw [hs1]; exact hs
   have grown : ∀ (base:Option Addr) (cap:Nat),l.length<=cap->cap < l.length + news.length->(Builtin.firstCells i.size l.length (.slice base l.length cap)).run P w.drew = .ok (vals l).toArray w.drew ->
       ∃ v' w',(Builtin.append_ #[22,9] ty #[.slice base l.length cap,x]).run P w = .ok v' w'/\SlR w' v' (l ++ news)/\App w w' none (.slice base l.length cap) v':=by
    intro base cap hc1 hc2 hold
    have hr:=run_append_grow_src w 22 9 ty 5 i (.int .u8 0) hk hi hz base l.length cap (vals l) hold x news.length (vals news) hs' hc2 (by omega) (by rw [hb1,Nat.mul_one]; exact xE9 (by omega) (by omega))
    have hge:=grownCap_ge w (l.length + news.length) cap 5
    have hm : grownCap w (l.length + news.length) cap 5<=maxLen:=grownCap_le_maxLen w _ cap 5 (by unfold maxLen; omega)
    refine ⟨_,_,hr,SlR.own (.inr ⟨w.heap.size,_,_,by rw [List.length_append],heap_alloc_new w.drew _,by rw [List.length_append]; exact hge,hm,?_,?_⟩),⟨rfl,rfl,rfl,by simp,fun k hk _ _=>Below.heap_alloc w.drew _ k hk,fun _ g cur _ h2=>⟨cur,(Below.heap_alloc w.drew _ g (Array.getElem?_eq_some_iff.1 h2).1).trans h2,rfl,rfl⟩,.inr ⟨w.heap.size,rfl,Nat.le_refl _⟩⟩⟩
    · simp only [Array.size_append,List.size_toArray,size_zeroCells,List.length_append,zC7]
      simp [Value.cells]
      omega
    · rw [zG6]
      simp only [Array.toList_append]
      have : (l ++ news).length = (vals l ++ vals news).length:=by simp [zC7]
      rw [this]
      exact List.take_left
   rcases hown with ⟨rfl,rfl⟩ | ⟨g,cap,cur,rfl,hg,h1,h2,h3,h4⟩
   · exact grown none 0 (Nat.le_refl _) (by simpa using hp) (by exact run_firstCells_none w.drew i.size 0 0 0)
   · by_cases hroom : l.length + news.length<=cap
     · have hst:=run_storeCells_at P g (l.length * i.size) 5 (vals news) 0 cur w hg (by rw [hs1,zC7]; omega) (zN9 news)
       simp only [Nat.add_zero] at hst
       have hr : (Builtin.append_ #[22,9] ty #[.slice (some ⟨g,0,none⟩) l.length cap,x]).run P w = .ok (.slice (some ⟨g,0,none⟩) (l.length + news.length) cap)
           (w.setRow g (cur.toList.take (l.length * i.size) ++ vals news ++ cur.toList.drop (l.length * i.size + (vals news).length)).toArray):=by
        simp [Builtin.append_,run_underlying hk,run_underlying hk9,sizeOf,typeInfo,hi,hs'.len,hroom,hs'.cells,Addr.add_lit,hst]
       have hsz : (cur.toList.take (l.length * i.size) ++ vals news ++ cur.toList.drop (l.length * i.size + (vals news).length)).toArray.size = cur.size:=by
        simp only [List.size_toArray,List.length_append,List.length_take,List.length_drop,Array.length_toList,zC7,hs1]
        omega
       have htk : (cur.toList.take (l.length * i.size) ++ vals news ++ cur.toList.drop (l.length * i.size + (vals news).length)).take l.length = cur.toList.take l.length:=by
        rw [hs1,Nat.mul_one,List.append_assoc]
        have : (cur.toList.take l.length).length = l.length:=by simp; omega
        exact List.take_left' this
       have hgr : Gr (.slice (some ⟨g,0,none⟩) l.length cap):=by show l.length < cap; omega
       refine ⟨_,_,hr,.inr ⟨g,cap,_,by rw [List.length_append],setRow_heap w g cur _ 5 _ hg,by rw [List.length_append]; exact hroom,by rw [hsz]; exact h2,by rw [hsz]; exact h3,?_⟩,⟨rfl,rfl,rfl,by simp,fun k _ _ hk=>setRow_other w g k _ (fun e=>hk hgr (by simp [Value.ownBlock,e])),fun _ g' cur' e1 e2=>?_,.inl ⟨rfl,rfl,by show l.length<=l.length + news.length; omega⟩⟩⟩
       · rw [hs1,Nat.mul_one,h4,zG6]
         have : (l ++ news).length = (vals l ++ vals news).length:=by simp [zC7]
         rw [this]
         exact List.take_left
       · have e3 : g = g':=by simpa [Value.ownBlock] using e1
         subst e3
         rw [hg] at e2
         cases e2
         exact ⟨_,setRow_heap w g cur _ 5 _ hg,hsz,htk⟩
     · have hold : ∀ j u,(vals l)[j]? = some u->w.drew.cell? ((⟨g,0,none⟩ : Addr).add j) = some u:=by
         intro j u hu
         obtain ⟨hj,rfl⟩:=zQ5 l j u hu
         have hadd : (⟨g,0,none⟩ : Addr).add j = ⟨g,j,none⟩:=by unfold Addr.add; split <;> simp_all
         rw [hadd,cell_of_row w.drew g j cur 5 (0,0) hg]
         have:=zO0 l j hj
         rw [<- h4,List.getElem?_take,if_pos hj] at this
         simpa using this
       exact grown (some ⟨g,0,none⟩) cap h1 (by omega) (run_firstCells_some w.drew i.size l.length _ _ _ (vals l) (by rw [hs1,zC7]; omega) hold)
theorem kA9 (w:World) : Src Tryz.prog 1 9 (.string ⟨#[0,0,0]⟩) z3.length (vals z3) w:=Src.ofString (P:=Tryz.prog) w Tryz.underlying9 ⟨#[0,0,0]⟩
theorem zV2 {ops:Array Oper} {rest:List Oper} {o:Oper} {a:Act} {Q:Exit->Act->World->Prop} (w:World) (hgd:o.guard = none) (s x:Operand)
    (ho:o.op = .call { callee:=.builtin .append,args:=#[s,x],argTypes:=#[22,9] })
    (v:Value) (l:List UInt8) (hs:a.eval s = v) (hown:SlR w v l) (xv:Value) (news:List UInt8) (hx:a.eval x = xv) (hsrc:Src Tryz.prog 1 9 xv news.length (vals news) w) (hlen:l.length + news.length<=211106232532992)
    (h:∀ v' w',SlR w' v' (l ++ news)->App w w' none v v'->wpList Tryz.prog ops Q rest (a.put o.dst v') w') : wpList Tryz.prog ops Q (o :: rest) a w:=by
 refine wpList_plain hgd fun K hK=>?_
 obtain ⟨i,hi,hz0,hz1,hz2⟩:=info_parts Tryz.info5
 obtain ⟨v',w',hr,h2,h3⟩:=yD9 (P:=Tryz.prog) o.type Tryz.underlying22 Tryz.underlying9 hi hz0 hz1 hz2 w v l hown xv news hsrc hlen
 unfold Oper.wp execOp
 simp only [ho,resolve,invoke,builtin,Sem.run_bind,Sem.run_pure,Result.andThen_ok,List.map_toArray,List.map_cons,List.map_nil,hs,hx,hr]
 exact hK _ _ (h v' w' h2 h3)
theorem App.bel {w w':World} {v v':Value} {B:Nat} (h:App w w' none v v') (hB:B<=w.heap.size) (hv:∀ k,v.ownBlock = some k->B<=k) : Below B w w' :=
 ⟨h.os,h.tape,h.output,h.size,fun k hk=>h.block k (by omega) (by simp) (fun _ e=>by have:=hv k e.symm; omega)⟩
theorem yQ0 (a:Option Addr) (n cap:Nat) (b:List UInt8) (w:World) (hn:n = b.length) (hb:Bs w a b) (hl:b.length<=1048576) : Calls Tryz.prog 97 #[.slice a n cap] w (GhP w b):=by
 subst hn
 have HBC:=zA0 (zP3 a cap b (w.alloc (.cells #[.int .i64 0,.int .i64 0] 31)) (hb.grow (zB5 w _)) (fun e=>by subst e; exact xG8 hb))
 have HL:=zA0 hl
 have HI:=zA0 (@xM9 b)
 clear hb hl
 go_enter Tryz.func97,Tryz.ntmps97
 go_wp2_with (first
  | (go_at_call 29; refine HBC.out.mono ?_; rintro e w1 ⟨z,rfl,hz,hf,hb1⟩; have HZ:=zA0 hz; have HF:=zA0 hf; have HB1:=zA0 hb1; clear hz hf hb1 HBC)
  | (at_builtin; refine zV2 _ rfl (.tmp 9) _ rfl z b rfl HZ.out _ z3 rfl (kA9 _) (by have:=HL.out; simp [z3]; omega) ?next))
 case next =>
  intro v1 w2 hs2 ha2
  have hB2 : Below w.heap.size w1 w2:=ha2.bel (by have:=HB1.out.size; simp at this; omega) (fun k hk=>by have:=HF.out k hk; simp at this; omega)
  have hw1 : w.heap.size<=w1.heap.size:=by have:=HB1.out.size; simp at this; omega
  have hB02 : Below w.heap.size w w2:=((zB5 w _).trans (HB1.out.mono (by simp))).trans hB2
  obtain ⟨a1,c1,rfl,k1,k2⟩:=hs2.bs (by have:=HL.out; simp [z3]; omega)
  have k3:=hs2.blk
  have hg0 : w2.heap[w.heap.size]? = some (.cells #[.int .i64 0,.int .i64 0] 31 (0,0)):=by
   have e1 : w2.heap[w.heap.size]? = w1.heap[w.heap.size]?:=ha2.block _ (by have:=HB1.out.size; simp at this; omega) (by simp) (fun _ e=>by have:=HF.out _ e.symm; simp at this; omega)
   rw [e1,HB1.out.block _ (by simp)]
   exact heap_alloc_new w _
  obtain ⟨n2,hn2⟩ : ∃ n2,n2 = (b ++ z3).length:=⟨_,rfl⟩
  rw [<- hn2] at k1 ⊢
  have HGS:=zA0 (zL8 a1 n2 c1 (b ++ z3) w2 hn2 k1 k2 k3)
  clear hn2
  have HB02:=zA0 hB02
  have HG0:=zA0 hg0
  clear hs2 ha2 hB2 hw1 hB02 k1 k2 k3 hg0 HB1 HF HZ
  go_wp2_with fail
  refine HGS.out.mono ?_
  rintro e w3 ⟨cs,v,rfl,hrep,hval,hb3⟩
  obtain ⟨av,cv,al,cl,ad,cd,rfl,_,_,_,_⟩:=zH1 hrep
  have hg3 : w3.heap[w.heap.size]? = some (.cells #[.int .i64 0,.int .i64 0] 31 (0,0)):=(hb3.block _ (zA1 HG0.out)).trans HG0.out
  have HB3:=zA0 (HB02.out.trans (hb3.mono HB02.out.size))
  have f0 : ∀ o,w3.frozen? ⟨w.heap.size,o,none⟩ = false:=fun o=>by simp [World.frozen?,hg3]
  have c0 : w3.cell? ⟨w.heap.size,0,none⟩ = some (.int .i64 0):=by rw [cell_of_row _ _ _ _ 31 (0,0) hg3]; rfl
  have c1' : w3.cell? ⟨w.heap.size,1,none⟩ = some (.int .i64 0):=by rw [cell_of_row _ _ _ _ 31 (0,0) hg3]; rfl
  have l3:=zA1 hg3
  by_cases ok : okS (b ++ z3)
  · have hv:=hval ok
    have hln:=xB2 (zY3 ok).1
    have hdd : v = dS (b ++ z3):=hv
    rw [<- hdd] at hln
    have hiff:=HI.out
    rw [<- hdd] at hiff
    obtain ⟨i,q,⟨vs,ls⟩,d⟩:=v
    simp only at hln hiff
    have HV : Hid (okH b->i = (dH b).1/\q = (dH b).2):=zA0 (fun h=>by have e:=xM8 h; rw [<- hdd] at e; cases e; exact ⟨rfl,rfl⟩)
    obtain ⟨m1,m2,m3⟩:=hln
    rw [decide_eq_true ok]
    have HG3:=zA0 hg3
    clear hrep hval hg3 HG0 HGS hb3 hv
    by_cases hN : okN i/\okN q
    · by_cases hz : vs.length + ls.length + d.length = 0
      · have hyes : okH b:=hiff.2 ⟨ok,hN.1,hN.2,hz⟩
        have HE1 : Hid (hv1 b = i):=zA0 (by unfold hv1; rw [if_pos hyes]; exact (HV.out hyes).1.symm)
        have HE2 : Hid (hv2 b = q):=zA0 (by unfold hv2; rw [if_pos hyes]; exact (HV.out hyes).2.symm)
        have HE3 : Hid (decide (okH b) = true):=zA0 (decide_eq_true hyes)
        have HN:=zA0 hN
        have z1 : vs.length = 0:=by omega
        have z2 : ls.length = 0:=by omega
        have z3' : d.length = 0:=by omega
        rw [z1,z2,z3']
        clear hyes hN ok hdd hiff HV hz z1 z2 z3' m1 m2 m3
        go_wp2_with fail
        refine (zF4 i q _).mono ?_
        rintro e w4 ⟨rfl,hb4⟩
        rw [decide_eq_true HN.out]
        obtain ⟨gA,gB,gC⟩:=xW1 HG3.out hb4
        have HGC:=zA0 gC
        have HB4:=zA0 hb4
        have HGB:=zA0 gB
        have f4 : ∀ o,w4.frozen? ⟨w.heap.size,o,none⟩ = false:=fun o=>by simp [World.frozen?,gC]
        have e0 : w4.cell? ⟨w.heap.size,0,none⟩ = some (.int .i64 0):=by rw [cell_of_row _ _ _ _ 31 (0,0) gC]; rfl
        have e1 : w4.cell? ⟨w.heap.size,1,none⟩ = some (.int .i64 0):=by rw [cell_of_row _ _ _ _ 31 (0,0) gC]; rfl
        have l4:=zA1 gC
        have b0 : w4.cell? ⟨w3.heap.size + 1,0,none⟩ = some (.int .i64 i):=by rw [cell_of_row _ _ _ _ 31 (0,0) gB]; rfl
        have b1 : w4.cell? ⟨w3.heap.size + 1,1,none⟩ = some (.int .i64 q):=by rw [cell_of_row _ _ _ _ 31 (0,0) gB]; rfl
        have a2 : w4.cell? ⟨w3.heap.size,2,none⟩ = some (.slice av 0 cv):=by rw [cell_of_row _ _ _ _ 36 (0,0) gA]; rfl
        have a3 : w4.cell? ⟨w3.heap.size,3,none⟩ = some (.slice al 0 cl):=by rw [cell_of_row _ _ _ _ 36 (0,0) gA]; rfl
        have a4 : w4.cell? ⟨w3.heap.size,4,none⟩ = some (.slice ad 0 cd):=by rw [cell_of_row _ _ _ _ 36 (0,0) gA]; rfl
        clear gA gB gC hb4 f0 c0 c1' l3
        go_wp2
        refine bodyPost_ret (v:=.tuple #[.agg #[.int .i64 i,.int .i64 q],.bool true]) ?_ rfl ⟨by rw [HE1.out,HE2.out,HE3.out],?_⟩
        · exact xK0 _ _ w.heap.size _ _ true rfl rfl (set2 HGC.out _ _)
        · exact (((HB3.out.alloc HB3.out.size _).alloc (by simp; have:=HB3.out.size; omega) _).trans (HB4.out.mono (by simp; have:=HB3.out.size; omega))).trans (zO4 _ _ _ _)
      · have hno : ¬ okH b:=fun h=>hz (hiff.1 h).2.2.2
        have HE1 : Hid (hv1 b = 0):=zA0 (by unfold hv1; rw [if_neg hno])
        have HE2 : Hid (hv2 b = 0):=zA0 (by unfold hv2; rw [if_neg hno])
        have HE3 : Hid (decide (okH b) = false):=zA0 (decide_eq_false hno)
        have HN:=zA0 hN
        clear hno hN ok hdd hiff HV
        generalize vs.length = nv at *
        generalize ls.length = nl at *
        generalize d.length = nd at *
        have zz : (0:Int) < (nv:Int) + (nl:Int) + (nd:Int):=by omega
        clear hz
        go_wp2_with fail
        refine (zF4 i q _).mono ?_
        rintro e w4 ⟨rfl,hb4⟩
        rw [decide_eq_true HN.out]
        obtain ⟨gA,gB,gC⟩:=xW1 HG3.out hb4
        have HGC:=zA0 gC
        have HB4:=zA0 hb4
        have HGB:=zA0 gB
        have f4 : ∀ o,w4.frozen? ⟨w.heap.size,o,none⟩ = false:=fun o=>by simp [World.frozen?,gC]
        have e0 : w4.cell? ⟨w.heap.size,0,none⟩ = some (.int .i64 0):=by rw [cell_of_row _ _ _ _ 31 (0,0) gC]; rfl
        have e1 : w4.cell? ⟨w.heap.size,1,none⟩ = some (.int .i64 0):=by rw [cell_of_row _ _ _ _ 31 (0,0) gC]; rfl
        have l4:=zA1 gC
        have b0 : w4.cell? ⟨w3.heap.size + 1,0,none⟩ = some (.int .i64 i):=by rw [cell_of_row _ _ _ _ 31 (0,0) gB]; rfl
        have b1 : w4.cell? ⟨w3.heap.size + 1,1,none⟩ = some (.int .i64 q):=by rw [cell_of_row _ _ _ _ 31 (0,0) gB]; rfl
        have a2 : w4.cell? ⟨w3.heap.size,2,none⟩ = some (.slice av nv cv):=by rw [cell_of_row _ _ _ _ 36 (0,0) gA]; rfl
        have a3 : w4.cell? ⟨w3.heap.size,3,none⟩ = some (.slice al nl cl):=by rw [cell_of_row _ _ _ _ 36 (0,0) gA]; rfl
        have a4 : w4.cell? ⟨w3.heap.size,4,none⟩ = some (.slice ad nd cd):=by rw [cell_of_row _ _ _ _ 36 (0,0) gA]; rfl
        clear gA gB gC hb4 f0 c0 c1' l3
        go_wp2
        refine bodyPost_ret (v:=.tuple #[.agg #[.int .i64 0,.int .i64 0],.bool false]) ?_ rfl ⟨by rw [HE1.out,HE2.out,HE3.out],?_⟩
        · exact xK0 _ _ w.heap.size _ _ false rfl rfl (set2 HGC.out _ _)
        · exact (((HB3.out.alloc HB3.out.size _).alloc (by simp; have:=HB3.out.size; omega) _).trans (HB4.out.mono (by simp; have:=HB3.out.size; omega))).trans (zO4 _ _ _ _)
    · have hno : ¬ okH b:=fun h=>hN ⟨(hiff.1 h).2.1,(hiff.1 h).2.2.1⟩
      have HE1 : Hid (hv1 b = 0):=zA0 (by unfold hv1; rw [if_neg hno])
      have HE2 : Hid (hv2 b = 0):=zA0 (by unfold hv2; rw [if_neg hno])
      have HE3 : Hid (decide (okH b) = false):=zA0 (decide_eq_false hno)
      have HN:=zA0 hN
      clear hno hN ok hdd hiff HV
      generalize vs.length = nv at *
      generalize ls.length = nl at *
      generalize d.length = nd at *
      go_wp2_with fail
      refine (zF4 i q _).mono ?_
      rintro e w4 ⟨rfl,hb4⟩
      rw [decide_eq_false HN.out]
      obtain ⟨gA,gB,gC⟩:=xW1 HG3.out hb4
      have HGC:=zA0 gC
      have HB4:=zA0 hb4
      have HGB:=zA0 gB
      have f4 : ∀ o,w4.frozen? ⟨w.heap.size,o,none⟩ = false:=fun o=>by simp [World.frozen?,gC]
      have e0 : w4.cell? ⟨w.heap.size,0,none⟩ = some (.int .i64 0):=by rw [cell_of_row _ _ _ _ 31 (0,0) gC]; rfl
      have e1 : w4.cell? ⟨w.heap.size,1,none⟩ = some (.int .i64 0):=by rw [cell_of_row _ _ _ _ 31 (0,0) gC]; rfl
      have l4:=zA1 gC
      have b0 : w4.cell? ⟨w3.heap.size + 1,0,none⟩ = some (.int .i64 i):=by rw [cell_of_row _ _ _ _ 31 (0,0) gB]; rfl
      have b1 : w4.cell? ⟨w3.heap.size + 1,1,none⟩ = some (.int .i64 q):=by rw [cell_of_row _ _ _ _ 31 (0,0) gB]; rfl
      have a2 : w4.cell? ⟨w3.heap.size,2,none⟩ = some (.slice av nv cv):=by rw [cell_of_row _ _ _ _ 36 (0,0) gA]; rfl
      have a3 : w4.cell? ⟨w3.heap.size,3,none⟩ = some (.slice al nl cl):=by rw [cell_of_row _ _ _ _ 36 (0,0) gA]; rfl
      have a4 : w4.cell? ⟨w3.heap.size,4,none⟩ = some (.slice ad nd cd):=by rw [cell_of_row _ _ _ _ 36 (0,0) gA]; rfl
      clear gA gB gC hb4 f0 c0 c1' l3
      go_wp2
      refine bodyPost_ret (v:=.tuple #[.agg #[.int .i64 0,.int .i64 0],.bool false]) ?_ rfl ⟨by rw [HE1.out,HE2.out,HE3.out],?_⟩
      · exact xK0 _ _ w.heap.size _ _ false rfl rfl (set2 HGC.out _ _)
      · exact (((HB3.out.alloc HB3.out.size _).alloc (by simp; have:=HB3.out.size; omega) _).trans (HB4.out.mono (by simp; have:=HB3.out.size; omega))).trans (zO4 _ _ _ _)
  · have hno : ¬ okH b:=fun h=>ok (HI.out.1 h).1
    have HE1 : Hid (hv1 b = 0):=zA0 (by unfold hv1; rw [if_neg hno])
    have HE2 : Hid (hv2 b = 0):=zA0 (by unfold hv2; rw [if_neg hno])
    have HE3 : Hid (decide (okH b) = false):=zA0 (decide_eq_false hno)
    rw [decide_eq_false ok]
    have HG3:=zA0 hg3
    clear hno ok hval hrep hg3 HG0 HGS hb3
    generalize v.2.2.1.1.length = nv at *
    generalize v.2.2.1.2.length = nl at *
    generalize v.2.2.2.length = nd at *
    generalize v.1 = vi at *
    generalize v.2.1 = vt at *
    go_wp2
    refine bodyPost_ret (v:=.tuple #[.agg #[.int .i64 0,.int .i64 0],.bool false]) ?_ rfl ⟨by rw [HE1.out,HE2.out,HE3.out],?_⟩
    · refine xK0 _ _ w.heap.size _ _ false rfl rfl ((Below.heap_alloc _ _ _ (by simp; omega)).trans ((Below.heap_alloc _ _ _ (by simpa using l3)).trans (set2 HG3.out _ _)))
    · exact ((HB3.out.trans (zO4 w3 w.heap.size _ _)).alloc (by simpa using HB3.out.size) _).alloc (by simp; have:=HB3.out.size; omega) _
end
end Go.Proofs.YtocoimjhglackaaGreat
