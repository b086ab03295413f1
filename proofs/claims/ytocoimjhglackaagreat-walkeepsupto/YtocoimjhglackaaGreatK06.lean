/- Dsl, Reg, Dcl -/
import Derived.Test.YtocoimjhglackaaGreatK05
import Derived.Deep.RegionHeld
import Derived.Shelf.Strconv.Clone
set_option maxHeartbeats 8000000
set_option maxRecDepth 100000
namespace Go.Proofs.YtocoimjhglackaaGreat
section
open Go.RowKit Go.Maps
theorem zA0 {p:Prop} (h:p) : Hid p:=h
def lenV : Value->Nat
 | .slice _ n _=>n
 | _=>0
def capV : Value->Nat
 | .slice _ _ c=>c
 | _=>0
def Gr (v:Value) : Prop:=lenV v < capV v
def SlR (w:World) (v:Value) (l:List UInt8) : Prop :=
 (v = .slice none 0 0/\l = []) \/
 ∃ g cap cur,v = .slice (some ⟨g,0,none⟩) l.length cap/\w.heap[g]? = some (.cells cur 5 (0,0))/\l.length<=cap/\cap<=cur.size/\cur.size<=maxLen/\cur.toList.take l.length = vals l
theorem SlR.nil (w:World) : SlR w (.slice none 0 0) []:=.inl ⟨rfl,rfl⟩
theorem SlR.le {w:World} {v:Value} {l:List UInt8} (h:SlR w v l) : lenV v<=capV v:=by
 rcases h with ⟨rfl,rfl⟩ | ⟨g,cap,cur,rfl,_,h1,_⟩
 · exact Nat.le_refl _
 · exact h1
theorem SlR.lt {w:World} {v:Value} {l:List UInt8} (h:SlR w v l) : ∀ k,v.ownBlock = some k->k < w.heap.size:=by
 intro k hk
 rcases h with ⟨rfl,_⟩ | ⟨g,cap,cur,rfl,hg,rest⟩
 · simp [Value.ownBlock] at hk
 · simp [Value.ownBlock] at hk
   subst hk
   exact (Array.getElem?_eq_some_iff.1 hg).1
theorem SlR.form {w:World} {v:Value} {l:List UInt8} (h:SlR w v l) : ∃ a cap,v = .slice a l.length cap/\l.length<=cap/\(l.length<=211106232532992->Bs w a l):=by
 rcases h with ⟨rfl,rfl⟩ | ⟨g,cap,cur,rfl,hg,h1,h2,h3,h4⟩
 · exact ⟨none,0,rfl,Nat.le_refl _,fun _=>⟨by simp,fun h=>absurd rfl h⟩⟩
 · refine ⟨_,cap,rfl,h1,fun hl=>⟨hl,fun _=>⟨g,0,rfl,(Array.getElem?_eq_some_iff.1 hg).1,fun j hj=>?_⟩⟩⟩
   rw [Nat.zero_add,cell_of_row w g j cur 5 (0,0) hg]
   have:=zO0 l j hj
   rw [<- h4,List.getElem?_take,if_pos hj] at this
   simpa using this
theorem SlR.kept {w w':World} {v:Value} {l:List UInt8} (h:SlR w v l) (hb:∀ k,v.ownBlock = some k->w'.heap[k]? = w.heap[k]?) : SlR w' v l:=by
 rcases h with h | ⟨g,cap,cur,rfl,hg,rest⟩
 · exact .inl h
 · exact .inr ⟨g,cap,cur,rfl,by rw [hb g rfl]; exact hg,rest⟩
theorem SlR.grow {w w':World} {v:Value} {l:List UInt8} (h:SlR w v l) (hb:Below w.heap.size w w') : SlR w' v l:=h.kept fun k hk=>hb.block k (h.lt k hk)
theorem SlR.own {w:World} {v:Value} {l:List UInt8} (h:Own w v l) : SlR w v l:=by
 rcases h with h | ⟨g,cap,cur,h0,hg,h1,h2,h3,h4⟩
 · exact .inl h
 · exact .inr ⟨g,cap,cur,h0,hg,h1,by omega,by omega,h4⟩
structure App (w w':World) (b:Option Nat) (v v':Value) : Prop where
 os : w'.os = w.os
 tape : w'.tape = w.tape
 output : w'.output = w.output
 size : w.heap.size<=w'.heap.size
 block : ∀ k,k < w.heap.size->some k ≠ b->(Gr v->some k ≠ v.ownBlock)->w'.heap[k]? = w.heap[k]?
 part : Gr v->∀ g cur,v.ownBlock = some g->w.heap[g]? = some (.cells cur 5 (0,0))->∃ cur',w'.heap[g]? = some (.cells cur' 5 (0,0))/\cur'.size = cur.size/\cur'.toList.take (lenV v) = cur.toList.take (lenV v)
 new : (v'.ownBlock = v.ownBlock/\capV v' = capV v/\lenV v<=lenV v')\/∃ k,v'.ownBlock = some k/\w.heap.size<=k
def Sep (x y:Value) : Prop:=∀ g,x.ownBlock = some g->y.ownBlock = some g->(Gr x->¬ Gr y/\lenV y<=lenV x)/\(Gr y->¬ Gr x/\lenV x<=lenV y)
def SepK (x z:Value) : Prop:=∀ g,x.ownBlock = some g->z.ownBlock = some g->¬ Gr x
theorem Sep.symm {x y:Value} (h:Sep x y) : Sep y x:=fun g h1 h2=>⟨(h g h2 h1).2,(h g h2 h1).1⟩
theorem Sep.nil (x:Value) : Sep x (.slice none 0 0):=fun g _ h=>by cases h
theorem Sep.nil' (x:Value) : Sep (.slice none 0 0) x:=fun g h _=>by cases h
theorem SepK.nil' (x:Value) : SepK (.slice none 0 0) x:=fun g h _=>by cases h
theorem SlR.app {w w':World} {b:Option Nat} {v v' y:Value} {l:List UInt8} (hy:SlR w y l) (ha:App w w' b v v') (hb:∀ g,b = some g->y.ownBlock ≠ some g) (hs:Sep v y) : SlR w' y l:=by
 rcases hy with h | ⟨g,cap,cur,rfl,hg,h1,h2,h3,h4⟩
 · exact .inl h
 · have hlt : g < w.heap.size:=(Array.getElem?_eq_some_iff.1 hg).1
   by_cases hw : Gr v/\v.ownBlock = some g
   · obtain ⟨cur',c1,c2,c3⟩:=ha.part hw.1 g cur hw.2 hg
     have hle : l.length<=lenV v:=((hs g hw.2 rfl).1 hw.1).2
     refine .inr ⟨g,cap,cur',rfl,c1,h1,by omega,by omega,?_⟩
     rw [<- h4]
     have e : ∀ (A:List Value),A.take l.length = (A.take (lenV v)).take l.length:=fun A=>by rw [List.take_take,Nat.min_eq_left hle]
     rw [e cur'.toList,c3,<- e]
   · refine .inr ⟨g,cap,cur,rfl,(ha.block g hlt (fun e=>hb g e.symm rfl) (fun hgr e=>hw ⟨hgr,e.symm⟩)).trans hg,h1,h2,h3,h4⟩
theorem SlR.appK {w w':World} {b:Option Nat} {v v' y:Value} {l:List UInt8} (hy:SlR w y l) (ha:App w w' b v v') (hb:∀ g,b = some g->y.ownBlock ≠ some g) (hs:SepK v y) : SlR w' y l :=
 hy.kept fun k hk=>ha.block k (hy.lt k hk) (fun e=>hb k e.symm hk) (fun hgr e=>hs k e.symm hk hgr)
theorem Sep.app {w w':World} {b:Option Nat} {v v' y:Value} {l l':List UInt8} (hs:Sep v y) (ha:App w w' b v v') (hy:SlR w y l) (hv':SlR w' v' l') : Sep v' y:=by
 intro g h1 h2
 rcases ha.new with ⟨e1,e2,e3⟩ | ⟨k,e1,e2⟩
 · rw [e1] at h1
   obtain ⟨s1,s2⟩:=hs g h1 h2
   have hle:=hv'.le
   refine ⟨fun hgr=>?_,fun hgr=>?_⟩
   · have : Gr v:=by unfold Gr at hgr ⊢; omega
     exact ⟨(s1 this).1,by have:=(s1 this).2; omega⟩
   · obtain ⟨n1,n2⟩:=s2 hgr
     unfold Gr at n1 ⊢
     exact ⟨by omega,by omega⟩
 · rw [e1] at h1
   cases h1
   have:=hy.lt _ h2
   omega
theorem SepK.app {w w':World} {b:Option Nat} {v v' y:Value} {l:List UInt8} (hs:SepK v y) (ha:App w w' b v v') (hy:SlR w y l) : SepK v' y:=by
 intro g h1 h2 hgr
 rcases ha.new with ⟨e1,e2,e3⟩ | ⟨k,e1,e2⟩
 · rw [e1] at h1
   refine hs g h1 h2 ?_
   unfold Gr at hgr ⊢
   omega
 · rw [e1] at h1
   cases h1
   have:=hy.lt _ h2
   omega
theorem App.refl (w:World) (b:Option Nat) (v:Value) : App w w b v v:=⟨rfl,rfl,rfl,Nat.le_refl _,fun _ _ _ _=>rfl,fun _ _g cur _ h=>⟨cur,h,rfl,rfl⟩,.inl ⟨rfl,rfl,Nat.le_refl _⟩⟩
theorem App.turn {w w1 w2:World} {b:Nat} {v v':Value} (h:App w w1 none v v') (hm:w1.mapTurned w2 b) (hb:v.ownBlock ≠ some b) : App w w2 (some b) v v':=by
 have hg:=hm.grown
 refine ⟨hg.os.trans h.os,hg.tape.trans h.tape,hg.output.trans h.output,Nat.le_trans h.size hg.size,fun k hk hkb hgr=>?_,fun hgr g cur h1 h2=>?_,h.new⟩
 · exact (hg.block k (Nat.lt_of_lt_of_le hk h.size) hkb).trans (h.block k hk (by simp) hgr)
 · obtain ⟨cur',c1,c2,c3⟩:=h.part hgr g cur h1 h2
   exact ⟨cur',(hg.block g (Nat.lt_of_lt_of_le (Array.getElem?_eq_some_iff.1 h2).1 h.size) (fun e=>hb (by rw [h1,e]))).trans c1,c2,c3⟩
theorem yC8 {w w':World} {b:Nat} (hm:w.mapTurned w' b) (v:Value) (hb:v.ownBlock ≠ some b) : App w w' (some b) v v:=(App.refl w none v).turn hm hb
theorem yI5 {P:Program} {i:TypeInfo} (ty:TypeId) (hk:P.underlying 22 = some (.slice 5)) (hi:P.info? 5 = some i) (hz:i.zero = some (.int .u8 0)) (hs1:i.size = 1) (hb1:i.bytes = 1)
    (w:World) (v:Value) (l:List UInt8) (hown:SlR w v l) (x:Value) (news:List UInt8) (hs:Src P 1 22 x news.length (vals news) w) (hlen:l.length + news.length<=211106232532992) :
    ∃ v' w',(Builtin.append_ #[22,22] ty #[v,x]).run P w = .ok v' w'/\SlR w' v' (l ++ news)/\App w w' none v v':=by
 by_cases hn : news = []
 · subst hn
   have hs' : Src P i.size 22 x 0 [] w:=by rw [hs1]; exact hs
   have hc:=hs'.cells
   have hlen0:=hs'.len
   rcases hown with ⟨rfl,rfl⟩ | ⟨g,cap,cur,rfl,hg,h1,h2,h3,h4⟩
   · exact ⟨.slice none 0 0,w,by simp [Builtin.append_,run_underlying hk,sizeOf,typeInfo,hi,hlen0,hc],.inl ⟨rfl,rfl⟩,App.refl _ _ _⟩
   · have hst:=run_storeCells_at P g (l.length * i.size) 5 [] 0 cur w hg (by rw [hs1]; simp; omega) (by simp)
     simp only [Nat.add_zero] at hst
     have ew : (cur.toList.take (l.length * i.size) ++ [] ++ cur.toList.drop (l.length * i.size + ([] : List Value).length)).toArray = cur:=by simp
     rw [ew] at hst
     have hr : (Builtin.append_ #[22,22] ty #[.slice (some ⟨g,0,none⟩) l.length cap,x]).run P w = .ok (.slice (some ⟨g,0,none⟩) l.length cap) (w.setRow g cur):=by
      simp [Builtin.append_,run_underlying hk,sizeOf,typeInfo,hi,hlen0,h1,hc,Addr.add_lit,hst]
     have hb : ∀ k,(w.setRow g cur).heap[k]? = w.heap[k]?:=fun k=>by
      by_cases e : k = g
      · subst e; rw [setRow_heap w k cur _ 5 _ hg,hg]
      · exact setRow_other w g k _ e
     refine ⟨_,_,hr,.inr ⟨g,cap,cur,by simp,(hb g).trans hg,by simpa using h1,h2,h3,by simpa using h4⟩,⟨rfl,rfl,rfl,by simp,fun k _ _ _=>hb k,fun _ g' cur' e1 e2=>⟨cur',(hb g').trans e2,rfl,rfl⟩,.inl ⟨rfl,rfl,Nat.le_refl _⟩⟩⟩
 · have hp : 0 < news.length:=List.length_pos_iff.2 hn
   have hs' : Src P i.size 22 x news.length (vals news) w:=by rw [hs1]; exact hs
   have grown : ∀ (base:Option Addr) (cap:Nat),l.length<=cap->cap < l.length + news.length->(Builtin.firstCells i.size l.length (.slice base l.length cap)).run P w.drew = .ok (vals l).toArray w.drew ->
       ∃ v' w',(Builtin.append_ #[22,22] ty #[.slice base l.length cap,x]).run P w = .ok v' w'/\SlR w' v' (l ++ news)/\App w w' none (.slice base l.length cap) v':=by
    intro base cap hc1 hc2 hold
    have hr:=run_append_grow_src w 22 22 ty 5 i (.int .u8 0) hk hi hz base l.length cap (vals l) hold x news.length (vals news) hs' hc2 (by omega) (by rw [hb1,Nat.mul_one]; exact xE9 (by omega) (by omega))
    have hge:=grownCap_ge w (l.length + news.length) cap 5
    have hm : grownCap w (l.length + news.length) cap 5<=maxLen:=grownCap_le_maxLen w _ cap 5 (by unfold maxLen; omega)
    refine ⟨_,_,hr,SlR.own (.inr ⟨w.heap.size,_,_,by rw [List.length_append],heap_alloc_new w.drew _,by rw [List.length_append]; exact hge,hm,?_,?_⟩),⟨rfl,rfl,rfl,by simp,fun k hk _ _=>Below.heap_alloc w.drew _ k hk,fun _ g cur _ h2=>⟨cur,(Below.heap_alloc w.drew _ g (Array.getElem?_eq_some_iff.1 h2).1).trans h2,rfl,rfl⟩,.inr ⟨w.heap.size,rfl,Nat.le_refl _⟩⟩⟩
    · simp only [Array.size_append,List.size_toArray,size_zeroCells,List.length_append,zC7]
      simp [Value.cells]
      omega
    · rw [zG6]
      simp only [Array.toList_append]
      have : (l ++ news).length = (vals l ++ vals news).length:=by simp [zC7]
      rw [this]
      exact List.take_left
   rcases hown with ⟨rfl,rfl⟩ | ⟨g,cap,cur,rfl,hg,h1,h2,h3,h4⟩
   · exact grown none 0 (Nat.le_refl _) (by simpa using hp) (by exact run_firstCells_none w.drew i.size 0 0 0)
   · by_cases hroom : l.length + news.length<=cap
     · have hst:=run_storeCells_at P g (l.length * i.size) 5 (vals news) 0 cur w hg (by rw [hs1,zC7]; omega) (zN9 news)
       simp only [Nat.add_zero] at hst
       have hr : (Builtin.append_ #[22,22] ty #[.slice (some ⟨g,0,none⟩) l.length cap,x]).run P w = .ok (.slice (some ⟨g,0,none⟩) (l.length + news.length) cap)
           (w.setRow g (cur.toList.take (l.length * i.size) ++ vals news ++ cur.toList.drop (l.length * i.size + (vals news).length)).toArray):=by
        simp [Builtin.append_,run_underlying hk,sizeOf,typeInfo,hi,hs'.len,hroom,hs'.cells,Addr.add_lit,hst]
       have hsz : (cur.toList.take (l.length * i.size) ++ vals news ++ cur.toList.drop (l.length * i.size + (vals news).length)).toArray.size = cur.size:=by
        simp only [List.size_toArray,List.length_append,List.length_take,List.length_drop,Array.length_toList,zC7,hs1]
        omega
       have htk : (cur.toList.take (l.length * i.size) ++ vals news ++ cur.toList.drop (l.length * i.size + (vals news).length)).take l.length = cur.toList.take l.length:=by
        rw [hs1,Nat.mul_one,List.append_assoc]
        have : (cur.toList.take l.length).length = l.length:=by simp; omega
        exact List.take_left' this
       have hgr : Gr (.slice (some ⟨g,0,none⟩) l.length cap):=by show l.length < cap; omega
       refine ⟨_,_,hr,.inr ⟨g,cap,_,by rw [List.length_append],setRow_heap w g cur _ 5 _ hg,by rw [List.length_append]; exact hroom,by rw [hsz]; exact h2,by rw [hsz]; exact h3,?_⟩,⟨rfl,rfl,rfl,by simp,fun k _ _ hk=>setRow_other w g k _ (fun e=>hk hgr (by simp [Value.ownBlock,e])),fun _ g' cur' e1 e2=>?_,.inl ⟨rfl,rfl,by show l.length<=l.length + news.length; omega⟩⟩⟩
       · rw [hs1,Nat.mul_one,h4,zG6]
         have : (l ++ news).length = (vals l ++ vals news).length:=by simp [zC7]
         rw [this]
         exact List.take_left
       · have e3 : g = g':=by simpa [Value.ownBlock] using e1
         subst e3
         rw [hg] at e2
         cases e2
         exact ⟨_,setRow_heap w g cur _ 5 _ hg,hsz,htk⟩
     · have hold : ∀ j u,(vals l)[j]? = some u->w.drew.cell? ((⟨g,0,none⟩ : Addr).add j) = some u:=by
         intro j u hu
         obtain ⟨hj,rfl⟩:=zQ5 l j u hu
         have hadd : (⟨g,0,none⟩ : Addr).add j = ⟨g,j,none⟩:=by unfold Addr.add; split <;> simp_all
         rw [hadd,cell_of_row w.drew g j cur 5 (0,0) hg]
         have:=zO0 l j hj
         rw [<- h4,List.getElem?_take,if_pos hj] at this
         simpa using this
       exact grown (some ⟨g,0,none⟩) cap h1 (by omega) (run_firstCells_some w.drew i.size l.length _ _ _ (vals l) (by rw [hs1,zC7]; omega) hold)
end
section
section Sc1
variable {P:Program} {ops:Array Oper} {Q:Exit->Act->World->Prop} {md:Region.Mode} {S:World->Prop} {L:Nat}
def zG5 (P:Program) (md:Region.Mode) (ops:Array Oper) (Q:Exit->Act->World->Prop) (S:World->Prop) (L:Nat) : Nat->Array Bool->Act->World->Prop
 | 0,listed,a,w=>Region.ready md ops listed = []/\Q .normal a w
 | fuel + 1,listed,a,w =>
  (Region.ready md ops listed = []->Q .normal a w) /\
  ∀ i ∈ Region.ready md ops listed,wpOp P ops Q i (fun a' w'=>(i ≠ L->S w')/\zG5 P md ops Q S L fuel (listed.setIfInBounds i true) a' w') a w
theorem yB3 : ∀ (fuel:Nat) (listed:Array Bool) (a:Act) (w:World),zG5 P md ops Q S L fuel listed a w->wpAny P md ops Q fuel listed a w
 | 0,_,_,_,h=>h
 | fuel + 1,_,_,_,h=>⟨h.1,fun i hi=>wpOp_mono (fun a' w' h'=>yB3 fuel _ a' w' h'.2) (h.2 i hi)⟩
def yV9 (md:Region.Mode) (ops:Array Oper) (L i:Nat) : Bool:=(ops[L]?).any fun o=>o.after.any fun e=>Region.binds md e && e.on == i
theorem yH1 {i:Nat} {oi:Oper} {v:Value} (hi:ops[i]? = some oi) (hsel:∀ (j:Nat) (o:Oper) cs b,ops[j]? = some o->o.op ≠ .select cs b)
    (hw:yV9 md ops L i = true) (hQ:∀ c a w,Q (.panic c) (a.put oi.dst v) w->Q (.panic c) a w) :
    ∀ (fuel:Nat) (listed:Array Bool) (a:Act) (w:World),
     (∀ j oj,ops[j]? = some oj->j ≠ i->listed.getD j true = false->(∀ e ∈ oj.after,Region.binds md e = true->e.on ≠ i)->oi.apart ops oj = true) ->
     i ∈ Region.ready md ops listed->YieldsIf P ops S oi v a->S w ->
     zG5 P md ops Q S L fuel (listed.setIfInBounds i true) (a.put oi.dst v) w->zG5 P md ops Q S L (fuel + 1) listed a w:=by
 intro fuel
 induction fuel with
 | zero =>
  intro listed a w _ hr hy hS H
  refine ⟨fun h=>(by rw [h] at hr; cases hr),fun j hj=>?_⟩
  by_cases hji : j = i
  · subst hji; exact hy.wpOp hi hS ⟨fun _=>hS,H⟩
  · have:=ready_mono hj hji
    rw [H.1] at this
    cases this
 | succ fuel ih =>
  intro listed a w hfree hr hy hS H
  refine ⟨fun h=>(by rw [h] at hr; cases hr),fun j hj=>?_⟩
  by_cases hji : j = i
  · subst hji; exact hy.wpOp hi hS ⟨fun _=>hS,H⟩
  · have h1:=H.2 j (ready_mono hj hji)
    obtain ⟨hjun,oj,hoj,hall⟩:=mem_ready.1 hj
    have hnot : ∀ e ∈ oj.after,Region.binds md e = true->e.on ≠ i:=fun e he hb heq=>by
     have h1:=hall e he hb
     have h0:=(mem_ready.1 hr).1
     rw [heq] at h1
     rcases Nat.lt_or_ge i listed.size with h' | h'
     · simp [h'] at h0 h1; rw [h0] at h1; cases h1
     · simp [Array.getElem?_eq_none h'] at h1
    have hjL : j ≠ L:=by
     intro e
     subst e
     unfold yV9 at hw
     rw [hoj] at hw
     simp only [Option.any_some,Array.any_eq_true'] at hw
     obtain ⟨e,he,hb⟩:=hw
     rw [Bool.and_eq_true] at hb
     exact hnot e he hb.1 (by simpa using hb.2)
    have h2:=wpOp_putIf hoj (hfree j oj hoj hji hjun hnot) (fun cs b=>hsel i oi cs b hi) (fun cs b=>hsel j oj cs b hoj) hQ hy h1
    have hfree' : ∀ k ok,ops[k]? = some ok->k ≠ i->(listed.setIfInBounds j true).getD k true = false ->
        (∀ e ∈ ok.after,Region.binds md e = true->e.on ≠ i)->oi.apart ops ok = true:=fun k ok hk hki hun hno=>by
     refine hfree k ok hk hki ?_ hno
     by_cases hjk : j = k
     · subst hjk; exact hjun
     · rw [getD_set_ne true hjk] at hun; exact hun
    refine wpOp_mono (fun a' w' h3=>⟨h3.2.1,ih (listed.setIfInBounds j true) a' w' hfree' (ready_mono hr (Ne.symm hji)) h3.1 (h3.2.1 hjL) ?_⟩) h2
    rw [Array.setIfInBounds_comm _ _ hji]
    exact h3.2.2
theorem zP5 {i:Nat} {oi:Oper} {v:Value} {fuel:Nat} {listed:Array Bool} {a:Act} {w:World} (hi:ops[i]? = some oi)
    (hs:Region.noSelect ops = true) (hw:yV9 md ops L i = true) (hf:Region.free md ops listed i = true) (hr:(Region.ready md ops listed).contains i = true)
    (hQ:∀ c a w,Q (.panic c) (a.put oi.dst v) w->Q (.panic c) a w) (hy:YieldsIf P ops S oi v a) (hS:S w)
    (h:zG5 P md ops Q S L fuel (listed.setIfInBounds i true) (a.put oi.dst v) w) : zG5 P md ops Q S L (fuel + 1) listed a w :=
 yH1 hi (Region.noSelect_spec hs) hw hQ fuel listed a w (Region.free_spec hi hf) (by simpa using hr) hy hS h
theorem zD9 {listed:Array Bool} {a:Act} {w:World} (hr:Region.ready md ops listed = []) (h:Q .normal a w) :
    ∀ fuel,zG5 P md ops Q S L fuel listed a w
 | 0=>⟨hr,h⟩
 | _ + 1=>⟨fun _=>h,by rw [hr]; simp⟩
theorem yV8 {i:Nat} {o:Oper} {fuel:Nat} {listed:Array Bool} {a:Act} {w:World} (hr:Region.ready md ops listed = [i]) (ho:ops[i]? = some o)
    (h:∀ K' : Act->World->Prop,Shut (∀ a w,(i ≠ L->S w)->zG5 P md ops Q S L fuel (listed.setIfInBounds i true) a w->K' a w)->if Region.wanted o (yielded ops a.tmps) = true then Oper.wp P o a w K' Q else K' (a.put o.dst undef) w) :
    zG5 P md ops Q S L (fuel + 1) listed a w:=by
 refine ⟨fun h0=>(by rw [hr] at h0; cases h0),fun j hj=>?_⟩
 rw [hr,List.mem_singleton] at hj
 subst hj
 exact wpOp_step ho (fun K' hK=>h K' (fun a w hS hW=>hK a w ⟨hS,hW⟩))
theorem zD8 {id:Nat} {a:Act} {w:World} (S:World->Prop) (L:Nat) (hm:P.follows .mixedOrders = true)
    (h:zG5 P .any ops Q S L ops.size (Array.replicate ops.size false) a w.drew) : (Code.region id ops true).wp P Q a w :=
 wp_region_any hm (yB3 _ _ _ _ h)
theorem atL {o:Oper} {i:Nat} (h:ops.toList[i]? = some o) : ops[i]? = some o:=by rw [<- Array.getElem?_toList]; exact h
theorem tkH {oi:Oper} {fuel:Nat} {listed:Array Bool} {a:Act} {w:World} (i:Nat) (hi:ops.toList[i]? = some oi) (v:Value) (hc:(Region.noSelect ops && (Region.free md ops listed i && ((Region.ready md ops listed).contains i))) = true) (hw:Region.wanted oi (yielded ops a.tmps) = true) (hQ:∀ c a w,Q (.panic c) (a.put oi.dst v) w->Q (.panic c) a w) (hS:S w) (hy:∀ w,S w->(execOp a.eval oi).run P w = .ok (.value v) w) (h:wpAnyH P md ops Q S fuel (listed.setIfInBounds i true) (a.put oi.dst v) w) : wpAnyH P md ops Q S (fuel + 1) listed a w:=by
 simp only [Bool.and_eq_true] at hc
 exact wpAnyH_take (atL hi) hc.1 hc.2.1 hc.2.2 hQ (.inl ⟨hw,hy⟩) hS h
theorem tkHp {oi:Oper} {fuel:Nat} {listed:Array Bool} {a:Act} {w:World} (i:Nat) (hi:ops.toList[i]? = some oi) (v:Value) (hc:(Region.noSelect ops && (Region.free md ops listed i && ((Region.ready md ops listed).contains i))) = true) (hw:Region.wanted oi (yielded ops a.tmps) = true) (hQ:∀ c a w,Q (.panic c) (a.put oi.dst v) w->Q (.panic c) a w) (hS:S w) (hy:∀ w,(execOp a.eval oi).run P w = .ok (.value v) w) (h:wpAnyH P md ops Q S fuel (listed.setIfInBounds i true) (a.put oi.dst v) w) : wpAnyH P md ops Q S (fuel + 1) listed a w:=by
 simp only [Bool.and_eq_true] at hc
 exact wpAnyH_take (atL hi) hc.1 hc.2.1 hc.2.2 hQ (.inl ⟨hw,fun w _=>hy w⟩) hS h
theorem tkHy {oi:Oper} {fuel:Nat} {listed:Array Bool} {a:Act} {w:World} (i:Nat) (hi:ops.toList[i]? = some oi) (v:Value) (hc:(Region.noSelect ops && (Region.free md ops listed i && ((Region.ready md ops listed).contains i))) = true) (hQ:∀ c a w,Q (.panic c) (a.put oi.dst v) w->Q (.panic c) a w) (hS:S w) (hy:YieldsIf P ops S oi v a) (h:wpAnyH P md ops Q S fuel (listed.setIfInBounds i true) (a.put oi.dst v) w) : wpAnyH P md ops Q S (fuel + 1) listed a w:=by
 simp only [Bool.and_eq_true] at hc
 exact wpAnyH_take (atL hi) hc.1 hc.2.1 hc.2.2 hQ hy hS h
theorem tkHn {oi:Oper} {fuel:Nat} {listed:Array Bool} {a:Act} {w:World} (i:Nat) (hi:ops.toList[i]? = some oi) (hc:(Region.noSelect ops && (Region.free md ops listed i && ((Region.ready md ops listed).contains i))) = true) (hw:Region.wanted oi (yielded ops a.tmps) = false) (hQ:∀ c a w,Q (.panic c) (a.put oi.dst undef) w->Q (.panic c) a w) (hS:S w) (h:wpAnyH P md ops Q S fuel (listed.setIfInBounds i true) (a.put oi.dst undef) w) : wpAnyH P md ops Q S (fuel + 1) listed a w:=by
 simp only [Bool.and_eq_true] at hc
 exact wpAnyH_take (atL hi) hc.1 hc.2.1 hc.2.2 hQ (.inr ⟨hw,rfl⟩) hS h
theorem tkHc {o:Oper} {fuel:Nat} {listed:Array Bool} {a:Act} {w:World} (i:Nat) (ho:ops.toList[i]? = some o) (hr:Region.ready md ops listed = [i]) (hw:Region.wanted o (yielded ops a.tmps) = true) (h:∀ K' : Act->World->Prop,Shut (∀ a w,S w->(S w->wpAnyH P md ops Q S fuel (listed.setIfInBounds i true) a w)->K' a w)->Oper.wp P o a w K' Q) : wpAnyH P md ops Q S (fuel + 1) listed a w :=
 wpAnyH_ready hr (by simp) (AllReadyH.cons (atL ho) (fun K' hK=>by rw [if_pos hw]; exact h K' hK) AllReadyH.nil)
theorem tkL {oi:Oper} {fuel:Nat} {listed:Array Bool} {a:Act} {w:World} (i:Nat) (hi:ops.toList[i]? = some oi) (v:Value) (hc:(Region.noSelect ops && (Region.free md ops listed i && ((Region.ready md ops listed).contains i && (yV9 md ops L i)))) = true) (hw:Region.wanted oi (yielded ops a.tmps) = true) (hQ:∀ c a w,Q (.panic c) (a.put oi.dst v) w->Q (.panic c) a w) (hS:S w) (hy:∀ w,S w->(execOp a.eval oi).run P w = .ok (.value v) w) (h:zG5 P md ops Q S L fuel (listed.setIfInBounds i true) (a.put oi.dst v) w) : zG5 P md ops Q S L (fuel + 1) listed a w:=by
 simp only [Bool.and_eq_true] at hc
 exact zP5 (atL hi) hc.1 hc.2.2.2 hc.2.1 hc.2.2.1 hQ (.inl ⟨hw,hy⟩) hS h
theorem tkLp {oi:Oper} {fuel:Nat} {listed:Array Bool} {a:Act} {w:World} (i:Nat) (hi:ops.toList[i]? = some oi) (v:Value) (hc:(Region.noSelect ops && (Region.free md ops listed i && ((Region.ready md ops listed).contains i && (yV9 md ops L i)))) = true) (hw:Region.wanted oi (yielded ops a.tmps) = true) (hQ:∀ c a w,Q (.panic c) (a.put oi.dst v) w->Q (.panic c) a w) (hS:S w) (hy:∀ w,(execOp a.eval oi).run P w = .ok (.value v) w) (h:zG5 P md ops Q S L fuel (listed.setIfInBounds i true) (a.put oi.dst v) w) : zG5 P md ops Q S L (fuel + 1) listed a w:=by
 simp only [Bool.and_eq_true] at hc
 exact zP5 (atL hi) hc.1 hc.2.2.2 hc.2.1 hc.2.2.1 hQ (.inl ⟨hw,fun w _=>hy w⟩) hS h
theorem tkLy {oi:Oper} {fuel:Nat} {listed:Array Bool} {a:Act} {w:World} (i:Nat) (hi:ops.toList[i]? = some oi) (v:Value) (hc:(Region.noSelect ops && (Region.free md ops listed i && ((Region.ready md ops listed).contains i && (yV9 md ops L i)))) = true) (hQ:∀ c a w,Q (.panic c) (a.put oi.dst v) w->Q (.panic c) a w) (hS:S w) (hy:YieldsIf P ops S oi v a) (h:zG5 P md ops Q S L fuel (listed.setIfInBounds i true) (a.put oi.dst v) w) : zG5 P md ops Q S L (fuel + 1) listed a w:=by
 simp only [Bool.and_eq_true] at hc
 exact zP5 (atL hi) hc.1 hc.2.2.2 hc.2.1 hc.2.2.1 hQ hy hS h
theorem tkLc {o:Oper} {fuel:Nat} {listed:Array Bool} {a:Act} {w:World} (i:Nat) (ho:ops.toList[i]? = some o) (hr:Region.ready md ops listed = [i]) (hw:Region.wanted o (yielded ops a.tmps) = true) (h:∀ K' : Act->World->Prop,Shut (∀ a w,(i ≠ L->S w)->zG5 P md ops Q S L fuel (listed.setIfInBounds i true) a w->K' a w)->Oper.wp P o a w K' Q) : zG5 P md ops Q S L (fuel + 1) listed a w :=
 yV8 hr (atL ho) (fun K' hK=>by rw [if_pos hw]; exact h K' hK)
end Sc1
theorem aPa (T:List Value) (D:List Deferred) (n:Nat) (v:Value) : Act.put ⟨T.toArray,D⟩ (some n) v = ⟨(T.set n v).toArray,D⟩:=by simp [Act.put]
theorem aPb (T:List Value) (D:List Deferred) (v:Value) : Act.put ⟨T.toArray,D⟩ none v = ⟨T.toArray,D⟩:=rfl
theorem aPc (x v:Value) (T:List Value) : (x :: T).set 0 v = v :: T:=rfl
theorem aPd (x v:Value) (T:List Value) (n:Nat) : (x :: T).set (n + 1) v = x :: T.set n v:=rfl
end
section
open Go.RowKit Go.Maps Go.Shelf
def kI9 : Go.Shelf.Ren:=⟨fun | 316=>56 | n=>n,fun | 37=>22 | 127=>150 | n=>n,fun | n=>n⟩
theorem kF2 : LaysM.n316 Tryz.prog kI9:={ mixed:=by kernel_rfl,f316:=Tryz.func56.trans (congrArg some (by kernel_rfl)),t0:=Tryz.underlying0,a0:=Tryz.isAgg0,z0:=Tryz.sizeOf0,v0:=Tryz.zeroValue0,t3:=Tryz.underlying3,a3:=Tryz.isAgg3,z3:=Tryz.sizeOf3,v3:=Tryz.zeroValue3,t4:=Tryz.underlying4,a4:=Tryz.isAgg4,z4:=Tryz.sizeOf4,v4:=Tryz.zeroValue4,t9:=Tryz.underlying9,a9:=Tryz.isAgg9,z9:=Tryz.sizeOf9,v9:=Tryz.zeroValue9,t37:=Tryz.underlying22,a37:=Tryz.isAgg22,z37:=Tryz.sizeOf22,v37:=Tryz.zeroValue22,t127:=Tryz.underlying150,a127:=Tryz.isAgg150,z127:=Tryz.sizeOf150,v127:=Tryz.zeroValue150,t5:=Tryz.underlying5,a5:=Tryz.isAgg5,z5:=Tryz.sizeOf5,v5:=Tryz.zeroValue5,i0:=by kernel_rfl,i3:=by kernel_rfl,i4:=by kernel_rfl,i5:=by kernel_rfl,i9:=by kernel_rfl,i37:=by kernel_rfl,i127:=by kernel_rfl }
theorem yG5 (s:ByteArray) (w:World) (h:s.size<=281474976710656) : Calls Tryz.prog 56 #[.string s] w fun e w'=>e = .returned (.string s)/\Below w.heap.size w w':=Any.stringslite_Clone kF2 s w h
theorem zP2 (s:ByteArray) (w:World) (h:s.size<=281474976710656) : Calls Tryz.prog 28 #[.string s] w fun e w'=>e = .returned (.string s)/\Below w.heap.size w w':=by
 go_enter Tryz.func28,Tryz.ntmps28
 go_wp2_with fail
 refine (yG5 s w h).mono ?_
 rintro e w1 ⟨rfl,hb⟩
 go_wp2
 go_ret
 exact ⟨rfl,hb⟩
end
end Go.Proofs.YtocoimjhglackaaGreat
