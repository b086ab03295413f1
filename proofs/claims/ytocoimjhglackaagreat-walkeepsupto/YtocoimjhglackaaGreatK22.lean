/- Wfd -/
import Derived.Test.YtocoimjhglackaaGreatK21
set_option maxHeartbeats 8000000
set_option maxRecDepth 100000
namespace Go.Proofs.YtocoimjhglackaaGreat
section
open Go.RowKit Go.Maps
theorem yP9 : (Tryz.prog.info? 22).map (fun i=>(i.zero,i.size,i.bytes)) = some (some (.slice none 0 0),1,24):=by kernel_rfl
def VsR (w:World) (a:Option Addr) (xs:List Value) : Prop:=xs.length<=2199023255552/\(∀ u ∈ xs,u.oneCell' = true)/\(xs ≠ []->∃ b off,a = some ⟨b,off,none⟩/\b < w.heap.size/\∀ j u,xs[j]? = some u->w.cell? ⟨b,off + j,none⟩ = some u)
theorem VsR.nil (w:World) (a:Option Addr) : VsR w a []:=⟨by simp,fun u hu=>(by cases hu),fun h=>absurd rfl h⟩
theorem VsR.grow {w w':World} {a:Option Addr} {xs:List Value} (h:VsR w a xs) (hb:Below w.heap.size w w') : VsR w' a xs:=by
 refine ⟨h.1,h.2.1,fun hne=>?_⟩
 obtain ⟨b,off,e,h1,h2⟩:=h.2.2 hne
 exact ⟨b,off,e,Nat.lt_of_lt_of_le h1 hb.size,fun j u hu=>(hb.cell (p:=⟨b,off + j,none⟩) h1).trans (h2 j u hu)⟩
theorem yS5 (w:World) (D:Nat) (v:Value) (l:List Value) (ty:TypeId) (ax:Option Addr) (cx:Nat) (k:List Value) (hr:w.ownsRow D 22 1 v l.length l) (hk:VsR w ax k) (hlen:l.length + k.length<=2199023255552) (hD:D<=w.heap.size) :
    ∃ v' w',(Builtin.append_ #[92,92] ty #[v,.slice ax k.length cx]).run Tryz.prog w = .ok v' w'/\w'.ownsRow D 22 1 v' (l ++ k).length (l ++ k)/\w.grownBy w' v.ownBlock/\(v'.ownBlock = v.ownBlock\/v'.ownBlock = some w.heap.size):=by
 obtain ⟨i0,hi,hz0,hz1,hz2⟩:=info_parts yP9
 by_cases e : k = []/\ax = none
 · obtain ⟨rfl,rfl⟩:=e
   refine ⟨v,w,?_,by rw [List.append_nil]; exact hr,⟨rfl,rfl,rfl,Nat.le_refl _,fun _ _ _=>rfl⟩,.inl rfl⟩
   rcases hr.2 with ⟨rfl,e⟩ | ⟨g,cap,cur,rfl,h3,h4,h5,h6,h7,h8⟩
   · simp [Builtin.append_,run_underlying Tryz.underlying92,sizeOf,typeInfo,hi,Builtin.lenOf,Builtin.firstCells]
   · have:=run_append_room_src (P:=Tryz.prog) w 92 92 ty 22 i0 Tryz.underlying92 hi g 0 l.length cap (.slice none 0 cx) 0 [] (Src.ofNil (P:=Tryz.prog) w Tryz.underlying92 cx) (by omega) (fun j hj=>absurd hj (by simp)) (fun j hj=>absurd hj (by simp))
     simpa [World.setCells] using this
 · have hx : ∃ ad,ax = some ad:=by
     cases ax with
     | some ad=>exact ⟨ad,rfl⟩
     | none =>
      by_cases e2 : k = []
      · exact absurd ⟨e2,rfl⟩ e
      · obtain ⟨b,off,h,_⟩:=hk.2.2 e2; cases h
   obtain ⟨ad,rfl⟩:=hx
   obtain ⟨v',w',h1,h2,h3,h4,h5⟩:=run_append_own_at (P:=Tryz.prog) w D 92 ty 22 i0 (.slice none 0 0) 1 24 Tryz.underlying92 hi hz0 hz1 hz2 rfl (by decide) v l.length l hr ad k.length cx k (by simp) (fun j u hj=>by
    obtain ⟨b,off,e1,_,hc⟩:=hk.2.2 (by intro e; rw [e] at hj; simp at hj)
    cases e1
    rw [Addr.add_lit]
    exact hc j u hj) hk.2.1 (by unfold maxLen; omega) (by omega) hD
   refine ⟨v',w',h1,?_,h3,h5⟩
   rw [List.length_append]; exact h2
theorem zK8 {ops:Array Oper} {rest:List Oper} {o:Oper} {a:Act} {Q:Exit->Act->World->Prop} (w:World) (hgd:o.guard = none) (s x:Operand) (ho:o.op = .call { callee:=.builtin .append,args:=#[s,x],argTypes:=#[92,92] })
    (D:Nat) (v:Value) (l:List Value) (hs:a.eval s = v) (hr:w.ownsRow D 22 1 v l.length l) (ax:Option Addr) (m cx:Nat) (k:List Value) (hx:a.eval x = .slice ax m cx) (hm:m = k.length) (hk:VsR w ax k) (hlen:l.length + k.length<=2199023255552) (hD:D<=w.heap.size)
    (h:∀ v' w',w'.ownsRow D 22 1 v' (l ++ k).length (l ++ k)->w.grownBy w' v.ownBlock->(v'.ownBlock = v.ownBlock\/v'.ownBlock = some w.heap.size)->wpList Tryz.prog ops Q rest (a.put o.dst v') w') : wpList Tryz.prog ops Q (o :: rest) a w:=by
 subst hm
 refine wpList_plain hgd fun K hK=>?_
 obtain ⟨v',w',hr1,h2,h3,h5⟩:=yS5 w D v l o.type ax cx k hr hk hlen hD
 unfold Oper.wp execOp
 simp only [ho,resolve,invoke,builtin,Sem.run_bind,Sem.run_pure,Result.andThen_ok,List.map_toArray,List.map_cons,List.map_nil,hs,hx,hr1]
 exact hK _ _ (h v' w' h2 h3 h5)
theorem xO9 (w:World) (x:Value) (h:x.oneCell' = true) : VsR (w.alloc (.cells #[x] 22)) (some ⟨w.heap.size,0,none⟩) [x]:=by
 refine ⟨by simp,fun u hu=>by rw [List.mem_singleton.1 hu]; exact h,fun _=>⟨w.heap.size,0,rfl,by simp,fun j u hj=>?_⟩⟩
 have h0:=(List.getElem?_eq_some_iff.1 hj).1
 have : j = 0:=by simpa using h0
 subst this
 rw [cell_of_row _ w.heap.size 0 _ 22 (0,0) (heap_alloc_new w _)]
 simpa using hj
theorem zD7 {w:World} {D e s n:Nat} {v:Value} {l:List Value} (h:w.ownsRow D e s v n l) {k:Nat} (hk:v.ownBlock = some k) : D<=k/\k < w.heap.size/\∃ cur,w.heap[k]? = some (.cells cur e (0,0)):=by
 rcases h.2 with ⟨rfl,_⟩ | ⟨g,cap,cur,rfl,h3,h4,h5⟩
 · cases hk
 · cases hk; exact ⟨h3,zA1 h4,cur,h4⟩
theorem zM9 {w w':World} {D e s n:Nat} {v:Value} {l:List Value} (h:w.ownsRow D e s v n l) (hg:w.grownBy w' v.ownBlock) (hD:D<=w.heap.size) : Below D w w' :=
 (Below.refl D w).grown hg hD (fun _ hk=>(zD7 h hk).1)
theorem xN0 (w:World) (n:Nat) (hn:n<=2199023255552) : Calls Tryz.prog 125 #[.slice none 0 0,.int .i64 (n:Int)] w fun e w'=>∃ v,e = .returned v/\w'.ownsRow w.heap.size 22 1 v 0 []/\Below w.heap.size w w':=by
 obtain ⟨i0,hi,hz0,hz1,hz2⟩:=info_parts yP9
 by_cases h0 : n = 0
 · subst h0
   go_enter Tryz.func125,Tryz.ntmps125
   go_wp2
   go_ret
   exact ⟨_,rfl,⟨rfl,.inl ⟨rfl,rfl⟩⟩,Below.refl _ _⟩
 · have hp : 0 < n:=by omega
   have hpz : (0:Int) < (n:Int):=by omega
   have hpn : ¬ (n:Int) < 0:=by omega
   have HR:=zA0 (Lib.run_append_nil_zeros (P:=Tryz.prog) w 92 3 92 22 i0 (.slice none 0 0) .i64 .i64 Tryz.underlying92 Tryz.underlying3 hi hz0 n hp (by rw [hz1]; decide) (by omega) (by rw [hz2]; omega))
   have hg : n<=grownCap w n 0 22/\grownCap w n 0 22<=maxLen:=⟨grownCap_ge w n 0 22,grownCap_le_maxLen w n 0 22 (by unfold maxLen; omega)⟩
   have HG:=zA0 hg
   generalize hC : grownCap w n 0 22 = C at HR hg HG
   clear hC
   obtain ⟨hg1,hg2⟩:=hg
   have hg3 : 0<=C:=Nat.zero_le _
   generalize hZ : (Builtin.zeroCells (Value.slice none 0 0).cells n ++ Builtin.zeroCells (Value.slice none 0 0).cells (C - n)) = zs at HR
   have hzs : zs.size = C:=by rw [<- hZ]; simp [Builtin.zeroCells,Value.cells]; omega
   have HZS:=zA0 hzs
   clear hZ hzs hi hz0 hz1 hz2 h0
   go_enter Tryz.func125,Tryz.ntmps125
   go_wp2_with (at_builtin; refine Lib.wpList_append_run _ rfl (.tmp 20) (.tmp 21) 92 3 rfl (.slice none 0 0) (.int .i64 (n:Int)) rfl rfl _ _ HR.out ?_)
   go_ret
   have hb : Below w.heap.size w (w.drew.alloc (.cells zs 22)):=((Below.refl _ w).drew).alloc (Nat.le_refl _) _
   exact ⟨_,rfl,World.ownsRow_made (size:=1) (e:=22) (base:=w.heap.size) w.drew zs C (Nat.le_refl _) HG.out.2 (by rw [HZS.out,Nat.mul_one]),hb⟩
def yA3 (w:World) (q:Nat) (x y:Value) : Prop:=w.heap[q]? = some (.cells #[x,y] 92 (0,0))
theorem yA3.c0 {w:World} {k:Nat} {x y:Value} (h:yA3 w k x y) : w.cell? ⟨k,0,none⟩ = some x:=by rw [cell_of_row w k 0 _ 92 (0,0) h]; rfl
theorem yA3.c1 {w:World} {k:Nat} {x y:Value} (h:yA3 w k x y) : w.cell? ⟨k,1,none⟩ = some y:=by rw [cell_of_row w k 1 _ 92 (0,0) h]; rfl
theorem yA3.lt {w:World} {k:Nat} {x y:Value} (h:yA3 w k x y) : k < w.heap.size:=zA1 h
theorem yA3.grow {w w':World} {k:Nat} {x y:Value} (h:yA3 w k x y) (hb:Below w.heap.size w w') : yA3 w' k x y:=(hb.block k h.lt).trans h
def CatP (w:World) (V L:List Value) (e:Ending) (w':World) : Prop:=∃ v,e = .returned v/\w'.ownsRow w.heap.size 22 1 v (V ++ L).length (V ++ L)/\Below w.heap.size w w'
theorem yY2 (w:World) (q:Nat) (av al:Option Addr) (V L:List Value) (nv nl cv cl:Nat) (hnv:nv = V.length) (hnl:nl = L.length) (hV:VsR w av V) (hL:VsR w al L) (hq:yA3 w q (.slice av nv cv) (.slice al nl cl)) (hl:V.length + L.length<=2199023255552) : Calls Tryz.prog 91 #[.slice (some ⟨q,0,none⟩) 2 2] w (CatP w V L):=by
 have c0:=hq.c0
 have c1:=hq.c1
 have lt0:=hq.lt
 have HQ:=zA0 hq
 have HV:=zA0 hV
 have HL:=zA0 hL
 have HG:=zA0 (xN0 w (nv + nl) (by omega))
 have s1 : ¬ ((nv:Nat) : Int) < 0:=by omega
 have s2 : ¬ ((nv:Nat) : Int) + ((nl:Nat) : Int) < 0:=by omega
 have s4 : (nv:Int) + (nl:Int)<=2199023255552:=by omega
 have s3 : (((nv + nl : Nat)) : Int) = (nv:Int) + (nl:Int):=by omega
 have HL1 : Hid (([] : List Value).length + V.length<=2199023255552):=zA0 (by simp; omega)
 have HL2 : Hid (V.length + L.length<=2199023255552):=zA0 hl
 have HNV:=zA0 hnv
 have HNL:=zA0 hnl
 clear hV hL hq hnv hnl hl
 go_enter Tryz.func91,Tryz.ntmps91
 go_wp2
 go_loop [3,11] (fun z i=>∃ k : Nat,i = .int .i64 (k:Int)/\k<=2/\z = .int .i64 (if k = 0 then 0 else if k = 1 then (nv:Int) else (nv:Int) + (nl:Int))) (fun _ i=>2 - (intOf i).toNat)
 case atStart=>exact ⟨0,rfl,Nat.zero_le _,rfl⟩
 case round =>
  obtain ⟨k,rfl,hk,rfl⟩:=hrel
  have hk3 : k = 0\/k = 1\/k = 2:=by omega
  rcases hk3 with rfl | rfl | rfl
  · go_wp2
    go_round
    case rel=>exact ⟨1,by go_num,by omega,by go_num⟩
    case measure=>simp [intOf]
  · go_wp2
    go_round
    case rel=>exact ⟨2,by go_num,by omega,by go_num⟩
    case measure=>simp [intOf]
  · rw [s3] at HG
    go_wp2_with (go_at_call 125; refine HG.out.mono ?_; rintro e w1 ⟨v0,rfl,hr,hb⟩; have HR0:=zA0 hr; have HB0:=zA0 hb; clear hr hb)
    go_loopw [6,27] (fun vv i wr=>∃ (k:Nat) (v:Value),v = vv/\i = .int .i64 (k:Int)/\k<=2/\Hid (wr.ownsRow w.heap.size 22 1 v (if k = 0 then [] else if k = 1 then V else V ++ L).length (if k = 0 then [] else if k = 1 then V else V ++ L))/\Hid (Below w.heap.size w wr)) (fun _ i _=>2 - (intOf i).toNat)
    case atStart=>exact ⟨0,v0,rfl,rfl,Nat.zero_le _,HR0,HB0⟩
    case round =>
     obtain ⟨k,v,rfl,rfl,hk2,HR,HB⟩:=hrel
     have hk3 : k = 0\/k = 1\/k = 2:=by omega
     have hD : Hid (w.heap.size<=wr.heap.size):=zA0 HB.out.size
     have HQr:=zA0 (HQ.out.grow HB.out)
     have HVr:=zA0 (HV.out.grow HB.out)
     have HLr:=zA0 (HL.out.grow HB.out)
     have d0:=HQr.out.c0
     have d1:=HQr.out.c1
     have dlt:=HQr.out.lt
     rcases hk3 with rfl | rfl | rfl
     · have HRa : Hid (wr.ownsRow w.heap.size 22 1 v ([] : List Value).length []):=HR
       clear HR
       go_wp2_with (at_builtin; refine zK8 wr rfl (.tmp 31) (.tmp 32) rfl w.heap.size v [] rfl HRa.out av nv cv V rfl HNV.out HVr.out HL1.out hD.out ?next)
       case next =>
        intro v1 w2 hr2 hg2 _
        have HR2:=zA0 hr2
        have HB2:=zA0 (HB.out.trans (zM9 HRa.out hg2 hD.out))
        clear hr2 hg2
        go_wp2
        go_roundw
        case rel=>exact ⟨1,_,rfl,by go_num,by omega,HR2,HB2⟩
        case measure=>simp [intOf]
     · have HRa : Hid (wr.ownsRow w.heap.size 22 1 v V.length V):=HR
       clear HR
       go_wp2_with (at_builtin; refine zK8 wr rfl (.tmp 31) (.tmp 32) rfl w.heap.size v V rfl HRa.out al nl cl L rfl HNL.out HLr.out HL2.out hD.out ?next)
       case next =>
        intro v1 w2 hr2 hg2 _
        have HR2:=zA0 hr2
        have HB2:=zA0 (HB.out.trans (zM9 HRa.out hg2 hD.out))
        clear hr2 hg2
        go_wp2
        go_roundw
        case rel=>exact ⟨2,_,rfl,by go_num,by omega,(by have h:=HR2; rw [<- List.length_append] at h; exact h),HB2⟩
        case measure=>simp [intOf]
     · have HRa : Hid (wr.ownsRow w.heap.size 22 1 v (V ++ L).length (V ++ L)):=HR
       clear HR
       go_wp2
       go_ret
       exact ⟨v,rfl,HRa.out,HB.out⟩
theorem xN3 (a:Addr) (n cap:Nat) (w:World) : (binOp .eql 92 (.slice (some a) n cap) (.slice none 0 0)).run Tryz.prog w = .ok (.bool false) w:=by
 have e : ∃ d,Op.maxDepth = d + 1:=⟨Op.maxDepth - 1,by decide⟩
 obtain ⟨d,e⟩:=e
 unfold binOp Op.equal
 rw [e]
 simp [go_sem,Op.equalIn,run_underlying Tryz.underlying92]
theorem xF0 (n cap:Nat) (w:World) : (binOp .eql 92 (.slice none n cap) (.slice none 0 0)).run Tryz.prog w = .ok (.bool true) w:=by
 have e : ∃ d,Op.maxDepth = d + 1:=⟨Op.maxDepth - 1,by decide⟩
 obtain ⟨d,e⟩:=e
 unfold binOp Op.equal
 rw [e]
 simp [go_sem,Op.equalIn,run_underlying Tryz.underlying92]
theorem yY3 (w:World) (a:Option Addr) (V:List Value) (n c:Nat) (hn:n = V.length) (hV:VsR w a V) (hne:a = none->V = []) (hl:V.length<=2199023255552) : Calls Tryz.prog 111 #[.slice a n c] w fun e w'=>∃ v,e = .returned v/\w'.ownsRow w.heap.size 22 1 v V.length V/\Below w.heap.size w w':=by
 cases a with
 | none =>
  obtain rfl:=hne rfl
  simp only [List.length_nil] at hn
  subst hn
  clear hV hl
  have heq:=xF0 0 c w
  go_enter Tryz.func111,Tryz.ntmps111
  go_wp2
  go_ret
  exact ⟨_,rfl,⟨rfl,.inl ⟨rfl,rfl⟩⟩,Below.refl _ _⟩
 | some a =>
  have HV:=zA0 hV
  have HL:=zA0 hl
  have HN:=zA0 hn
  clear hV hl hn hne
  have heq:=xN3 a n c w
  go_enter Tryz.func111,Tryz.ntmps111
  go_wp2_with (at_builtin; refine zK8 _ rfl (.tmp 5) (.tmp 6) rfl w.heap.size _ [] rfl (World.ownsRow_made (size:=1) (e:=22) (base:=w.heap.size) w #[] 0 (Nat.le_refl _) (by unfold maxLen; omega) (by simp)) (some a) n c V rfl HN.out (HV.out.grow (zB5 w _)) (by have:=HL.out; simp; omega) (by simp) ?next)
  case next =>
   intro v1 w2 hr2 hg2 _
   have HR2:=zA0 hr2
   have HB2:=zA0 ((zB5 w (.cells #[] 22)).trans (zM9 (World.ownsRow_made (size:=1) (e:=22) (base:=w.heap.size) w #[] 0 (Nat.le_refl _) (by unfold maxLen; omega) (by simp)) hg2 (by simp)))
   clear hr2 hg2
   go_wp2
   go_ret
   exact ⟨_,rfl,HR2.out,HB2.out⟩
end
end Go.Proofs.YtocoimjhglackaaGreat
