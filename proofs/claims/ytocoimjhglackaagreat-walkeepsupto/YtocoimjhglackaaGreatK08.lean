/- Ddk, Ddo -/
import Derived.Test.YtocoimjhglackaaGreatK07
import Derived.Maps.AppendAt
set_option maxHeartbeats 8000000
set_option maxRecDepth 100000
namespace Go.Proofs.YtocoimjhglackaaGreat
section
open Go.RowKit Go.Maps
structure Md where
 files : FS
 dur : FS
 done : List (Nat × Dd)
 left : Int
structure Gd where
 u : Nat
 x : Dd
 f : Value
 z : Value
def rowL (G:List Gd) : List Value:=G.flatMap fun g=>[.int .i64 (g.u:Int),g.f]
theorem zP7 (G:List Gd) (g:Gd) : rowL (G ++ [g]) = rowL G ++ [.int .i64 (g.u:Int),g.f]:=by simp [rowL]
theorem mapz (G:List Gd) (g:Gd) : (G ++ [g]).map (·.z) = G.map (·.z) ++ [g.z]:=by simp
theorem xJ9 (G:List Gd) : ∀ i g,G[i]? = some g->(rowL G)[i * 2]? = some (.int .i64 (g.u:Int))/\(rowL G)[i * 2 + 1]? = some g.f:=by
 induction G with
 | nil=>intro i g h; simp at h
 | cons a G ih =>
  intro i g h
  have e : rowL (a :: G) = [.int .i64 (a.u:Int),a.f] ++ rowL G:=by simp [rowL]
  cases i with
  | zero=>simp at h; subst h; simp [e]
  | succ i =>
   have:=ih i g (by simpa using h)
   rw [e,List.getElem?_append_right (by simp; omega),List.getElem?_append_right (by simp; omega)]
   simp only [List.length_cons,List.length_nil]
   rw [show (i + 1) * 2 - (0 + 1 + 1) = i * 2 by omega,show (i + 1) * 2 + 1 - (0 + 1 + 1) = i * 2 + 1 by omega]
   exact this
def entE (DF DD:DataW Value) : Bool->Nm->Value:=fun s=>vAt (if s then DD else DF)
def entC (F D:FS) : Bool->Nm->List UInt8:=fun s=>cOf (if s then D else F)
structure DkR (w:World) (p:Nat) (M:Md) (cnt bF bD:Nat) (DF DD:DataW Value) (dn:Value) (G:List Gd) : Prop where
 blk : DskB w p bF bD dn M.left
 mF : ∃ n,n<=cnt/\MapR w bF n DF
 mD : ∃ n,n + G.length<=cnt/\MapR w bD n DD
 ne : bF ≠ bD
 hF : ∀ k,Maps.has DF (.string k) = (M.files k).isSome
 hD : ∀ k,Maps.has DD (.string k) = (M.dur k).isSome
 liv : Liv w (entE DF DD) (entC M.files M.dur) (G.map (·.z))
 row : w.ownsRow 0 123 2 dn G.length (rowL G)
 done : M.done = G.map fun g=>(g.u,g.x)
 deed : ∀ g ∈ G,zM6 w g.f g.x g.z
 leb : -1<=M.left/\M.left<=1099511627776
 cn : cnt<=4398046511104
def Ft (p bF bD:Nat) (DF DD:DataW Value) (dn:Value) (Z:List Value) : Nat->Prop:=fun k=>k = p\/k = bF\/k = bD\/dn.ownBlock = some k\/(∃ s n,(entE DF DD s n).ownBlock = some k)\/∃ z ∈ Z,z.ownBlock = some k
theorem Ft.one {p bF bD:Nat} {DF DD:DataW Value} {dn z:Value} {Z:List Value} {k:Nat} (h:Ft p bF bD DF DD dn (Z ++ [z]) k) : Ft p bF bD DF DD dn Z k\/z.ownBlock = some k:=by
 rcases h with e | e | e | e | e | ⟨y,e,e'⟩
 · exact .inl (.inl e)
 · exact .inl (.inr (.inl e))
 · exact .inl (.inr (.inr (.inl e)))
 · exact .inl (.inr (.inr (.inr (.inl e))))
 · exact .inl (.inr (.inr (.inr (.inr (.inl e)))))
 · rcases List.mem_append.1 e with e | e
   · exact .inl (.inr (.inr (.inr (.inr (.inr ⟨y,e,e'⟩)))))
   · rw [List.mem_singleton.1 e] at e'
     exact .inr e'
structure Fr (w w':World) (F F':Nat->Prop) : Prop where
 os : w'.os = w.os
 tape : w'.tape = w.tape
 output : w'.output = w.output
 size : w.heap.size<=w'.heap.size
 block : ∀ k,k < w.heap.size->¬ F k->w'.heap[k]? = w.heap[k]?
 foot : ∀ k,F' k->F k\/w.heap.size<=k
theorem Fr.refl (w:World) (F:Nat->Prop) : Fr w w F F:=⟨rfl,rfl,rfl,Nat.le_refl _,fun _ _ _=>rfl,fun _ h=>.inl h⟩
theorem Fr.trans {a b c:World} {F F1 F2:Nat->Prop} (h:Fr a b F F1) (k:Fr b c F1 F2) : Fr a c F F2:=by
 refine ⟨k.os.trans h.os,k.tape.trans h.tape,k.output.trans h.output,Nat.le_trans h.size k.size,fun i hi hF=>?_,fun i hi=>?_⟩
 · refine (k.block i (Nat.lt_of_lt_of_le hi h.size) (fun e=>?_)).trans (h.block i hi hF)
   rcases h.foot i e with e | e
   · exact hF e
   · omega
 · rcases k.foot i hi with e | e
   · exact h.foot i e
   · exact .inr (Nat.le_trans h.size e)
theorem Fr.of_below {a b:World} {F:Nat->Prop} (h:Below a.heap.size a b) : Fr a b F F:=⟨h.os,h.tape,h.output,h.size,fun k hk _=>h.block k hk,fun _ h=>.inl h⟩
theorem Fr.below {a b:World} {F F':Nat->Prop} (h:Fr a b F F') {B:Nat} (hB:B<=a.heap.size) (hF:∀ k,F k->B<=k) : Below B a b :=
 ⟨h.os,h.tape,h.output,h.size,fun k hk=>h.block k (by omega) (fun e=>by have:=hF k e; omega)⟩
theorem Fr.above {a b:World} {F F':Nat->Prop} (h:Fr a b F F') {B:Nat} (hB:B<=a.heap.size) (hF:∀ k,F k->B<=k) : ∀ k,F' k->B<=k:=fun k hk=>by
 rcases h.foot k hk with e | e
 · exact hF k e
 · omega
theorem Fr.fresh {a b c:World} {p bF bD:Nat} {DF DD:DataW Value} {dn z:Value} {Z:List Value} {F':Nat->Prop} (h:Below a.heap.size a b) (hz:∀ k,z.ownBlock = some k->a.heap.size<=k) (k:Fr b c (Ft p bF bD DF DD dn (Z ++ [z])) F') : Fr a c (Ft p bF bD DF DD dn Z) F':=by
 refine ⟨k.os.trans h.os,k.tape.trans h.tape,k.output.trans h.output,Nat.le_trans h.size k.size,fun i hi hF=>?_,fun i hi=>?_⟩
 · refine (k.block i (Nat.lt_of_lt_of_le hi h.size) (fun e=>?_)).trans (h.block i hi)
   rcases e.one with e | e
   · exact hF e
   · have:=hz i e; omega
 · rcases k.foot i hi with e | e
   · rcases e.one with e | e
     · exact .inl e
     · exact .inr (hz i e)
   · exact .inr (Nat.le_trans h.size e)
def okT : Obj->Prop
 | .map _ _=>True
 | .cells _ t f=>(t = 5\/t = 9\/t = 22)/\f = (0,0)
 | _=>False
def yB2 (w w':World) : Prop:=∀ (k:Nat) (o:Obj),w.heap[k]? = some o->okT o->w'.heap[k]? = w.heap[k]?
theorem MapR.keepT {w w':World} {b n:Nat} {D:DataW Value} (h:MapR w b n D) (k:yB2 w w') : MapR w' b n D:=by
 obtain ⟨es,c,hb⟩:=h.obj
 exact h.kept (k b _ hb trivial)
theorem SlR.keepT {w w':World} {v:Value} {l:List UInt8} (h:SlR w v l) (k:yB2 w w') : SlR w' v l:=by
 refine h.kept fun g hg=>?_
 rcases h with ⟨rfl,_⟩ | ⟨g',cap,cur,rfl,hg',_⟩
 · cases hg
 · cases hg
   exact k _ _ hg' ⟨.inl rfl,rfl⟩
theorem Liv.keepT {w w':World} {E:Bool->Nm->Value} {C:Bool->Nm->List UInt8} {Z:List Value} (h:Liv w E C Z) (k:yB2 w w') : Liv w' E C Z:=⟨fun s n=>(h.r s n).keepT k,h.sep,h.kz⟩
theorem zM6.keepT {w w':World} {f:Value} {x:Dd} {z:Value} (h:zM6 w f x z) (k:yB2 w w') : zM6 w' f x z :=
 h.kept (fun i cs t ht hi=>k i _ hi ⟨by rcases ht with rfl | rfl <;> simp,rfl⟩) (fun _ hl=>hl.keepT k)
theorem yB2.below {w w':World} (h:Below w.heap.size w w') : yB2 w w':=fun k _ hk _=>h.block k (zA1 hk)
structure Tch (w w':World) (p:Nat) (r:Option Nat) : Prop where
 os : w'.os = w.os
 tape : w'.tape = w.tape
 output : w'.output = w.output
 size : w.heap.size<=w'.heap.size
 block : ∀ k,k < w.heap.size->k ≠ p->some k ≠ r->w'.heap[k]? = w.heap[k]?
theorem Tch.trans {a b c:World} {p:Nat} {r:Option Nat} (h:Tch a b p r) (k:Tch b c p r) : Tch a c p r :=
 ⟨k.os.trans h.os,k.tape.trans h.tape,k.output.trans h.output,Nat.le_trans h.size k.size,fun i hi h1 h2=>(k.block i (Nat.lt_of_lt_of_le hi h.size) h1 h2).trans (h.block i hi h1 h2)⟩
theorem Tch.of_below {a b:World} {p:Nat} {r:Option Nat} (h:Below a.heap.size a b) : Tch a b p r:=⟨h.os,h.tape,h.output,h.size,fun k hk _ _=>h.block k hk⟩
theorem Tch.of_grown {a b:World} {p:Nat} {r:Option Nat} (h:a.grownBy b r) : Tch a b p r:=⟨h.os,h.tape,h.output,h.size,fun k hk _ h2=>h.block k hk h2⟩
theorem Tch.setp (a:World) (p:Nat) (r:Option Nat) (j:Nat) (u:Value) : Tch a (a.setCell ⟨p,j,none⟩ u) p r:=⟨rfl,rfl,rfl,by simp,fun k _ hk _=>Below.heap_setCell a ⟨p,j,none⟩ u k hk⟩
theorem Tch.keepT {w w':World} {p bF bD:Nat} {dn:Value} {left:Int} {G:List Gd} (h:Tch w w' p dn.ownBlock) (hb:DskB w p bF bD dn left) (hr:w.ownsRow 0 123 2 dn G.length (rowL G)) : yB2 w w':=by
 intro k o hk ho
 refine h.block k (zA1 hk) (fun e=>?_) (fun e=>?_)
 · subst e
   have hb' : w.heap[k]? = _:=hb
   rw [hb'] at hk
   cases hk
   obtain ⟨h1,_⟩:=ho
   revert h1; decide
 · rcases hr.2 with ⟨rfl,_⟩ | ⟨g,cap,cur,rfl,_,h4,_⟩
   · cases e
   · cases e
     rw [h4] at hk
     cases hk
     obtain ⟨h1,_⟩:=ho
     revert h1; decide
theorem zD2 {w w':World} {v:Value} {e n s:Nat} {xs:List Value} (h:w.ownsRow 0 e s v n xs) (hb:∀ k,v.ownBlock = some k->w'.heap[k]? = w.heap[k]?) : w'.ownsRow 0 e s v n xs:=by
 refine ⟨h.1,?_⟩
 rcases h.2 with h2 | ⟨g,cap,cur,rfl,h3,h4,h5⟩
 · exact .inl h2
 · exact .inr ⟨g,cap,cur,rfl,h3,(hb g rfl).trans h4,h5⟩
theorem zE5 {w:World} {v:Value} {e n s:Nat} {xs:List Value} (h:w.ownsRow 0 e s v n xs) {k:Nat} (hk:v.ownBlock = some k) : ∃ cur,w.heap[k]? = some (.cells cur e (0,0)):=by
 rcases h.2 with ⟨rfl,_⟩ | ⟨g,cap,cur,rfl,h3,h4,h5⟩
 · cases hk
 · cases hk; exact ⟨cur,h4⟩
theorem DkR.rowNe {w:World} {p:Nat} {M:Md} {cnt bF bD:Nat} {DF DD:DataW Value} {dn:Value} {G:List Gd} (h:DkR w p M cnt bF bD DF DD dn G) : dn.ownBlock ≠ some p:=by
 intro e
 obtain ⟨cur,hc⟩:=zE5 h.row e
 have hb : w.heap[p]? = _:=h.blk
 rw [hb] at hc
 cases hc
theorem DkR.below {w w':World} {p:Nat} {M:Md} {cnt bF bD:Nat} {DF DD:DataW Value} {dn:Value} {G:List Gd} (h:DkR w p M cnt bF bD DF DD dn G) (hb:Below w.heap.size w w') : DkR w' p M cnt bF bD DF DD dn G:=by
 have kt:=yB2.below hb
 obtain ⟨n,hn,hm⟩:=h.mF
 obtain ⟨n',hn',hm'⟩:=h.mD
 exact ⟨(hb.block p h.blk.lt).trans h.blk,⟨n,hn,hm.keepT kt⟩,⟨n',hn',hm'.keepT kt⟩,h.ne,h.hF,h.hD,h.liv.keepT kt,zD2 h.row (fun k hk=>hb.block k (by obtain ⟨cur,hc⟩:=zE5 h.row hk; exact zA1 hc)),h.done,fun g hg=>(h.deed g hg).keepT kt,h.leb,h.cn⟩
def DkS (w:World) (p:Nat) (M:Md) (cnt:Nat) (F:Nat->Prop) : Prop:=∃ bF bD DF DD dn G,DkR w p M cnt bF bD DF DD dn G/\F = Ft p bF bD DF DD dn (G.map (·.z))
theorem DkS.below {w w':World} {p:Nat} {M:Md} {cnt:Nat} {F:Nat->Prop} (h:DkS w p M cnt F) (hb:Below w.heap.size w w') : DkS w' p M cnt F:=by
 obtain ⟨bF,bD,DF,DD,dn,G,h1,h2⟩:=h
 exact ⟨bF,bD,DF,DD,dn,G,h1.below hb,h2⟩
end
section
open Go.RowKit Go.Maps
theorem zB5 (w:World) (a:Obj) : Below w.heap.size w (w.alloc a):=(Below.refl _ w).alloc (Nat.le_refl _) _
theorem xA9 (DF DD D':DataW Value) : sset (entE DF DD) false (vAt D') = entE D' DD:=by
 funext s k
 cases s <;> rfl
theorem yN6 (DF DD D':DataW Value) : sset (entE DF DD) true (vAt D') = entE DF D':=by
 funext s k
 cases s <;> rfl
theorem xB0 (F D F':FS) : sset (entC F D) false (cOf F') = entC F' D:=by
 funext s k
 cases s <;> rfl
theorem yN7 (F D F':FS) : sset (entC F D) true (cOf F') = entC F F':=by
 funext s k
 cases s <;> rfl
def zF0 (l:Int) : Int:=if 0 < l then l - 1 else l
theorem yQ4 {w w1 w4:World} {p:Nat} {M:Md} {cnt bF bD n:Nat} {DF DD:DataW Value} {dn dn' f z:Value} {G:List Gd} {x:Dd} {u:Nat} {files':FS} {left':Int}
    (h:DkR w p M cnt bF bD DF DD dn G) (hn:n<=cnt) (hm:MapR w bF n DF) (hL:Liv w (entE DF DD) (entC M.files M.dur) (G.map (·.z) ++ [z])) (hdp:DPost w w1 false bF n DF (entE DF DD) (entC M.files M.dur) (G.map (·.z) ++ [z]) M.files files') (hd:zM6 w f x z)
    (ht:Tch w1 w4 p dn.ownBlock) (hblk:DskB w4 p bF bD dn' left') (hrow:w4.ownsRow 0 123 2 dn' (G.length + 1) (rowL (G ++ [⟨u,x,f,z⟩]))) (hdn:dn'.ownBlock = dn.ownBlock\/∃ k,dn'.ownBlock = some k/\w.heap.size<=k) (hl:-1<=left'/\left'<=1099511627776) (hc:cnt + 1<=4398046511104) :
    ∃ DF',DkR w4 p ⟨files',M.dur,M.done ++ [(u,x)],left'⟩ (cnt + 1) bF bD DF' DD dn' (G ++ [⟨u,x,f,z⟩])/\Fr w w4 (Ft p bF bD DF DD dn (G.map (·.z) ++ [z])) (Ft p bF bD DF' DD dn' (G.map (·.z) ++ [z])):=by
 obtain ⟨D',v,v',c1,c2,c3,c4,c5,c6⟩:=hdp.ex
 obtain ⟨nD,hnD,hmD⟩:=h.mD
 obtain ⟨lv,hv⟩ : ∃ l,SlR w v l:=by
  rcases c5 with rfl | ⟨k,rfl⟩
  · exact ⟨[],SlR.nil w⟩
  · exact ⟨_,h.liv.r false k⟩
 have hvz : ∀ y ∈ G.map (·.z) ++ [z],SepK v y:=by
  rcases c5 with rfl | ⟨k,rfl⟩
  · exact fun y _=>SepK.nil' y
  · exact fun y hy=>hL.kz false k y hy
 obtain ⟨es,c,hobj⟩:=hm.obj
 have hp1 : DskB w1 p bF bD dn M.left:=(c4.cells hv hobj (by decide) h.blk).trans h.blk
 have hr1 : w1.ownsRow 0 123 2 dn G.length (rowL G):=zD2 h.row fun k hk=>by
  obtain ⟨cur,hcur⟩:=zE5 h.row hk
  exact c4.cells hv hobj (by decide) hcur
 have kt:=ht.keepT hp1 hr1
 have hmD1 : MapR w1 bD nD DD:=hmD.kept (c4.block bD hmD.lt (fun e=>h.ne (Option.some.inj e).symm) (fun _ e=>hv.ne_map hmD e.symm))
 refine ⟨D',⟨hblk,⟨n + 1,by omega,c1.keepT kt⟩,⟨nD,by simp; omega,hmD1.keepT kt⟩,h.ne,c2,h.hD,?_,by simpa using hrow,by simp [h.done],fun g hg=>?_,hl,hc⟩,⟨ht.os.trans c4.os,ht.tape.trans c4.tape,ht.output.trans c4.output,Nat.le_trans c4.size ht.size,fun k hk hF=>?_,fun k hk=>?_⟩⟩
 · rw [xA9,xB0] at c3
   simpa using c3.keepT kt
 · rcases List.mem_append.1 hg with hg | hg
   · exact ((h.deed g hg).app c4 hv hm (hvz _ (List.mem_append_left _ (List.mem_map_of_mem hg)))).keepT kt
   · rw [List.mem_singleton.1 hg]
     exact (hd.app c4 hv hm (hvz _ (by simp))).keepT kt
 · have n1 : k ≠ p:=fun e=>hF (.inl e)
   have n2 : k ≠ bF:=fun e=>hF (.inr (.inl e))
   have n3 : some k ≠ dn.ownBlock:=fun e=>hF (.inr (.inr (.inr (.inl e.symm))))
   refine (ht.block k (Nat.lt_of_lt_of_le hk c4.size) n1 n3).trans (c4.block k hk (fun e=>n2 (Option.some.inj e)) (fun _ e=>?_))
   rcases c5 with rfl | ⟨j,rfl⟩
   · cases e
   · exact hF (.inr (.inr (.inr (.inr (.inl ⟨false,j,e.symm⟩)))))
 · rcases hk with e | e | e | e | ⟨s,j,e2⟩ | e
   · exact .inl (.inl e)
   · exact .inl (.inr (.inl e))
   · exact .inl (.inr (.inr (.inl e)))
   · rcases hdn with e3 | ⟨i,e3,e4⟩
     · exact .inl (.inr (.inr (.inr (.inl (e3 ▸ e)))))
     · rw [e3] at e; cases e; exact .inr e4
   · cases s with
     | false =>
      rcases c6 j k e2 with ⟨i,g2⟩ | g | g
      · exact .inl (.inr (.inr (.inr (.inr (.inl ⟨false,i,g2⟩)))))
      · exact .inl (.inr (.inr (.inr (.inr (.inr g)))))
      · exact .inr g
     | true=>exact .inl (.inr (.inr (.inr (.inr (.inl ⟨true,j,e2⟩)))))
   · exact .inl (.inr (.inr (.inr (.inr (.inr e)))))
theorem Tryz.info86 : (Tryz.prog.info? 123).map (fun i=>(i.zero,i.size,i.bytes)) = some (some (.agg #[.int .i64 0,.nilFunc]),2,16):=by kernel_rfl
theorem zN8 (w:World) (x y:Value) (t:TypeId) : ∀ j u,[x,y][j]? = some u->(w.alloc (.cells #[x,y] t)).cell? ((⟨w.heap.size,0,none⟩ : Addr).add j) = some u:=by
 intro j u hj
 have hadd : (⟨w.heap.size,0,none⟩ : Addr).add j = ⟨w.heap.size,j,none⟩:=by unfold Addr.add; split <;> simp_all
 rw [hadd,cell_of_row _ w.heap.size j _ t (0,0) (heap_alloc_new w _)]
 simpa using hj
theorem zZ7 {w w1:World} {p:Nat} {M:Md} {cnt bF bD n:Nat} {DF DD:DataW Value} {dn:Value} {G:List Gd} {zs:List Value} {files':FS}
    (h:DkR w p M cnt bF bD DF DD dn G) (hm:MapR w bF n DF) (hdp:DPost w w1 false bF n DF (entE DF DD) (entC M.files M.dur) zs M.files files') : DskB w1 p bF bD dn M.left/\w1.ownsRow 0 123 2 dn G.length (rowL G)/\w.heap.size<=w1.heap.size:=by
 obtain ⟨D',v,v',c1,c2,c3,c4,c5,c6⟩:=hdp.ex
 obtain ⟨lv,hv⟩ : ∃ l,SlR w v l:=by
  rcases c5 with rfl | ⟨k,rfl⟩
  · exact ⟨[],SlR.nil w⟩
  · exact ⟨_,h.liv.r false k⟩
 obtain ⟨es,c,hobj⟩:=hm.obj
 exact ⟨(c4.cells hv hobj (by decide) h.blk).trans h.blk,zD2 h.row fun k hk=>(by
  obtain ⟨cur,hcur⟩:=zE5 h.row hk
  exact c4.cells hv hobj (by decide) hcur),c4.size⟩
theorem zZ5 {w:World} {p bF bD:Nat} {dn:Value} {left:Int} (h:DskB w p bF bD dn left) (v:Value) : DskB (w.setCell ⟨p,2,none⟩ v) p bF bD v left:=by
 have h' : w.heap[p]? = _:=h
 show _ = _
 rw [heap_setCell_same w p 2 _ 83 _ h']
 rfl
theorem zN1 {w:World} {v:Value} {e n s:Nat} {xs:List Value} (h:w.ownsRow 0 e s v n xs) (hn:0 < n) : ∃ g cap,v = .slice (some ⟨g,0,none⟩) n cap:=by
 rcases h.2 with ⟨rfl,e⟩ | ⟨g,cap,cur,rfl,_⟩
 · omega
 · exact ⟨g,cap,rfl⟩
theorem zT3 {l:Int} (h:-1<=l/\l<=1099511627776) : -1<=zF0 l/\zF0 l<=1099511627776:=by
 unfold zF0; split <;> omega
theorem yF5 (n:Nat) (cs:Array Value) : ∀ (k:Int),∀ u ∈ ([.int .i64 k,.func (.func n) #[] cs] : List Value),u.oneCell' = true:=by
 intro k u hu
 simp at hu
 rcases hu with rfl | rfl <;> rfl
theorem xG1 {w2:World} {p bF bD:Nat} {dn dn2:Value} {left:Int} (hb2:DskB w2 p bF bD dn left) (hne:dn2.ownBlock ≠ some p) {n:Nat} {xs:List Value} (hr:w2.ownsRow 0 123 2 dn2 n xs) (r:Option Nat) {w4:World} (hw:w4 = (if 0 < left then (w2.setCell ⟨p,2,none⟩ dn2).setCell ⟨p,3,none⟩ (.int .i64 (left - 1)) else w2.setCell ⟨p,2,none⟩ dn2)) :
    DskB w4 p bF bD dn2 (zF0 left)/\w4.ownsRow 0 123 2 dn2 n xs/\Tch w2 w4 p r:=by
 have hb3:=zZ5 hb2 dn2
 unfold zF0
 have hk : ∀ (a:World) (j:Nat) (u:Value),∀ k,dn2.ownBlock = some k->(a.setCell ⟨p,j,none⟩ u).heap[k]? = a.heap[k]?:=fun a j u k hk=>Below.heap_setCell a ⟨p,j,none⟩ u k (fun e=>hne (by rw [hk,e]))
 by_cases hl : 0 < left
 · rw [if_pos hl] at hw ⊢
   subst hw
   exact ⟨yL1 hb3 _,zD2 (zD2 hr (hk _ _ _)) (hk _ _ _),(Tch.setp w2 p r 2 dn2).trans (Tch.setp _ p r 3 _)⟩
 · rw [if_neg hl] at hw ⊢
   subst hw
   exact ⟨hb3,zD2 hr (hk _ _ _),Tch.setp w2 p r 2 dn2⟩
theorem kH8 (nm d:List UInt8) (p1 q1:Nat) (p u cnt bF bD:Nat) (M:Md) (DF DD:DataW Value) (dn z:Value) (G:List Gd) (w:World) (h:DkR w p M cnt bF bD DF DD dn G) (hd:zM6 w (.func (.func 31) #[] #[.pointer (some ⟨p1,0,none⟩),.pointer (some ⟨q1,0,none⟩)]) (.ap nm d) z) (hzn:∀ s k g,(entE DF DD s k).ownBlock = some g->z.ownBlock ≠ some g) (hc:cnt + 1<=4398046511104) (hu:u<=1099511627776) (hlen:∀ k,(cOf M.files k).length<=1048576) :
    Calls Tryz.prog 30 #[.pointer (some ⟨p,0,none⟩),.int .i64 (u:Int),.func (.func 31) #[] #[.pointer (some ⟨p1,0,none⟩),.pointer (some ⟨q1,0,none⟩)]] w fun e w'=>e = .returned (.tuple #[])/\∃ DF' dn',DkR w' p ⟨doD (.ap nm d) u M.files,M.dur,M.done ++ [(u,.ap nm d)],zF0 M.left⟩ (cnt + 1) bF bD DF' DD dn' (G ++ [⟨u,.ap nm d,.func (.func 31) #[] #[.pointer (some ⟨p1,0,none⟩),.pointer (some ⟨q1,0,none⟩)],z⟩])/\Fr w w' (Ft p bF bD DF DD dn (G.map (·.z) ++ [z])) (Ft p bF bD DF' DD dn' (G.map (·.z) ++ [z])):=by
 obtain ⟨n,hn,hm⟩:=h.mF
 have hL:=h.liv.keep z hzn
 have hzs : ∀ y ∈ G.map (·.z) ++ [z],∃ l,SlR w y l:=fun y hy=>by
  rcases List.mem_append.1 hy with hy | hy
  · obtain ⟨g,hg,rfl⟩:=List.mem_map.1 hy
    exact (h.deed g hg).z
  · rw [List.mem_singleton.1 hy]; exact hd.z
 have HC : Hid (Calls Tryz.prog 31 #[.map (some bF),.int .i64 (u:Int),.pointer (some ⟨p1,0,none⟩),.pointer (some ⟨q1,0,none⟩)] w fun e w'=>e = .returned (.tuple #[])/\DPost w w' false bF n DF (entE DF DD) (entC M.files M.dur) (G.map (·.z) ++ [z]) M.files (doD (.ap nm d) u M.files)):=by
  obtain ⟨p2,q2,e,a1,a2⟩:=hd
  cases e
  exact zA0 (yV5 hm (by unfold maxLen; omega) (fun _=>rfl) (fun _=>rfl) h.hF hL hzs a1 a2 u hu (hlen nm))
 have c0:=h.blk.c0
 have lp:=h.blk.lt
 have H:=zA0 h
 have HM:=zA0 hm
 have HL:=zA0 hL
 have HD:=zA0 hd
 obtain ⟨i86,hi86,hz0,hz1,hz2⟩:=info_parts Tryz.info86
 have HLN : Hid (G.length + 1<=maxLen/\(G.length + 1) * 16<=140737488355328):=zA0 (by obtain ⟨nD,hnD,_⟩:=h.mD; unfold maxLen; omega)
 clear h hm hL hd hzs hzn
 go_enter Tryz.func30,Tryz.ntmps30
 have hle:=H.out.leb.2
 go_wp2_with (first
  | (go_at_call 31; refine HC.out.mono ?_; rintro e w1 ⟨rfl,hdp⟩; clear c0; obtain ⟨hb1,hr1,hs1⟩:=zZ7 H.out HM.out hdp; have HDP:=zA0 hdp; have HR1:=zA0 hr1; have HB1:=zA0 hb1; have d2:=hb1.c2; have lp1:=hb1.lt; clear hdp hr1 hb1)
  | (at_builtin; refine wpList_append_own_at _ rfl (.tmp 17) (.tmp 21) 81 rfl 0 123 i86 _ 2 16 Tryz.underlying81 hi86 hz0 hz1 hz2 (by rfl) (by omega) dn G.length (rowL G) rfl (zD2 HR1.out (fun k hk=>Below.heap_alloc w1 _ k (by obtain ⟨cur,hc⟩:=zE5 HR1.out hk; exact zA1 hc))) ⟨w1.heap.size,0,none⟩ 1 1 [.int .i64 (u:Int),.func (.func 31) #[] #[.pointer (some ⟨p1,0,none⟩),.pointer (some ⟨q1,0,none⟩)]] rfl rfl (zN8 w1 _ _ 123) (yF5 _ _ _) HLN.out.1 HLN.out.2 (Nat.zero_le _) ?_; intro dn2 w2 hrow2 hgr2 hnil2 hat2; obtain ⟨g2,k2,hdn2⟩:=zN1 hrow2 (Nat.succ_pos _); subst hdn2; clear hnil2; have HB2 : Hid (DskB w2 p bF bD dn M.left):=zA0 ((hgr2.block p (Nat.lt_of_lt_of_le HB1.out.lt (by simp)) (fun e=>H.out.rowNe e.symm)).trans ((Below.heap_alloc w1 _ p HB1.out.lt).trans HB1.out)); have HR2:=zA0 hrow2; have HG2:=zA0 hgr2; have HA2:=zA0 hat2; clear hrow2 hgr2 hat2 d2 lp1; have e2:=HB2.out.c2; have lp2:=HB2.out.lt; have fz2:=HB2.out.fr)
  | (go_at_call 35; refine (zJ2 p bF bD _ M.left _ (zZ5 HB2.out _) hle).mono ?_; rintro e w4 ⟨rfl,hw4⟩; have HW4:=zA0 hw4; clear hw4))
 go_end0
 have hne2 : (Value.slice (some ⟨g2,0,none⟩) (G.length + 1) k2).ownBlock ≠ some p:=by
  rcases HA2.out with e | e
  · rw [e]; exact H.out.rowNe
  · rw [e]; intro e3; have:=HB1.out.lt; simp at e3; omega
 obtain ⟨f1,f2,f3⟩:=xG1 HB2.out hne2 HR2.out dn.ownBlock HW4.out
 refine ⟨rfl,?_⟩
 have ht : Tch w1 w4 p dn.ownBlock:=((Tch.of_below (zB5 w1 _)).trans (Tch.of_grown HG2.out)).trans f3
 obtain ⟨DF',g1,g3⟩:=yQ4 (u:=u) H.out hn HM.out HL.out HDP.out HD.out ht f1 (by rw [zP7]; exact f2) (by
  rcases HA2.out with e | e
  · exact .inl e
  · exact .inr ⟨_,e,by simp; omega⟩) (zT3 H.out.leb) hc
 exact ⟨DF',_,g1,g3⟩
theorem kH7 (nm d:List UInt8) (p1 q1:Nat) (p u cnt bF bD:Nat) (M:Md) (DF DD:DataW Value) (dn z:Value) (G:List Gd) (w:World) (h:DkR w p M cnt bF bD DF DD dn G) (hd:zM6 w (.func (.func 98) #[] #[.pointer (some ⟨q1,0,none⟩),.pointer (some ⟨p1,0,none⟩)]) (.pt nm d) z) (hzn:∀ s k g,(entE DF DD s k).ownBlock = some g->z.ownBlock ≠ some g) (hc:cnt + 1<=4398046511104) :
    Calls Tryz.prog 30 #[.pointer (some ⟨p,0,none⟩),.int .i64 (u:Int),.func (.func 98) #[] #[.pointer (some ⟨q1,0,none⟩),.pointer (some ⟨p1,0,none⟩)]] w fun e w'=>e = .returned (.tuple #[])/\∃ DF' dn',DkR w' p ⟨doD (.pt nm d) u M.files,M.dur,M.done ++ [(u,.pt nm d)],zF0 M.left⟩ (cnt + 1) bF bD DF' DD dn' (G ++ [⟨u,.pt nm d,.func (.func 98) #[] #[.pointer (some ⟨q1,0,none⟩),.pointer (some ⟨p1,0,none⟩)],z⟩])/\Fr w w' (Ft p bF bD DF DD dn (G.map (·.z) ++ [z])) (Ft p bF bD DF' DD dn' (G.map (·.z) ++ [z])):=by
 obtain ⟨n,hn,hm⟩:=h.mF
 have hL:=h.liv.keep z hzn
 have HC : Hid (Calls Tryz.prog 98 #[.map (some bF),.int .i64 (u:Int),.pointer (some ⟨q1,0,none⟩),.pointer (some ⟨p1,0,none⟩)] w fun e w'=>e = .returned (.tuple #[])/\DPost w w' false bF n DF (entE DF DD) (entC M.files M.dur) (G.map (·.z) ++ [z]) M.files (doD (.pt nm d) u M.files)):=by
  obtain ⟨p2,q2,e,a1,a2⟩:=hd
  cases e
  exact zA0 (yS9 hm (by unfold maxLen; omega) (fun _=>rfl) (fun _=>rfl) h.hF hL (by simp) a1 a2 u)
 have c0:=h.blk.c0
 have lp:=h.blk.lt
 have H:=zA0 h
 have HM:=zA0 hm
 have HL:=zA0 hL
 have HD:=zA0 hd
 obtain ⟨i86,hi86,hz0,hz1,hz2⟩:=info_parts Tryz.info86
 have HLN : Hid (G.length + 1<=maxLen/\(G.length + 1) * 16<=140737488355328):=zA0 (by obtain ⟨nD,hnD,_⟩:=h.mD; unfold maxLen; omega)
 clear h hm hL hd hzn
 go_enter Tryz.func30,Tryz.ntmps30
 have hle:=H.out.leb.2
 go_wp2_with (first
  | (go_at_call 98; refine HC.out.mono ?_; rintro e w1 ⟨rfl,hdp⟩; clear c0; obtain ⟨hb1,hr1,hs1⟩:=zZ7 H.out HM.out hdp; have HDP:=zA0 hdp; have HR1:=zA0 hr1; have HB1:=zA0 hb1; have d2:=hb1.c2; have lp1:=hb1.lt; clear hdp hr1 hb1)
  | (at_builtin; refine wpList_append_own_at _ rfl (.tmp 17) (.tmp 21) 81 rfl 0 123 i86 _ 2 16 Tryz.underlying81 hi86 hz0 hz1 hz2 (by rfl) (by omega) dn G.length (rowL G) rfl (zD2 HR1.out (fun k hk=>Below.heap_alloc w1 _ k (by obtain ⟨cur,hc⟩:=zE5 HR1.out hk; exact zA1 hc))) ⟨w1.heap.size,0,none⟩ 1 1 [.int .i64 (u:Int),.func (.func 98) #[] #[.pointer (some ⟨q1,0,none⟩),.pointer (some ⟨p1,0,none⟩)]] rfl rfl (zN8 w1 _ _ 123) (yF5 _ _ _) HLN.out.1 HLN.out.2 (Nat.zero_le _) ?_; intro dn2 w2 hrow2 hgr2 hnil2 hat2; obtain ⟨g2,k2,hdn2⟩:=zN1 hrow2 (Nat.succ_pos _); subst hdn2; clear hnil2; have HB2 : Hid (DskB w2 p bF bD dn M.left):=zA0 ((hgr2.block p (Nat.lt_of_lt_of_le HB1.out.lt (by simp)) (fun e=>H.out.rowNe e.symm)).trans ((Below.heap_alloc w1 _ p HB1.out.lt).trans HB1.out)); have HR2:=zA0 hrow2; have HG2:=zA0 hgr2; have HA2:=zA0 hat2; clear hrow2 hgr2 hat2 d2 lp1; have e2:=HB2.out.c2; have lp2:=HB2.out.lt; have fz2:=HB2.out.fr)
  | (go_at_call 35; refine (zJ2 p bF bD _ M.left _ (zZ5 HB2.out _) hle).mono ?_; rintro e w4 ⟨rfl,hw4⟩; have HW4:=zA0 hw4; clear hw4))
 go_end0
 have hne2 : (Value.slice (some ⟨g2,0,none⟩) (G.length + 1) k2).ownBlock ≠ some p:=by
  rcases HA2.out with e | e
  · rw [e]; exact H.out.rowNe
  · rw [e]; intro e3; have:=HB1.out.lt; simp at e3; omega
 obtain ⟨f1,f2,f3⟩:=xG1 HB2.out hne2 HR2.out dn.ownBlock HW4.out
 refine ⟨rfl,?_⟩
 have ht : Tch w1 w4 p dn.ownBlock:=((Tch.of_below (zB5 w1 _)).trans (Tch.of_grown HG2.out)).trans f3
 obtain ⟨DF',g1,g3⟩:=yQ4 (u:=u) H.out hn HM.out HL.out HDP.out HD.out ht f1 (by rw [zP7]; exact f2) (by
  rcases HA2.out with e | e
  · exact .inl e
  · exact .inr ⟨_,e,by simp; omega⟩) (zT3 H.out.leb) hc
 exact ⟨DF',_,g1,g3⟩
theorem kH6 (na nb:List UInt8) (p1 q1:Nat) (p u cnt bF bD:Nat) (M:Md) (DF DD:DataW Value) (dn z:Value) (G:List Gd) (w:World) (h:DkR w p M cnt bF bD DF DD dn G) (hd:zM6 w (.func (.func 99) #[] #[.pointer (some ⟨p1,0,none⟩),.pointer (some ⟨q1,0,none⟩)]) (.rn na nb) z) (hzn:∀ s k g,(entE DF DD s k).ownBlock = some g->z.ownBlock ≠ some g) (hc:cnt + 1<=4398046511104) :
    Calls Tryz.prog 30 #[.pointer (some ⟨p,0,none⟩),.int .i64 (u:Int),.func (.func 99) #[] #[.pointer (some ⟨p1,0,none⟩),.pointer (some ⟨q1,0,none⟩)]] w fun e w'=>e = .returned (.tuple #[])/\∃ DF' dn',DkR w' p ⟨doD (.rn na nb) u M.files,M.dur,M.done ++ [(u,.rn na nb)],zF0 M.left⟩ (cnt + 1) bF bD DF' DD dn' (G ++ [⟨u,.rn na nb,.func (.func 99) #[] #[.pointer (some ⟨p1,0,none⟩),.pointer (some ⟨q1,0,none⟩)],z⟩])/\Fr w w' (Ft p bF bD DF DD dn (G.map (·.z) ++ [z])) (Ft p bF bD DF' DD dn' (G.map (·.z) ++ [z])):=by
 obtain ⟨n,hn,hm⟩:=h.mF
 have hL:=h.liv.keep z hzn
 have HC : Hid (Calls Tryz.prog 99 #[.map (some bF),.int .i64 (u:Int),.pointer (some ⟨p1,0,none⟩),.pointer (some ⟨q1,0,none⟩)] w fun e w'=>e = .returned (.tuple #[])/\DPost w w' false bF n DF (entE DF DD) (entC M.files M.dur) (G.map (·.z) ++ [z]) M.files (doD (.rn na nb) u M.files)):=by
  obtain ⟨p2,q2,e,a1,a2,_⟩:=hd
  cases e
  exact zA0 (yS6 hm (by unfold maxLen; omega) (fun _=>rfl) (fun _=>rfl) h.hF hL a1 a2 u)
 have c0:=h.blk.c0
 have lp:=h.blk.lt
 have H:=zA0 h
 have HM:=zA0 hm
 have HL:=zA0 hL
 have HD:=zA0 hd
 obtain ⟨i86,hi86,hz0,hz1,hz2⟩:=info_parts Tryz.info86
 have HLN : Hid (G.length + 1<=maxLen/\(G.length + 1) * 16<=140737488355328):=zA0 (by obtain ⟨nD,hnD,_⟩:=h.mD; unfold maxLen; omega)
 clear h hm hL hd hzn
 go_enter Tryz.func30,Tryz.ntmps30
 have hle:=H.out.leb.2
 go_wp2_with (first
  | (go_at_call 99; refine HC.out.mono ?_; rintro e w1 ⟨rfl,hdp⟩; clear c0; obtain ⟨hb1,hr1,hs1⟩:=zZ7 H.out HM.out hdp; have HDP:=zA0 hdp; have HR1:=zA0 hr1; have HB1:=zA0 hb1; have d2:=hb1.c2; have lp1:=hb1.lt; clear hdp hr1 hb1)
  | (at_builtin; refine wpList_append_own_at _ rfl (.tmp 17) (.tmp 21) 81 rfl 0 123 i86 _ 2 16 Tryz.underlying81 hi86 hz0 hz1 hz2 (by rfl) (by omega) dn G.length (rowL G) rfl (zD2 HR1.out (fun k hk=>Below.heap_alloc w1 _ k (by obtain ⟨cur,hc⟩:=zE5 HR1.out hk; exact zA1 hc))) ⟨w1.heap.size,0,none⟩ 1 1 [.int .i64 (u:Int),.func (.func 99) #[] #[.pointer (some ⟨p1,0,none⟩),.pointer (some ⟨q1,0,none⟩)]] rfl rfl (zN8 w1 _ _ 123) (yF5 _ _ _) HLN.out.1 HLN.out.2 (Nat.zero_le _) ?_; intro dn2 w2 hrow2 hgr2 hnil2 hat2; obtain ⟨g2,k2,hdn2⟩:=zN1 hrow2 (Nat.succ_pos _); subst hdn2; clear hnil2; have HB2 : Hid (DskB w2 p bF bD dn M.left):=zA0 ((hgr2.block p (Nat.lt_of_lt_of_le HB1.out.lt (by simp)) (fun e=>H.out.rowNe e.symm)).trans ((Below.heap_alloc w1 _ p HB1.out.lt).trans HB1.out)); have HR2:=zA0 hrow2; have HG2:=zA0 hgr2; have HA2:=zA0 hat2; clear hrow2 hgr2 hat2 d2 lp1; have e2:=HB2.out.c2; have lp2:=HB2.out.lt; have fz2:=HB2.out.fr)
  | (go_at_call 35; refine (zJ2 p bF bD _ M.left _ (zZ5 HB2.out _) hle).mono ?_; rintro e w4 ⟨rfl,hw4⟩; have HW4:=zA0 hw4; clear hw4))
 go_end0
 have hne2 : (Value.slice (some ⟨g2,0,none⟩) (G.length + 1) k2).ownBlock ≠ some p:=by
  rcases HA2.out with e | e
  · rw [e]; exact H.out.rowNe
  · rw [e]; intro e3; have:=HB1.out.lt; simp at e3; omega
 obtain ⟨f1,f2,f3⟩:=xG1 HB2.out hne2 HR2.out dn.ownBlock HW4.out
 refine ⟨rfl,?_⟩
 have ht : Tch w1 w4 p dn.ownBlock:=((Tch.of_below (zB5 w1 _)).trans (Tch.of_grown HG2.out)).trans f3
 obtain ⟨DF',g1,g3⟩:=yQ4 (u:=u) H.out hn HM.out HL.out HDP.out HD.out ht f1 (by rw [zP7]; exact f2) (by
  rcases HA2.out with e | e
  · exact .inl e
  · exact .inr ⟨_,e,by simp; omega⟩) (zT3 H.out.leb) hc
 exact ⟨DF',_,g1,g3⟩
end
end Go.Proofs.YtocoimjhglackaaGreat
