/- Vopb, Vopd -/
import Derived.Test.YtocoimjhglackaaGreatK42
set_option maxHeartbeats 8000000
set_option maxRecDepth 100000
namespace Go.Proofs.YtocoimjhglackaaGreat
section
open Go.ChangeShapes Go.WideShapes Go.ChangeAt Go.RowKit
section Sc1
variable {H:Type} {enc:TypeId × Value->H} {w:World}
theorem ll4 {α:Type} (l:List α) (h:l.length = 4) : ∃ y0 y1 y2 y3,l = [y0,y1,y2,y3]:=by
 match l,h with
 | [y0,y1,y2,y3],_=>exact ⟨_,_,_,_,rfl⟩
theorem kA3 {fuel:Nat} {cs:List Value} {x:DataW H × List MemPlace} (hb:Rows.uptoBulk x.1<=1048576) (h:DataW.trod enc Tryz.prog w 0 SP true fuel 22 cs = some x) : ∃ v,Rep w (fun b=>b < w.heap.size) .byt cs v/\szb .byt v<=6 * Rows.uptoBulk x.1:=by
 rcases open_ints Tryz.underlying22 Tryz.underlying5 Tryz.cells5 h with ⟨hcs,_⟩ | ⟨y,len,cap,zs,hcs,_,hl,hm,hz,hx,hcell,hwz⟩
 · have:=yV3 x.1
   subst hcs
   exact ⟨[],⟨none,0,rfl,Nat.le_refl _,⟨by simp,fun h=>absurd rfl h⟩,fun h=>absurd rfl h⟩,by show 6 + 0<=_; omega⟩
 · subst hcs
   simp only [SP,if_true] at hz
   have hbk : len + 1<=Rows.uptoBulk x.1:=by
    have hx1 : x.1 = _:=congrArg Prod.fst hx
    rw [hx1]
    simp only [Rows.uptoBulk]
    have h2:=yC5 (lits (H:=H) .u8 (zs.take len))
    simp only [lits,List.length_map,List.length_take] at h2 ⊢
    omega
   have hlen : (zG9 (zs.take len)).length = len:=by simp [zG9]; omega
   refine ⟨zG9 (zs.take len),⟨some y,cap,by rw [hlen],by rw [hlen]; exact hl,⟨by rw [hlen]; omega,fun hne=>?_⟩,fun hne z hz2=>?_⟩,by show 6 + (zG9 (zs.take len)).length<=_; rw [hlen]; omega⟩
   · have hpos : 0 < len:=by rw [<- hlen]; exact List.length_pos_iff.2 hne
     obtain ⟨b,off,spot⟩:=y
     have hc0:=hcell 0 (by omega)
     have hspot : spot = none:=by simpa [Addr.add] using World.cell?_spot hc0
     subst hspot
     refine ⟨b,off,rfl,World.block_lt_of_cell? w _ (by simpa [Addr.add] using hc0),fun j hj=>?_⟩
     have hj2 : j < len:=by rw [hlen] at hj; exact hj
     rw [yA2 zs hwz len j hj2 (by omega),<- hcell j (by omega),Addr.add_lit]
   · have hpos : 0 < len:=by rw [<- hlen]; exact List.length_pos_iff.2 hne
     cases hz2
     have hc0:=hcell 0 (by omega)
     have:=World.block_lt_of_cell? w _ hc0
     have e : (y.add 0).block = y.block:=by unfold Addr.add; split <;> rfl
     rw [e] at this
     exact this
theorem yM7 {fuel:Nat} {cs:List Value} {x:DataW H × List MemPlace} (hb:Rows.uptoBulk x.1<=1048576) (h:DataW.trod enc Tryz.prog w 0 SP true fuel 36 cs = some x) : ∃ v,Rep w (fun b=>b < w.heap.size) zA2 cs v/\szb zA2 v<=6 * Rows.uptoBulk x.1:=by
 obtain ⟨xs,n,rfl,rfl,hl,hlen,hf⟩:=DataW.trod_struct Tryz.underlying36 h
 rw [show Tryz.prog.cellsOf 36 = 5 from by kernel_rfl] at hl
 obtain ⟨z0,z1,z2,z3,rfl⟩:=ll4 xs hlen
 obtain ⟨zl,hzl⟩ : ∃ zl,zl = ([z0,z1,z2,z3].map (·.1)):=⟨_,rfl⟩
 simp only [Rows.uptoBulk] at hb
 rw [<- hzl] at hb
 have g0 : DataW.trod enc Tryz.prog w 0 SP true n 3 ((cs.drop 0).take (Tryz.prog.cellsOf 3)) = some z0:=hf 0 _ rfl
 rw [show Tryz.prog.cellsOf 3 = 1 from by kernel_rfl] at g0
 obtain ⟨v0,r0,b0⟩:=zD1 (S:=fun b=>b < w.heap.size) (by kernel_rfl) g0
 have g1 : DataW.trod enc Tryz.prog w 0 SP true n 3 ((cs.drop 1).take (Tryz.prog.cellsOf 3)) = some z1:=hf 1 _ rfl
 rw [show Tryz.prog.cellsOf 3 = 1 from by kernel_rfl] at g1
 obtain ⟨v1,r1,b1⟩:=zD1 (S:=fun b=>b < w.heap.size) (by kernel_rfl) g1
 have g2 : DataW.trod enc Tryz.prog w 0 SP true n 34 ((cs.drop 2).take (Tryz.prog.cellsOf 34)) = some z2:=hf 2 _ rfl
 rw [show Tryz.prog.cellsOf 34 = 2 from by kernel_rfl] at g2
 obtain ⟨v2,r2,b2⟩:=yZ7 g2
 have g3 : DataW.trod enc Tryz.prog w 0 SP true n 22 ((cs.drop 4).take (Tryz.prog.cellsOf 22)) = some z3:=hf 3 _ rfl
 rw [show Tryz.prog.cellsOf 22 = 1 from by kernel_rfl] at g3
 have hb3 : Rows.uptoBulk z3.1<=1048576:=by have:=zS3 (d:=z3.1) (l:=zl) (by simp [hzl]); omega
 obtain ⟨v3,r3,b3⟩:=kA3 hb3 g3
 refine ⟨(v0,v1,v2,v3),?_,?_⟩
 rotate_left
 · rw [zU2]
   simp only [List.map,Rows.uptoBulk,Rows.uptoBulkAll]
   have q0:=b0; rw [show szb .num v0 = 6 from rfl] at q0
   have q1:=b1; rw [show szb .num v1 = 6 from rfl] at q1
   omega
 rw [List.take_of_length_le (by rw [List.length_drop,hl]; omega)] at r3
 refine zB8 1 ?z0 (zB8 1 ?z1 (zB8 2 ?z2 ?z3))
 case z0=>simpa only [List.drop_drop,List.drop_zero,Nat.reduceAdd] using r0
 case z1=>simpa only [List.drop_drop,List.drop_zero,Nat.reduceAdd] using r1
 case z2=>simpa only [List.drop_drop,List.drop_zero,Nat.reduceAdd] using r2
 case z3=>simpa only [List.drop_drop,List.drop_zero,Nat.reduceAdd] using r3
end Sc1
end
section
open Go.ChangeShapes Go.WideShapes Go.ChangeAt Go.RowKit
abbrev zK6 : Fm:=.cat .tru (.cat .tru (.cat .tru (.cat .tru (.cat .num (.cat .num (.cat (.cat .num .num) (.cat (.lst zA8) zA2)))))))
structure OkX (v:Vl zK6) : Prop where
 len : v.2.2.2.2.2.2.2.1.length<=1048576
 es : ∀ y ∈ v.2.2.2.2.2.2.2.1,szb zA8 y<=137438953472
 sn : szb zA2 v.2.2.2.2.2.2.2.2<=137438953472
section Sc1
variable {H:Type} {enc:TypeId × Value->H} {w:World}
theorem xT7 {α:Type} (m:α->Nat) (vs:List α) (y:α) (h:y ∈ vs) : m y<=(vs.map m).sum:=by
 induction vs with
 | nil=>cases h
 | cons a r ih =>
  simp only [List.map_cons,List.sum_cons]
  rcases List.mem_cons.1 h with e | e
  · subst e; omega
  · have:=ih e; omega
theorem xI6 {α:Type} (m:α->Nat) (vs:List α) (h:∀ y,6<=m y) : 6 * vs.length<=(vs.map m).sum:=by
 induction vs with
 | nil=>simp
 | cons a r ih=>simp only [List.map_cons,List.sum_cons,List.length_cons]; have:=h a; omega
theorem yW0 (y:Vl zA8) : 6<=szb zA8 y:=by show 6<=6 + _; omega
theorem ll9 {α:Type} (l:List α) (h:l.length = 9) : ∃ y0 y1 y2 y3 y4 y5 y6 y7 y8,l = [y0,y1,y2,y3,y4,y5,y6,y7,y8]:=by
 match l,h with
 | [y0,y1,y2,y3,y4,y5,y6,y7,y8],_=>exact ⟨_,_,_,_,_,_,_,_,_,rfl⟩
theorem xS9 {fuel:Nat} {cs:List Value} {x:DataW H × List MemPlace} (h:DataW.trod enc Tryz.prog w 0 SP true fuel 31 cs = some x) : ∃ v,Rep w (fun b=>b < w.heap.size) (.cat .num .num) cs v:=by
 obtain ⟨xs,n,rfl,rfl,hl,hlen,hf⟩:=DataW.trod_struct Tryz.underlying31 h
 rw [show Tryz.prog.cellsOf 31 = 2 from by kernel_rfl] at hl
 obtain ⟨z0,z1,rfl⟩:=ll2 xs hlen
 have g0 : DataW.trod enc Tryz.prog w 0 SP true n 3 ((cs.drop 0).take (Tryz.prog.cellsOf 3)) = some z0:=hf 0 _ rfl
 rw [show Tryz.prog.cellsOf 3 = 1 from by kernel_rfl] at g0
 obtain ⟨v0,r0,_⟩:=zD1 (S:=fun b=>b < w.heap.size) (by kernel_rfl) g0
 have g1 : DataW.trod enc Tryz.prog w 0 SP true n 3 ((cs.drop 1).take (Tryz.prog.cellsOf 3)) = some z1:=hf 1 _ rfl
 rw [show Tryz.prog.cellsOf 3 = 1 from by kernel_rfl] at g1
 obtain ⟨v1,r1,_⟩:=zD1 (S:=fun b=>b < w.heap.size) (by kernel_rfl) g1
 rw [List.take_of_length_le (by rw [List.length_drop,hl]; omega)] at r1
 exact ⟨(v0,v1),zB8 1 (by simpa using r0) (by simpa using r1)⟩
theorem xS8 {t e:TypeId} {f:Fm} {P:Vl f->Prop} {fuel:Nat} {cs:List Value} {x:DataW H × List MemPlace} (ht:Tryz.prog.underlying t = some (.slice e)) (hc:Tryz.prog.cellsOf e = wd f) (hp:0 < wd f)
    (ih:∀ (fuel:Nat) (cs:List Value) (x:DataW H × List MemPlace),Rows.uptoBulk x.1<=1048576->DataW.trod enc Tryz.prog w 0 SP true fuel e cs = some x->∃ v,Rep w (fun b=>b < w.heap.size) f cs v/\P v)
    (hb:Rows.uptoBulk x.1<=1048576) (h:DataW.trod enc Tryz.prog w 0 SP true fuel t cs = some x) : ∃ vs,Rep w (fun b=>b < w.heap.size) (.lst f) cs vs/\∀ i (hi:i < vs.length),P vs[i]:=by
 rcases DataW.trod_slice ht h with ⟨rfl,rfl⟩ | ⟨a,len,cap,elems,rest,n,rfl,rfl,rfl,_,hlc,hcm,hel,hE,_,_⟩
 · exact ⟨[],⟨none,0,rfl,by simp,fun h=>absurd rfl h⟩,fun i hi=>by simp at hi⟩
 · rw [hc] at hE
   simp only [Rows.uptoBulk] at hb
   have hQ : ∀ i,i < len->∃ v : Vl f,∃ es,Rep w (fun b=>b < w.heap.size) f es v/\(∀ j,j < wd f->w.cell? ((a.add (i * wd f)).add j) = es[j]?)/\P v:=by
    intro i hi
    have hEi:=hE i hi
    rw [List.getElem?_eq_getElem (by omega)] at hEi
    obtain ⟨es,he,ht2⟩:=Option.bind_eq_some_iff.1 hEi
    have hm:=zS3 (d:=elems[i].1) (l:=elems.map (·.1)) (List.mem_map_of_mem (List.getElem_mem (by omega)))
    obtain ⟨v,hv,hs⟩:=ih _ _ _ (by omega) ht2
    obtain ⟨_,_,hcell⟩:=World.cells?_some he
    exact ⟨v,es,hv,hcell,hs⟩
   obtain ⟨vs,hvl,hvs⟩:=zU7 len _ hQ
   subst hvl
   refine ⟨vs,⟨some a,cap,rfl,by unfold maxLen at hcm; omega,fun hne=>?_⟩,fun i hi=>?_⟩
   · have h0 : 0 < vs.length:=List.length_pos_iff.2 hne
     obtain ⟨b,off,spot⟩:=a
     obtain ⟨es0,hr0,hc0,_⟩:=hvs 0 h0
     have hc00:=hc0 0 hp
     rw [List.getElem?_eq_getElem (by rw [hr0.len]; exact hp)] at hc00
     have hspot : spot = none:=by simpa [Addr.add] using World.cell?_spot hc00
     subst hspot
     refine ⟨b,off,rfl,World.block_lt_of_cell? w _ (by simpa [Addr.add] using hc00),fun i hi=>?_⟩
     obtain ⟨es,hr,hcs,_⟩:=hvs i hi
     refine ⟨es,hr,fun j u hu=>?_⟩
     have hj : j < wd f:=by rw [<- hr.len]; exact (List.getElem?_eq_some_iff.1 hu).1
     have:=hcs j hj
     rw [hu,Addr.add_mid,Addr.add_mid] at this
     exact this
   · obtain ⟨_,_,_,hP⟩:=hvs i hi
     exact hP
theorem xT0 {fuel:Nat} {cs:List Value} {x:DataW H × List MemPlace} (hb:Rows.uptoBulk x.1<=1048576) (h:DataW.trod enc Tryz.prog w 0 SP true fuel 54 cs = some x) : ∃ v,Rep w (fun b=>b < w.heap.size) zK6 cs v/\OkX v:=by
 obtain ⟨xs,n,rfl,rfl,hl,hlen,hf⟩:=DataW.trod_struct Tryz.underlying54 h
 rw [show Tryz.prog.cellsOf 54 = 14 from by kernel_rfl] at hl
 obtain ⟨z0,z1,z2,z3,z4,z5,z6,z7,z8,rfl⟩:=ll9 xs hlen
 obtain ⟨zl,hzl⟩ : ∃ zl,zl = ([z0,z1,z2,z3,z4,z5,z6,z7,z8].map (·.1)):=⟨_,rfl⟩
 simp only [Rows.uptoBulk] at hb
 rw [<- hzl] at hb
 have g0 : DataW.trod enc Tryz.prog w 0 SP true n 4 ((cs.drop 0).take (Tryz.prog.cellsOf 4)) = some z0:=hf 0 _ rfl
 rw [show Tryz.prog.cellsOf 4 = 1 from by kernel_rfl] at g0
 obtain ⟨v0,r0,_⟩:=zQ6 (S:=fun b=>b < w.heap.size) (by kernel_rfl) g0
 have g1 : DataW.trod enc Tryz.prog w 0 SP true n 4 ((cs.drop 1).take (Tryz.prog.cellsOf 4)) = some z1:=hf 1 _ rfl
 rw [show Tryz.prog.cellsOf 4 = 1 from by kernel_rfl] at g1
 obtain ⟨v1,r1,_⟩:=zQ6 (S:=fun b=>b < w.heap.size) (by kernel_rfl) g1
 have g2 : DataW.trod enc Tryz.prog w 0 SP true n 4 ((cs.drop 2).take (Tryz.prog.cellsOf 4)) = some z2:=hf 2 _ rfl
 rw [show Tryz.prog.cellsOf 4 = 1 from by kernel_rfl] at g2
 obtain ⟨v2,r2,_⟩:=zQ6 (S:=fun b=>b < w.heap.size) (by kernel_rfl) g2
 have g3 : DataW.trod enc Tryz.prog w 0 SP true n 4 ((cs.drop 3).take (Tryz.prog.cellsOf 4)) = some z3:=hf 3 _ rfl
 rw [show Tryz.prog.cellsOf 4 = 1 from by kernel_rfl] at g3
 obtain ⟨v3,r3,_⟩:=zQ6 (S:=fun b=>b < w.heap.size) (by kernel_rfl) g3
 have g4 : DataW.trod enc Tryz.prog w 0 SP true n 3 ((cs.drop 4).take (Tryz.prog.cellsOf 3)) = some z4:=hf 4 _ rfl
 rw [show Tryz.prog.cellsOf 3 = 1 from by kernel_rfl] at g4
 obtain ⟨v4,r4,_⟩:=zD1 (S:=fun b=>b < w.heap.size) (by kernel_rfl) g4
 have g5 : DataW.trod enc Tryz.prog w 0 SP true n 3 ((cs.drop 5).take (Tryz.prog.cellsOf 3)) = some z5:=hf 5 _ rfl
 rw [show Tryz.prog.cellsOf 3 = 1 from by kernel_rfl] at g5
 obtain ⟨v5,r5,_⟩:=zD1 (S:=fun b=>b < w.heap.size) (by kernel_rfl) g5
 have g6 : DataW.trod enc Tryz.prog w 0 SP true n 31 ((cs.drop 6).take (Tryz.prog.cellsOf 31)) = some z6:=hf 6 _ rfl
 rw [show Tryz.prog.cellsOf 31 = 2 from by kernel_rfl] at g6
 obtain ⟨v6,r6⟩:=xS9 g6
 have g7 : DataW.trod enc Tryz.prog w 0 SP true n 37 ((cs.drop 8).take (Tryz.prog.cellsOf 37)) = some z7:=hf 7 _ rfl
 rw [show Tryz.prog.cellsOf 37 = 1 from by kernel_rfl] at g7
 have hb7 : Rows.uptoBulk z7.1<=1048576:=by have:=zS3 (d:=z7.1) (l:=zl) (by simp [hzl]); omega
 obtain ⟨v7,r7,b7⟩:=zX4 (e:=73) (f:=zA8) (by kernel_rfl) (by kernel_rfl) (by decide) (fun _ _ _ h=>xI1 h) g7
 have g8 : DataW.trod enc Tryz.prog w 0 SP true n 36 ((cs.drop 9).take (Tryz.prog.cellsOf 36)) = some z8:=hf 8 _ rfl
 rw [show Tryz.prog.cellsOf 36 = 5 from by kernel_rfl] at g8
 have hb8 : Rows.uptoBulk z8.1<=1048576:=by have:=zS3 (d:=z8.1) (l:=zl) (by simp [hzl]); omega
 obtain ⟨v8,r8,b8⟩:=yM7 hb8 g8
 have b7' : 6 + (v7.map fun v=>szb zA8 v).sum<=6 * Rows.uptoBulk z7.1:=b7
 refine ⟨(v0,v1,v2,v3,v4,v5,v6,v7,v8),?_,⟨?_,?_,?_⟩⟩
 rotate_left
 · have:=xI6 (fun v=>szb zA8 v) v7 yW0
   show v7.length<=_
   omega
 · intro y hy
   have:=xT7 (fun v=>szb zA8 v) v7 y hy
   have h2 : szb zA8 y<=(v7.map fun v=>szb zA8 v).sum:=this
   omega
 · show szb zA2 v8<=_
   omega
 rw [List.take_of_length_le (by rw [List.length_drop,hl]; omega)] at r8
 refine zB8 1 ?z0 (zB8 1 ?z1 (zB8 1 ?z2 (zB8 1 ?z3 (zB8 1 ?z4 (zB8 1 ?z5 (zB8 2 ?z6 (zB8 1 ?z7 ?z8)))))))
 case z0=>simpa only [List.drop_drop,List.drop_zero,Nat.reduceAdd] using r0
 case z1=>simpa only [List.drop_drop,List.drop_zero,Nat.reduceAdd] using r1
 case z2=>simpa only [List.drop_drop,List.drop_zero,Nat.reduceAdd] using r2
 case z3=>simpa only [List.drop_drop,List.drop_zero,Nat.reduceAdd] using r3
 case z4=>simpa only [List.drop_drop,List.drop_zero,Nat.reduceAdd] using r4
 case z5=>simpa only [List.drop_drop,List.drop_zero,Nat.reduceAdd] using r5
 case z6=>simpa only [List.drop_drop,List.drop_zero,Nat.reduceAdd] using r6
 case z7=>simpa only [List.drop_drop,List.drop_zero,Nat.reduceAdd] using r7
 case z8=>simpa only [List.drop_drop,List.drop_zero,Nat.reduceAdd] using r8
theorem yX0 {a:Option Addr} {len cap:Nat} {d:DataW H} {p:List MemPlace} (h:DataW.Trod enc Tryz.prog w 0 (fun _=>true) true 50 (.slice a len cap) d p) (hb:Rows.uptoBulk d<=1048576) :
    ∃ vs : List (Vl zK6),len = vs.length/\vs.length<=1048576/\RepL w (fun b=>b < w.heap.size) zK6 a vs/\∀ i (hi:i < vs.length),OkX vs[i]:=by
 obtain ⟨fuel,hf⟩:=h
 obtain ⟨vs,⟨a',cap',e,h1,h2⟩,h3⟩:=xS8 (t:=50) (e:=54) (f:=zK6) (P:=OkX) (by kernel_rfl) (by kernel_rfl) (by decide) (fun _ _ _ hb h=>xT0 hb h) hb hf
 have hlen : len<=1048576:=by
  rcases DataW.trod_slice (t:=50) (e:=54) (by kernel_rfl) hf with ⟨e1,_⟩ | ⟨a1,len1,cap1,elems,rest,n,_,e1,hx,_,hlc,hcm,hel,hE,_,_⟩
  · simp [Value.cells] at e1; omega
  · simp [Value.cells] at e1
    obtain ⟨_,rfl,_⟩:=e1
    have hx1 : d = _:=congrArg Prod.fst hx
    rw [hx1] at hb
    simp only [Rows.uptoBulk] at hb
    have:=yC5 (elems.map (·.1))
    simp only [List.length_map] at this
    omega
 simp [Value.cells] at e
 obtain ⟨rfl,rfl,rfl⟩:=e
 exact ⟨vs,rfl,hlen,⟨h1,h2⟩,h3⟩
end Sc1
end
end Go.Proofs.YtocoimjhglackaaGreat
