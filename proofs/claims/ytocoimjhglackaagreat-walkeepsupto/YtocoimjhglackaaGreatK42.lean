/- Vopu -/
import Derived.Test.YtocoimjhglackaaGreatK34
import Derived.Test.YtocoimjhglackaaGreatK41
import Derived.Test.YtocoimjhglackaaGreatRows
set_option maxHeartbeats 8000000
set_option maxRecDepth 100000
namespace Go.Proofs.YtocoimjhglackaaGreat
section
open Go.ChangeShapes Go.WideShapes Go.ChangeAt Go.RowKit
theorem yV3 {H:Type} (d:DataW H) : 0 < Rows.uptoBulk d:=by
 cases d with
 | lit l=>cases l <;> simp [Rows.uptoBulk]
 | _=>simp [Rows.uptoBulk]
theorem yC5 {H:Type} (l:List (DataW H)) : l.length<=Rows.uptoBulkAll l:=by
 induction l with
 | nil=>simp
 | cons x r ih=>have:=yV3 x; simp only [Rows.uptoBulkAll,List.length_cons]; omega
theorem zS3 {H:Type} {d:DataW H} {l:List (DataW H)} (h:d ∈ l) : Rows.uptoBulk d<=Rows.uptoBulkAll l:=by
 induction l with
 | nil=>cases h
 | cons x r ih =>
  simp only [Rows.uptoBulkAll]
  rcases List.mem_cons.1 h with e | e
  · subst e; omega
  · have:=ih e; omega
theorem xT1 {H:Type} {l:List (DataW H)} (hk:Rows.uptoSmall H l = true) : Rows.uptoBulkAll l<=1048576:=by
 unfold Rows.uptoSmall at hk
 exact of_decide_eq_true hk
theorem xI7 {H α:Type} (m:α->Nat) (vs:List α) (ds:List (DataW H)) (hl:vs.length = ds.length) (h:∀ i (h1:i < vs.length) (h2:i < ds.length),m vs[i]<=6 * Rows.uptoBulk ds[i]) : (vs.map m).sum<=6 * Rows.uptoBulkAll ds:=by
 induction vs generalizing ds with
 | nil=>simp
 | cons v vs ih =>
  cases ds with
  | nil=>simp at hl
  | cons d ds =>
   have h0:=h 0 (by simp) (by simp)
   have:=ih ds (by simpa using hl) (fun i h1 h2=>by have:=h (i + 1) (by simpa using h1) (by simpa using h2); simpa using this)
   simp only [List.map_cons,List.sum_cons,Rows.uptoBulkAll]
   simp only [List.getElem_cons_zero] at h0
   omega
theorem zU7 {α:Type} (n:Nat) (Q:Nat->α->Prop) (h:∀ i,i < n->∃ v,Q i v) : ∃ vs : List α,vs.length = n/\∀ i (hi:i < vs.length),Q i vs[i]:=by
 induction n with
 | zero=>exact ⟨[],rfl,fun i hi=>by simp at hi⟩
 | succ n ih =>
  obtain ⟨vs,hl,hv⟩:=ih (fun i hi=>h i (by omega))
  obtain ⟨v,hq⟩:=h n (by omega)
  refine ⟨vs ++ [v],by simp [hl],fun i hi=>?_⟩
  rw [List.length_append] at hi
  simp only [List.length_cons,List.length_nil] at hi
  by_cases hin : i < vs.length
  · rw [List.getElem_append_left hin]; exact hv i hin
  · have : i = n:=by omega
    subst this
    rw [List.getElem_append_right (by omega)]
    simpa [hl] using hq
theorem zB8 {w:World} {S:Nat->Prop} {f g:Fm} {cs:List Value} {a:Vl f} {b:Vl g} (k:Nat) (h1:Rep w S f (cs.take k) a) (h2:Rep w S g (cs.drop k) b) : Rep w S (.cat f g) cs (a,b) :=
 ⟨_,_,(List.take_append_drop k cs).symm,h1,h2⟩
section Sc1
variable {H:Type} {enc:TypeId × Value->H} {w:World}
abbrev SP : Nat->Bool:=fun _=>true
theorem zD1 {t:TypeId} {fuel:Nat} {cs:List Value} {x:DataW H × List MemPlace} {S:Nat->Prop} (ht:Tryz.prog.underlying t = some (.int .i64)) (h:DataW.trod enc Tryz.prog w 0 SP true fuel t cs = some x) : ∃ v,Rep w S .num cs v/\szb .num v<=6 * Rows.uptoBulk x.1:=by
 obtain ⟨n,rfl,rfl,_⟩:=DataW.trod_int ht h
 exact ⟨n,rfl,by simp [szb,Rows.uptoBulk]⟩
theorem zQ6 {t:TypeId} {fuel:Nat} {cs:List Value} {x:DataW H × List MemPlace} {S:Nat->Prop} (ht:Tryz.prog.underlying t = some .bool) (h:DataW.trod enc Tryz.prog w 0 SP true fuel t cs = some x) : ∃ v,Rep w S .tru cs v/\szb .tru v<=6 * Rows.uptoBulk x.1:=by
 obtain ⟨b,rfl,rfl⟩:=DataW.trod_bool ht h
 exact ⟨b,rfl,by simp [szb,Rows.uptoBulk]⟩
theorem zX4 {t e:TypeId} {f:Fm} {fuel:Nat} {cs:List Value} {x:DataW H × List MemPlace} (ht:Tryz.prog.underlying t = some (.slice e)) (hc:Tryz.prog.cellsOf e = wd f) (hp:0 < wd f)
    (ih:∀ (fuel:Nat) (cs:List Value) (x:DataW H × List MemPlace),DataW.trod enc Tryz.prog w 0 SP true fuel e cs = some x->∃ v,Rep w (fun b=>b < w.heap.size) f cs v/\szb f v<=6 * Rows.uptoBulk x.1)
    (h:DataW.trod enc Tryz.prog w 0 SP true fuel t cs = some x) : ∃ v,Rep w (fun b=>b < w.heap.size) (.lst f) cs v/\szb (.lst f) v<=6 * Rows.uptoBulk x.1:=by
 rcases DataW.trod_slice ht h with ⟨rfl,rfl⟩ | ⟨a,len,cap,elems,rest,n,rfl,rfl,rfl,_,hlc,hcm,hel,hE,_,_⟩
 · exact ⟨[],⟨none,0,rfl,by simp,fun h=>absurd rfl h⟩,by simp [szb,Rows.uptoBulk]⟩
 · rw [hc] at hE
   have hQ : ∀ i,i < len->∃ v : Vl f,∃ es,Rep w (fun b=>b < w.heap.size) f es v/\(∀ j,j < wd f->w.cell? ((a.add (i * wd f)).add j) = es[j]?)/\∀ y,elems[i]? = some y->szb f v<=6 * Rows.uptoBulk y.1:=by
    intro i hi
    have hEi:=hE i hi
    rw [List.getElem?_eq_getElem (by omega)] at hEi
    obtain ⟨es,he,ht2⟩:=Option.bind_eq_some_iff.1 hEi
    obtain ⟨v,hv,hs⟩:=ih _ _ _ ht2
    obtain ⟨_,_,hcell⟩:=World.cells?_some he
    refine ⟨v,es,hv,hcell,fun y hy=>?_⟩
    rw [List.getElem?_eq_getElem (by omega)] at hy
    cases hy
    exact hs
   obtain ⟨vs,hvl,hvs⟩:=zU7 len _ hQ
   subst hvl
   refine ⟨vs,⟨some a,cap,rfl,by unfold maxLen at hcm; omega,fun hne=>?_⟩,?_⟩
   · have h0 : 0 < vs.length:=List.length_pos_iff.2 hne
     obtain ⟨b,off,spot⟩:=a
     obtain ⟨es0,hr0,hc0,_⟩:=hvs 0 h0
     have hc00:=hc0 0 hp
     rw [List.getElem?_eq_getElem (by rw [hr0.len]; exact hp)] at hc00
     have hspot : spot = none:=by simpa [Addr.add] using World.cell?_spot hc00
     subst hspot
     refine ⟨b,off,rfl,World.block_lt_of_cell? w _ (by simpa [Addr.add] using hc00),fun i hi=>?_⟩
     obtain ⟨es,hr,hcs,_⟩:=hvs i hi
     refine ⟨es,hr,fun j u hu=>?_⟩
     have hj : j < wd f:=by rw [<- hr.len]; exact (List.getElem?_eq_some_iff.1 hu).1
     have:=hcs j hj
     rw [hu,Addr.add_mid,Addr.add_mid] at this
     exact this
   · have hsum:=xI7 (H:=H) (fun v=>szb f v) vs (elems.map (·.1)) (by simp [hel]) (fun i h1 h2=>by
       obtain ⟨_,_,_,hs⟩:=hvs i h1
       have:=hs elems[i] (List.getElem?_eq_getElem (by omega))
       simpa using this)
     show 6 + (vs.map fun v=>szb f v).sum<=_
     simp only [Rows.uptoBulk]
     omega
theorem ll2 {α:Type} (l:List α) (h:l.length = 2) : ∃ y0 y1,l = [y0,y1]:=by
 match l,h with
 | [y0,y1],_=>exact ⟨_,_,rfl⟩
theorem ll3 {α:Type} (l:List α) (h:l.length = 3) : ∃ y0 y1 y2,l = [y0,y1,y2]:=by
 match l,h with
 | [y0,y1,y2],_=>exact ⟨_,_,_,rfl⟩
theorem ll6 {α:Type} (l:List α) (h:l.length = 6) : ∃ y0 y1 y2 y3 y4 y5,l = [y0,y1,y2,y3,y4,y5]:=by
 match l,h with
 | [y0,y1,y2,y3,y4,y5],_=>exact ⟨_,_,_,_,_,_,rfl⟩
theorem ll7 {α:Type} (l:List α) (h:l.length = 7) : ∃ y0 y1 y2 y3 y4 y5 y6,l = [y0,y1,y2,y3,y4,y5,y6]:=by
 match l,h with
 | [y0,y1,y2,y3,y4,y5,y6],_=>exact ⟨_,_,_,_,_,_,_,rfl⟩
theorem ll8 {α:Type} (l:List α) (h:l.length = 8) : ∃ y0 y1 y2 y3 y4 y5 y6 y7,l = [y0,y1,y2,y3,y4,y5,y6,y7]:=by
 match l,h with
 | [y0,y1,y2,y3,y4,y5,y6,y7],_=>exact ⟨_,_,_,_,_,_,_,_,rfl⟩
theorem ll10 {α:Type} (l:List α) (h:l.length = 10) : ∃ y0 y1 y2 y3 y4 y5 y6 y7 y8 y9,l = [y0,y1,y2,y3,y4,y5,y6,y7,y8,y9]:=by
 match l,h with
 | [y0,y1,y2,y3,y4,y5,y6,y7,y8,y9],_=>exact ⟨_,_,_,_,_,_,_,_,_,_,rfl⟩
theorem yZ5 {fuel:Nat} {cs:List Value} {x:DataW H × List MemPlace} (h:DataW.trod enc Tryz.prog w 0 SP true fuel 63 cs = some x) : ∃ v,Rep w (fun b=>b < w.heap.size) zA9 cs v/\szb zA9 v<=6 * Rows.uptoBulk x.1:=by
 obtain ⟨xs,n,rfl,rfl,hl,hlen,hf⟩:=DataW.trod_struct Tryz.underlying63 h
 rw [show Tryz.prog.cellsOf 63 = 2 from by kernel_rfl] at hl
 obtain ⟨z0,z1,rfl⟩:=ll2 xs hlen
 have g0 : DataW.trod enc Tryz.prog w 0 SP true n 3 ((cs.drop 0).take (Tryz.prog.cellsOf 3)) = some z0:=hf 0 _ rfl
 rw [show Tryz.prog.cellsOf 3 = 1 from by kernel_rfl] at g0
 obtain ⟨v0,r0,b0⟩:=zD1 (S:=fun b=>b < w.heap.size) (by kernel_rfl) g0
 have g1 : DataW.trod enc Tryz.prog w 0 SP true n 3 ((cs.drop 1).take (Tryz.prog.cellsOf 3)) = some z1:=hf 1 _ rfl
 rw [show Tryz.prog.cellsOf 3 = 1 from by kernel_rfl] at g1
 obtain ⟨v1,r1,b1⟩:=zD1 (S:=fun b=>b < w.heap.size) (by kernel_rfl) g1
 refine ⟨(v0,v1),?_,?_⟩
 rotate_left
 · rw [yZ9]
   simp only [List.map,Rows.uptoBulk,Rows.uptoBulkAll]
   have q0:=b0; rw [show szb .num v0 = 6 from rfl] at q0
   have q1:=b1; rw [show szb .num v1 = 6 from rfl] at q1
   omega
 rw [List.take_of_length_le (by rw [List.length_drop,hl]; omega)] at r1
 refine zB8 1 ?z0 ?z1
 case z0=>simpa only [List.drop_drop,List.drop_zero,Nat.reduceAdd] using r0
 case z1=>simpa only [List.drop_drop,List.drop_zero,Nat.reduceAdd] using r1
theorem yZ7 {fuel:Nat} {cs:List Value} {x:DataW H × List MemPlace} (h:DataW.trod enc Tryz.prog w 0 SP true fuel 34 cs = some x) : ∃ v,Rep w (fun b=>b < w.heap.size) zB4 cs v/\szb zB4 v<=6 * Rows.uptoBulk x.1:=by
 obtain ⟨xs,n,rfl,rfl,hl,hlen,hf⟩:=DataW.trod_struct Tryz.underlying34 h
 rw [show Tryz.prog.cellsOf 34 = 2 from by kernel_rfl] at hl
 obtain ⟨z0,z1,rfl⟩:=ll2 xs hlen
 have g0 : DataW.trod enc Tryz.prog w 0 SP true n 32 ((cs.drop 0).take (Tryz.prog.cellsOf 32)) = some z0:=hf 0 _ rfl
 rw [show Tryz.prog.cellsOf 32 = 1 from by kernel_rfl] at g0
 obtain ⟨v0,r0,b0⟩:=zX4 (e:=3) (f:=.num) (by kernel_rfl) (by kernel_rfl) (by decide) (fun _ _ _ h=>zD1 (S:=fun b=>b < w.heap.size) (by kernel_rfl) h) g0
 have g1 : DataW.trod enc Tryz.prog w 0 SP true n 32 ((cs.drop 1).take (Tryz.prog.cellsOf 32)) = some z1:=hf 1 _ rfl
 rw [show Tryz.prog.cellsOf 32 = 1 from by kernel_rfl] at g1
 obtain ⟨v1,r1,b1⟩:=zX4 (e:=3) (f:=.num) (by kernel_rfl) (by kernel_rfl) (by decide) (fun _ _ _ h=>zD1 (S:=fun b=>b < w.heap.size) (by kernel_rfl) h) g1
 refine ⟨(v0,v1),?_,?_⟩
 rotate_left
 · rw [yS1]
   simp only [List.map,Rows.uptoBulk,Rows.uptoBulkAll]
   omega
 rw [List.take_of_length_le (by rw [List.length_drop,hl]; omega)] at r1
 refine zB8 1 ?z0 ?z1
 case z0=>simpa only [List.drop_drop,List.drop_zero,Nat.reduceAdd] using r0
 case z1=>simpa only [List.drop_drop,List.drop_zero,Nat.reduceAdd] using r1
theorem xI2 {fuel:Nat} {cs:List Value} {x:DataW H × List MemPlace} (h:DataW.trod enc Tryz.prog w 0 SP true fuel 227 cs = some x) : ∃ v,Rep w (fun b=>b < w.heap.size) zA7 cs v/\szb zA7 v<=6 * Rows.uptoBulk x.1:=by
 obtain ⟨xs,n,rfl,rfl,hl,hlen,hf⟩:=DataW.trod_struct Tryz.underlying227 h
 rw [show Tryz.prog.cellsOf 227 = 11 from by kernel_rfl] at hl
 obtain ⟨z0,z1,z2,z3,z4,z5,z6,z7,z8,z9,rfl⟩:=ll10 xs hlen
 have g0 : DataW.trod enc Tryz.prog w 0 SP true n 3 ((cs.drop 0).take (Tryz.prog.cellsOf 3)) = some z0:=hf 0 _ rfl
 rw [show Tryz.prog.cellsOf 3 = 1 from by kernel_rfl] at g0
 obtain ⟨v0,r0,b0⟩:=zD1 (S:=fun b=>b < w.heap.size) (by kernel_rfl) g0
 have g1 : DataW.trod enc Tryz.prog w 0 SP true n 3 ((cs.drop 1).take (Tryz.prog.cellsOf 3)) = some z1:=hf 1 _ rfl
 rw [show Tryz.prog.cellsOf 3 = 1 from by kernel_rfl] at g1
 obtain ⟨v1,r1,b1⟩:=zD1 (S:=fun b=>b < w.heap.size) (by kernel_rfl) g1
 have g2 : DataW.trod enc Tryz.prog w 0 SP true n 3 ((cs.drop 2).take (Tryz.prog.cellsOf 3)) = some z2:=hf 2 _ rfl
 rw [show Tryz.prog.cellsOf 3 = 1 from by kernel_rfl] at g2
 obtain ⟨v2,r2,b2⟩:=zD1 (S:=fun b=>b < w.heap.size) (by kernel_rfl) g2
 have g3 : DataW.trod enc Tryz.prog w 0 SP true n 3 ((cs.drop 3).take (Tryz.prog.cellsOf 3)) = some z3:=hf 3 _ rfl
 rw [show Tryz.prog.cellsOf 3 = 1 from by kernel_rfl] at g3
 obtain ⟨v3,r3,b3⟩:=zD1 (S:=fun b=>b < w.heap.size) (by kernel_rfl) g3
 have g4 : DataW.trod enc Tryz.prog w 0 SP true n 3 ((cs.drop 4).take (Tryz.prog.cellsOf 3)) = some z4:=hf 4 _ rfl
 rw [show Tryz.prog.cellsOf 3 = 1 from by kernel_rfl] at g4
 obtain ⟨v4,r4,b4⟩:=zD1 (S:=fun b=>b < w.heap.size) (by kernel_rfl) g4
 have g5 : DataW.trod enc Tryz.prog w 0 SP true n 3 ((cs.drop 5).take (Tryz.prog.cellsOf 3)) = some z5:=hf 5 _ rfl
 rw [show Tryz.prog.cellsOf 3 = 1 from by kernel_rfl] at g5
 obtain ⟨v5,r5,b5⟩:=zD1 (S:=fun b=>b < w.heap.size) (by kernel_rfl) g5
 have g6 : DataW.trod enc Tryz.prog w 0 SP true n 3 ((cs.drop 6).take (Tryz.prog.cellsOf 3)) = some z6:=hf 6 _ rfl
 rw [show Tryz.prog.cellsOf 3 = 1 from by kernel_rfl] at g6
 obtain ⟨v6,r6,b6⟩:=zD1 (S:=fun b=>b < w.heap.size) (by kernel_rfl) g6
 have g7 : DataW.trod enc Tryz.prog w 0 SP true n 63 ((cs.drop 7).take (Tryz.prog.cellsOf 63)) = some z7:=hf 7 _ rfl
 rw [show Tryz.prog.cellsOf 63 = 2 from by kernel_rfl] at g7
 obtain ⟨v7,r7,b7⟩:=yZ5 g7
 have g8 : DataW.trod enc Tryz.prog w 0 SP true n 4 ((cs.drop 9).take (Tryz.prog.cellsOf 4)) = some z8:=hf 8 _ rfl
 rw [show Tryz.prog.cellsOf 4 = 1 from by kernel_rfl] at g8
 obtain ⟨v8,r8,b8⟩:=zQ6 (S:=fun b=>b < w.heap.size) (by kernel_rfl) g8
 have g9 : DataW.trod enc Tryz.prog w 0 SP true n 3 ((cs.drop 10).take (Tryz.prog.cellsOf 3)) = some z9:=hf 9 _ rfl
 rw [show Tryz.prog.cellsOf 3 = 1 from by kernel_rfl] at g9
 obtain ⟨v9,r9,b9⟩:=zD1 (S:=fun b=>b < w.heap.size) (by kernel_rfl) g9
 refine ⟨(v0,v1,v2,v3,v4,v5,v6,v7,v8,v9),?_,?_⟩
 rotate_left
 · rw [yI0]
   simp only [List.map,Rows.uptoBulk,Rows.uptoBulkAll]
   have q0:=b0; rw [show szb .num v0 = 6 from rfl] at q0
   have q1:=b1; rw [show szb .num v1 = 6 from rfl] at q1
   have q2:=b2; rw [show szb .num v2 = 6 from rfl] at q2
   have q3:=b3; rw [show szb .num v3 = 6 from rfl] at q3
   have q4:=b4; rw [show szb .num v4 = 6 from rfl] at q4
   have q5:=b5; rw [show szb .num v5 = 6 from rfl] at q5
   have q6:=b6; rw [show szb .num v6 = 6 from rfl] at q6
   have q8:=b8; rw [show szb .tru v8 = 6 from rfl] at q8
   have q9:=b9; rw [show szb .num v9 = 6 from rfl] at q9
   omega
 rw [List.take_of_length_le (by rw [List.length_drop,hl]; omega)] at r9
 refine zB8 1 ?z0 (zB8 1 ?z1 (zB8 1 ?z2 (zB8 1 ?z3 (zB8 1 ?z4 (zB8 1 ?z5 (zB8 1 ?z6 (zB8 2 ?z7 (zB8 1 ?z8 ?z9))))))))
 case z0=>simpa only [List.drop_drop,List.drop_zero,Nat.reduceAdd] using r0
 case z1=>simpa only [List.drop_drop,List.drop_zero,Nat.reduceAdd] using r1
 case z2=>simpa only [List.drop_drop,List.drop_zero,Nat.reduceAdd] using r2
 case z3=>simpa only [List.drop_drop,List.drop_zero,Nat.reduceAdd] using r3
 case z4=>simpa only [List.drop_drop,List.drop_zero,Nat.reduceAdd] using r4
 case z5=>simpa only [List.drop_drop,List.drop_zero,Nat.reduceAdd] using r5
 case z6=>simpa only [List.drop_drop,List.drop_zero,Nat.reduceAdd] using r6
 case z7=>simpa only [List.drop_drop,List.drop_zero,Nat.reduceAdd] using r7
 case z8=>simpa only [List.drop_drop,List.drop_zero,Nat.reduceAdd] using r8
 case z9=>simpa only [List.drop_drop,List.drop_zero,Nat.reduceAdd] using r9
theorem yZ6 {fuel:Nat} {cs:List Value} {x:DataW H × List MemPlace} (h:DataW.trod enc Tryz.prog w 0 SP true fuel 187 cs = some x) : ∃ v,Rep w (fun b=>b < w.heap.size) zA4 cs v/\szb zA4 v<=6 * Rows.uptoBulk x.1:=by
 obtain ⟨xs,n,rfl,rfl,hl,hlen,hf⟩:=DataW.trod_struct Tryz.underlying187 h
 rw [show Tryz.prog.cellsOf 187 = 2 from by kernel_rfl] at hl
 obtain ⟨z0,z1,rfl⟩:=ll2 xs hlen
 have g0 : DataW.trod enc Tryz.prog w 0 SP true n 3 ((cs.drop 0).take (Tryz.prog.cellsOf 3)) = some z0:=hf 0 _ rfl
 rw [show Tryz.prog.cellsOf 3 = 1 from by kernel_rfl] at g0
 obtain ⟨v0,r0,b0⟩:=zD1 (S:=fun b=>b < w.heap.size) (by kernel_rfl) g0
 have g1 : DataW.trod enc Tryz.prog w 0 SP true n 3 ((cs.drop 1).take (Tryz.prog.cellsOf 3)) = some z1:=hf 1 _ rfl
 rw [show Tryz.prog.cellsOf 3 = 1 from by kernel_rfl] at g1
 obtain ⟨v1,r1,b1⟩:=zD1 (S:=fun b=>b < w.heap.size) (by kernel_rfl) g1
 refine ⟨(v0,v1),?_,?_⟩
 rotate_left
 · rw [yB6]
   simp only [List.map,Rows.uptoBulk,Rows.uptoBulkAll]
   have q0:=b0; rw [show szb .num v0 = 6 from rfl] at q0
   have q1:=b1; rw [show szb .num v1 = 6 from rfl] at q1
   omega
 rw [List.take_of_length_le (by rw [List.length_drop,hl]; omega)] at r1
 refine zB8 1 ?z0 ?z1
 case z0=>simpa only [List.drop_drop,List.drop_zero,Nat.reduceAdd] using r0
 case z1=>simpa only [List.drop_drop,List.drop_zero,Nat.reduceAdd] using r1
theorem xI0 {fuel:Nat} {cs:List Value} {x:DataW H × List MemPlace} (h:DataW.trod enc Tryz.prog w 0 SP true fuel 209 cs = some x) : ∃ v,Rep w (fun b=>b < w.heap.size) zA6 cs v/\szb zA6 v<=6 * Rows.uptoBulk x.1:=by
 obtain ⟨xs,n,rfl,rfl,hl,hlen,hf⟩:=DataW.trod_struct Tryz.underlying209 h
 rw [show Tryz.prog.cellsOf 209 = 3 from by kernel_rfl] at hl
 obtain ⟨z0,z1,rfl⟩:=ll2 xs hlen
 have g0 : DataW.trod enc Tryz.prog w 0 SP true n 3 ((cs.drop 0).take (Tryz.prog.cellsOf 3)) = some z0:=hf 0 _ rfl
 rw [show Tryz.prog.cellsOf 3 = 1 from by kernel_rfl] at g0
 obtain ⟨v0,r0,b0⟩:=zD1 (S:=fun b=>b < w.heap.size) (by kernel_rfl) g0
 have g1 : DataW.trod enc Tryz.prog w 0 SP true n 63 ((cs.drop 1).take (Tryz.prog.cellsOf 63)) = some z1:=hf 1 _ rfl
 rw [show Tryz.prog.cellsOf 63 = 2 from by kernel_rfl] at g1
 obtain ⟨v1,r1,b1⟩:=yZ5 g1
 refine ⟨(v0,v1),?_,?_⟩
 rotate_left
 · rw [yH8]
   simp only [List.map,Rows.uptoBulk,Rows.uptoBulkAll]
   have q0:=b0; rw [show szb .num v0 = 6 from rfl] at q0
   omega
 rw [List.take_of_length_le (by rw [List.length_drop,hl]; omega)] at r1
 refine zB8 1 ?z0 ?z1
 case z0=>simpa only [List.drop_drop,List.drop_zero,Nat.reduceAdd] using r0
 case z1=>simpa only [List.drop_drop,List.drop_zero,Nat.reduceAdd] using r1
theorem kA1 {fuel:Nat} {cs:List Value} {x:DataW H × List MemPlace} (h:DataW.trod enc Tryz.prog w 0 SP true fuel 61 cs = some x) : ∃ v,Rep w (fun b=>b < w.heap.size) zC4 cs v/\szb zC4 v<=6 * Rows.uptoBulk x.1:=by
 obtain ⟨xs,n,rfl,rfl,hl,hlen,hf⟩:=DataW.trod_struct Tryz.underlying61 h
 rw [show Tryz.prog.cellsOf 61 = 7 from by kernel_rfl] at hl
 obtain ⟨z0,z1,z2,z3,z4,z5,z6,rfl⟩:=ll7 xs hlen
 have g0 : DataW.trod enc Tryz.prog w 0 SP true n 3 ((cs.drop 0).take (Tryz.prog.cellsOf 3)) = some z0:=hf 0 _ rfl
 rw [show Tryz.prog.cellsOf 3 = 1 from by kernel_rfl] at g0
 obtain ⟨v0,r0,b0⟩:=zD1 (S:=fun b=>b < w.heap.size) (by kernel_rfl) g0
 have g1 : DataW.trod enc Tryz.prog w 0 SP true n 3 ((cs.drop 1).take (Tryz.prog.cellsOf 3)) = some z1:=hf 1 _ rfl
 rw [show Tryz.prog.cellsOf 3 = 1 from by kernel_rfl] at g1
 obtain ⟨v1,r1,b1⟩:=zD1 (S:=fun b=>b < w.heap.size) (by kernel_rfl) g1
 have g2 : DataW.trod enc Tryz.prog w 0 SP true n 3 ((cs.drop 2).take (Tryz.prog.cellsOf 3)) = some z2:=hf 2 _ rfl
 rw [show Tryz.prog.cellsOf 3 = 1 from by kernel_rfl] at g2
 obtain ⟨v2,r2,b2⟩:=zD1 (S:=fun b=>b < w.heap.size) (by kernel_rfl) g2
 have g3 : DataW.trod enc Tryz.prog w 0 SP true n 3 ((cs.drop 3).take (Tryz.prog.cellsOf 3)) = some z3:=hf 3 _ rfl
 rw [show Tryz.prog.cellsOf 3 = 1 from by kernel_rfl] at g3
 obtain ⟨v3,r3,b3⟩:=zD1 (S:=fun b=>b < w.heap.size) (by kernel_rfl) g3
 have g4 : DataW.trod enc Tryz.prog w 0 SP true n 59 ((cs.drop 4).take (Tryz.prog.cellsOf 59)) = some z4:=hf 4 _ rfl
 rw [show Tryz.prog.cellsOf 59 = 1 from by kernel_rfl] at g4
 obtain ⟨v4,r4,b4⟩:=zX4 (e:=209) (f:=zA6) (by kernel_rfl) (by kernel_rfl) (by decide) (fun _ _ _ h=>xI0 h) g4
 have g5 : DataW.trod enc Tryz.prog w 0 SP true n 3 ((cs.drop 5).take (Tryz.prog.cellsOf 3)) = some z5:=hf 5 _ rfl
 rw [show Tryz.prog.cellsOf 3 = 1 from by kernel_rfl] at g5
 obtain ⟨v5,r5,b5⟩:=zD1 (S:=fun b=>b < w.heap.size) (by kernel_rfl) g5
 have g6 : DataW.trod enc Tryz.prog w 0 SP true n 4 ((cs.drop 6).take (Tryz.prog.cellsOf 4)) = some z6:=hf 6 _ rfl
 rw [show Tryz.prog.cellsOf 4 = 1 from by kernel_rfl] at g6
 obtain ⟨v6,r6,b6⟩:=zQ6 (S:=fun b=>b < w.heap.size) (by kernel_rfl) g6
 refine ⟨(v0,v1,v2,v3,v4,v5,v6),?_,?_⟩
 rotate_left
 · rw [xA1]
   simp only [List.map,Rows.uptoBulk,Rows.uptoBulkAll]
   have q0:=b0; rw [show szb .num v0 = 6 from rfl] at q0
   have q1:=b1; rw [show szb .num v1 = 6 from rfl] at q1
   have q2:=b2; rw [show szb .num v2 = 6 from rfl] at q2
   have q3:=b3; rw [show szb .num v3 = 6 from rfl] at q3
   have q5:=b5; rw [show szb .num v5 = 6 from rfl] at q5
   have q6:=b6; rw [show szb .tru v6 = 6 from rfl] at q6
   omega
 rw [List.take_of_length_le (by rw [List.length_drop,hl]; omega)] at r6
 refine zB8 1 ?z0 (zB8 1 ?z1 (zB8 1 ?z2 (zB8 1 ?z3 (zB8 1 ?z4 (zB8 1 ?z5 ?z6)))))
 case z0=>simpa only [List.drop_drop,List.drop_zero,Nat.reduceAdd] using r0
 case z1=>simpa only [List.drop_drop,List.drop_zero,Nat.reduceAdd] using r1
 case z2=>simpa only [List.drop_drop,List.drop_zero,Nat.reduceAdd] using r2
 case z3=>simpa only [List.drop_drop,List.drop_zero,Nat.reduceAdd] using r3
 case z4=>simpa only [List.drop_drop,List.drop_zero,Nat.reduceAdd] using r4
 case z5=>simpa only [List.drop_drop,List.drop_zero,Nat.reduceAdd] using r5
 case z6=>simpa only [List.drop_drop,List.drop_zero,Nat.reduceAdd] using r6
theorem xS7 {fuel:Nat} {cs:List Value} {x:DataW H × List MemPlace} (h:DataW.trod enc Tryz.prog w 0 SP true fuel 65 cs = some x) : ∃ v,Rep w (fun b=>b < w.heap.size) zB3 cs v/\szb zB3 v<=6 * Rows.uptoBulk x.1:=by
 obtain ⟨xs,n,rfl,rfl,hl,hlen,hf⟩:=DataW.trod_struct Tryz.underlying65 h
 rw [show Tryz.prog.cellsOf 65 = 8 from by kernel_rfl] at hl
 obtain ⟨z0,z1,z2,z3,z4,z5,z6,rfl⟩:=ll7 xs hlen
 have g0 : DataW.trod enc Tryz.prog w 0 SP true n 3 ((cs.drop 0).take (Tryz.prog.cellsOf 3)) = some z0:=hf 0 _ rfl
 rw [show Tryz.prog.cellsOf 3 = 1 from by kernel_rfl] at g0
 obtain ⟨v0,r0,b0⟩:=zD1 (S:=fun b=>b < w.heap.size) (by kernel_rfl) g0
 have g1 : DataW.trod enc Tryz.prog w 0 SP true n 63 ((cs.drop 1).take (Tryz.prog.cellsOf 63)) = some z1:=hf 1 _ rfl
 rw [show Tryz.prog.cellsOf 63 = 2 from by kernel_rfl] at g1
 obtain ⟨v1,r1,b1⟩:=yZ5 g1
 have g2 : DataW.trod enc Tryz.prog w 0 SP true n 4 ((cs.drop 3).take (Tryz.prog.cellsOf 4)) = some z2:=hf 2 _ rfl
 rw [show Tryz.prog.cellsOf 4 = 1 from by kernel_rfl] at g2
 obtain ⟨v2,r2,b2⟩:=zQ6 (S:=fun b=>b < w.heap.size) (by kernel_rfl) g2
 have g3 : DataW.trod enc Tryz.prog w 0 SP true n 4 ((cs.drop 4).take (Tryz.prog.cellsOf 4)) = some z3:=hf 3 _ rfl
 rw [show Tryz.prog.cellsOf 4 = 1 from by kernel_rfl] at g3
 obtain ⟨v3,r3,b3⟩:=zQ6 (S:=fun b=>b < w.heap.size) (by kernel_rfl) g3
 have g4 : DataW.trod enc Tryz.prog w 0 SP true n 3 ((cs.drop 5).take (Tryz.prog.cellsOf 3)) = some z4:=hf 4 _ rfl
 rw [show Tryz.prog.cellsOf 3 = 1 from by kernel_rfl] at g4
 obtain ⟨v4,r4,b4⟩:=zD1 (S:=fun b=>b < w.heap.size) (by kernel_rfl) g4
 have g5 : DataW.trod enc Tryz.prog w 0 SP true n 3 ((cs.drop 6).take (Tryz.prog.cellsOf 3)) = some z5:=hf 5 _ rfl
 rw [show Tryz.prog.cellsOf 3 = 1 from by kernel_rfl] at g5
 obtain ⟨v5,r5,b5⟩:=zD1 (S:=fun b=>b < w.heap.size) (by kernel_rfl) g5
 have g6 : DataW.trod enc Tryz.prog w 0 SP true n 3 ((cs.drop 7).take (Tryz.prog.cellsOf 3)) = some z6:=hf 6 _ rfl
 rw [show Tryz.prog.cellsOf 3 = 1 from by kernel_rfl] at g6
 obtain ⟨v6,r6,b6⟩:=zD1 (S:=fun b=>b < w.heap.size) (by kernel_rfl) g6
 refine ⟨(v0,v1,v2,v3,v4,v5,v6),?_,?_⟩
 rotate_left
 · rw [yS0]
   simp only [List.map,Rows.uptoBulk,Rows.uptoBulkAll]
   have q0:=b0; rw [show szb .num v0 = 6 from rfl] at q0
   have q2:=b2; rw [show szb .tru v2 = 6 from rfl] at q2
   have q3:=b3; rw [show szb .tru v3 = 6 from rfl] at q3
   have q4:=b4; rw [show szb .num v4 = 6 from rfl] at q4
   have q5:=b5; rw [show szb .num v5 = 6 from rfl] at q5
   have q6:=b6; rw [show szb .num v6 = 6 from rfl] at q6
   omega
 rw [List.take_of_length_le (by rw [List.length_drop,hl]; omega)] at r6
 refine zB8 1 ?z0 (zB8 2 ?z1 (zB8 1 ?z2 (zB8 1 ?z3 (zB8 1 ?z4 (zB8 1 ?z5 ?z6)))))
 case z0=>simpa only [List.drop_drop,List.drop_zero,Nat.reduceAdd] using r0
 case z1=>simpa only [List.drop_drop,List.drop_zero,Nat.reduceAdd] using r1
 case z2=>simpa only [List.drop_drop,List.drop_zero,Nat.reduceAdd] using r2
 case z3=>simpa only [List.drop_drop,List.drop_zero,Nat.reduceAdd] using r3
 case z4=>simpa only [List.drop_drop,List.drop_zero,Nat.reduceAdd] using r4
 case z5=>simpa only [List.drop_drop,List.drop_zero,Nat.reduceAdd] using r5
 case z6=>simpa only [List.drop_drop,List.drop_zero,Nat.reduceAdd] using r6
theorem xS6 {fuel:Nat} {cs:List Value} {x:DataW H × List MemPlace} (h:DataW.trod enc Tryz.prog w 0 SP true fuel 69 cs = some x) : ∃ v,Rep w (fun b=>b < w.heap.size) zC5 cs v/\szb zC5 v<=6 * Rows.uptoBulk x.1:=by
 obtain ⟨xs,n,rfl,rfl,hl,hlen,hf⟩:=DataW.trod_struct Tryz.underlying69 h
 rw [show Tryz.prog.cellsOf 69 = 6 from by kernel_rfl] at hl
 obtain ⟨z0,z1,z2,z3,z4,z5,rfl⟩:=ll6 xs hlen
 have g0 : DataW.trod enc Tryz.prog w 0 SP true n 3 ((cs.drop 0).take (Tryz.prog.cellsOf 3)) = some z0:=hf 0 _ rfl
 rw [show Tryz.prog.cellsOf 3 = 1 from by kernel_rfl] at g0
 obtain ⟨v0,r0,b0⟩:=zD1 (S:=fun b=>b < w.heap.size) (by kernel_rfl) g0
 have g1 : DataW.trod enc Tryz.prog w 0 SP true n 3 ((cs.drop 1).take (Tryz.prog.cellsOf 3)) = some z1:=hf 1 _ rfl
 rw [show Tryz.prog.cellsOf 3 = 1 from by kernel_rfl] at g1
 obtain ⟨v1,r1,b1⟩:=zD1 (S:=fun b=>b < w.heap.size) (by kernel_rfl) g1
 have g2 : DataW.trod enc Tryz.prog w 0 SP true n 3 ((cs.drop 2).take (Tryz.prog.cellsOf 3)) = some z2:=hf 2 _ rfl
 rw [show Tryz.prog.cellsOf 3 = 1 from by kernel_rfl] at g2
 obtain ⟨v2,r2,b2⟩:=zD1 (S:=fun b=>b < w.heap.size) (by kernel_rfl) g2
 have g3 : DataW.trod enc Tryz.prog w 0 SP true n 32 ((cs.drop 3).take (Tryz.prog.cellsOf 32)) = some z3:=hf 3 _ rfl
 rw [show Tryz.prog.cellsOf 32 = 1 from by kernel_rfl] at g3
 obtain ⟨v3,r3,b3⟩:=zX4 (e:=3) (f:=.num) (by kernel_rfl) (by kernel_rfl) (by decide) (fun _ _ _ h=>zD1 (S:=fun b=>b < w.heap.size) (by kernel_rfl) h) g3
 have g4 : DataW.trod enc Tryz.prog w 0 SP true n 67 ((cs.drop 4).take (Tryz.prog.cellsOf 67)) = some z4:=hf 4 _ rfl
 rw [show Tryz.prog.cellsOf 67 = 1 from by kernel_rfl] at g4
 obtain ⟨v4,r4,b4⟩:=zX4 (e:=227) (f:=zA7) (by kernel_rfl) (by kernel_rfl) (by decide) (fun _ _ _ h=>xI2 h) g4
 have g5 : DataW.trod enc Tryz.prog w 0 SP true n 4 ((cs.drop 5).take (Tryz.prog.cellsOf 4)) = some z5:=hf 5 _ rfl
 rw [show Tryz.prog.cellsOf 4 = 1 from by kernel_rfl] at g5
 obtain ⟨v5,r5,b5⟩:=zQ6 (S:=fun b=>b < w.heap.size) (by kernel_rfl) g5
 refine ⟨(v0,v1,v2,v3,v4,v5),?_,?_⟩
 rotate_left
 · rw [yR9]
   simp only [List.map,Rows.uptoBulk,Rows.uptoBulkAll]
   have q0:=b0; rw [show szb .num v0 = 6 from rfl] at q0
   have q1:=b1; rw [show szb .num v1 = 6 from rfl] at q1
   have q2:=b2; rw [show szb .num v2 = 6 from rfl] at q2
   have q5:=b5; rw [show szb .tru v5 = 6 from rfl] at q5
   omega
 rw [List.take_of_length_le (by rw [List.length_drop,hl]; omega)] at r5
 refine zB8 1 ?z0 (zB8 1 ?z1 (zB8 1 ?z2 (zB8 1 ?z3 (zB8 1 ?z4 ?z5))))
 case z0=>simpa only [List.drop_drop,List.drop_zero,Nat.reduceAdd] using r0
 case z1=>simpa only [List.drop_drop,List.drop_zero,Nat.reduceAdd] using r1
 case z2=>simpa only [List.drop_drop,List.drop_zero,Nat.reduceAdd] using r2
 case z3=>simpa only [List.drop_drop,List.drop_zero,Nat.reduceAdd] using r3
 case z4=>simpa only [List.drop_drop,List.drop_zero,Nat.reduceAdd] using r4
 case z5=>simpa only [List.drop_drop,List.drop_zero,Nat.reduceAdd] using r5
theorem kA2 {fuel:Nat} {cs:List Value} {x:DataW H × List MemPlace} (h:DataW.trod enc Tryz.prog w 0 SP true fuel 71 cs = some x) : ∃ v,Rep w (fun b=>b < w.heap.size) zD4 cs v/\szb zD4 v<=6 * Rows.uptoBulk x.1:=by
 obtain ⟨xs,n,rfl,rfl,hl,hlen,hf⟩:=DataW.trod_struct Tryz.underlying71 h
 rw [show Tryz.prog.cellsOf 71 = 27 from by kernel_rfl] at hl
 obtain ⟨z0,z1,z2,z3,z4,z5,z6,z7,rfl⟩:=ll8 xs hlen
 have g0 : DataW.trod enc Tryz.prog w 0 SP true n 3 ((cs.drop 0).take (Tryz.prog.cellsOf 3)) = some z0:=hf 0 _ rfl
 rw [show Tryz.prog.cellsOf 3 = 1 from by kernel_rfl] at g0
 obtain ⟨v0,r0,b0⟩:=zD1 (S:=fun b=>b < w.heap.size) (by kernel_rfl) g0
 have g1 : DataW.trod enc Tryz.prog w 0 SP true n 3 ((cs.drop 1).take (Tryz.prog.cellsOf 3)) = some z1:=hf 1 _ rfl
 rw [show Tryz.prog.cellsOf 3 = 1 from by kernel_rfl] at g1
 obtain ⟨v1,r1,b1⟩:=zD1 (S:=fun b=>b < w.heap.size) (by kernel_rfl) g1
 have g2 : DataW.trod enc Tryz.prog w 0 SP true n 3 ((cs.drop 2).take (Tryz.prog.cellsOf 3)) = some z2:=hf 2 _ rfl
 rw [show Tryz.prog.cellsOf 3 = 1 from by kernel_rfl] at g2
 obtain ⟨v2,r2,b2⟩:=zD1 (S:=fun b=>b < w.heap.size) (by kernel_rfl) g2
 have g3 : DataW.trod enc Tryz.prog w 0 SP true n 61 ((cs.drop 3).take (Tryz.prog.cellsOf 61)) = some z3:=hf 3 _ rfl
 rw [show Tryz.prog.cellsOf 61 = 7 from by kernel_rfl] at g3
 obtain ⟨v3,r3,b3⟩:=kA1 g3
 have g4 : DataW.trod enc Tryz.prog w 0 SP true n 65 ((cs.drop 10).take (Tryz.prog.cellsOf 65)) = some z4:=hf 4 _ rfl
 rw [show Tryz.prog.cellsOf 65 = 8 from by kernel_rfl] at g4
 obtain ⟨v4,r4,b4⟩:=xS7 g4
 have g5 : DataW.trod enc Tryz.prog w 0 SP true n 66 ((cs.drop 18).take (Tryz.prog.cellsOf 66)) = some z5:=hf 5 _ rfl
 rw [show Tryz.prog.cellsOf 66 = 1 from by kernel_rfl] at g5
 obtain ⟨v5,r5,b5⟩:=zX4 (e:=187) (f:=zA4) (by kernel_rfl) (by kernel_rfl) (by decide) (fun _ _ _ h=>yZ6 h) g5
 have g6 : DataW.trod enc Tryz.prog w 0 SP true n 69 ((cs.drop 19).take (Tryz.prog.cellsOf 69)) = some z6:=hf 6 _ rfl
 rw [show Tryz.prog.cellsOf 69 = 6 from by kernel_rfl] at g6
 obtain ⟨v6,r6,b6⟩:=xS6 g6
 have g7 : DataW.trod enc Tryz.prog w 0 SP true n 34 ((cs.drop 25).take (Tryz.prog.cellsOf 34)) = some z7:=hf 7 _ rfl
 rw [show Tryz.prog.cellsOf 34 = 2 from by kernel_rfl] at g7
 obtain ⟨v7,r7,b7⟩:=yZ7 g7
 refine ⟨(v0,v1,v2,v3,v4,v5,v6,v7),?_,?_⟩
 rotate_left
 · rw [xA2]
   simp only [List.map,Rows.uptoBulk,Rows.uptoBulkAll]
   have q0:=b0; rw [show szb .num v0 = 6 from rfl] at q0
   have q1:=b1; rw [show szb .num v1 = 6 from rfl] at q1
   have q2:=b2; rw [show szb .num v2 = 6 from rfl] at q2
   omega
 rw [List.take_of_length_le (by rw [List.length_drop,hl]; omega)] at r7
 refine zB8 1 ?z0 (zB8 1 ?z1 (zB8 1 ?z2 (zB8 7 ?z3 (zB8 8 ?z4 (zB8 1 ?z5 (zB8 6 ?z6 ?z7))))))
 case z0=>simpa only [List.drop_drop,List.drop_zero,Nat.reduceAdd] using r0
 case z1=>simpa only [List.drop_drop,List.drop_zero,Nat.reduceAdd] using r1
 case z2=>simpa only [List.drop_drop,List.drop_zero,Nat.reduceAdd] using r2
 case z3=>simpa only [List.drop_drop,List.drop_zero,Nat.reduceAdd] using r3
 case z4=>simpa only [List.drop_drop,List.drop_zero,Nat.reduceAdd] using r4
 case z5=>simpa only [List.drop_drop,List.drop_zero,Nat.reduceAdd] using r5
 case z6=>simpa only [List.drop_drop,List.drop_zero,Nat.reduceAdd] using r6
 case z7=>simpa only [List.drop_drop,List.drop_zero,Nat.reduceAdd] using r7
theorem xI1 {fuel:Nat} {cs:List Value} {x:DataW H × List MemPlace} (h:DataW.trod enc Tryz.prog w 0 SP true fuel 73 cs = some x) : ∃ v,Rep w (fun b=>b < w.heap.size) zA8 cs v/\szb zA8 v<=6 * Rows.uptoBulk x.1:=by
 obtain ⟨xs,n,rfl,rfl,hl,hlen,hf⟩:=DataW.trod_struct Tryz.underlying73 h
 rw [show Tryz.prog.cellsOf 73 = 29 from by kernel_rfl] at hl
 obtain ⟨z0,z1,z2,rfl⟩:=ll3 xs hlen
 have g0 : DataW.trod enc Tryz.prog w 0 SP true n 3 ((cs.drop 0).take (Tryz.prog.cellsOf 3)) = some z0:=hf 0 _ rfl
 rw [show Tryz.prog.cellsOf 3 = 1 from by kernel_rfl] at g0
 obtain ⟨v0,r0,b0⟩:=zD1 (S:=fun b=>b < w.heap.size) (by kernel_rfl) g0
 have g1 : DataW.trod enc Tryz.prog w 0 SP true n 3 ((cs.drop 1).take (Tryz.prog.cellsOf 3)) = some z1:=hf 1 _ rfl
 rw [show Tryz.prog.cellsOf 3 = 1 from by kernel_rfl] at g1
 obtain ⟨v1,r1,b1⟩:=zD1 (S:=fun b=>b < w.heap.size) (by kernel_rfl) g1
 have g2 : DataW.trod enc Tryz.prog w 0 SP true n 71 ((cs.drop 2).take (Tryz.prog.cellsOf 71)) = some z2:=hf 2 _ rfl
 rw [show Tryz.prog.cellsOf 71 = 27 from by kernel_rfl] at g2
 obtain ⟨v2,r2,b2⟩:=kA2 g2
 refine ⟨(v0,v1,v2),?_,?_⟩
 rotate_left
 · rw [yH9]
   simp only [List.map,Rows.uptoBulk,Rows.uptoBulkAll]
   have q0:=b0; rw [show szb .num v0 = 6 from rfl] at q0
   have q1:=b1; rw [show szb .num v1 = 6 from rfl] at q1
   omega
 rw [List.take_of_length_le (by rw [List.length_drop,hl]; omega)] at r2
 refine zB8 1 ?z0 (zB8 1 ?z1 ?z2)
 case z0=>simpa only [List.drop_drop,List.drop_zero,Nat.reduceAdd] using r0
 case z1=>simpa only [List.drop_drop,List.drop_zero,Nat.reduceAdd] using r1
 case z2=>simpa only [List.drop_drop,List.drop_zero,Nat.reduceAdd] using r2
end Sc1
end
end Go.Proofs.YtocoimjhglackaaGreat
