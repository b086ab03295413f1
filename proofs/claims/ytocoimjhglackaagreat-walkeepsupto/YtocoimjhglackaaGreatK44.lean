/- Wka -/
import Derived.Test.YtocoimjhglackaaGreatK40
import Derived.Test.YtocoimjhglackaaGreatK43
set_option maxHeartbeats 8000000
set_option maxRecDepth 100000
namespace Go.Proofs.YtocoimjhglackaaGreat
section
open Go.RowKit Go.Maps
abbrev De:=Vl zK6
def dT (x:De) : Int:=x.2.2.2.2.2.2.1.1
def dV (x:De) : Int:=x.2.2.2.2.2.2.1.2
def dEs (x:De) : List En:=x.2.2.2.2.2.2.2.1
def dSn (x:De) : Sn:=x.2.2.2.2.2.2.2.2
def accD (m:Sd) (x:De) : Prop:=match x.1 with
 | true=>accT m (dT x) (dV x) (dSn x)
 | false=>accS m (dT x) (dV x) (dEs x)
def nxD (m:Sd) (x:De) : Sd:=match x.1 with
 | true=>nxT m (dT x) (dV x) (dSn x) x.2.1
 | false=>nxS m (dT x) (dV x) (dEs x)
def actD (M:Md) (m:Sd) (x:De) : List Ax:=match x.1 with
 | true=>wa (zC9 (nxT m (dT x) (dV x) (dSn x) x.2.1))
 | false=>zI7 M (moS (dT x) (dV x) (dEs x)) (nxS m (dT x) (dV x) (dEs x))
theorem yL2 {w:World} {S:Nat->Prop} {ds:List Value} {x:De} (h:Rep w S zK6 ds x) : ∃ ea ec s0 s1 s2 s3 s4,ds = [.bool x.1,.bool x.2.1,.bool x.2.2.1,.bool x.2.2.2.1,.int .i64 x.2.2.2.2.1,.int .i64 x.2.2.2.2.2.1,.int .i64 (dT x),.int .i64 (dV x),.slice ea (dEs x).length ec,s0,s1,s2,s3,s4]/\RepL w S zA8 ea (dEs x)/\Rep w S zA2 [s0,s1,s2,s3,s4] (dSn x):=by
 obtain ⟨y0,r0,rfl,h0,h⟩:=h
 obtain ⟨y1,r1,rfl,h1,h⟩:=h
 obtain ⟨y2,r2,rfl,h2,h⟩:=h
 obtain ⟨y3,r3,rfl,h3,h⟩:=h
 obtain ⟨y4,r4,rfl,h4,h⟩:=h
 obtain ⟨y5,r5,rfl,h5,h⟩:=h
 obtain ⟨y6,r6,rfl,⟨y6a,y6b,rfl,h6a,h6b⟩,h⟩:=h
 obtain ⟨y7,r7,rfl,⟨ea,ec,h7,h8,h9⟩,h⟩:=h
 obtain ⟨av,cv,al,cl,ad,cd,hs,_⟩:=zH1 h
 refine ⟨ea,ec,_,_,_,_,_,?_,⟨h8,h9⟩,hs ▸ h⟩
 rw [show y0 = _ from h0,show y1 = _ from h1,show y2 = _ from h2,show y3 = _ from h3,show y4 = _ from h4,show y5 = _ from h5,show y6a = _ from h6a,show y6b = _ from h6b,h7,hs]
 rfl
theorem RowB.alike {w w':World} {S:Nat->Prop} {v:Value} {bs:List (List UInt8)} (h:RowB w S v bs) (hb:∀ (k:Nat) (cs:Array Value) (t:TypeId),t = 5\/t = 9\/t = 22->w.heap[k]? = some (Obj.cells cs t (0,0))->w'.heap[k]? = w.heap[k]?) : RowB w' S v bs:=by
 obtain ⟨a,cap,h1,h2,h3,h4⟩:=h
 refine ⟨a,cap,h1,h2,h3,fun hne=>?_⟩
 obtain ⟨g,off,e,⟨cur,h5⟩,h6,h7⟩:=h4 hne
 have hg:=hb g cur 22 (.inr (.inr rfl)) h5
 refine ⟨g,off,e,⟨cur,hg.trans h5⟩,h6,fun i hi=>?_⟩
 obtain ⟨x,h8,h9⟩:=h7 i hi
 exact ⟨x,(World.cell?_of_block (a:=⟨g,off + i,none⟩) hg).trans h8,h9.alike (fun k cs hk=>hb k cs 5 (.inl rfl) hk)⟩
theorem WalR.keepT {w w':World} {q p:Nat} {M:Md} {cnt:Nat} {F:Nat->Prop} {m:Sd} {rf:Bool} (h:WalR w q p M cnt F m rf) (hs:w.heap.size<=w'.heap.size) (hq:w'.heap[q]? = w.heap[q]?) (hF:∀ k,F k->w'.heap[k]? = w.heap[k]?) (hT:∀ (k:Nat) (cs:Array Value) (t:TypeId),t = 5\/t = 9\/t = 22->w.heap[k]? = some (Obj.cells cs t (0,0))->w'.heap[k]? = w.heap[k]?) : WalR w' q p M cnt F m rf:=by
 obtain ⟨sv,ev,h1,h2,h3⟩:=h.blk
 have hS : ∀ k,Sw w F q k->Sw w' F q k:=fun k hk=>⟨Nat.lt_of_lt_of_le hk.1 hs,hk.2.1,hk.2.2⟩
 refine ⟨⟨sv,ev,hq.trans h1,?_,?_⟩,h.dsk.keep hF (fun k cs t ht hk=>hT k cs t (by rcases ht with ht | ht; exact .inr (.inl ht); exact .inr (.inr ht)) hk),h.nq,h.okd,h.len⟩
 · exact (h2.alike (fun k cs hk=>hT k cs 5 (.inl rfl) hk)).kept (fun _ _=>rfl) hS
 · exact (h3.alike hT).kept (Nat.le_refl _) (fun _ _=>rfl) hS
theorem WalR.cnt {w:World} {q p:Nat} {M:Md} {cnt cnt':Nat} {F:Nat->Prop} {m:Sd} {rf:Bool} (h:WalR w q p M cnt F m rf) (h1:cnt<=cnt') (h2:cnt'<=4398046511104) : WalR w q p M cnt' F m rf:=⟨h.blk,h.dsk.cnt h1 h2,h.nq,h.okd,h.len⟩
theorem WalR.row {w:World} {q p:Nat} {M:Md} {cnt:Nat} {F:Nat->Prop} {m:Sd} {rf:Bool} (h:WalR w q p M cnt F m rf) {b:Nat} {old:Array Value} {ty:TypeId} (hb:w.heap[b]? = some (.cells old ty (0,0))) (ht:ty ≠ 5/\ty ≠ 9/\ty ≠ 22) (hF:¬ F b) (hq:b ≠ q) (cells:Array Value) : WalR (w.setRow b cells) q p M cnt F m rf:=by
 refine h.keepT (by simp [World.setRow]) (setRow_other _ _ _ _ (Ne.symm hq)) (fun k hk=>setRow_other _ _ _ _ (fun e=>hF (e ▸ hk))) (fun k cs t h1 h2=>setRow_other _ _ _ _ (fun e=>?_))
 rw [e,hb] at h2
 cases h2
 rcases h1 with h1 | h1 | h1
 · exact ht.1 h1
 · exact ht.2.1 h1
 · exact ht.2.2 h1
theorem Fr.sw {w w':World} {F F':Nat->Prop} {q:Nat} (h:Fr w w' (Fq F q) (Fq F' q)) {k:Nat} (hk:Sw w F q k) : Sw w' F' q k:=by
 have h1 : ¬ Fq F q k:=fun e=>by rcases e with e | e; exact hk.2.1 e; exact hk.2.2 e
 have h2:=h.notF hk.1 h1
 exact ⟨Nat.lt_of_lt_of_le hk.1 h.size,fun e=>h2 (.inl e),hk.2.2⟩
def DsR (w':World) (q p cnt:Nat) (m:Sd) (x:De) (M:Md) (s':Sd) (want got:Int) (F':Nat->Prop) : Prop :=
 (want = 0/\got = 0/\s' = m/\WalR w' q p M (cnt + 4) F' m false) \/
 (¬ accD m x/\want = 1/\got = 1/\s' = m/\WalR w' q p M (cnt + 4) F' m false) \/
 (accD m x/\want = 0/\s' = nxD m x/\zR1 s'<=1048576/\∃ k,k<=(actD M m x).length/\(∀ j,j < k->(runT (actD M m x) j M).left ≠ 0)/\((k = (actD M m x).length/\got = 0/\WalR w' q p (runT (actD M m x) k M) (cnt + 4) F' s' false)\/(k < (actD M m x).length/\(runT (actD M m x) k M).left = 0/\got = 11/\WalR w' q p (runT (actD M m x) k M) (cnt + 4) F' m true)))
theorem DsR.map {w1 w2:World} {q p cnt:Nat} {m:Sd} {x:De} {M:Md} {s':Sd} {want got:Int} {F':Nat->Prop} (h:DsR w1 q p cnt m x M s' want got F') (hm:∀ (M:Md) (m:Sd) (rf:Bool),WalR w1 q p M (cnt + 4) F' m rf->WalR w2 q p M (cnt + 4) F' m rf) : DsR w2 q p cnt m x M s' want got F':=by
 rcases h with ⟨a,b,c,d⟩ | ⟨a,b,c,d,e⟩ | ⟨a,b,c,d,k,e,f,g⟩
 · exact .inl ⟨a,b,c,hm _ _ _ d⟩
 · exact .inr (.inl ⟨a,b,c,d,hm _ _ _ e⟩)
 · refine .inr (.inr ⟨a,b,c,d,k,e,f,?_⟩)
   rcases g with ⟨g1,g2,g3⟩ | ⟨g1,g2,g3,g4⟩
   · exact .inl ⟨g1,g2,hm _ _ _ g3⟩
   · exact .inr ⟨g1,g2,g3,hm _ _ _ g4⟩
def DsP (R:Nat->Prop) (w:World) (q p cnt:Nat) (F:Nat->Prop) (m:Sd) (x:De) (M:Md) (e:Ending) (w':World) : Prop:=∃ cs' s' want got F',e = .returned (.tuple #[.agg cs'.toArray,.int .i64 want,.int .i64 got])/\Fr w w' (Fq F q) (Fq F' q)/\Rep w' (fun k=>(R k\/w.heap.size<=k)/\Sw w' F' q k) zB6 cs' (dec s')/\Okd s'/\s'.bs.length<=2097152/\DsR w' q p cnt m x M s' want got F'
theorem xK1 (tmps:Array Value) (W:World) (g:Nat) (cs:Array Value) (y z:Int) (hs:cs.size = 8) (h6:tmps[6]?.getD undef = .pointer (some ⟨g,0,none⟩)) (h7:tmps[7]?.getD undef = .int .i64 y) (h8:tmps[8]?.getD undef = .int .i64 z) (hg:W.heap[g]? = some (.cells cs 39 (0,0))) : (results Tryz.f19 tmps).run Tryz.prog W = .ok (.tuple #[.agg cs,.int .i64 y,.int .i64 z]) W:=by
 have hl:=run_loadVar_row (P:=Tryz.prog) W g 39 39 cs (0,0) _ hg Tryz.underlying39 rfl (by rw [hs]; exact zC1)
 simp [results,Tryz.results19,asAddr,h6,h7,h8,hl]
theorem xV3 {m:Sd} {t v:Int} {vs:List En} : (nxS m t v vs).bs.length<=m.bs.length + vs.length:=by
 unfold nxS putB
 split
 · show m.bs.length<=_; omega
 · show (m.bs.take _ ++ bods vs).length<=_
   unfold bods
   rw [List.length_append,List.length_take,List.length_map]; omega
theorem xN7 (R:Nat->Prop) (q p cnt:Nat) (M:Md) (F:Nat->Prop) (m:Sd) (cs ds:List Value) (x:De) (w:World) (h:WalR w q p M cnt F m false) (hR:∀ k,R k->Sw w F q k) (hr:Rep w R zB6 cs (dec m)) (hd:Rep w R zK6 ds x) (hx:OkX x) (hfw:Fw M.files) (hc:cnt + 5<=2199023255552) :
    Calls Tryz.prog 19 #[.pointer (some ⟨q,0,none⟩),.agg cs.toArray,.agg ds.toArray] w (DsP R w q p cnt F m x M):=by
 obtain ⟨ea,ec,s0,s1,s2,s3,s4,hds,hrl,hrs⟩:=yL2 hd
 obtain ⟨hx1,hx2,hx3⟩:=hx
 obtain ⟨snap,all,crash,cut,n,pick,⟨t,v⟩,vs,sn⟩:=x
 change vs.length<=1048576 at hx1
 change ∀ y ∈ vs,szb zA8 y<=137438953472 at hx2
 change szb zA2 sn<=137438953472 at hx3
 change RepL w R zA8 ea vs at hrl
 change Rep w R zA2 [s0,s1,s2,s3,s4] sn at hrs
 simp only [dT,dV,dEs] at hds
 obtain ⟨vl,hvl⟩ : ∃ vl,vl = vs.length:=⟨_,rfl⟩
 rw [<- hvl] at hds
 subst hds
 have hcl : cs.length = 8:=hr.len
 have HCL:=zA0 hcl
 have HCA : Hid (cs.toArray.all (·.oneCell') = true):=hr.all
 have HCI : Hid ((Tryz.prog.info? 39).map (·.size) = some cs.toArray.size):=by show _ = _; rw [z8 hcl]; exact zC1
 have HVL:=zA0 hvl
 have hvb : (vl:Int)<=1048576:=by omega
 have H:=zA0 h
 have HRR:=zA0 hR
 have HR:=zA0 hr
 have HRL:=zA0 hrl
 have HRS:=zA0 hrs
 have HX1:=zA0 hx1
 have HX2:=zA0 hx2
 have HX3:=zA0 hx3
 have HFW:=zA0 hfw
 have HC:=zA0 hc
 have HFL : Hid (∀ k,F k->k < w.heap.size):=zA0 h.dsk.flt
 have LQ:=zA0 h.lq
 clear h hr hd hR hrl hrs hx1 hx2 hx3 hfw hc hvl hcl
 cases snap with
 | true =>
  obtain ⟨w1,hw1⟩ : ∃ w1,w1 = ((w.alloc (.cells cs.toArray 39)).alloc (.cells #[.bool true,.bool all,.bool crash,.bool cut,.int .i64 n,.int .i64 pick,.int .i64 t,.int .i64 v,.slice ea vl ec,s0,s1,s2,s3,s4] 54)).alloc (.cells Z39 39):=⟨_,rfl⟩
  have HB1 : Hid (Below w.heap.size w w1):=zA0 (by rw [hw1]; exact ((zB5 w _).alloc (by simp) _).alloc (by simp; omega) _)
  have HS1 : Hid (w1.heap.size = w.heap.size + 3):=zA0 (by rw [hw1]; simp)
  have G41 : Hid (w1.heap[w.heap.size]? = some (.cells cs.toArray 39 (0,0))):=zA0 (by rw [hw1]; exact (Below.heap_alloc _ _ _ (by simp; omega)).trans ((Below.heap_alloc _ _ _ (by simp)).trans (heap_alloc_new w _)))
  have G51 : Hid (w1.heap[w.heap.size + 1]? = some (.cells #[.bool true,.bool all,.bool crash,.bool cut,.int .i64 n,.int .i64 pick,.int .i64 t,.int .i64 v,.slice ea vl ec,s0,s1,s2,s3,s4] 54 (0,0))):=zA0 (by
   rw [hw1]
   refine (Below.heap_alloc _ _ _ (by simp)).trans ?_
   have:=heap_alloc_new (w.alloc (.cells cs.toArray 39)) (.cells #[.bool true,.bool all,.bool crash,.bool cut,.int .i64 n,.int .i64 pick,.int .i64 t,.int .i64 v,.slice ea vl ec,s0,s1,s2,s3,s4] 54)
   rwa [World.size_alloc] at this)
  have G61 : Hid (w1.heap[w.heap.size + 2]? = some (.cells Z39 39 (0,0))):=zA0 (by
   rw [hw1]
   have:=heap_alloc_new ((w.alloc (.cells cs.toArray 39)).alloc (.cells #[.bool true,.bool all,.bool crash,.bool cut,.int .i64 n,.int .i64 pick,.int .i64 t,.int .i64 v,.slice ea vl ec,s0,s1,s2,s3,s4] 54)) (.cells Z39 39)
   rwa [World.size_alloc,World.size_alloc] at this)
  have CF : Hid (∀ W : World,W.heap[w.heap.size + 1]? = some (.cells #[.bool true,.bool all,.bool crash,.bool cut,.int .i64 n,.int .i64 pick,.int .i64 t,.int .i64 v,.slice ea vl ec,s0,s1,s2,s3,s4] 54 (0,0))->W.cell? ⟨w.heap.size + 1,0,none⟩ = some (.bool true)/\W.cell? ⟨w.heap.size + 1,1,none⟩ = some (.bool all)/\W.cell? ⟨w.heap.size + 1,6,none⟩ = some (.int .i64 t)/\W.cell? ⟨w.heap.size + 1,7,none⟩ = some (.int .i64 v)/\W.cell? ⟨w.heap.size + 1,8,none⟩ = some (.slice ea vl ec)/\W.rangeAt (w.heap.size + 1) 9 [s0,s1,s2,s3,s4]):=zA0 (fun W g=>by
   refine ⟨?_,?_,?_,?_,?_,fun j u hu=>?_⟩
   all_goals try (rw [cell_of_row _ _ _ _ 54 (0,0) g]; rfl)
   rw [cell_of_row _ _ _ _ 54 (0,0) g]
   match j,hu with
   | 0,hu=>exact hu
   | 1,hu=>exact hu
   | 2,hu=>exact hu
   | 3,hu=>exact hu
   | 4,hu=>exact hu
   | j + 5,hu=>simp at hu)
  have hcf:=CF.out w1 G51.out
  obtain ⟨d0,d1,d6,d7,d8,dr⟩:=hcf
  have DR:=zA0 dr
  have l5:=zA1 G51.out
  have e9 : w1.cell? ⟨w.heap.size + 1,9,none⟩ = some s0:=dr 0 s0 rfl
  have e10 : w1.cell? ⟨w.heap.size + 1,10,none⟩ = some s1:=dr 1 s1 rfl
  have e11 : w1.cell? ⟨w.heap.size + 1,11,none⟩ = some s2:=dr 2 s2 rfl
  have e12 : w1.cell? ⟨w.heap.size + 1,12,none⟩ = some s3:=dr 3 s3 rfl
  have e13 : w1.cell? ⟨w.heap.size + 1,13,none⟩ = some s4:=dr 4 s4 rfl
  clear dr
  have K1 : Hid (∀ k,R k->w1.heap[k]? = w.heap[k]?):=zA0 (fun k hk=>HB1.out.block k (HRR.out k hk).1)
  have L1 : Hid (∀ k,R k->k < w1.heap.size):=zA0 (fun k hk=>Nat.lt_of_lt_of_le (HRR.out k hk).1 HB1.out.size)
  have HDOC:=zA0 (yO4 R cs m t v [s0,s1,s2,s3,s4] sn all w1 (HR.out.kept HB1.out.size K1.out (fun _ h=>h)) L1.out (HRS.out.kept HB1.out.size K1.out (fun _ h=>h)) H.out.okd H.out.len HX3.out)
  go_enter Tryz.func19,Tryz.ntmps19
  go_upto_region 1 with (fail)
  have hw1z:=hw1
  unfold Z39 at hw1z
  rw [<- hw1z]
  clear hw1 hw1z
  go_wp2_with (first
   | (refine wpList_load_row rfl 39 (.tmp 4) rfl w.heap.size rfl 39 cs.toArray (0,0) _ G41.out Tryz.underlying39 rfl HCI.out ?_)
   | (refine wpList_load_mid rfl 36 (.tmp 19) rfl (w.heap.size + 1) 9 rfl [s0,s1,s2,s3,s4] _ DR.out Tryz.underlying36 rfl (by kernel_rfl) ?_))
  refine Calls.mono HDOC.out ?_
  rintro e w2 ⟨c2,y,sx,rfl,hr2,hB2,hcase⟩
  have HCASE : Hid ((accD m ((true,all,crash,cut,n,pick,(t,v),vs,sn) : De)/\y = 0/\sx = nxD m ((true,all,crash,cut,n,pick,(t,v),vs,sn) : De))\/(¬ accD m ((true,all,crash,cut,n,pick,(t,v),vs,sn) : De)/\y = 1/\sx = m)):=zA0 hcase
  have hokx : Okd sx:=by rcases hcase with ⟨h1,_,h2⟩ | ⟨_,_,h2⟩; rw [h2]; exact yJ2 H.out.okd h1; rw [h2]; exact H.out.okd
  have hlnx : sx.bs.length<=4194304:=by
   have:=H.out.len
   rcases hcase with ⟨h1,_,h2⟩ | ⟨_,_,h2⟩
   · rw [h2]; have:=xD0 (m:=m) (t:=t) (v:=v) (x:=sn) (all:=all); omega
   · rw [h2]; omega
  have HOKX:=zA0 hokx
  have HLNX:=zA0 hlnx
  have hc2 : c2.length = 8:=hr2.len
  have HC2:=zA0 hc2
  have H2A : Hid (c2.toArray.all (·.oneCell') = true):=hr2.all
  have H2I : Hid ((Tryz.prog.info? 39).map (·.size) = some c2.toArray.size):=by show _ = _; rw [z8 hc2]; exact zC1
  have H2J : Hid ((Tryz.prog.info? 39).map (·.size) = some c2.length):=by show _ = _; rw [hc2]; exact zC1
  have HR2:=zA0 hr2
  have HB12:=zA0 hB2
  have HB02:=zA0 (HB1.out.trans (hB2.mono HB1.out.size))
  have G42:=zA0 ((hB2.block _ (zA1 G41.out)).trans G41.out)
  have G52:=zA0 ((hB2.block _ (zA1 G51.out)).trans G51.out)
  have G62:=zA0 ((hB2.block _ (zA1 G61.out)).trans G61.out)
  clear hcase hokx hlnx hc2 hr2 hB2 d0 d1 d6 d7 d8 e9 e10 e11 e12 e13 l5 HDOC
  obtain ⟨b9,hb9⟩ : ∃ b9,b9 = w2.heap.size:=⟨_,rfl⟩
  go_wp2_with (refine zA5 rfl 39 (.tmp 9) (.tmp 24) rfl w2.heap.size c2.toArray rfl rfl 39 Z39 (heap_alloc_new w2 (.cells Z39 39)) H2I.out (by rw [z8 HC2.out]; rfl) H2A.out ?nz)
  case nz =>
   intro w3 hw3h
   have hw3:=hw3h.out
   have hB23 : Below w2.heap.size w2 w3:=by rw [hw3]; exact ((Below.refl _ _).alloc (Nat.le_refl _) _).trans ⟨rfl,rfl,rfl,by simp [World.setRow],fun k hk=>setRow_other _ _ _ _ (by omega)⟩
   have G93 : Hid (w3.heap[b9]? = some (.cells c2.toArray 39 (0,0))):=zA0 (by rw [hw3,hb9]; exact setRow_heap _ _ _ _ 39 _ (heap_alloc_new w2 _))
   rw [<- hb9]
   have HBN9 : Hid (w.heap.size + 3<=b9):=zA0 (by rw [hb9,<- HS1.out]; exact HB12.out.size)
   have HB03:=zA0 (HB02.out.trans (hB23.mono HB02.out.size))
   have G43:=zA0 ((hB23.block _ (zA1 G42.out)).trans G42.out)
   have G53:=zA0 ((hB23.block _ (zA1 G52.out)).trans G52.out)
   have G63:=zA0 ((hB23.block _ (zA1 G62.out)).trans G62.out)
   have HR3 : Hid (Rep w3 (fun k=>R k\/(w.heap.size + 3<=k/\k < w3.heap.size)) zB6 c2 (dec sx)):=zA0 (HR2.out.kept hB23.size (fun k hk=>hB23.block k (by rcases hk with hk | hk; exact Nat.lt_of_lt_of_le (HRR.out k hk).1 HB02.out.size; exact hk.2.1)) (fun k hk=>by
    rcases hk with hk | hk
    · exact .inl hk
    · exact .inr ⟨by rw [<- HS1.out]; exact hk.1,Nat.lt_of_lt_of_le hk.2.1 hB23.size⟩))
   have HSZ:=zA0 (zX9 _ c2 sx w3 HR3.out (fun k hk=>by rcases hk with hk | hk; exact Nat.lt_of_lt_of_le (HRR.out k hk).1 HB03.out.size; exact hk.2) HOKX.out HLNX.out)
   clear hw3 hw3h hB23 hb9 G42 G52 G62 HR2
   go_wp2_with (refine wpList_load_row rfl 39 (.tmp 9) rfl b9 rfl 39 c2.toArray (0,0) _ G93.out Tryz.underlying39 rfl H2I.out ?_)
   refine Calls.mono HSZ.out ?_
   rintro e w4 ⟨rfl,hB4⟩
   have HB04:=zA0 (HB03.out.trans (hB4.mono HB03.out.size))
   have G44:=zA0 ((hB4.block _ (zA1 G43.out)).trans G43.out)
   have G54:=zA0 ((hB4.block _ (zA1 G53.out)).trans G53.out)
   have G64:=zA0 ((hB4.block _ (zA1 G63.out)).trans G63.out)
   have G94:=zA0 ((hB4.block _ (zA1 G93.out)).trans G93.out)
   have HR4 : Hid (Rep w4 (fun k=>R k\/(w.heap.size + 3<=k/\k < w4.heap.size)) zB6 c2 (dec sx)):=zA0 (HR3.out.kept hB4.size (fun k hk=>hB4.block k (by rcases hk with hk | hk; exact Nat.lt_of_lt_of_le (HRR.out k hk).1 HB03.out.size; exact hk.2)) (fun k hk=>by
    rcases hk with hk | hk
    · exact .inl hk
    · exact .inr ⟨hk.1,Nat.lt_of_lt_of_le hk.2 hB4.size⟩))
   have H4:=zA0 (H.out.below HB04.out)
   obtain ⟨sz,hsz⟩ : ∃ sz,sz = zR1 sx:=⟨_,rfl⟩
   rw [<- hsz]
   have HSZE:=zA0 hsz
   clear hB4 hsz HSZ G43 G53 G63 G93 HR3
   have B6Q : Hid (w.heap.size + 2 ≠ q/\¬ F (w.heap.size + 2)):=zA0 ⟨by have:=LQ.out; omega,fun e=>by have:=HFL.out _ e; omega⟩
   by_cases hbig : (1048576:Int) < (sz:Int)
   · go_wp2_with (first
       | (refine wpList_load_row rfl 39 (.tmp 4) rfl w.heap.size rfl 39 cs.toArray (0,0) _ G44.out Tryz.underlying39 rfl HCI.out ?_)
       | (refine zA5 rfl 39 (.tmp 6) (.tmp 29) rfl (w.heap.size + 2) cs.toArray rfl rfl 39 Z39 G64.out HCI.out (by rw [z8 HCL.out]; rfl) HCA.out ?ny))
     case ny =>
      intro w9 hw9h
      have G9 : Hid (w9.heap[w.heap.size + 2]? = some (.cells cs.toArray 39 (0,0))):=zA0 (by rw [hw9h.out]; exact setRow_heap _ _ _ _ 39 _ G64.out)
      have HB9 : Hid (Below w.heap.size w w9):=zA0 (HB04.out.trans (by rw [hw9h.out]; exact ⟨rfl,rfl,rfl,by simp [World.setRow],fun k hk=>setRow_other _ _ _ _ (by omega)⟩))
      clear hw9h
      go_wp2
      refine bodyPost_ret (v:=.tuple #[.agg cs.toArray,.int .i64 0,.int .i64 0]) ?_ rfl ⟨cs,m,0,0,F,rfl,(Fr.of_below HB9.out).toQ q,?_,H.out.okd,H.out.len,.inl ⟨rfl,rfl,rfl,(H.out.below HB9.out).cnt (by omega) (by have:=HC.out; omega)⟩⟩
      · exact xK1 _ _ (w.heap.size + 2) _ _ _ (z8 HCL.out) rfl rfl rfl G9.out
      · exact HR.out.kept HB9.out.size (fun k hk=>HB9.out.block k (HRR.out k hk).1) (fun k hk=>⟨.inl hk,Nat.lt_of_lt_of_le (HRR.out k hk).1 HB9.out.size,(HRR.out k hk).2⟩)
   · have HLE : Hid (zR1 sx<=1048576):=zA0 (by have:=HSZE.out; omega)
     have hcf4:=CF.out w4 G54.out
     have HCF4:=zA0 hcf4
     have HCODE:=zA0 (zV4 q p cnt M F m t v [s0,s1,s2,s3,s4] sn all w4.drew (H4.out.below (Below.refl _ _).drew) (HRS.out.kept HB04.out.size (fun k hk=>HB04.out.block k (HRR.out k hk).1) (fun k hk=>Nat.lt_of_lt_of_le (HRR.out k hk).1 HB04.out.size)) HFW.out HC.out (fun ha=>by rcases HCASE.out with ⟨_,_,h2⟩ | ⟨h1,_⟩; have h3:=HLE.out; rw [h2] at h3; exact Nat.le_trans (yJ2 H.out.okd ha).frl h3; exact absurd ha h1))
     clear hcf4
     go_upto_region 5 with (fail)
     refine wp_region_held_drew (S:=fun wz : World=>wz.rangeAt b9 0 c2/\wz.cell? ⟨w.heap.size + 1,1,none⟩ = some (.bool all)/\wz.cell? ⟨w.heap.size + 1,6,none⟩ = some (.int .i64 t)/\wz.cell? ⟨w.heap.size + 1,7,none⟩ = some (.int .i64 v)/\wz.rangeAt (w.heap.size + 1) 9 [s0,s1,s2,s3,s4]) (by kernel_rfl) ⟨zM5 G94.out,HCF4.out.2.1,HCF4.out.2.2.1,HCF4.out.2.2.2.1,HCF4.out.2.2.2.2.2⟩ (fun hHeld=>?_)
     refine tkHy 0 rfl (.agg c2.toArray) (by kernel_rfl) (fun _ _ _=>id) hHeld (yieldsIf_load_mid (by rfl) 39 (.tmp 9) rfl b9 0 rfl c2 _ (fun _ h=>h.1) Tryz.underlying39 rfl H2J.out) ?_
     try simp only [aPa,aPc,aPd]
     refine tkHp 1 rfl (.int .i64 y) (by kernel_rfl) rfl (fun _ _ _=>id) hHeld (by intro w; go_simp) ?_
     try simp only [aPa,aPc,aPd]
     refine tkHp 2 rfl (.pointer (some ⟨q,0,none⟩)) (by kernel_rfl) rfl (fun _ _ _=>id) hHeld (by intro w; go_simp) ?_
     try simp only [aPa,aPc,aPd]
     refine tkHp 3 rfl (.pointer (some ⟨w.heap.size + 1,6,none⟩)) (by kernel_rfl) rfl (fun _ _ _=>id) hHeld (by intro w; go_simp) ?_
     try simp only [aPa,aPc,aPd]
     refine tkH 4 rfl (.agg #[.int .i64 t,.int .i64 v]) (by kernel_rfl) rfl (fun _ _ _=>id) hHeld (by intro wz hSw; obtain ⟨e1,e2,e3,e4,e5⟩:=hSw; clear e1 e2 e5; go_simp) ?_
     try simp only [aPa,aPc,aPd]
     refine tkHp 5 rfl (.pointer (some ⟨w.heap.size + 1,9,none⟩)) (by kernel_rfl) rfl (fun _ _ _=>id) hHeld (by intro w; go_simp) ?_
     try simp only [aPa,aPc,aPd]
     refine tkHy 6 rfl (.agg #[s0,s1,s2,s3,s4]) (by kernel_rfl) (fun _ _ _=>id) hHeld (yieldsIf_load_mid (by rfl) 36 (.tmp 35) rfl (w.heap.size + 1) 9 rfl [s0,s1,s2,s3,s4] _ (fun _ h=>h.2.2.2.2) Tryz.underlying36 rfl (by kernel_rfl)) ?_
     try simp only [aPa,aPc,aPd]
     refine tkHp 7 rfl (.pointer (some ⟨w.heap.size + 1,1,none⟩)) (by kernel_rfl) rfl (fun _ _ _=>id) hHeld (by intro w; go_simp) ?_
     try simp only [aPa,aPc,aPd]
     refine tkH 8 rfl (.bool all) (by kernel_rfl) rfl (fun _ _ _=>id) hHeld (by intro wz hSw; obtain ⟨e1,e2,e3,e4,e5⟩:=hSw; clear e1 e3 e4 e5; go_simp) ?_
     try simp only [aPa,aPc,aPd]
     refine tkHc 9 rfl (by kernel_rfl) rfl (fun K hK=>?_)
     go_simp
     refine Calls.mono HCODE.out ?_
     rintro e w5 hpost
     have hkey : ∃ E F',e = .returned (.int .i64 E)/\Fr w4 w5 (Fq F q) (Fq F' q)/\DsR w5 q p cnt m ((true,all,crash,cut,n,pick,(t,v),vs,sn) : De) M sx y E F':=by
      rcases hpost with ⟨hna,he,hb⟩ | ⟨ha,k,F',h1,h2,h3,h4⟩
      · have hb' : Below w4.heap.size w4 w5:=⟨hb.os,hb.tape,hb.output,hb.size,hb.block⟩
        rcases HCASE.out with ⟨h1,_⟩ | ⟨h1,h2,h3⟩
        · exact absurd h1 hna
        · exact ⟨1,F,he,(Fr.of_below hb').toQ q,.inr (.inl ⟨hna,h2,rfl,h3,(H4.out.below hb').cnt (by omega) (by have:=HC.out; omega)⟩)⟩
      · rcases HCASE.out with ⟨g1,g2,g3⟩ | ⟨g1,_⟩
        · have h3' : Fr w4 w5 (Fq F q) (Fq F' q):=Fr.undrew h3
          rcases h4 with ⟨a,b,c⟩ | ⟨a,b,c,d⟩
          · exact ⟨0,F',b,h3',.inr (.inr ⟨ha,g2,g3,HLE.out,k,h1,h2,.inl ⟨a,rfl,by rw [g3]; exact c⟩⟩)⟩
          · exact ⟨11,F',c,h3',.inr (.inr ⟨ha,g2,g3,HLE.out,k,h1,h2,.inr ⟨a,b,rfl,d⟩⟩)⟩
        · exact absurd ha g1
     obtain ⟨E,F',rfl,hfr,hds⟩:=hkey
     have HFR5:=zA0 hfr
     have HDS:=zA0 hds
     have nq5 : ∀ k,w.heap.size<=k->¬ Fq F q k:=fun k hk e=>by rcases e with e | e; have:=HFL.out _ e; omega; have:=LQ.out; omega
     have G95 : w5.heap[b9]? = _:=(hfr.block b9 (zA1 G94.out) (nq5 b9 (by have:=HBN9.out; omega))).trans G94.out
     have g55 : w5.heap[w.heap.size + 1]? = _:=(hfr.block _ (zA1 G54.out) (nq5 _ (by omega))).trans G54.out
     have G65:=zA0 ((hfr.block _ (zA1 G64.out) (nq5 _ (by omega))).trans G64.out)
     have HCF5:=zA0 (CF.out w5 g55)
     have s5 : (fun wz:World=>wz.rangeAt b9 0 c2/\wz.cell? ⟨w.heap.size + 1,1,none⟩ = some (.bool all)/\wz.cell? ⟨w.heap.size + 1,6,none⟩ = some (.int .i64 t)/\wz.cell? ⟨w.heap.size + 1,7,none⟩ = some (.int .i64 v)/\wz.rangeAt (w.heap.size + 1) 9 [s0,s1,s2,s3,s4]) w5:=⟨zM5 G95,HCF5.out.2.1,HCF5.out.2.2.1,HCF5.out.2.2.2.1,HCF5.out.2.2.2.2.2⟩
     clear hpost hfr hds g55
     refine hK.out _ _ s5 (fun hHeld1=>?_)
     clear hK K
     try simp only [aPa,aPb,aPc,aPd]
     refine tkHc 10 rfl (by kernel_rfl) rfl (fun K hK=>?_)
     refine wp_store_row 39 (.tmp 6) (.tmp 30) rfl (w.heap.size + 2) c2.toArray rfl rfl 39 Z39 G65.out H2I.out (by rw [z8 HC2.out]; rfl) H2A.out ?_
     obtain ⟨w6,hw6⟩ : ∃ w6,w6 = w5.setRow (w.heap.size + 2) c2.toArray:=⟨_,rfl⟩
     rw [<- hw6]
     have HW6:=zA0 hw6
     have hk6 : ∀ j,j ≠ w.heap.size + 2->w6.heap[j]? = w5.heap[j]?:=fun j hj=>by rw [hw6]; exact setRow_other _ _ _ _ hj
     have s6 : (fun wz:World=>wz.rangeAt b9 0 c2/\wz.cell? ⟨w.heap.size + 1,1,none⟩ = some (.bool all)/\wz.cell? ⟨w.heap.size + 1,6,none⟩ = some (.int .i64 t)/\wz.cell? ⟨w.heap.size + 1,7,none⟩ = some (.int .i64 v)/\wz.rangeAt (w.heap.size + 1) 9 [s0,s1,s2,s3,s4]) w6:=by
      have g5:=HCF5.out
      have kb:=hk6 b9 (by have:=HBN9.out; omega)
      have kc : ∀ o,w6.cell? ⟨w.heap.size + 1,o,none⟩ = w5.cell? ⟨w.heap.size + 1,o,none⟩:=fun o=>World.cell?_of_block (a:=⟨w.heap.size + 1,o,none⟩) (hk6 (w.heap.size + 1) (by omega))
      exact ⟨zB1 s5.1 kb,(kc 1).trans s5.2.1,(kc 6).trans s5.2.2.1,(kc 7).trans s5.2.2.2.1,zB1 s5.2.2.2.2 (hk6 _ (by omega))⟩
     clear hw6 hk6
     refine hK.out _ _ s6 (fun hHeld2=>?_)
     clear hK K
     try simp only [aPb]
     refine tkHp 11 rfl (.int .i64 y) (by kernel_rfl) rfl (fun _ _ _=>id) hHeld2 (by intro w; go_simp) ?_
     try simp only [aPa,aPc,aPd]
     refine tkHp 12 rfl (.int .i64 E) (by kernel_rfl) rfl (fun _ _ _=>id) hHeld2 (by intro w; go_simp) ?_
     try simp only [aPa,aPc,aPd]
     refine wpAnyH_done (by kernel_rfl) ?_ _
     have G66 : Hid (w6.heap[w.heap.size + 2]? = some (.cells c2.toArray 39 (0,0))):=zA0 (by rw [HW6.out]; exact setRow_heap _ _ _ _ 39 _ G65.out)
     have hk6 : ∀ j,j ≠ w.heap.size + 2->w6.heap[j]? = w5.heap[j]?:=fun j hj=>by rw [HW6.out]; exact setRow_other _ _ _ _ hj
     have hs6 : w6.heap.size = w5.heap.size:=by rw [HW6.out]; simp [World.setRow]
     have HFR6 : Hid (Fr w w6 (Fq F q) (Fq F' q)):=zA0 ⟨by rw [HW6.out]; exact HFR5.out.os.trans HB04.out.os,by rw [HW6.out]; exact HFR5.out.tape.trans HB04.out.tape,by rw [HW6.out]; exact HFR5.out.output.trans HB04.out.output,by rw [hs6]; exact Nat.le_trans HB04.out.size HFR5.out.size,fun k hk hF=>(hk6 k (by omega)).trans ((HFR5.out.block k (Nat.lt_of_lt_of_le hk HB04.out.size) hF).trans (HB04.out.block k hk)),fun k hk=>by
      rcases HFR5.out.foot k hk with e | e
      · exact .inl e
      · exact .inr (Nat.le_trans HB04.out.size e)⟩
     have hnF6 : ¬ F' (w.heap.size + 2):=fun e=>HFR5.out.notF (zA1 G64.out) (fun e=>by rcases e with e | e; exact B6Q.out.2 e; exact B6Q.out.1 e) (.inl e)
     have HDS6 : Hid (DsR w6 q p cnt m ((true,all,crash,cut,n,pick,(t,v),vs,sn) : De) M sx y E F'):=zA0 (HDS.out.map (fun M m rf h=>by rw [HW6.out]; exact h.row G65.out (by decide) hnF6 B6Q.out.1 _))
     have HR6 : Hid (Rep w6 (fun k=>(R k\/w.heap.size<=k)/\Sw w6 F' q k) zB6 c2 (dec sx)):=zA0 (by
      have hP : ∀ k,(R k\/(w.heap.size + 3<=k/\k < w4.heap.size))->Sw w4 F q k/\k ≠ w.heap.size + 2:=fun k hk=>by
       rcases hk with hk | hk
       · exact ⟨⟨Nat.lt_of_lt_of_le (HRR.out k hk).1 HB04.out.size,(HRR.out k hk).2⟩,by have:=(HRR.out k hk).1; omega⟩
       · exact ⟨⟨hk.2,fun e=>by have:=HFL.out _ e; omega,by have:=LQ.out; omega⟩,by omega⟩
      refine HR4.out.kept (by rw [hs6]; exact HFR5.out.size) (fun k hk=>?_) (fun k hk=>?_)
      · obtain ⟨h1,h2⟩:=hP k hk
        exact (hk6 k h2).trans (HFR5.out.block k h1.1 (fun e=>by rcases e with e | e; exact h1.2.1 e; exact h1.2.2 e))
      · have h1:=HFR5.out.sw (hP k hk).1
        refine ⟨?_,by rw [hs6]; exact h1.1,h1.2⟩
        rcases hk with hk | hk
        · exact .inl hk
        · exact .inr (by omega))
     have HLX : Hid (sx.bs.length<=2097152):=zA0 (by have:=yD8 (s:=sx); have:=HLE.out; omega)
     clear hk6 hs6 hnF6
     go_wp2
     refine bodyPost_ret (v:=.tuple #[.agg c2.toArray,.int .i64 y,.int .i64 E]) ?_ rfl ⟨c2,sx,y,E,F',rfl,HFR6.out,HR6.out,HOKX.out,HLX.out,HDS6.out⟩
     exact xK1 _ _ (w.heap.size + 2) _ _ _ (z8 HC2.out) rfl rfl rfl G66.out
 | false =>
  obtain ⟨w1,hw1⟩ : ∃ w1,w1 = ((w.alloc (.cells cs.toArray 39)).alloc (.cells #[.bool false,.bool all,.bool crash,.bool cut,.int .i64 n,.int .i64 pick,.int .i64 t,.int .i64 v,.slice ea vl ec,s0,s1,s2,s3,s4] 54)).alloc (.cells Z39 39):=⟨_,rfl⟩
  have HB1 : Hid (Below w.heap.size w w1):=zA0 (by rw [hw1]; exact ((zB5 w _).alloc (by simp) _).alloc (by simp; omega) _)
  have HS1 : Hid (w1.heap.size = w.heap.size + 3):=zA0 (by rw [hw1]; simp)
  have G41 : Hid (w1.heap[w.heap.size]? = some (.cells cs.toArray 39 (0,0))):=zA0 (by rw [hw1]; exact (Below.heap_alloc _ _ _ (by simp; omega)).trans ((Below.heap_alloc _ _ _ (by simp)).trans (heap_alloc_new w _)))
  have G51 : Hid (w1.heap[w.heap.size + 1]? = some (.cells #[.bool false,.bool all,.bool crash,.bool cut,.int .i64 n,.int .i64 pick,.int .i64 t,.int .i64 v,.slice ea vl ec,s0,s1,s2,s3,s4] 54 (0,0))):=zA0 (by
   rw [hw1]
   refine (Below.heap_alloc _ _ _ (by simp)).trans ?_
   have:=heap_alloc_new (w.alloc (.cells cs.toArray 39)) (.cells #[.bool false,.bool all,.bool crash,.bool cut,.int .i64 n,.int .i64 pick,.int .i64 t,.int .i64 v,.slice ea vl ec,s0,s1,s2,s3,s4] 54)
   rwa [World.size_alloc] at this)
  have G61 : Hid (w1.heap[w.heap.size + 2]? = some (.cells Z39 39 (0,0))):=zA0 (by
   rw [hw1]
   have:=heap_alloc_new ((w.alloc (.cells cs.toArray 39)).alloc (.cells #[.bool false,.bool all,.bool crash,.bool cut,.int .i64 n,.int .i64 pick,.int .i64 t,.int .i64 v,.slice ea vl ec,s0,s1,s2,s3,s4] 54)) (.cells Z39 39)
   rwa [World.size_alloc,World.size_alloc] at this)
  have CF : Hid (∀ W : World,W.heap[w.heap.size + 1]? = some (.cells #[.bool false,.bool all,.bool crash,.bool cut,.int .i64 n,.int .i64 pick,.int .i64 t,.int .i64 v,.slice ea vl ec,s0,s1,s2,s3,s4] 54 (0,0))->W.cell? ⟨w.heap.size + 1,0,none⟩ = some (.bool false)/\W.cell? ⟨w.heap.size + 1,1,none⟩ = some (.bool all)/\W.cell? ⟨w.heap.size + 1,6,none⟩ = some (.int .i64 t)/\W.cell? ⟨w.heap.size + 1,7,none⟩ = some (.int .i64 v)/\W.cell? ⟨w.heap.size + 1,8,none⟩ = some (.slice ea vl ec)/\W.rangeAt (w.heap.size + 1) 9 [s0,s1,s2,s3,s4]):=zA0 (fun W g=>by
   refine ⟨?_,?_,?_,?_,?_,fun j u hu=>?_⟩
   all_goals try (rw [cell_of_row _ _ _ _ 54 (0,0) g]; rfl)
   rw [cell_of_row _ _ _ _ 54 (0,0) g]
   match j,hu with
   | 0,hu=>exact hu
   | 1,hu=>exact hu
   | 2,hu=>exact hu
   | 3,hu=>exact hu
   | 4,hu=>exact hu
   | j + 5,hu=>simp at hu)
  have hcf:=CF.out w1 G51.out
  obtain ⟨d0,d1,d6,d7,d8,dr⟩:=hcf
  have DR:=zA0 dr
  have l5:=zA1 G51.out
  have e9 : w1.cell? ⟨w.heap.size + 1,9,none⟩ = some s0:=dr 0 s0 rfl
  have e10 : w1.cell? ⟨w.heap.size + 1,10,none⟩ = some s1:=dr 1 s1 rfl
  have e11 : w1.cell? ⟨w.heap.size + 1,11,none⟩ = some s2:=dr 2 s2 rfl
  have e12 : w1.cell? ⟨w.heap.size + 1,12,none⟩ = some s3:=dr 3 s3 rfl
  have e13 : w1.cell? ⟨w.heap.size + 1,13,none⟩ = some s4:=dr 4 s4 rfl
  clear dr
  have K1 : Hid (∀ k,R k->w1.heap[k]? = w.heap[k]?):=zA0 (fun k hk=>HB1.out.block k (HRR.out k hk).1)
  have L1 : Hid (∀ k,R k->k < w1.heap.size):=zA0 (fun k hk=>Nat.lt_of_lt_of_le (HRR.out k hk).1 HB1.out.size)
  have HDOC:=zA0 (yO5 R cs m t v ea vl ec vs w1 (HR.out.kept HB1.out.size K1.out (fun _ h=>h)) L1.out (HRL.out.kept HB1.out.size K1.out (fun _ h=>h)) HVL.out H.out.okd H.out.len HX1.out HX2.out)
  go_enter Tryz.func19,Tryz.ntmps19
  go_upto_region 1 with (fail)
  have hw1z:=hw1
  unfold Z39 at hw1z
  rw [<- hw1z]
  clear hw1 hw1z
  go_wp2_with (first
   | (refine wpList_load_row rfl 39 (.tmp 4) rfl w.heap.size rfl 39 cs.toArray (0,0) _ G41.out Tryz.underlying39 rfl HCI.out ?_)
   | (refine wpList_load_mid rfl 36 (.tmp 19) rfl (w.heap.size + 1) 9 rfl [s0,s1,s2,s3,s4] _ DR.out Tryz.underlying36 rfl (by kernel_rfl) ?_))
  refine Calls.mono HDOC.out ?_
  rintro e w2 ⟨c2,y,sx,rfl,hr2,hB2,hcase⟩
  have HCASE : Hid ((accD m ((false,all,crash,cut,n,pick,(t,v),vs,sn) : De)/\y = 0/\sx = nxD m ((false,all,crash,cut,n,pick,(t,v),vs,sn) : De))\/(¬ accD m ((false,all,crash,cut,n,pick,(t,v),vs,sn) : De)/\y = 1/\sx = m)):=zA0 hcase
  have hokx : Okd sx:=by rcases hcase with ⟨h1,_,h2⟩ | ⟨_,_,h2⟩; rw [h2]; exact zK3 H.out.okd h1; rw [h2]; exact H.out.okd
  have hlnx : sx.bs.length<=4194304:=by
   have:=H.out.len
   rcases hcase with ⟨h1,_,h2⟩ | ⟨_,_,h2⟩
   · rw [h2]; have:=xV3 (m:=m) (t:=t) (v:=v) (vs:=vs); have:=HX1.out; omega
   · rw [h2]; omega
  have HOKX:=zA0 hokx
  have HLNX:=zA0 hlnx
  have hc2 : c2.length = 8:=hr2.len
  have HC2:=zA0 hc2
  have H2A : Hid (c2.toArray.all (·.oneCell') = true):=hr2.all
  have H2I : Hid ((Tryz.prog.info? 39).map (·.size) = some c2.toArray.size):=by show _ = _; rw [z8 hc2]; exact zC1
  have H2J : Hid ((Tryz.prog.info? 39).map (·.size) = some c2.length):=by show _ = _; rw [hc2]; exact zC1
  have HR2:=zA0 hr2
  have HB12:=zA0 hB2
  have HB02:=zA0 (HB1.out.trans (hB2.mono HB1.out.size))
  have G42:=zA0 ((hB2.block _ (zA1 G41.out)).trans G41.out)
  have G52:=zA0 ((hB2.block _ (zA1 G51.out)).trans G51.out)
  have G62:=zA0 ((hB2.block _ (zA1 G61.out)).trans G61.out)
  clear hcase hokx hlnx hc2 hr2 hB2 d0 d1 d6 d7 d8 e9 e10 e11 e12 e13 l5 HDOC
  obtain ⟨b9,hb9⟩ : ∃ b9,b9 = w2.heap.size:=⟨_,rfl⟩
  go_wp2_with (refine zA5 rfl 39 (.tmp 11) (.tmp 47) rfl w2.heap.size c2.toArray rfl rfl 39 Z39 (heap_alloc_new w2 (.cells Z39 39)) H2I.out (by rw [z8 HC2.out]; rfl) H2A.out ?nz)
  case nz =>
   intro w3 hw3h
   have hw3:=hw3h.out
   have hB23 : Below w2.heap.size w2 w3:=by rw [hw3]; exact ((Below.refl _ _).alloc (Nat.le_refl _) _).trans ⟨rfl,rfl,rfl,by simp [World.setRow],fun k hk=>setRow_other _ _ _ _ (by omega)⟩
   have G93 : Hid (w3.heap[b9]? = some (.cells c2.toArray 39 (0,0))):=zA0 (by rw [hw3,hb9]; exact setRow_heap _ _ _ _ 39 _ (heap_alloc_new w2 _))
   rw [<- hb9]
   have HBN9 : Hid (w.heap.size + 3<=b9):=zA0 (by rw [hb9,<- HS1.out]; exact HB12.out.size)
   have HB03:=zA0 (HB02.out.trans (hB23.mono HB02.out.size))
   have G43:=zA0 ((hB23.block _ (zA1 G42.out)).trans G42.out)
   have G53:=zA0 ((hB23.block _ (zA1 G52.out)).trans G52.out)
   have G63:=zA0 ((hB23.block _ (zA1 G62.out)).trans G62.out)
   have HR3 : Hid (Rep w3 (fun k=>R k\/(w.heap.size + 3<=k/\k < w3.heap.size)) zB6 c2 (dec sx)):=zA0 (HR2.out.kept hB23.size (fun k hk=>hB23.block k (by rcases hk with hk | hk; exact Nat.lt_of_lt_of_le (HRR.out k hk).1 HB02.out.size; exact hk.2.1)) (fun k hk=>by
    rcases hk with hk | hk
    · exact .inl hk
    · exact .inr ⟨by rw [<- HS1.out]; exact hk.1,Nat.lt_of_lt_of_le hk.2.1 hB23.size⟩))
   have HSZ:=zA0 (zX9 _ c2 sx w3 HR3.out (fun k hk=>by rcases hk with hk | hk; exact Nat.lt_of_lt_of_le (HRR.out k hk).1 HB03.out.size; exact hk.2) HOKX.out HLNX.out)
   clear hw3 hw3h hB23 hb9 G42 G52 G62 HR2
   go_wp2_with (refine wpList_load_row rfl 39 (.tmp 11) rfl b9 rfl 39 c2.toArray (0,0) _ G93.out Tryz.underlying39 rfl H2I.out ?_)
   refine Calls.mono HSZ.out ?_
   rintro e w4 ⟨rfl,hB4⟩
   have HB04:=zA0 (HB03.out.trans (hB4.mono HB03.out.size))
   have G44:=zA0 ((hB4.block _ (zA1 G43.out)).trans G43.out)
   have G54:=zA0 ((hB4.block _ (zA1 G53.out)).trans G53.out)
   have G64:=zA0 ((hB4.block _ (zA1 G63.out)).trans G63.out)
   have G94:=zA0 ((hB4.block _ (zA1 G93.out)).trans G93.out)
   have HR4 : Hid (Rep w4 (fun k=>R k\/(w.heap.size + 3<=k/\k < w4.heap.size)) zB6 c2 (dec sx)):=zA0 (HR3.out.kept hB4.size (fun k hk=>hB4.block k (by rcases hk with hk | hk; exact Nat.lt_of_lt_of_le (HRR.out k hk).1 HB03.out.size; exact hk.2)) (fun k hk=>by
    rcases hk with hk | hk
    · exact .inl hk
    · exact .inr ⟨hk.1,Nat.lt_of_lt_of_le hk.2 hB4.size⟩))
   have H4:=zA0 (H.out.below HB04.out)
   obtain ⟨sz,hsz⟩ : ∃ sz,sz = zR1 sx:=⟨_,rfl⟩
   rw [<- hsz]
   have HSZE:=zA0 hsz
   clear hB4 hsz HSZ G43 G53 G63 G93 HR3
   have B6Q : Hid (w.heap.size + 2 ≠ q/\¬ F (w.heap.size + 2)):=zA0 ⟨by have:=LQ.out; omega,fun e=>by have:=HFL.out _ e; omega⟩
   by_cases hbig : (1048576:Int) < (sz:Int)
   · go_wp2_with (first
       | (refine wpList_load_row rfl 39 (.tmp 4) rfl w.heap.size rfl 39 cs.toArray (0,0) _ G44.out Tryz.underlying39 rfl HCI.out ?_)
       | (refine zA5 rfl 39 (.tmp 6) (.tmp 52) rfl (w.heap.size + 2) cs.toArray rfl rfl 39 Z39 G64.out HCI.out (by rw [z8 HCL.out]; rfl) HCA.out ?ny))
     case ny =>
      intro w9 hw9h
      have G9 : Hid (w9.heap[w.heap.size + 2]? = some (.cells cs.toArray 39 (0,0))):=zA0 (by rw [hw9h.out]; exact setRow_heap _ _ _ _ 39 _ G64.out)
      have HB9 : Hid (Below w.heap.size w w9):=zA0 (HB04.out.trans (by rw [hw9h.out]; exact ⟨rfl,rfl,rfl,by simp [World.setRow],fun k hk=>setRow_other _ _ _ _ (by omega)⟩))
      clear hw9h
      go_wp2
      refine bodyPost_ret (v:=.tuple #[.agg cs.toArray,.int .i64 0,.int .i64 0]) ?_ rfl ⟨cs,m,0,0,F,rfl,(Fr.of_below HB9.out).toQ q,?_,H.out.okd,H.out.len,.inl ⟨rfl,rfl,rfl,(H.out.below HB9.out).cnt (by omega) (by have:=HC.out; omega)⟩⟩
      · exact xK1 _ _ (w.heap.size + 2) _ _ _ (z8 HCL.out) rfl rfl rfl G9.out
      · exact HR.out.kept HB9.out.size (fun k hk=>HB9.out.block k (HRR.out k hk).1) (fun k hk=>⟨.inl hk,Nat.lt_of_lt_of_le (HRR.out k hk).1 HB9.out.size,(HRR.out k hk).2⟩)
   · have HLE : Hid (zR1 sx<=1048576):=zA0 (by have:=HSZE.out; omega)
     have hcf4:=CF.out w4 G54.out
     have HCF4:=zA0 hcf4
     have HCODE:=zA0 (yG8 q p cnt M F m t v ea vl ec vs w4.drew (H4.out.below (Below.refl _ _).drew) HVL.out (HRL.out.kept HB04.out.size (fun k hk=>HB04.out.block k (HRR.out k hk).1) (fun k hk=>Nat.lt_of_lt_of_le (HRR.out k hk).1 HB04.out.size)) HX1.out HFW.out HC.out (fun ha=>by rcases HCASE.out with ⟨_,_,h2⟩ | ⟨h1,_⟩; have h3:=HLE.out; rw [h2] at h3; exact Nat.le_trans (zK3 H.out.okd ha).frl h3; exact absurd ha h1) (fun ha=>by rcases HCASE.out with ⟨_,_,h2⟩ | ⟨h1,_⟩; have h3:=HLE.out; rw [h2] at h3; have h4:=yD8 (s:=nxS m t v vs); have h5 : zR1 (nxS m t v vs)<=1048576:=h3; omega; exact absurd ha h1))
     clear hcf4
     go_upto_region 9 with (fail)
     refine wp_region_held_drew (S:=fun wz : World=>wz.rangeAt b9 0 c2/\wz.cell? ⟨w.heap.size + 1,6,none⟩ = some (.int .i64 t)/\wz.cell? ⟨w.heap.size + 1,7,none⟩ = some (.int .i64 v)/\wz.cell? ⟨w.heap.size + 1,8,none⟩ = some (.slice ea vl ec)) (by kernel_rfl) ⟨zM5 G94.out,HCF4.out.2.2.1,HCF4.out.2.2.2.1,HCF4.out.2.2.2.2.1⟩ (fun hHeld=>?_)
     refine tkHy 0 rfl (.agg c2.toArray) (by kernel_rfl) (fun _ _ _=>id) hHeld (yieldsIf_load_mid (by rfl) 39 (.tmp 11) rfl b9 0 rfl c2 _ (fun _ h=>h.1) Tryz.underlying39 rfl H2J.out) ?_
     try simp only [aPa,aPc,aPd]
     refine tkHp 1 rfl (.int .i64 y) (by kernel_rfl) rfl (fun _ _ _=>id) hHeld (by intro w; go_simp) ?_
     try simp only [aPa,aPc,aPd]
     refine tkHp 2 rfl (.pointer (some ⟨q,0,none⟩)) (by kernel_rfl) rfl (fun _ _ _=>id) hHeld (by intro w; go_simp) ?_
     try simp only [aPa,aPc,aPd]
     refine tkHp 3 rfl (.pointer (some ⟨w.heap.size + 1,6,none⟩)) (by kernel_rfl) rfl (fun _ _ _=>id) hHeld (by intro w; go_simp) ?_
     try simp only [aPa,aPc,aPd]
     refine tkH 4 rfl (.agg #[.int .i64 t,.int .i64 v]) (by kernel_rfl) rfl (fun _ _ _=>id) hHeld (by intro wz hSw; obtain ⟨e1,e2,e3,e4⟩:=hSw; clear e1 e4; go_simp) ?_
     try simp only [aPa,aPc,aPd]
     refine tkHp 5 rfl (.pointer (some ⟨w.heap.size + 1,8,none⟩)) (by kernel_rfl) rfl (fun _ _ _=>id) hHeld (by intro w; go_simp) ?_
     try simp only [aPa,aPc,aPd]
     refine tkH 6 rfl (.slice ea vl ec) (by kernel_rfl) rfl (fun _ _ _=>id) hHeld (by intro wz hSw; obtain ⟨e1,e2,e3,e4⟩:=hSw; clear e1 e2 e3; go_simp) ?_
     try simp only [aPa,aPc,aPd]
     refine tkHc 7 rfl (by kernel_rfl) rfl (fun K hK=>?_)
     go_simp
     refine Calls.mono HCODE.out ?_
     rintro e w5 hpost
     have hkey : ∃ E F',e = .returned (.int .i64 E)/\Fr w4 w5 (Fq F q) (Fq F' q)/\DsR w5 q p cnt m ((false,all,crash,cut,n,pick,(t,v),vs,sn) : De) M sx y E F':=by
      rcases hpost with ⟨hna,he,hb⟩ | ⟨ha,k,F',h1,h2,h3,h4⟩
      · have hb' : Below w4.heap.size w4 w5:=⟨hb.os,hb.tape,hb.output,hb.size,hb.block⟩
        rcases HCASE.out with ⟨h1,_⟩ | ⟨h1,h2,h3⟩
        · exact absurd h1 hna
        · exact ⟨1,F,he,(Fr.of_below hb').toQ q,.inr (.inl ⟨hna,h2,rfl,h3,(H4.out.below hb').cnt (by omega) (by have:=HC.out; omega)⟩)⟩
      · rcases HCASE.out with ⟨g1,g2,g3⟩ | ⟨g1,_⟩
        · have h3' : Fr w4 w5 (Fq F q) (Fq F' q):=Fr.undrew h3
          rcases h4 with ⟨a,b,c⟩ | ⟨a,b,c,d⟩
          · exact ⟨0,F',b,h3',.inr (.inr ⟨ha,g2,g3,HLE.out,k,h1,h2,.inl ⟨a,rfl,by rw [g3]; exact c⟩⟩)⟩
          · exact ⟨11,F',c,h3',.inr (.inr ⟨ha,g2,g3,HLE.out,k,h1,h2,.inr ⟨a,b,rfl,d⟩⟩)⟩
        · exact absurd ha g1
     obtain ⟨E,F',rfl,hfr,hds⟩:=hkey
     have HFR5:=zA0 hfr
     have HDS:=zA0 hds
     have nq5 : ∀ k,w.heap.size<=k->¬ Fq F q k:=fun k hk e=>by rcases e with e | e; have:=HFL.out _ e; omega; have:=LQ.out; omega
     have G95 : w5.heap[b9]? = _:=(hfr.block b9 (zA1 G94.out) (nq5 b9 (by have:=HBN9.out; omega))).trans G94.out
     have g55 : w5.heap[w.heap.size + 1]? = _:=(hfr.block _ (zA1 G54.out) (nq5 _ (by omega))).trans G54.out
     have G65:=zA0 ((hfr.block _ (zA1 G64.out) (nq5 _ (by omega))).trans G64.out)
     have HCF5:=zA0 (CF.out w5 g55)
     have s5 : (fun wz:World=>wz.rangeAt b9 0 c2/\wz.cell? ⟨w.heap.size + 1,6,none⟩ = some (.int .i64 t)/\wz.cell? ⟨w.heap.size + 1,7,none⟩ = some (.int .i64 v)/\wz.cell? ⟨w.heap.size + 1,8,none⟩ = some (.slice ea vl ec)) w5:=⟨zM5 G95,HCF5.out.2.2.1,HCF5.out.2.2.2.1,HCF5.out.2.2.2.2.1⟩
     clear hpost hfr hds g55
     refine hK.out _ _ s5 (fun hHeld1=>?_)
     clear hK K
     try simp only [aPa,aPb,aPc,aPd]
     refine tkHc 8 rfl (by kernel_rfl) rfl (fun K hK=>?_)
     refine wp_store_row 39 (.tmp 6) (.tmp 53) rfl (w.heap.size + 2) c2.toArray rfl rfl 39 Z39 G65.out H2I.out (by rw [z8 HC2.out]; rfl) H2A.out ?_
     obtain ⟨w6,hw6⟩ : ∃ w6,w6 = w5.setRow (w.heap.size + 2) c2.toArray:=⟨_,rfl⟩
     rw [<- hw6]
     have HW6:=zA0 hw6
     have hk6 : ∀ j,j ≠ w.heap.size + 2->w6.heap[j]? = w5.heap[j]?:=fun j hj=>by rw [hw6]; exact setRow_other _ _ _ _ hj
     have s6 : (fun wz:World=>wz.rangeAt b9 0 c2/\wz.cell? ⟨w.heap.size + 1,6,none⟩ = some (.int .i64 t)/\wz.cell? ⟨w.heap.size + 1,7,none⟩ = some (.int .i64 v)/\wz.cell? ⟨w.heap.size + 1,8,none⟩ = some (.slice ea vl ec)) w6:=by
      have g5:=HCF5.out
      have kb:=hk6 b9 (by have:=HBN9.out; omega)
      have kc : ∀ o,w6.cell? ⟨w.heap.size + 1,o,none⟩ = w5.cell? ⟨w.heap.size + 1,o,none⟩:=fun o=>World.cell?_of_block (a:=⟨w.heap.size + 1,o,none⟩) (hk6 (w.heap.size + 1) (by omega))
      exact ⟨zB1 s5.1 kb,(kc 6).trans s5.2.1,(kc 7).trans s5.2.2.1,(kc 8).trans s5.2.2.2⟩
     clear hw6 hk6
     refine hK.out _ _ s6 (fun hHeld2=>?_)
     clear hK K
     try simp only [aPb]
     refine tkHp 9 rfl (.int .i64 y) (by kernel_rfl) rfl (fun _ _ _=>id) hHeld2 (by intro w; go_simp) ?_
     try simp only [aPa,aPc,aPd]
     refine tkHp 10 rfl (.int .i64 E) (by kernel_rfl) rfl (fun _ _ _=>id) hHeld2 (by intro w; go_simp) ?_
     try simp only [aPa,aPc,aPd]
     refine wpAnyH_done (by kernel_rfl) ?_ _
     have G66 : Hid (w6.heap[w.heap.size + 2]? = some (.cells c2.toArray 39 (0,0))):=zA0 (by rw [HW6.out]; exact setRow_heap _ _ _ _ 39 _ G65.out)
     have hk6 : ∀ j,j ≠ w.heap.size + 2->w6.heap[j]? = w5.heap[j]?:=fun j hj=>by rw [HW6.out]; exact setRow_other _ _ _ _ hj
     have hs6 : w6.heap.size = w5.heap.size:=by rw [HW6.out]; simp [World.setRow]
     have HFR6 : Hid (Fr w w6 (Fq F q) (Fq F' q)):=zA0 ⟨by rw [HW6.out]; exact HFR5.out.os.trans HB04.out.os,by rw [HW6.out]; exact HFR5.out.tape.trans HB04.out.tape,by rw [HW6.out]; exact HFR5.out.output.trans HB04.out.output,by rw [hs6]; exact Nat.le_trans HB04.out.size HFR5.out.size,fun k hk hF=>(hk6 k (by omega)).trans ((HFR5.out.block k (Nat.lt_of_lt_of_le hk HB04.out.size) hF).trans (HB04.out.block k hk)),fun k hk=>by
      rcases HFR5.out.foot k hk with e | e
      · exact .inl e
      · exact .inr (Nat.le_trans HB04.out.size e)⟩
     have hnF6 : ¬ F' (w.heap.size + 2):=fun e=>HFR5.out.notF (zA1 G64.out) (fun e=>by rcases e with e | e; exact B6Q.out.2 e; exact B6Q.out.1 e) (.inl e)
     have HDS6 : Hid (DsR w6 q p cnt m ((false,all,crash,cut,n,pick,(t,v),vs,sn) : De) M sx y E F'):=zA0 (HDS.out.map (fun M m rf h=>by rw [HW6.out]; exact h.row G65.out (by decide) hnF6 B6Q.out.1 _))
     have HR6 : Hid (Rep w6 (fun k=>(R k\/w.heap.size<=k)/\Sw w6 F' q k) zB6 c2 (dec sx)):=zA0 (by
      have hP : ∀ k,(R k\/(w.heap.size + 3<=k/\k < w4.heap.size))->Sw w4 F q k/\k ≠ w.heap.size + 2:=fun k hk=>by
       rcases hk with hk | hk
       · exact ⟨⟨Nat.lt_of_lt_of_le (HRR.out k hk).1 HB04.out.size,(HRR.out k hk).2⟩,by have:=(HRR.out k hk).1; omega⟩
       · exact ⟨⟨hk.2,fun e=>by have:=HFL.out _ e; omega,by have:=LQ.out; omega⟩,by omega⟩
      refine HR4.out.kept (by rw [hs6]; exact HFR5.out.size) (fun k hk=>?_) (fun k hk=>?_)
      · obtain ⟨h1,h2⟩:=hP k hk
        exact (hk6 k h2).trans (HFR5.out.block k h1.1 (fun e=>by rcases e with e | e; exact h1.2.1 e; exact h1.2.2 e))
      · have h1:=HFR5.out.sw (hP k hk).1
        refine ⟨?_,by rw [hs6]; exact h1.1,h1.2⟩
        rcases hk with hk | hk
        · exact .inl hk
        · exact .inr (by omega))
     have HLX : Hid (sx.bs.length<=2097152):=zA0 (by have:=yD8 (s:=sx); have:=HLE.out; omega)
     clear hk6 hs6 hnF6
     go_wp2
     refine bodyPost_ret (v:=.tuple #[.agg c2.toArray,.int .i64 y,.int .i64 E]) ?_ rfl ⟨c2,sx,y,E,F',rfl,HFR6.out,HR6.out,HOKX.out,HLX.out,HDS6.out⟩
     exact xK1 _ _ (w.heap.size + 2) _ _ _ (z8 HC2.out) rfl rfl rfl G66.out
end
end Go.Proofs.YtocoimjhglackaaGreat
