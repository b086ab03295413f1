/- Wge, Wgf -/
import Derived.Test.YtocoimjhglackaaGreatK29
set_option maxHeartbeats 8000000
set_option maxRecDepth 100000
namespace Go.Proofs.YtocoimjhglackaaGreat
section
open Go.RowKit Go.Maps
def Wb (w:World) (q p:Nat) (rf:Bool) (m:Sd) (sv ev:Value) : Prop:=w.heap[q]? = some (.cells #[.pointer (some ⟨p,0,none⟩),.bool rf,.int .i64 m.t,.int .i64 m.v,sv,.int .i64 m.base,ev] 98 (0,0))
def Sw (w:World) (F:Nat->Prop) (q:Nat) : Nat->Prop:=fun k=>k < w.heap.size/\¬ F k/\k ≠ q
structure WalR (w:World) (q p:Nat) (M:Md) (cnt:Nat) (F:Nat->Prop) (m:Sd) (rf:Bool) : Prop where
 blk : ∃ sv ev,Wb w q p rf m sv ev/\SnV w (Sw w F q) sv m.sn/\RowB w (Sw w F q) ev m.bs
 dsk : Dsk w p M cnt F
 nq : ¬ F q
 okd : Okd m
 len : m.bs.length<=2097152
theorem Wb.cells {w:World} {q p:Nat} {rf:Bool} {m:Sd} {sv ev:Value} (h:Wb w q p rf m sv ev) : w.cell? ⟨q,0,none⟩ = some (.pointer (some ⟨p,0,none⟩))/\w.cell? ⟨q,1,none⟩ = some (.bool rf)/\w.cell? ⟨q,2,none⟩ = some (.int .i64 m.t)/\w.cell? ⟨q,3,none⟩ = some (.int .i64 m.v)/\w.cell? ⟨q,4,none⟩ = some sv/\w.cell? ⟨q,5,none⟩ = some (.int .i64 m.base)/\w.cell? ⟨q,6,none⟩ = some ev/\q < w.heap.size/\∀ o,w.frozen? ⟨q,o,none⟩ = false:=by
 refine ⟨?_,?_,?_,?_,?_,?_,?_,zA1 h,fun o=>by simp [World.frozen?,show w.heap[q]? = _ from h]⟩ <;> rw [cell_of_row w q _ _ 98 (0,0) h] <;> rfl
theorem Wb.at {w:World} {S:Nat->Prop} {q p:Nat} {rf:Bool} {m:Sd} {sv ev:Value} (h:Wb w q p rf m sv ev) (h1:SnV w S sv m.sn) (h2:RowB w S ev m.bs) : zE7 w S q 2 m:=by
 obtain ⟨_,_,c2,c3,c4,c5,c6,_⟩:=h.cells
 refine ⟨_,⟨sv,ev,rfl,h1,h2⟩,fun j v hv=>?_⟩
 match j,hv with
 | 0,hv=>cases hv; exact c2
 | 1,hv=>cases hv; exact c3
 | 2,hv=>cases hv; exact c4
 | 3,hv=>cases hv; exact c5
 | 4,hv=>cases hv; exact c6
 | j + 5,hv=>simp at hv
theorem WalR.at {w:World} {q p:Nat} {M:Md} {cnt:Nat} {F:Nat->Prop} {m:Sd} {rf:Bool} (h:WalR w q p M cnt F m rf) : zE7 w (Sw w F q) q 2 m:=by
 obtain ⟨sv,ev,h1,h2,h3⟩:=h.blk
 exact h1.at h2 h3
theorem WalR.lq {w:World} {q p:Nat} {M:Md} {cnt:Nat} {F:Nat->Prop} {m:Sd} {rf:Bool} (h:WalR w q p M cnt F m rf) : q < w.heap.size:=by
 obtain ⟨sv,ev,h1,_⟩:=h.blk
 exact zA1 h1
theorem WalR.below {w w':World} {q p:Nat} {M:Md} {cnt:Nat} {F:Nat->Prop} {m:Sd} {rf:Bool} (h:WalR w q p M cnt F m rf) (hb:Below w.heap.size w w') : WalR w' q p M cnt F m rf:=by
 obtain ⟨sv,ev,h1,h2,h3⟩:=h.blk
 have hS : ∀ k,Sw w F q k->Sw w' F q k:=fun k hk=>⟨Nat.lt_of_lt_of_le hk.1 hb.size,hk.2.1,hk.2.2⟩
 exact ⟨⟨sv,ev,(hb.block q (zA1 h1)).trans h1,h2.kept (fun k hk=>hb.block k hk.1) hS,h3.kept hb.size (fun k hk=>hb.block k hk.1) hS⟩,h.dsk.below hb,h.nq,h.okd,h.len⟩
theorem yM1 (q p cnt:Nat) (M:Md) (F:Nat->Prop) (m:Sd) (rf:Bool) (w:World) (h:WalR w q p M cnt F m rf) : Calls Tryz.prog 20 #[.pointer (some ⟨q,0,none⟩)] w (SvP w m):=by
 have lq:=h.lq
 have hB:=zB5 w (.cells Z39 39)
 have hat : zE7 (w.alloc (.cells Z39 39)) (fun k=>k < w.heap.size) q 2 m:=h.at.kept hB.size (fun k hk=>hB.block k hk.1) (fun k hk=>hk.1) (hB.block q lq)
 have HSV:=zA0 (xB4 (fun k=>k < w.heap.size) q 2 m (w.alloc (.cells Z39 39)) hat (fun k hk=>by simp; omega) (by simp; omega) h.okd (by have:=h.len; omega))
 clear hat hB h
 go_enter Tryz.func20,Tryz.ntmps20
 go_wp2_with fail
 refine Calls.mono HSV.out ?_
 rintro e w1 ⟨cs,rfl,hrep,hb⟩
 have hcl : cs.toArray.size = Z39.size:=by rw [List.size_toArray,hrep.len]; rfl
 have HCS:=zA0 hcl
 have HCO : Hid (cs.toArray.all (·.oneCell') = true):=hrep.all
 have HCI : Hid ((Tryz.prog.info? 39).map (·.size) = some cs.toArray.size):=by show _ = _; rw [hcl]; exact zC1
 have HG : Hid (w1.heap[w.heap.size]? = some (.cells Z39 39 (0,0))):=zA0 ((hb.block _ (by simp)).trans (heap_alloc_new w _))
 have HREP:=zA0 hrep
 have HB:=zA0 hb
 clear hrep hb hcl HSV
 go_wp2_with (refine zA5 rfl 39 (.tmp 2) (.tmp 6) rfl w.heap.size cs.toArray rfl rfl 39 Z39 HG.out HCI.out HCS.out.symm HCO.out ?nz)
 case nz =>
  intro w9 hw9h
  have hw9:=hw9h.out
  have g9 : Hid (w9.heap[w.heap.size]? = some (.cells cs.toArray 39 (0,0))):=zA0 (by rw [hw9]; exact setRow_heap _ _ _ _ 39 _ HG.out)
  have k9 : ∀ j,j ≠ w.heap.size->w9.heap[j]? = w1.heap[j]?:=fun j hj=>by rw [hw9]; exact setRow_other _ _ _ _ hj
  have s9 : w9.heap.size = w1.heap.size:=by rw [hw9]; simp [World.setRow]
  have b9 : Below w.heap.size w1 w9:=by rw [hw9]; exact ⟨rfl,rfl,rfl,by simp [World.setRow],fun k hk=>setRow_other _ _ _ _ (by omega)⟩
  have HREP9 : Hid (Rep w9 (NBr w.heap.size w9) zB6 cs (dec m)):=zA0 (HREP.out.keptN (by rw [s9]; exact Nat.le_refl _) (fun j h1 h2=>k9 j (by simp at h1; omega)) (by simp))
  have HB9:=zA0 (((zB5 w (.cells Z39 39)).trans (HB.out.mono (by simp))).trans b9)
  clear hw9 hw9h k9 s9 b9
  go_wp2
  refine bodyPost_ret (v:=.agg cs.toArray) ?_ rfl ⟨cs,rfl,HREP9.out,HB9.out⟩
  refine results_cell_row Tryz.results20 _ _ w.heap.size 39 _ (0,0) _ ?_ g9.out Tryz.underlying39 rfl HCI.out
  rfl
end
section
open Go.RowKit Go.Maps
def Fq (F:Nat->Prop) (q:Nat) : Nat->Prop:=fun k=>F k\/k = q
theorem Fr.toQ {w w':World} {F F':Nat->Prop} (h:Fr w w' F F') (q:Nat) : Fr w w' (Fq F q) (Fq F' q):=⟨h.os,h.tape,h.output,h.size,fun k hk hF=>h.block k hk (fun e=>hF (.inl e)),fun k hk=>by
 rcases hk with e | e
 · rcases h.foot k e with e | e
   · exact .inl (.inl e)
   · exact .inr e
 · exact .inl (.inr e)⟩
theorem Fr.setQ {w w':World} {F F':Nat->Prop} {q:Nat} (h:Fr w w' (Fq F q) (Fq F' q)) (j:Nat) (v:Value) : Fr w (w'.setCell ⟨q,j,none⟩ v) (Fq F q) (Fq F' q) :=
 ⟨h.os,h.tape,h.output,by simpa using h.size,fun k hk hF=>(zB0 w' q j v k (fun e=>hF (.inr e))).trans (h.block k hk hF),h.foot⟩
theorem WalR.fail {w w1:World} {q p:Nat} {M M':Md} {cnt cnt':Nat} {F F':Nat->Prop} {m:Sd} {rf:Bool} (h:WalR w q p M cnt F m rf) (hf:Fr w w1 F F') (hd:Dsk (w1.setCell ⟨q,1,none⟩ (.bool true)) p M' cnt' F') : WalR (w1.setCell ⟨q,1,none⟩ (.bool true)) q p M' cnt' F' m true:=by
 obtain ⟨sv,ev,h1,h2,h3⟩:=h.blk
 have lq:=zA1 h1
 have hq1 : w1.heap[q]? = _:=(hf.block q lq h.nq).trans h1
 have hk : ∀ k,Sw w F q k->(w1.setCell ⟨q,1,none⟩ (.bool true)).heap[k]? = w.heap[k]?:=fun k hk=>(zB0 _ _ _ _ k hk.2.2).trans (hf.block k hk.1 hk.2.1)
 have hS : ∀ k,Sw w F q k->Sw (w1.setCell ⟨q,1,none⟩ (.bool true)) F' q k:=fun k hk=>⟨by simpa using Nat.lt_of_lt_of_le hk.1 hf.size,hf.notF hk.1 hk.2.1,hk.2.2⟩
 refine ⟨⟨sv,ev,?_,h2.kept hk hS,h3.kept (by simpa using hf.size) hk hS⟩,hd,hf.notF lq h.nq,h.okd,h.len⟩
 show _ = _
 rw [heap_setCell_same w1 q 1 _ 98 _ hq1]
 rfl
theorem WalR.setS {w w1:World} {q p:Nat} {M M':Md} {cnt cnt':Nat} {F F':Nat->Prop} {m nx:Sd} {rf:Bool} {sv ev:Value} (h:WalR w q p M cnt F m rf) (hf:Fr w w1 F F') (hd:Dsk w1 p M' cnt' F') (hs:zJ6 w (Sw w F q) [.int .i64 nx.t,.int .i64 nx.v,sv,.int .i64 nx.base,ev] nx) (hok:Okd nx) (hl:nx.bs.length<=2097152) : WalR (((((w1.setCell ⟨q,2,none⟩ (.int .i64 nx.t)).setCell ⟨q,3,none⟩ (.int .i64 nx.v)).setCell ⟨q,4,none⟩ sv).setCell ⟨q,5,none⟩ (.int .i64 nx.base)).setCell ⟨q,6,none⟩ ev) q p M' cnt' F' nx rf:=by
 obtain ⟨sv0,ev0,h1,_,_⟩:=h.blk
 have lq:=zA1 h1
 have hq1 : w1.heap[q]? = _:=(hf.block q lq h.nq).trans h1
 obtain ⟨sv',ev',e,h2,h3⟩:=hs
 cases e
 have ho : ∀ k,k ≠ q->(((((w1.setCell ⟨q,2,none⟩ (.int .i64 nx.t)).setCell ⟨q,3,none⟩ (.int .i64 nx.v)).setCell ⟨q,4,none⟩ sv).setCell ⟨q,5,none⟩ (.int .i64 nx.base)).setCell ⟨q,6,none⟩ ev).heap[k]? = w1.heap[k]?:=fun k hk =>
  (zB0 _ q 6 _ k hk).trans ((zB0 _ q 5 _ k hk).trans ((zB0 _ q 4 _ k hk).trans ((zB0 _ q 3 _ k hk).trans (zB0 w1 q 2 _ k hk))))
 have hk : ∀ k,Sw w F q k->(((((w1.setCell ⟨q,2,none⟩ (.int .i64 nx.t)).setCell ⟨q,3,none⟩ (.int .i64 nx.v)).setCell ⟨q,4,none⟩ sv).setCell ⟨q,5,none⟩ (.int .i64 nx.base)).setCell ⟨q,6,none⟩ ev).heap[k]? = w.heap[k]?:=fun k hk=>(ho k hk.2.2).trans (hf.block k hk.1 hk.2.1)
 have hS : ∀ k,Sw w F q k->Sw (((((w1.setCell ⟨q,2,none⟩ (.int .i64 nx.t)).setCell ⟨q,3,none⟩ (.int .i64 nx.v)).setCell ⟨q,4,none⟩ sv).setCell ⟨q,5,none⟩ (.int .i64 nx.base)).setCell ⟨q,6,none⟩ ev) F' q k:=fun k hk=>⟨by simpa using Nat.lt_of_lt_of_le hk.1 hf.size,hf.notF hk.1 hk.2.1,hk.2.2⟩
 have hnq:=hf.notF lq h.nq
 refine ⟨⟨sv,ev,?_,h2.kept hk hS,h3.kept (by simpa using hf.size) hk hS⟩,hd.keep (fun k hF=>ho k (fun e=>hnq (e ▸ hF))) (fun k cs t ht hj=>ho k (fun e=>?_)),hnq,hok,hl⟩
 · show _ = _
   rw [heap_setCell_same _ q 6 _ 98 _ (heap_setCell_same _ q 5 _ 98 _ (heap_setCell_same _ q 4 _ 98 _ (heap_setCell_same _ q 3 _ 98 _ (heap_setCell_same w1 q 2 _ 98 _ hq1))))]
   rfl
 · rw [e,hq1] at hj
   cases hj
   revert ht; decide
def SvO (w:World) (q p cnt:Nat) (F:Nat->Prop) (m nx:Sd) (acts:List Ax) (M:Md) (e:Ending) (w':World) : Prop:=∃ k F',k<=acts.length/\(∀ j,j < k->(runT acts j M).left ≠ 0)/\Fr w w' (Fq F q) (Fq F' q)/\((k = acts.length/\e = .returned (.int .i64 0)/\WalR w' q p (runT acts k M) (cnt + 4) F' nx false)\/(k < acts.length/\(runT acts k M).left = 0/\e = .returned (.int .i64 11)/\WalR w' q p (runT acts k M) (cnt + 4) F' m true))
def moS (t v:Int) (vs:List En) : Sd:=if vs = [] then ⟨t,v,none,0,[]⟩ else ⟨t,v,none,n0 vs - 1,bods vs⟩
def nxS (m:Sd) (t v:Int) (vs:List En) : Sd:=putB (setH m t v) (n0 vs) (bods vs)
def accS (m:Sd) (t v:Int) (vs:List En) : Prop:=okL m vs/\okN t/\okN v
theorem zW0 {vs:List En} : bods vs = [] ↔ vs = []:=by unfold bods; simp
theorem zR9 {m:Sd} {vs:List En} (h:okL m vs) (t v:Int) : Cont (setH m t v) (n0 vs) (bods vs):=by
 refine ⟨fun hne=>?_,fun i b hb=>?_⟩
 · obtain ⟨x,hx⟩ : ∃ x,vs[0]? = some x:=by
     cases vs with
     | nil=>exact absurd rfl (fun h=>hne (zW0.2 h))
     | cons y ys=>exact ⟨y,rfl⟩
   have:=h 0 x hx
   exact ⟨this.2.2.1,this.2.2.2⟩
 · unfold bods at hb
   rw [List.getElem?_map] at hb
   cases hv : vs[i]? with
   | none=>rw [hv] at hb; cases hb
   | some x =>
    rw [hv] at hb
    cases hb
    have:=h i x hv
    obtain ⟨g1,g2⟩:=yK8 this.1
    exact ⟨g1,by rw [g2]; exact this.2.1⟩
theorem zK3 {m:Sd} {t v:Int} {vs:List En} (hm:Okd m) (h:accS m t v vs) : Okd (nxS m t v vs):=xC6 ⟨h.2.1,h.2.2,hm.no,hm.sn,hm.base,hm.es⟩ (zR9 h.1 t v)
theorem zI4 {t v:Int} {vs:List En} : zC9 (moS t v vs) = yB1 t v (n0 vs) (bods vs):=by
 unfold moS
 split
 · rename_i e
   subst e
   unfold zC9 frS yB1
   simp [bods,frE]
 · unfold zC9 frS yB1
   simp only [List.append_nil]
   rw [show n0 vs - 1 + 1 = n0 vs by omega]
theorem xD5 {m:Sd} {t v:Int} {vs:List En} (h:accS m t v vs) (hm:Okd m) (hl:vs.length<=1048576) : FrOk (moS t v vs):=by
 unfold moS
 split
 · exact ⟨h.2.1,h.2.2,fun b hb=>(by cases hb),Int.le_refl _,by show (0:Int) + ((0:Nat) : Int)<=_; omega,fun b hb=>(by cases hb),by show (0:Nat)<=_; omega⟩
 · rename_i hne
   have hc:=zR9 h.1 t v
   have h1:=hc.1 (fun e=>hne (zW0.1 e))
   have hb0:=hm.base
   have hbl : (bods vs).length = vs.length:=by unfold bods; simp
   refine ⟨h.2.1,h.2.2,fun b hb=>(by cases hb),by show 0<=n0 vs - 1; have : (setH m t v).base = m.base:=rfl; omega,?_,fun b hb=>?_,by show (bods vs).length<=_; omega⟩
   · show n0 vs - 1 + ((bods vs).length : Int)<=_
     obtain ⟨n,hn⟩ : ∃ n,(bods vs).length = n + 1:=⟨(bods vs).length - 1,by have : 0 < vs.length:=List.length_pos_iff.2 hne; omega⟩
     obtain ⟨b,hb⟩ : ∃ b,(bods vs)[n]? = some b:=⟨_,List.getElem?_eq_getElem (by omega)⟩
     have h2:=hc.2 n b hb
     have h3:=xL4 h2.1 h2.2
     omega
   · obtain ⟨i,hi,rfl⟩:=List.getElem_of_mem hb
     exact zI3 (hc.2 i _ (List.getElem?_eq_getElem hi)).1
end
end Go.Proofs.YtocoimjhglackaaGreat
