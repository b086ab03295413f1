/- Rla, Vapp -/
import Derived.Test.YtocoimjhglackaaGreatK03
set_option maxHeartbeats 8000000
set_option maxRecDepth 100000
namespace Go.Proofs.YtocoimjhglackaaGreat
section
open Go.RowKit
def itP (P:Option (List UInt8)->Option (List UInt8)) : Nat->Option (List UInt8)->Option (List UInt8)
 | 0,s=>s
 | k + 1,s=>P (itP P k s)
def lstS (P:Option (List UInt8)->Option (List UInt8)) (s:Option (List UInt8)) : Option (List UInt8):=itP P (cntV 64 s) (cntS 64 s)
def bytS (s:Option (List UInt8)) : Option (List UInt8):=(cntS 65536 s).bind fun l=>if l.length < cntV 65536 s then none else some (l.drop (cntV 65536 s))
theorem RS.ext {a w w':World} {p:Nat} (h:RS a w p) (hb:Below a.heap.size w w') : RS a w' p :=
 ⟨hb.os.trans h.os,hb.tape.trans h.tape,hb.output.trans h.output,Nat.le_trans h.size hb.size,fun k hk hp=>(hb.block k hk).trans (h.block k hk hp)⟩
theorem RG.ext {D:Nat} {w w':World} {p B:Nat} {s:Option (List UInt8)} (h:RG D w p s) (hb:Below B w w') (hp:p < B) (hD:D<=B) : RG D w' p s:=by
 obtain ⟨h1,h2,f0,f1,h⟩:=h
 have e:=hb.block p hp
 refine ⟨Nat.lt_of_lt_of_le h1 hb.size,Nat.le_trans h2 hb.size,(World.frozen?_of_block (a:=⟨p,0,none⟩) e).trans f0,(World.frozen?_of_block (a:=⟨p,1,none⟩) e).trans f1,?_⟩
 cases s with
 | none=>exact ⟨(World.cell?_of_block (a:=⟨p,0,none⟩) e).trans h.1,(World.cell?_of_block (a:=⟨p,1,none⟩) e).trans h.2⟩
 | some l =>
  obtain ⟨a,cap,c0,c1,hc,hbs,hne⟩:=h
  exact ⟨a,cap,(World.cell?_of_block (a:=⟨p,0,none⟩) e).trans c0,(World.cell?_of_block (a:=⟨p,1,none⟩) e).trans c1,hc,hbs.below hb (fun x hx=>by have:=(hne x hx).2; omega),hne⟩
theorem zO7 {w w':World} {p base:Nat} {e:TypeId} {size:Nat} {v:Value} {n:Nat} {xs:List Value} (h:w.ownsRow base e size v n xs) (hs:RS w w' p) (hp:p < base) : w'.ownsRow base e size v n xs:=by
 refine ⟨h.1,?_⟩
 rcases h.2 with h2 | ⟨g,cap,cur,hv,hg,hh,r⟩
 · exact .inl h2
 · exact .inr ⟨g,cap,cur,hv,hg,by rw [hs.block g (Array.getElem?_eq_some_iff.1 hh).1 (by omega)]; exact hh,r⟩
theorem zG4 (w:World) (cs:Array Value) (e:TypeId) (j:Nat) (u:Value) (h:cs.toList[j]? = some u) : (w.alloc (.cells cs e)).cell? ((⟨w.heap.size,0,none⟩ : Addr).add j) = some u:=by
 rw [Addr.add_lit,cell_of_row _ _ _ cs e (0,0) (heap_alloc_new w _),Nat.zero_add]
 simpa using h
def kF7 (s:Option (List UInt8)) : Option (List UInt8):=numS (numS s)
def kJ8 (s:Option (List UInt8)) : Option (List UInt8):=lstS numS (lstS numS s)
def kJ4 (s:Option (List UInt8)) : Option (List UInt8):=numS (truS (kF7 (numS (numS (numS (numS (numS (numS (numS s)))))))))
def kG2 (s:Option (List UInt8)) : Option (List UInt8):=numS (numS s)
def kJ3 (s:Option (List UInt8)) : Option (List UInt8):=kF7 (numS s)
end
section
open Go.RowKit
theorem yY5 {P:Program} (w:World) (base:Nat) (t ty e:TypeId) (i:TypeInfo) (z:Value) (size bytes:Nat) (ht:P.underlying t = some (.slice e)) (hi:P.info? e = some i) (hz:i.zero = some z)
    (hsize:i.size = size) (hby:i.bytes = bytes)
    (v:Value) (n:Nat) (xs:List Value) (hown:w.ownsRow base e size v n xs)
    (a:Addr) (m c:Nat) (news:List Value) (hl:news.length = m * size) (hnews:∀ j u,news[j]? = some u->w.cell? (a.add j) = some u) (h1:∀ u ∈ news,u.oneCell' = true)
    (h63:n + m<=maxLen) (hbytes:(n + m) * bytes<=140737488355328) (v':Value) (w':World) (hr:(Builtin.append_ #[t,t] ty #[v,.slice (some a) m c]).run P w = .ok v' w') :
    v'.ownBlock = v.ownBlock\/v'.ownBlock = some w.heap.size:=by
 subst hsize
 subst hby
 have hsmall : n + m<=9223372036854775807:=by simp only [maxLen] at h63; omega
 rcases hown.2 with ⟨rfl,rfl⟩ | ⟨g,cap,cur,rfl,hbg,hg,hnc,hcm,hcs,htake⟩
 · by_cases hm : m = 0
   · subst hm
     have hn : news = []:=List.eq_nil_of_length_eq_zero (by simpa using hl)
     subst hn
     have : (Builtin.append_ #[t,t] ty #[.slice none 0 0,.slice (some a) 0 c]).run P w = .ok (.slice none 0 0) w:=by
      simp [Builtin.append_,run_underlying ht,sizeOf,typeInfo,hi,Builtin.lenOf,Builtin.firstCells,loadCells,loadCellsFrom]
     rw [this] at hr
     cases hr
     exact .inl rfl
   · have h:=run_append_nil (P:=P) w t ty e i z ht hi hz a m c news hl hnews (by omega) (by omega) (by have hb:=hbytes; simp only [Nat.zero_add] at hb; omega)
     rw [h] at hr
     cases hr
     exact .inr rfl
 · by_cases hroom : n + m<=cap
   · have hfit : n * i.size + news.length<=cur.size:=by rw [hl,hcs,<- Nat.add_mul]; exact Nat.mul_le_mul_right _ hroom
     have h:=run_append_room (P:=P) w t ty e i ht hi g n cap cur hg a m c news hl hnews h1 hroom hfit
     rw [h] at hr
     cases hr
     exact .inl rfl
   · have holds : ∀ j u,xs[j]? = some u->w.cell? ((⟨g,0,none⟩ : Addr).add j) = some u:=hown.cells (g:=g) rfl
     have h:=run_append_grow (P:=P) w t ty e i z ht hi hz ⟨g,0,none⟩ n cap xs hown.1 holds a m c news hl hnews (by omega) (by omega) (growslice_fits (by omega) hbytes)
     rw [h] at hr
     cases hr
     exact .inr rfl
theorem zF1 {P:Program} {ops:Array Oper} {rest:List Oper} {o:Oper} {a:Act} {Q:Exit->Act->World->Prop} (w:World) (hgd:o.guard = none) (s x:Operand) (t:TypeId)
    (ho:o.op = .call { callee:=.builtin .append,args:=#[s,x],argTypes:=#[t,t] })
    (base:Nat) (e:TypeId) (i:TypeInfo) (z:Value) (size bytes:Nat) (ht:P.underlying t = some (.slice e)) (hi:P.info? e = some i) (hz:i.zero = some z)
    (hsize:i.size = size) (hby:i.bytes = bytes) (hzs:z.cells.size = size) (hsz:0 < size)
    (v:Value) (n:Nat) (xs:List Value) (hs:a.eval s = v) (hown:w.ownsRow base e size v n xs)
    (ad:Addr) (m c:Nat) (news:List Value) (hx:a.eval x = .slice (some ad) m c) (hl:news.length = m * size) (hnews:∀ j u,news[j]? = some u->w.cell? (ad.add j) = some u) (h1:∀ u ∈ news,u.oneCell' = true)
    (h63:n + m<=maxLen) (hbytes:(n + m) * bytes<=140737488355328) (hbase:base<=w.heap.size)
    (h:∀ v' w',w'.ownsRow base e size v' (n + m) (xs ++ news)->w.grownBy w' v.ownBlock->(v'.ownBlock = v.ownBlock\/v'.ownBlock = some w.heap.size)->wpList P ops Q rest (a.put o.dst v') w') : wpList P ops Q (o :: rest) a w:=by
 refine wpList_plain hgd fun K hK=>?_
 obtain ⟨v',w',hr,h2,h3,_⟩:=run_append_own (P:=P) w base t o.type e i z size bytes ht hi hz hsize hby hzs hsz v n xs hown ad m c news hl hnews h1 h63 hbytes hbase
 have h4:=yY5 w base t o.type e i z size bytes ht hi hz hsize hby v n xs hown ad m c news hl hnews h1 h63 hbytes v' w' hr
 unfold Oper.wp execOp
 simp only [ho,resolve,invoke,builtin,Sem.run_bind,Sem.run_pure,Result.andThen_ok,List.map_toArray,List.map_cons,List.map_nil,hs,hx,hr]
 exact hK _ _ (h v' w' h2 h3 h4)
theorem zQ2 (m:Nat) (ess:List (List Value)) (h:∀ es ∈ ess,es.length = m) (i:Nat) (hi:i < ess.length) (j:Nat) (hj:j < m) : ess.flatten[i * m + j]? = ess[i][j]?:=by
 induction ess generalizing i with
 | nil=>simp at hi
 | cons e ess ih =>
  have he:=h e (by simp)
  cases i with
  | zero =>
   rw [List.flatten_cons,Nat.zero_mul,Nat.zero_add,List.getElem?_append_left (by omega)]; rfl
  | succ i =>
   rw [List.flatten_cons,List.getElem?_append_right (by rw [he,Nat.add_mul]; omega),he,show (i + 1) * m + j - m = i * m + j by rw [Nat.add_mul]; omega]
   exact ih (fun x hx=>h x (by simp [hx])) i (by simpa using hi)
def Uf (w:World) (b:Nat) : Prop:=∃ cs e,w.heap[b]? = some (.cells cs e (0,0))
def NBr (lo:Nat) (w':World) (b:Nat) : Prop:=lo<=b/\b < w'.heap.size/\Uf w' b
abbrev NB (w w':World) : Nat->Prop:=NBr w.heap.size w'
theorem Uf.to {w w':World} {b:Nat} (h:Uf w b) (e:w'.heap[b]? = w.heap[b]?) : Uf w' b:=by
 obtain ⟨cs,t,hc⟩:=h
 exact ⟨cs,t,e.trans hc⟩
theorem NBr.to {lo lo':Nat} {w w':World} {b:Nat} (h:NBr lo w b) (hs:w.heap.size<=w'.heap.size) (hb:∀ b,lo<=b->b < w.heap.size->w'.heap[b]? = w.heap[b]?) (hl:lo'<=lo) : NBr lo' w' b :=
 ⟨Nat.le_trans hl h.1,Nat.lt_of_lt_of_le h.2.1 hs,h.2.2.to (hb b h.1 h.2.1)⟩
theorem Rep.keptN {lo lo':Nat} {w w':World} {f:Fm} {cs:List Value} {v:Vl f} (h:Rep w (NBr lo w) f cs v) (hs:w.heap.size<=w'.heap.size) (hb:∀ b,lo<=b->b < w.heap.size->w'.heap[b]? = w.heap[b]?) (hl:lo'<=lo) : Rep w' (NBr lo' w') f cs v :=
 h.kept hs (fun b x=>hb b x.1 x.2.1) (fun _ x=>x.to hs hb hl)
theorem RepL.keptN {lo lo':Nat} {w w':World} {f:Fm} {a:Option Addr} {vs:List (Vl f)} (h:RepL w (NBr lo w) f a vs) (hs:w.heap.size<=w'.heap.size) (hb:∀ b,lo<=b->b < w.heap.size->w'.heap[b]? = w.heap[b]?) (hl:lo'<=lo) : RepL w' (NBr lo' w') f a vs :=
 h.kept hs (fun b x=>hb b x.1 x.2.1) (fun _ x=>x.to hs hb hl)
theorem RepB.keptN {lo lo':Nat} {w w':World} {a:Option Addr} {l:List UInt8} (h:RepB w (NBr lo w) a l) (hs:w.heap.size<=w'.heap.size) (hb:∀ b,lo<=b->b < w.heap.size->w'.heap[b]? = w.heap[b]?) (hl:lo'<=lo) : RepB w' (NBr lo' w') a l :=
 h.kept hs (fun b x=>hb b x.1 x.2.1) (fun _ x=>x.to hs hb hl)
theorem Own.uf {w:World} {v:Value} {l:List UInt8} (h:Own w v l) : ∀ k,v.ownBlock = some k->Uf w k:=by
 intro k hk
 rcases h with ⟨rfl,_⟩ | ⟨g,cap,cur,rfl,hg,rest⟩
 · simp [Value.ownBlock] at hk
 · simp [Value.ownBlock] at hk
   subst hk
   exact ⟨_,_,hg⟩
def zE4 (w wr:World) (f:Fm) (v:Value) (xs:List Value) (vals:List (Vl f)) : Prop :=
 ∃ ess : List (List Value),xs = ess.flatten/\ess.length = vals.length/\∀ i (h1:i < ess.length) (h2:i < vals.length),Rep wr (fun b=>NB w wr b/\v.ownBlock ≠ some b) f ess[i] vals[i]
theorem zE4.nil (w wr:World) (f:Fm) (v:Value) : zE4 w wr f v [] []:=⟨[],rfl,rfl,fun i h1=>by simp at h1⟩
theorem zE4.rs {w wr w2:World} {f:Fm} {v:Value} {xs:List Value} {vals:List (Vl f)} {p:Nat} (h:zE4 w wr f v xs vals) (hs:RS wr w2 p) (hp:p < w.heap.size) : zE4 w w2 f v xs vals:=by
 obtain ⟨ess,h1,h2,h3⟩:=h
 refine ⟨ess,h1,h2,fun i a b=>(h3 i a b).kept hs.size (fun k hk=>hs.block k hk.1.2.1 (by have:=hk.1.1; omega)) (fun k hk=>⟨⟨hk.1.1,Nat.lt_of_lt_of_le hk.1.2.1 hs.size,hk.1.2.2.to (hs.block k hk.1.2.1 (by have:=hk.1.1; omega))⟩,hk.2⟩)⟩
theorem zE4.more {w w2 w2' w3:World} {f:Fm} {v v3:Value} {xs es:List Value} {vals:List (Vl f)} {x:Vl f} {wr:World} (h:zE4 w w2 f v xs vals) (hx:Rep w2 (NB wr w2) f es x) (hwr:w.heap.size<=wr.heap.size) (hv:∀ k,v.ownBlock = some k->k < wr.heap.size)
    (hb:Below w2.heap.size w2 w2') (hg:w2'.grownBy w3 v.ownBlock) (ho:v3.ownBlock = v.ownBlock\/v3.ownBlock = some w2'.heap.size) : zE4 w w3 f v3 (xs ++ es) (vals ++ [x]):=by
 obtain ⟨ess,h1,h2,h3⟩:=h
 have hsz : w2.heap.size<=w3.heap.size:=Nat.le_trans hb.size hg.size
 have blk : ∀ k,k < w2.heap.size->v.ownBlock ≠ some k->w3.heap[k]? = w2.heap[k]?:=fun k hk hne=>(hg.block k (Nat.lt_of_lt_of_le hk hb.size) (fun e=>hne e.symm)).trans (hb.block k hk)
 have own : ∀ k,k < w2.heap.size->v.ownBlock ≠ some k->v3.ownBlock ≠ some k:=by
  intro k hk hne e
  rcases ho with ho | ho
  · rw [ho] at e; exact hne e
  · rw [ho] at e; cases e; have:=hb.size; omega
 refine ⟨ess ++ [es],by rw [h1,List.flatten_append]; simp,by simp [h2],fun i a b=>?_⟩
 by_cases hi : i < ess.length
 · have hi2 : i < vals.length:=by omega
   rw [List.getElem_append_left hi,List.getElem_append_left hi2]
   exact (h3 i hi hi2).kept hsz (fun k hk=>blk k hk.1.2.1 hk.2) (fun k hk=>⟨⟨hk.1.1,Nat.lt_of_lt_of_le hk.1.2.1 hsz,hk.1.2.2.to (blk k hk.1.2.1 hk.2)⟩,own k hk.1.2.1 hk.2⟩)
 · have e1 : i = ess.length:=by simp at a; omega
   subst e1
   rw [List.getElem_append_right (Nat.le_refl _)]
   have e2 : (vals ++ [x])[ess.length] = x:=by simp [h2]
   rw [e2]
   simp only [Nat.sub_self,List.getElem_cons_zero]
   have nv : ∀ k,wr.heap.size<=k->v.ownBlock ≠ some k:=fun k hk e=>by have:=hv k e; omega
   exact hx.kept hsz (fun k hk=>blk k hk.2.1 (nv k hk.1)) (fun k hk=>⟨⟨Nat.le_trans hwr hk.1,Nat.lt_of_lt_of_le hk.2.1 hsz,hk.2.2.to (blk k hk.2.1 (nv k hk.1))⟩,own k hk.2.1 (nv k hk.1)⟩)
theorem zE4.done {w wr:World} {f:Fm} {e:TypeId} {v:Value} {xs:List Value} {vals:List (Vl f)} (h:zE4 w wr f v xs vals) (ho:wr.ownsRow w.heap.size e (wd f) v vals.length xs) (hb:vals.length<=64) :
    ∃ a c,v = .slice a vals.length c/\RepL wr (NB w wr) f a vals:=by
 obtain ⟨ess,h1,h2,h3⟩:=h
 rcases ho.2 with ⟨rfl,hn⟩ | ⟨g,cap,cur,rfl,hbg,hg,hnc,hcm,hcs,htake⟩
 · have : vals = []:=List.eq_nil_of_length_eq_zero hn
   subst this
   exact ⟨none,0,rfl,by simp,fun h=>absurd rfl h⟩
 · refine ⟨_,cap,rfl,by omega,fun _=>⟨g,0,rfl,⟨hbg,(Array.getElem?_eq_some_iff.1 hg).1,_,_,hg⟩,fun i hi=>?_⟩⟩
   have hie : i < ess.length:=by omega
   refine ⟨ess[i],(h3 i hie hi).kept (Nat.le_refl _) (fun _ _=>rfl) (fun _ hk=>hk.1),fun j u hu=>?_⟩
   have hel : ∀ es ∈ ess,es.length = wd f:=by
    intro es hes
    obtain ⟨q,hq,rfl⟩:=List.getElem_of_mem hes
    exact (h3 q hq (by omega)).len
   have hj : j < wd f:=by rw [<- hel ess[i] (List.getElem_mem hie)]; exact (List.getElem?_eq_some_iff.1 hu).1
   rw [cell_of_row wr g _ cur e (0,0) hg,Nat.zero_add]
   have:=zQ2 (wd f) ess hel i hie j hj
   rw [hu,<- h1,<- htake,List.getElem?_take] at this
   split at this
   · simpa using this
   · cases this
theorem zM1 (f:Fm) (s:Option (List UInt8)) (k:Nat) (hk:k<=cntV 64 s) (h:(deN (de f) k (cntS 64 s)).2 = none) : de (.lst f) s = ([],none):=by
 have:=yV0 (de f) (yG0 f) k (cntV 64 s - k) (cntS 64 s) h
 rw [show k + (cntV 64 s - k) = cntV 64 s by omega] at this
 rw [de,if_pos this]
theorem zG2 {α:Type} (g:Option (List UInt8)->α × Option (List UInt8)) (k:Nat) (s:Option (List UInt8)) : (deN g k s).1.length = k:=by
 induction k with
 | zero=>rfl
 | succ k ih=>rw [deN,List.length_append,ih]; rfl
end
end Go.Proofs.YtocoimjhglackaaGreat
