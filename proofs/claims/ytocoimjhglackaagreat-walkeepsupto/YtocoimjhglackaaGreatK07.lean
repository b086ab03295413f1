/- Dfs, Dlv, Ddd -/
import Derived.Test.YtocoimjhglackaaGreatK06
set_option maxHeartbeats 8000000
set_option maxRecDepth 100000
namespace Go.Proofs.YtocoimjhglackaaGreat
section
open Go.RowKit Go.Maps
def nilV : Value:=.slice none 0 0
def vAt (D:DataW Value) (k:List UInt8) : Value:=match D.atKey (.string k) (.held (.slice none 0 0)) with
 | .held v=>v
 | _=>.slice none 0 0
theorem zP6 {D:DataW Value} (h:IsMap D) (k j:List UInt8) (v:Value) : vAt (D.put (.string k) (.held v)) j = if j = k then v else vAt D j:=by
 by_cases e : j = k
 · subst e
   rw [if_pos rfl]
   unfold vAt
   rw [atKey_put_same h (by simp [WideAt.IsKeyLit])]
 · rw [if_neg e]
   unfold vAt
   rw [atKey_put_other (by simpa using e)]
theorem yZ4 (D:DataW Value) (k j:List UInt8) : vAt (D.del (.string k)) j = if j = k then .slice none 0 0 else vAt D j:=by
 by_cases e : j = k
 · subst e
   rw [if_pos rfl]
   unfold vAt
   rw [atKey_del_same]
 · rw [if_neg e]
   unfold vAt
   rw [atKey_del_other (by simpa using e)]
theorem zZ2 {D:DataW Value} (h:IsMap D) (k j:List UInt8) (d:DataW Value) : Maps.has (D.put (.string k) d) (.string j) = (decide (j = k) || Maps.has D (.string j)):=by
 by_cases e : j = k
 · subst e
   rw [has_put_same h (by simp [WideAt.IsKeyLit])]
   simp
 · rw [has_put_other (by simpa using e)]
   simp [e]
theorem xW7 (D:DataW Value) (k j:List UInt8) : Maps.has (D.del (.string k)) (.string j) = (!decide (j = k) && Maps.has D (.string j)):=by
 by_cases e : j = k
 · subst e
   rw [has_del_same]
   simp
 · rw [has_del_other (by simpa using e)]
   simp [e]
theorem xP0 {D:DataW Value} {k:List UInt8} (h:Maps.has D (.string k) = false) : vAt D k = .slice none 0 0:=by
 unfold vAt
 rw [atKey_of_not_has h]
theorem MapR.isMap {w:World} {b n:Nat} {D:DataW Value} (h:MapR w b n D) : IsMap D:=World.ownsMap.isMap h
theorem MapR.look {w:World} {b n:Nat} {D:DataW Value} (h:MapR w b n D) (s:ByteArray) (hs:s.size<=maxLen) : (Instr.lookup 80 (.map (some b)) (.string s) false).run Tryz.prog w = .ok (vAt D s.data.toList) w:=by
 obtain ⟨v,ps,hrun,hv⟩:=World.ownsMap.lookup (t:=80) (e:=22) h law9 Tryz.underlying80 (z:=.slice none 0 0) (Tryz.zeroValue22 w) (zd:=.held (.slice none 0 0)) (zp:=[]) rfl (yC4 s hs)
 have e : DataW.atKey D (kOf s) (.held (.slice none 0 0)) = .held v:=by
  have:=congrArg (fun o=>o.map Prod.fst) hv
  simp [RV] at this
  exact this.symm
 have e2 : vAt D s.data.toList = v:=by
  unfold vAt
  have : DataW.atKey D (.string s.data.toList) (.held (.slice none 0 0)) = .held v:=e
  rw [this]
 rw [e2]
 exact hrun
theorem MapR.lookOk {w:World} {b n:Nat} {D:DataW Value} (h:MapR w b n D) (s:ByteArray) (hs:s.size<=maxLen) : (Instr.lookup 80 (.map (some b)) (.string s) true).run Tryz.prog w = .ok (.tuple #[vAt D s.data.toList,.bool (Maps.has D (.string s.data.toList))]) w:=by
 obtain ⟨v,ps,hrun,hv⟩:=World.ownsMap.look_ok (t:=80) (e:=22) h law9 Tryz.underlying80 (z:=.slice none 0 0) (Tryz.zeroValue22 w) (zd:=.held (.slice none 0 0)) (zp:=[]) rfl (yC4 s hs)
 have e : DataW.atKey D (kOf s) (.held (.slice none 0 0)) = .held v:=by
  have:=congrArg (fun o=>o.map Prod.fst) hv
  simp [RV] at this
  exact this.symm
 have e2 : vAt D s.data.toList = v:=by
  unfold vAt
  have : DataW.atKey D (.string s.data.toList) (.held (.slice none 0 0)) = .held v:=e
  rw [this]
 rw [e2]
 exact hrun
theorem MapR.lt {w:World} {b n:Nat} {D:DataW Value} (h:MapR w b n D) : b < w.heap.size:=World.ownsMap.lt h
theorem MapR.obj {w:World} {b n:Nat} {D:DataW Value} (h:MapR w b n D) : ∃ es c,w.heap[b]? = some (.map es c):=by
 obtain ⟨es,clock,hb,_⟩:=h
 exact ⟨es,clock,hb⟩
theorem MapR.kept {w w':World} {b n:Nat} {D:DataW Value} (h:MapR w b n D) (e:w'.heap[b]? = w.heap[b]?) : MapR w' b n D:=by
 obtain ⟨es,clock,hb,rest⟩:=h
 exact ⟨es,clock,e.trans hb,rest⟩
theorem SlR.ne_map {w:World} {v:Value} {l:List UInt8} (h:SlR w v l) {b n:Nat} {D:DataW Value} (hm:MapR w b n D) : v.ownBlock ≠ some b:=by
 intro e
 rcases h with ⟨rfl,_⟩ | ⟨g,cap,cur,rfl,hg,_⟩
 · cases e
 · obtain ⟨es,c,hb⟩:=hm.obj
   have : g = b:=by simpa [Value.ownBlock] using e
   rw [this,hb] at hg
   cases hg
theorem zR7 {o:Oper} {a:Act} {Q:Exit->Act->World->Prop} {K:Act->World->Prop} (w:World) (s x:Operand)
    (ho:o.op = .call { callee:=.builtin .append,args:=#[s,x],argTypes:=#[22,22] })
    (v:Value) (l:List UInt8) (hs:a.eval s = v) (hown:SlR w v l) (xv:Value) (news:List UInt8) (hx:a.eval x = xv) (hsrc:Src Tryz.prog 1 22 xv news.length (vals news) w) (hlen:l.length + news.length<=211106232532992)
    (h:∀ v' w',SlR w' v' (l ++ news)->App w w' none v v'->K (a.put o.dst v') w') : Oper.wp Tryz.prog o a w K Q:=by
 obtain ⟨i,hi,hz0,hz1,hz2⟩:=info_parts Tryz.info5
 obtain ⟨v',w',hr,h2,h3⟩:=yI5 (P:=Tryz.prog) o.type Tryz.underlying22 hi hz0 hz1 hz2 w v l hown xv news hsrc hlen
 unfold Oper.wp execOp
 simp only [ho,resolve,invoke,builtin,Sem.run_bind,Sem.run_pure,Result.andThen_ok,List.map_toArray,List.map_cons,List.map_nil,hs,hx,hr]
 exact h v' w' h2 h3
theorem zJ4 {o:Oper} {a:Act} {Q:Exit->Act->World->Prop} {K:Act->World->Prop} (w:World) (m x v:Operand)
    (hop:o.op = Op.mapUpdate 80 m x v) (b n:Nat) (D:DataW Value) (hm:a.eval m = .map (some b)) (hown:MapR w b n D) (hn:n < maxLen) (s:ByteArray) (hs:s.size<=maxLen) (val:Value) (hx:a.eval x = .string s) (hv:a.eval v = val)
    (h:∀ w',MapR w' b (n + 1) (D.put (.string s.data.toList) (.held val))->w.mapTurned w' b->K (a.put o.dst undef) w') : Oper.wp Tryz.prog o a w K Q:=by
 obtain ⟨w',hrun,r1,r2⟩:=World.ownsMap.store (t:=80) (e:=22) hown law9 Tryz.underlying80 hn (yC4 s hs) (val:=val) (d:=.held val) (ps:=[]) rfl
 unfold Oper.wp
 simp [execOp,hop,hm,hx,hv,hrun,Result.andThen]
 exact h w' r1 r2
theorem yV2 (a:Option Addr) (n cap:Nat) (w:World) (h:n<=cap) (ha:a = none->n = 0/\cap = 0) (hm:n<=maxLen) : Calls Tryz.prog 46 #[.slice a n cap] w fun e w'=>e = .returned (.slice a n n)/\w' = w:=by
 unfold maxLen at hm
 cases a with
 | none =>
  obtain ⟨rfl,rfl⟩:=ha rfl
  go_enter Tryz.func46,Tryz.ntmps46
  go_wp2
  go_ret
  exact ⟨rfl,rfl⟩
 | some a =>
  go_enter Tryz.func46,Tryz.ntmps46
  go_wp2
  go_ret
  exact ⟨rfl,rfl⟩
theorem App.undrew {w w':World} {b:Option Nat} {v v':Value} (h:App w.drew w' b v v') : App w w' b v v':=⟨h.os,h.tape,h.output,h.size,h.block,h.part,h.new⟩
theorem zA1 {w:World} {k:Nat} {o:Obj} (h:w.heap[k]? = some o) : k < w.heap.size:=(Array.getElem?_eq_some_iff.1 h).1
theorem SlR.ne_cells {w:World} {v:Value} {l:List UInt8} (h:SlR w v l) {b:Nat} {cs:Array Value} {t:TypeId} {f:Nat × Nat} (hb:w.heap[b]? = some (.cells cs t f)) (ht:t ≠ 5) : v.ownBlock ≠ some b:=by
 intro e
 rcases h with ⟨rfl,_⟩ | ⟨g,cap,cur,rfl,hg,_⟩
 · cases e
 · have : g = b:=by simpa [Value.ownBlock] using e
   rw [this,hb] at hg
   cases hg
   exact ht rfl
theorem zJ3 {w:World} {k:Nat} {v:Value} {t:TypeId} (h:w.heap[k]? = some (.cells #[v] t (0,0))) : w.cell? ⟨k,0,none⟩ = some v:=by
 rw [cell_of_row w k 0 _ t (0,0) h]
 rfl
theorem xO6 (l:List UInt8) (u j:Nat) (h:j < (l.take u).length) : bat (l.take u) j = bat l j:=by
 have h2 : j < u/\j < l.length:=by rw [List.length_take] at h; omega
 simp [bat,bn,List.getD,h2.1]
theorem Bs.take {w:World} {a:Option Addr} {l:List UInt8} (h:Bs w a l) (u:Nat) : Bs w a (l.take u):=by
 refine ⟨by have:=h.1; rw [List.length_take]; omega,fun hne=>?_⟩
 obtain ⟨b,off,rfl,hlt,hc⟩:=h.2 (fun e=>hne (by rw [e]; simp))
 exact ⟨b,off,rfl,hlt,fun j hj=>by rw [xO6 l u j hj]; exact hc j (by rw [List.length_take] at hj; omega)⟩
theorem SlR.drew {w:World} {v:Value} {l:List UInt8} (h:SlR w v l) : SlR w.drew v l:=h
theorem kF3 (b n p1 q1:Nat) (D:DataW Value) (own:ByteArray) (az:Option Addr) (zc u:Nat) (l data:List UInt8) (w:World) (hm:MapR w b n D) (hn:n < maxLen) (o1:w.heap[p1]? = some (.cells #[.string own] 9 (0,0))) (ho:own.size<=maxLen) (o2:w.heap[q1]? = some (.cells #[.slice az data.length zc] 22 (0,0)))
    (hx:SlR w (vAt D own.data.toList) l) (hz:SlR w (.slice az data.length zc) data) (hl:l.length + data.length<=1099511627776) (_hu:u<=1099511627776) :
    Calls Tryz.prog 31 #[.map (some b),.int .i64 (u:Int),.pointer (some ⟨p1,0,none⟩),.pointer (some ⟨q1,0,none⟩)] w fun e w'=>e = .returned (.tuple #[])/\∃ x',SlR w' x' (l ++ data.take u)/\MapR w' b (n + 1) (D.put (.string own.data.toList) (.held x'))/\App w w' (some b) (vAt D own.data.toList) x':=by
 have HM:=zA0 hm
 have HX:=zA0 hx
 have HZ:=zA0 hz
 have hzc : data.length<=zc:=by obtain ⟨a',c',e,h1,_⟩:=hz.form; cases e; exact h1
 have hdl : data.length<=1099511627776:=by omega
 have HS : Hid (Src Tryz.prog 1 22 (.slice az (min u data.length) zc) (data.take u).length (vals (data.take u)) w.drew):=by
  obtain ⟨a',c',e,h1,hB⟩:=hz.form
  cases e
  have:=((hB (by omega)).take u).drew.src Tryz.underlying22 zc
  rw [List.length_take] at this ⊢
  exact zA0 this
 have HLEN : Hid (l.length + (data.take u).length<=211106232532992):=zA0 (by rw [List.length_take]; omega)
 have O1:=zA0 o1
 have O2:=zA0 o2
 have c1:=zJ3 o1
 have c2:=zJ3 o2
 clear hm hx hz o1 o2
 go_enter Tryz.func31,Tryz.ntmps31
 go_wp2
 refine zD8 (fun w':World=>w'.cell? ⟨p1,0,none⟩ = some (.string own)/\w'.cell? ⟨q1,0,none⟩ = some (.slice az data.length zc)/\MapR w' b n D) 12 (by kernel_rfl) ?_
 have hHeld : (fun w':World=>w'.cell? ⟨p1,0,none⟩ = some (.string own)/\w'.cell? ⟨q1,0,none⟩ = some (.slice az data.length zc)/\MapR w' b n D) _:=⟨c1,c2,HM.out⟩
 refine tkL 0 rfl (.map (some b)) (by kernel_rfl) rfl (fun _ _ _=>id) hHeld (by intro w hSw; (try dsimp only at hSw); go_simp) ?_
 try simp only [aPa,aPc,aPd]
 refine tkL 1 rfl (.string own) (by kernel_rfl) rfl (fun _ _ _=>id) hHeld (by intro w hSw; obtain ⟨s1,s2,_⟩:=hSw; go_simp) ?_
 try simp only [aPa,aPc,aPd]
 refine tkL 2 rfl (.map (some b)) (by kernel_rfl) rfl (fun _ _ _=>id) hHeld (by intro w hSw; (try dsimp only at hSw); go_simp) ?_
 try simp only [aPa,aPc,aPd]
 refine tkL 3 rfl (.string own) (by kernel_rfl) rfl (fun _ _ _=>id) hHeld (by intro w hSw; obtain ⟨s1,s2,_⟩:=hSw; go_simp) ?_
 try simp only [aPa,aPc,aPd]
 refine tkL 4 rfl (vAt D own.data.toList) (by kernel_rfl) rfl (fun _ _ _=>id) hHeld (by intro w hSw; have hl:=MapR.look hSw.2.2 own ho; obtain ⟨s1,s2,_⟩:=hSw; go_simp) ?_
 try simp only [aPa,aPc,aPd]
 refine tkL 5 rfl (.slice az data.length zc) (by kernel_rfl) rfl (fun _ _ _=>id) hHeld (by intro w hSw; obtain ⟨s1,s2,_⟩:=hSw; go_simp) ?_
 try simp only [aPa,aPc,aPd]
 refine tkL 6 rfl (.int .i64 (u:Int)) (by kernel_rfl) rfl (fun _ _ _=>id) hHeld (by intro w hSw; (try dsimp only at hSw); go_simp) ?_
 try simp only [aPa,aPc,aPd]
 refine tkL 7 rfl (.slice az data.length zc) (by kernel_rfl) rfl (fun _ _ _=>id) hHeld (by intro w hSw; obtain ⟨s1,s2,_⟩:=hSw; go_simp) ?_
 try simp only [aPa,aPc,aPd]
 refine tkL 8 rfl (.int .i64 (data.length:Int)) (by kernel_rfl) rfl (fun _ _ _=>id) hHeld (by intro w hSw; (try dsimp only at hSw); go_simp) ?_
 try simp only [aPa,aPc,aPd]
 refine tkL 9 rfl (.int .i64 ((min u data.length:Nat) : Int)) (by kernel_rfl) rfl (fun _ _ _=>id) hHeld (by intro w hSw; (try dsimp only at hSw); go_simp; omega) ?_
 try simp only [aPa,aPc,aPd]
 refine tkL 10 rfl (.slice az (min u data.length) zc) (by kernel_rfl) rfl (fun _ _ _=>id) hHeld (by intro w hSw; (try dsimp only at hSw); go_simp; intro h; omega) ?_
 try simp only [aPa,aPc,aPd]
 refine tkLc 11 rfl (by kernel_rfl) rfl (fun K hK=>?_)
 refine zR7 _ (.tmp 10) (.tmp 16) rfl (vAt D own.data.toList) l rfl HX.out.drew (.slice az (min u data.length) zc) (data.take u) rfl HS.out HLEN.out (fun x' w1 hx' ha=>?_)
 have hp1 : w1.heap[p1]? = some (.cells #[.string own] 9 (0,0)):=(ha.block p1 (zA1 O1.out) (by simp) (fun _ e=>HX.out.ne_cells O1.out (by decide) e.symm)).trans O1.out
 have hq1 : w1.heap[q1]? = some (.cells #[.slice az data.length zc] 22 (0,0)):=(ha.block q1 (zA1 O2.out) (by simp) (fun _ e=>HX.out.ne_cells O2.out (by decide) e.symm)).trans O2.out
 have hm1 : MapR w1 b n D:=HM.out.kept (ha.block b HM.out.lt (by simp) (fun _ e=>HX.out.ne_map HM.out e.symm))
 replace hHeld:=(⟨zJ3 hp1,zJ3 hq1,hm1⟩ : w1.cell? ⟨p1,0,none⟩ = some (.string own)/\w1.cell? ⟨q1,0,none⟩ = some (.slice az data.length zc)/\MapR w1 b n D)
 refine hK.out _ _ (fun _=>hHeld) ?_
 clear hK K
 try simp only [aPa,aPc,aPd]
 refine tkLc 12 rfl (by kernel_rfl) rfl (fun K hK=>?_)
 refine zJ4 _ (.tmp 6) (.tmp 7) (.tmp 17) rfl b n D rfl hm1 hn own ho x' rfl rfl (fun w2 hm2 ht=>?_)
 refine hK.out _ _ (fun h=>absurd rfl h) ?_
 clear hK K
 try simp only [Act.put]
 refine zD9 (by kernel_rfl) ?_ _
 go_end0
 refine ⟨rfl,x',hx'.kept (fun k hk=>ht.grown.block k (hx'.lt k hk) (fun e=>hx'.ne_map hm1 (by rw [hk,e]))),hm2,(ha.turn ht (HX.out.ne_map HM.out)).undrew⟩
theorem SlR.nilOf {{w:World}} {{az:Option Addr}} {{n zc:Nat}} {{l:List UInt8}} (h:SlR w (.slice az n zc) l) : (az = none->n = 0/\zc = 0)/\n<=zc/\n<=maxLen:=by
 rcases h with ⟨e,_⟩ | ⟨g,cap,cur,e,_,h1,h2,h3,_⟩
 · cases e; exact ⟨fun _=>⟨rfl,rfl⟩,Nat.le_refl _,by unfold maxLen; omega⟩
 · cases e; exact ⟨fun h=>(by cases h),h1,by omega⟩
theorem kB9 (b n p1 q1:Nat) (D:DataW Value) (own:ByteArray) (az:Option Addr) (zc u:Nat) (data:List UInt8) (w:World) (hm:MapR w b n D) (hn:n < maxLen) (o1:w.heap[p1]? = some (.cells #[.slice az data.length zc] 22 (0,0))) (ho:own.size<=maxLen) (o2:w.heap[q1]? = some (.cells #[.string own] 9 (0,0)))
    (hz:SlR w (.slice az data.length zc) data) :
    Calls Tryz.prog 98 #[.map (some b),.int .i64 (u:Int),.pointer (some ⟨p1,0,none⟩),.pointer (some ⟨q1,0,none⟩)] w fun e w'=>e = .returned (.tuple #[])/\MapR w' b (n + 1) (D.put (.string own.data.toList) (.held (.slice az data.length data.length)))/\App w w' (some b) (.slice none 0 0) (.slice none 0 0):=by
 have HM:=zA0 hm
 obtain ⟨haz,hzc,hdm⟩:=hz.nilOf
 have c1:=zJ3 o1
 have c2:=zJ3 o2
 clear hm hz o1 o2
 go_enter Tryz.func98,Tryz.ntmps98
 go_wp2
 refine zD8 (fun w':World=>w'.cell? ⟨p1,0,none⟩ = some (.slice az data.length zc)/\w'.cell? ⟨q1,0,none⟩ = some (.string own)/\MapR w' b n D) 4 (by kernel_rfl) ?_
 have hHeld : (fun w':World=>w'.cell? ⟨p1,0,none⟩ = some (.slice az data.length zc)/\w'.cell? ⟨q1,0,none⟩ = some (.string own)/\MapR w' b n D) _:=⟨c1,c2,HM.out⟩
 refine tkL 0 rfl (.map (some b)) (by kernel_rfl) rfl (fun _ _ _=>id) hHeld (by intro w hSw; (try dsimp only at hSw); go_simp) ?_
 try simp only [aPa,aPc,aPd]
 refine tkL 1 rfl (.string own) (by kernel_rfl) rfl (fun _ _ _=>id) hHeld (by intro w hSw; obtain ⟨s1,s2,_⟩:=hSw; go_simp) ?_
 try simp only [aPa,aPc,aPd]
 refine tkL 2 rfl (.slice az data.length zc) (by kernel_rfl) rfl (fun _ _ _=>id) hHeld (by intro w hSw; obtain ⟨s1,s2,_⟩:=hSw; go_simp) ?_
 try simp only [aPa,aPc,aPd]
 refine tkLc 3 rfl (by kernel_rfl) rfl (fun K hK=>?_)
 go_simp
 refine (yV2 az data.length zc _ hzc haz hdm).mono ?_
 rintro e w1 ⟨rfl,rfl⟩
 refine hK.out _ _ (fun _=>hHeld) ?_
 clear hK K
 try simp only [aPa,aPb,aPc,aPd]
 refine tkLc 4 rfl (by kernel_rfl) rfl (fun K hK=>?_)
 refine zJ4 _ (.tmp 6) (.tmp 7) (.tmp 9) rfl b n D rfl HM.out hn own ho (.slice az data.length data.length) rfl rfl (fun w2 hm2 ht=>?_)
 refine hK.out _ _ (fun h=>absurd rfl h) ?_
 clear hK K
 try simp only [Act.put]
 refine zD9 (by kernel_rfl) ?_ _
 go_end0
 exact ⟨rfl,hm2,(yC8 ht _ (by simp [Value.ownBlock])).undrew⟩
theorem kB4 (b n p1 q1:Nat) (D:DataW Value) (old other:ByteArray) (u:Nat) (w:World) (hm:MapR w b n D) (hn:n < maxLen) (o1:w.heap[p1]? = some (.cells #[.string old] 9 (0,0))) (ho:old.size<=maxLen) (o2:w.heap[q1]? = some (.cells #[.string other] 9 (0,0))) (ho2:other.size<=maxLen) :
    Calls Tryz.prog 99 #[.map (some b),.int .i64 (u:Int),.pointer (some ⟨p1,0,none⟩),.pointer (some ⟨q1,0,none⟩)] w fun e w'=>e = .returned (.tuple #[])/\MapR w' b (n + 1) ((D.del (.string old.data.toList)).put (.string other.data.toList) (.held (vAt D old.data.toList)))/\App w w' (some b) (.slice none 0 0) (.slice none 0 0):=by
 have HM:=zA0 hm
 have O2:=zA0 o2
 have hlook:=hm.look old ho
 have c1:=zJ3 o1
 have lp:=zA1 o1
 have hbq : q1 ≠ b:=by
  intro e
  obtain ⟨es,c,hb⟩:=hm.obj
  rw [e,hb] at o2
  cases o2
 clear hm o1 o2
 generalize vAt D old.data.toList = v at *
 go_enter Tryz.func99,Tryz.ntmps99
 go_wp2_with (first
  | (at_delete; refine wpList_delete_own _ rfl _ _ 80 9 rfl 22 law9 Tryz.underlying80 RV b n D rfl HM.out _ _ rfl (yC4 old ho) ?_; intro w1 hm1 ht; have hq1:=zJ3 ((ht.grown.block q1 (zA1 O2.out) (by simpa using hbq)).trans O2.out))
  | (at_mapUpdate; refine wpList_mapUpdate_in _ rfl _ _ _ 80 rfl 9 22 law9 Tryz.underlying80 RV b n _ rfl hm1 hn _ _ _ rfl rfl (yC4 other ho2) (.held v) [] rfl ?_; intro w2 hm2 ht2))
 go_end0
 exact ⟨rfl,hm2,yC8 (ht.trans ht2) _ (by simp [Value.ownBlock])⟩
end
section
open Go.RowKit Go.Maps
abbrev Nm:=List UInt8
abbrev FS:=List UInt8->Option (List UInt8)
inductive Dd where
 | ap (n d:List UInt8)
 | pt (n d:List UInt8)
 | rm (n:List UInt8)
 | rn (a b:List UInt8)
def fup (fs:FS) (k:Nm) (v:Option (List UInt8)) : FS:=fun j=>if j = k then v else fs j
def doD (x:Dd) (u:Nat) (fs:FS) : FS :=
 match x with
 | .ap n d=>fup fs n (some ((fs n).getD [] ++ d.take u))
 | .pt n d=>fup fs n (some d)
 | .rm n=>fup fs n none
 | .rn a b=>fup (fup fs a none) b (some ((fs a).getD []))
structure Liv (w:World) (E:Bool->Nm->Value) (C:Bool->Nm->List UInt8) (Z:List Value) : Prop where
 r : ∀ s k,SlR w (E s k) (C s k)
 sep : ∀ s k s' k',¬ (s = s'/\k = k')->Sep (E s k) (E s' k')
 kz : ∀ s k z,z ∈ Z->SepK (E s k) z
def eup {α:Type} (E:Bool->Nm->α) (s:Bool) (k:Nm) (v:α) : Bool->Nm->α:=fun s' k'=>if s' = s/\k' = k then v else E s' k'
theorem zE3 {α:Type} (E:Bool->Nm->α) (s:Bool) (k:Nm) (v:α) : eup E s k v s k = v:=by simp [eup]
theorem zD0 {α:Type} {E:Bool->Nm->α} {s:Bool} {k:Nm} {v:α} {s':Bool} {k':Nm} (h:¬ (s' = s/\k' = k)) : eup E s k v s' k' = E s' k':=by simp [eup,h]
theorem Liv.grow {w w':World} {E:Bool->Nm->Value} {C:Bool->Nm->List UInt8} {Z:List Value} (h:Liv w E C Z) {b:Nat} {s:Bool} {k:Nm} {v':Value} {l':List UInt8} (ha:App w w' (some b) (E s k) v') (hb:∀ s k,(E s k).ownBlock ≠ some b) (hv:SlR w' v' l') (hz:∀ z ∈ Z,∃ lz,SlR w z lz) : Liv w' (eup E s k v') (eup C s k l') Z:=by
 have hne : ∀ s' k',¬ (s' = s/\k' = k)->Sep (E s k) (E s' k'):=fun s' k' hn=>h.sep s k s' k' (fun e=>hn ⟨e.1.symm,e.2.symm⟩)
 refine ⟨fun s' k'=>?_,fun s1 k1 s2 k2 hn=>?_,fun s' k' z hzm=>?_⟩
 · by_cases e : s' = s/\k' = k
   · obtain ⟨rfl,rfl⟩:=e
     rw [zE3,zE3]
     exact hv
   · rw [zD0 e,zD0 e]
     exact (h.r s' k').app ha (fun g e2=>by cases e2; exact hb s' k') (hne s' k' e)
 · by_cases e1 : s1 = s/\k1 = k
   · obtain ⟨rfl,rfl⟩:=e1
     have e2 : ¬ (s2 = s1/\k2 = k1):=fun e=>hn ⟨e.1.symm,e.2.symm⟩
     rw [zE3,zD0 e2]
     exact (hne s2 k2 e2).app ha (h.r s2 k2) hv
   · by_cases e2 : s2 = s/\k2 = k
     · obtain ⟨rfl,rfl⟩:=e2
       rw [zE3,zD0 e1]
       exact ((hne s1 k1 e1).app ha (h.r s1 k1) hv).symm
     · rw [zD0 e1,zD0 e2]
       exact h.sep s1 k1 s2 k2 hn
 · by_cases e : s' = s/\k' = k
   · obtain ⟨rfl,rfl⟩:=e
     rw [zE3]
     obtain ⟨lz,hlz⟩:=hz z hzm
     exact (h.kz s' k' z hzm).app ha hlz
   · rw [zD0 e]
     exact h.kz s' k' z hzm
theorem Liv.put {w w':World} {E:Bool->Nm->Value} {C:Bool->Nm->List UInt8} {Z:List Value} (h:Liv w E C Z) {s:Bool} {k:Nm} {v':Value} {l':List UInt8} (hk:∀ s k,SlR w' (E s k) (C s k)) (hv:SlR w' v' l') (hg:¬ Gr v') (hs:∀ s' k',¬ (s' = s/\k' = k)->∀ g,(E s' k').ownBlock = some g->v'.ownBlock = some g->Gr (E s' k')->lenV v'<=lenV (E s' k')) : Liv w' (eup E s k v') (eup C s k l') Z:=by
 have hne : ∀ s' k',¬ (s' = s/\k' = k)->Sep v' (E s' k'):=fun s' k' hn g h1 h2=>⟨fun h=>absurd h hg,fun h=>⟨hg,hs s' k' hn g h2 h1 h⟩⟩
 refine ⟨fun s' k'=>?_,fun s1 k1 s2 k2 hn=>?_,fun s' k' z hzm=>?_⟩
 · by_cases e : s' = s/\k' = k
   · obtain ⟨rfl,rfl⟩:=e
     rw [zE3,zE3]
     exact hv
   · rw [zD0 e,zD0 e]
     exact hk s' k'
 · by_cases e1 : s1 = s/\k1 = k
   · obtain ⟨rfl,rfl⟩:=e1
     have e2 : ¬ (s2 = s1/\k2 = k1):=fun e=>hn ⟨e.1.symm,e.2.symm⟩
     rw [zE3,zD0 e2]
     exact hne s2 k2 e2
   · by_cases e2 : s2 = s/\k2 = k
     · obtain ⟨rfl,rfl⟩:=e2
       rw [zE3,zD0 e1]
       exact (hne s1 k1 e1).symm
     · rw [zD0 e1,zD0 e2]
       exact h.sep s1 k1 s2 k2 hn
 · by_cases e : s' = s/\k' = k
   · obtain ⟨rfl,rfl⟩:=e
     rw [zE3]
     exact fun g _ _ h=>hg h
   · rw [zD0 e]
     exact h.kz s' k' z hzm
theorem zT2 : ¬ Gr (.slice none 0 0):=Nat.lt_irrefl 0
theorem Liv.del {w:World} {E:Bool->Nm->Value} {C:Bool->Nm->List UInt8} {Z:List Value} (h:Liv w E C Z) (s:Bool) (k:Nm) : Liv w (eup E s k (.slice none 0 0)) (eup C s k []) Z :=
 h.put h.r (SlR.nil w) zT2 (fun _ _ _ g _ h2=>by cases h2)
theorem Liv.move {w:World} {E:Bool->Nm->Value} {C:Bool->Nm->List UInt8} {Z:List Value} (h:Liv w E C Z) (s:Bool) (a b:Nm) : Liv w (eup (eup E s a (.slice none 0 0)) s b (E s a)) (eup (eup C s a []) s b (C s a)) Z:=by
 have hd:=h.del s a
 have hne : ∀ s' k',¬ (s' = s/\k' = b)->Sep (E s a) (eup E s a (.slice none 0 0) s' k'):=fun s' k' _=>by
  by_cases e : s' = s/\k' = a
  · obtain ⟨rfl,rfl⟩:=e
    rw [zE3]
    exact Sep.nil _
  · rw [zD0 e]
    exact h.sep s a s' k' (fun x=>e ⟨x.1.symm,x.2.symm⟩)
 refine ⟨fun s' k'=>?_,fun s1 k1 s2 k2 hn=>?_,fun s' k' z hzm=>?_⟩
 · by_cases e : s' = s/\k' = b
   · obtain ⟨rfl,rfl⟩:=e
     rw [zE3,zE3]
     exact h.r s' a
   · rw [zD0 e,zD0 e]
     exact hd.r s' k'
 · by_cases e1 : s1 = s/\k1 = b
   · obtain ⟨rfl,rfl⟩:=e1
     have e2 : ¬ (s2 = s1/\k2 = k1):=fun e=>hn ⟨e.1.symm,e.2.symm⟩
     rw [zE3,zD0 e2]
     exact hne s2 k2 e2
   · by_cases e2 : s2 = s/\k2 = b
     · obtain ⟨rfl,rfl⟩:=e2
       rw [zE3,zD0 e1]
       exact (hne s1 k1 e1).symm
     · rw [zD0 e1,zD0 e2]
       exact hd.sep s1 k1 s2 k2 hn
 · by_cases e : s' = s/\k' = b
   · obtain ⟨rfl,rfl⟩:=e
     rw [zE3]
     exact h.kz s' a z hzm
   · rw [zD0 e]
     exact hd.kz s' k' z hzm
theorem Liv.kept {w w':World} {E:Bool->Nm->Value} {C:Bool->Nm->List UInt8} {Z:List Value} (h:Liv w E C Z) (hb:∀ s k g,(E s k).ownBlock = some g->w'.heap[g]? = w.heap[g]?) : Liv w' E C Z :=
 ⟨fun s k=>(h.r s k).kept (hb s k),h.sep,h.kz⟩
theorem Liv.keep {w:World} {E:Bool->Nm->Value} {C:Bool->Nm->List UInt8} {Z:List Value} (h:Liv w E C Z) (z:Value) (hz:∀ s k g,(E s k).ownBlock = some g->z.ownBlock ≠ some g) : Liv w E C (Z ++ [z]) :=
 ⟨h.r,h.sep,fun s k x hx=>by
  rcases List.mem_append.1 hx with hx | hx
  · exact h.kz s k x hx
  · rw [List.mem_singleton.1 hx]
    exact fun g h1 h2=>absurd h2 (hz s k g h1)⟩
theorem Liv.forget {w:World} {E:Bool->Nm->Value} {C:Bool->Nm->List UInt8} {Z:List Value} (h:Liv w E C Z) : Liv w E C []:=⟨h.r,h.sep,fun _ _ z hz=>by cases hz⟩
def yA1 : Value->Value
 | .slice a n _=>.slice a n n
 | v=>v
theorem zM3 (v:Value) : ¬ Gr (yA1 v):=by
 cases v <;> simp [yA1,Gr,lenV,capV]
theorem zN7 (v:Value) : (yA1 v).ownBlock = v.ownBlock:=by
 cases v with
 | slice a n c=>cases a <;> rfl
 | _=>rfl
theorem yL6 (v:Value) : lenV (yA1 v) = lenV v:=by
 cases v <;> rfl
theorem SlR.clip {w:World} {v:Value} {l:List UInt8} (h:SlR w v l) : SlR w (yA1 v) l:=by
 rcases h with ⟨rfl,rfl⟩ | ⟨g,cap,cur,rfl,hg,h1,h2,h3,h4⟩
 · exact .inl ⟨rfl,rfl⟩
 · exact .inr ⟨g,l.length,cur,rfl,hg,Nat.le_refl _,by omega,h3,h4⟩
end
section
open Go.RowKit Go.Maps
def zS6 (w:World) (p:Nat) (n:Nm) : Prop:=∃ own : ByteArray,w.heap[p]? = some (.cells #[.string own] 9 (0,0))/\own.data.toList = n/\own.size<=maxLen
def yQ8 (w:World) (q:Nat) (d:List UInt8) (z:Value) : Prop:=∃ az zc,z = .slice az d.length zc/\w.heap[q]? = some (.cells #[.slice az d.length zc] 22 (0,0))/\SlR w (.slice az d.length zc) d/\d.length<=1048576
def zM6 (w:World) (f:Value) (x:Dd) (z:Value) : Prop :=
 match x with
 | .ap n d=>∃ p q,f = .func (.func 31) #[] #[.pointer (some ⟨p,0,none⟩),.pointer (some ⟨q,0,none⟩)]/\zS6 w p n/\yQ8 w q d z
 | .pt n d=>∃ p q,f = .func (.func 98) #[] #[.pointer (some ⟨q,0,none⟩),.pointer (some ⟨p,0,none⟩)]/\zS6 w p n/\yQ8 w q d z
 | .rm _=>False
 | .rn a b=>∃ p q,f = .func (.func 99) #[] #[.pointer (some ⟨p,0,none⟩),.pointer (some ⟨q,0,none⟩)]/\zS6 w p a/\zS6 w q b/\z = .slice none 0 0
theorem zM6.z {w:World} {f:Value} {x:Dd} {z:Value} (h:zM6 w f x z) : ∃ l,SlR w z l:=by
 cases x with
 | ap n d=>obtain ⟨_,_,_,_,az,zc,rfl,_,h,_⟩:=h; exact ⟨d,h⟩
 | pt n d=>obtain ⟨_,_,_,_,az,zc,rfl,_,h,_⟩:=h; exact ⟨d,h⟩
 | rm n=>exact h.elim
 | rn a b=>obtain ⟨_,_,_,_,_,rfl⟩:=h; exact ⟨[],SlR.nil w⟩
theorem zM6.kept {w w':World} {f:Value} {x:Dd} {z:Value} (h:zM6 w f x z) (h1:∀ (k:Nat) (cs:Array Value) (t:TypeId),(t = 9\/t = 22)->w.heap[k]? = some (Obj.cells cs t (0,0))->w'.heap[k]? = w.heap[k]?) (h2:∀ l,SlR w z l->SlR w' z l) : zM6 w' f x z:=by
 have s1 : ∀ {p n},zS6 w p n->zS6 w' p n:=fun ⟨own,a,b,c⟩=>⟨own,(h1 _ _ 9 (.inl rfl) a).trans a,b,c⟩
 have s2 : ∀ {q d},yQ8 w q d z->yQ8 w' q d z:=fun ⟨az,zc,a,b,c,e⟩=>⟨az,zc,a,(h1 _ _ 22 (.inr rfl) b).trans b,a ▸ h2 _ (a ▸ c),e⟩
 cases x with
 | ap n d=>obtain ⟨p,q,a,b,c⟩:=h; exact ⟨p,q,a,s1 b,s2 c⟩
 | pt n d=>obtain ⟨p,q,a,b,c⟩:=h; exact ⟨p,q,a,s1 b,s2 c⟩
 | rm n=>exact h.elim
 | rn a b=>obtain ⟨p,q,a,b,c,e⟩:=h; exact ⟨p,q,a,s1 b,s1 c,e⟩
theorem App.cells {w w':World} {b:Nat} {v v':Value} (ha:App w w' (some b) v v') {l:List UInt8} (hv:SlR w v l) {es:Array MapEntry} {c:Nat} (hb:w.heap[b]? = some (.map es c)) {k:Nat} {cs:Array Value} {t:TypeId} {f:Nat × Nat} (ht:t ≠ 5) (hk:w.heap[k]? = some (.cells cs t f)) : w'.heap[k]? = w.heap[k]? :=
 ha.block k (zA1 hk) (fun e=>by cases e; rw [hb] at hk; cases hk) (fun _ e=>hv.ne_cells hk ht e.symm)
theorem zM6.app {w w':World} {f:Value} {x:Dd} {z:Value} (h:zM6 w f x z) {b:Nat} {v v':Value} (ha:App w w' (some b) v v') {l:List UInt8} (hv:SlR w v l) {n:Nat} {D:DataW Value} (hm:MapR w b n D) (hk:SepK v z) : zM6 w' f x z:=by
 obtain ⟨es,c,hb⟩:=hm.obj
 exact h.kept (fun k cs t ht hk=>ha.cells hv hb (by rcases ht with rfl | rfl <;> decide) hk) (fun _ hl=>hl.appK ha (fun g e=>by cases e; exact hl.ne_map hm) hk)
def sset {α:Type} (E:Bool->Nm->α) (s:Bool) (g:Nm->α) : Bool->Nm->α:=fun s' k=>if s' = s then g k else E s' k
theorem xA8 {α:Type} (E:Bool->Nm->α) (s:Bool) (g:Nm->α) (k:Nm) : sset E s g s k = g k:=by simp [sset]
theorem zO3 {α:Type} {E:Bool->Nm->α} {s:Bool} {g h:Nm->α} {n:Nm} {v:α} (hE:∀ k,E s k = h k) (hg:∀ k,g k = if k = n then v else h k) : sset E s g = eup E s n v:=by
 funext s' k
 unfold sset eup
 by_cases e : s' = s
 · subst e
   rw [if_pos rfl,hg]
   by_cases e2 : k = n
   · rw [if_pos e2,if_pos ⟨rfl,e2⟩]
   · rw [if_neg e2,if_neg (fun x=>e2 x.2),hE]
 · rw [if_neg e,if_neg (fun x=>e x.1)]
def cOf (fs:FS) : Nm->List UInt8:=fun k=>(fs k).getD []
structure DPost (w w':World) (s:Bool) (b n:Nat) (D:DataW Value) (E:Bool->Nm->Value) (C:Bool->Nm->List UInt8) (zs:List Value) (fs fs':FS) : Prop where
 ex : ∃ D' v v',MapR w' b (n + 1) D'/\(∀ k,Maps.has D' (.string k) = (fs' k).isSome)/\Liv w' (sset E s (vAt D')) (sset C s (cOf fs')) zs/\App w w' (some b) v v'/\(v = .slice none 0 0\/∃ k,v = vAt D k) /\
  ∀ k g,(vAt D' k).ownBlock = some g->(∃ j,(vAt D j).ownBlock = some g)\/(∃ z ∈ zs,z.ownBlock = some g)\/w.heap.size<=g
theorem zG8 (fs:FS) (k j:Nm) (v:Option (List UInt8)) : (fup fs k v j).isSome = if j = k then v.isSome else (fs j).isSome:=by
 unfold fup; split <;> rfl
theorem zT7 (fs:FS) (k j:Nm) (v:Option (List UInt8)) : cOf (fup fs k v) j = if j = k then v.getD [] else cOf fs j:=by
 unfold cOf fup; split <;> rfl
section Sc1
variable {w:World} {s:Bool} {b n:Nat} {D:DataW Value} {E:Bool->Nm->Value} {C:Bool->Nm->List UInt8} {zs:List Value} {fs:FS}
theorem yV5 (hm:MapR w b n D) (hn:n < maxLen) (hE:∀ k,E s k = vAt D k) (hC:∀ k,C s k = cOf fs k) (hh:∀ k,Maps.has D (.string k) = (fs k).isSome) (hL:Liv w E C zs) (hzs:∀ z ∈ zs,∃ l,SlR w z l) {nm d:List UInt8} {p q:Nat} {z:Value} (h1:zS6 w p nm) (h2:yQ8 w q d z) (u:Nat) (hu:u<=1099511627776) (hl:(cOf fs nm).length<=1048576) :
    Calls Tryz.prog 31 #[.map (some b),.int .i64 (u:Int),.pointer (some ⟨p,0,none⟩),.pointer (some ⟨q,0,none⟩)] w fun e w'=>e = .returned (.tuple #[])/\DPost w w' s b n D E C zs fs (doD (.ap nm d) u fs):=by
 obtain ⟨own,a1,rfl,a3⟩:=h1
 obtain ⟨az,zc,rfl,b2,b3,b4⟩:=h2
 have hr : SlR w (vAt D own.data.toList) (cOf fs own.data.toList):=by have:=hL.r s own.data.toList; rw [hE,hC] at this; exact this
 refine (kF3 b n p q D own az zc u (cOf fs own.data.toList) d w hm hn a1 a3 b2 hr b3 (by omega) hu).mono ?_
 rintro e w' ⟨rfl,x',c1,c2,c3⟩
 refine ⟨rfl,⟨_,_,_,c2,fun k=>?_,?_,c3,.inr ⟨_,rfl⟩,fun k g hg2=>?_⟩⟩
 · rw [zZ2 hm.isMap,hh,doD,zG8]
   by_cases e : k = own.data.toList <;> simp [e]
 · rw [zO3 hE (fun k=>zP6 hm.isMap _ k _),zO3 hC (fun k=>by rw [doD,zT7])]
   have:=hL.grow (s:=s) (k:=own.data.toList) (v':=x') (l':=(some (cOf fs own.data.toList ++ d.take u)).getD []) (by rw [hE]; exact c3) (fun s k=>(hL.r s k).ne_map hm) c1 hzs
   exact this
 · rw [zP6 hm.isMap] at hg2
   by_cases e : k = own.data.toList
   · rw [if_pos e] at hg2
     rcases c3.new with ⟨e1,e2,e3⟩ | ⟨j,e1,e2⟩
     · exact .inl ⟨own.data.toList,e1 ▸ hg2⟩
     · rw [e1] at hg2; cases hg2; exact .inr (.inr e2)
   · rw [if_neg e] at hg2
     exact .inl ⟨k,hg2⟩
theorem yT8 {w':World} (ha:App w w' (some b) (.slice none 0 0) (.slice none 0 0)) (hm:MapR w b n D) (hL:Liv w E C zs) : Liv w' E C zs :=
 hL.kept fun s k g hg=>ha.block g ((hL.r s k).lt g hg) (fun e=>(hL.r s k).ne_map hm (by rw [hg,e])) (fun h=>absurd h zT2)
theorem yS9 (hm:MapR w b n D) (hn:n < maxLen) (hE:∀ k,E s k = vAt D k) (hC:∀ k,C s k = cOf fs k) (hh:∀ k,Maps.has D (.string k) = (fs k).isSome) (hL:Liv w E C zs) {nm d:List UInt8} {p q:Nat} {z:Value} (hz:z ∈ zs) (h1:zS6 w p nm) (h2:yQ8 w q d z) (u:Nat) :
    Calls Tryz.prog 98 #[.map (some b),.int .i64 (u:Int),.pointer (some ⟨q,0,none⟩),.pointer (some ⟨p,0,none⟩)] w fun e w'=>e = .returned (.tuple #[])/\DPost w w' s b n D E C zs fs (doD (.pt nm d) u fs):=by
 obtain ⟨own,a1,rfl,a3⟩:=h1
 obtain ⟨az,zc,rfl,b2,b3,b4⟩:=h2
 refine (kB9 b n q p D own az zc u d w hm hn b2 a3 a1 b3).mono ?_
 rintro e w' ⟨rfl,c2,c3⟩
 have hb3 : SlR w' (.slice az d.length zc) d:=b3.kept fun k hk=>c3.block k (b3.lt k hk) (fun e=>b3.ne_map hm (by rw [hk,e])) (fun h=>absurd h zT2)
 refine ⟨rfl,⟨_,_,_,c2,fun k=>?_,?_,c3,.inl rfl,fun k g hg2=>?_⟩⟩
 · rw [zZ2 hm.isMap,hh,doD,zG8]
   by_cases e : k = own.data.toList <;> simp [e]
 · rw [zO3 hE (fun k=>zP6 hm.isMap _ k _),zO3 hC (fun k=>by rw [doD,zT7])]
   have hk:=yT8 c3 hm hL
   refine hk.put hk.r hb3.clip (zM3 (.slice az d.length zc)) (fun s' k' _ g e1 e2 e3=>?_)
   have e2' : (Value.slice az d.length zc).ownBlock = some g:=by rw [<- zN7]; exact e2
   exact absurd e3 (hL.kz s' k' _ hz g e1 e2')
 · rw [zP6 hm.isMap] at hg2
   by_cases e : k = own.data.toList
   · rw [if_pos e] at hg2
     exact .inr (.inl ⟨_,hz,by rw [<- zN7]; exact hg2⟩)
   · rw [if_neg e] at hg2
     exact .inl ⟨k,hg2⟩
theorem yS6 (hm:MapR w b n D) (hn:n < maxLen) (hE:∀ k,E s k = vAt D k) (hC:∀ k,C s k = cOf fs k) (hh:∀ k,Maps.has D (.string k) = (fs k).isSome) (hL:Liv w E C zs) {na nb:List UInt8} {p q:Nat} (h1:zS6 w p na) (h2:zS6 w q nb) (u:Nat) :
    Calls Tryz.prog 99 #[.map (some b),.int .i64 (u:Int),.pointer (some ⟨p,0,none⟩),.pointer (some ⟨q,0,none⟩)] w fun e w'=>e = .returned (.tuple #[])/\DPost w w' s b n D E C zs fs (doD (.rn na nb) u fs):=by
 obtain ⟨own,a1,rfl,a3⟩:=h1
 obtain ⟨own2,b1,rfl,b3⟩:=h2
 refine (kB4 b n p q D own own2 u w hm hn a1 a3 b1 b3).mono ?_
 rintro e w' ⟨rfl,c2,c3⟩
 have hdm : IsMap (D.del (.string own.data.toList)):=hm.isMap.del _
 refine ⟨rfl,⟨_,_,_,c2,fun k=>?_,?_,c3,.inl rfl,fun k g hg2=>?_⟩⟩
 · rw [zZ2 hdm,xW7,hh,doD,zG8,zG8]
   by_cases e : k = own2.data.toList
   · simp [e]
   · by_cases e2 : k = own.data.toList <;> simp [e,e2]
 · have e1 : sset E s (vAt ((D.del (.string own.data.toList)).put (.string own2.data.toList) (.held (vAt D own.data.toList)))) = eup (eup E s own.data.toList (.slice none 0 0)) s own2.data.toList (E s own.data.toList):=by
     rw [hE]
     rw [<- zO3 hE (fun k=>yZ4 D own.data.toList k)]
     rw [<- zO3 (g:=vAt ((D.del (.string own.data.toList)).put (.string own2.data.toList) (.held (vAt D own.data.toList)))) (fun k=>xA8 E s _ k) (fun k=>zP6 hdm _ k _)]
     funext s' k
     unfold sset
     split <;> rfl
   have e2 : sset C s (cOf (doD (.rn own.data.toList own2.data.toList) u fs)) = eup (eup C s own.data.toList []) s own2.data.toList (C s own.data.toList):=by
    rw [hC]
    funext s' k
    unfold sset eup
    by_cases e : s' = s
    · subst e
      rw [if_pos rfl,doD,zT7,zT7]
      by_cases e2 : k = own2.data.toList
      · simp [e2,cOf]
      · by_cases e3 : k = own.data.toList
        · simp [e3,cOf]
        · simp [e2,e3,hC]
    · rw [if_neg e,if_neg (fun x=>e x.1),if_neg (fun x=>e x.1)]
   rw [e1,e2]
   exact (yT8 c3 hm hL).move s own.data.toList own2.data.toList
 · rw [zP6 hdm] at hg2
   by_cases e : k = own2.data.toList
   · rw [if_pos e] at hg2
     exact .inl ⟨_,hg2⟩
   · rw [if_neg e,yZ4] at hg2
     by_cases e2 : k = own.data.toList
     · rw [if_pos e2] at hg2
       cases hg2
     · rw [if_neg e2] at hg2
       exact .inl ⟨k,hg2⟩
end Sc1
end
end Go.Proofs.YtocoimjhglackaaGreat
