/- Dop, Dap, Dpu -/
import Derived.Test.YtocoimjhglackaaGreatK08
set_option maxHeartbeats 8000000
set_option maxRecDepth 100000
namespace Go.Proofs.YtocoimjhglackaaGreat
section
open Go.RowKit Go.Maps
def zF9 (L:List ByteArray) : Bool:=L.all fun s=>zE6 s.data.toList
def refE (L:List ByteArray) (left:Int) : Int:=if zF9 L = true then (if left = 0 then 11 else 0) else 1
theorem zX8 (p bF bD g:Nat) (dn:Value) (left:Int) (L:List ByteArray) (cap:Nat) (w:World) (hd:DskB w p bF bD dn left) (hg:∀ i s,L[i]? = some s->w.cell? ⟨g,i,none⟩ = some (.string s)) (hgl:g < w.heap.size) (hl:L.length<=4) : Calls Tryz.prog 26 #[.pointer (some ⟨p,0,none⟩),.slice (some ⟨g,0,none⟩) L.length cap] w fun e w'=>e = .returned (.int .i64 (refE L left))/\w' = w:=by
 have HG:=zA0 hg
 have HD:=zA0 hd
 have hcut:=zA0 (zZ1 p bF bD dn left w hd)
 clear hg hd
 go_enter Tryz.func26,Tryz.ntmps26
 go_wp2
 go_loop [9] (fun i=>∃ k : Nat,k<=L.length/\i = .int .i64 (k:Int)/\Hid (∀ j s,j < k->L[j]? = some s->zE6 s.data.toList = true)) (fun i=>L.length - (intOf i).toNat)
 case atStart=>exact ⟨0,Nat.zero_le _,rfl,zA0 (fun j s h _=>by omega)⟩
 case round =>
  obtain ⟨k,hk,rfl,H⟩:=hrel
  by_cases hlt : k < L.length
  · have hltz : (k:Int) < (L.length:Int):=by omega
    obtain ⟨s,hs⟩ : ∃ s,L[k]? = some s:=⟨_,List.getElem?_eq_getElem hlt⟩
    have c0:=HG.out k s hs
    have HS:=zA0 hs
    clear hs
    cases hn : zE6 s.data.toList with
    | true =>
     have HN:=zA0 hn
     have hc:=zA0 (zO9 s w)
     rw [hn] at hc
     clear hn
     go_wp2_with (go_at_call 47; refine hc.out.mono ?_; rintro e w' ⟨rfl,rfl⟩)
     go_round
     case rel =>
      refine ⟨k + 1,by omega,by go_num,zA0 (fun j t hj ht=>?_)⟩
      by_cases e : j < k
      · exact H.out j t e ht
      · have : j = k:=by omega
        subst this
        rw [HS.out] at ht
        cases ht
        exact HN.out
     case measure=>simp [intOf]; omega
    | false =>
     have HN:=zA0 hn
     have hc:=zA0 (zO9 s w)
     rw [hn] at hc
     clear hn
     go_wp2_with (go_at_call 47; refine hc.out.mono ?_; rintro e w' ⟨rfl,rfl⟩)
     go_ret
     refine ⟨?_,rfl⟩
     have : zF9 L = false:=by
      unfold zF9
      rw [List.all_eq_false]
      exact ⟨s,List.mem_of_getElem? HS.out,by simp [HN.out]⟩
     unfold refE
     rw [this]
     rfl
  · have hltz : ¬ (k:Int) < (L.length:Int):=by omega
    have hok : zF9 L = true:=by
     unfold zF9
     rw [List.all_eq_true]
     intro s hs
     obtain ⟨i,hi,rfl⟩:=List.getElem_of_mem hs
     exact H.out i _ (by omega) (List.getElem?_eq_getElem hi)
    have HOK:=zA0 hok
    clear hok
    by_cases h0 : left = 0
    · have e0 : decide (left = 0) = true:=by simp [h0]
      rw [e0] at hcut
      have HZ:=zA0 h0
      clear e0 h0
      go_wp2_with (go_at_call 32; refine hcut.out.mono ?_; rintro e w' ⟨rfl,rfl⟩)
      go_ret
      refine ⟨?_,rfl⟩
      unfold refE
      rw [if_pos HOK.out,if_pos HZ.out]
      rfl
    · have e0 : decide (left = 0) = false:=by simp [h0]
      rw [e0] at hcut
      have HZ:=zA0 h0
      clear e0 h0
      go_wp2_with (go_at_call 32; refine hcut.out.mono ?_; rintro e w' ⟨rfl,rfl⟩)
      go_ret
      refine ⟨?_,rfl⟩
      unfold refE
      rw [if_pos HOK.out,if_neg HZ.out]
      rfl
def zI2 (sz:Int) (hs:Bool) (m:Nat) : Bool:=decide (sz<=1048576) && (hs || decide (m < 64))
theorem zL7 (p bF bD n:Nat) (D:DataW Value) (dn:Value) (left sz:Int) (s:ByteArray) (w:World) (hd:DskB w p bF bD dn left) (hm:MapR w bF n D) (hs:s.size<=maxLen) : Calls Tryz.prog 27 #[.pointer (some ⟨p,0,none⟩),.string s,.int .i64 sz] w fun e w'=>e = .returned (.bool (zI2 sz (Maps.has D (.string s.data.toList)) (Maps.size D)))/\w' = w:=by
 have hc:=xE7 p bF bD n D dn left s w hd hm hs
 change Calls _ _ _ _ fun e w'=>e = .returned (.bool (Maps.has D (.string s.data.toList)))/\_ at hc
 have c0:=hd.c0
 have lp:=hd.lt
 have hlen : (Builtin.len_ #[80] 3 #[.map (some bF)]).run Tryz.prog w = .ok (.int .i64 (Maps.size D)) w:=World.ownsMap.len hm Tryz.underlying80 3
 clear hd hm
 generalize Maps.has D (.string s.data.toList) = d at *
 generalize Maps.size D = m at *
 have hc:=zA0 hc
 by_cases h1 : sz<=1048576
 · cases d
   · by_cases h2 : m < 64
     · have e : zI2 sz false m = true:=by simp [zI2,h1,h2]
       have h2z : (m:Int) < 64:=by omega
       rw [e]
       go_enter Tryz.func27,Tryz.ntmps27
       go_wp2_with (go_at_call 55; refine hc.out.mono ?_; rintro e w' ⟨rfl,rfl⟩)
       go_ret
       exact ⟨rfl,rfl⟩
     · have e : zI2 sz false m = false:=by simp [zI2,h2]
       have h2z : decide ((m:Int) < 64) = false:=by simp; omega
       rw [e]
       go_enter Tryz.func27,Tryz.ntmps27
       go_wp2_with (go_at_call 55; refine hc.out.mono ?_; rintro e w' ⟨rfl,rfl⟩)
       go_ret
       exact ⟨rfl,rfl⟩
   · have e : zI2 sz true m = true:=by simp [zI2,h1]
     rw [e]
     go_enter Tryz.func27,Tryz.ntmps27
     go_wp2_with (go_at_call 55; refine hc.out.mono ?_; rintro e w' ⟨rfl,rfl⟩)
     go_ret
     exact ⟨rfl,rfl⟩
 · have e : zI2 sz d m = false:=by simp [zI2,h1]
   rw [e]
   go_enter Tryz.func27,Tryz.ntmps27
   go_wp2_with (go_at_call 55; refine hc.out.mono ?_; rintro e w' ⟨rfl,rfl⟩)
   go_ret
   exact ⟨rfl,rfl⟩
theorem xX1 (a:Addr) (n cap:Nat) (w:World) : (binOp .eql 22 (.slice (some a) n cap) (.slice none 0 0)).run Tryz.prog w = .ok (.bool false) w:=by
 have e : ∃ d,Op.maxDepth = d + 1:=⟨Op.maxDepth - 1,by decide⟩
 obtain ⟨d,e⟩:=e
 unfold binOp Op.equal
 rw [e]
 simp [go_sem,Op.equalIn,run_underlying Tryz.underlying22]
theorem xN2 (n cap:Nat) (w:World) : (binOp .eql 22 (.slice none n cap) (.slice none 0 0)).run Tryz.prog w = .ok (.bool true) w:=by
 have e : ∃ d,Op.maxDepth = d + 1:=⟨Op.maxDepth - 1,by decide⟩
 obtain ⟨d,e⟩:=e
 unfold binOp Op.equal
 rw [e]
 simp [go_sem,Op.equalIn,run_underlying Tryz.underlying22]
theorem zW3 {ops:Array Oper} {rest:List Oper} {o:Oper} {a:Act} {Q:Exit->Act->World->Prop} (w:World) (hgd:o.guard = none) (s x:Operand)
    (ho:o.op = .call { callee:=.builtin .append,args:=#[s,x],argTypes:=#[22,22] })
    (v:Value) (l:List UInt8) (hs:a.eval s = v) (hown:SlR w v l) (xv:Value) (news:List UInt8) (hx:a.eval x = xv) (hsrc:Src Tryz.prog 1 22 xv news.length (vals news) w) (hlen:l.length + news.length<=211106232532992)
    (h:∀ v' w',SlR w' v' (l ++ news)->App w w' none v v'->wpList Tryz.prog ops Q rest (a.put o.dst v') w') : wpList Tryz.prog ops Q (o :: rest) a w :=
 wpList_plain hgd fun _ hK=>zR7 w s x ho v l hs hown xv news hx hsrc hlen fun v' w' h1 h2=>hK _ _ (h v' w' h1 h2)
theorem SlR.empty (w:World) : SlR (w.alloc (.cells #[] 5)) (.slice (some ⟨w.heap.size,0,none⟩) 0 0) [] :=
 .inr ⟨w.heap.size,0,#[],rfl,heap_alloc_new w _,Nat.le_refl _,by simp,by unfold maxLen; simp,rfl⟩
def Frs (w:World) (z:Value) : Prop:=∀ k,z.ownBlock = some k->w.heap.size<=k
theorem zP3 (a:Option Addr) (cap:Nat) (d:List UInt8) (w:World) (hB:Bs w a d) (hn:a = none->d = []) : Calls Tryz.prog 29 #[.slice a d.length cap] w fun e w'=>∃ z,e = .returned z/\SlR w' z d/\Frs w z/\Below w.heap.size w w':=by
 cases a with
 | none =>
  have hd:=hn rfl
  subst hd
  clear hn hB
  have heq:=xN2 0 cap w
  change Calls Tryz.prog 29 #[.slice none 0 cap] w _
  go_enter Tryz.func29,Tryz.ntmps29
  go_wp2
  go_ret
  exact ⟨_,rfl,SlR.nil _,fun k hk=>(by cases hk),Below.refl _ _⟩
 | some a =>
  have HB:=zA0 hB
  have hl:=hB.1
  clear hn hB
  have heq:=xX1 a d.length cap w
  go_enter Tryz.func29,Tryz.ntmps29
  go_wp2_with (at_builtin; refine zW3 _ rfl (.tmp 5) (.tmp 6) rfl (.slice (some ⟨w.heap.size,0,none⟩) 0 0) [] rfl (SlR.empty w) (.slice (some a) d.length cap) d rfl ((HB.out.alloc _).src Tryz.underlying22 cap) (by simpa using hl) ?_; intro z w2 hz hap)
  go_ret
  have hb : Below w.heap.size w w2:=((Below.refl _ w).alloc (Nat.le_refl _) _).trans ⟨hap.os,hap.tape,hap.output,hap.size,fun k hk=>hap.block k (by simp; omega) (by simp) (fun h=>absurd h (Nat.lt_irrefl 0))⟩
  refine ⟨z,rfl,by simpa using hz,fun k hk=>?_,hb⟩
  rcases hap.new with ⟨e1,_,_⟩ | ⟨k',e1,e2⟩
  · rw [hk] at e1
    have : k = w.heap.size:=by simpa [Value.ownBlock] using e1
    omega
  · rw [hk] at e1
    cases e1
    simp at e2
    omega
end
section
open Go.RowKit Go.Maps
theorem zS8 (L:List ByteArray) (left:Int) : refE L left = 0\/refE L left = 1\/refE L left = 11:=by
 unfold refE; split
 · split <;> simp
 · simp
theorem DskB.below {w w':World} {p bF bD:Nat} {dn:Value} {left:Int} (h:DskB w p bF bD dn left) (hb:Below w.heap.size w w') : DskB w' p bF bD dn left:=(hb.block p h.lt).trans h
theorem MapR.below {w w':World} {b n:Nat} {D:DataW Value} (h:MapR w b n D) (hb:Below w.heap.size w w') : MapR w' b n D:=h.kept (hb.block b h.lt)
theorem xD4 (w:World) (s:ByteArray) (t:TypeId) : ∀ i u,[s][i]? = some u->(w.alloc (.cells #[.string s] t)).cell? ⟨w.heap.size,i,none⟩ = some (.string u):=by
 intro i u h
 match i,h with
 | 0,h =>
  simp at h
  subst h
  rw [cell_of_row _ w.heap.size 0 _ t (0,0) (heap_alloc_new w _)]
  rfl
theorem xD3 (w:World) (s s2:ByteArray) (t:TypeId) : ∀ i u,[s,s2][i]? = some u->(w.alloc (.cells #[.string s,.string s2] t)).cell? ⟨w.heap.size,i,none⟩ = some (.string u):=by
 intro i u h
 match i,h with
 | 0,h =>
  simp at h
  subst h
  rw [cell_of_row _ w.heap.size 0 _ t (0,0) (heap_alloc_new w _)]
  rfl
 | 1,h =>
  simp at h
  subst h
  rw [cell_of_row _ w.heap.size 1 _ t (0,0) (heap_alloc_new w _)]
  rfl
theorem zS7 (p bF bD:Nat) (dn:Value) (left:Int) (s:ByteArray) (w:World) (hd:DskB w p bF bD dn left) (r:Int) (hr:refE [s] left = r) : Calls Tryz.prog 26 #[.pointer (some ⟨p,0,none⟩),.slice (some ⟨w.heap.size,0,none⟩) 1 1] (w.alloc (.cells #[.string s] 9)) fun e w'=>e = .returned (.int .i64 r)/\w' = w.alloc (.cells #[.string s] 9):=by
 rw [<- hr]
 exact zX8 p bF bD w.heap.size dn left [s] 1 _ (hd.below (zB5 w _)) (xD4 w s 9) (by simp) (by simp)
theorem yO3 (p bF bD:Nat) (dn:Value) (left:Int) (s s2:ByteArray) (w:World) (hd:DskB w p bF bD dn left) (r:Int) (hr:refE [s,s2] left = r) : Calls Tryz.prog 26 #[.pointer (some ⟨p,0,none⟩),.slice (some ⟨w.heap.size,0,none⟩) 2 2] (w.alloc (.cells #[.string s,.string s2] 9)) fun e w'=>e = .returned (.int .i64 r)/\w' = w.alloc (.cells #[.string s,.string s2] 9):=by
 rw [<- hr]
 exact zX8 p bF bD w.heap.size dn left [s,s2] 2 _ (hd.below (zB5 w _)) (xD3 w s s2 9) (by simp) (by simp)
theorem DkR.more {w:World} {p:Nat} {M:Md} {cnt bF bD:Nat} {DF DD:DataW Value} {dn:Value} {G:List Gd} (h:DkR w p M cnt bF bD DF DD dn G) (hc:cnt + 1<=4398046511104) : DkR w p M (cnt + 1) bF bD DF DD dn G:=by
 obtain ⟨n,hn,hm⟩:=h.mF
 obtain ⟨n',hn',hm'⟩:=h.mD
 exact ⟨h.blk,⟨n,by omega,hm⟩,⟨n',by omega,hm'⟩,h.ne,h.hF,h.hD,h.liv,h.row,h.done,h.deed,h.leb,hc⟩
theorem yN0 (w:World) (A B:Obj) : ((w.alloc A).alloc B).heap[w.heap.size]? = some A/\((w.alloc A).alloc B).heap[w.heap.size + 1]? = some B:=⟨heap_alloc2_old w A B,heap_alloc2_new w A B⟩
theorem yU9 {w:World} (s:ByteArray) (hs:s.size<=maxLen) (az:Option Addr) (zc:Nat) (d:List UInt8) (hz:SlR w (.slice az d.length zc) d) (hd:d.length<=1048576) : zS6 ((w.alloc (.cells #[.string s] 9)).alloc (.cells #[.slice az d.length zc] 22)) w.heap.size s.data.toList/\yQ8 ((w.alloc (.cells #[.string s] 9)).alloc (.cells #[.slice az d.length zc] 22)) (w.heap.size + 1) d (.slice az d.length zc):=by
 obtain ⟨h1,h2⟩:=yN0 w (.cells #[.string s] 9) (.cells #[.slice az d.length zc] 22)
 exact ⟨⟨s,h1,rfl,hs⟩,az,zc,rfl,h2,(hz.grow (zB5 _ _)).grow (zB5 _ _),hd⟩
theorem zV8 {l:List UInt8} (h:zE6 l = true) : l.length<=32:=by
 unfold zE6 at h
 simp at h
 omega
theorem zF7 {L:List ByteArray} {left:Int} (h:refE L left = 0) : zF9 L = true/\left ≠ 0:=by
 unfold refE at h
 split at h
 · rename_i h1
   refine ⟨h1,fun e=>?_⟩
   rw [if_pos e] at h
   omega
 · omega
theorem yY6 (s:ByteArray) (a:Option Addr) (n cap:Nat) (p cnt bF bD:Nat) (M:Md) (DF DD:DataW Value) (dn:Value) (G:List Gd) (w:World) (h:DkR w p M cnt bF bD DF DD dn G) (hr:refE [s] M.left ≠ 0) : Calls Tryz.prog 10 #[.pointer (some ⟨p,0,none⟩),.string s,.slice a n cap] w fun e w'=>e = .returned (.int .i64 (refE [s] M.left))/\Below w.heap.size w w':=by
 rcases zS8 [s] M.left with e | e | e
 · exact absurd e hr
 all_goals
  have HR:=zA0 (zS7 p bF bD dn M.left s w h.blk _ e)
  rw [e]
  clear h hr e
  go_enter Tryz.func10,Tryz.ntmps10
  go_wp2_with (go_at_call 26; refine HR.out.mono ?_; rintro e w' ⟨rfl,rfl⟩)
  go_ret
  exact ⟨rfl,zB5 w _⟩
theorem xU9 (s:ByteArray) (a:Option Addr) (n cap:Nat) (p cnt bF bD:Nat) (M:Md) (DF DD:DataW Value) (dn:Value) (G:List Gd) (w:World) (h:DkR w p M cnt bF bD DF DD dn G) (hr:refE [s] M.left ≠ 0) : Calls Tryz.prog 67 #[.pointer (some ⟨p,0,none⟩),.string s,.slice a n cap] w fun e w'=>e = .returned (.int .i64 (refE [s] M.left))/\Below w.heap.size w w':=by
 rcases zS8 [s] M.left with e | e | e
 · exact absurd e hr
 all_goals
  have HR:=zA0 (zS7 p bF bD dn M.left s w h.blk _ e)
  rw [e]
  clear h hr e
  go_enter Tryz.func67,Tryz.ntmps67
  go_wp2_with (go_at_call 26; refine HR.out.mono ?_; rintro e w' ⟨rfl,rfl⟩)
  go_ret
  exact ⟨rfl,zB5 w _⟩
theorem yW8 (s s2:ByteArray) (p cnt bF bD:Nat) (M:Md) (DF DD:DataW Value) (dn:Value) (G:List Gd) (w:World) (h:DkR w p M cnt bF bD DF DD dn G) (hr:refE [s,s2] M.left ≠ 0) : Calls Tryz.prog 69 #[.pointer (some ⟨p,0,none⟩),.string s,.string s2] w fun e w'=>e = .returned (.int .i64 (refE [s,s2] M.left))/\Below w.heap.size w w':=by
 rcases zS8 [s,s2] M.left with e | e | e
 · exact absurd e hr
 all_goals
  have HR:=zA0 (yO3 p bF bD dn M.left s s2 w h.blk _ e)
  rw [e]
  clear h hr e
  go_enter Tryz.func69,Tryz.ntmps69
  go_wp2_with (go_at_call 26; refine HR.out.mono ?_; rintro e w' ⟨rfl,rfl⟩)
  go_ret
  exact ⟨rfl,zB5 w _⟩
theorem yQ9 (s:ByteArray) (a:Option Addr) (n cap:Nat) (p cnt bF bD:Nat) (M:Md) (DF DD:DataW Value) (dn:Value) (G:List Gd) (w:World) (h:DkR w p M cnt bF bD DF DD dn G) (hr:refE [s] M.left = 0) (hn:n<=211106232532992) (hlen:∀ k,(cOf M.files k).length<=1048576) (hroom:zI2 (((cOf M.files s.data.toList).length + n : Nat) : Int) (M.files s.data.toList).isSome (Maps.size DF) = false) : Calls Tryz.prog 10 #[.pointer (some ⟨p,0,none⟩),.string s,.slice a n cap] w fun e w'=>e = .returned (.int .i64 2)/\Below w.heap.size w w':=by
 obtain ⟨nF,hnF,hmF⟩:=h.mF
 have hok:=zF7 hr
 have hsz : s.size<=maxLen:=by
  have h1:=hok.1
  unfold zF9 at h1
  simp at h1
  have:=zV8 h1
  simp at this
  unfold maxLen
  omega
 have HR:=zA0 (zS7 p bF bD dn M.left s w h.blk _ hr)
 have hbl:=hlen s.data.toList
 have hrr:=h.liv.r false s.data.toList
 obtain ⟨fa,fc,ef,_,_⟩:=hrr.form
 have ef : vAt DF s.data.toList = .slice fa (cOf M.files s.data.toList).length fc:=ef
 have hlook:=(hmF.below (zB5 w (.cells #[.string s] 9))).look s hsz
 rw [ef] at hlook
 have HRM:=zL7 p bF bD nF DF dn M.left (((cOf M.files s.data.toList).length + n : Nat) : Int) s _ (h.blk.below (zB5 w (.cells #[.string s] 9))) (hmF.below (zB5 w _)) hsz
 rw [h.hF,hroom] at HRM
 have HRM:=zA0 HRM
 have c0:=(h.blk.below (zB5 w (.cells #[.string s] 9))).c0
 have lp:=(h.blk.below (zB5 w (.cells #[.string s] 9))).lt
 generalize (cOf M.files s.data.toList).length = m at *
 have hsum : ((m + n : Nat) : Int) = (m:Int) + (n:Int):=by omega
 rw [hsum] at HRM
 clear h hr hok hroom hlen hrr ef hmF hsum
 go_enter Tryz.func10,Tryz.ntmps10
 go_wp2_with (first
  | (go_at_call 26; refine HR.out.mono ?_; rintro e w' ⟨rfl,rfl⟩)
  | (go_at_call 27; refine HRM.out.mono ?_; rintro e w' ⟨rfl,rfl⟩))
 go_ret
 exact ⟨rfl,zB5 w _⟩
theorem yF6 {w':World} {z:Value} {d:List UInt8} (h:SlR w' z d) : ∃ az zc,z = .slice az d.length zc:=by
 obtain ⟨a,c,e,_⟩:=h.form
 exact ⟨a,c,e⟩
theorem xV9 (n:Nat) : max 1 (n:Int) = ((max 1 n:Nat) : Int):=by omega
theorem xH1 (s:ByteArray) (a:Option Addr) (cap:Nat) (d:List UInt8) (p cnt bF bD:Nat) (M:Md) (DF DD:DataW Value) (dn:Value) (G:List Gd) (w:World) (h:DkR w p M cnt bF bD DF DD dn G) (hr:refE [s] M.left = 0) (hB:Bs w a d) (hnn:a = none->d = []) (hlen:∀ k,(cOf M.files k).length<=1048576) (hroom:zI2 (((cOf M.files s.data.toList).length + d.length : Nat) : Int) (M.files s.data.toList).isSome (Maps.size DF) = true) (hc:cnt + 1<=4398046511104) : Calls Tryz.prog 10 #[.pointer (some ⟨p,0,none⟩),.string s,.slice a d.length cap] w fun e w'=>e = .returned (.int .i64 0)/\∃ DF' dn' G',DkR w' p ⟨doD (.ap s.data.toList d) (max 1 d.length) M.files,M.dur,M.done ++ [(max 1 d.length,.ap s.data.toList d)],zF0 M.left⟩ (cnt + 1) bF bD DF' DD dn' G'/\Fr w w' (Ft p bF bD DF DD dn (G.map (·.z))) (Ft p bF bD DF' DD dn' (G'.map (·.z))):=by
 obtain ⟨nF,hnF,hmF⟩:=h.mF
 have hok:=zF7 hr
 have hsz : s.size<=maxLen:=by
  have h1:=hok.1
  unfold zF9 at h1
  simp at h1
  have:=zV8 h1
  simp at this
  unfold maxLen
  omega
 have HR:=zA0 (zS7 p bF bD dn M.left s w h.blk _ hr)
 have hbl:=hlen s.data.toList
 have hrr:=h.liv.r false s.data.toList
 obtain ⟨fa,fc,ef,_,_⟩:=hrr.form
 have ef : vAt DF s.data.toList = .slice fa (cOf M.files s.data.toList).length fc:=ef
 have hlook:=(hmF.below (zB5 w (.cells #[.string s] 9))).look s hsz
 rw [ef] at hlook
 have HRM:=zL7 p bF bD nF DF dn M.left (((cOf M.files s.data.toList).length + d.length : Nat) : Int) s _ (h.blk.below (zB5 w (.cells #[.string s] 9))) (hmF.below (zB5 w _)) hsz
 rw [h.hF,hroom] at HRM
 have HRM:=zA0 HRM
 have hdl : d.length<=1048576:=by unfold zI2 at hroom; simp at hroom; omega
 have c0:=(h.blk.below (zB5 w (.cells #[.string s] 9))).c0
 have lp:=(h.blk.below (zB5 w (.cells #[.string s] 9))).lt
 have hsum : (((cOf M.files s.data.toList).length + d.length : Nat) : Int) = ((cOf M.files s.data.toList).length : Int) + (d.length:Int):=by omega
 rw [hsum] at HRM
 have hs48 : s.size<=281474976710656:=by
  have h1:=hok.1
  unfold zF9 at h1
  simp at h1
  have:=zV8 h1
  simp at this
  omega
 have H:=zA0 h
 have HB:=zA0 hB
 have HLEN:=zA0 hlen
 have hmf : ∀ (fn:Fn) (first cap:Array Value) (w:World),(Instr.makeFunc fn first cap).run Tryz.prog w = .ok (.func fn first cap) w:=fun _ _ _ _=>rfl
 clear h hr hok hroom hlen hrr ef hmF hsum hB
 generalize hq : (cOf M.files s.data.toList).length = m at *
 have HQ:=zA0 hq
 clear hq
 go_enter Tryz.func10,Tryz.ntmps10
 go_wp2_with (first
  | (go_at_call 26; refine HR.out.mono ?_; rintro e w' ⟨rfl,rfl⟩)
  | (go_at_call 27; refine HRM.out.mono ?_; rintro e w' ⟨rfl,rfl⟩)
  | (go_at_call 28; refine (zP2 s _ hs48).mono ?_; rintro e w2 ⟨rfl,hb⟩; have HB1 : Hid (Below w.heap.size w w2):=zA0 ((zB5 w _).trans (hb.mono (by simp))); clear hb c0 lp hlook HR HRM)
  | (go_at_call 29; refine (zP3 a cap d _ (HB.out.grow HB1.out) hnn).mono ?_; rintro e w3 ⟨z,rfl,hz,hfr,hb⟩; obtain ⟨az,zc,hzf⟩:=yF6 hz; subst hzf; have HB2:=zA0 (HB1.out.trans (hb.mono HB1.out.size)); have HZ:=zA0 hz; have HFR : Hid (∀ sd k g,(entE DF DD sd k).ownBlock = some g->(Value.slice az d.length zc).ownBlock ≠ some g):=zA0 (fun sd k g hk e=>(by have h1:=(H.out.liv.r sd k).lt g hk; have h2:=hfr g e; have h3:=HB1.out.size; omega)); have HZN : Hid (∀ k,(Value.slice az d.length zc).ownBlock = some k->w.heap.size<=k):=zA0 (fun g e=>Nat.le_trans HB1.out.size (hfr g e)); clear hz hfr hb)
  | (go_at_call 30; rw [xV9]; have HB3 : Hid (Below w.heap.size w ((w3.alloc (.cells #[.string s] 9)).alloc (.cells #[.slice az d.length zc] 22))):=zA0 ((HB2.out.alloc HB2.out.size _).alloc (Nat.le_trans HB2.out.size (by simp)) _); refine (kH8 s.data.toList d w3.heap.size (w3.heap.size + 1) p (max 1 d.length) cnt bF bD M DF DD dn (.slice az d.length zc) G _ (H.out.below HB3.out) ⟨_,_,rfl,yU9 s hsz az zc d HZ.out hdl⟩ HFR.out hc (by omega) HLEN.out).mono ?_; rintro e w5 ⟨rfl,hp⟩; have HP:=zA0 hp; clear hp))
 go_ret
 obtain ⟨DF',dn',g1,g2⟩:=HP.out
 exact ⟨rfl,DF',dn',_,g1,by rw [mapz]; exact Fr.fresh HB3.out HZN.out g2⟩
end
section
open Go.RowKit Go.Maps
theorem zL4 {s:ByteArray} (h:zE6 s.data.toList = true) : s.size<=maxLen/\s.size<=281474976710656:=by
 have:=zV8 h
 simp at this
 unfold maxLen
 omega
theorem zL6 {s:ByteArray} (h:zF9 [s] = true) : zE6 s.data.toList = true:=by unfold zF9 at h; simpa using h
theorem zL5 {s s2:ByteArray} (h:zF9 [s,s2] = true) : zE6 s.data.toList = true/\zE6 s2.data.toList = true:=by unfold zF9 at h; simpa using h
theorem yT9 (p cnt bF bD:Nat) (M:Md) (DF DD:DataW Value) (dn:Value) (G:List Gd) (w:World) (h:DkR w p M cnt bF bD DF DD dn G) (s:ByteArray) (hs:s.size<=maxLen) (b:Bool) (hb:(M.files s.data.toList).isSome = b) : Calls Tryz.prog 55 #[.pointer (some ⟨p,0,none⟩),.string s] w fun e w'=>e = .returned (.bool b)/\w' = w:=by
 obtain ⟨n,_,hm⟩:=h.mF
 have:=xE7 p bF bD n DF dn M.left s w h.blk hm hs
 change Calls _ _ _ _ fun e w'=>e = .returned (.bool (Maps.has DF (.string s.data.toList)))/\_ at this
 rw [h.hF,hb] at this
 exact this
theorem xL1 (s:ByteArray) (a:Option Addr) (n cap:Nat) (p cnt bF bD:Nat) (M:Md) (DF DD:DataW Value) (dn:Value) (G:List Gd) (w:World) (h:DkR w p M cnt bF bD DF DD dn G) (hr:refE [s] M.left = 0) (hroom:zI2 (n:Int) (M.files s.data.toList).isSome (Maps.size DF) = false) : Calls Tryz.prog 67 #[.pointer (some ⟨p,0,none⟩),.string s,.slice a n cap] w fun e w'=>e = .returned (.int .i64 2)/\Below w.heap.size w w':=by
 obtain ⟨nF,hnF,hmF⟩:=h.mF
 have hsz:=(zL4 (zL6 (zF7 hr).1)).1
 have HR:=zA0 (zS7 p bF bD dn M.left s w h.blk _ hr)
 have HRM:=zL7 p bF bD nF DF dn M.left (n:Int) s _ (h.blk.below (zB5 w (.cells #[.string s] 9))) (hmF.below (zB5 w _)) hsz
 rw [h.hF,hroom] at HRM
 have HRM:=zA0 HRM
 clear h hr hroom hmF
 go_enter Tryz.func67,Tryz.ntmps67
 go_wp2_with (first
  | (go_at_call 26; refine HR.out.mono ?_; rintro e w' ⟨rfl,rfl⟩)
  | (go_at_call 27; refine HRM.out.mono ?_; rintro e w' ⟨rfl,rfl⟩))
 go_ret
 exact ⟨rfl,zB5 w _⟩
theorem kB8 (s:ByteArray) (a:Option Addr) (cap:Nat) (d:List UInt8) (p cnt bF bD:Nat) (M:Md) (DF DD:DataW Value) (dn:Value) (G:List Gd) (w:World) (h:DkR w p M cnt bF bD DF DD dn G) (hr:refE [s] M.left = 0) (hB:Bs w a d) (hnn:a = none->d = []) (hroom:zI2 (d.length:Int) (M.files s.data.toList).isSome (Maps.size DF) = true) (hc:cnt + 1<=4398046511104) : Calls Tryz.prog 67 #[.pointer (some ⟨p,0,none⟩),.string s,.slice a d.length cap] w fun e w'=>e = .returned (.int .i64 0)/\∃ DF' dn' G',DkR w' p ⟨doD (.pt s.data.toList d) 1 M.files,M.dur,M.done ++ [(1,.pt s.data.toList d)],zF0 M.left⟩ (cnt + 1) bF bD DF' DD dn' G'/\Fr w w' (Ft p bF bD DF DD dn (G.map (·.z))) (Ft p bF bD DF' DD dn' (G'.map (·.z))):=by
 obtain ⟨nF,hnF,hmF⟩:=h.mF
 obtain ⟨hsz,hs48⟩:=zL4 (zL6 (zF7 hr).1)
 have HR:=zA0 (zS7 p bF bD dn M.left s w h.blk _ hr)
 have HRM:=zL7 p bF bD nF DF dn M.left (d.length:Int) s _ (h.blk.below (zB5 w (.cells #[.string s] 9))) (hmF.below (zB5 w _)) hsz
 rw [h.hF,hroom] at HRM
 have HRM:=zA0 HRM
 have hdl : d.length<=1048576:=by unfold zI2 at hroom; simp at hroom; omega
 have H:=zA0 h
 have HB:=zA0 hB
 have hmf : ∀ (fn:Fn) (first cap:Array Value) (w:World),(Instr.makeFunc fn first cap).run Tryz.prog w = .ok (.func fn first cap) w:=fun _ _ _ _=>rfl
 clear h hr hroom hmF hB
 go_enter Tryz.func67,Tryz.ntmps67
 go_wp2_with (first
  | (go_at_call 26; refine HR.out.mono ?_; rintro e w' ⟨rfl,rfl⟩)
  | (go_at_call 27; refine HRM.out.mono ?_; rintro e w' ⟨rfl,rfl⟩)
  | (go_at_call 28; refine (zP2 s _ hs48).mono ?_; rintro e w2 ⟨rfl,hb⟩; have HB1 : Hid (Below w.heap.size w w2):=zA0 ((zB5 w _).trans (hb.mono (by simp))); clear hb HR HRM)
  | (go_at_call 29; refine (zP3 a cap d _ (HB.out.grow HB1.out) hnn).mono ?_; rintro e w3 ⟨z,rfl,hz,hfr,hb⟩; obtain ⟨az,zc,hzf⟩:=yF6 hz; subst hzf; have HB2:=zA0 (HB1.out.trans (hb.mono HB1.out.size)); have HZ:=zA0 hz; have HFR : Hid (∀ sd k g,(entE DF DD sd k).ownBlock = some g->(Value.slice az d.length zc).ownBlock ≠ some g):=zA0 (fun sd k g hk e=>(by have h1:=(H.out.liv.r sd k).lt g hk; have h2:=hfr g e; have h3:=HB1.out.size; omega)); have HZN : Hid (∀ k,(Value.slice az d.length zc).ownBlock = some k->w.heap.size<=k):=zA0 (fun g e=>Nat.le_trans HB1.out.size (hfr g e)); clear hz hfr hb)
  | (go_at_call 30; have HB3 : Hid (Below w.heap.size w ((w3.alloc (.cells #[.string s] 9)).alloc (.cells #[.slice az d.length zc] 22))):=zA0 ((HB2.out.alloc HB2.out.size _).alloc (Nat.le_trans HB2.out.size (by simp)) _); refine (kH7 s.data.toList d w3.heap.size (w3.heap.size + 1) p 1 cnt bF bD M DF DD dn (.slice az d.length zc) G _ (H.out.below HB3.out) ⟨_,_,rfl,yU9 s hsz az zc d HZ.out hdl⟩ HFR.out hc).mono ?_; rintro e w5 ⟨rfl,hp⟩; have HP:=zA0 hp; clear hp))
 go_ret
 obtain ⟨DF',dn',g1,g2⟩:=HP.out
 exact ⟨rfl,DF',dn',_,g1,by rw [mapz]; exact Fr.fresh HB3.out HZN.out g2⟩
theorem xV4 (E:Bool->Nm->Value) : ∀ s k g,(E s k).ownBlock = some g->(Value.slice none 0 0).ownBlock ≠ some g:=fun _ _ _ _ e=>by cases e
theorem yO2 (s s2:ByteArray) (p cnt bF bD:Nat) (M:Md) (DF DD:DataW Value) (dn:Value) (G:List Gd) (w:World) (h:DkR w p M cnt bF bD DF DD dn G) (hr:refE [s,s2] M.left = 0) (hno:M.files s.data.toList = none) : Calls Tryz.prog 69 #[.pointer (some ⟨p,0,none⟩),.string s,.string s2] w fun e w'=>e = .returned (.int .i64 12)/\Below w.heap.size w w':=by
 have hsz:=(zL4 (zL5 (zF7 hr).1).1).1
 have HR:=zA0 (yO3 p bF bD dn M.left s s2 w h.blk _ hr)
 have HH:=zA0 (yT9 p cnt bF bD M DF DD dn G _ (h.below (zB5 w (.cells #[.string s,.string s2] 9))) s hsz false (by rw [hno]; rfl))
 clear h hr hno
 go_enter Tryz.func69,Tryz.ntmps69
 go_wp2_with (first
  | (go_at_call 26; refine HR.out.mono ?_; rintro e w' ⟨rfl,rfl⟩)
  | (go_at_call 55; refine HH.out.mono ?_; rintro e w' ⟨rfl,rfl⟩))
 go_ret
 exact ⟨rfl,zB5 w _⟩
theorem yR6 (w:World) (s s2:ByteArray) (h1:s.size<=maxLen) (h2:s2.size<=maxLen) : zS6 ((w.alloc (.cells #[.string s] 9)).alloc (.cells #[.string s2] 9)) w.heap.size s.data.toList/\zS6 ((w.alloc (.cells #[.string s] 9)).alloc (.cells #[.string s2] 9)) (w.heap.size + 1) s2.data.toList :=
 ⟨⟨s,(yN0 w _ _).1,rfl,h1⟩,⟨s2,(yN0 w _ _).2,rfl,h2⟩⟩
theorem xB9 (s s2:ByteArray) (p cnt bF bD:Nat) (M:Md) (DF DD:DataW Value) (dn:Value) (G:List Gd) (w:World) (h:DkR w p M cnt bF bD DF DD dn G) (hr:refE [s,s2] M.left = 0) (hyes:(M.files s.data.toList).isSome = true) (hc:cnt + 1<=4398046511104) : Calls Tryz.prog 69 #[.pointer (some ⟨p,0,none⟩),.string s,.string s2] w fun e w'=>e = .returned (.int .i64 0)/\∃ DF' dn' G',DkR w' p ⟨doD (.rn s.data.toList s2.data.toList) 1 M.files,M.dur,M.done ++ [(1,.rn s.data.toList s2.data.toList)],zF0 M.left⟩ (cnt + 1) bF bD DF' DD dn' G'/\Fr w w' (Ft p bF bD DF DD dn (G.map (·.z))) (Ft p bF bD DF' DD dn' (G'.map (·.z))):=by
 obtain ⟨hsz,hs48⟩:=zL4 (zL5 (zF7 hr).1).1
 obtain ⟨ht,ht48⟩:=zL4 (zL5 (zF7 hr).1).2
 have HR:=zA0 (yO3 p bF bD dn M.left s s2 w h.blk _ hr)
 have HH:=zA0 (yT9 p cnt bF bD M DF DD dn G _ (h.below (zB5 w (.cells #[.string s,.string s2] 9))) s hsz true hyes)
 have H:=zA0 h
 have hmf : ∀ (fn:Fn) (first cap:Array Value) (w:World),(Instr.makeFunc fn first cap).run Tryz.prog w = .ok (.func fn first cap) w:=fun _ _ _ _=>rfl
 have T1 : True:=trivial
 clear h hr hyes
 go_enter Tryz.func69,Tryz.ntmps69
 go_wp2_with (first
  | (go_at_call 26; refine HR.out.mono ?_; rintro e w' ⟨rfl,rfl⟩)
  | (go_at_call 55; refine HH.out.mono ?_; rintro e w' ⟨rfl,rfl⟩)
  | (go_at_call 28; have hh:=T1; clear T1; refine (zP2 s _ hs48).mono ?_; rintro e w2 ⟨rfl,hb⟩; have HB1 : Hid (Below w.heap.size w w2):=zA0 ((zB5 w _).trans (hb.mono (by simp))); clear hb HR HH)
  | (go_at_call 28; refine (zP2 s2 _ ht48).mono ?_; rintro e w3 ⟨rfl,hb⟩; have HB2:=zA0 (HB1.out.trans (hb.mono HB1.out.size)); clear hb)
  | (go_at_call 30; have HB3 : Hid (Below w.heap.size w ((w3.alloc (.cells #[.string s] 9)).alloc (.cells #[.string s2] 9))):=zA0 ((HB2.out.alloc HB2.out.size _).alloc (Nat.le_trans HB2.out.size (by simp)) _); refine (kH6 s.data.toList s2.data.toList w3.heap.size (w3.heap.size + 1) p 1 cnt bF bD M DF DD dn (.slice none 0 0) G _ (H.out.below HB3.out) ⟨_,_,rfl,(yR6 w3 s s2 hsz ht).1,(yR6 w3 s s2 hsz ht).2,rfl⟩ (xV4 _) hc).mono ?_; rintro e w5 ⟨rfl,hp⟩; have HP:=zA0 hp; clear hp))
 go_ret
 obtain ⟨DF',dn',g1,g2⟩:=HP.out
 exact ⟨rfl,DF',dn',_,g1,by rw [mapz]; exact Fr.fresh HB3.out (fun _ e=>by cases e) g2⟩
theorem SlR.nilOf_form {w:World} {v:Value} {d:List UInt8} (h:SlR w v d) {a:Option Addr} {c:Nat} (e:v = .slice a d.length c) (ha:a = none) : d = []:=by
 rcases h with ⟨rfl,h⟩ | ⟨g,cap,cur,rfl,_⟩
 · exact h
 · cases e; cases ha
theorem xC1 (s:ByteArray) (p cnt bF bD:Nat) (M:Md) (DF DD:DataW Value) (dn:Value) (G:List Gd) (w:World) (h:DkR w p M cnt bF bD DF DD dn G) (hn:zE6 s.data.toList = true) (hno:M.files s.data.toList = none) : Calls Tryz.prog 17 #[.pointer (some ⟨p,0,none⟩),.string s] w fun e w'=>e = .returned (.tuple #[.slice none 0 0,.int .i64 12])/\w' = w:=by
 have HN:=zO9 s w
 rw [hn] at HN
 have HN:=zA0 HN
 obtain ⟨nF,_,hmF⟩:=h.mF
 have hlook:=hmF.lookOk s (zL4 hn).1
 rw [h.hF,hno,xP0 (by rw [h.hF,hno]; rfl)] at hlook
 have c0:=h.blk.c0
 have lp:=h.blk.lt
 clear hn h hno hmF
 go_enter Tryz.func17,Tryz.ntmps17
 go_wp2_with (go_at_call 47; refine HN.out.mono ?_; rintro e w' ⟨rfl,rfl⟩)
 go_ret2
 exact ⟨rfl,rfl⟩
theorem xU7 (s:ByteArray) (d:List UInt8) (p cnt bF bD:Nat) (M:Md) (DF DD:DataW Value) (dn:Value) (G:List Gd) (w:World) (h:DkR w p M cnt bF bD DF DD dn G) (hn:zE6 s.data.toList = true) (hyes:M.files s.data.toList = some d) (hdl:d.length<=1048576) : Calls Tryz.prog 17 #[.pointer (some ⟨p,0,none⟩),.string s] w fun e w'=>∃ z,e = .returned (.tuple #[z,.int .i64 0])/\SlR w' z d/\Frs w z/\Below w.heap.size w w':=by
 have HN:=zO9 s w
 rw [hn] at HN
 have HN:=zA0 HN
 obtain ⟨nF,_,hmF⟩:=h.mF
 have hlook:=hmF.lookOk s (zL4 hn).1
 have hr:=h.liv.r false s.data.toList
 have e0 : entC M.files M.dur false s.data.toList = d:=by show cOf M.files s.data.toList = d; unfold cOf; rw [hyes]; rfl
 rw [e0] at hr
 obtain ⟨fa,fc,ef,hle,hB⟩:=hr.form
 have hnn : fa = none->d = []:=by
  intro e
  have:=hr.nilOf_form ef
  exact this e
 have ef : vAt DF s.data.toList = .slice fa d.length fc:=ef
 rw [h.hF,hyes,ef] at hlook
 have c0:=h.blk.c0
 have lp:=h.blk.lt
 have HB:=zA0 (hB (by omega))
 clear hn h hyes hmF ef hB hr e0
 go_enter Tryz.func17,Tryz.ntmps17
 go_wp2_with (first
  | (go_at_call 47; refine HN.out.mono ?_; rintro e w' ⟨rfl,rfl⟩)
  | (go_at_call 29; refine (zP3 fa fc d _ HB.out hnn).mono ?_; rintro e w3 ⟨z,rfl,hz,hfr,hb⟩))
 go_ret2
 exact ⟨z,rfl,hz,hfr,hb⟩
end
end Go.Proofs.YtocoimjhglackaaGreat
