/- Dmk, Dmd, Dsy -/
import Derived.Test.YtocoimjhglackaaGreatK09
import Derived.Deep.RegionHeld3
import Derived.Laws.EntriesVeiled
set_option maxHeartbeats 8000000
set_option maxRecDepth 100000
namespace Go.Proofs.YtocoimjhglackaaGreat
section
open Go.RowKit Go.Maps
def sumU (l:List (Nat × Dd)) : Nat:=(l.map (·.1)).sum
theorem yN3 (l:List (Nat × Dd)) (c:Nat) (h:∀ x ∈ l,x.1<=c) : ∀ k,sumU (l.take k)<=k * c:=by
 induction l with
 | nil=>intro k; simp [sumU]
 | cons x l ih =>
  intro k
  cases k with
  | zero=>simp [sumU]
  | succ k =>
   have h1:=h x (by simp)
   have h2:=ih (fun y hy=>h y (by simp [hy])) k
   simp only [sumU,List.take_succ_cons,List.map_cons,List.sum_cons] at h2 ⊢
   rw [Nat.succ_mul]
   omega
theorem zM6.form {w:World} {f:Value} {x:Dd} {z:Value} (h:zM6 w f x z) : ∃ K cs,f = .func (.func K) #[] cs:=by
 cases x with
 | ap n d=>obtain ⟨_,_,e,_⟩:=h; exact ⟨_,_,e⟩
 | pt n d=>obtain ⟨_,_,e,_⟩:=h; exact ⟨_,_,e⟩
 | rm n=>exact h.elim
 | rn a b=>obtain ⟨_,_,e,_⟩:=h; exact ⟨_,_,e⟩
theorem xA4 (l:List (Nat × Dd)) (k:Nat) (x:Nat × Dd) (h:l[k]? = some x) : sumU (l.take (k + 1)) = sumU (l.take k) + x.1:=by
 have hk:=(List.getElem?_eq_some_iff.1 h).1
 have e : l[k] = x:=(List.getElem?_eq_some_iff.1 h).2
 unfold sumU
 rw [List.take_succ_eq_append_getElem hk,List.map_append,List.sum_append,e]
 simp
theorem DkR.rowAt {w:World} {p:Nat} {M:Md} {cnt bF bD:Nat} {DF DD:DataW Value} {dn:Value} {G:List Gd} (h:DkR w p M cnt bF bD DF DD dn G) {k:Nat} {g:Gd} (hk:G[k]? = some g) : ∃ b cap,dn = .slice (some ⟨b,0,none⟩) G.length cap/\b < w.heap.size/\w.cell? ⟨b,k * 2,none⟩ = some (.int .i64 (g.u:Int))/\w.cell? ⟨b,k * 2 + 1,none⟩ = some g.f:=by
 have hlt:=(List.getElem?_eq_some_iff.1 hk).1
 rcases h.row.2 with ⟨_,e⟩ | ⟨b,cap,cur,e,_,h4,h5,h6,h7,h8⟩
 · omega
 · obtain ⟨r0,r1⟩:=xJ9 G k g hk
   refine ⟨b,cap,e,zA1 h4,?_,?_⟩
   · rw [cell_of_row w b _ cur 123 (0,0) h4]
     rw [<- h8,List.getElem?_take,if_pos (by omega)] at r0
     simpa using r0
   · rw [cell_of_row w b _ cur 123 (0,0) h4]
     rw [<- h8,List.getElem?_take,if_pos (by omega)] at r1
     simpa using r1
theorem DkR.dnForm {w:World} {p:Nat} {M:Md} {cnt bF bD:Nat} {DF DD:DataW Value} {dn:Value} {G:List Gd} (h:DkR w p M cnt bF bD DF DD dn G) : ∃ a cap,dn = .slice a G.length cap:=by
 rcases h.row.2 with ⟨e,e2⟩ | ⟨b,cap,cur,e,_⟩
 · exact ⟨none,0,by rw [e,e2]⟩
 · exact ⟨_,cap,e⟩
theorem DkR.doneAt {w:World} {p:Nat} {M:Md} {cnt bF bD:Nat} {DF DD:DataW Value} {dn:Value} {G:List Gd} (h:DkR w p M cnt bF bD DF DD dn G) {k:Nat} {g:Gd} (hk:G[k]? = some g) : M.done[k]? = some (g.u,g.x):=by
 rw [h.done,List.getElem?_map,hk]; rfl
theorem DkR.lenG {w:World} {p:Nat} {M:Md} {cnt bF bD:Nat} {DF DD:DataW Value} {dn:Value} {G:List Gd} (h:DkR w p M cnt bF bD DF DD dn G) : M.done.length = G.length/\G.length<=4398046511104:=by
 obtain ⟨n,hn,_⟩:=h.mD
 have:=h.cn
 exact ⟨by rw [h.done]; simp,by omega⟩
theorem yH6 (p cnt bF bD:Nat) (M:Md) (DF DD:DataW Value) (dn:Value) (G:List Gd) (w:World) (h:DkR w p M cnt bF bD DF DD dn G) (hU:∀ x ∈ M.done,x.1<=1048576) : Calls Tryz.prog 34 #[.pointer (some ⟨p,0,none⟩)] w fun e w'=>e = .returned (.int .i64 (sumU M.done:Int))/\Below w.heap.size w w':=by
 have H:=zA0 h
 have c2:=h.blk.c2
 have lp:=h.blk.lt
 obtain ⟨a,cap,hdn⟩:=h.dnForm
 obtain ⟨hlen,hgl⟩:=h.lenG
 have HU:=zA0 hU
 rw [hdn] at c2
 have HDN:=zA0 hdn
 have HLEN:=zA0 hlen
 clear h hU hdn hlen
 go_enter Tryz.func34,Tryz.ntmps34
 go_wp2
 go_loopw [3,11] (fun n i wr=>∃ k : Nat,k<=G.length/\i = .int .i64 (k:Int)/\n = .int .i64 (sumU (M.done.take k) : Int)/\Hid (Below w.heap.size w wr)) (fun _ i _=>G.length - (intOf i).toNat)
 case atStart=>exact ⟨0,Nat.zero_le _,rfl,by simp [sumU],zA0 (Below.refl _ _)⟩
 case round =>
  obtain ⟨k,hk,rfl,rfl,HB⟩:=hrel
  clear c2
  by_cases hlt : k < G.length
  · have hltz : (k:Int) < (G.length:Int):=by omega
    obtain ⟨g,hg⟩ : ∃ g,G[k]? = some g:=⟨_,List.getElem?_eq_getElem hlt⟩
    obtain ⟨b,cap',e,hb,r0,r1⟩:=(H.out.below HB.out).rowAt hg
    rw [HDN.out] at e
    cases e
    have HS:=zA0 (xA4 M.done k _ (H.out.doneAt hg))
    have hub:=HU.out _ (List.mem_of_getElem? (H.out.doneAt hg))
    have hle : sumU (M.done.take k)<=k * 1048576:=yN3 M.done 1048576 HU.out k
    have hub : g.u<=1048576:=hub
    generalize hs : sumU (M.done.take k) = s at *
    have HSS:=zA0 hs
    clear hs
    obtain ⟨u,hu⟩ : ∃ u,u = g.u:=⟨_,rfl⟩
    rw [<- hu] at r0 hub
    have HUU:=zA0 hu
    obtain ⟨K,cs,hf⟩:=(H.out.deed g (List.mem_of_getElem? hg)).form
    rw [hf] at r1
    clear hu hf hg
    go_wp2
    go_roundw
    case rel=>exact ⟨k + 1,by omega,by go_num,by rw [HS.out]; show _ = Value.int .i64 ((s + g.u : Nat) : Int); rw [<- HUU.out]; go_num,zA0 (HB.out.alloc HB.out.size _)⟩
    case measure=>simp [intOf]; omega
  · have hltz : ¬ (k:Int) < (G.length:Int):=by omega
    have hkl : k = M.done.length:=by rw [HLEN.out]; omega
    go_wp2
    go_ret
    exact ⟨rfl,HB.out⟩
def mkD : List (Nat × Dd)->Nat->FS->FS
 | [],_,fs=>fs
 | (v,x) :: r,u,fs=>if min u v = 0 then fs else mkD r (u - min u v) (doD x (min u v) fs)
def rep (l:List (Nat × Dd)) (fs:FS) : FS:=l.foldl (fun fs y=>doD y.2 y.1 fs) fs
def Bd (fs:FS) : Prop:=∀ k,(cOf fs k).length<=1048576
theorem xM2 {l:List (Nat × Dd)} {k v:Nat} {x:Dd} (h:l[k]? = some (v,x)) (u:Nat) (fs:FS) : mkD (l.drop k) u fs = if min u v = 0 then fs else mkD (l.drop (k + 1)) (u - min u v) (doD x (min u v) fs):=by
 have hk:=(List.getElem?_eq_some_iff.1 h).1
 have e : l[k] = (v,x):=(List.getElem?_eq_some_iff.1 h).2
 rw [List.drop_eq_getElem_cons hk,e]
 rfl
theorem xV6 (l:List (Nat × Dd)) (u:Nat) (fs:FS) : mkD (l.drop l.length) u fs = fs:=by
 rw [List.drop_length]; rfl
theorem xK5 {l:List (Nat × Dd)} {k v:Nat} {x:Dd} (h:l[k]? = some (v,x)) (fs:FS) : rep (l.take (k + 1)) fs = doD x v (rep (l.take k) fs):=by
 have hk:=(List.getElem?_eq_some_iff.1 h).1
 have e : l[k] = (v,x):=(List.getElem?_eq_some_iff.1 h).2
 unfold rep
 rw [List.take_succ_eq_append_getElem hk,List.foldl_append,e]
 rfl
theorem xN4 {w w1:World} {p:Nat} {M:Md} {cnt bF bD n:Nat} {DF DD:DataW Value} {dn:Value} {G:List Gd} {dur':FS}
    (h:DkR w p M cnt bF bD DF DD dn G) (hn:n + G.length<=cnt) (hm:MapR w bD n DD) (hdp:DPost w w1 true bD n DD (entE DF DD) (entC M.files M.dur) (G.map (·.z)) M.dur dur') (hc:cnt + 1<=4398046511104) :
    ∃ DD',DkR w1 p ⟨M.files,dur',M.done,M.left⟩ (cnt + 1) bF bD DF DD' dn G/\Fr w w1 (Ft p bF bD DF DD dn (G.map (·.z))) (Ft p bF bD DF DD' dn (G.map (·.z)))/\(∀ k,MapR w bF k DF->MapR w1 bF k DF):=by
 obtain ⟨D',v,v',c1,c2,c3,c4,c5,c6⟩:=hdp.ex
 obtain ⟨nF,hnF,hmF⟩:=h.mF
 obtain ⟨lv,hv⟩ : ∃ l,SlR w v l:=by
  rcases c5 with rfl | ⟨k,rfl⟩
  · exact ⟨[],SlR.nil w⟩
  · exact ⟨_,h.liv.r true k⟩
 have hvz : ∀ y ∈ G.map (·.z),SepK v y:=by
  rcases c5 with rfl | ⟨k,rfl⟩
  · exact fun y _=>SepK.nil' y
  · exact fun y hy=>h.liv.kz true k y hy
 obtain ⟨es,c,hobj⟩:=hm.obj
 have hp1 : DskB w1 p bF bD dn M.left:=(c4.cells hv hobj (by decide) h.blk).trans h.blk
 have hr1 : w1.ownsRow 0 123 2 dn G.length (rowL G):=zD2 h.row fun k hk=>by
  obtain ⟨cur,hcur⟩:=zE5 h.row hk
  exact c4.cells hv hobj (by decide) hcur
 have hmk : ∀ k,MapR w bF k DF->MapR w1 bF k DF:=fun k hk=>hk.kept (c4.block bF hk.lt (fun e=>h.ne (Option.some.inj e)) (fun _ e=>hv.ne_map hk e.symm))
 refine ⟨D',⟨hp1,⟨nF,by omega,hmk nF hmF⟩,⟨n + 1,by omega,c1⟩,h.ne,h.hF,c2,?_,hr1,h.done,fun g hg=>?_,h.leb,hc⟩,⟨c4.os,c4.tape,c4.output,c4.size,fun k hk hF=>?_,fun k hk=>?_⟩,hmk⟩
 · rw [yN6,yN7] at c3
   exact c3
 · exact (h.deed g hg).app c4 hv hm (hvz _ (List.mem_map_of_mem hg))
 · have n2 : k ≠ bD:=fun e=>hF (.inr (.inr (.inl e)))
   refine c4.block k hk (fun e=>n2 (Option.some.inj e)) (fun _ e=>?_)
   rcases c5 with rfl | ⟨j,rfl⟩
   · cases e
   · exact hF (.inr (.inr (.inr (.inr (.inl ⟨true,j,e.symm⟩)))))
 · rcases hk with e | e | e | e | ⟨s,j,e2⟩ | e
   · exact .inl (.inl e)
   · exact .inl (.inr (.inl e))
   · exact .inl (.inr (.inr (.inl e)))
   · exact .inl (.inr (.inr (.inr (.inl e))))
   · cases s with
     | true =>
      rcases c6 j k e2 with ⟨i,g2⟩ | g | g
      · exact .inl (.inr (.inr (.inr (.inr (.inl ⟨true,i,g2⟩)))))
      · exact .inl (.inr (.inr (.inr (.inr (.inr g)))))
      · exact .inr g
     | false=>exact .inl (.inr (.inr (.inr (.inr (.inl ⟨false,j,e2⟩)))))
   · exact .inl (.inr (.inr (.inr (.inr (.inr e)))))
def yF9 (w:World) (p:Nat) (M:Md) (cnt bF bD:Nat) (DF DD:DataW Value) (dn:Value) (G:List Gd) (x:Dd) (m:Nat) : Ending->World->Prop:=fun e w1=>e = .returned (.tuple #[])/\∃ DD',DkR w1 p ⟨M.files,doD x m M.dur,M.done,M.left⟩ (cnt + 1) bF bD DF DD' dn G/\Fr w w1 (Ft p bF bD DF DD dn (G.map (·.z))) (Ft p bF bD DF DD' dn (G.map (·.z)))/\(∀ k,MapR w bF k DF->MapR w1 bF k DF)
theorem xN5 (p cnt bF bD:Nat) (M:Md) (DF DD:DataW Value) (dn:Value) (G:List Gd) (w:World) (h:DkR w p M cnt bF bD DF DD dn G) (hc:cnt + 1<=4398046511104) (g:Gd) (hg:g ∈ G) (m:Nat) (hm:m<=1099511627776) (hb:Bd M.dur) :
    (∀ n d,g.x = .ap n d->∃ p1 q1,g.f = .func (.func 31) #[] #[.pointer (some ⟨p1,0,none⟩),.pointer (some ⟨q1,0,none⟩)]/\Calls Tryz.prog 31 #[.map (some bD),.int .i64 (m:Int),.pointer (some ⟨p1,0,none⟩),.pointer (some ⟨q1,0,none⟩)] w (yF9 w p M cnt bF bD DF DD dn G g.x m)) /\
    (∀ n d,g.x = .pt n d->∃ p1 q1,g.f = .func (.func 98) #[] #[.pointer (some ⟨p1,0,none⟩),.pointer (some ⟨q1,0,none⟩)]/\Calls Tryz.prog 98 #[.map (some bD),.int .i64 (m:Int),.pointer (some ⟨p1,0,none⟩),.pointer (some ⟨q1,0,none⟩)] w (yF9 w p M cnt bF bD DF DD dn G g.x m)) /\
    (∀ n,g.x ≠ .rm n) /\
    (∀ a b,g.x = .rn a b->∃ p1 q1,g.f = .func (.func 99) #[] #[.pointer (some ⟨p1,0,none⟩),.pointer (some ⟨q1,0,none⟩)]/\Calls Tryz.prog 99 #[.map (some bD),.int .i64 (m:Int),.pointer (some ⟨p1,0,none⟩),.pointer (some ⟨q1,0,none⟩)] w (yF9 w p M cnt bF bD DF DD dn G g.x m)):=by
 obtain ⟨n,hn,hmD⟩:=h.mD
 have hd:=h.deed g hg
 have hzs : ∀ y ∈ G.map (·.z),∃ l,SlR w y l:=fun y hy=>by
  obtain ⟨g',hg',rfl⟩:=List.mem_map.1 hy
  exact (h.deed g' hg').z
 have hcn:=h.cn
 have fin : ∀ w1,DPost w w1 true bD n DD (entE DF DD) (entC M.files M.dur) (G.map (·.z)) M.dur (doD g.x m M.dur)->yF9 w p M cnt bF bD DF DD dn G g.x m (.returned (.tuple #[])) w1:=fun w1 hp=>⟨rfl,xN4 h hn hmD hp hc⟩
 have hnl : n < maxLen:=by unfold maxLen; omega
 refine ⟨fun nm d e=>?_,fun nm d e=>?_,fun nm e=>?_,fun na nb e=>?_⟩
 · rw [e] at hd fin ⊢
   obtain ⟨p1,q1,ef,a1,a2⟩:=hd
   refine ⟨p1,q1,ef,(yV5 (s:=true) hmD hnl (fun _=>rfl) (fun _=>rfl) h.hD h.liv hzs a1 a2 m hm (hb nm)).mono ?_⟩
   rintro e' w1 ⟨rfl,hp⟩
   exact fin w1 hp
 · rw [e] at hd fin ⊢
   obtain ⟨p1,q1,ef,a1,a2⟩:=hd
   refine ⟨q1,p1,ef,(yS9 (s:=true) hmD hnl (fun _=>rfl) (fun _=>rfl) h.hD h.liv (List.mem_map_of_mem hg) a1 a2 m).mono ?_⟩
   rintro e' w1 ⟨rfl,hp⟩
   exact fin w1 hp
 · rw [e] at hd
   exact hd.elim
 · rw [e] at hd fin ⊢
   obtain ⟨p1,q1,ef,a1,a2,_⟩:=hd
   refine ⟨p1,q1,ef,(yS6 (s:=true) hmD hnl (fun _=>rfl) (fun _=>rfl) h.hD h.liv a1 a2 m).mono ?_⟩
   rintro e' w1 ⟨rfl,hp⟩
   exact fin w1 hp
end
section
open Go.RowKit Go.Maps
structure MdS (w wr:World) (p:Nat) (M:Md) (cnt bF bD:Nat) (DF DD:DataW Value) (dn:Value) (G:List Gd) (u0 k u:Nat) (fs:FS) (DD':DataW Value) : Prop where
 d : DkR wr p ⟨M.files,fs,M.done,M.left⟩ (cnt + k) bF bD DF DD' dn G
 fr : Fr w wr (Ft p bF bD DF DD dn (G.map (·.z))) (Ft p bF bD DF DD' dn (G.map (·.z)))
 mF : ∃ n,n<=cnt/\MapR wr bF n DF
 eq : mkD M.done u0 M.dur = mkD (M.done.drop k) u fs
 all : u ≠ 0->fs = rep (M.done.take k) M.dur
theorem MdS.below {w wr w':World} {p:Nat} {M:Md} {cnt bF bD:Nat} {DF DD:DataW Value} {dn:Value} {G:List Gd} {u0 k u:Nat} {fs:FS} {DD':DataW Value} (h:MdS w wr p M cnt bF bD DF DD dn G u0 k u fs DD') (hb:Below wr.heap.size wr w') : MdS w w' p M cnt bF bD DF DD dn G u0 k u fs DD':=by
 obtain ⟨n,hn,hm⟩:=h.mF
 exact ⟨h.d.below hb,h.fr.trans (Fr.of_below hb),⟨n,hn,hm.below hb⟩,h.eq,h.all⟩
theorem MdS.step {w wr w':World} {p:Nat} {M:Md} {cnt bF bD:Nat} {DF DD:DataW Value} {dn:Value} {G:List Gd} {u0 k u:Nat} {fs:FS} {DD' DD'':DataW Value} (h:MdS w wr p M cnt bF bD DF DD dn G u0 k u fs DD') {g:Gd} (hg:G[k]? = some g) (hu:u ≠ 0) (hv:g.u ≠ 0)
    (h1:DkR w' p ⟨M.files,doD g.x (min u g.u) fs,M.done,M.left⟩ (cnt + k + 1) bF bD DF DD'' dn G) (h2:Fr wr w' (Ft p bF bD DF DD' dn (G.map (·.z))) (Ft p bF bD DF DD'' dn (G.map (·.z)))) (h3:∀ i,MapR wr bF i DF->MapR w' bF i DF) : MdS w w' p M cnt bF bD DF DD dn G u0 (k + 1) (u - min u g.u) (doD g.x (min u g.u) fs) DD'':=by
 obtain ⟨n,hn,hm⟩:=h.mF
 have hd : M.done[k]? = some (g.u,g.x):=by
  have:=h.d.doneAt hg
  exact this
 refine ⟨h1,h.fr.trans h2,⟨n,hn,h3 n hm⟩,?_,fun hne=>?_⟩
 · rw [h.eq,xM2 hd,if_neg (by omega)]
 · have : min u g.u = g.u:=by omega
   rw [this,xK5 hd,h.all hu]
theorem MdS.fin {w wr:World} {p:Nat} {M:Md} {cnt bF bD:Nat} {DF DD:DataW Value} {dn:Value} {G:List Gd} {u0 k u:Nat} {fs:FS} {DD':DataW Value} (h:MdS w wr p M cnt bF bD DF DD dn G u0 k u fs DD') (hk:k<=G.length) (hc:cnt<=4398046511104) (he:u = 0\/k = G.length) :
    DkR (wr.setCell ⟨p,2,none⟩ (.slice none 0 0)) p ⟨M.files,mkD M.done u0 M.dur,[],M.left⟩ cnt bF bD DF DD' (.slice none 0 0) []/\Fr w (wr.setCell ⟨p,2,none⟩ (.slice none 0 0)) (Ft p bF bD DF DD dn (G.map (·.z))) (Ft p bF bD DF DD' (.slice none 0 0) []):=by
 obtain ⟨n,hn,hm⟩:=h.mF
 obtain ⟨n',hn',hm'⟩:=h.d.mD
 have kt : yB2 wr (wr.setCell ⟨p,2,none⟩ (.slice none 0 0)):=(Tch.setp wr p dn.ownBlock 2 _).keepT h.d.blk h.d.row
 have ef : mkD M.done u0 M.dur = fs:=by
  rw [h.eq]
  rcases he with e | e
  · subst e
    cases hl : M.done.drop k with
    | nil=>rfl
    | cons y r=>simp [mkD]
  · rw [e]
    have : M.done.length = G.length:=h.d.lenG.1
    rw [<- this]
    exact xV6 M.done u fs
 rw [ef]
 refine ⟨⟨zZ5 h.d.blk _,⟨n,hn,hm.keepT kt⟩,⟨n',by simp; omega,hm'.keepT kt⟩,h.d.ne,h.d.hF,h.d.hD,(h.d.liv.forget).keepT kt,⟨rfl,.inl ⟨rfl,rfl⟩⟩,rfl,fun g hg=>(by cases hg),h.d.leb,hc⟩,h.fr.trans ⟨rfl,rfl,rfl,by simp,fun k _ hF=>Below.heap_setCell wr ⟨p,2,none⟩ _ k (fun e=>hF (.inl e)),fun k hk=>?_⟩⟩
 rcases hk with e | e | e | e | e | ⟨_,e,_⟩
 · exact .inl (.inl e)
 · exact .inl (.inr (.inl e))
 · exact .inl (.inr (.inr (.inl e)))
 · cases e
 · exact .inl (.inr (.inr (.inr (.inr (.inl e)))))
 · cases e
theorem DkR.ftLt {w:World} {p:Nat} {M:Md} {cnt bF bD:Nat} {DF DD:DataW Value} {dn:Value} {G:List Gd} (h:DkR w p M cnt bF bD DF DD dn G) : ∀ k,Ft p bF bD DF DD dn (G.map (·.z)) k->k < w.heap.size:=by
 intro k hk
 rcases hk with rfl | rfl | rfl | e | ⟨s,j,e⟩ | ⟨y,hy,e⟩
 · exact h.blk.lt
 · obtain ⟨n,_,hm⟩:=h.mF; exact hm.lt
 · obtain ⟨n,_,hm⟩:=h.mD; exact hm.lt
 · obtain ⟨cur,hc⟩:=zE5 h.row e; exact zA1 hc
 · exact (h.liv.r s j).lt k e
 · obtain ⟨g,hg,rfl⟩:=List.mem_map.1 hy
   obtain ⟨l,hl⟩:=(h.deed g hg).z
   exact hl.lt k e
theorem zQ3 {w:World} {k:Nat} {x v:Value} {t:TypeId} (h:w.heap[k]? = some (.cells #[x,v] t (0,0))) : w.cell? ⟨k,1,none⟩ = some v:=by
 rw [cell_of_row w k 1 _ t (0,0) h]
 rfl
theorem xV8 (a b:Nat) : min (a:Int) (b:Int) = ((min a b:Nat) : Int):=by omega
theorem zN3 (p cnt bF bD:Nat) (M:Md) (DF DD:DataW Value) (dn:Value) (G:List Gd) (w:World) (h:DkR w p M cnt bF bD DF DD dn G) (u0:Nat) (hu0:u0<=4611686018427387904) (hU:∀ x ∈ M.done,1<=x.1/\x.1<=1048576) (hbd:∀ k,Bd (rep (M.done.take k) M.dur)) (hc:cnt<=2199023255552) : Calls Tryz.prog 33 #[.pointer (some ⟨p,0,none⟩),.int .i64 (u0:Int)] w fun e w'=>e = .returned (.tuple #[])/\∃ DD',DkR w' p ⟨M.files,mkD M.done u0 M.dur,[],M.left⟩ cnt bF bD DF DD' (.slice none 0 0) []/\Fr w w' (Ft p bF bD DF DD dn (G.map (·.z))) (Ft p bF bD DF DD' (.slice none 0 0) []):=by
 have c2:=h.blk.c2
 have lp:=h.blk.lt
 obtain ⟨a,cap,hdn⟩:=h.dnForm
 obtain ⟨nD0,hnD0,_⟩:=h.mD
 have hgl : G.length<=cnt:=by omega
 have HU:=zA0 hU
 have HBD:=zA0 hbd
 rw [hdn] at c2
 have HDN:=zA0 hdn
 have H0 : Hid (MdS w w p M cnt bF bD DF DD dn G u0 0 u0 M.dur DD):=zA0 ⟨h,Fr.refl _ _,(by obtain ⟨n,hn,hm⟩:=h.mF; exact ⟨n,hn,hm⟩),rfl,fun _=>rfl⟩
 clear h hU hdn hbd hnD0
 go_enter Tryz.func33,Tryz.ntmps33
 go_wp2
 go_loopw [1,12] (fun un i wr=>∃ (k u:Nat) (fs:FS) (DD':DataW Value),k<=G.length/\u<=4611686018427387904/\i = .int .i64 (k:Int)/\un = .int .i64 (u:Int)/\Hid (MdS w wr p M cnt bF bD DF DD dn G u0 k u fs DD')) (fun _ i _=>G.length - (intOf i).toNat)
 case atStart=>exact ⟨0,u0,M.dur,DD,Nat.zero_le _,hu0,rfl,rfl,H0⟩
 case round =>
  obtain ⟨k,u,fs,DD',hk,hul,rfl,rfl,H⟩:=hrel
  clear c2 lp H0
  have c2:=H.out.d.blk.c2
  have c1:=H.out.d.blk.c1
  have lp:=H.out.d.blk.lt
  have fz:=H.out.d.blk.fr
  rw [HDN.out] at c2
  by_cases hlt : k < G.length
  · have hltz : (k:Int) < (G.length:Int):=by omega
    obtain ⟨g,hg⟩ : ∃ g,G[k]? = some g:=⟨_,List.getElem?_eq_getElem hlt⟩
    obtain ⟨b,cap',e,hb,r0,r1⟩:=H.out.d.rowAt hg
    rw [HDN.out] at e
    cases e
    have hub:=HU.out _ (List.mem_of_getElem? (H.out.d.doneAt hg))
    have hub : 1<=g.u/\g.u<=1048576:=hub
    obtain ⟨v,hv⟩ : ∃ v,v = g.u:=⟨_,rfl⟩
    rw [<- hv] at r0 hub
    obtain ⟨hv1,hv2⟩:=hub
    have HV:=zA0 hv
    have HG:=zA0 hg
    have hgm:=List.mem_of_getElem? hg
    have HGM:=zA0 hgm
    by_cases hz : u = 0
    · subst hz
      obtain ⟨K,cs,hf⟩:=(H.out.d.deed g hgm).form
      rw [hf] at r1
      clear hv hg hgm hf
      have hmn : min 0 (v:Int) = 0:=by omega
      go_wp2
      go_end0
      obtain ⟨f1,f2⟩:=H.out.fin hk (by omega) (.inl rfl)
      exact ⟨rfl,DD',f1.below (zB5 _ _),f2.trans (Fr.of_below (zB5 _ _))⟩
    · have hmv:=xV8 u v
      obtain ⟨m,hm⟩ : ∃ m,m = min u v:=⟨_,rfl⟩
      have HM:=zA0 hm
      have hm0 : ((m:Int) == 0) = false:=by simp; omega
      have hm1 : m<=1048576:=by omega
      have hmu : m<=u:=by omega
      rw [<- hm] at hmv
      have hbd : Bd fs:=by rw [H.out.all hz]; exact HBD.out k
      have hq:=xN5 p (cnt + k) bF bD ⟨M.files,fs,M.done,M.left⟩ DF DD' dn G _ (H.out.d.below (zB5 wr (.cells #[.int .i64 (v:Int),g.f] 123)).drew) (by omega) g hgm m (by omega) hbd
      have HZ:=zA0 hz
      clear hz hm hbd hv hg hgm
      cases hx : g.x with
      | ap n d =>
       obtain ⟨p1,q1,hf,hcall⟩:=hq.1 n d hx
       clear hq
       rw [hf] at r1 hcall
       have HC:=zA0 hcall
       clear hf hcall hx
       go_wp2
       go_region_held3 (fun w'=>w'.cell? ⟨wr.heap.size,1,none⟩ = some (.func (.func 31) #[] #[.pointer (some ⟨p1,0,none⟩),.pointer (some ⟨q1,0,none⟩)])/\w'.cell? ⟨p,1,none⟩ = some (.map (some bD))) (first | go_keep | exact KK.out) (first
        | (go_at_call 31; refine HC.out.mono ?_; rintro e w1 ⟨rfl,DD2,e1,e2,e3⟩; have HS:=zA0 (((H.out.below (zB5 wr (.cells #[.int .i64 (v:Int),.func (.func 31) #[] #[.pointer (some ⟨p1,0,none⟩),.pointer (some ⟨q1,0,none⟩)]] 123)).drew)).step HG.out HZ.out (by rw [<- HV.out]; omega) (by rw [<- HV.out,<- HM.out]; exact e1) e2 e3); have KK : Hid (w1.cell? ⟨wr.heap.size,1,none⟩ = some (.func (.func 31) #[] #[.pointer (some ⟨p1,0,none⟩),.pointer (some ⟨q1,0,none⟩)])/\w1.cell? ⟨p,1,none⟩ = some (.map (some bD))):=zA0 ⟨zQ3 ((e2.block wr.heap.size (by simp) (fun e=>Nat.lt_irrefl _ (H.out.d.ftLt _ e))).trans (heap_alloc_new wr _)),e1.blk.c1⟩; clear e1 e2 e3 c1 c2 lp fz))
       go_wp2
       go_roundw
       case rel =>
        have hst:=HS.out
        rw [<- HV.out,<- HM.out] at hst
        exact ⟨k + 1,u - m,_,DD2,by omega,by omega,by go_num,by go_num,zA0 hst⟩
       case measure=>simp [intOf]; omega
      | pt n d =>
       obtain ⟨p1,q1,hf,hcall⟩:=hq.2.1 n d hx
       clear hq
       rw [hf] at r1 hcall
       have HC:=zA0 hcall
       clear hf hcall hx
       go_wp2
       go_region_held3 (fun w'=>w'.cell? ⟨wr.heap.size,1,none⟩ = some (.func (.func 98) #[] #[.pointer (some ⟨p1,0,none⟩),.pointer (some ⟨q1,0,none⟩)])/\w'.cell? ⟨p,1,none⟩ = some (.map (some bD))) (first | go_keep | exact KK.out) (first
        | (go_at_call 98; refine HC.out.mono ?_; rintro e w1 ⟨rfl,DD2,e1,e2,e3⟩; have HS:=zA0 (((H.out.below (zB5 wr (.cells #[.int .i64 (v:Int),.func (.func 98) #[] #[.pointer (some ⟨p1,0,none⟩),.pointer (some ⟨q1,0,none⟩)]] 123)).drew)).step HG.out HZ.out (by rw [<- HV.out]; omega) (by rw [<- HV.out,<- HM.out]; exact e1) e2 e3); have KK : Hid (w1.cell? ⟨wr.heap.size,1,none⟩ = some (.func (.func 98) #[] #[.pointer (some ⟨p1,0,none⟩),.pointer (some ⟨q1,0,none⟩)])/\w1.cell? ⟨p,1,none⟩ = some (.map (some bD))):=zA0 ⟨zQ3 ((e2.block wr.heap.size (by simp) (fun e=>Nat.lt_irrefl _ (H.out.d.ftLt _ e))).trans (heap_alloc_new wr _)),e1.blk.c1⟩; clear e1 e2 e3 c1 c2 lp fz))
       go_wp2
       go_roundw
       case rel =>
        have hst:=HS.out
        rw [<- HV.out,<- HM.out] at hst
        exact ⟨k + 1,u - m,_,DD2,by omega,by omega,by go_num,by go_num,zA0 hst⟩
       case measure=>simp [intOf]; omega
      | rm n=>exact absurd hx (hq.2.2.1 n)
      | rn na nb =>
       obtain ⟨p1,q1,hf,hcall⟩:=hq.2.2.2 na nb hx
       clear hq
       rw [hf] at r1 hcall
       have HC:=zA0 hcall
       clear hf hcall hx
       go_wp2
       go_region_held3 (fun w'=>w'.cell? ⟨wr.heap.size,1,none⟩ = some (.func (.func 99) #[] #[.pointer (some ⟨p1,0,none⟩),.pointer (some ⟨q1,0,none⟩)])/\w'.cell? ⟨p,1,none⟩ = some (.map (some bD))) (first | go_keep | exact KK.out) (first
        | (go_at_call 99; refine HC.out.mono ?_; rintro e w1 ⟨rfl,DD2,e1,e2,e3⟩; have HS:=zA0 (((H.out.below (zB5 wr (.cells #[.int .i64 (v:Int),.func (.func 99) #[] #[.pointer (some ⟨p1,0,none⟩),.pointer (some ⟨q1,0,none⟩)]] 123)).drew)).step HG.out HZ.out (by rw [<- HV.out]; omega) (by rw [<- HV.out,<- HM.out]; exact e1) e2 e3); have KK : Hid (w1.cell? ⟨wr.heap.size,1,none⟩ = some (.func (.func 99) #[] #[.pointer (some ⟨p1,0,none⟩),.pointer (some ⟨q1,0,none⟩)])/\w1.cell? ⟨p,1,none⟩ = some (.map (some bD))):=zA0 ⟨zQ3 ((e2.block wr.heap.size (by simp) (fun e=>Nat.lt_irrefl _ (H.out.d.ftLt _ e))).trans (heap_alloc_new wr _)),e1.blk.c1⟩; clear e1 e2 e3 c1 c2 lp fz))
       go_wp2
       go_roundw
       case rel =>
        have hst:=HS.out
        rw [<- HV.out,<- HM.out] at hst
        exact ⟨k + 1,u - m,_,DD2,by omega,by omega,by go_num,by go_num,zA0 hst⟩
       case measure=>simp [intOf]; omega
  · have hltz : ¬ (k:Int) < (G.length:Int):=by omega
    go_wp2
    go_end0
    obtain ⟨f1,f2⟩:=H.out.fin hk (by omega) (.inr (by omega))
    exact ⟨rfl,DD',f1,f2⟩
end
section
open Go.RowKit Go.Maps
theorem Fr.setp (w:World) (p bF bD:Nat) (DF DD:DataW Value) (dn:Value) (Z:List Value) (j:Nat) (u:Value) : Fr w (w.setCell ⟨p,j,none⟩ u) (Ft p bF bD DF DD dn Z) (Ft p bF bD DF DD dn Z) :=
 ⟨rfl,rfl,rfl,by simp,fun k _ hF=>Below.heap_setCell w ⟨p,j,none⟩ u k (fun e=>hF (.inl e)),fun _ h=>.inl h⟩
theorem DkR.setLeft {w:World} {p:Nat} {M:Md} {cnt bF bD:Nat} {DF DD:DataW Value} {dn:Value} {G:List Gd} (h:DkR w p M cnt bF bD DF DD dn G) (n:Int) (hn:-1<=n/\n<=1099511627776) : DkR (w.setCell ⟨p,3,none⟩ (.int .i64 n)) p ⟨M.files,M.dur,M.done,n⟩ cnt bF bD DF DD dn G:=by
 have kt : yB2 w (w.setCell ⟨p,3,none⟩ (.int .i64 n)):=(Tch.setp w p dn.ownBlock 3 _).keepT h.blk h.row
 obtain ⟨n1,hn1,hm1⟩:=h.mF
 obtain ⟨n2,hn2,hm2⟩:=h.mD
 exact ⟨yL1 h.blk n,⟨n1,hn1,hm1.keepT kt⟩,⟨n2,hn2,hm2.keepT kt⟩,h.ne,h.hF,h.hD,h.liv.keepT kt,zD2 h.row (fun k hk=>Below.heap_setCell w ⟨p,3,none⟩ _ k (fun e=>h.rowNe (by rw [hk,e]))),h.done,fun g hg=>(h.deed g hg).keepT kt,hn,h.cn⟩
theorem DkR.count {w w':World} {p:Nat} {M:Md} {cnt bF bD:Nat} {DF DD:DataW Value} {dn:Value} {G:List Gd} (h:DkR w p M cnt bF bD DF DD dn G) (hw:w' = if 0 < M.left then w.setCell ⟨p,3,none⟩ (.int .i64 (M.left - 1)) else w) : DkR w' p ⟨M.files,M.dur,M.done,zF0 M.left⟩ cnt bF bD DF DD dn G/\Fr w w' (Ft p bF bD DF DD dn (G.map (·.z))) (Ft p bF bD DF DD dn (G.map (·.z))):=by
 have hl:=h.leb
 unfold zF0
 by_cases e : 0 < M.left
 · rw [if_pos e] at hw ⊢
   subst hw
   exact ⟨h.setLeft _ (by omega),Fr.setp _ _ _ _ _ _ _ _ _ _⟩
 · rw [if_neg e] at hw ⊢
   subst hw
   exact ⟨h,Fr.refl _ _⟩
def fs0 : FS:=fun _=>none
def M0 : Md:=⟨fs0,fs0,[],-1⟩
theorem yE4 (w:World) : MapR (w.alloc (.map #[] 0)) w.heap.size 0 (.map []):=World.ownsMap_made w Tryz.prog 9 RV
theorem xW6 (k:Nm) : Maps.has (.map [] : DataW Value) (.string k) = false:=rfl
theorem xV5 (w:World) : Calls Tryz.prog 9 #[] w fun e w'=>e = .returned (.pointer (some ⟨w.heap.size + 1 + 1,0,none⟩))/\w' = (((w.alloc (.map #[] 0)).alloc (.map #[] 0)).alloc (.cells #[.map (some w.heap.size),.map (some (w.heap.size + 1)),.slice none 0 0,.int .i64 (-1)] 83)):=by
 have hmm:=@run_makeMap Tryz.prog
 go_enter Tryz.func9,Tryz.ntmps9
 go_wp2
 go_ret
 exact ⟨rfl,rfl⟩
theorem newR (w:World) : DkR (((w.alloc (.map #[] 0)).alloc (.map #[] 0)).alloc (.cells #[.map (some w.heap.size),.map (some (w.heap.size + 1)),.slice none 0 0,.int .i64 (-1)] 83)) (w.heap.size + 1 + 1) M0 0 w.heap.size (w.heap.size + 1) (.map []) (.map []) (.slice none 0 0) []:=by
 have e1 : (w.alloc (.map #[] 0)).heap.size = w.heap.size + 1:=by simp
 have e2 : ((w.alloc (.map #[] 0)).alloc (.map #[] 0)).heap.size = w.heap.size + 1 + 1:=by simp
 have hb:=heap_alloc_new ((w.alloc (.map #[] 0)).alloc (.map #[] 0)) (.cells #[.map (some w.heap.size),.map (some (w.heap.size + 1)),.slice none 0 0,.int .i64 (-1)] 83)
 rw [e2] at hb
 have hm2:=yE4 (w.alloc (.map #[] 0))
 rw [e1] at hm2
 refine ⟨hb,⟨0,Nat.le_refl _,((yE4 w).below (zB5 _ _)).below (zB5 _ _)⟩,⟨0,by simp,hm2.below (zB5 _ _)⟩,by omega,fun k=>rfl,fun k=>rfl,⟨fun s k=>?_,fun s k s' k' _=>?_,fun s k z hz=>(by cases hz)⟩,⟨rfl,.inl ⟨rfl,rfl⟩⟩,rfl,fun g hg=>(by cases hg),by decide,by omega⟩
 · cases s <;> exact SlR.nil _
 · cases s <;> exact Sep.nil' _
theorem xL7 (w:World) : ∀ k,Ft (w.heap.size + 1 + 1) w.heap.size (w.heap.size + 1) (.map []) (.map []) (.slice none 0 0) [] k->w.heap.size<=k:=by
 intro k hk
 rcases hk with rfl | rfl | rfl | e | ⟨s,j,e⟩ | ⟨_,e,_⟩
 · omega
 · omega
 · omega
 · cases e
 · cases s <;> cases e
 · cases e
theorem xV7 (l:List (Nat × Dd)) (h:∀ x ∈ l,1<=x.1) : ∀ fs,mkD l (sumU l) fs = rep l fs:=by
 induction l with
 | nil=>intro fs; rfl
 | cons y l ih =>
  intro fs
  obtain ⟨v,x⟩:=y
  have h1:=h (v,x) (by simp)
  have e : sumU ((v,x) :: l) = v + sumU l:=by simp [sumU]
  have e2 : min (v + sumU l) v = v:=by omega
  rw [e]
  unfold mkD
  rw [e2,if_neg (by simp at h1; omega),show v + sumU l - v = sumU l by omega,ih (fun z hz=>h z (by simp [hz]))]
  rfl
theorem xI5 (p cnt bF bD:Nat) (M:Md) (DF DD:DataW Value) (dn:Value) (G:List Gd) (w:World) (h:DkR w p M cnt bF bD DF DD dn G) (hl:M.left = 0) : Calls Tryz.prog 11 #[.pointer (some ⟨p,0,none⟩)] w fun e w'=>e = .returned (.int .i64 11)/\w' = w:=by
 have HC:=zZ1 p bF bD dn M.left w h.blk
 rw [show decide (M.left = 0) = true by simp [hl]] at HC
 have HC:=zA0 HC
 clear h hl
 go_enter Tryz.func11,Tryz.ntmps11
 go_wp2_with (go_at_call 32; refine HC.out.mono ?_; rintro e w' ⟨rfl,rfl⟩)
 go_ret
 exact ⟨rfl,rfl⟩
theorem xT5 (p cnt bF bD:Nat) (M:Md) (DF DD:DataW Value) (dn:Value) (G:List Gd) (w:World) (h:DkR w p M cnt bF bD DF DD dn G) (hl:M.left ≠ 0) (hU:∀ x ∈ M.done,1<=x.1/\x.1<=1048576) (hbd:∀ k,Bd (rep (M.done.take k) M.dur)) (hc:cnt<=2199023255552) : Calls Tryz.prog 11 #[.pointer (some ⟨p,0,none⟩)] w fun e w'=>e = .returned (.int .i64 0)/\∃ DD',DkR w' p ⟨M.files,rep M.done M.dur,[],zF0 M.left⟩ cnt bF bD DF DD' (.slice none 0 0) []/\Fr w w' (Ft p bF bD DF DD dn (G.map (·.z))) (Ft p bF bD DF DD' (.slice none 0 0) []):=by
 have HC:=zZ1 p bF bD dn M.left w h.blk
 rw [show decide (M.left = 0) = false by simp [hl]] at HC
 have HC:=zA0 HC
 have hle:=h.leb.2
 have hsum : sumU M.done<=M.done.length * 1048576:=by
  have h1:=yN3 M.done 1048576 (fun x hx=>(hU x hx).2) M.done.length
  rwa [List.take_length] at h1
 have hlg:=h.lenG
 have hU2 : ∀ x ∈ M.done,x.1<=1048576:=fun x hx=>(hU x hx).2
 have HU:=zA0 (yH6 p cnt bF bD M DF DD dn G w h hU2)
 have HEQ:=zA0 (xV7 M.done (fun x hx=>(hU x hx).1) M.dur)
 have HUU:=zA0 hU
 have HBD:=zA0 hbd
 have H:=zA0 h
 generalize hs : sumU M.done = s at *
 clear h hl hU hbd hU2 hs
 go_enter Tryz.func11,Tryz.ntmps11
 go_wp2_with (first
  | (go_at_call 32; refine HC.out.mono ?_; rintro e w' ⟨rfl,rfl⟩)
  | (go_at_call 34; refine HU.out.mono ?_; rintro e w1 ⟨rfl,hb⟩; have HB:=zA0 hb; clear hb)
  | (go_at_call 33; refine (zN3 p cnt bF bD M DF DD dn G _ (H.out.below HB.out) s (by omega) HUU.out HBD.out hc).mono ?_; rintro e w2 ⟨rfl,hp⟩; rw [HEQ.out] at hp; have HP:=zA0 hp; obtain ⟨DD',hd2,hf2⟩:=hp; have H2:=zA0 hd2; have F2:=zA0 hf2; clear hd2 hf2)
  | (go_at_call 35; refine (zJ2 p bF bD _ M.left _ H2.out.blk hle).mono ?_; rintro e w3 ⟨rfl,hw⟩; have HW:=zA0 hw; clear hw))
 go_ret
 obtain ⟨g1,g2⟩:=H2.out.count HW.out
 exact ⟨rfl,DD',g1,((Fr.of_below HB.out).trans F2.out).trans g2⟩
end
end Go.Proofs.YtocoimjhglackaaGreat
