/- Wha, Whb, Whc, Whd, Vref -/
import Derived.Test.YtocoimjhglackaaGreatK27
set_option maxHeartbeats 8000000
set_option maxRecDepth 100000
namespace Go.Proofs.YtocoimjhglackaaGreat
section
open Go.RowKit Go.Maps
def NwB (w:World) (l:List UInt8) (v:Value) (w':World) : Prop:=Own w' v l/\(∀ k,v.ownBlock = some k->w.heap.size<=k)/\Below w.heap.size w w'
theorem NwB.step {w wr w1:World} {m:List UInt8} {v v':Value} {o:Obj} {l:List UInt8} (h:NwB w m v wr) (o1:Own w1 v' l) (s1:Stp (wr.alloc o) w1 v.ownBlock v'.ownBlock) : NwB w l v' w1:=by
 have hs:=h.2.2.size
 refine ⟨o1,fun k hk=>?_,(h.2.2.alloc hs o).trans (s1.below _ (by simp; omega) h.2.1)⟩
 rcases s1.row with e | ⟨j,e,hj⟩
 · exact h.2.1 k (by rw [<- e]; exact hk)
 · rw [hk] at e; cases e; simp at hj; omega
theorem zR4 (n:Int) (w:World) (hn:okN n) : Calls Tryz.prog 102 #[.int .i64 n] w fun e w'=>∃ v,e = .returned v/\NwB w (enc n) v w':=by
 obtain ⟨n0,n1⟩:=hn
 obtain ⟨u0,hu0⟩:=Int.eq_ofNat_of_zero_le (show 0<=2 * n by omega)
 have HE : Hid (enc n = encU u0):=zA0 (by unfold enc zG0; rw [if_neg (by omega),hu0]; rfl)
 have f1 : u0<=2199023255552:=by omega
 have HU:=zA0 hu0
 clear hu0
 go_enter Tryz.func102,Tryz.ntmps102
 go_wp2
 rw [HU.out]
 go_loopw [3,4] (fun vv t wr=>∃ (u:Nat) (m:List UInt8) (v:Value),v = vv/\u<=u0/\t = .int .i64 u/\Hid (m ++ encU u = encU u0)/\Hid (NwB w m v wr)) (fun _ t _=>(intOf t).toNat)
 case atStart=>exact ⟨u0,[],_,rfl,Nat.le_refl _,rfl,rfl,zA0 ⟨.inl ⟨rfl,rfl⟩,fun k hk=>(by simp [Value.ownBlock] at hk),Below.refl _ _⟩⟩
 case round =>
  obtain ⟨u,m,v,rfl,hu,rfl,hpre,HN⟩:=hrel
  obtain ⟨a,c,hv,hbs⟩:=HN.out.1.form
  subst hv
  clear hbs
  have hml : Hid (m.length<=137438953482):=by
   have e:=congrArg List.length hpre.out
   rw [List.length_append] at e
   have:=zI5 u0 5 (by omega)
   show m.length<=_
   omega
  by_cases hub : u < 128
  · have hpu : Hid (encU u = [zI9 u]):=zF5 u hub
    go_wp2_with (at_builtin; refine zC3 _ rfl (.tmp 18) (.tmp 21) rfl _ m rfl (HN.out.1.alloc _) _ [zI9 u] rfl ?src ?len ?next)
    case src=>exact zK9 _ _ _ (yF0 u hub) _ rfl
    case len=>have:=hml.out; simp only [List.length_cons,List.length_nil]; omega
    case next =>
     intro v' w1 o1 s1
     have HN1:=zA0 (HN.out.step o1 s1)
     obtain ⟨a',c',hv',_⟩:=o1.form
     subst hv'
     clear o1 s1
     go_wp2
     go_ret
     refine ⟨_,rfl,?_⟩
     have e : enc n = m ++ [zI9 u]:=by rw [HE.out,<- hpre.out,hpu.out]
     rw [e]
     exact HN1.out
  · have hpu : Hid (encU u = zH4 u :: encU (u / 128)):=zL9 u hub
    go_wp2_with (at_builtin; refine zC3 _ rfl (.tmp 9) (.tmp 14) rfl _ m rfl (HN.out.1.alloc _) _ [zH4 u] rfl ?src ?len ?next)
    case src=>exact zK9 _ _ _ (yQ7 u) _ rfl
    case len=>have:=hml.out; simp only [List.length_cons,List.length_nil]; omega
    case next =>
     intro v' w1 o1 s1
     have HN1:=zA0 (HN.out.step o1 s1)
     obtain ⟨a',c',hv',_⟩:=o1.form
     subst hv'
     clear o1 s1
     go_wp2
     refine ⟨⟨u / 128,m ++ [zH4 u],_,rfl,by omega,by go_num,?_,HN1⟩,by simp [intOf]; omega⟩
     show m ++ [zH4 u] ++ encU (u / 128) = _
     rw [<- hpre.out,hpu.out,List.append_assoc]; rfl
def HdP (w:World) (t v:Int) (e:Ending) (w':World) : Prop:=Below w.heap.size w w'/\∃ val,(okN t/\okN v->NwB w (zE0 t v) val w')/\(¬ (okN t/\okN v)->val = .slice none 0 0)/\e = .returned (.tuple #[val,.bool (decide (okN t/\okN v))])
theorem zY0 (t v:Int) (w:World) : Calls Tryz.prog 72 #[.agg #[.int .i64 t,.int .i64 v]] w (HdP w t v):=by
 by_cases h : okN t/\okN v
 · obtain ⟨⟨t0,t1⟩,v0,v1⟩:=h
   have HOK : Hid (okN t/\okN v):=zA0 ⟨⟨t0,t1⟩,v0,v1⟩
   have HL1 : Hid ((enc t).length<=6):=zA0 (zD5 t (by omega) t1)
   have HL2 : Hid ((enc v).length<=6):=zA0 (zD5 v (by omega) v1)
   go_enter Tryz.func72,Tryz.ntmps72
   go_wp2_with fail
   refine (zR4 t _ HOK.out.1).mono ?_
   rintro e w1 ⟨va,rfl,hna⟩
   obtain ⟨aa,ca,hva,_⟩:=hna.1.form
   subst hva
   have HNA:=zA0 hna
   have hc1 : w1.cell? ⟨w.heap.size,1,none⟩ = some (.int .i64 v):=by
    rw [hna.2.2.cell (p:=⟨w.heap.size,1,none⟩) (by simp)]
    rw [cell_of_row _ w.heap.size 1 _ 31 (0,0) (heap_alloc_new w _)]; rfl
   have hlt1 : w.heap.size < w1.heap.size:=by have:=hna.2.2.size; simp at this; omega
   clear hna
   go_wp2_with fail
   refine (zR4 v _ HOK.out.2).mono ?_
   rintro e w2 ⟨vb,rfl,hnb⟩
   obtain ⟨ab,cb,hvb,hbb⟩:=hnb.1.form
   subst hvb
   have HBB:=zA0 (hbb (by have:=HL2.out; omega))
   have HNB:=zA0 hnb
   clear hnb hbb
   go_wp2_with (at_builtin; refine zC3 _ rfl (.tmp 26) (.tmp 29) rfl _ (enc t) rfl (HNA.out.1.below HNB.out.2.2) _ (enc v) rfl (HBB.out.src Tryz.underlying22 cb) (by have:=HL1.out; have:=HL2.out; omega) ?_)
   intro v' w3 o3 s3
   obtain ⟨a',c',hv',_⟩:=o3.form
   subst hv'
   have HO3:=zA0 o3
   have HS3:=zA0 s3
   clear o3 s3
   go_wp2
   go_ret2
   have hs1:=HNA.out.2.2.size
   have hs2:=HNB.out.2.2.size
   have hB : Below w.heap.size w w3:=(((zB5 w _).trans (HNA.out.2.2.mono (by simp))).trans (HNB.out.2.2.mono (by simp at hs1; omega))).trans (HS3.out.below _ (by simp at hs1; omega) (fun k hk=>by have:=HNA.out.2.1 k hk; simp at this; omega))
   refine ⟨hB,_,fun _=>⟨HO3.out,fun k hk=>?_,hB⟩,fun hh=>absurd HOK.out hh,by rw [decide_eq_true HOK.out]; rfl⟩
   rcases HS3.out.row with e | ⟨j,e,hj⟩
   · have:=HNA.out.2.1 k (by rw [<- e]; exact hk); simp at this; omega
   · rw [hk] at e; cases e; simp at hs1; omega
 · have HOK:=zA0 h
   have hh : t < 0\/1099511627776 < t\/v < 0\/1099511627776 < v:=by unfold okN at h; omega
   clear h
   go_enter Tryz.func72,Tryz.ntmps72
   go_wp2
   all_goals first
    | (exfalso; have:=HOK.out; unfold okN at this; omega)
    | (go_ret2; exact ⟨zB5 w _,_,fun x=>absurd x HOK.out,fun _=>rfl,by rw [decide_eq_false HOK.out]; rfl⟩)
end
section
open Go.RowKit Go.Maps
def iv (l:List Int) : List Value:=l.map (Value.int .i64 ·)
def Ph (b:List UInt8) (i:Nat) (l:List Int) (n sc:Int) : Prop:=∀ t v,okN t->okN v->b = zE0 t v->l = [t,v] \/
 ∃ (u:Nat) (x:Int) (r:List UInt8),(0 < u\/sc = 1)/\n + sc * u = 2 * x/\b.drop i = encU u ++ r/\((l = []/\x = t/\r = enc v)\/(l = [t]/\x = v/\r = []))
def GrP (w:World) (b:List UInt8) (e:Ending) (w':World) : Prop:=∃ x y : Int,e = .returned (.tuple #[.agg #[.int .i64 x,.int .i64 y],.bool (decide (okH b))])/\(okH b->x = (dH b).1/\y = (dH b).2)/\Below w.heap.size w w'
end
section
open Go.RowKit Go.Maps
theorem zG1 {w:World} {S:Nat->Prop} {cs:List Value} {v:Vl zB6} (h:Rep w S zB6 cs v) : ∃ av nv cv al nl cl ad nd cd ea ec,cs = [.int .i64 v.1.1,.int .i64 v.1.2,.int .i64 v.2.1.1,.int .i64 v.2.1.2.1,.slice av nv cv,.slice al nl cl,.slice ad nd cd,.slice ea v.2.2.length ec]/\Rep w S zA2 [.int .i64 v.2.1.1,.int .i64 v.2.1.2.1,.slice av nv cv,.slice al nl cl,.slice ad nd cd] v.2.1/\RepL w S zA8 ea v.2.2:=by
 obtain ⟨xs,ys,rfl,⟨x1,x2,rfl,h1,h2⟩,x3,x4,rfl,h3,h4⟩:=h
 rw [show x1 = _ from h1,show x2 = _ from h2]
 obtain ⟨av,cv,al,cl,ad,cd,rfl,_⟩:=zH1 h3
 obtain ⟨ea,ec,rfl,h5,h6⟩:=h4
 exact ⟨av,_,cv,al,_,cl,ad,_,cd,ea,ec,rfl,h3,h5,h6⟩
theorem Okd.idx {s:Sd} (h:Okd s) {k:Nat} (hk:k < (s.bs.map dE).length) : eI (s.bs.map dE)[k] = s.base + 1 + k:=by
 rw [List.getElem_map]
 exact (h.es k _ (List.getElem?_eq_getElem (by simpa using hk))).2
theorem Okd.snI {s:Sd} (h:Okd s) : (snV s).1 = s.base:=by
 unfold snV
 cases hs : s.sn with
 | none=>rw [h.no hs]; rfl
 | some b=>rw [(h.sn b hs).2]; rfl
theorem yQ2 (S:Nat->Prop) (cs:List Value) (s:Sd) (n:Int) (bb:Bool) (w:World) (hr:Rep w S zB6 cs (dec s)) (hS:∀ k,S k->k < w.heap.size) (hok:Okd s) (hbb:decide (s.base < n/\n<=s.base + s.bs.length + 1) = bb) : Calls Tryz.prog 42 #[.agg cs.toArray,.int .i64 n] w fun e w'=>e = .returned (.bool bb)/\Below w.heap.size w w':=by
 obtain ⟨av,nv,cv,al,nl,cl,ad,nd,cd,ea,ec,rfl,hsn,hrl⟩:=zG1 hr
 have HRL:=zA0 hrl
 have HS:=zA0 hS
 have HOK:=zA0 hok
 have hI:=hok.snI
 have hlen:=hok.len
 have hb0:=hok.base.1
 have hb1:=hok.base.2
 have hml : (s.bs.map dE).length = s.bs.length:=by simp
 simp only [dec] at *
 rw [hI,hml]
 clear hr hsn hrl hI hS hok
 have HBB:=zA0 hbb
 clear hbb
 generalize hB : s.base = base at *
 generalize hN : s.bs.length = len at *
 go_enter Tryz.func42,Tryz.ntmps42
 go_wp2
 go_loopw [5,6] (fun ll i wr=>∃ (k:Nat),k<=len/\i = .int .i64 (k:Int)/\ll = .int .i64 (base + k)/\Hid (wr.heap[w.heap.size]? = some (.cells #[.int .i64 s.t,.int .i64 s.v,.int .i64 base,.int .i64 (snV s).2.1,.slice av nv cv,.slice al nl cl,.slice ad nd cd,.slice ea len ec] 39 (0,0)))/\Hid (Below w.heap.size w wr)) (fun _ i _=>len - (intOf i).toNat)
 case atStart=>exact ⟨0,Nat.zero_le _,rfl,by simp,zA0 (heap_alloc_new w _),zA0 (zB5 w _)⟩
 case round =>
  obtain ⟨k,hk,rfl,rfl,HG,HB⟩:=hrel
  have c2 : wr.cell? ⟨w.heap.size,2,none⟩ = some (.int .i64 base):=cor HG.out rfl
  have c7 : wr.cell? ⟨w.heap.size,7,none⟩ = some (.slice ea len ec):=cor HG.out rfl
  have l0:=zA1 HG.out
  by_cases hlt : k < len
  · have hlt' : k < (s.bs.map dE).length:=by rw [hml]; exact hlt
    obtain ⟨b,off,es,rfl,hSb,hrep,hrg⟩:=Rep.load HRL.out hlt'
    obtain ⟨r,he,_⟩:=zD3 hrep
    have hx : wr.cell? ⟨b,off + k * 29,none⟩ = some (.int .i64 (base + 1 + k)):=by
     rw [HB.out.cell (p:=⟨b,off + k * 29,none⟩) (HS.out b hSb)]
     have:=hrg 0 (.int .i64 (eI (s.bs.map dE)[k])) (by rw [he]; rfl)
     rw [HOK.out.idx hlt',hB] at this
     simpa using this
    have lb : b < wr.heap.size:=Nat.lt_of_lt_of_le (HS.out b hSb) HB.out.size
    clear he hrep hrg hlt'
    go_wp2
    exact ⟨⟨k + 1,by omega,by go_num,by go_num,HG,HB⟩,by simp [intOf]; omega⟩
  · have hkn : k = len:=by omega
    subst hkn
    have hst : s.bs.length = k:=hN
    clear hN
    go_wp2
    all_goals
     go_ret
     first
      | (have hb2:bb = false:=by rw [<- HBB.out]; exact decide_eq_false (by omega)
         rw [hb2]; exact ⟨rfl,HB.out⟩)
      | (have hb2:bb = decide (n<=base + (k:Int) + 1):=by rw [<- HBB.out]; exact decide_eq_decide.2 (by omega)
         rw [hb2]; exact ⟨rfl,HB.out⟩)
end
section
open Go.RowKit Go.Maps
theorem kB3 {wr:World} {B:Nat} {S:Nat->Prop} {v:Value} {ess:List (List Value)} {vals:List En} (ho:wr.ownsRow B 73 29 v vals.length ess.flatten) (hl:ess.length = vals.length) (h3:∀ i (h1:i < ess.length) (h2:i < vals.length),Rep wr S zA8 ess[i] vals[i]) (hD:∀ k,NBr B wr k->S k) (hb:vals.length<=8388608) : ∃ a c,v = .slice a vals.length c/\RepL wr S zA8 a vals:=by
 rcases ho.2 with ⟨rfl,hn⟩ | ⟨g,cap,cur,rfl,hbg,hg,hnc,hcm,hcs,htake⟩
 · have : vals = []:=List.eq_nil_of_length_eq_zero hn
   subst this
   exact ⟨none,0,rfl,by simp,fun h=>absurd rfl h⟩
 · refine ⟨_,cap,rfl,by omega,fun _=>⟨g,0,rfl,hD g ⟨hbg,(Array.getElem?_eq_some_iff.1 hg).1,_,_,hg⟩,fun i hi=>?_⟩⟩
   have hie : i < ess.length:=by omega
   refine ⟨ess[i],h3 i hie hi,fun j u hu=>?_⟩
   have hel : ∀ es ∈ ess,es.length = wd zA8:=by
    intro es hes
    obtain ⟨q,hq,rfl⟩:=List.getElem_of_mem hes
    exact (h3 q hq (by omega)).len
   have hj : j < wd zA8:=by rw [<- hel ess[i] (List.getElem_mem hie)]; exact (List.getElem?_eq_some_iff.1 hu).1
   rw [cell_of_row wr g _ cur 73 (0,0) hg,Nat.zero_add]
   have:=zQ2 (wd zA8) ess hel i hie j hj
   rw [hu,<- htake,List.getElem?_take] at this
   split at this
   · simpa using this
   · cases this
def ElW (w:World) (D:Nat->Prop) (ess:List (List Value)) (vals:List En) : Prop:=ess.length = vals.length/\∀ i (h1:i < ess.length) (h2:i < vals.length),Rep w D zA8 ess[i] vals[i]
theorem ElW.more {w:World} {D:Nat->Prop} {ess:List (List Value)} {vals:List En} {es:List Value} {x:En} (h:ElW w D ess vals) (hx:Rep w D zA8 es x) : ElW w D (ess ++ [es]) (vals ++ [x]):=by
 refine ⟨by simp [h.1],fun i h1 h2=>?_⟩
 by_cases hi : i < ess.length
 · rw [List.getElem_append_left hi,List.getElem_append_left (by rw [<- h.1]; exact hi)]
   exact h.2 i hi (by rw [<- h.1]; exact hi)
 · have e : i = ess.length:=by simp at h1; omega
   subst e
   rw [List.getElem_append_right (Nat.le_refl _),List.getElem_append_right (by rw [h.1]; exact Nat.le_refl _)]
   simpa [h.1] using hx
theorem zZ3 (ess:List (List Value)) (es:List Value) : (ess ++ [es]).flatten = ess.flatten ++ es:=by simp
def Un (S:Nat->Prop) (B:Nat) (w':World) (k:Nat) : Prop:=S k\/NBr B w' k
def PuP (S:Nat->Prop) (w:World) (s:Sd) (e:Ending) (w':World) : Prop:=∃ cs,e = .returned (.agg cs.toArray)/\Rep w' (Un S w.heap.size w') zB6 cs (dec s)/\Below w.heap.size w w'
theorem xU8 (D:Nat->Prop) (cs xs:List Value) (s:Sd) (b:List UInt8) (k0:Nat) (w:World) (hr:Rep w D zB6 cs (dec s)) (hx:Rep w D zA8 xs (dE b)) (hok:Okd s) (hk0:k0<=s.bs.length) (hI:eI (dE b) = s.base + 1 + k0) (hD:∀ k,D k->k < w.heap.size) (hn:s.bs.length<=4194304) :
    Calls Tryz.prog 22 #[.agg cs.toArray,.agg xs.toArray] w (PuP D w ⟨s.t,s.v,s.sn,s.base,s.bs.take k0 ++ [b]⟩):=by
 obtain ⟨av,nv,cv,al,nl,cl,ad,nd,cd,ea,ec,rfl,hsn,hrl⟩:=zG1 hr
 obtain ⟨r,he,hel⟩:=zD3 hx
 have HR:=zA0 hx
 have HE : Hid (xs = .int .i64 (s.base + 1 + k0) :: r):=zA0 (by rw [he,hI])
 have HEL:=zA0 hel
 have HCI : Hid ((Tryz.prog.info? 73).map (·.size) = some xs.toArray.size):=by show _ = _; rw [List.size_toArray]; exact zF6 hel
 have HONE : Hid (∀ u ∈ xs,u.oneCell' = true):=zA0 (fun u hu=>hx.one u hu)
 have HRL:=zA0 hrl
 have HSN:=zA0 hsn
 have HOK:=zA0 hok
 have HD:=zA0 hD
 have hbI:=hok.snI
 have hlen:=hok.len
 have hb0:=hok.base.1
 have hb1:=hok.base.2
 have hml : (s.bs.map dE).length = s.bs.length:=by simp
 simp only [dec] at *
 rw [hml]
 rw [hbI] at HSN ⊢
 clear hr hsn hrl hbI hx he hel hI hD
 obtain ⟨w0,hw0⟩ : ∃ w0,w0 = ((w.alloc (.cells #[.int .i64 s.t,.int .i64 s.v,.int .i64 s.base,.int .i64 (snV s).2.1,.slice av nv cv,.slice al nl cl,.slice ad nd cd,.slice ea s.bs.length ec] 39)).alloc (.cells xs.toArray 73)).alloc (.cells Z39 39):=⟨_,rfl⟩
 have HB0 : Hid (Below w.heap.size w w0):=zA0 (by rw [hw0]; exact ((zB5 w _).alloc (by simp) _).alloc (by simp; omega) _)
 have HZ0 : Hid (w0.heap.size = w.heap.size + 3):=zA0 (by rw [hw0]; simp)
 have HG0 : Hid (w0.heap[w.heap.size]? = some (.cells #[.int .i64 s.t,.int .i64 s.v,.int .i64 s.base,.int .i64 (snV s).2.1,.slice av nv cv,.slice al nl cl,.slice ad nd cd,.slice ea s.bs.length ec] 39 (0,0))):=zA0 (by rw [hw0]; exact (Below.heap_alloc _ _ _ (by simp; omega)).trans ((Below.heap_alloc _ _ _ (by simp)).trans (heap_alloc_new w _)))
 have HG1 : Hid (w0.heap[w.heap.size + 1]? = some (.cells xs.toArray 73 (0,0))):=zA0 (by
  rw [hw0]
  refine (Below.heap_alloc _ _ _ (by simp)).trans ?_
  have:=heap_alloc_new (w.alloc (.cells #[.int .i64 s.t,.int .i64 s.v,.int .i64 s.base,.int .i64 (snV s).2.1,.slice av nv cv,.slice al nl cl,.slice ad nd cd,.slice ea s.bs.length ec] 39)) (.cells xs.toArray 73)
  rwa [World.size_alloc] at this)
 have HG2 : Hid (w0.heap[w.heap.size + 2]? = some (.cells Z39 39 (0,0))):=zA0 (by
  rw [hw0]
  have:=heap_alloc_new ((w.alloc (.cells #[.int .i64 s.t,.int .i64 s.v,.int .i64 s.base,.int .i64 (snV s).2.1,.slice av nv cv,.slice al nl cl,.slice ad nd cd,.slice ea s.bs.length ec] 39)).alloc (.cells xs.toArray 73)) (.cells Z39 39)
  rwa [World.size_alloc,World.size_alloc] at this)
 go_enter Tryz.func22,Tryz.ntmps22
 go_upto_region 2 with (fail)
 unfold Z39 at hw0
 rw [<- hw0]
 clear hw0
 go_wp2
 go_loopw [5,6] (fun vv i wr=>∃ (k:Nat) (ga:Option Addr) (gn gc:Nat) (ess:List (List Value)),vv = .slice ga gn gc/\k<=s.bs.length/\i = .int .i64 (k:Int)/\Hid (wr.ownsRow (w.heap.size + 3) 73 29 (.slice ga gn gc) (min k k0) ess.flatten)/\Hid (ElW w D ess ((s.bs.map dE).take (min k k0)))/\Hid (Below (w.heap.size + 3) w0 wr)) (fun _ i _=>s.bs.length - (intOf i).toNat)
 case atStart=>exact ⟨0,none,0,0,[],rfl,Nat.zero_le _,rfl,zA0 (by rw [Nat.zero_min]; exact World.ownsRow_nil _ _ _ _),zA0 ⟨by simp,fun i h1=>by simp at h1⟩,zA0 (Below.refl _ _)⟩
 case round =>
  obtain ⟨k,ga,gn,gc,ess,rfl,hk,rfl,HROW,HELM,HBR⟩:=hrel
  have HSZ : Hid (w.heap.size + 3<=wr.heap.size):=zA0 (by rw [<- HZ0.out]; exact HBR.out.size)
  have HBW : Hid (Below w.heap.size w wr):=zA0 (HB0.out.trans (HBR.out.mono (by omega)))
  have HG0r:=zA0 ((HBR.out.block _ (by omega)).trans HG0.out)
  have HG1r:=zA0 ((HBR.out.block _ (by omega)).trans HG1.out)
  have HG2r:=zA0 ((HBR.out.block _ (by omega)).trans HG2.out)
  have c7 : wr.cell? ⟨w.heap.size,7,none⟩ = some (.slice ea s.bs.length ec):=cor HG0r.out rfl
  have x0 : wr.cell? ⟨w.heap.size + 1,0,none⟩ = some (.int .i64 (s.base + 1 + k0)):=by rw [cell_of_row _ _ _ _ 73 (0,0) HG1r.out,HE.out]; rfl
  have l0:=zA1 HG0r.out
  have l1:=zA1 HG1r.out
  by_cases hlt : k < s.bs.length
  · have hlt' : k < (s.bs.map dE).length:=by rw [hml]; exact hlt
    obtain ⟨gb,off,es,rfl,hSb,hrep,hrg⟩:=Rep.load HRL.out hlt'
    obtain ⟨r2,he2,hel2⟩:=zD3 hrep
    have HRG : Hid (wr.rangeAt gb (off + k * 29) es):=zA0 (zB1 hrg (HBW.out.block gb (HD.out gb hSb)))
    have hx : wr.cell? ⟨gb,off + k * 29,none⟩ = some (.int .i64 (s.base + 1 + k)):=by
     have:=HRG.out 0 (.int .i64 (eI (s.bs.map dE)[k])) (by rw [he2]; rfl)
     rw [HOK.out.idx hlt'] at this
     simpa using this
    have lb : gb < wr.heap.size:=Nat.lt_of_lt_of_le (HD.out gb hSb) HBW.out.size
    have HREP:=zA0 hrep
    have HEL2:=zA0 hel2
    have HIN2:=zA0 (zF6 hel2)
    have HONE2 : Hid (∀ u ∈ es,u.oneCell' = true):=zA0 (fun u hu=>hrep.one u hu)
    clear he2 hrep hrg hel2 hSb
    by_cases hkk : k < k0
    · have hmk : min k k0 = k:=by omega
      have hmk1 : min (k + 1) k0 = k + 1:=by omega
      rw [hmk] at HROW HELM
      have HT : Hid ((s.bs.map dE).take (k + 1) = (s.bs.map dE).take k ++ [(s.bs.map dE)[k]]):=zA0 (List.take_succ_eq_append_getElem hlt')
      have HMK:=zA0 hmk1
      clear hmk hmk1
      go_wp2
      go_quiet (fail)
      obtain ⟨w1,hw1⟩ : ∃ w1,w1 = wr.drewN nq:=⟨_,rfl⟩
      rw [<- hw1]
      have HRG1 : Hid (w1.rangeAt gb (off + k * 29) es):=zA0 (by rw [hw1]; exact HRG.out)
      have HROW1 : Hid (w1.ownsRow (w.heap.size + 3) 73 29 (.slice ga gn gc) k ess.flatten):=zA0 (by rw [hw1]; exact HROW.out)
      have HBR1 : Hid (Below (w.heap.size + 3) w0 w1):=zA0 (by rw [hw1]; exact ⟨HBR.out.os,HBR.out.tape,HBR.out.output,HBR.out.size,HBR.out.block⟩)
      have HSZ1 : Hid (w.heap.size + 3<=w1.heap.size):=zA0 (by rw [hw1]; exact HSZ.out)
      have y7 : w1.cell? ⟨w.heap.size,7,none⟩ = some (.slice (some ⟨gb,off,none⟩) s.bs.length ec):=by rw [hw1]; exact c7
      have ly : w.heap.size < w1.heap.size:=by rw [hw1]; exact l0
      clear hw1
      go_wp2_with (first
       | (refine wpList_load_mid rfl 73 (.tmp 27) rfl gb (off + k * 29) rfl es _ HRG1.out Tryz.underlying73 rfl HIN2.out ?_)
       | (refine zK7 rfl (.tmp 28) rfl es HEL2.out rfl ?_)
       | (at_builtin; refine zJ0 (w1.alloc (.cells es.toArray 73)) rfl (.tmp 23) (.tmp 29) rfl (w.heap.size + 3) (.slice ga gn gc) k ess.flatten rfl (HROW1.out.alloc _) ⟨w1.heap.size,0,none⟩ es rfl HEL2.out (fun j u hj=>zG4 w1 es.toArray 73 j u (by simpa using hj)) HONE2.out (by omega) (by have:=HSZ1.out; simp; omega) ?na))
      case na =>
       intro v5 w5 a1 a2 a3
       obtain ⟨va5,ln5,vc5,hv5⟩ : ∃ a n c,v5 = Value.slice a n c:=zJ9 a1
       subst hv5
       have A1:=zA0 a1
       have HB5 : Hid (Below (w.heap.size + 3) w0 w5):=zA0 ((HBR1.out.alloc HSZ1.out _).grown a2 (by have:=HSZ1.out; simp; omega) (fun q hq=>(zD7 HROW1.out hq).1))
       clear a1 a2 a3
       go_wp2
       refine ⟨⟨k + 1,va5,ln5,vc5,ess ++ [es],rfl,by omega,by go_num,zA0 ?_,zA0 ?_,HB5⟩,by simp [intOf]; omega⟩
       · rw [HMK.out,zZ3]; exact A1.out
       · rw [HMK.out,HT.out]; exact HELM.out.more HREP.out
    · have hmk : min (k + 1) k0 = min k k0:=by omega
      have HMK:=zA0 hmk
      clear hmk
      go_wp2
      go_quiet (fail)
      obtain ⟨w1,hw1⟩ : ∃ w1,w1 = wr.drewN nq:=⟨_,rfl⟩
      rw [<- hw1]
      have HRG1 : Hid (w1.rangeAt gb (off + k * 29) es):=zA0 (by rw [hw1]; exact HRG.out)
      have HROW1 : Hid (w1.ownsRow (w.heap.size + 3) 73 29 (.slice ga gn gc) (min k k0) ess.flatten):=zA0 (by rw [hw1]; exact HROW.out)
      have HBR1 : Hid (Below (w.heap.size + 3) w0 w1):=zA0 (by rw [hw1]; exact ⟨HBR.out.os,HBR.out.tape,HBR.out.output,HBR.out.size,HBR.out.block⟩)
      have HSZ1 : Hid (w.heap.size + 3<=w1.heap.size):=zA0 (by rw [hw1]; exact HSZ.out)
      have y7 : w1.cell? ⟨w.heap.size,7,none⟩ = some (.slice (some ⟨gb,off,none⟩) s.bs.length ec):=by rw [hw1]; exact c7
      have ly : w.heap.size < w1.heap.size:=by rw [hw1]; exact l0
      clear hw1
      go_wp2
      refine ⟨⟨k + 1,ga,gn,gc,ess,rfl,by omega,by go_num,zA0 ?_,zA0 ?_,HBR1⟩,by simp [intOf]; omega⟩
      · rw [HMK.out]; exact HROW1.out
      · rw [HMK.out]; exact HELM.out
  · have hkn : k = s.bs.length:=by omega
    subst hkn
    have hmk : min s.bs.length k0 = k0:=by omega
    rw [hmk] at HROW HELM
    clear hmk
    go_wp2_with (first
     | (refine wpList_load_row rfl 73 (.tmp 3) rfl (w.heap.size + 1) rfl 73 xs.toArray (0,0) _ HG1r.out Tryz.underlying73 rfl HCI.out ?_)
     | (refine zK7 rfl (.tmp 32) rfl xs HEL.out rfl ?_)
     | (at_builtin; refine zJ0 (wr.alloc (.cells xs.toArray 73)) rfl (.tmp 31) (.tmp 33) rfl (w.heap.size + 3) (.slice ga gn gc) k0 ess.flatten rfl (HROW.out.alloc _) ⟨wr.heap.size,0,none⟩ xs rfl HEL.out (fun j u hj=>zG4 wr xs.toArray 73 j u (by simpa using hj)) HONE.out (by omega) (by have:=HSZ.out; simp; omega) ?na))
    case na =>
     intro v5 w5 a1 a2 a3
     obtain ⟨va5,ln5,vc5,hv5⟩ : ∃ a n c,v5 = Value.slice a n c:=zJ9 a1
     subst hv5
     rw [<- zZ3] at a1
     have A1:=zA0 a1
     have HE5:=zA0 (HELM.out.more HR.out)
     have hB5 : Below (w.heap.size + 3) w0 w5:=(HBR.out.alloc HSZ.out _).grown a2 (by have:=HSZ.out; simp; omega) (fun q hq=>(zD7 HROW.out hq).1)
     have HB5:=zA0 hB5
     have q5:=(hB5.block _ (by omega)).trans HG0.out
     have q7:=(hB5.block _ (by omega)).trans HG2.out
     have Q5:=zA0 q5
     have Q7:=zA0 q7
     have d7 : w5.cell? ⟨w.heap.size,7,none⟩ = some (.slice ea s.bs.length ec):=cor q5 rfl
     have f7 : w5.frozen? ⟨w.heap.size,7,none⟩ = false:=by simp [World.frozen?,q5]
     have l5:=zA1 q5
     clear a1 a2 a3 hB5 q5 q7 c7 x0 l0 l1
     go_upto_region 9 with (fail)
     obtain ⟨w6,hw6⟩ : ∃ w6,w6 = w5.setCell ⟨w.heap.size,7,none⟩ (.slice va5 ln5 vc5):=⟨_,rfl⟩
     rw [<- hw6]
     have hk6 : ∀ j,j ≠ w.heap.size->w6.heap[j]? = w5.heap[j]?:=fun j hj=>by rw [hw6]; exact zB0 _ _ _ _ j hj
     have HK6:=zA0 hk6
     have HS6 : Hid (w6.heap.size = w5.heap.size):=zA0 (by rw [hw6]; simp)
     have G6 : Hid (w6.heap[w.heap.size]? = some (.cells #[.int .i64 s.t,.int .i64 s.v,.int .i64 s.base,.int .i64 (snV s).2.1,.slice av nv cv,.slice al nl cl,.slice ad nd cd,.slice va5 ln5 vc5] 39 (0,0))):=zA0 (by rw [hw6,heap_setCell_same w5 _ 7 _ 39 _ Q5.out]; rfl)
     have G7 : Hid (w6.heap[w.heap.size + 1 + 1]? = some (.cells Z39 39 (0,0))):=zA0 ((hk6 _ (by omega)).trans Q7.out)
     have HB6 : Hid (Below w.heap.size w5 w6):=zA0 (by rw [hw6]; exact (Below.refl _ w5).setCell (p:=⟨w.heap.size,7,none⟩) (Nat.le_refl _) _)
     clear hw6 hk6 d7 f7 l5
     go_wp2_with (first
      | (refine wpList_load_row rfl 39 (.tmp 2) rfl w.heap.size rfl 39 #[.int .i64 s.t,.int .i64 s.v,.int .i64 s.base,.int .i64 (snV s).2.1,.slice av nv cv,.slice al nl cl,.slice ad nd cd,.slice va5 ln5 vc5] (0,0) _ G6.out Tryz.underlying39 rfl zC1 ?_)
      | (refine zA5 rfl 39 (.tmp 4) (.tmp 37) rfl (w.heap.size + 1 + 1) #[.int .i64 s.t,.int .i64 s.v,.int .i64 s.base,.int .i64 (snV s).2.1,.slice av nv cv,.slice al nl cl,.slice ad nd cd,.slice va5 ln5 vc5] rfl rfl 39 Z39 G7.out zC1 rfl (by simp [Value.oneCell']) ?nz))
     case nz =>
      intro w9 hw9h
      have hw9:=hw9h.out
      have g9 : w9.heap[w.heap.size + 1 + 1]? = some (.cells #[.int .i64 s.t,.int .i64 s.v,.int .i64 s.base,.int .i64 (snV s).2.1,.slice av nv cv,.slice al nl cl,.slice ad nd cd,.slice va5 ln5 vc5] 39 (0,0)):=by rw [hw9]; exact setRow_heap _ _ _ _ 39 _ G7.out
      have k9 : ∀ j,j ≠ w.heap.size + 1 + 1->w9.heap[j]? = w6.heap[j]?:=fun j hj=>by rw [hw9]; exact setRow_other _ _ _ _ hj
      have s9 : w9.heap.size = w6.heap.size:=by rw [hw9]; simp [World.setRow]
      have b9 : Below w.heap.size w6 w9:=by rw [hw9]; exact ⟨rfl,rfl,rfl,by simp [World.setRow],fun k hk=>setRow_other _ _ _ _ (by omega)⟩
      have hB59 : Below w.heap.size w w9:=((HB0.out.trans (HB5.out.mono (by omega))).trans HB6.out).trans b9
      have hsz9 : w5.heap.size = w9.heap.size:=by rw [s9,HS6.out]
      have k59 : ∀ j,w.heap.size + 3<=j->w9.heap[j]? = w5.heap[j]?:=fun j hj=>(k9 j (by omega)).trans (HK6.out j (by omega))
      have hlL : ((s.bs.map dE).take k0 ++ [dE b]).length = k0 + 1:=by simp; omega
      have ho9 : w9.ownsRow (w.heap.size + 3) 73 29 (.slice va5 ln5 vc5) ((s.bs.map dE).take k0 ++ [dE b]).length (ess ++ [xs]).flatten:=by
       rw [hlL]
       refine ⟨A1.out.1,?_⟩
       rcases A1.out.2 with h2 | ⟨g,cap,cur,e,h3,h4,h5⟩
       · exact .inl h2
       · exact .inr ⟨g,cap,cur,e,h3,(k59 g h3).trans h4,h5⟩
      obtain ⟨ae,ce,hse,hrl9⟩:=kB3 ho9 HE5.out.1 (fun i h1 h2=>(HE5.out.2 i h1 h2).kept (S':=Un D w.heap.size w9) hB59.size (fun j h2=>hB59.block j (HD.out j h2)) (fun j h2=>.inl h2)) (fun j hj=>.inr ⟨by have:=hj.1; omega,hj.2⟩) (by rw [hlL]; omega)
      have hsn9 : Rep w9 (Un D w.heap.size w9) zA2 [.int .i64 s.base,.int .i64 (snV s).2.1,.slice av nv cv,.slice al nl cl,.slice ad nd cd] (snV s):=HSN.out.kept hB59.size (fun j h2=>hB59.block j (HD.out j h2)) (fun j h2=>.inl h2)
      have HREP9 : Hid (Rep w9 (Un D w.heap.size w9) zB6 (#[.int .i64 s.t,.int .i64 s.v,.int .i64 s.base,.int .i64 (snV s).2.1,.slice av nv cv,.slice al nl cl,.slice ad nd cd,.slice va5 ln5 vc5] : Array Value).toList (dec ⟨s.t,s.v,s.sn,s.base,s.bs.take k0 ++ [b]⟩)):=zA0 (by
       rw [hse]
       have e : dec ⟨s.t,s.v,s.sn,s.base,s.bs.take k0 ++ [b]⟩ = ((s.t,s.v),snV s,(s.bs.map dE).take k0 ++ [dE b]):=by
        unfold dec
        rw [List.map_append,List.map_take]; rfl
       rw [e]
       exact zO8 s.t s.v _ _ _ _ _ (snV s) ae ce _ hsn9 hrl9)
      have HB9:=zA0 hB59
      have G9:=zA0 g9
      clear hw9 hw9h g9 k9 s9 b9 hB59 hsz9 k59 hlL ho9 hse hrl9 hsn9
      go_wp2
      refine bodyPost_ret (v:=.agg #[.int .i64 s.t,.int .i64 s.v,.int .i64 s.base,.int .i64 (snV s).2.1,.slice av nv cv,.slice al nl cl,.slice ad nd cd,.slice va5 ln5 vc5]) ?_ rfl ⟨(#[.int .i64 s.t,.int .i64 s.v,.int .i64 s.base,.int .i64 (snV s).2.1,.slice av nv cv,.slice al nl cl,.slice ad nd cd,.slice va5 ln5 vc5] : Array Value).toList,rfl,HREP9.out,HB9.out⟩
      refine results_cell_row Tryz.results22 _ _ (w.heap.size + 1 + 1) 39 _ (0,0) _ ?_ G9.out Tryz.underlying39 rfl zC1
      rfl
def PtP (D:Nat) (w:World) (s:Sd) (e:Ending) (w':World) : Prop:=∃ cs,e = .returned (.agg cs.toArray)/\Rep w' (NBr D w') zB6 cs (dec s)/\Below w.heap.size w w'
end
section
open Go.RowKit
def enR : (f:Fm)->Vl f->List UInt8 × Bool
 | .num,n=>enN n
 | .tru,b=>(enc (if b = true then 1 else 0),false)
 | .byt,l=>((enN (l.length:Int)).1 ++ l,decide (65536 < (l.length:Int)) || (enN (l.length:Int)).2)
 | .lst f,vs=>((enN (vs.length:Int)).1 ++ vs.flatMap fun v=>(enR f v).1,decide (64 < (vs.length:Int)) || (enN (vs.length:Int)).2 || vs.any fun v=>(enR f v).2)
 | .cat a b,v=>((enR a v.1).1 ++ (enR b v.2).1,(enR a v.1).2 || (enR b v.2).2)
def szb : (f:Fm)->Vl f->Nat
 | .num,_=>6
 | .tru,_=>6
 | .byt,l=>6 + l.length
 | .lst f,vs=>6 + (vs.map fun v=>szb f v).sum
 | .cat a b,v=>szb a v.1 + szb b v.2
theorem xF9 (n:Int) (h0:-1099511627776<=n) (h1:n<=1099511627776) : enN n = (enc n,false):=by unfold enN; rw [if_pos ⟨h0,h1⟩]
theorem xH2 {α:Type} (f g:α->Bool) (h:∀ x,f x = g x) (l:List α) : l.any f = l.any g:=by rw [show f = g from funext h]
theorem yX6 {α:Type} (f g:α->List UInt8) (l:List α) (h:∀ x ∈ l,f x = g x) : l.flatMap f = l.flatMap g:=by
 induction l with
 | nil=>rfl
 | cons x l ih=>rw [List.flatMap_cons,List.flatMap_cons,h x (by simp),ih (fun y hy=>h y (by simp [hy]))]
theorem xR2 (f:Fm) (v:Vl f) : (enR f v).2 = (en f v).2/\((en f v).2 = false->(enR f v).1 = (en f v).1):=by
 induction f with
 | num=>exact ⟨rfl,fun _=>rfl⟩
 | tru=>exact ⟨rfl,fun _=>rfl⟩
 | byt =>
  show (decide (65536 < ((v:List UInt8).length : Int)) || (enN ((v:List UInt8).length : Int)).2) = (if (v:List UInt8).length<=65536 then (enc ((v:List UInt8).length : Int) ++ v,false) else ([],true) : List UInt8 × Bool).2 /\
   ((if (v:List UInt8).length<=65536 then (enc ((v:List UInt8).length : Int) ++ v,false) else ([],true) : List UInt8 × Bool).2 = false->(enN ((v:List UInt8).length : Int)).1 ++ v = (if (v:List UInt8).length<=65536 then (enc ((v:List UInt8).length : Int) ++ v,false) else ([],true) : List UInt8 × Bool).1)
  by_cases hv : (v:List UInt8).length<=65536
  · rw [if_pos hv,xF9 _ (by omega) (by omega)]
    simp; omega
  · rw [if_neg hv]
    refine ⟨?_,fun h=>by cases h⟩
    rw [decide_eq_true (by omega)]; rfl
 | lst f ih =>
  show (decide (64 < ((v:List (Vl f)).length : Int)) || (enN ((v:List (Vl f)).length : Int)).2 || (v:List (Vl f)).any fun v=>(enR f v).2) = (if (v:List (Vl f)).length<=64 then (enc ((v:List (Vl f)).length : Int) ++ (v:List (Vl f)).flatMap fun v=>(en f v).1,(v:List (Vl f)).any fun v=>(en f v).2) else ([],true) : List UInt8 × Bool).2 /\
   ((if (v:List (Vl f)).length<=64 then (enc ((v:List (Vl f)).length : Int) ++ (v:List (Vl f)).flatMap fun v=>(en f v).1,(v:List (Vl f)).any fun v=>(en f v).2) else ([],true) : List UInt8 × Bool).2 = false ->
    (enN ((v:List (Vl f)).length : Int)).1 ++ (v:List (Vl f)).flatMap (fun v=>(enR f v).1) = (if (v:List (Vl f)).length<=64 then (enc ((v:List (Vl f)).length : Int) ++ (v:List (Vl f)).flatMap fun v=>(en f v).1,(v:List (Vl f)).any fun v=>(en f v).2) else ([],true) : List UInt8 × Bool).1)
  by_cases hv : (v:List (Vl f)).length<=64
  · rw [if_pos hv,xF9 _ (by omega) (by omega)]
    refine ⟨?_,fun h=>?_⟩
    · rw [decide_eq_false (by omega),xH2 _ _ (fun x=>(ih x).1)]; rfl
    · have h' : (v:List (Vl f)).any (fun v=>(en f v).2) = false:=h
      show _ ++ _ = _ ++ _
      rw [yX6 (fun v=>(enR f v).1) (fun v=>(en f v).1) v (fun x hx=>(ih x).2 (by have:=List.any_eq_false.1 h' x hx; simpa using this))]
  · rw [if_neg hv]
    refine ⟨?_,fun h=>by cases h⟩
    rw [decide_eq_true (by omega)]; rfl
 | cat a b iha ihb =>
  show ((enR a v.1).2 || (enR b v.2).2) = ((en a v.1).2 || (en b v.2).2)/\(((en a v.1).2 || (en b v.2).2) = false->(enR a v.1).1 ++ (enR b v.2).1 = (en a v.1).1 ++ (en b v.2).1)
  refine ⟨by rw [(iha v.1).1,(ihb v.2).1],fun h=>?_⟩
  rw [Bool.or_eq_false_iff] at h
  rw [(iha v.1).2 h.1,(ihb v.2).2 h.2]
theorem zS1 {α:Type} (g:α->List UInt8) (m:α->Nat) (h:∀ v,(g v).length<=m v) (vs:List α) : (vs.flatMap g).length<=(vs.map m).sum:=by
 induction vs with
 | nil=>simp
 | cons v vs ih=>rw [List.flatMap_cons,List.length_append,List.map_cons,List.sum_cons]; have:=h v; omega
theorem zC8 (f:Fm) (v:Vl f) : (enR f v).1.length<=szb f v:=by
 induction f with
 | num=>exact zA3 v
 | tru=>exact zH3 .tru v
 | byt =>
  show ((enN ((v:List UInt8).length : Int)).1 ++ v).length<=6 + (v:List UInt8).length
  rw [List.length_append]
  have:=zA3 ((v:List UInt8).length : Int)
  omega
 | lst f ih =>
  show ((enN ((v:List (Vl f)).length : Int)).1 ++ (v:List (Vl f)).flatMap fun v=>(enR f v).1).length<=6 + ((v:List (Vl f)).map fun v=>szb f v).sum
  rw [List.length_append]
  have:=zA3 ((v:List (Vl f)).length : Int)
  have:=zS1 (fun v=>(enR f v).1) (fun v=>szb f v) (fun v=>ih v) v
  omega
 | cat a b iha ihb =>
  show ((enR a v.1).1 ++ (enR b v.2).1).length<=szb a v.1 + szb b v.2
  rw [List.length_append]
  have:=iha v.1
  have:=ihb v.2
  omega
theorem xR1 (f:Fm) (vs:List (Vl f)) : (enR (.lst f) vs).1 = (enN (vs.length:Int)).1 ++ vs.flatMap fun v=>(enR f v).1:=rfl
theorem xR0 (f:Fm) (vs:List (Vl f)) : (enR (.lst f) vs).2 = (decide (64 < (vs.length:Int)) || (enN (vs.length:Int)).2 || vs.any fun v=>(enR f v).2):=rfl
theorem xI4 (f:Fm) (vs:List (Vl f)) : szb (.lst f) vs = 6 + (vs.map fun v=>szb f v).sum:=rfl
theorem zV6 {α:Type} (m:α->Nat) (vs:List α) (k:Nat) (h:k < vs.length) : ((vs.take k).map m).sum + m vs[k]<=(vs.map m).sum:=by
 have e : vs = vs.take k ++ (vs[k] :: vs.drop (k + 1)):=by rw [<- List.drop_eq_getElem_cons h,List.take_append_drop]
 have e2 : (vs.map m).sum = ((vs.take k).map m).sum + (m vs[k] + ((vs.drop (k + 1)).map m).sum):=by
  conv=>lhs; rw [e]
  rw [List.map_append,List.sum_append,List.map_cons,List.sum_cons]
 omega
end
end Go.Proofs.YtocoimjhglackaaGreat
