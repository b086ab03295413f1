/- Wla, Wlb, Wib -/
import Derived.Test.YtocoimjhglackaaGreatK44
set_option maxHeartbeats 8000000
set_option maxRecDepth 100000
namespace Go.Proofs.YtocoimjhglackaaGreat
section
open Go.RowKit Go.Maps
structure Gdd (M:Md) (m:Sd) : Prop where
 fw : Fw M.files
 done : M.done = []
 dur : M.dur = M.files
 rd : rdF sd0 (cOf M.files lgN) = some (m,(cOf M.files lgN).length)
theorem Gdd.okd {M:Md} {m:Sd} (h:Gdd M m) : Okd m:=xC2 _ _ _ _ okd0 h.rd
theorem Good.gd {M:Md} {m:Sd} (h:Good M m) : Gdd M m:=⟨h.cln.fw,h.cln.done,h.cln.dur,h.rd⟩
theorem Gdd.cut {M:Md} {m:Sd} (h:Gdd M m) (n:Int) : Gdd ⟨M.files,M.dur,M.done,n⟩ m:=⟨h.fw,h.done,h.dur,h.rd⟩
theorem Gdd.crash {M:Md} {m:Sd} (h:Gdd M m) (pick:Int) : Good (zI6 pick M) m:=by
 obtain ⟨files,dur,done,left⟩:=M
 obtain ⟨h1,h2,h3,h4⟩:=h
 simp only at h1 h2 h3 h4
 subst h2 h3
 exact ⟨⟨rfl,h1,rfl,rfl⟩,h4⟩
theorem Gdd.owa {M:Md} {m0:Sd} (h:Gdd M m0) {d:List UInt8} {m:Sd} (hd:rdF sd0 d = some (m,d.length)) : Gdd (runT (wa d) 4 M) m:=by
 obtain ⟨files,dur,done,left⟩:=M
 obtain ⟨h1,h2,h3,h4⟩:=h
 simp only at h1 h2 h3
 subst h2 h3
 have hc : cOf (runT (Proofs.YtocoimjhglackaaGreat.wa d) 4 ⟨dur,dur,[],left⟩).files lgN = d:=by
  show ((fup (fup (fup dur nwN (some d)) nwN none) lgN (some ((fup dur nwN (some d) nwN).getD []))) lgN).getD [] = d
  simp [fup]
 refine ⟨Fw.runT (M:=⟨dur,dur,[],left⟩) h1 _ 4,rfl,rfl,?_⟩
 rw [hc]; exact hd
theorem Gdd.oad {M:Md} {m0:Sd} (h:Gdd M m0) {d:List UInt8} {m:Sd} (hd:rdF sd0 (cOf M.files lgN ++ d) = some (m,(cOf M.files lgN ++ d).length)) : Gdd (runT (ad d) 2 M) m:=by
 obtain ⟨files,dur,done,left⟩:=M
 obtain ⟨h1,h2,h3,h4⟩:=h
 simp only at h1 h2 h3 hd
 subst h2 h3
 have hc : cOf (runT (Proofs.YtocoimjhglackaaGreat.ad d) 2 ⟨dur,dur,[],left⟩).files lgN = cOf dur lgN ++ d:=by
  show ((fup dur lgN (some ((dur lgN).getD [] ++ d.take (max 1 d.length)))) lgN).getD [] = _
  rw [List.take_of_length_le (by omega)]
  simp [fup,cOf]
 refine ⟨Fw.runT (M:=⟨dur,dur,[],left⟩) h1 _ 2,rfl,rfl,?_⟩
 rw [hc]; exact hd
theorem Gdd.more {M:Md} {m:Sd} (h:Gdd M m) {t v:Int} {vs:List En} (ha:accS m t v vs) : rdF sd0 (cOf M.files lgN ++ zC9 (moS t v vs)) = some (nxS m t v vs,(cOf M.files lgN ++ zC9 (moS t v vs)).length):=by
 rw [zT0 _ _ _ _ h.rd,zI4,yS8 ha.2.1 ha.2.2 h.okd.base (by have:=zR9 ha.1 t v; exact ⟨this.1,this.2⟩),List.length_append]
 rfl
theorem Gdd.deed {M:Md} {m:Sd} (h:Gdd M m) {x:De} (ha:accD m x) : Gdd (runT (actD M m x) (actD M m x).length M) (nxD m x):=by
 unfold accD at ha
 unfold actD nxD
 cases hx : x.1 with
 | true=>rw [hx] at ha; exact h.owa (zK1 (yJ2 h.okd ha))
 | false =>
  rw [hx] at ha
  simp only
  unfold zI7
  split
  · exact h.owa (zK1 (zK3 h.okd ha))
  · exact h.oad (h.more ha)
def xS2 (m:Sd) (x:De) (m':Sd) : Prop:=m' = m\/m' = nxD m x\/(x.1 = false/\∃ j,j<=(dEs x).length/\m' = skS m (dT x) (dV x) (dEs x) j)
def Left (pick:Int) (M:Md) (P:Sd->Prop) : Prop:=Cln (zI6 pick M)/\∃ m' k,rdF sd0 (cOf (zI6 pick M).files lgN) = some (m',k)/\P m'
theorem Gdd.left {M:Md} {m:Sd} (h:Gdd M m) (pick:Int) {P:Sd->Prop} (hp:P m) : Left pick M P:=⟨(h.crash pick).cln,m,_,(h.crash pick).rd,hp⟩
theorem xE8 {fs:FS} {k j:Nm} {v:Option (List UInt8)} (h:j ≠ k) : fup fs k v j = fs j:=by unfold fup; rw [if_neg h]
theorem Gdd.waPart {M:Md} {m:Sd} (h:Gdd M m) (pick:Int) {d:List UInt8} {nx:Sd} (hd:rdF sd0 d = some (nx,d.length)) (k:Nat) (hk:k < 4) {P:Sd->Prop} (h1:P m) (h2:P nx) : Left pick (runT (wa d) k M) P:=by
 obtain ⟨files,dur,done,left⟩:=M
 obtain ⟨hfw,hdn,hdu,hrd⟩:=h
 simp only at hfw hdn hdu hrd
 subst hdn hdu
 have hne : lgN ≠ nwN:=xM4
 match k,hk with
 | 0,_=>exact (Gdd.left (M:=⟨dur,dur,[],left⟩) ⟨hfw,rfl,rfl,hrd⟩ pick h1)
 | 1,_ =>
  have hc : ∀ u,mkD [(1,Dd.pt nwN d)] u dur = dur\/mkD [(1,Dd.pt nwN d)] u dur = fup dur nwN (some d):=fun u=>by
   unfold mkD
   split
   · exact .inl rfl
   · exact .inr rfl
  have hcm : zI6 pick (runT (wa d) 1 ⟨dur,dur,[],left⟩) = ⟨mkD [(1,Dd.pt nwN d)] (zI8 pick (sumU [(1,Dd.pt nwN d)])) dur,mkD [(1,Dd.pt nwN d)] (zI8 pick (sumU [(1,Dd.pt nwN d)])) dur,[],-1⟩:=rfl
  unfold Left
  rw [hcm]
  rcases hc (zI8 pick (sumU [(1,Dd.pt nwN d)])) with e | e
  · rw [e]; exact ⟨⟨rfl,hfw,rfl,rfl⟩,m,_,hrd,h1⟩
  · rw [e]
    refine ⟨⟨rfl,Fw.fup hfw (.inr rfl) _,rfl,rfl⟩,m,(cOf dur lgN).length,?_,h1⟩
    have : cOf (fup dur nwN (some d)) lgN = cOf dur lgN:=by unfold cOf; rw [xE8 hne]
    show rdF sd0 (cOf (fup dur nwN (some d)) lgN) = _
    rw [this]; exact hrd
 | 2,_ =>
  have hcm : zI6 pick (runT (wa d) 2 ⟨dur,dur,[],left⟩) = ⟨fup dur nwN (some d),fup dur nwN (some d),[],-1⟩:=rfl
  unfold Left
  rw [hcm]
  refine ⟨⟨rfl,Fw.fup hfw (.inr rfl) _,rfl,rfl⟩,m,(cOf dur lgN).length,?_,h1⟩
  have : cOf (fup dur nwN (some d)) lgN = cOf dur lgN:=by unfold cOf; rw [xE8 hne]
  show rdF sd0 (cOf (fup dur nwN (some d)) lgN) = _
  rw [this]; exact hrd
 | 3,_ =>
  have hc : ∀ u fs,mkD [(1,Dd.rn nwN lgN)] u fs = fs\/mkD [(1,Dd.rn nwN lgN)] u fs = doD (.rn nwN lgN) 1 fs:=fun u fs=>by
   unfold mkD
   split
   · exact .inl rfl
   · exact .inr rfl
  have hcm : zI6 pick (runT (wa d) 3 ⟨dur,dur,[],left⟩) = ⟨mkD [(1,Dd.rn nwN lgN)] (zI8 pick (sumU [(1,Dd.rn nwN lgN)])) (fup dur nwN (some d)),mkD [(1,Dd.rn nwN lgN)] (zI8 pick (sumU [(1,Dd.rn nwN lgN)])) (fup dur nwN (some d)),[],-1⟩:=rfl
  have hf2 : Fw (fup dur nwN (some d)):=Fw.fup hfw (.inr rfl) _
  unfold Left
  rw [hcm]
  rcases hc (zI8 pick (sumU [(1,Dd.rn nwN lgN)])) (fup dur nwN (some d)) with e | e
  · rw [e]
    refine ⟨⟨rfl,hf2,rfl,rfl⟩,m,(cOf dur lgN).length,?_,h1⟩
    have : cOf (fup dur nwN (some d)) lgN = cOf dur lgN:=by unfold cOf; rw [xE8 hne]
    show rdF sd0 (cOf (fup dur nwN (some d)) lgN) = _
    rw [this]; exact hrd
  · rw [e]
    have hc2 : cOf (doD (.rn nwN lgN) 1 (fup dur nwN (some d))) lgN = d:=by
     show ((fup (fup (fup dur nwN (some d)) nwN none) lgN (some ((fup dur nwN (some d) nwN).getD []))) lgN).getD [] = d
     simp [fup]
    refine ⟨⟨rfl,Fw.fup (Fw.fup hf2 (.inr rfl) _) (.inl rfl) _,rfl,rfl⟩,nx,d.length,?_,h2⟩
    show rdF sd0 (cOf (doD (.rn nwN lgN) 1 (fup dur nwN (some d))) lgN) = _
    rw [hc2]; exact hd
theorem Gdd.adPart {M:Md} {m:Sd} (h:Gdd M m) (pick:Int) {t v:Int} {vs:List En} (ha:accS m t v vs) (k:Nat) (hk:k < 2) {P:Sd->Prop} (h1:P m) (h2:∀ j,j<=vs.length->P (skS m t v vs j)) : Left pick (runT (ad (zC9 (moS t v vs))) k M) P:=by
 have hok:=h.okd
 obtain ⟨files,dur,done,left⟩:=M
 obtain ⟨hfw,hdn,hdu,hrd⟩:=h
 simp only at hfw hdn hdu hrd
 subst hdn hdu
 match k,hk with
 | 0,_=>exact (Gdd.left (M:=⟨dur,dur,[],left⟩) ⟨hfw,rfl,rfl,hrd⟩ pick h1)
 | 1,_ =>
  obtain ⟨d,hd⟩ : ∃ d,d = zC9 (moS t v vs):=⟨_,rfl⟩
  rw [<- hd]
  have hc : ∀ u,mkD [(max 1 d.length,Dd.ap lgN d)] u dur = dur\/∃ c,mkD [(max 1 d.length,Dd.ap lgN d)] u dur = fup dur lgN (some (cOf dur lgN ++ d.take c)):=fun u=>by
   unfold mkD
   split
   · exact .inl rfl
   · exact .inr ⟨_,rfl⟩
  have hcm : zI6 pick (runT (ad d) 1 ⟨dur,dur,[],left⟩) = ⟨mkD [(max 1 d.length,Dd.ap lgN d)] (zI8 pick (sumU [(max 1 d.length,Dd.ap lgN d)])) dur,mkD [(max 1 d.length,Dd.ap lgN d)] (zI8 pick (sumU [(max 1 d.length,Dd.ap lgN d)])) dur,[],-1⟩:=rfl
  unfold Left
  rw [hcm]
  rcases hc (zI8 pick (sumU [(max 1 d.length,Dd.ap lgN d)])) with e | ⟨c,e⟩
  · rw [e]; exact ⟨⟨rfl,hfw,rfl,rfl⟩,m,_,hrd,h1⟩
  · rw [e]
    have hc2 : cOf (fup dur lgN (some (cOf dur lgN ++ d.take c))) lgN = cOf dur lgN ++ d.take c:=by simp [cOf,fup]
    have hr:=zT0 _ _ _ (d.take c) hrd
    have hcl : Cln ⟨fup dur lgN (some (cOf dur lgN ++ d.take c)),fup dur lgN (some (cOf dur lgN ++ d.take c)),[],-1⟩:=⟨rfl,Fw.fup hfw (.inl rfl) _,rfl,rfl⟩
    rw [hd,zI4] at hr
    rcases xC3 ha.2.1 ha.2.2 hok.base (by have:=zR9 ha.1 t v; exact ⟨this.1,this.2⟩) c with g | ⟨j,k',hj,g⟩
    · refine ⟨hcl,m,(cOf dur lgN).length + 0,?_,h1⟩
      show rdF sd0 (cOf (fup dur lgN (some (cOf dur lgN ++ d.take c))) lgN) = _
      rw [hc2,hd,zI4,hr,g]; rfl
    · have hjl : j<=vs.length:=by unfold bods at hj; simpa using hj
      refine ⟨hcl,skS m t v vs j,(cOf dur lgN).length + k',?_,h2 j hjl⟩
      show rdF sd0 (cOf (fup dur lgN (some (cOf dur lgN ++ d.take c))) lgN) = _
      rw [hc2,hd,zI4,hr,g]
      have : putB (setH m t v) (n0 vs) ((bods vs).take j) = skS m t v vs j:=by unfold skS bods; rw [List.map_take]
      rw [this]; rfl
theorem Gdd.part {M:Md} {m:Sd} (h:Gdd M m) (pick:Int) {x:De} (ha:accD m x) (k:Nat) (hk:k < (actD M m x).length) : Left pick (runT (actD M m x) k M) (xS2 m x):=by
 unfold accD at ha
 cases hx : x.1 with
 | true =>
  rw [hx] at ha
  have e : actD M m x = wa (zC9 (nxT m (dT x) (dV x) (dSn x) x.2.1)):=by unfold actD; rw [hx]
  have en : nxD m x = nxT m (dT x) (dV x) (dSn x) x.2.1:=by unfold nxD; rw [hx]
  rw [e] at hk ⊢
  exact h.waPart pick (zK1 (yJ2 h.okd ha)) k hk (.inl rfl) (.inr (.inl en.symm))
 | false =>
  rw [hx] at ha
  have e : actD M m x = zI7 M (moS (dT x) (dV x) (dEs x)) (nxS m (dT x) (dV x) (dEs x)):=by unfold actD; rw [hx]
  have en : nxD m x = nxS m (dT x) (dV x) (dEs x):=by unfold nxD; rw [hx]
  rw [e] at hk ⊢
  unfold zI7 at hk ⊢
  split
  · rename_i hb
    rw [if_pos hb] at hk
    exact h.waPart pick (zK1 (zK3 h.okd ha)) k hk (.inl rfl) (.inr (.inl en.symm))
  · rename_i hb
    rw [if_neg hb] at hk
    exact h.adPart pick ha k hk (.inl rfl) (fun j hj=>.inr (.inr ⟨hx,j,hj,rfl⟩))
end
section
open Go.RowKit Go.Maps
theorem zU4 (S:Nat->Prop) (a1 a2:Option Addr) (n1 n2 c1 c2:Nat) (l1 l2:List Int) (w:World) (hn1:n1 = l1.length) (hn2:n2 = l2.length) (h1:RepL w S .num a1 l1) (h2:RepL w S .num a2 l2) (hS:∀ k,S k->k < w.heap.size) (hl1:l1.length<=1048576) (hl2:l2.length<=1048576) : Calls Tryz.prog 44 #[.slice a1 n1 c1,.slice a2 n2 c2] w fun e w'=>∃ bb,e = .returned (.bool bb)/\∃ nq,w' = w.drewN nq:=by
 have HN1:=zA0 hn1
 have HN2:=zA0 hn2
 have hnb1 : (n1:Int)<=1048576:=by omega
 have hnb2 : (n2:Int)<=1048576:=by omega
 have H1:=zA0 (fun hne=>yT4 h1 hS hne)
 have H2:=zA0 (fun hne=>yT4 h2 hS hne)
 clear hn1 hn2 h1 h2 hS hl1 hl2
 by_cases hnn : n1 = n2
 · subst hnn
   go_enter Tryz.func44,Tryz.ntmps44
   go_wp2
   go_loopw [5] (fun i wr=>∃ k : Nat,k<=n1/\i = .int .i64 k/\∃ nq,wr = w.drewN nq) (fun i _=>n1 - (intOf i).toNat)
   case atStart=>exact ⟨0,Nat.zero_le _,rfl,0,rfl⟩
   case round =>
    obtain ⟨k,hk,rfl,nq,rfl⟩:=hrel
    by_cases hlt : k < n1
    · have hkl : k < l1.length:=by rw [<- HN1.out]; exact hlt
      have hkl2 : k < l2.length:=by rw [<- HN2.out]; exact hlt
      have hne : l1 ≠ []:=by intro e; rw [e] at hkl; simp at hkl
      have hne2 : l2 ≠ []:=by intro e; rw [e] at hkl2; simp at hkl2
      obtain ⟨b,off,rfl,hb,hc⟩:=H1.out hne
      obtain ⟨b',off',rfl,hb',hc'⟩:=H2.out hne2
      have hcp:=hc k hkl
      have hcp':=hc' k hkl2
      generalize l1[k] = x at *
      generalize l2[k] = y at *
      clear hc hc' hne hne2 hkl hkl2
      by_cases hxy : x = y
      · subst hxy
        go_wp2
        go_quiet (fail)
        go_wp2
        exact ⟨⟨k + 1,by omega,by go_num,_,rfl⟩,by simp [intOf]; omega⟩
      · go_wp2
        go_quiet (fail)
        go_wp2
        go_ret
        exact ⟨false,rfl,_,World.drewN_drewN _ _ _⟩
    · go_wp2
      go_ret
      exact ⟨true,rfl,_,rfl⟩
 · have hne : ¬ (n1:Int) = (n2:Int):=by omega
   go_enter Tryz.func44,Tryz.ntmps44
   go_wp2
   go_ret
   exact ⟨false,rfl,0,rfl⟩
theorem yI6 (ca cb:List Value) (s s':Sd) (w:World) (h1:Rep w (fun k=>k < w.heap.size) zB6 ca (dec s)) (h2:Rep w (fun k=>k < w.heap.size) zB6 cb (dec s')) (hok:Okd s) (hok':Okd s') (hlb:s.bs.length<=4194304) (hlb':s'.bs.length<=4194304) : Calls Tryz.prog 15 #[.agg ca.toArray,.agg cb.toArray] w fun e w'=>∃ bb,e = .returned (.bool bb)/\Below w.heap.size w w':=by
 obtain ⟨av,cv,al,cl,ad,cd,ea,ec,rfl,a1,a2,a3,a4⟩:=zL2 h1
 obtain ⟨av',cv',al',cl',ad',cd',ea',ec',rfl,b1,b2,b3,b4⟩:=zL2 h2
 obtain ⟨m1,m2,m3⟩:=hok.lens
 obtain ⟨m1',m2',m3'⟩:=hok'.lens
 have hml : (s.bs.map dE).length = s.bs.length:=by simp
 have hml' : (s'.bs.map dE).length = s'.bs.length:=by simp
 simp only [dec] at *
 rw [hml,hml']
 have A1:=zA0 a1
 have A2:=zA0 a2
 have A3:=zA0 a3
 have A4:=zA0 a4
 have B1:=zA0 b1
 have B2:=zA0 b2
 have B3:=zA0 b3
 have B4:=zA0 b4
 have HOK:=zA0 hok
 have HOK':=zA0 hok'
 clear h1 h2 a1 a2 a3 a4 b1 b2 b3 b4 hok hok'
 generalize hsn : snV s = sn at *
 generalize hsn' : snV s' = sn' at *
 obtain ⟨bi,bt,⟨lv,ll⟩,ld⟩:=sn
 obtain ⟨bi',bt',⟨lv',ll'⟩,ld'⟩:=sn'
 simp only at *
 have M1:=zA0 m1
 have M2:=zA0 m2
 have M1':=zA0 m1'
 have M2':=zA0 m2'
 obtain ⟨nv,hnv⟩ : ∃ x,x = lv.length:=⟨_,rfl⟩
 obtain ⟨nl,hnl⟩ : ∃ x,x = ll.length:=⟨_,rfl⟩
 obtain ⟨nd,hnd⟩ : ∃ x,x = ld.length:=⟨_,rfl⟩
 obtain ⟨len,hlen⟩ : ∃ x,x = s.bs.length:=⟨_,rfl⟩
 obtain ⟨nv',hnv'⟩ : ∃ x,x = lv'.length:=⟨_,rfl⟩
 obtain ⟨nl',hnl'⟩ : ∃ x,x = ll'.length:=⟨_,rfl⟩
 obtain ⟨nd',hnd'⟩ : ∃ x,x = ld'.length:=⟨_,rfl⟩
 obtain ⟨len',hlen'⟩ : ∃ x,x = s'.bs.length:=⟨_,rfl⟩
 rw [<- hnv,<- hnl,<- hnd,<- hlen,<- hnv',<- hnl',<- hnd',<- hlen']
 rw [<- hlen] at hlb
 rw [<- hlen'] at hlb'
 have HNV:=zA0 hnv
 have HNL:=zA0 hnl
 have HND:=zA0 hnd
 have HLEN:=zA0 hlen
 have HNV':=zA0 hnv'
 have HNL':=zA0 hnl'
 have HND':=zA0 hnd'
 have HLEN':=zA0 hlen'
 have HML:=zA0 hml
 have HML':=zA0 hml'
 clear hnv hnl hnd hlen hml m1 m2 m3 hsn hnv' hnl' hnd' hlen' hml' m1' m2' m3' hsn'
 generalize s.t = t at *
 generalize s.v = v at *
 generalize s'.t = t' at *
 generalize s'.v = v' at *
 obtain ⟨w0,hw0⟩ : ∃ w0,w0 = (w.alloc (.cells #[.int .i64 t,.int .i64 v,.int .i64 bi,.int .i64 bt,.slice av nv cv,.slice al nl cl,.slice ad nd cd,.slice ea len ec] 39)).alloc (.cells #[.int .i64 t',.int .i64 v',.int .i64 bi',.int .i64 bt',.slice av' nv' cv',.slice al' nl' cl',.slice ad' nd' cd',.slice ea' len' ec'] 39):=⟨_,rfl⟩
 have HB0 : Hid (Below w.heap.size w w0):=zA0 (by rw [hw0]; exact (zB5 w _).alloc (by simp) _)
 have HGA : Hid (w0.heap[w.heap.size]? = some (.cells #[.int .i64 t,.int .i64 v,.int .i64 bi,.int .i64 bt,.slice av nv cv,.slice al nl cl,.slice ad nd cd,.slice ea len ec] 39 (0,0))):=zA0 (by rw [hw0]; exact (Below.heap_alloc _ _ _ (by simp)).trans (heap_alloc_new w _))
 have HGB : Hid (w0.heap[w.heap.size + 1]? = some (.cells #[.int .i64 t',.int .i64 v',.int .i64 bi',.int .i64 bt',.slice av' nv' cv',.slice al' nl' cl',.slice ad' nd' cd',.slice ea' len' ec'] 39 (0,0))):=zA0 (by
  rw [hw0]
  have:=heap_alloc_new (w.alloc (.cells #[.int .i64 t,.int .i64 v,.int .i64 bi,.int .i64 bt,.slice av nv cv,.slice al nl cl,.slice ad nd cd,.slice ea len ec] 39)) (.cells #[.int .i64 t',.int .i64 v',.int .i64 bi',.int .i64 bt',.slice av' nv' cv',.slice al' nl' cl',.slice ad' nd' cd',.slice ea' len' ec'] 39)
  rwa [World.size_alloc] at this)
 have CF : Hid (∀ W : World,W.heap[w.heap.size]? = some (.cells #[.int .i64 t,.int .i64 v,.int .i64 bi,.int .i64 bt,.slice av nv cv,.slice al nl cl,.slice ad nd cd,.slice ea len ec] 39 (0,0))->W.heap[w.heap.size + 1]? = some (.cells #[.int .i64 t',.int .i64 v',.int .i64 bi',.int .i64 bt',.slice av' nv' cv',.slice al' nl' cl',.slice ad' nd' cd',.slice ea' len' ec'] 39 (0,0))->(W.cell? ⟨w.heap.size,0,none⟩ = some (.int .i64 t)/\W.cell? ⟨w.heap.size,1,none⟩ = some (.int .i64 v)/\W.cell? ⟨w.heap.size,2,none⟩ = some (.int .i64 bi)/\W.cell? ⟨w.heap.size,3,none⟩ = some (.int .i64 bt)/\W.cell? ⟨w.heap.size,4,none⟩ = some (.slice av nv cv)/\W.cell? ⟨w.heap.size,5,none⟩ = some (.slice al nl cl)/\W.cell? ⟨w.heap.size,6,none⟩ = some (.slice ad nd cd)/\W.cell? ⟨w.heap.size,7,none⟩ = some (.slice ea len ec))/\(W.cell? ⟨w.heap.size + 1,0,none⟩ = some (.int .i64 t')/\W.cell? ⟨w.heap.size + 1,1,none⟩ = some (.int .i64 v')/\W.cell? ⟨w.heap.size + 1,2,none⟩ = some (.int .i64 bi')/\W.cell? ⟨w.heap.size + 1,3,none⟩ = some (.int .i64 bt')/\W.cell? ⟨w.heap.size + 1,4,none⟩ = some (.slice av' nv' cv')/\W.cell? ⟨w.heap.size + 1,5,none⟩ = some (.slice al' nl' cl')/\W.cell? ⟨w.heap.size + 1,6,none⟩ = some (.slice ad' nd' cd')/\W.cell? ⟨w.heap.size + 1,7,none⟩ = some (.slice ea' len' ec'))):=zA0 (fun W g1 g2=>by
  refine ⟨⟨?_,?_,?_,?_,?_,?_,?_,?_⟩,?_,?_,?_,?_,?_,?_,?_,?_⟩ <;> first | exact cor g1 rfl | exact cor g2 rfl)
 go_enter Tryz.func15,Tryz.ntmps15
 go_upto_region 1 with (fail)
 rw [<- hw0]
 clear hw0
 obtain ⟨⟨p0,p1,p2,p3,p4,p5,p6,p7⟩,q0,q1,q2,q3,q4,q5,q6,q7⟩:=CF.out w0 HGA.out HGB.out
 have la:=zA1 HGA.out
 have lb:=zA1 HGB.out
 have K0 : Hid (∀ {f:Fm} {a:Option Addr} {vs:List (Vl f)} (W:World),Below w.heap.size w W->RepL w (fun k=>k < w.heap.size) f a vs->RepL W (fun k=>k < W.heap.size) f a vs):=zA0 (fun W hb h=>h.kept hb.size (fun j hj=>hb.block j hj) (fun j hj=>Nat.lt_of_lt_of_le hj hb.size))
 go_wp2_with fail
 refine (zU4 (fun k=>k < w0.heap.size) av av' nv nv' cv cv' lv lv' w0 HNV.out HNV'.out (K0.out w0 HB0.out A1.out) (K0.out w0 HB0.out B1.out) (fun _ h=>h) (by have:=M1.out; omega) (by have:=M1'.out; omega)).mono ?_
 rintro e w1 ⟨x1,rfl,m,rfl⟩
 go_wp2_with fail
 refine (zU4 (fun k=>k < w0.heap.size) al al' nl nl' cl cl' ll ll' (w0.drewN m) HNL.out HNL'.out (K0.out w0 HB0.out A2.out) (K0.out w0 HB0.out B2.out) (fun _ h=>h) (by have:=M2.out; omega) (by have:=M2'.out; omega)).mono ?_
 rintro e w1 ⟨x2,rfl,m2,rfl⟩
 have hkB : ∀ {a:Option Addr} {l:List UInt8},RepB w (fun k=>k < w.heap.size) a l->Bs w0 a l:=fun h=>h.1.grow HB0.out
 have KBA:=zA0 (hkB A3.out)
 have KBB:=zA0 (hkB B3.out)
 clear hkB
 cases hx1 : x1 with
 | false =>
  subst hx1
  go_wp2_with fail
  refine (zO5 ad ad' nd nd' cd cd' ld ld' _ HND.out HND'.out (KBA.out.drewN _) (KBB.out.drewN _)).mono ?_
  rintro e w1 ⟨rfl,m3,rfl⟩
  generalize decide (ld = ld') = x3
  go_wp2
  go_ret
  exact ⟨false,rfl,HB0.out.os,HB0.out.tape,HB0.out.output,HB0.out.size,HB0.out.block⟩
 | true =>
  subst hx1
  cases hx2 : x2 with
  | false =>
   subst hx2
   go_wp2_with fail
   refine (zO5 ad ad' nd nd' cd cd' ld ld' _ HND.out HND'.out (KBA.out.drewN _) (KBB.out.drewN _)).mono ?_
   rintro e w1 ⟨rfl,m3,rfl⟩
   generalize decide (ld = ld') = x3
   go_wp2
   go_ret
   exact ⟨false,rfl,HB0.out.os,HB0.out.tape,HB0.out.output,HB0.out.size,HB0.out.block⟩
  | true =>
   subst hx2
   go_wp2_with fail
   refine (zO5 ad ad' nd nd' cd cd' ld ld' _ HND.out HND'.out (KBA.out.drewN _) (KBB.out.drewN _)).mono ?_
   rintro e w1 ⟨rfl,m3,rfl⟩
   cases hx3 : decide (ld = ld') with
   | false =>
    clear hx3
    go_wp2
    go_ret
    exact ⟨false,rfl,HB0.out.os,HB0.out.tape,HB0.out.output,HB0.out.size,HB0.out.block⟩
   | true =>
    clear hx3
    by_cases hh : t = t'/\v = v'
    · obtain ⟨rfl,rfl⟩:=hh
      by_cases hi : bi = bi'
      · subst hi
        by_cases hb : bt = bt'
        · subst hb
          by_cases hle : len = len'
          · subst hle
            go_wp2_with fail
            clear p0 p1 p2 p3 p4 p5 p6 p7 q0 q1 q2 q3 q4 q5 q6 q7 la lb
            go_loopw [9] (fun i wr=>∃ k : Nat,k<=len/\i = .int .i64 k/\Hid (wr.heap[w.heap.size]? = some (.cells #[.int .i64 t,.int .i64 v,.int .i64 bi,.int .i64 bt,.slice av nv cv,.slice al nl cl,.slice ad nd cd,.slice ea len ec] 39 (0,0)))/\Hid (wr.heap[w.heap.size + 1]? = some (.cells #[.int .i64 t,.int .i64 v,.int .i64 bi,.int .i64 bt,.slice av' nv' cv',.slice al' nl' cl',.slice ad' nd' cd',.slice ea' len ec'] 39 (0,0)))/\Hid (Below w.heap.size w wr)) (fun i _=>len - (intOf i).toNat)
            case atStart=>exact ⟨0,Nat.zero_le _,rfl,HGA,HGB,zA0 ⟨HB0.out.os,HB0.out.tape,HB0.out.output,HB0.out.size,HB0.out.block⟩⟩
            case round =>
             obtain ⟨k,hk,rfl,HA,HB,HBR⟩:=hrel
             obtain ⟨⟨_,_,_,_,_,_,_,p7⟩,_,_,_,_,_,_,_,q7⟩:=CF.out wr HA.out HB.out
             have la:=zA1 HA.out
             have lb:=zA1 HB.out
             by_cases hlt : k < len
             · have hkl : k < (s.bs.map dE).length:=by rw [HML.out,<- HLEN.out]; exact hlt
               obtain ⟨b1,o1,es1,rfl,hs1,hr1,hg1⟩:=Rep.load (K0.out wr HBR.out A4.out) hkl
               have hkl' : k < (s'.bs.map dE).length:=by rw [HML'.out,<- HLEN'.out]; exact hlt
               obtain ⟨b2,o2,es2,rfl,hs2,hr2,hg2⟩:=Rep.load (K0.out wr HBR.out B4.out) hkl'
               obtain ⟨bo',hbo'⟩ : ∃ bo',s'.bs[k]? = some bo':=⟨_,List.getElem?_eq_getElem (by rw [<- HLEN'.out]; exact hlt)⟩
               have hx' : (s'.bs.map dE)[k]'hkl' = dE bo':=by
                have : (s'.bs.map dE)[k]? = some (dE bo'):=by rw [List.getElem?_map,hbo']; rfl
                rw [List.getElem?_eq_getElem hkl'] at this
                exact Option.some.inj this
               rw [hx'] at hr2
               have hen':=(zP4 (HOK'.out.es k bo' hbo').1).1
               have HBY' : Hid (zD6 (en zA8 (dE bo')) = bo'):=zA0 (by unfold zD6; rw [hen']; exact (zP4 (HOK'.out.es k bo' hbo').1).2.symm)
               have HBL' : Hid (bo'.length<=7470):=zA0 (zI3 (HOK'.out.es k bo' hbo').1)
               have HSZ':=zA0 (zH7 _ hen')
               obtain ⟨bo,hbo⟩ : ∃ bo,s.bs[k]? = some bo:=⟨_,List.getElem?_eq_getElem (by rw [<- HLEN.out]; exact hlt)⟩
               have hx : (s.bs.map dE)[k]'hkl = dE bo:=by
                have : (s.bs.map dE)[k]? = some (dE bo):=by rw [List.getElem?_map,hbo]; rfl
                rw [List.getElem?_eq_getElem hkl] at this
                exact Option.some.inj this
               rw [hx] at hr1
               have hen:=(zP4 (HOK.out.es k bo hbo).1).1
               have HEN:=zA0 hen
               have HBY : Hid (zD6 (en zA8 (dE bo)) = bo):=zA0 (by unfold zD6; rw [hen]; exact (zP4 (HOK.out.es k bo hbo).1).2.symm)
               have HBL : Hid (bo.length<=7470):=zA0 (zI3 (HOK.out.es k bo hbo).1)
               have HSZ:=zA0 (zH7 _ hen)
               obtain ⟨r1,he1,hel1⟩:=zD3 hr1
               obtain ⟨r2,he2,hel2⟩:=zD3 hr2
               have R1:=zA0 hr1
               have R2:=zA0 hr2
               have G1:=zA0 hg1
               have G2:=zA0 hg2
               have I1:=zA0 (zF6 hel1)
               have I2:=zA0 (zF6 hel2)
               have S2:=zA0 hs2
               clear hr1 hr2 hg1 hg2 he1 he2 hel1 hel2 hen hx hbo hkl r1 r2 hen' hx' hbo' hkl'
               go_wp2_with (refine wpList_load_mid rfl 73 (.tmp 95) rfl b1 (o1 + k * 29) rfl es1 _ G1.out Tryz.underlying73 rfl I1.out ?_)
               refine (zI1 es1 (dE bo) wr HSZ.out R1.out).mono ?_
               rintro e w1 ⟨z1,rfl,ho1,hn1,hB1⟩
               have HA1:=zA0 ((hB1.block _ (zA1 HA.out)).trans HA.out)
               have HB1:=zA0 ((hB1.block _ (zA1 HB.out)).trans HB.out)
               have HBR1:=zA0 (HBR.out.trans (hB1.mono HBR.out.size))
               have G21 : Hid (w1.rangeAt b2 (o2 + k * 29) es2):=zA0 (zB1 G2.out (hB1.block b2 S2.out))
               have R21 : Hid (Rep w1 (fun q=>q < w1.heap.size) zA8 es2 (dE bo')):=zA0 (R2.out.kept hB1.size (fun j hj=>hB1.block j hj) (fun j hj=>Nat.lt_of_lt_of_le hj hB1.size))
               rw [HBY.out] at ho1
               obtain ⟨za1,zc1,hz1,hzb1⟩:=ho1.form
               subst hz1
               have BZ1:=zA0 (hzb1 (by have:=HBL.out; omega))
               obtain ⟨⟨_,_,_,_,_,_,_,p7'⟩,_,_,_,_,_,_,_,q7'⟩:=CF.out w1 HA1.out HB1.out
               have la1:=zA1 HA1.out
               have lb1:=zA1 HB1.out
               clear ho1 hn1 hB1 hzb1 p7 q7 la lb
               generalize hbn : bo.length = bn at BZ1 ⊢
               have HBN:=zA0 hbn.symm
               clear hbn
               generalize zK5 (en zA8 (dE bo)).2 = co
               go_wp2_with (refine wpList_load_mid rfl 73 (.tmp 104) rfl b2 (o2 + k * 29) rfl es2 _ G21.out Tryz.underlying73 rfl I2.out ?_)
               refine (zI1 es2 (dE bo') w1 HSZ'.out R21.out).mono ?_
               rintro e w2 ⟨z2,rfl,ho2,hn2,hB2⟩
               have HA2:=zA0 ((hB2.block _ (zA1 HA1.out)).trans HA1.out)
               have HB2:=zA0 ((hB2.block _ (zA1 HB1.out)).trans HB1.out)
               have HBR2:=zA0 (HBR1.out.trans (hB2.mono HBR1.out.size))
               rw [HBY'.out] at ho2
               obtain ⟨za2,zc2,hz2,hzb2⟩:=ho2.form
               subst hz2
               have HSM:=zA0 (zO5 za1 za2 bn bo'.length zc1 zc2 bo bo' w2 HBN.out rfl (BZ1.out.grow hB2) (hzb2 (by have:=HBL'.out; omega)))
               clear ho2 hn2 hB2 hzb2 p7' q7' la1 lb1
               generalize zK5 (en zA8 (dE bo')).2 = co2
               generalize bo'.length = bn2 at HSM ⊢
               go_wp2_with fail
               refine HSM.out.mono ?_
               rintro e w3 ⟨rfl,m4,rfl⟩
               cases hq : decide (bo = bo') with
               | true =>
                clear hq
                go_wp2
                exact ⟨⟨k + 1,by omega,by go_num,HA2,HB2,zA0 ⟨HBR2.out.os,HBR2.out.tape,HBR2.out.output,HBR2.out.size,HBR2.out.block⟩⟩,by simp [intOf]; omega⟩
               | false =>
                clear hq
                go_wp2
                go_ret
                exact ⟨false,rfl,HBR2.out.os,HBR2.out.tape,HBR2.out.output,HBR2.out.size,HBR2.out.block⟩
             · go_wp2
               go_ret
               exact ⟨true,rfl,HBR.out⟩
          · have hle2 : ¬ (len:Int) = (len':Int):=by omega
            go_wp2
            go_ret
            exact ⟨false,rfl,HB0.out.os,HB0.out.tape,HB0.out.output,HB0.out.size,HB0.out.block⟩
        · go_wp2
          go_ret
          exact ⟨false,rfl,HB0.out.os,HB0.out.tape,HB0.out.output,HB0.out.size,HB0.out.block⟩
      · go_wp2
        go_ret
        exact ⟨false,rfl,HB0.out.os,HB0.out.tape,HB0.out.output,HB0.out.size,HB0.out.block⟩
    · have hh2 : ¬ (t = t'/\v = v'):=hh
      by_cases ht : t = t'
      · subst ht
        have hv : ¬ v = v':=fun e=>hh ⟨rfl,e⟩
        clear hh hh2
        go_wp2
        go_ret
        exact ⟨false,rfl,HB0.out.os,HB0.out.tape,HB0.out.output,HB0.out.size,HB0.out.block⟩
      · clear hh hh2
        go_wp2
        go_ret
        exact ⟨false,rfl,HB0.out.os,HB0.out.tape,HB0.out.output,HB0.out.size,HB0.out.block⟩
theorem zG7 (ca cb:List Value) (s s':Sd) (w:World) (h1:Rep w (fun k=>k < w.heap.size) zB6 ca (dec s)) (h2:Rep w (fun k=>k < w.heap.size) zB6 cb (dec s')) (hok:Okd s) (hok':Okd s') (hlb:s.bs.length<=4194304) (hlb':s'.bs.length<=4194304) : Calls Tryz.prog 15 #[.agg ca.toArray,.agg cb.toArray] w fun e w'=>∃ bb,e = .returned (.bool bb)/\(s = s'->bb = true)/\Below w.heap.size w w':=by
 by_cases h : s = s'
 · subst h
   refine (yO6 ca cb s w h1 h2 hok hlb).mono ?_
   rintro e w' ⟨h3,h4⟩
   exact ⟨true,h3,fun _=>rfl,h4⟩
 · refine (yI6 ca cb s s' w h1 h2 hok hok' hlb hlb').mono ?_
   rintro e w' ⟨bb,h3,h4⟩
   exact ⟨bb,h3,fun e=>absurd e h,h4⟩
end
section
open Go.RowKit Go.Maps
theorem xE1 (w:World) : Calls Tryz.prog 12 #[] w fun e w'=>e = .returned (.bool true)/\Below w.heap.size w w':=by
 go_enter Tryz.func12,Tryz.ntmps12
 go_wp2_with fail
 refine (xQ0 w).mono ?_
 rintro e w1 ⟨F1,rfl,hd1,hf1,hB1⟩
 have HD1:=zA0 hd1
 have HF1:=zA0 hf1
 have HB1:=zA0 hB1
 clear hd1 hf1 hB1
 obtain ⟨p,hp⟩ : ∃ p,p = w.heap.size + 1 + 1:=⟨_,rfl⟩
 rw [<- hp] at HD1 ⊢
 have HP:=zA0 hp
 clear hp
 go_wp2_with fail
 refine (yG9 p 0 M0 F1 w1 HD1.out rfl cln0.fw (by omega)).mono ?_
 intro e w2 ho
 have e0 : rdF sd0 (cOf M0.files lgN) = some (sd0,0):=zP8 sd0
 unfold OpP at ho
 rw [e0] at ho
 simp only at ho
 obtain ⟨q,F2,cs,rfl,hw2,hr2,hfr2,hq2⟩:=ho
 have eM : opM M0 0 = M0:=rfl
 rw [eM] at hw2
 have HW2:=zA0 hw2
 have HB2 : Hid (Below w.heap.size w w2):=zA0 (HB1.out.trans (hfr2.below HB1.out.size HF1.out))
 have HF2 : Hid (∀ k,F2 k->w.heap.size<=k):=zA0 (hfr2.above HB1.out.size HF1.out)
 have HQ2 : Hid (w.heap.size<=q):=zA0 (Nat.le_trans HB1.out.size hq2)
 obtain ⟨av,nv,cv,al,nl,cl,ad,nd,cd,ea,ec,rfl,_,_⟩:=zG1 hr2
 clear hw2 hr2 hfr2 hq2 e0 eM
 simp only [dec,sd0,List.map_nil,List.length_nil]
 generalize (snV ⟨0,0,none,0,[]⟩).1 = bi
 generalize (snV ⟨0,0,none,0,[]⟩).2.1 = bt
 go_wp2_with fail
 obtain ⟨w3,hw3⟩ : ∃ w3,w3 = w2.alloc (.cells #[.int .i64 0,.int .i64 0,.int .i64 bi,.int .i64 bt,.slice av nv cv,.slice al nl cl,.slice ad nd cd,.slice ea 0 ec] 39):=⟨_,rfl⟩
 have HB3 : Hid (Below w2.heap.size w2 w3):=zA0 (by rw [hw3]; exact zB5 w2 _)
 have hs3 : w3.heap.size = w2.heap.size + 1:=by rw [hw3]; simp
 rw [<- hw3,<- hs3]
 clear hw3 hs3
 have HSV:=zA0 (yG8 q p 4 M0 F2 sd0 1 2 (some ⟨w3.heap.size,0,none⟩) 1 1 [En1 1] (w3.alloc (.cells (Ec 1).toArray 73)) (HW2.out.below (HB3.out.alloc HB3.out.size _)) rfl (xH9 w3 1) (by simp) cln0.fw (by omega) (fun _=>kC6) (fun _=>by show m1.bs.length<=_; rw [zN4.2.2.2]; omega))
 have HBa : Hid (Below w.heap.size w (w3.alloc (.cells (Ec 1).toArray 73))):=zA0 ((HB2.out.trans (HB3.out.mono HB2.out.size)).alloc (by have:=HB2.out.size; have:=HB3.out.size; omega) _)
 refine Calls.mono HSV.out ?_
 rintro e w4 (⟨hn,_⟩ | ⟨_,hsv⟩)
 · exact absurd acc1 hn
 obtain ⟨F4,hfr4,rfl,hw4⟩:=hsv.good rfl
 have hg4:=kE2.save acc1
 obtain ⟨M4,hM4⟩ : ∃ M4,M4 = runT (zI7 M0 (moS 1 2 [En1 1]) (nxS sd0 1 2 [En1 1])) (zI7 M0 (moS 1 2 [En1 1]) (nxS sd0 1 2 [En1 1])).length M0:=⟨_,rfl⟩
 rw [<- hM4] at hw4 hg4
 have HW4 : Hid (WalR w4 q p M4 8 F4 m1 false):=zA0 hw4
 have HG4 : Hid (Good M4 m1):=zA0 hg4
 have hFq : ∀ k,Fq F2 q k->w.heap.size<=k:=fun k hk=>by
  rcases hk with hk | hk
  · exact HF2.out k hk
  · rw [hk]; exact HQ2.out
 have HB4 : Hid (Below w.heap.size w w4):=zA0 (HBa.out.trans (hfr4.below HBa.out.size hFq))
 have HF4 : Hid (∀ k,F4 k->w.heap.size<=k):=zA0 (fun k hk=>hfr4.above HBa.out.size hFq k (.inl hk))
 clear hsv hfr4 hw4 hg4 hM4 hFq HSV HBa HW2 HB3 HD1 HF1
 go_wp2_with fail
 have HS5:=zA0 (yG8 q p 8 M4 F4 m1 1 2 (some ⟨w4.heap.size,0,none⟩) 1 1 [En1 3] (w4.alloc (.cells (Ec 3).toArray 73)) (HW4.out.below (zB5 w4 _)) rfl (xH9 w4 3) (by simp) HG4.out.cln.fw (by omega) (fun h=>absurd h acc3) (fun h=>absurd h acc3))
 refine Calls.mono HS5.out ?_
 intro e w5 h5
 obtain ⟨rfl,hB5⟩ : e = .returned (.int .i64 1)/\Below (w4.alloc (.cells (Ec 3).toArray 73)).heap.size (w4.alloc (.cells (Ec 3).toArray 73)) w5:=by
  rcases h5 with ⟨_,a,b⟩ | ⟨h,_⟩
  · exact ⟨a,b⟩
  · exact absurd h acc3
 clear h5
 have HB45 : Hid (Below w4.heap.size w4 w5):=zA0 ((zB5 w4 _).trans (hB5.mono (by simp)))
 have HD5 : Hid (Dsk w5 p M4 8 F4):=zA0 (HW4.out.dsk.below HB45.out)
 have HB5 : Hid (Below w.heap.size w w5):=zA0 (HB4.out.trans (HB45.out.mono HB4.out.size))
 clear hB5 HS5 HB45 HW4
 go_wp2_with fail
 refine (zV9 0 p 8 M4 F4 w5 HD5.out (by omega)).mono ?_
 rintro e w6 ⟨F6,rfl,hd6,hfr6⟩
 rw [HG4.out.cln.crash] at hd6
 have HD6:=zA0 hd6
 have HB6 : Hid (Below w.heap.size w w6):=zA0 (HB5.out.trans (hfr6.below HB5.out.size HF4.out))
 have HF6 : Hid (∀ k,F6 k->w.heap.size<=k):=zA0 (hfr6.above HB5.out.size HF4.out)
 clear hd6 hfr6
 go_wp2_with fail
 refine (yG9 p 8 M4 F6 w6 HD6.out HG4.out.cln.left HG4.out.cln.fw (by omega)).mono ?_
 intro e w7 ho
 unfold OpP at ho
 rw [HG4.out.rd] at ho
 simp only at ho
 obtain ⟨q7,F7,cs7,rfl,hw7,hr7,hfr7,hq7⟩:=ho
 have HB7 : Hid (Below w.heap.size w w7):=zA0 (HB6.out.trans (hfr7.below HB6.out.size HF6.out))
 obtain ⟨av,nv,cv,al,nl,cl,ad,nd,cd,ea,ec,rfl,_,hrl⟩:=zG1 hr7
 have hm1 : (dec m1).2.2.length = 1:=by show (m1.bs.map dE).length = 1; rw [List.length_map]; exact zN4.2.2.2
 obtain ⟨b,off,es,rfl,hSb,hre,hrg⟩:=Rep.load (k:=0) hrl (by rw [hm1]; omega)
 obtain ⟨r,he,_⟩:=zD3 hre
 have hx : w7.cell? ⟨b,off,none⟩ = some (.int .i64 1):=by
  have h0:=hrg 0 (.int .i64 (eI ((dec m1).2.2[0]'(by rw [hm1]; omega)))) (by rw [he]; rfl)
  have h1 : eI ((dec m1).2.2[0]'(by rw [hm1]; omega)) = m1.base + 1 + (0:Nat):=Okd.idx HG4.out.okd (k:=0) (by rw [List.length_map,zN4.2.2.2]; omega)
  rw [h1,zN4.2.2.1] at h0
  simpa using h0
 have lb : b < w7.heap.size:=hSb.1
 rw [hm1]
 have e1 : (dec m1).1.1 = 1:=zN4.1
 have e2 : (dec m1).1.2 = 2:=zN4.2.1
 rw [e1,e2]
 generalize (dec m1).2.1.1 = bi
 generalize (dec m1).2.1.2.1 = bt
 have HX:=zA0 hx
 have HLB:=zA0 lb
 clear hw7 hr7 hfr7 hq7 hrl hre hrg he hm1 hx lb e1 e2
 go_wp2_with fail
 refine (xO8 _).mono ?_
 rintro e w9 ⟨rfl,hB9⟩
 have G9 : Hid (w9.heap[w7.heap.size]? = some (.cells #[.int .i64 1,.int .i64 2,.int .i64 bi,.int .i64 bt,.slice av nv cv,.slice al nl cl,.slice ad nd cd,.slice (some ⟨b,off,none⟩) 1 ec] 39 (0,0))):=zA0 ((hB9.block _ (by simp)).trans (heap_alloc_new w7 _))
 have x9 : w9.cell? ⟨b,off,none⟩ = some (.int .i64 1):=(hB9.cell (p:=⟨b,off,none⟩) (by have:=HLB.out; simp; omega)).trans ((World.cell?_of_block (a:=⟨b,off,none⟩) (Below.heap_alloc w7 _ b HLB.out)).trans HX.out)
 have HB9 : Hid (Below w.heap.size w w9):=zA0 ((HB7.out.alloc HB7.out.size _).trans (hB9.mono (by have:=HB7.out.size; simp; omega)))
 have lb9 : b < w9.heap.size:=by have:=hB9.size; have:=HLB.out; simp at *; omega
 have c0 : w9.cell? ⟨w7.heap.size,0,none⟩ = some (.int .i64 1):=cor G9.out rfl
 have c1 : w9.cell? ⟨w7.heap.size,1,none⟩ = some (.int .i64 2):=cor G9.out rfl
 have c7 : w9.cell? ⟨w7.heap.size,7,none⟩ = some (.slice (some ⟨b,off,none⟩) 1 ec):=cor G9.out rfl
 have l9:=zA1 G9.out
 clear hB9
 simp only [Z39]
 go_wp2
 first | go_quiet (fail) | skip
 first | go_wp2 | skip
 go_ret
 have hBz:=HB9.out.alloc HB9.out.size (.cells #[.int .i64 0,.int .i64 0,.int .i64 0,.int .i64 0,.slice none 0 0,.slice none 0 0,.slice none 0 0,.slice none 0 0] 39)
 exact ⟨rfl,hBz.os,hBz.tape,hBz.output,hBz.size,hBz.block⟩
end
end Go.Proofs.YtocoimjhglackaaGreat
