/- Wgh, Wia, Open -/
import Derived.Test.YtocoimjhglackaaGreatK31
import Derived.ProofKit
import Derived.OpenShut
import Derived.ShutString
import Derived.ChangeOld
import Derived.Below
import Derived.SizedLaws
set_option maxHeartbeats 8000000
set_option maxRecDepth 100000
namespace Go.Proofs.YtocoimjhglackaaGreat
section
open Go.RowKit Go.Maps
theorem yP6 : zF0 (-1) = -1:=by decide
theorem zR3 {acts:List Ax} {M:Md} (h:M.left = -1) (k:Nat) : (runT acts k M).left = -1:=by
 unfold runT
 generalize acts.take k = l
 induction l generalizing M with
 | nil=>exact h
 | cons x l ih =>
  refine ih ?_
  cases x <;> (show zF0 M.left = -1; rw [h]; exact yP6)
theorem DoP.good {w:World} {q p cnt:Nat} {F:Nat->Prop} {acts:List Ax} {M:Md} {e:Ending} {w':World} (h:DoP w q p cnt F acts M e w') (hl:M.left = -1) : ∃ F',e = .returned (.int .i64 0)/\Dsk w' p (runT acts acts.length M) (cnt + acts.length) F'/\Fr w w' F F':=by
 obtain ⟨k,F',h1,h2,h3,h4⟩:=h
 rcases h4 with ⟨a,b,c⟩ | ⟨a,b,_⟩
 · subst a; exact ⟨F',b,h3,c⟩
 · rw [zR3 hl] at b; exact absurd b (by decide)
def opM (M:Md) (k:Nat) : Md:=if k < (cOf M.files lgN).length then runT (wa ((cOf M.files lgN).take k)) 4 M else M
def OpP (w:World) (p cnt:Nat) (F:Nat->Prop) (M:Md) (e:Ending) (w':World) : Prop:=match rdF sd0 (cOf M.files lgN) with
 | none=>e = .returned (.tuple #[.pointer none,.agg Z39,.int .i64 13])/\Below w.heap.size w w'
 | some (m,k)=>∃ q F' cs,e = .returned (.tuple #[.pointer (some ⟨q,0,none⟩),.agg cs.toArray,.int .i64 0])/\WalR w' q p (opM M k) (cnt + 4) F' m false/\Rep w' (Sw w' F' q) zB6 cs (dec m)/\Fr w w' F F'/\w.heap.size<=q
def OpP2 (w:World) (p cnt:Nat) (F:Nat->Prop) (M:Md) (e:Ending) (w':World) : Prop:=match rdF sd0 (cOf M.files lgN) with
 | none=>e = .returned (.tuple #[.pointer none,.agg Z39,.int .i64 13])/\Below w.heap.size w w'
 | some (m,k)=>∃ q F' cs,e = .returned (.tuple #[.pointer (some ⟨q,0,none⟩),.agg cs.toArray,.int .i64 0])/\WalR w' q p (opM M k) (cnt + 4) F' m false/\Rep w' (fun k=>Sw w' F' q k/\w.heap.size<=k) zB6 cs (dec m)/\Fr w w' F F'/\w.heap.size<=q
theorem xK2 (tmps:Array Value) (W:World) (g:Nat) (x:Value) (cs:Array Value) (y:Int) (hs:cs.size = 8) (h2:tmps[2]?.getD undef = x) (h3:tmps[3]?.getD undef = .pointer (some ⟨g,0,none⟩)) (h4:tmps[4]?.getD undef = .int .i64 y) (hg:W.heap[g]? = some (.cells cs 39 (0,0))) : (results Tryz.f13 tmps).run Tryz.prog W = .ok (.tuple #[x,.agg cs,.int .i64 y]) W:=by
 have hl:=run_loadVar_row (P:=Tryz.prog) W g 39 39 cs (0,0) _ hg Tryz.underlying39 rfl (by rw [hs]; exact zC1)
 simp [results,Tryz.results13,asAddr,h2,h3,h4,hl]
theorem SnV.lt {w:World} {D:Nat} {v:Value} {o:Option (List UInt8)} (h:SnV w (fun k=>D<=k) v o) : SnV w (fun k=>D<=k/\k < w.heap.size) v o:=by
 cases o with
 | none=>exact h
 | some b=>exact ⟨h.1,fun k hk=>⟨h.2 k hk,h.1.lt k hk⟩⟩
theorem Bs.takeN {w:World} {a:Option Addr} {l:List UInt8} (h:Bs w a l) (k:Nat) : Bs w a (l.take k):=by
 refine ⟨by rw [List.length_take]; have:=h.1; omega,fun hne=>?_⟩
 obtain ⟨b,off,rfl,hb,hc⟩:=h.2 (by intro e; rw [e] at hne; simp at hne)
 refine ⟨b,off,rfl,hb,fun j hj=>?_⟩
 rw [List.length_take] at hj
 rw [hc j (by omega)]
 congr 2
 unfold bat bn
 rw [List.getD_eq_getElem?_getD,List.getD_eq_getElem?_getD,List.getElem?_take,if_pos (by omega)]
theorem yZ0 : (Z39.all fun x=>x.oneCell') = true:=by kernel_rfl
theorem xV2 {l:List UInt8} {s:Sd} {n:Nat} (h:rdF sd0 l = some (s,n)) : s.bs.length * 15<=n:=by
 have key : ∀ (N:Nat) (l:List UInt8) (s0 s:Sd) (n:Nat),l.length = N->rdF s0 l = some (s,n)->s.bs.length * 15<=s0.bs.length * 15 + n:=by
  intro N
  induction N using Nat.strongRecOn with
  | ind N ih =>
   intro l s0 s n hl h
   rcases zJ8 l with g | ⟨g,g'⟩ | ⟨k,p,c,x,rfl,h1,h2,h3⟩
   · rw [zY1 g] at h; cases h
   · rw [zJ1 g g'] at h
     cases h
     omega
   · rw [zK2 s0 k p c x h1 h2 h3] at h
     cases ht : zH6 s0 k p c with
     | none=>rw [ht] at h; cases h
     | some s' =>
      rw [ht] at h
      simp only [Option.bind_some] at h
      cases hx : rdF s' x with
      | none=>rw [hx] at h; cases h
      | some r =>
       rw [hx] at h
       obtain ⟨r1,r2⟩:=r
       simp only [Option.map_some] at h
       injection h with h
       injection h with e1 e2
       subst e1
       rw [List.length_append,zC0] at hl
       have i1:=ih x.length (by omega) x s' r1 r2 rfl hx
       have i2 : s'.bs.length<=s0.bs.length + 1:=by
        unfold zH6 at ht
        split at ht
        · unfold yA7 at ht
          split at ht
          · cases ht; simp
          · cases ht
        · split at ht
          · unfold zR0 at ht
            split at ht
            · cases ht; simp [List.length_take]; omega
            · cases ht
          · split at ht
            · unfold yA6 at ht
              split at ht
              · cases ht; simp
              · cases ht
            · cases ht
       omega
 have:=key l.length l sd0 s n rfl h
 simpa [sd0] using this
theorem xO8 (w:World) : Calls Tryz.prog 13 #[.pointer none] w fun e w'=>e = .returned (.tuple #[.pointer none,.agg Z39,.int .i64 1])/\Below w.heap.size w w':=by
 have g0:=heap_alloc_new w (.cells Z39 39)
 have HG0:=zA0 g0
 clear g0
 go_enter Tryz.func13,Tryz.ntmps13
 go_wp2_with (refine zA5 rfl 39 (.tmp 3) (.tmp 14) rfl w.heap.size Z39 rfl rfl 39 Z39 HG0.out zC1 rfl yZ0 ?nz)
 case nz =>
  intro w9 hw9h
  have hw9:=hw9h.out
  have g9 : Hid (w9.heap[w.heap.size]? = some (.cells Z39 39 (0,0))):=zA0 (by rw [hw9]; exact setRow_heap _ _ _ _ 39 _ HG0.out)
  have hB9 : Below w.heap.size w w9:=by rw [hw9]; exact (zB5 w _).trans ⟨rfl,rfl,rfl,by simp [World.setRow],fun k hk=>setRow_other _ _ _ _ (by omega)⟩
  clear hw9 hw9h
  go_wp2
  refine bodyPost_ret (v:=.tuple #[.pointer none,.agg Z39,.int .i64 1]) ?_ rfl ⟨rfl,hB9⟩
  exact xK2 _ _ w.heap.size _ Z39 1 rfl rfl rfl rfl g9.out
theorem zS5 (p cnt:Nat) (M:Md) (F:Nat->Prop) (w:World) (h:Dsk w p M cnt F) (hl:M.left = -1) (hfw:Fw M.files) (hc:cnt + 5<=2199023255552) : Calls Tryz.prog 13 #[.pointer (some ⟨p,0,none⟩)] w (OpP2 w p cnt F M):=by
 have hlg:=h.lgl
 obtain ⟨w1,hw1⟩ : ∃ w1,w1 = w.alloc (.cells Z39 39):=⟨_,rfl⟩
 have hB1 : Below w.heap.size w w1:=by rw [hw1]; exact zB5 w _
 have g3 : w1.heap[w.heap.size]? = some (.cells Z39 39 (0,0)):=by rw [hw1]; exact heap_alloc_new w _
 have HRD:=zA0 (xC0 p cnt M F w1 (h.below hB1))
 have HW1:=zA0 hw1
 have HB1:=zA0 hB1
 have HG3:=zA0 g3
 have H:=zA0 h
 have HLF:=zA0 hl
 have HFW:=zA0 hfw
 have HC:=zA0 hc
 have HLG:=zA0 hlg
 clear h hl hfw hc hlg hB1 g3
 go_enter Tryz.func13,Tryz.ntmps13
 go_upto_region 1 with (fail)
 have hw1z:=hw1
 unfold Z39 at hw1z
 rw [<- hw1z]
 clear hw1 HW1 hw1z
 go_wp2_with fail
 refine Calls.mono HRD.out ?_
 rintro e w2 ⟨z,rfl,hz,hzf,hb2⟩
 obtain ⟨za,zc,hze,hzc,hzb⟩:=hz.bs (by have:=HLG.out; omega)
 have hzbl : ∀ y,za = some y->y.block < w2.heap.size:=by rw [hze] at hz; exact hz.blk
 have HZO : Hid (∀ y,za = some y->w1.heap.size<=y.block):=zA0 (fun y hy=>by rw [hze,hy] at hzf; exact hzf y.block rfl)
 have HZN : Hid (za = none->cOf M.files lgN = []):=zA0 (fun e=>by rw [e] at hzb; exact xG8 hzb)
 subst hze
 have hB02 : Below w.heap.size w w2:=HB1.out.trans (hb2.mono HB1.out.size)
 have HRE:=zA0 (xK7 za (cOf M.files lgN).length zc (cOf M.files lgN) w2 rfl hzc hzb hzbl HLG.out)
 have HB02:=zA0 hB02
 have HZB:=zA0 hzb
 have HZBL:=zA0 hzbl
 have HG32:=zA0 ((hb2.block _ (zA1 HG3.out)).trans HG3.out)
 have HZC:=zA0 hzc
 generalize (if (M.files lgN).isSome = true then (0:Int) else 12) = ee
 obtain ⟨zn,hzn⟩ : ∃ zn,zn = (cOf M.files lgN).length:=⟨_,rfl⟩
 rw [<- hzn] at HRE ⊢
 have HZL : Hid (zn = (cOf M.files lgN).length):=zA0 hzn
 have hznl : (zn:Int)<=1048576:=by have:=HLG.out; omega
 clear hz hzf hb2 hzc hzb hzbl hB02 HRD hzn
 go_wp2_with fail
 refine Calls.mono HRE.out ?_
 rintro e w3 ⟨hb3,hm⟩
 have hB03 : Below w.heap.size w w3:=HB02.out.trans (hb3.mono HB02.out.size)
 have HB03:=zA0 hB03
 have HG33:=zA0 ((hb3.block _ (zA1 HG32.out)).trans HG32.out)
 have HB3:=zA0 hb3
 clear hb3 hB03 HRE
 cases hrd : rdF sd0 (cOf M.files lgN) with
 | none =>
  rw [hrd] at hm
  subst hm
  have HO : Hid (∀ e w',(e = .returned (.tuple #[.pointer none,.agg Z39,.int .i64 13])/\Below w.heap.size w w')->OpP2 w p cnt F M e w'):=zA0 (fun e w' h=>by unfold OpP2; rw [hrd]; exact h)
  clear hrd
  unfold Z94
  go_wp2_with (refine zA5 rfl 39 (.tmp 3) (.tmp 28) rfl w.heap.size Z39 rfl rfl 39 Z39 ((Below.heap_alloc _ _ _ (zA1 HG33.out)).trans HG33.out) zC1 rfl yZ0 ?nz)
  case nz =>
   intro w9 hw9h
   have hw9:=hw9h.out
   have g9 : Hid (w9.heap[w.heap.size]? = some (.cells Z39 39 (0,0))):=zA0 (by rw [hw9]; exact setRow_heap _ _ _ _ 39 _ ((Below.heap_alloc _ _ _ (zA1 HG33.out)).trans HG33.out))
   have hB9 : Below w.heap.size w w9:=by rw [hw9]; exact (HB03.out.trans ((zB5 w3 _).mono HB03.out.size)).trans ⟨rfl,rfl,rfl,by simp [World.setRow],fun k hk=>setRow_other _ _ _ _ (by omega)⟩
   clear hw9 hw9h
   go_wp2
   refine bodyPost_ret (v:=.tuple #[.pointer none,.agg Z39,.int .i64 13]) ?_ rfl (HO.out _ _ ⟨rfl,hB9⟩)
   exact xK2 _ _ w.heap.size _ Z39 13 rfl rfl rfl rfl g9.out
 | some r =>
  obtain ⟨m,k⟩:=r
  rw [hrd] at hm
  obtain ⟨cs,rfl,hsaid⟩:=hm
  obtain ⟨a1,b1,c1,d1,e1,f1,rfl⟩:=hsaid.form
  have hok:=xC2 _ _ _ _ okd0 hrd
  have hkl:=(xP6 _ _ _ _ hrd).1
  have hbl:=xV2 hrd
  have HO : Hid (∀ e w',(∃ q F' cs,e = .returned (.tuple #[.pointer (some ⟨q,0,none⟩),.agg cs.toArray,.int .i64 0])/\WalR w' q p (opM M k) (cnt + 4) F' m false/\Rep w' (fun k=>Sw w' F' q k/\w.heap.size<=k) zB6 cs (dec m)/\Fr w w' F F'/\w.heap.size<=q)->OpP2 w p cnt F M e w'):=zA0 (fun e w' h=>by unfold OpP2; rw [hrd]; exact h)
  obtain ⟨w4,hw4⟩ : ∃ w4,w4 = (w3.alloc (.cells #[.int .i64 m.t,.int .i64 m.v,.slice a1 b1 c1,.int .i64 m.base,.slice d1 e1 f1] 94)).alloc (.cells #[.pointer (some ⟨p,0,none⟩),.bool false,.int .i64 m.t,.int .i64 m.v,.slice a1 b1 c1,.int .i64 m.base,.slice d1 e1 f1] 98):=⟨_,rfl⟩
  have hB34 : Below w3.heap.size w3 w4:=by rw [hw4]; exact (zB5 w3 _).alloc (by simp) _
  have hs4 : w4.heap.size = w3.heap.size + 2:=by rw [hw4]; simp
  have gq : w4.heap[w3.heap.size + 1]? = some (.cells #[.pointer (some ⟨p,0,none⟩),.bool false,.int .i64 m.t,.int .i64 m.v,.slice a1 b1 c1,.int .i64 m.base,.slice d1 e1 f1] 98 (0,0)):=by
   rw [hw4]
   have:=heap_alloc_new (w3.alloc (.cells #[.int .i64 m.t,.int .i64 m.v,.slice a1 b1 c1,.int .i64 m.base,.slice d1 e1 f1] 94)) (.cells #[.pointer (some ⟨p,0,none⟩),.bool false,.int .i64 m.t,.int .i64 m.v,.slice a1 b1 c1,.int .i64 m.base,.slice d1 e1 f1] 98)
   rwa [World.size_alloc] at this
  have hB04 : Below w.heap.size w w4:=HB03.out.trans (hB34.mono HB03.out.size)
  have hFl:=H.out.flt
  have hnq : ¬ F (w3.heap.size + 1):=fun e=>by have:=hFl _ e; have:=HB03.out.size; omega
  have HMK : Hid (∀ (w':World) (M':Md) (cnt':Nat) (F':Nat->Prop),w'.heap[w3.heap.size + 1]? = w4.heap[w3.heap.size + 1]?->(∀ k,w2.heap.size<=k/\k < w3.heap.size->w'.heap[k]? = w4.heap[k]?)->w4.heap.size<=w'.heap.size->Dsk w' p M' cnt' F'->(∀ k,F' k->F k\/w4.heap.size<=k)->WalR w' (w3.heap.size + 1) p M' cnt' F' m false):=zA0 (fun w' M' cnt' F' h1 h2 h3 h4 h5=>by
   obtain ⟨sv,ev,e,hsn,hrow⟩:=hsaid
   cases e
   have hk : ∀ k,(w2.heap.size<=k/\k < w3.heap.size)->w'.heap[k]? = w3.heap[k]?:=fun k hk=>(h2 k hk).trans (hB34.block k hk.2)
   have hnF : ∀ k,k < w4.heap.size->w.heap.size<=k->¬ F' k:=fun k hk hw e=>by
    rcases h5 k e with e | e
    · have:=hFl _ e; omega
    · omega
   have hS : ∀ k,(w2.heap.size<=k/\k < w3.heap.size)->Sw w' F' (w3.heap.size + 1) k:=fun k hk=>⟨by omega,hnF k (by omega) (by have:=HB02.out.size; omega),by omega⟩
   exact ⟨⟨_,_,h1.trans gq,(SnV.lt hsn).kept hk hS,(RowB.lt hrow).kept (by omega) hk hS⟩,h4,hnF _ (by omega) (by have:=HB03.out.size; omega),hok,by have:=HLG.out; omega⟩)
  have HWAL : Hid (WalR w4 (w3.heap.size + 1) p M cnt F m false):=zA0 (HMK.out w4 M cnt F rfl (fun _ _=>rfl) (Nat.le_refl _) (H.out.below hB04) (fun k hk=>.inl hk))
  have HB04:=zA0 hB04
  have HG34:=zA0 ((hB34.block _ (zA1 HG33.out)).trans HG33.out)
  have HGQ:=zA0 gq
  have HNQ:=zA0 hnq
  have HKL:=zA0 hkl
  have HS4:=zA0 hs4
  have HW4:=zA0 hw4
  have HB34:=zA0 hB34
  have HB24:=zA0 (HB3.out.trans (hB34.mono HB3.out.size))
  clear hrd hsaid hok hkl hbl hw4 hB34 hs4 gq hB04 hFl hnq
  go_upto_region 8 with (fail)
  rw [<- HW4.out]
  clear HW4
  by_cases hlt : k < zn
  · have HOM : Hid (opM M k = runT (wa ((cOf M.files lgN).take k)) 4 M):=zA0 (if_pos (by have:=HZL.out; omega))
    have hkc : k<=zc:=by have:=HZC.out; have:=HZL.out; omega
    have hsl:=yD6 za zn zc k (k:Int) rfl hkc
    have hltI : (k:Int) < (zn:Int):=by omega
    have hdl : ((cOf M.files lgN).take k).length = k:=by rw [List.length_take]; have:=HZL.out; omega
    have HWN:=zA0 (zH5 (w3.heap.size + 1) p cnt false _ _ _ _ _ za k zc ((cOf M.files lgN).take k) M F w4 HWAL.out.dsk HGQ.out HNQ.out hdl.symm (Bs.takeN (HZB.out.grow HB24.out) k) (fun e=>by rw [HZN.out e]; simp) (fun y hy=>⟨fun e=>by have:=H.out.flt _ e; have h1:=HZO.out y hy; have:=HB1.out.size; omega,Nat.lt_of_lt_of_le (HZBL.out y hy) HB24.out.size⟩) (by rw [hdl]; have:=HLG.out; have:=HZL.out; omega) HFW.out HC.out)
    clear hlt hdl
    go_wp2_with fail
    refine Calls.mono HWN.out ?_
    rintro e wA hdo
    obtain ⟨FF,rfl,hda,hfa⟩:=hdo.good HLF.out
    obtain ⟨MM,hMM⟩ : ∃ MM,MM = runT (wa ((cOf M.files lgN).take k)) 4 M:=⟨_,rfl⟩
    have HDA : Hid (Dsk wA p MM (cnt + 4) FF):=zA0 (by rw [hMM]; exact hda)
    replace HOM : Hid (opM M k = MM):=zA0 (by rw [hMM]; exact HOM.out)
    have HFA4:=zA0 hfa
    have HFA : Hid (∀ k,FF k->F k\/w4.heap.size<=k):=zA0 hfa.foot
    have HA4K : Hid (∀ j,j < w4.heap.size->w2.heap.size<=j->j ≠ w.heap.size->wA.heap[j]? = w4.heap[j]?):=zA0 (fun j hj h2 _=>hfa.block j hj (fun e=>by have:=H.out.flt _ e; have:=HB02.out.size; omega))
    have HFRA : Hid (Fr w wA F FF):=zA0 ((Fr.of_below HB04.out).trans hfa)
    have HG3A : Hid (wA.heap[w.heap.size]? = some (.cells Z39 39 (0,0))):=zA0 ((hfa.block _ (zA1 HG34.out) (fun e=>by have:=H.out.flt _ e; omega)).trans HG34.out)
    have HA4 : Hid (w4.heap.size<=wA.heap.size/\True):=zA0 ⟨hfa.size,trivial⟩
    have HWALA : Hid (WalR wA (w3.heap.size + 1) p MM (cnt + 4) FF m false):=zA0 (HMK.out wA MM (cnt + 4) FF (HA4K.out _ (by have:=HS4.out; omega) (by have:=HB3.out.size; omega) (by have:=HB03.out.size; omega)) (fun j hj=>HA4K.out j (by have:=HS4.out; omega) hj.1 (by have:=zA1 HG32.out; omega)) hfa.size HDA.out hfa.foot)
    have HFIN:=zA0 (yM1 (w3.heap.size + 1) p (cnt + 4) MM FF m false wA HWALA.out)
    clear hdo hda hfa hMM HWN
    go_wp2_with fail
    refine Calls.mono HFIN.out ?_
    rintro e w5 ⟨cs,rfl,hrep,hb5⟩
    have hcl : cs.toArray.size = 8:=by rw [List.size_toArray,hrep.len]; rfl
    have HCS : Hid (cs.toArray.size = Z39.size):=zA0 hcl
    have HCO : Hid (cs.toArray.all (·.oneCell') = true):=hrep.all
    have HCI : Hid ((Tryz.prog.info? 39).map (·.size) = some cs.toArray.size):=by show _ = _; rw [hcl]; exact zC1
    have HCL:=zA0 hcl
    have HG35:=zA0 ((hb5.block _ (zA1 HG3A.out)).trans HG3A.out)
    have HREP:=zA0 hrep
    have HB5:=zA0 hb5
    clear hrep hb5 hcl HFIN
    go_wp2_with (refine zA5 rfl 39 (.tmp 3) (.tmp 49) rfl w.heap.size cs.toArray rfl rfl 39 Z39 HG35.out HCI.out HCS.out.symm HCO.out ?nz)
    case nz =>
     intro w9 hw9h
     have hw9:=hw9h.out
     have g9 : Hid (w9.heap[w.heap.size]? = some (.cells cs.toArray 39 (0,0))):=zA0 (by rw [hw9]; exact setRow_heap _ _ _ _ 39 _ HG35.out)
     have k9 : ∀ j,j ≠ w.heap.size->w9.heap[j]? = w5.heap[j]?:=fun j hj=>by rw [hw9]; exact setRow_other _ _ _ _ hj
     have s9 : w9.heap.size = w5.heap.size:=by rw [hw9]; simp [World.setRow]
     have b9 : Below w.heap.size w5 w9:=by rw [hw9]; exact ⟨rfl,rfl,rfl,by simp [World.setRow],fun k hk=>setRow_other _ _ _ _ (by omega)⟩
     have h03:=HB03.out.size
     have h02:=HB02.out.size
     have h12:=zA1 HG32.out
     have hA4:=HA4.out.1
     have hs4:=HS4.out
     have h23:=HB3.out.size
     have hFA : ∀ k,FF k->F k\/w4.heap.size<=k:=HFA.out
     have hFw : ¬ FF w.heap.size:=fun e=>by
      rcases hFA _ e with e | e
      · have:=H.out.flt _ e; omega
      · omega
     have hA5 : ∀ k,k < wA.heap.size->k ≠ w.heap.size->w9.heap[k]? = wA.heap[k]?:=fun k hk hkw=>(k9 k hkw).trans (HB5.out.block k hk)
     have hD9 : Dsk w9 p MM (cnt + 4) FF:=by
      refine (HDA.out.below HB5.out).keep (fun k hk=>k9 k (fun e=>hFw (e ▸ hk))) (fun k cs t ht hj=>k9 k (fun e=>?_))
      rw [e,HG35.out] at hj
      cases hj
      revert ht; decide
     have hz5:=HB5.out.size
     have hW : WalR w9 (w3.heap.size + 1) p (opM M k) (cnt + 4) FF m false:=by
      rw [HOM.out]
      exact HMK.out w9 MM (cnt + 4) FF ((hA5 _ (by omega) (by omega)).trans (HA4K.out _ (by omega) (by omega) (by omega))) (fun j hj=>(hA5 j (by omega) (by omega)).trans (HA4K.out j (by omega) (by omega) (by omega))) (by omega) hD9 hFA
     have hR : Rep w9 (fun k=>Sw w9 FF (w3.heap.size + 1) k/\w.heap.size<=k) zB6 cs (dec m):=HREP.out.kept (by rw [s9]; exact Nat.le_refl _) (fun j hj=>k9 j (by have:=hj.1; omega)) (fun j hj=>⟨⟨by rw [s9]; exact hj.2.1,fun e=>by have:=HDA.out.flt _ e; have:=hj.1; omega,by have:=hj.1; omega⟩,by have h1:=hj.1; have h2:=HFRA.out.size; omega⟩)
     have hfr5:=HFRA.out.trans (Fr.of_below (F:=FF) HB5.out)
     have hFR : Fr w w9 F FF:=⟨b9.os.trans hfr5.os,b9.tape.trans hfr5.tape,b9.output.trans hfr5.output,Nat.le_trans hfr5.size b9.size,fun j hj hn=>(k9 j (by omega)).trans (hfr5.block j hj hn),hfr5.foot⟩
     have HFINAL : Hid (OpP2 w p cnt F M (.returned (.tuple #[.pointer (some ⟨w3.heap.size + 1,0,none⟩),.agg cs.toArray,.int .i64 0])) w9):=zA0 (HO.out _ _ ⟨w3.heap.size + 1,FF,cs,rfl,hW,hR,hFR,by omega⟩)
     clear hw9 hw9h k9 s9 b9 hW hR hFR hD9 hA5 hFw hFA
     go_wp2
     refine bodyPost_ret (v:=.tuple #[.pointer (some ⟨w3.heap.size + 1,0,none⟩),.agg cs.toArray,.int .i64 0]) ?_ rfl HFINAL.out
     exact xK2 _ _ w.heap.size _ cs.toArray 0 HCL.out rfl rfl rfl g9.out
  · have HOM : Hid (opM M k = M):=zA0 (if_neg (by have:=HZL.out; omega))
    have hltI : ¬ ((k:Int) < (zn:Int)):=by omega
    obtain ⟨wA,hwA⟩ : ∃ wA,wA = w4:=⟨_,rfl⟩
    obtain ⟨MM,hMM⟩ : ∃ MM,MM = M:=⟨_,rfl⟩
    obtain ⟨FF,hFF⟩ : ∃ FF,FF = F:=⟨_,rfl⟩
    have HDA : Hid (Dsk wA p MM (cnt + 4) FF):=zA0 (by rw [hwA,hMM,hFF]; exact HWAL.out.dsk.cnt (by omega) (by have:=HC.out; omega))
    have HFIN:=zA0 (yM1 (w3.heap.size + 1) p cnt M F m false w4 HWAL.out)
    rw [<- hwA] at HFIN
    have HG3A:=HG34
    rw [<- hwA] at HG3A
    have HA4 : Hid (Below w4.heap.size w4 wA):=zA0 (by rw [hwA]; exact Below.refl _ _)
    have HA4K : Hid (∀ j,j < w4.heap.size->w2.heap.size<=j->j ≠ w.heap.size->wA.heap[j]? = w4.heap[j]?):=zA0 (fun j _ _ _=>by rw [hwA])
    have HFA : Hid (∀ k,FF k->F k\/w4.heap.size<=k):=zA0 (fun k hk=>.inl (by rw [hFF] at hk; exact hk))
    have HFRA : Hid (Fr w wA F FF):=zA0 (by rw [hwA,hFF]; exact Fr.of_below HB04.out)
    replace HOM : Hid (opM M k = MM):=zA0 (by rw [hMM]; exact HOM.out)
    rw [<- hwA]
    clear hlt hwA hMM hFF
    go_wp2_with fail
    refine Calls.mono HFIN.out ?_
    rintro e w5 ⟨cs,rfl,hrep,hb5⟩
    have hcl : cs.toArray.size = 8:=by rw [List.size_toArray,hrep.len]; rfl
    have HCS : Hid (cs.toArray.size = Z39.size):=zA0 hcl
    have HCO : Hid (cs.toArray.all (·.oneCell') = true):=hrep.all
    have HCI : Hid ((Tryz.prog.info? 39).map (·.size) = some cs.toArray.size):=by show _ = _; rw [hcl]; exact zC1
    have HCL:=zA0 hcl
    have HG35:=zA0 ((hb5.block _ (zA1 HG3A.out)).trans HG3A.out)
    have HREP:=zA0 hrep
    have HB5:=zA0 hb5
    clear hrep hb5 hcl HFIN
    go_wp2_with (refine zA5 rfl 39 (.tmp 3) (.tmp 49) rfl w.heap.size cs.toArray rfl rfl 39 Z39 HG35.out HCI.out HCS.out.symm HCO.out ?nz)
    case nz =>
     intro w9 hw9h
     have hw9:=hw9h.out
     have g9 : Hid (w9.heap[w.heap.size]? = some (.cells cs.toArray 39 (0,0))):=zA0 (by rw [hw9]; exact setRow_heap _ _ _ _ 39 _ HG35.out)
     have k9 : ∀ j,j ≠ w.heap.size->w9.heap[j]? = w5.heap[j]?:=fun j hj=>by rw [hw9]; exact setRow_other _ _ _ _ hj
     have s9 : w9.heap.size = w5.heap.size:=by rw [hw9]; simp [World.setRow]
     have b9 : Below w.heap.size w5 w9:=by rw [hw9]; exact ⟨rfl,rfl,rfl,by simp [World.setRow],fun k hk=>setRow_other _ _ _ _ (by omega)⟩
     have h03:=HB03.out.size
     have h02:=HB02.out.size
     have h12:=zA1 HG32.out
     have hA4:=HA4.out.size
     have hs4:=HS4.out
     have h23:=HB3.out.size
     have hFA : ∀ k,FF k->F k\/w4.heap.size<=k:=HFA.out
     have hFw : ¬ FF w.heap.size:=fun e=>by
      rcases hFA _ e with e | e
      · have:=H.out.flt _ e; omega
      · omega
     have hA5 : ∀ k,k < wA.heap.size->k ≠ w.heap.size->w9.heap[k]? = wA.heap[k]?:=fun k hk hkw=>(k9 k hkw).trans (HB5.out.block k hk)
     have hD9 : Dsk w9 p MM (cnt + 4) FF:=by
      refine (HDA.out.below HB5.out).keep (fun k hk=>k9 k (fun e=>hFw (e ▸ hk))) (fun k cs t ht hj=>k9 k (fun e=>?_))
      rw [e,HG35.out] at hj
      cases hj
      revert ht; decide
     have hz5:=HB5.out.size
     have hW : WalR w9 (w3.heap.size + 1) p (opM M k) (cnt + 4) FF m false:=by
      rw [HOM.out]
      exact HMK.out w9 MM (cnt + 4) FF ((hA5 _ (by omega) (by omega)).trans (HA4K.out _ (by omega) (by omega) (by omega))) (fun j hj=>(hA5 j (by omega) (by omega)).trans (HA4K.out j (by omega) (by omega) (by omega))) (by omega) hD9 hFA
     have hR : Rep w9 (fun k=>Sw w9 FF (w3.heap.size + 1) k/\w.heap.size<=k) zB6 cs (dec m):=HREP.out.kept (by rw [s9]; exact Nat.le_refl _) (fun j hj=>k9 j (by have:=hj.1; omega)) (fun j hj=>⟨⟨by rw [s9]; exact hj.2.1,fun e=>by have:=HDA.out.flt _ e; have:=hj.1; omega,by have:=hj.1; omega⟩,by have h1:=hj.1; have h2:=HFRA.out.size; omega⟩)
     have hfr5:=HFRA.out.trans (Fr.of_below (F:=FF) HB5.out)
     have hFR : Fr w w9 F FF:=⟨b9.os.trans hfr5.os,b9.tape.trans hfr5.tape,b9.output.trans hfr5.output,Nat.le_trans hfr5.size b9.size,fun j hj hn=>(k9 j (by omega)).trans (hfr5.block j hj hn),hfr5.foot⟩
     have HFINAL : Hid (OpP2 w p cnt F M (.returned (.tuple #[.pointer (some ⟨w3.heap.size + 1,0,none⟩),.agg cs.toArray,.int .i64 0])) w9):=zA0 (HO.out _ _ ⟨w3.heap.size + 1,FF,cs,rfl,hW,hR,hFR,by omega⟩)
     clear hw9 hw9h k9 s9 b9 hW hR hFR hD9 hA5 hFw hFA
     go_wp2
     refine bodyPost_ret (v:=.tuple #[.pointer (some ⟨w3.heap.size + 1,0,none⟩),.agg cs.toArray,.int .i64 0]) ?_ rfl HFINAL.out
     exact xK2 _ _ w.heap.size _ cs.toArray 0 HCL.out rfl rfl rfl g9.out
theorem yG9 (p cnt:Nat) (M:Md) (F:Nat->Prop) (w:World) (h:Dsk w p M cnt F) (hl:M.left = -1) (hfw:Fw M.files) (hc:cnt + 5<=2199023255552) : Calls Tryz.prog 13 #[.pointer (some ⟨p,0,none⟩)] w (OpP w p cnt F M):=by
 refine (zS5 p cnt M F w h hl hfw hc).mono fun e w' ho=>?_
 unfold OpP2 at ho
 unfold OpP
 split at ho
 · exact ho
 · obtain ⟨q,F',cs,h1,h2,h3,h4⟩:=ho
   exact ⟨q,F',cs,h1,h2,h3.kept (Nat.le_refl _) (fun _ _=>rfl) (fun k hk=>hk.1),h4⟩
end
section
open Go.RowKit Go.Maps
structure Cln (M:Md) : Prop where
 left : M.left = -1
 fw : Fw M.files
 done : M.done = []
 dur : M.dur = M.files
structure Good (M:Md) (m:Sd) : Prop where
 cln : Cln M
 rd : rdF sd0 (cOf M.files lgN) = some (m,(cOf M.files lgN).length)
theorem Cln.crash {M:Md} (h:Cln M) (pick:Int) : zI6 pick M = M:=by
 obtain ⟨files,dur,done,left⟩:=M
 obtain ⟨h1,h2,h3,h4⟩:=h
 simp only at h1 h3 h4
 subst h1 h3 h4
 rfl
theorem Cln.wa {M:Md} (h:Cln M) {d:List UInt8} {m:Sd} (hd:rdF sd0 d = some (m,d.length)) : Good (runT (wa d) 4 M) m:=by
 obtain ⟨files,dur,done,left⟩:=M
 obtain ⟨h1,h2,h3,h4⟩:=h
 simp only at h1 h3 h4
 subst h1 h3 h4
 have hc : cOf (runT (Proofs.YtocoimjhglackaaGreat.wa d) 4 ⟨dur,dur,[],-1⟩).files lgN = d:=by
  show ((fup (fup (fup dur nwN (some d)) nwN none) lgN (some ((fup dur nwN (some d) nwN).getD []))) lgN).getD [] = d
  simp [fup]
 refine ⟨⟨zR3 rfl 4,Fw.runT (M:=⟨dur,dur,[],-1⟩) h2 _ 4,rfl,rfl⟩,?_⟩
 rw [hc]; exact hd
theorem Cln.ad {M:Md} (h:Cln M) {d:List UInt8} {m:Sd} (hd:rdF sd0 (cOf M.files lgN ++ d) = some (m,(cOf M.files lgN ++ d).length)) : Good (runT (ad d) 2 M) m:=by
 obtain ⟨files,dur,done,left⟩:=M
 obtain ⟨h1,h2,h3,h4⟩:=h
 simp only at h1 h3 h4 hd
 subst h1 h3 h4
 have hc : cOf (runT (Proofs.YtocoimjhglackaaGreat.ad d) 2 ⟨dur,dur,[],-1⟩).files lgN = cOf dur lgN ++ d:=by
  show ((fup dur lgN (some ((dur lgN).getD [] ++ d.take (max 1 d.length)))) lgN).getD [] = _
  rw [List.take_of_length_le (by omega)]
  simp [fup,cOf]
 refine ⟨⟨zR3 rfl 2,Fw.runT (M:=⟨dur,dur,[],-1⟩) h2 _ 2,rfl,rfl⟩,?_⟩
 rw [hc]; exact hd
theorem Cln.open {M:Md} (h:Cln M) {m:Sd} {k:Nat} (hr:rdF sd0 (cOf M.files lgN) = some (m,k)) : Good (opM M k) m:=by
 obtain ⟨h1,h2⟩:=xP6 _ _ _ _ hr
 unfold opM
 by_cases hk : k < (cOf M.files lgN).length
 · rw [if_pos hk]
   exact h.wa (by rw [h2,List.length_take]; congr 2; omega)
 · rw [if_neg hk]
   exact ⟨h,by rw [hr]; congr 2; omega⟩
theorem Good.okd {M:Md} {m:Sd} (h:Good M m) : Okd m:=xC2 _ _ _ _ okd0 h.rd
theorem Good.save {M:Md} {m:Sd} (h:Good M m) {t v:Int} {vs:List En} (ha:accS m t v vs) : Good (runT (zI7 M (moS t v vs) (nxS m t v vs)) (zI7 M (moS t v vs) (nxS m t v vs)).length M) (nxS m t v vs):=by
 unfold zI7
 split
 · exact h.cln.wa (zK1 (zK3 h.okd ha))
 · refine h.cln.ad ?_
   rw [zT0 _ _ _ _ h.rd,zI4,yS8 ha.2.1 ha.2.2 h.okd.base (by have:=zR9 ha.1 t v; exact ⟨this.1,this.2⟩),List.length_append]
   rfl
theorem cln0 : Cln M0:=⟨rfl,fun _ hk=>absurd hk (by simp [M0,fs0]),rfl,rfl⟩
theorem kE2 : Good M0 sd0:=⟨cln0,zP8 sd0⟩
theorem SvO.good {w:World} {q p cnt:Nat} {F:Nat->Prop} {m nx:Sd} {acts:List Ax} {M:Md} {e:Ending} {w':World} (h:SvO w q p cnt F m nx acts M e w') (hl:M.left = -1) : ∃ F',Fr w w' (Fq F q) (Fq F' q)/\e = .returned (.int .i64 0)/\WalR w' q p (runT acts acts.length M) (cnt + 4) F' nx false:=by
 obtain ⟨k,F',h1,h2,h3,h4⟩:=h
 rcases h4 with ⟨a,b,c⟩ | ⟨a,b,_⟩
 · subst a; exact ⟨F',h3,b,c⟩
 · rw [zR3 hl] at b; exact absurd b (by decide)
def En1 (i:Int) : En:=(i,1,yM0)
def Ec (i:Int) : List Value:=.int .i64 i :: .int .i64 1 :: zB7.toList.drop 2
theorem kF8 (w:World) (S:Nat->Prop) (i:Int) : Rep w S zA8 (Ec i) (En1 i):=⟨[.int .i64 i],_,rfl,rfl,[.int .i64 1],_,rfl,rfl,xP4 w S⟩
theorem xH9 (w:World) (i:Int) : RepL (w.alloc (.cells (Ec i).toArray 73)) (fun k=>k < (w.alloc (.cells (Ec i).toArray 73)).heap.size) zA8 (some ⟨w.heap.size,0,none⟩) [En1 i]:=by
 refine ⟨by simp,fun _=>⟨w.heap.size,0,rfl,by simp,fun j hj=>?_⟩⟩
 have : j = 0:=by simpa using hj
 subst this
 refine ⟨Ec i,kF8 _ _ i,fun j u hu=>?_⟩
 rw [cell_of_row _ w.heap.size _ _ 73 (0,0) (heap_alloc_new w _)]
 simpa using hu
def m1 : Sd:=nxS sd0 1 2 [En1 1]
theorem en1 : (en zA8 (En1 1)).2 = false:=by kernel_rfl
theorem acc1 : accS sd0 1 2 [En1 1]:=⟨fun i x hx=>by
 match i,hx with
 | 0,hx=>cases hx; exact ⟨en1,rfl,by decide,by decide⟩
 | i + 1,hx=>simp at hx,by decide,by decide⟩
theorem zN4 : m1.t = 1/\m1.v = 2/\m1.base = 0/\m1.bs.length = 1:=by
 have hne : bods [En1 1] ≠ []:=by simp [bods]
 unfold m1 nxS putB
 rw [if_neg hne]
 exact ⟨rfl,rfl,rfl,rfl⟩
theorem acc3 : ¬ accS m1 1 2 [En1 3]:=fun h=>by
 have:=h.1 0 (En1 3) rfl
 have h2:=this.2.2.2
 rw [zN4.2.2.1,zN4.2.2.2] at h2
 exact absurd h2 (by decide)
theorem kC6 : (zC9 m1).length<=1048576:=by
 have e : zC9 m1 = zC9 (moS 1 2 [En1 1]):=rfl
 rw [e,zI4]
 exact Nat.le_of_ble_eq_true (by kernel_rfl)
end
section
open Go.ChangeShapes Go.WideShapes Go.ChangeAt Go.RowKit
theorem Tryz.cells5 : Tryz.prog.cellsOf 5 = 1:=by kernel_rfl
theorem kG4 (n:Int) (h:(Lit.int .u8 n).wf = true) : 0<=n/\n<=255:=bounds_u8 h
def zG9 (zs:List Int) : List UInt8:=zs.map fun n=>UInt8.ofNat n.toNat
theorem yA2 (zs:List Int) (hw:∀ n ∈ zs,(Lit.int .u8 n).wf = true) (len j:Nat) (hj:j < len) (hl:len<=zs.length) : bat (zG9 (zs.take len)) j = zs.getD j 0:=by
 have hj2 : j < zs.length:=by omega
 have hb:=kG4 (zs[j]) (hw _ (List.getElem_mem hj2))
 simp [bat,bn,zG9,List.getD,hj,hj2]
 omega
end
end Go.Proofs.YtocoimjhglackaaGreat
