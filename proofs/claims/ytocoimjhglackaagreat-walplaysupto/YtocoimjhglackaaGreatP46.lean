/- Wkd -/
import Derived.Test.YtocoimjhglackaaGreatP45
set_option maxHeartbeats 8000000
set_option maxRecDepth 100000
namespace Go.Proofs.YtocoimjhglackaaGreat
section
open Go.RowKit Go.Maps
theorem yH5 (a : Option Addr) (cap : Nat) (vs : List De) (w : World) (hl : vs.length<=1048576) (hr : RepL w (fun k=>k < w.heap.size) zN2 a vs) (hx : ∀ i (hi : i < vs.length),OkX vs[i]) : Calls Tryz.prog 4 #[.slice a vs.length cap] w fun e w'=>e = .returned (.bool true)/\Below w.heap.size w w':=by
 obtain ⟨n,hn⟩ : ∃ n,n = vs.length:=⟨_,rfl⟩
 rw [<- hn]
 have hnb : (n : Int)<=1048576:=by omega
 have HN:=zA0 hn
 have HL:=zA0 hl
 have HR:=zA0 hr
 have HX:=zA0 hx
 clear hn hl hr hx
 go_enter Tryz.func4,Tryz.ntmps4
 go_wp2_with fail
 refine (xP7 w).mono ?_
 rintro e w1 ⟨F1,rfl,hd1,hf1,hB1⟩
 have HD1:=zA0 hd1
 have HF1:=zA0 hf1
 have HB1:=zA0 hB1
 clear hd1 hf1 hB1
 obtain ⟨p,hp⟩ : ∃ p,p = w.heap.size + 1 + 1:=⟨_,rfl⟩
 rw [<- hp] at HD1 ⊢
 clear hp
 go_wp2_with fail
 refine (yG9 p 0 M0 F1 w1 HD1.out rfl cln0.fw (by omega)).mono ?_
 intro e w2 ho
 have e0 : rdF sd0 (cOf M0.files lgN) = some (sd0,0):=zS2 sd0
 unfold OpP at ho
 rw [e0] at ho
 simp only at ho
 obtain ⟨q,F2,c0,rfl,hw2,hr2,hfr2,hq2⟩:=ho
 have eM : opM M0 0 = M0:=rfl
 rw [eM] at hw2
 have h08 : c0.length = 8:=hr2.len
 have H08:=zA0 h08
 have H0A : Hid (c0.toArray.all (·.oneCell') = true):=hr2.all
 have HNEW:=zA0 (fun (w3 : World) (h3 : w3 = (w2.alloc (.cells Z39 39)).setRow w2.heap.size c0.toArray)=>Lw.new HB1.out HF1.out hw2 hr2 hfr2 hq2 h3)
 clear hw2 hr2 hfr2 hq2 e0 eM h08
 obtain ⟨b5,hb5⟩ : ∃ b5,b5 = w2.heap.size:=⟨_,rfl⟩
 go_wp2_with (refine zA7 rfl 39 (.tmp 5) (.tmp 19) rfl w2.heap.size c0.toArray rfl rfl 39 Z39 (heap_alloc_new w2 (.cells Z39 39)) (by rw [z8 H08.out]; exact zC6) (by rw [z8 H08.out]; rfl) H0A.out ?nz)
 case nz =>
  intro w3 hw3h
  have HLW0:=zA0 (HNEW.out w3 hw3h.out)
  rw [<- hb5] at HLW0 ⊢
  clear hw3h hb5 HNEW HD1 HF1 HB1
  go_wp2
  go_loopw [4,6,7] (fun wv ev i wr=>∃ (k q : Nat) (M : Md) (F : Nat->Prop) (m : Sd) (cs : List Value),k<=n/\i = .int .i64 (k : Int)/\wv = .pointer (some ⟨q,0,none⟩)/\Hid (Lw w wr q p b5 M (4 + 8 * k) F m cs)) (fun _ _ i _=>n - (intOf i).toNat)
  case atStart=>exact ⟨0,q,M0,F2,sd0,c0,Nat.zero_le _,rfl,rfl,HLW0⟩
  case round =>
   obtain ⟨k,q,M,F,m,cs,hk,rfl,rfl,HLW⟩:=hrel
   by_cases hlt : k < n
   · have hkl : k < vs.length:=by rw [<- HN.out]; exact hlt
     obtain ⟨b1,o1,es,rfl,hsb,hre,hrg⟩:=xG0 HR.out hkl
     have hxk:=HX.out k hkl
     obtain ⟨x,hxe⟩ : ∃ x,x = vs[k]:=⟨_,rfl⟩
     rw [<- hxe] at hre hxk
     have LB1:=zA0 hsb
     have HRE:=zA0 hre
     have HXK:=zA0 hxk
     have HRG : Hid (wr.rangeAt b1 (o1 + k * 14) es):=zA0 (zA9 hrg (HLW.out.bel.block b1 hsb))
     obtain ⟨cr,hcr⟩ : ∃ cr,cr = x.2.2.1:=⟨_,rfl⟩
     obtain ⟨pk,hpk⟩ : ∃ pk,pk = x.2.2.2.2.2.1:=⟨_,rfl⟩
     have HDEED : Hid (∀ W,Below w.heap.size w W->W.cell? ⟨b1,o1 + k * 14 + 2,none⟩ = some (.bool cr)/\W.cell? ⟨b1,o1 + k * 14 + 5,none⟩ = some (.int .i64 pk)):=zA0 (fun W hW=>by
      obtain ⟨ea,ec,s0,s1,s2,s3,s4,hds,_,_⟩:=yL0 hre
      have hg:=zA9 hrg (hW.block b1 hsb)
      exact ⟨hg 2 _ (by rw [hds,hcr]; rfl),hg 5 _ (by rw [hds,hpk]; rfl)⟩)
     have HEI:=zA0 (xV9 hre.len)
     have HCI : Hid ((Tryz.prog.info? 39).map (·.size) = some cs.length):=zA0 (by rw [HLW.out.lenS]; exact zC6)
     have HLWD:=zA0 (HLW.out.below (Below.refl _ wr).drew)
     have HDO:=zA0 (yU7 (Rb wr.drew F q b5) q p (4 + 8 * k) M F m cs es x wr.drew HLWD.out.wal (fun _ h=>h.1) HLWD.out.rep (HLWD.out.inp hre) hxk HLW.out.good.cln.fw (by omega))
     clear hre hrg hsb hxk hxe hcr hpk hkl
     go_wp2
     refine yM2 (fun wz : World=>wz.rangeAt b5 0 cs/\wz.rangeAt b1 (o1 + k * 14) es) 12 (by kernel_rfl) ?_
     have hHeld : (fun wz : World=>wz.rangeAt b5 0 cs/\wz.rangeAt b1 (o1 + k * 14) es) _:=⟨zH2 (show wr.drew.heap[b5]? = _ from HLW.out.blk),HRG.out⟩
     refine tkMq 0 rfl (.pointer (some ⟨q,0,none⟩)) (by kernel_rfl) rfl (fun _ _ _=>id) (fun _=>hHeld) (by intro w; go_simp) ?_
     try simp only [aPa,aPc,aPd]
     refine tkMy 1 rfl (.agg cs.toArray) (by kernel_rfl) (fun _ _ _=>id) hHeld (yieldsIf_load_mid (by rfl) 39 (.tmp 5) rfl b5 0 rfl cs _ (fun _ h=>h.1) Tryz.underlying39 rfl HCI.out) ?_
     try simp only [aPa,aPc,aPd]
     refine tkMq 2 rfl (.slice (some ⟨b1,o1,none⟩) n cap) (by kernel_rfl) rfl (fun _ _ _=>id) (fun _=>hHeld) (by intro w; go_simp) ?_
     try simp only [aPa,aPc,aPd]
     refine tkMq 3 rfl (.int .i64 (k : Int)) (by kernel_rfl) rfl (fun _ _ _=>id) (fun _=>hHeld) (by intro w; go_simp) ?_
     try simp only [aPa,aPc,aPd]
     refine tkMq 4 rfl (.pointer (some ⟨b1,o1 + k * 14,none⟩)) (by kernel_rfl) rfl (fun _ _ _=>id) (fun _=>hHeld) (by intro wz; go_simp; all_goals (first | done | (intro hh; exfalso; omega))) ?_
     try simp only [aPa,aPc,aPd]
     refine tkMy 5 rfl (.agg es.toArray) (by kernel_rfl) (fun _ _ _=>id) hHeld (yieldsIf_load_mid (by rfl) 54 (.tmp 38) rfl b1 (o1 + k * 14) rfl es _ (fun _ h=>h.2) Tryz.underlying54 rfl HEI.out) ?_
     try simp only [aPa,aPc,aPd]
     refine tkM2 (i:=6) (j:=11) (by kernel_rfl) rfl rfl rfl rfl (fun K hK=>?_) (fun K hK=>?_)
     · go_simp
       refine Calls.mono HDO.out ?_
       intro e w2 hdp
       obtain ⟨c2,m2,M2,F3,y2,rfl,hst⟩:=HLWD.out.step hdp
       have HST:=zA0 hst
       have H28 : Hid (c2.length = 8):=zA0 hst.rep.len
       have H2A : Hid (c2.toArray.all (·.oneCell') = true):=hst.rep.all
       have s2 : (fun wz : World=>wz.rangeAt b5 0 cs/\wz.rangeAt b1 (o1 + k * 14) es) w2:=⟨zA9 hHeld.1 hst.bk,zA9 hHeld.2 ((hst.bel.block b1 LB1.out).trans (HLW.out.bel.block b1 LB1.out).symm)⟩
       clear hdp hst
       refine hK.out _ _ (fun _=>s2) ?_
       clear hK K
       try simp only [aPa,aPb,aPc,aPd]
       clear hHeld
       have hHeld:=s2
       refine tkMq 7 rfl (.tuple #[.agg c2.toArray,.int .i64 y2,.int .i64 y2]) (by kernel_rfl) rfl (fun _ _ _=>id) (fun _=>hHeld) (by intro w; go_simp) ?_
       try simp only [aPa,aPc,aPd]
       refine tkMq 8 rfl (.agg c2.toArray) (by kernel_rfl) rfl (fun _ _ _=>id) (fun _=>hHeld) (by intro w; go_simp) ?_
       try simp only [aPa,aPc,aPd]
       refine tkMq 9 rfl (.int .i64 y2) (by kernel_rfl) rfl (fun _ _ _=>id) (fun _=>hHeld) (by intro w; go_simp) ?_
       try simp only [aPa,aPc,aPd]
       refine tkMq 10 rfl (.int .i64 y2) (by kernel_rfl) rfl (fun _ _ _=>id) (fun _=>hHeld) (by intro w; go_simp) ?_
       try simp only [aPa,aPc,aPd]
       refine tkMc 11 rfl (by kernel_rfl) rfl (fun K hK=>?_)
       go_simp
       obtain ⟨w2a,hw2a⟩ : ∃ w2a,w2a = w2.alloc (.cells Z39 39):=⟨_,rfl⟩
       obtain ⟨b8,hb8⟩ : ∃ b8,b8 = w2.heap.size:=⟨_,rfl⟩
       have hw2z:=hw2a
       unfold Z39 at hw2z
       rw [<- hw2z,<- hb8]
       have HB2a : Hid (Below w2.heap.size w2 w2a):=zA0 (by rw [hw2a]; exact zB6 w2 _)
       have G8z : Hid (w2a.heap[b8]? = some (.cells Z39 39 (0,0))):=zA0 (by rw [hw2a,hb8]; exact heap_alloc_new w2 _)
       have HB8:=zA0 hb8
       have s3 : (fun wz : World=>wz.rangeAt b5 0 cs/\wz.rangeAt b1 (o1 + k * 14) es) w2a:=⟨zA9 s2.1 (HB2a.out.block b5 (by have:=zA1 HLW.out.blk; have h2 : wr.heap.size<=w2.heap.size:=HST.out.fr.size; omega)),zA9 s2.2 (HB2a.out.block b1 (by have:=LB1.out; have:=HST.out.bel.size; omega))⟩
       clear hw2a hw2z hb8 hHeld
       refine hK.out _ _ (fun _=>s3) ?_
       have hHeld:=s3
       clear hK K
       try simp only [aPa,aPb,aPc,aPd]
       refine tkMc 12 rfl (by kernel_rfl) rfl (fun K hK=>?_)
       refine wp_store_row 39 (.tmp 8) (.tmp 41) rfl b8 c2.toArray rfl rfl 39 Z39 G8z.out (by rw [z8 H28.out]; exact zC6) (by rw [z8 H28.out]; rfl) H2A.out ?_
       refine hK.out _ _ (fun h=>absurd h (of_decide_eq_false (by kernel_rfl))) ?_
       clear hK K
       try simp only [aPb]
       refine tkMq 13 rfl (.int .i64 y2) (by kernel_rfl) rfl (fun _ _ _=>id) (fun h=>absurd h (of_decide_eq_false (by kernel_rfl))) (by intro w; go_simp) ?_
       try simp only [aPa,aPc,aPd]
       refine tkMq 14 rfl (.int .i64 y2) (by kernel_rfl) rfl (fun _ _ _=>id) (fun h=>absurd h (of_decide_eq_false (by kernel_rfl))) (by intro w; go_simp) ?_
       try simp only [aPa,aPc,aPd]
       refine zV6 (by kernel_rfl) ?_ _
       obtain ⟨w3,hw3⟩ : ∃ w3,w3 = w2a.setRow b8 c2.toArray:=⟨_,rfl⟩
       rw [<- hw3]
       have hB23 : Below w2.heap.size w2 w3:=HB2a.out.trans (by rw [hw3]; exact ⟨rfl,rfl,rfl,by simp [World.setRow],fun k hk=>setRow_other _ _ _ _ (by have:=HB8.out; omega)⟩)
       have G83 : Hid (w3.heap[b8]? = some (.cells c2.toArray 39 (0,0))):=zA0 (by rw [hw3]; exact setRow_heap _ _ _ _ 39 _ G8z.out)
       have HLP : Hid (∀ w4,w4 = w3.setRow b5 c2.toArray->Lw w w4 q p b5 M2 (4 + 8 * k + 4) F3 m2 c2):=zA0 (fun w4 h4=>by rw [h4]; exact HST.out.lw HLWD.out hB23)
       have G53 : Hid (w3.heap[b5]? = some (.cells cs.toArray 39 (0,0))):=zA0 ((hB23.block b5 (by have:=zA1 HLW.out.blk; have h2 : wr.heap.size<=w2.heap.size:=HST.out.fr.size; omega)).trans (HST.out.bk.trans HLWD.out.blk))
       clear hw3 hB23
       have l8:=zA1 G83.out
       clear l8
       go_wp2_with (first
        | (refine wpList_load_row rfl 39 (.tmp 8) rfl b8 rfl 39 c2.toArray (0,0) _ G83.out Tryz.underlying39 rfl (by rw [z8 H28.out]; exact zC6) ?_)
        | (refine zA7 rfl 39 (.tmp 5) (.tmp 47) rfl b5 c2.toArray rfl rfl 39 cs.toArray G53.out (by rw [z8 H28.out]; exact zC6) (by rw [z8 H28.out,z8 HLW.out.lenS]) H2A.out ?nx))
       case nx =>
        intro w4 hw4h
        have HL4:=zA0 (HLP.out w4 hw4h.out)
        clear hw4h HLP G53 G83
        go_wp2
        refine wp_region_held_drew (S:=fun wz : World=>wz.rangeAt b5 0 c2) (by kernel_rfl) (zH2 (show w4.drew.heap[b5]? = _ from HL4.out.blk)) (fun hHeld=>?_)
        refine tkHp 0 rfl (.pointer (some ⟨q,0,none⟩)) (by kernel_rfl) rfl (fun _ _ _=>id) hHeld (by intro w; go_simp) ?_
        try simp only [aPa,aPc,aPd]
        refine tkHy 2 rfl (.agg c2.toArray) (by kernel_rfl) (fun _ _ _=>id) hHeld (yieldsIf_load_mid (by rfl) 39 (.tmp 5) rfl b5 0 rfl c2 _ (fun _ h=>h) Tryz.underlying39 rfl (by rw [H28.out]; exact zC6)) ?_
        try simp only [aPa,aPc,aPd]
        refine tkHc 1 rfl (by kernel_rfl) rfl (fun K hK=>?_)
        go_simp
        refine Calls.mono (zR7 q p (4 + 8 * k + 4) M2 F3 m2 false w4.drew (HL4.out.wal.below (Below.refl _ _).drew)) ?_
        rintro e w5 ⟨c5,rfl,hr5,hB5x⟩
        have HB45 : Hid (Below w4.heap.size w4 w5):=zA0 ⟨hB5x.os,hB5x.tape,hB5x.output,hB5x.size,hB5x.block⟩
        have HSM:=zA0 (zK1 c5 c2 m2 w5 (hr5.kept (Nat.le_refl _) (fun _ _=>rfl) (fun k hk=>hk.2.1)) ((HL4.out.below HB45.out).rep.kept (Nat.le_refl _) (fun _ _=>rfl) (fun k hk=>hk.1.1)) HL4.out.wal.okd (by have:=HL4.out.wal.len; omega))
        have s5 : (fun wz : World=>wz.rangeAt b5 0 c2) w5:=zA9 (zH2 HL4.out.blk) (HB45.out.block b5 (zA1 HL4.out.blk))
        clear hr5 hB5x
        refine hK.out _ _ s5 (fun hHeld1=>?_)
        clear hK K
        try simp only [aPa,aPb,aPc,aPd]
        refine tkHc 3 rfl (by kernel_rfl) rfl (fun K hK=>?_)
        go_simp
        refine Calls.mono HSM.out ?_
        rintro e w6 ⟨rfl,hB6⟩
        have HB46:=zA0 (HB45.out.trans (hB6.mono HB45.out.size))
        have s6 : (fun wz : World=>wz.rangeAt b5 0 c2) w6:=zA9 (zH2 HL4.out.blk) (HB46.out.block b5 (zA1 HL4.out.blk))
        clear hB6 HSM
        refine hK.out _ _ s6 (fun hHeld2=>?_)
        clear hK K
        try simp only [aPa,aPb,aPc,aPd]
        refine tkHp 4 rfl (.bool true) (by kernel_rfl) rfl (fun _ _ _=>id) hHeld2 (by intro w; go_simp) ?_
        try simp only [aPa,aPc,aPd]
        refine wpAnyH_done (by kernel_rfl) ?_ _
        have HL6:=zA0 (HL4.out.below HB46.out)
        have HDC:=zA0 (HDEED.out w6 HL6.out.bel)
        have d2:=HDC.out.1
        have d5:=HDC.out.2
        have lb6 : b1 < w6.heap.size:=Nat.lt_of_lt_of_le LB1.out HL6.out.bel.size
        have D5:=zA0 d5
        clear d5 HL4 HB46 HB45 s5 s6 hHeld1 hHeld2 hHeld
        cases hcr : cr with
        | false =>
         subst hcr
         go_wp2
         exact ⟨⟨k + 1,q,M2,F3,m2,c2,by omega,by go_num,rfl,zA0 (HL6.out.cnt (by omega) (by omega))⟩,by simp [intOf]; omega⟩
        | true =>
         subst hcr
         have d5:=D5.out
         go_wp2_with fail
         refine (yG3 pk p (4 + 8 * k + 4) M2 F3 w6 HL6.out.wal.dsk (by omega)).mono ?_
         rintro e w7 ⟨F7,rfl,hd7,hfr7⟩
         rw [HL6.out.good.cln.crash] at hd7
         have HD7:=zA0 hd7
         have HFR7:=zA0 hfr7
         clear hd7 hfr7 d2 d5 lb6
         obtain ⟨w8,hw8⟩ : ∃ w8,w8 = w7.alloc (.cells Z39 39):=⟨_,rfl⟩
         obtain ⟨b12,hb12⟩ : ∃ b12,b12 = w7.heap.size:=⟨_,rfl⟩
         have HB78 : Hid (Below w7.heap.size w7 w8):=zA0 (by rw [hw8]; exact zB6 w7 _)
         have G12 : Hid (w8.heap[b12]? = some (.cells Z39 39 (0,0))):=zA0 (by rw [hw8,hb12]; exact heap_alloc_new w7 _)
         have HB12:=zA0 hb12
         have hw8z:=hw8
         unfold Z39 at hw8z
         go_upto_region 18 with (fail)
         rw [<- hw8z,<- hb12]
         clear hw8 hw8z hb12
         go_wp2_with fail
         refine (zZ9 p (4 + 8 * k + 4) M2 F7 w8 (HD7.out.below HB78.out) HL6.out.good.cln.left HL6.out.good.cln.fw (by omega)).mono ?_
         intro e w9 ho
         unfold OpP2 at ho
         rw [HL6.out.good.rd] at ho
         simp only at ho
         obtain ⟨q9,F9,c9,rfl,hw9,hr9,hfr9,hq9⟩:=ho
         rw [xC8 HL6.out.good] at hw9
         have h98 : c9.length = 8:=hr9.len
         have H98:=zA0 h98
         have H9A : Hid (c9.toArray.all (·.oneCell') = true):=hr9.all
         have HL9:=zA0 (HL6.out.reopen (HFR7.out.trans (Fr.of_below HB78.out)) hfr9 hw9 hq9)
         have nF12 : ¬ F7 b12:=fun e=>by have:=HD7.out.flt _ e; have:=HB12.out; omega
         have G129 : Hid (w9.heap[b12]? = some (.cells Z39 39 (0,0))):=zA0 ((hfr9.block b12 (zA1 G12.out) nF12).trans G12.out)
         have NF9 : Hid (¬ F9 b12/\b12 ≠ q9/\b12 ≠ b5):=zA0 ⟨hfr9.notF (zA1 G12.out) nF12,by have:=zA1 G12.out; omega,by have:=zA1 HL6.out.blk; have:=HFR7.out.size; have:=HB12.out; omega⟩
         have HR9 : Hid (Rep w9 (fun k=>k < w9.heap.size/\k ≠ b12) zC0 c9 (dec m2)):=zA0 (hr9.kept (Nat.le_refl _) (fun _ _=>rfl) (fun k hk=>⟨hk.1.1,by have h1 : w8.heap.size<=k:=hk.2; have:=zA1 G12.out; omega⟩))
         have HC9 : Hid (Rep w9 (fun k=>Rb w9 F9 q9 b5 k/\k ≠ b12) zC0 c2 (dec m2)):=zA0 (HL6.out.rep.kept (Nat.le_trans HFR7.out.size (Nat.le_trans HB78.out.size hfr9.size)) (fun k hk=>((hfr9.block k (Nat.lt_of_lt_of_le (Nat.lt_of_lt_of_le hk.1.1 HFR7.out.size) HB78.out.size) (HFR7.out.notF hk.1.1 hk.1.2.1)).trans (HB78.out.block k (Nat.lt_of_lt_of_le hk.1.1 HFR7.out.size))).trans (HFR7.out.block k hk.1.1 hk.1.2.1)) (fun k hk=>by
          have h1 : k < w7.heap.size:=Nat.lt_of_lt_of_le hk.1.1 HFR7.out.size
          have h2 : k < w8.heap.size:=Nat.lt_of_lt_of_le h1 HB78.out.size
          exact ⟨⟨⟨Nat.lt_of_lt_of_le h2 hfr9.size,hfr9.notF h2 (HFR7.out.notF hk.1.1 hk.1.2.1),by omega⟩,hk.2⟩,by have:=HB12.out; omega⟩))
         have LB12 : Hid (w.heap.size<=b12):=zA0 (by have:=HL6.out.bel.size; have:=HFR7.out.size; have:=HB12.out; omega)
         clear hw9 hr9 hfr9 hq9 h98 nF12 HD7 HFR7 HB78 G12
         go_wp2_with (refine zA7 rfl 39 (.tmp 12) (.tmp 71) rfl b12 c9.toArray rfl rfl 39 Z39 G129.out (by rw [z8 H98.out]; exact zC6) (by rw [z8 H98.out]; rfl) H9A.out ?nw)
         case nw =>
          intro wA hwAh
          have hkA : ∀ j,j ≠ b12->wA.heap[j]? = w9.heap[j]?:=fun j hj=>by rw [hwAh.out]; exact setRow_other _ _ _ _ hj
          have hsA : wA.heap.size = w9.heap.size:=by rw [hwAh.out]; simp [World.setRow]
          have GA : Hid (wA.heap[b12]? = some (.cells c9.toArray 39 (0,0))):=zA0 (by rw [hwAh.out]; exact setRow_heap _ _ _ _ 39 _ G129.out)
          have hBA : Below w.heap.size w9 wA:=by rw [hwAh.out]; exact ⟨rfl,rfl,rfl,by simp [World.setRow],fun k hk=>setRow_other _ _ _ _ (by have:=LB12.out; omega)⟩
          have HLA : Hid (Lw w wA q9 p b5 M2 (4 + 8 * (k + 1)) F9 m2 c2):=zA0 ⟨by rw [hwAh.out]; exact (HL9.out.wal.row G129.out (by decide) NF9.out.1 NF9.out.2.1 _),HL9.out.good,(hkA b5 (Ne.symm NF9.out.2.2)).trans HL9.out.blk,HC9.out.kept (by rw [hsA]; exact Nat.le_refl _) (fun j hj=>hkA j hj.2) (fun j hj=>⟨⟨by rw [hsA]; exact hj.1.1.1,hj.1.1.2⟩,hj.1.2⟩),HL9.out.nb,HL9.out.bel.trans hBA,HL9.out.fa,HL9.out.qa,HL9.out.ba⟩
          have HSN:=zA0 (zK1 c9 c2 m2 wA (HR9.out.kept (by rw [hsA]; exact Nat.le_refl _) (fun j hj=>hkA j hj.2) (fun j hj=>by rw [hsA]; exact hj.1)) (HLA.out.rep.kept (Nat.le_refl _) (fun _ _=>rfl) (fun j hj=>hj.1.1)) HLA.out.wal.okd (by have:=HLA.out.wal.len; omega))
          clear hwAh hkA hsA hBA HR9 HC9 HL9 G129
          go_wp2_with (first
           | (refine wpList_load_row rfl 39 (.tmp 12) rfl b12 rfl 39 c9.toArray (0,0) _ GA.out Tryz.underlying39 rfl (by rw [z8 H98.out]; exact zC6) ?_)
           | (refine wpList_load_row rfl 39 (.tmp 5) rfl b5 rfl 39 c2.toArray (0,0) _ HLA.out.blk Tryz.underlying39 rfl (by rw [z8 H28.out]; exact zC6) ?_))
          refine Calls.mono HSN.out ?_
          rintro e wB ⟨rfl,hBB⟩
          have HLB:=zA0 (HLA.out.below hBB)
          clear hBB HSN HLA GA
          go_wp2
          exact ⟨⟨k + 1,q9,M2,F9,m2,c2,by omega,by go_num,rfl,HLB⟩,by simp [intOf]; omega⟩
     · go_simp
       obtain ⟨wa,hwa⟩ : ∃ wa,wa = (wr.alloc (.cells Z39 39)).drew:=⟨_,rfl⟩
       obtain ⟨b8,hb8⟩ : ∃ b8,b8 = wr.heap.size:=⟨_,rfl⟩
       have hwz:=hwa
       unfold Z39 at hwz
       rw [<- hwz,<- hb8]
       have HBa : Hid (Below wr.heap.size wr wa):=zA0 (by rw [hwa]; exact (zB6 wr _).drew)
       have G8a : Hid (wa.heap[b8]? = some (.cells Z39 39 (0,0))):=zA0 (by rw [hwa,hb8]; exact heap_alloc_new wr _)
       have HB8:=zA0 hb8
       have HLWA:=zA0 (HLW.out.below HBa.out)
       have sa : (fun wz : World=>wz.rangeAt b5 0 cs/\wz.rangeAt b1 (o1 + k * 14) es) wa:=⟨zA9 hHeld.1 (HBa.out.block b5 (zA1 HLW.out.blk)),zA9 hHeld.2 (HBa.out.block b1 (by have:=LB1.out; have:=HLW.out.bel.size; omega))⟩
       have HDA:=zA0 (yU7 (fun k=>Rb wa F q b5 k/\k ≠ b8) q p (4 + 8 * k) M F m cs es x wa HLWA.out.wal (fun _ h=>h.1.1) (HLW.out.rep.kept HBa.out.size (fun k hk=>HBa.out.block k hk.1.1) (fun k hk=>⟨⟨⟨Nat.lt_of_lt_of_le hk.1.1 HBa.out.size,hk.1.2⟩,hk.2⟩,by have:=hk.1.1; have:=HB8.out; omega⟩)) (HRE.out.kept HLWA.out.bel.size (fun k hk=>HLWA.out.bel.block k hk) (fun k hk=>⟨⟨⟨Nat.lt_of_lt_of_le hk HLWA.out.bel.size,fun e=>by have:=HLW.out.fa k e; omega,by have:=HLW.out.qa; omega⟩,by have:=HLW.out.ba; omega⟩,by have:=HB8.out; have:=HLW.out.bel.size; omega⟩)) HXK.out HLW.out.good.cln.fw (by omega))
       clear hwa hwz hb8
       refine hK.out _ _ (fun _=>sa) ?_
       clear hK K
       try simp only [aPa,aPb,aPc,aPd]
       clear hHeld
       have hHeld:=sa
       refine tkMc 6 rfl (by kernel_rfl) rfl (fun K hK=>?_)
       go_simp
       refine Calls.mono HDA.out ?_
       intro e w2 hdp
       obtain ⟨c2,m2,M2,F3,y2,rfl,hst⟩:=HLWA.out.stepR (fun _ hk=>hk.1.2) hdp
       have HST:=zA0 hst
       have H28 : Hid (c2.length = 8):=zA0 hst.rep.len
       have H2A : Hid (c2.toArray.all (·.oneCell') = true):=hst.rep.all
       have s2 : (fun wz : World=>wz.rangeAt b5 0 cs/\wz.rangeAt b1 (o1 + k * 14) es) w2:=⟨zA9 hHeld.1 hst.bk,zA9 hHeld.2 ((hst.bel.block b1 LB1.out).trans (HLWA.out.bel.block b1 LB1.out).symm)⟩
       have nF8 : ¬ Fq F q b8:=fun e=>by rcases e with e | e; have:=HLW.out.wal.dsk.flt _ e; have:=HB8.out; omega; have:=HLW.out.wal.lq; have:=HB8.out; omega
       have G8z : Hid (w2.heap[b8]? = some (.cells Z39 39 (0,0))):=zA0 ((hst.fr.block b8 (zA1 G8a.out) nF8).trans G8a.out)
       have NF8 : Hid (¬ F3 b8):=zA0 (fun e=>hst.fr.notF (zA1 G8a.out) nF8 (.inl e))
       clear hdp hst nF8
       refine hK.out _ _ (fun _=>s2) ?_
       clear hHeld
       have hHeld:=s2
       clear hK K
       try simp only [aPa,aPb,aPc,aPd]
       refine tkMq 7 rfl (.tuple #[.agg c2.toArray,.int .i64 y2,.int .i64 y2]) (by kernel_rfl) rfl (fun _ _ _=>id) (fun _=>hHeld) (by intro w; go_simp) ?_
       try simp only [aPa,aPc,aPd]
       refine tkMq 8 rfl (.agg c2.toArray) (by kernel_rfl) rfl (fun _ _ _=>id) (fun _=>hHeld) (by intro w; go_simp) ?_
       try simp only [aPa,aPc,aPd]
       refine tkMq 9 rfl (.int .i64 y2) (by kernel_rfl) rfl (fun _ _ _=>id) (fun _=>hHeld) (by intro w; go_simp) ?_
       try simp only [aPa,aPc,aPd]
       refine tkMq 10 rfl (.int .i64 y2) (by kernel_rfl) rfl (fun _ _ _=>id) (fun _=>hHeld) (by intro w; go_simp) ?_
       try simp only [aPa,aPc,aPd]
       refine tkMc 12 rfl (by kernel_rfl) rfl (fun K hK=>?_)
       refine wp_store_row 39 (.tmp 8) (.tmp 41) rfl b8 c2.toArray rfl rfl 39 Z39 G8z.out (by rw [z8 H28.out]; exact zC6) (by rw [z8 H28.out]; rfl) H2A.out ?_
       refine hK.out _ _ (fun h=>absurd h (of_decide_eq_false (by kernel_rfl))) ?_
       clear hK K
       try simp only [aPb]
       refine tkMq 13 rfl (.int .i64 y2) (by kernel_rfl) rfl (fun _ _ _=>id) (fun h=>absurd h (of_decide_eq_false (by kernel_rfl))) (by intro w; go_simp) ?_
       try simp only [aPa,aPc,aPd]
       refine tkMq 14 rfl (.int .i64 y2) (by kernel_rfl) rfl (fun _ _ _=>id) (fun h=>absurd h (of_decide_eq_false (by kernel_rfl))) (by intro w; go_simp) ?_
       try simp only [aPa,aPc,aPd]
       refine zV6 (by kernel_rfl) ?_ _
       obtain ⟨w3,hw3⟩ : ∃ w3,w3 = w2.setRow b8 c2.toArray:=⟨_,rfl⟩
       rw [<- hw3]
       have hk3 : ∀ j,j ≠ b8->w3.heap[j]? = w2.heap[j]?:=fun j hj=>by rw [hw3]; exact setRow_other _ _ _ _ hj
       have hs3 : w3.heap.size = w2.heap.size:=by rw [hw3]; simp [World.setRow]
       have hb85 : b5 ≠ b8:=by have:=zA1 HLW.out.blk; have:=HB8.out; omega
       have hq8 : b8 ≠ q:=by have:=HLW.out.wal.lq; have:=HB8.out; omega
       have G83 : Hid (w3.heap[b8]? = some (.cells c2.toArray 39 (0,0))):=zA0 (by rw [hw3]; exact setRow_heap _ _ _ _ 39 _ G8z.out)
       have G53 : Hid (w3.heap[b5]? = some (.cells cs.toArray 39 (0,0))):=zA0 ((hk3 b5 hb85).trans (HST.out.bk.trans HLWA.out.blk))
       have hB3 : Below w.heap.size w w3:=HST.out.bel.trans (by rw [hw3]; exact ⟨rfl,rfl,rfl,by simp [World.setRow],fun k hk=>setRow_other _ _ _ _ (by have:=HB8.out; have:=HLW.out.bel.size; omega)⟩)
       have hr3 : Rep w3 (Rb w3 F3 q b5) zC0 c2 (dec m2):=HST.out.rep2.kept (by rw [hs3]; exact Nat.le_refl _) (fun j hj=>hk3 j (by
        rcases hj.1 with h1 | h1
        · exact h1.2
        · have:=zA1 G8a.out; omega)) (fun j hj=>⟨⟨by rw [hs3]; exact hj.2.1,hj.2.2⟩,by
        rcases hj.1 with h1 | h1
        · exact h1.1.2
        · have:=zA1 HLWA.out.blk; omega⟩)
       have HLP : Hid (∀ w4,w4 = w3.setRow b5 c2.toArray->Lw w w4 q p b5 M2 (4 + 8 * k + 4) F3 m2 c2):=zA0 (fun w4 h4=>Lw.put (by rw [hw3]; exact HST.out.wal.row G8z.out (by decide) NF8.out hq8 _) HST.out.good G53.out hr3 ⟨HST.out.nb,HLW.out.nb.2⟩ hB3 HST.out.fa HLW.out.qa HLW.out.ba h4)
       clear hw3 hk3 hs3 hb85 hq8 hB3 hr3
       have l8:=zA1 G83.out
       clear l8
       go_wp2_with (first
        | (refine wpList_load_row rfl 39 (.tmp 8) rfl b8 rfl 39 c2.toArray (0,0) _ G83.out Tryz.underlying39 rfl (by rw [z8 H28.out]; exact zC6) ?_)
        | (refine zA7 rfl 39 (.tmp 5) (.tmp 47) rfl b5 c2.toArray rfl rfl 39 cs.toArray G53.out (by rw [z8 H28.out]; exact zC6) (by rw [z8 H28.out,z8 HLW.out.lenS]) H2A.out ?nx))
       case nx =>
        intro w4 hw4h
        have HL4:=zA0 (HLP.out w4 hw4h.out)
        clear hw4h HLP G53 G83
        go_wp2
        refine wp_region_held_drew (S:=fun wz : World=>wz.rangeAt b5 0 c2) (by kernel_rfl) (zH2 (show w4.drew.heap[b5]? = _ from HL4.out.blk)) (fun hHeld=>?_)
        refine tkHp 0 rfl (.pointer (some ⟨q,0,none⟩)) (by kernel_rfl) rfl (fun _ _ _=>id) hHeld (by intro w; go_simp) ?_
        try simp only [aPa,aPc,aPd]
        refine tkHy 2 rfl (.agg c2.toArray) (by kernel_rfl) (fun _ _ _=>id) hHeld (yieldsIf_load_mid (by rfl) 39 (.tmp 5) rfl b5 0 rfl c2 _ (fun _ h=>h) Tryz.underlying39 rfl (by rw [H28.out]; exact zC6)) ?_
        try simp only [aPa,aPc,aPd]
        refine tkHc 1 rfl (by kernel_rfl) rfl (fun K hK=>?_)
        go_simp
        refine Calls.mono (zR7 q p (4 + 8 * k + 4) M2 F3 m2 false w4.drew (HL4.out.wal.below (Below.refl _ _).drew)) ?_
        rintro e w5 ⟨c5,rfl,hr5,hB5x⟩
        have HB45 : Hid (Below w4.heap.size w4 w5):=zA0 ⟨hB5x.os,hB5x.tape,hB5x.output,hB5x.size,hB5x.block⟩
        have HSM:=zA0 (zK1 c5 c2 m2 w5 (hr5.kept (Nat.le_refl _) (fun _ _=>rfl) (fun k hk=>hk.2.1)) ((HL4.out.below HB45.out).rep.kept (Nat.le_refl _) (fun _ _=>rfl) (fun k hk=>hk.1.1)) HL4.out.wal.okd (by have:=HL4.out.wal.len; omega))
        have s5 : (fun wz : World=>wz.rangeAt b5 0 c2) w5:=zA9 (zH2 HL4.out.blk) (HB45.out.block b5 (zA1 HL4.out.blk))
        clear hr5 hB5x
        refine hK.out _ _ s5 (fun hHeld1=>?_)
        clear hK K
        try simp only [aPa,aPb,aPc,aPd]
        refine tkHc 3 rfl (by kernel_rfl) rfl (fun K hK=>?_)
        go_simp
        refine Calls.mono HSM.out ?_
        rintro e w6 ⟨rfl,hB6⟩
        have HB46:=zA0 (HB45.out.trans (hB6.mono HB45.out.size))
        have s6 : (fun wz : World=>wz.rangeAt b5 0 c2) w6:=zA9 (zH2 HL4.out.blk) (HB46.out.block b5 (zA1 HL4.out.blk))
        clear hB6 HSM
        refine hK.out _ _ s6 (fun hHeld2=>?_)
        clear hK K
        try simp only [aPa,aPb,aPc,aPd]
        refine tkHp 4 rfl (.bool true) (by kernel_rfl) rfl (fun _ _ _=>id) hHeld2 (by intro w; go_simp) ?_
        try simp only [aPa,aPc,aPd]
        refine wpAnyH_done (by kernel_rfl) ?_ _
        have HL6:=zA0 (HL4.out.below HB46.out)
        have HDC:=zA0 (HDEED.out w6 HL6.out.bel)
        have d2:=HDC.out.1
        have d5:=HDC.out.2
        have lb6 : b1 < w6.heap.size:=Nat.lt_of_lt_of_le LB1.out HL6.out.bel.size
        have D5:=zA0 d5
        clear d5 HL4 HB46 HB45 s5 s6 hHeld1 hHeld2 hHeld
        cases hcr : cr with
        | false =>
         subst hcr
         go_wp2
         exact ⟨⟨k + 1,q,M2,F3,m2,c2,by omega,by go_num,rfl,zA0 (HL6.out.cnt (by omega) (by omega))⟩,by simp [intOf]; omega⟩
        | true =>
         subst hcr
         have d5:=D5.out
         go_wp2_with fail
         refine (yG3 pk p (4 + 8 * k + 4) M2 F3 w6 HL6.out.wal.dsk (by omega)).mono ?_
         rintro e w7 ⟨F7,rfl,hd7,hfr7⟩
         rw [HL6.out.good.cln.crash] at hd7
         have HD7:=zA0 hd7
         have HFR7:=zA0 hfr7
         clear hd7 hfr7 d2 d5 lb6
         obtain ⟨w8,hw8⟩ : ∃ w8,w8 = w7.alloc (.cells Z39 39):=⟨_,rfl⟩
         obtain ⟨b12,hb12⟩ : ∃ b12,b12 = w7.heap.size:=⟨_,rfl⟩
         have HB78 : Hid (Below w7.heap.size w7 w8):=zA0 (by rw [hw8]; exact zB6 w7 _)
         have G12 : Hid (w8.heap[b12]? = some (.cells Z39 39 (0,0))):=zA0 (by rw [hw8,hb12]; exact heap_alloc_new w7 _)
         have HB12:=zA0 hb12
         have hw8z:=hw8
         unfold Z39 at hw8z
         go_upto_region 18 with (fail)
         rw [<- hw8z,<- hb12]
         clear hw8 hw8z hb12
         go_wp2_with fail
         refine (zZ9 p (4 + 8 * k + 4) M2 F7 w8 (HD7.out.below HB78.out) HL6.out.good.cln.left HL6.out.good.cln.fw (by omega)).mono ?_
         intro e w9 ho
         unfold OpP2 at ho
         rw [HL6.out.good.rd] at ho
         simp only at ho
         obtain ⟨q9,F9,c9,rfl,hw9,hr9,hfr9,hq9⟩:=ho
         rw [xC8 HL6.out.good] at hw9
         have h98 : c9.length = 8:=hr9.len
         have H98:=zA0 h98
         have H9A : Hid (c9.toArray.all (·.oneCell') = true):=hr9.all
         have HL9:=zA0 (HL6.out.reopen (HFR7.out.trans (Fr.of_below HB78.out)) hfr9 hw9 hq9)
         have nF12 : ¬ F7 b12:=fun e=>by have:=HD7.out.flt _ e; have:=HB12.out; omega
         have G129 : Hid (w9.heap[b12]? = some (.cells Z39 39 (0,0))):=zA0 ((hfr9.block b12 (zA1 G12.out) nF12).trans G12.out)
         have NF9 : Hid (¬ F9 b12/\b12 ≠ q9/\b12 ≠ b5):=zA0 ⟨hfr9.notF (zA1 G12.out) nF12,by have:=zA1 G12.out; omega,by have:=zA1 HL6.out.blk; have:=HFR7.out.size; have:=HB12.out; omega⟩
         have HR9 : Hid (Rep w9 (fun k=>k < w9.heap.size/\k ≠ b12) zC0 c9 (dec m2)):=zA0 (hr9.kept (Nat.le_refl _) (fun _ _=>rfl) (fun k hk=>⟨hk.1.1,by have h1 : w8.heap.size<=k:=hk.2; have:=zA1 G12.out; omega⟩))
         have HC9 : Hid (Rep w9 (fun k=>Rb w9 F9 q9 b5 k/\k ≠ b12) zC0 c2 (dec m2)):=zA0 (HL6.out.rep.kept (Nat.le_trans HFR7.out.size (Nat.le_trans HB78.out.size hfr9.size)) (fun k hk=>((hfr9.block k (Nat.lt_of_lt_of_le (Nat.lt_of_lt_of_le hk.1.1 HFR7.out.size) HB78.out.size) (HFR7.out.notF hk.1.1 hk.1.2.1)).trans (HB78.out.block k (Nat.lt_of_lt_of_le hk.1.1 HFR7.out.size))).trans (HFR7.out.block k hk.1.1 hk.1.2.1)) (fun k hk=>by
          have h1 : k < w7.heap.size:=Nat.lt_of_lt_of_le hk.1.1 HFR7.out.size
          have h2 : k < w8.heap.size:=Nat.lt_of_lt_of_le h1 HB78.out.size
          exact ⟨⟨⟨Nat.lt_of_lt_of_le h2 hfr9.size,hfr9.notF h2 (HFR7.out.notF hk.1.1 hk.1.2.1),by omega⟩,hk.2⟩,by have:=HB12.out; omega⟩))
         have LB12 : Hid (w.heap.size<=b12):=zA0 (by have:=HL6.out.bel.size; have:=HFR7.out.size; have:=HB12.out; omega)
         clear hw9 hr9 hfr9 hq9 h98 nF12 HD7 HFR7 HB78 G12
         go_wp2_with (refine zA7 rfl 39 (.tmp 12) (.tmp 71) rfl b12 c9.toArray rfl rfl 39 Z39 G129.out (by rw [z8 H98.out]; exact zC6) (by rw [z8 H98.out]; rfl) H9A.out ?nw)
         case nw =>
          intro wA hwAh
          have hkA : ∀ j,j ≠ b12->wA.heap[j]? = w9.heap[j]?:=fun j hj=>by rw [hwAh.out]; exact setRow_other _ _ _ _ hj
          have hsA : wA.heap.size = w9.heap.size:=by rw [hwAh.out]; simp [World.setRow]
          have GA : Hid (wA.heap[b12]? = some (.cells c9.toArray 39 (0,0))):=zA0 (by rw [hwAh.out]; exact setRow_heap _ _ _ _ 39 _ G129.out)
          have hBA : Below w.heap.size w9 wA:=by rw [hwAh.out]; exact ⟨rfl,rfl,rfl,by simp [World.setRow],fun k hk=>setRow_other _ _ _ _ (by have:=LB12.out; omega)⟩
          have HLA : Hid (Lw w wA q9 p b5 M2 (4 + 8 * (k + 1)) F9 m2 c2):=zA0 ⟨by rw [hwAh.out]; exact (HL9.out.wal.row G129.out (by decide) NF9.out.1 NF9.out.2.1 _),HL9.out.good,(hkA b5 (Ne.symm NF9.out.2.2)).trans HL9.out.blk,HC9.out.kept (by rw [hsA]; exact Nat.le_refl _) (fun j hj=>hkA j hj.2) (fun j hj=>⟨⟨by rw [hsA]; exact hj.1.1.1,hj.1.1.2⟩,hj.1.2⟩),HL9.out.nb,HL9.out.bel.trans hBA,HL9.out.fa,HL9.out.qa,HL9.out.ba⟩
          have HSN:=zA0 (zK1 c9 c2 m2 wA (HR9.out.kept (by rw [hsA]; exact Nat.le_refl _) (fun j hj=>hkA j hj.2) (fun j hj=>by rw [hsA]; exact hj.1)) (HLA.out.rep.kept (Nat.le_refl _) (fun _ _=>rfl) (fun j hj=>hj.1.1)) HLA.out.wal.okd (by have:=HLA.out.wal.len; omega))
          clear hwAh hkA hsA hBA HR9 HC9 HL9 G129
          go_wp2_with (first
           | (refine wpList_load_row rfl 39 (.tmp 12) rfl b12 rfl 39 c9.toArray (0,0) _ GA.out Tryz.underlying39 rfl (by rw [z8 H98.out]; exact zC6) ?_)
           | (refine wpList_load_row rfl 39 (.tmp 5) rfl b5 rfl 39 c2.toArray (0,0) _ HLA.out.blk Tryz.underlying39 rfl (by rw [z8 H28.out]; exact zC6) ?_))
          refine Calls.mono HSN.out ?_
          rintro e wB ⟨rfl,hBB⟩
          have HLB:=zA0 (HLA.out.below hBB)
          clear hBB HSN HLA GA
          go_wp2
          exact ⟨⟨k + 1,q9,M2,F9,m2,c2,by omega,by go_num,rfl,HLB⟩,by simp [intOf]; omega⟩
   · have HBR:=zA0 HLW.out.bel
     clear HLW
     go_wp2_with fail
     refine (xE0 wr).mono ?_
     rintro e w9 ⟨rfl,hB9⟩
     have HB9:=zA0 (HBR.out.trans (hB9.mono HBR.out.size))
     clear hB9
     go_wp2
     go_ret
     exact ⟨rfl,HB9.out⟩
end
end Go.Proofs.YtocoimjhglackaaGreat
