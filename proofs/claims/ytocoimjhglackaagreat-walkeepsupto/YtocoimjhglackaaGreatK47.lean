/- Wld -/
import Derived.Test.YtocoimjhglackaaGreatK46
import Derived.Deep.DeepCutAuto
set_option maxHeartbeats 8000000
set_option maxRecDepth 100000
namespace Go.Proofs.YtocoimjhglackaaGreat
section
open Go.RowKit Go.Maps
def Z54 : Array Value:=#[.bool false,.bool false,.bool false,.bool false,.int .i64 0,.int .i64 0,.int .i64 0,.int .i64 0,.slice none 0 0,.int .i64 0,.int .i64 0,.slice none 0 0,.slice none 0 0,.slice none 0 0]
theorem z14 {es:List Value} (h:es.length = wd zK6) : Z54.size = es.toArray.size:=by rw [show es.toArray.size = es.length from List.size_toArray,h]; rfl
theorem yY0 {w:World} {S:Nat->Prop} {es:List Value} {x:De} (h:Rep w S zK6 es x) : ∃ ea ec,(∀ (W:World) (b:Nat),W.heap[b]? = some (.cells es.toArray 54 (0,0))->W.cell? ⟨b,0,none⟩ = some (.bool x.1)/\W.cell? ⟨b,2,none⟩ = some (.bool x.2.2.1)/\W.cell? ⟨b,3,none⟩ = some (.bool x.2.2.2.1)/\W.cell? ⟨b,4,none⟩ = some (.int .i64 x.2.2.2.2.1)/\W.cell? ⟨b,5,none⟩ = some (.int .i64 x.2.2.2.2.2.1)/\W.cell? ⟨b,6,none⟩ = some (.int .i64 (dT x))/\W.cell? ⟨b,7,none⟩ = some (.int .i64 (dV x))/\W.cell? ⟨b,8,none⟩ = some (.slice ea (dEs x).length ec))/\RepL w S zA8 ea (dEs x):=by
 obtain ⟨ea,ec,s0,s1,s2,s3,s4,hds,h1,_⟩:=yL2 h
 refine ⟨ea,ec,fun W b g=>?_,h1⟩
 rw [hds] at g
 exact ⟨cor g rfl,cor g rfl,cor g rfl,cor g rfl,cor g rfl,cor g rfl,cor g rfl,cor g rfl⟩
theorem yH4 (a:Option Addr) (cap:Nat) (vs:List De) (w:World) (hl:vs.length<=1048576) (hr:RepL w (fun k=>k < w.heap.size) zK6 a vs) (hx:∀ i (hi:i < vs.length),OkX vs[i]) : Calls Tryz.prog 5 #[.slice a vs.length cap] w fun e w'=>e = .returned (.bool true)/\Below w.heap.size w w':=by
 obtain ⟨n,hn⟩ : ∃ n,n = vs.length:=⟨_,rfl⟩
 rw [<- hn]
 have hnb : (n:Int)<=1048576:=by omega
 have HN:=zA0 hn
 have HL:=zA0 hl
 have HR:=zA0 hr
 have HX:=zA0 hx
 clear hn hl hr hx
 go_enter Tryz.func5,Tryz.ntmps5
 go_wp2_with fail
 refine (xQ0 w).mono ?_
 rintro e w1 ⟨F1,rfl,hd1,hf1,hB1⟩
 have HD1:=zA0 hd1
 have HF1:=zA0 hf1
 have HB1:=zA0 hB1
 clear hd1 hf1 hB1
 obtain ⟨p,hp⟩ : ∃ p,p = w.heap.size + 1 + 1:=⟨_,rfl⟩
 rw [<- hp] at HD1 ⊢
 clear hp
 go_wp2_with fail
 refine (yG9 p 0 M0 F1 w1 HD1.out rfl cln0.fw (by omega)).mono ?_
 intro e w2 ho
 have e0 : rdF sd0 (cOf M0.files lgN) = some (sd0,0):=zP8 sd0
 unfold OpP at ho
 rw [e0] at ho
 simp only at ho
 obtain ⟨q,F2,c0,rfl,hw2,hr2,hfr2,hq2⟩:=ho
 have eM : opM M0 0 = M0:=rfl
 rw [eM] at hw2
 have h08 : c0.length = 8:=hr2.len
 have H08:=zA0 h08
 have H0A : Hid (c0.toArray.all (·.oneCell') = true):=hr2.all
 have HNEW:=zA0 (fun (w3:World) (h3:w3 = (w2.alloc (.cells Z39 39)).setRow w2.heap.size c0.toArray)=>Lw.new HB1.out HF1.out hw2 hr2 hfr2 hq2 h3)
 clear hw2 hr2 hfr2 hq2 e0 eM h08
 obtain ⟨b5,hb5⟩ : ∃ b5,b5 = w2.heap.size:=⟨_,rfl⟩
 go_wp2_with (refine zA5 rfl 39 (.tmp 5) (.tmp 22) rfl w2.heap.size c0.toArray rfl rfl 39 Z39 (heap_alloc_new w2 (.cells Z39 39)) (by rw [z8 H08.out]; exact zC1) (by rw [z8 H08.out]; rfl) H0A.out ?nz)
 case nz =>
  intro w3 hw3h
  have HLW0:=zA0 (HNEW.out w3 hw3h.out)
  rw [<- hb5] at HLW0 ⊢
  clear hw3h hb5 HNEW HD1 HF1 HB1
  go_wp2
  go_loopw [4,6,7] (fun wv ev i wr=>∃ (k q:Nat) (M:Md) (F:Nat->Prop) (m:Sd) (cs:List Value),k<=n/\i = .int .i64 (k:Int)/\wv = .pointer (some ⟨q,0,none⟩)/\Hid (Lk w wr q p b5 M (4 + 8 * k) F m cs)) (fun _ _ i _=>n - (intOf i).toNat)
  case atStart=>exact ⟨0,q,M0,F2,sd0,c0,Nat.zero_le _,rfl,rfl,zA0 HLW0.out.lk⟩
  case round =>
   obtain ⟨k,q,M,F,m,cs,hk,rfl,rfl,HLK⟩:=hrel
   by_cases hlt : k < n
   · have hkl : k < vs.length:=by rw [<- HN.out]; exact hlt
     obtain ⟨b1,o1,es,rfl,hsb,hre,hrg⟩:=xG2 HR.out hkl
     have hxk:=HX.out k hkl
     obtain ⟨x,hxe⟩ : ∃ x,x = vs[k]:=⟨_,rfl⟩
     rw [<- hxe] at hre hxk
     have LB1:=zA0 hsb
     have HRE:=zA0 hre
     have HXK:=zA0 hxk
     have HRG : Hid (wr.rangeAt b1 (o1 + k * 14) es):=zA0 (zB1 hrg (HLK.out.bel.block b1 hsb))
     have HEI:=zA0 (xW2 hre.len)
     have HE14:=zA0 hre.len
     have HEA : Hid (es.toArray.all (·.oneCell') = true):=hre.all
     obtain ⟨ea,ec,hdc,hrle⟩:=yY0 hre
     have HDC:=zA0 hdc
     have HRLE:=zA0 hrle
     obtain ⟨snap,hsnap⟩ : ∃ z,z = x.1:=⟨_,rfl⟩
     obtain ⟨cra,hcra⟩ : ∃ z,z = x.2.2.1:=⟨_,rfl⟩
     obtain ⟨cut,hcut0⟩ : ∃ z,z = x.2.2.2.1:=⟨_,rfl⟩
     obtain ⟨cn,hcn⟩ : ∃ z,z = x.2.2.2.2.1:=⟨_,rfl⟩
     obtain ⟨pk,hpk⟩ : ∃ z,z = x.2.2.2.2.2.1:=⟨_,rfl⟩
     obtain ⟨t,ht⟩ : ∃ z,z = dT x:=⟨_,rfl⟩
     obtain ⟨v,hv⟩ : ∃ z,z = dV x:=⟨_,rfl⟩
     obtain ⟨vl,hvl⟩ : ∃ z,z = (dEs x).length:=⟨_,rfl⟩
     rw [<- hsnap,<- hcra,<- hcut0,<- hcn,<- hpk,<- ht,<- hv,<- hvl] at HDC
     have HSNAP:=zA0 hsnap
     have HT:=zA0 ht
     have HV:=zA0 hv
     have HVL:=zA0 hvl
     have hvb : (vl:Int)<=1048576:=by have h1 : (dEs x).length<=1048576:=hxk.len; omega
     clear hre hrg hsb hxk hxe hkl hdc hrle hsnap hcra hcut0 hcn hpk ht hv hvl
     obtain ⟨b8,hb8⟩ : ∃ b8,b8 = wr.heap.size:=⟨_,rfl⟩
     go_wp2_with (first
      | (refine wpList_load_mid rfl 54 (.tmp 38) rfl b1 (o1 + k * 14) rfl es _ HRG.out Tryz.underlying54 rfl HEI.out ?_)
      | (refine zA5 rfl 54 (.tmp 8) (.tmp 39) rfl wr.heap.size es.toArray rfl rfl 54 Z54 (heap_alloc_new wr (.cells Z54 54)) (by rw [List.size_toArray]; exact HEI.out) (z14 HE14.out) HEA.out ?ny))
     case ny =>
      intro w1 hw1h
      have hB1 : Below wr.heap.size wr w1:=by rw [hw1h.out]; exact (zB5 wr _).trans ⟨rfl,rfl,rfl,by simp [World.setRow],fun k hk=>setRow_other _ _ _ _ (by omega)⟩
      have G81 : Hid (w1.heap[b8]? = some (.cells es.toArray 54 (0,0))):=zA0 (by rw [hw1h.out,hb8]; exact setRow_heap _ _ _ _ 54 _ (heap_alloc_new wr _))
      have HL1:=zA0 (HLK.out.below hB1)
      have HB8 : Hid (b5 < b8/\q < b8/\w.heap.size<=b8/\∀ k,F k->k < b8):=zA0 (by rw [hb8]; exact ⟨zA1 HLK.out.blk,HLK.out.wal.lq,HLK.out.bel.size,HLK.out.wal.dsk.flt⟩)
      have NF8 : Hid (¬ F b8):=zA0 (fun e=>by have:=HB8.out.2.2.2 _ e; omega)
      rw [<- hb8]
      clear hw1h hB1 hb8 HLK HRG
      obtain ⟨d0,d2,d3,d4,d5,d6,d7,d8⟩:=HDC.out w1 b8 G81.out
      have l8:=zA1 G81.out
      go_upto_if 41 with (fail)
      go_cut [] (fun wx=>∃ M1,Hid (Lk w wx q p b5 M1 (4 + 8 * k) F m cs)/\Hid (wx.heap[b8]? = some (.cells es.toArray 54 (0,0))))
      case first =>
       cases cut with
       | false =>
        go_wp2
        go_meet
        case rel=>exact ⟨M,HL1,G81⟩
       | true =>
        by_cases hcnn : 0<=cn/\cn<=1099511627776
        · have HCN:=zA0 hcnn
          clear hcnn
          go_wp2_with fail
          refine (kE9 cn p (4 + 8 * k) M F w1 HL1.out.wal.dsk HCN.out).mono ?_
          rintro e w2 ⟨rfl,hd2,hf2⟩
          have HL2:=zA0 (HL1.out.cut cn hd2 hf2)
          have G82 : Hid (w2.heap[b8]? = some (.cells es.toArray 54 (0,0))):=zA0 ((hf2.block b8 (zA1 G81.out) NF8.out).trans G81.out)
          clear hd2 hf2
          go_wp2
          go_meet
          case rel=>exact ⟨_,HL2,G82⟩
        · have HCN : Hid (cn < 0\/1099511627776 < cn):=zA0 (by rcases Int.lt_or_le cn 0 with h | h; exact .inl h; exact .inr (Int.not_le.1 (fun h2=>hcnn ⟨h,h2⟩)))
          clear hcnn
          go_wp2_with fail
          refine (kF1 p cn w1 HCN.out).mono ?_
          rintro e w2 ⟨rfl,rfl⟩
          go_wp2
          go_meet
          case rel=>exact ⟨_,HL1,G81⟩
      case rest =>
       obtain ⟨M1,HL2,G82⟩:=hcut
       have HCI : Hid ((Tryz.prog.info? 39).map (·.size) = some cs.toArray.size):=zA0 (by rw [z8 HL2.out.lenS]; exact zC1)
       have HDO:=zA0 (xN7 (Rb wc F q b5) q p (4 + 8 * k) M1 F m cs es x wc HL2.out.wal (fun _ h=>h.1) HL2.out.rep (HL2.out.inp HRE.out) HXK.out HL2.out.good.fw (by omega))
       clear d0 d2 d3 d4 d5 d6 d7 d8 l8 HL1 G81
       go_wp2_with (first
        | (refine wpList_load_row rfl 39 (.tmp 5) rfl b5 rfl 39 cs.toArray (0,0) _ HL2.out.blk Tryz.underlying39 rfl HCI.out ?_)
        | (refine wpList_load_row rfl 54 (.tmp 8) rfl b8 rfl 54 es.toArray (0,0) _ G82.out Tryz.underlying54 rfl (by rw [List.size_toArray]; exact HEI.out) ?_))
       refine Calls.mono HDO.out ?_
       intro e w2 hdp
       obtain ⟨c2,s2,F2x,want,got,rfl,hdn⟩:=HL2.out.does hdp
       have HDN:=zA0 hdn
       have H28 : Hid (c2.length = 8):=zA0 hdn.rep.len
       have H2A : Hid (c2.toArray.all (·.oneCell') = true):=hdn.rep.all
       have nq8 : ¬ Fq F q b8:=fun e=>by rcases e with e | e; exact NF8.out e; have:=HB8.out.2.1; omega
       have G8w : Hid (w2.heap[b8]? = some (.cells es.toArray 54 (0,0))):=zA0 ((hdn.fr.block b8 (zA1 G82.out) nq8).trans G82.out)
       have hcases : (want = 0/\got = 0/\∃ M2,WalR w2 q p M2 (4 + 8 * k + 4) F2x s2 false/\Gdd M2 s2)\/(want = 1/\got = 1/\WalR w2 q p M1 (4 + 8 * k + 4) F2x m false)\/(want = 0/\got = 11/\accD m x/\s2 = nxD m x/\∃ M2,WalR w2 q p M2 (4 + 8 * k + 4) F2x m true/\∀ pick,Left pick M2 (xS2 m x)):=by
        rcases hdn.dsr with ⟨a1,a2,a3,a4⟩ | ⟨a0,a1,a2,a3,a4⟩ | ⟨a0,a1,a2,a3,k',a4,a5,a6⟩
        · exact .inl ⟨a1,a2,M1,by rw [a3]; exact a4,by rw [a3]; exact HL2.out.good⟩
        · exact .inr (.inl ⟨a1,a2,a4⟩)
        · rcases a6 with ⟨b1,b2,b3⟩ | ⟨b1,b2,b3,b4⟩
          · exact .inl ⟨a1,b2,_,b3,by rw [a2,b1]; exact HL2.out.good.deed a0⟩
          · exact .inr (.inr ⟨a1,b3,a0,a2,_,b4,fun pick=>HL2.out.good.part pick a0 k' b1⟩)
       have HOLD:=zA0 HL2.out
       have N82 : Hid (¬ F2x b8):=zA0 (fun e=>hdn.fr.notF (zA1 G82.out) nq8 (.inl e))
       clear hdp hdn nq8 HDO
       obtain ⟨b9,hb9⟩ : ∃ b9,b9 = w2.heap.size:=⟨_,rfl⟩
       have HB9 : Hid (b9 = w2.heap.size):=zA0 hb9
       rcases hcases with ⟨rfl,rfl,M2,hw2,hg2⟩ | ⟨rfl,rfl,hw2⟩ | ⟨rfl,rfl,hacc,hs2,M2,hw2,hleft⟩
       · have HW2:=zA0 hw2
         have HG2:=zA0 hg2
         clear hw2 hg2
         go_wp2_with (refine zA5 rfl 39 (.tmp 9) (.tmp 51) rfl w2.heap.size c2.toArray rfl rfl 39 Z39 (heap_alloc_new w2 (.cells Z39 39)) (by rw [z8 H28.out]; exact zC1) (by rw [z8 H28.out]; rfl) H2A.out ?nz1)
         case nz1 =>
          intro w3 hw3h
          have HB23 : Hid (Below w2.heap.size w2 w3):=zA0 (by rw [hw3h.out]; exact (zB5 w2 _).trans ⟨rfl,rfl,rfl,by simp [World.setRow],fun k hk=>setRow_other _ _ _ _ (by omega)⟩)
          have G93 : Hid (w3.heap[b9]? = some (.cells c2.toArray 39 (0,0))):=zA0 (by rw [hw3h.out,hb9]; exact setRow_heap _ _ _ _ 39 _ (heap_alloc_new w2 _))
          have G53 : Hid (w3.heap[b5]? = some (.cells cs.toArray 39 (0,0))):=zA0 ((HB23.out.block b5 (by have:=zA1 HOLD.out.blk; have:=HDN.out.fr.size; omega)).trans (HDN.out.bk.trans HOLD.out.blk))
          have G83 : Hid (w3.heap[b8]? = some (.cells es.toArray 54 (0,0))):=zA0 ((HB23.out.block b8 (zA1 G8w.out)).trans G8w.out)
          rw [<- hb9]
          clear hw3h hb9 HL2
          go_wp2_with (first
           | (refine wpList_load_row rfl 39 (.tmp 9) rfl b9 rfl 39 c2.toArray (0,0) _ G93.out Tryz.underlying39 rfl (by rw [z8 H28.out]; exact zC1) ?_)
           | (refine zA5 rfl 39 (.tmp 5) (.tmp 60) rfl b5 c2.toArray rfl rfl 39 cs.toArray G53.out (by rw [z8 H28.out]; exact zC1) (by rw [z8 H28.out,z8 HOLD.out.lenS]) H2A.out ?nz2))
          case nz2 =>
           intro w4 hw4h
           have G84 : Hid (w4.heap[b8]? = some (.cells es.toArray 54 (0,0))):=zA0 (by rw [hw4h.out]; exact (setRow_other _ _ _ _ (by have:=HB8.out.1; omega)).trans G83.out)
           have HL4 : Hid (Lk w w4 q p b5 M2 (4 + 8 * k + 4) F2x s2 c2):=zA0 (by
            have hB : Below w.heap.size w3 w4:=by rw [hw4h.out]; exact ⟨rfl,rfl,rfl,by simp [World.setRow],fun k hk=>setRow_other _ _ _ _ (by have:=HOLD.out.ba; omega)⟩
            refine ⟨by rw [hw4h.out]; exact (HW2.out.below HB23.out).row G53.out (by decide) HDN.out.nb HOLD.out.nb.2 _,HG2.out,by rw [hw4h.out]; exact setRow_heap _ _ _ _ 39 _ G53.out,?_,⟨HDN.out.nb,HOLD.out.nb.2⟩,(HDN.out.bel.trans (HB23.out.mono HDN.out.bel.size)).trans hB,HDN.out.fa,HOLD.out.qa,HOLD.out.ba⟩
            exact HDN.out.rep.kept (Nat.le_trans HB23.out.size hB.size) (fun k hk=>by rw [hw4h.out]; exact (setRow_other _ _ _ _ hk.2).trans (HB23.out.block k hk.1.1)) (fun k hk=>⟨⟨Nat.lt_of_lt_of_le hk.1.1 (Nat.le_trans HB23.out.size hB.size),hk.1.2⟩,hk.2⟩))
           have G9 : Hid (w4.heap[b9]? = some (.cells c2.toArray 39 (0,0))):=zA0 (by rw [hw4h.out]; exact (setRow_other _ _ _ _ (by have:=zA1 HOLD.out.blk; have:=HDN.out.fr.size; have:=HB9.out; omega)).trans G93.out)
           have R9 : Hid (Rep w4 (fun k=>k < w4.heap.size/\¬ F2x k) zB6 c2 (dec s2)):=zA0 (HL4.out.rep.kept (Nat.le_refl _) (fun _ _=>rfl) (fun j hj=>⟨hj.1.1,hj.1.2.1⟩))
           have N9 : Hid (¬ F2x b9):=zA0 (fun e=>by have:=HW2.out.dsk.flt _ e; have:=HB9.out; omega)
           clear hw4h G53 G83 G93 HB23 HW2 HG2
           obtain ⟨d0,d2,d3,d4,d5,d6,d7,d8⟩:=HDC.out w4 b8 G84.out
           have l8:=zA1 G84.out
           clear d0 d3 d4 d6 d7 d8
           cases cra with
           | false =>
            go_wp2
            go_roundw
            case rel=>exact ⟨k + 1,q,M2,F2x,s2,c2,by omega,by go_num,rfl,zA0 (HL4.out.cnt (by omega) (by omega))⟩
            case measure=>simp [intOf]; omega
           | true =>
            have HPRE : Hid (Pre w w4 q p b5 b9 M2 (4 + 8 * k + 4) F2x s2 s2 c2 c2):=zA0 ⟨HL4.out.wal.dsk,HL4.out.blk,HL4.out.rep.kept (Nat.le_refl _) (fun _ _=>rfl) (fun j hj=>⟨hj.1.1,hj.1.2.1⟩),G9.out,R9.out,⟨HL4.out.wal.okd,by have:=HL4.out.wal.len; omega⟩,⟨HDN.out.okd,by have:=HDN.out.len; omega⟩,HL4.out.nb.1,N9.out,HL4.out.bel,HL4.out.fa,HL4.out.ba⟩
            go_wp2_with fail
            refine (zV9 pk p (4 + 8 * k + 4) M2 F2x w4 HL4.out.wal.dsk (by omega)).mono ?_
            rintro e w7 ⟨F7,rfl,hd7,hfr7⟩
            have HGC:=zA0 (HL4.out.good.crash pk)
            obtain ⟨M7,hM7⟩ : ∃ M7,M7 = zI6 pk M2:=⟨_,rfl⟩
            rw [<- hM7] at HGC hd7
            have HD7:=zA0 hd7
            have HFR7:=zA0 hfr7
            clear hd7 hfr7 d2 d5 l8 hM7
            obtain ⟨k7,hk7⟩ : ∃ k7,k7 = (cOf M7.files lgN).length:=⟨_,rfl⟩
            have HRD7 : Hid (rdF sd0 (cOf M7.files lgN) = some (s2,k7)):=zA0 (by rw [hk7]; exact HGC.out.rd)
            have HG9 : Hid (Good (opM M7 k7) s2):=zA0 (by rw [hk7,xC9 HGC.out]; exact HGC.out)
            clear hk7
            obtain ⟨w8,hw8⟩ : ∃ w8,w8 = w7.alloc (.cells Z39 39):=⟨_,rfl⟩
            obtain ⟨b12,hb12⟩ : ∃ b12,b12 = w7.heap.size:=⟨_,rfl⟩
            have HB78 : Hid (Below w7.heap.size w7 w8):=zA0 (by rw [hw8]; exact zB5 w7 _)
            have G12 : Hid (w8.heap[b12]? = some (.cells Z39 39 (0,0))):=zA0 (by rw [hw8,hb12]; exact heap_alloc_new w7 _)
            have HB12:=zA0 hb12
            have hw8z:=hw8
            unfold Z39 at hw8z
            go_upto_region 19 with (fail)
            rw [<- hw8z,<- hb12]
            clear hw8 hw8z hb12
            go_wp2_with fail
            refine (zS5 p (4 + 8 * k + 4) M7 F7 w8 (HD7.out.below HB78.out) HGC.out.cln.left HGC.out.cln.fw (by omega)).mono ?_
            intro e w9 ho
            unfold OpP2 at ho
            rw [HRD7.out] at ho
            simp only at ho
            obtain ⟨q9,F9,c9,rfl,hw9,hr9,hfr9,hq9⟩:=ho
            have H98 : Hid (c9.length = 8):=zA0 hr9.len
            have H9A : Hid (c9.toArray.all (·.oneCell') = true):=hr9.all
            have G129 : Hid (w9.heap[b12]? = some (.cells Z39 39 (0,0))):=zA0 ((hfr9.block b12 (zA1 G12.out) (fun e=>by have:=HD7.out.flt _ e; have:=HB12.out; omega)).trans G12.out)
            obtain ⟨M9,hM9⟩ : ∃ M9,M9 = opM M7 k7:=⟨_,rfl⟩
            rw [<- hM9] at hw9 HG9
            have HTRI : Hid (∀ wA,wA = w9.setRow b12 c9.toArray->Tri w wA q9 p b5 b9 b12 M9 (4 + 8 * k + 4 + 4) F9 s2 s2 s2 c2 c2 c9):=zA0 (fun wA hA=>by rw [HB12.out] at hA ⊢; exact HPRE.out.tri HFR7.out HD7.out HB78.out (by rw [<- HB12.out]; exact G12.out) hfr9 hw9 hr9 hq9 HG9.out hA)
            clear hw9 hr9 hfr9 hq9 HD7 HFR7 HB78 G12 HPRE HGC HRD7 HG9 hM9
            go_wp2_with (refine zA5 rfl 39 (.tmp 12) (.tmp 83) rfl b12 c9.toArray rfl rfl 39 Z39 G129.out (by rw [z8 H98.out]; exact zC1) (by rw [z8 H98.out]; rfl) H9A.out ?nw)
            case nw =>
             intro wA hwAh
             have HTA:=zA0 (HTRI.out wA hwAh.out)
             clear hwAh HTRI G129
             have HSN:=zA0 (zG7 c9 c2 s2 s2 wA HTA.out.l12 HTA.out.r5 HTA.out.wal.okd HTA.out.okX.1 (by have:=HTA.out.wal.len; omega) HTA.out.okX.2)
             have HCX : Hid (c2.length = 8):=zA0 HTA.out.r5.len
             go_wp2_with (first
              | (refine wpList_load_row rfl 39 (.tmp 12) rfl b12 rfl 39 c9.toArray (0,0) _ HTA.out.k12 Tryz.underlying39 rfl (by rw [z8 H98.out]; exact zC1) ?_)
              | (refine wpList_load_row rfl 39 (.tmp 5) rfl b5 rfl 39 c2.toArray (0,0) _ HTA.out.k5 Tryz.underlying39 rfl (by rw [z8 HCX.out]; exact zC1) ?_))
             refine Calls.mono HSN.out ?_
             rintro e wB ⟨bb,rfl,hbb,hBB⟩
             have HTB:=zA0 (HTA.out.below hBB)
             clear hBB HSN HTA
             obtain rfl : bb = true:=by first | exact hbb rfl | exact hbb trivial | simpa using hbb
             go_wp2_with (first
              | (refine wpList_load_row rfl 39 (.tmp 12) rfl b12 rfl 39 c9.toArray (0,0) _ HTB.out.k12 Tryz.underlying39 rfl (by rw [z8 H98.out]; exact zC1) ?_)
              | (refine zA5 rfl 39 (.tmp 5) (.tmp 142) rfl b5 c9.toArray rfl rfl 39 c2.toArray HTB.out.k5 (by rw [z8 H98.out]; exact zC1) (by rw [z8 H98.out,z8 HCX.out]) H9A.out ?ne))
             case ne =>
              intro wC hwC
              have HLC:=zA0 (HTB.out.fin hwC.out)
              clear hwC HTB
              go_wp2
              go_roundw
              case rel=>exact ⟨k + 1,q9,M9,F9,s2,c9,by omega,by go_num,rfl,zA0 (HLC.out.cnt (by omega) (by omega))⟩
              case measure=>simp [intOf]; omega
       · have HW2:=zA0 hw2
         clear hw2
         go_wp2_with (refine zA5 rfl 39 (.tmp 9) (.tmp 51) rfl w2.heap.size c2.toArray rfl rfl 39 Z39 (heap_alloc_new w2 (.cells Z39 39)) (by rw [z8 H28.out]; exact zC1) (by rw [z8 H28.out]; rfl) H2A.out ?nz1)
         case nz1 =>
          intro w3 hw3h
          have HB23 : Hid (Below w2.heap.size w2 w3):=zA0 (by rw [hw3h.out]; exact (zB5 w2 _).trans ⟨rfl,rfl,rfl,by simp [World.setRow],fun k hk=>setRow_other _ _ _ _ (by omega)⟩)
          have G93 : Hid (w3.heap[b9]? = some (.cells c2.toArray 39 (0,0))):=zA0 (by rw [hw3h.out,hb9]; exact setRow_heap _ _ _ _ 39 _ (heap_alloc_new w2 _))
          have G53 : Hid (w3.heap[b5]? = some (.cells cs.toArray 39 (0,0))):=zA0 ((HB23.out.block b5 (by have:=zA1 HOLD.out.blk; have:=HDN.out.fr.size; omega)).trans (HDN.out.bk.trans HOLD.out.blk))
          have G83 : Hid (w3.heap[b8]? = some (.cells es.toArray 54 (0,0))):=zA0 ((HB23.out.block b8 (zA1 G8w.out)).trans G8w.out)
          rw [<- hb9]
          clear hw3h hb9 HL2
          have HL4 : Hid (Lk w w3 q p b5 M1 (4 + 8 * k + 4) F2x m cs):=zA0 (by
           have hfq : ∀ j,Rb wc F q b5 j->w2.heap[j]? = wc.heap[j]?:=fun j hj=>HDN.out.fr.block j hj.1.1 (fun e=>by rcases e with e | e; exact hj.1.2.1 e; exact hj.1.2.2 e)
           refine ⟨HW2.out.below HB23.out,HOLD.out.good,G53.out,?_,⟨HDN.out.nb,HOLD.out.nb.2⟩,HDN.out.bel.trans (HB23.out.mono HDN.out.bel.size),HDN.out.fa,HOLD.out.qa,HOLD.out.ba⟩
           exact HOLD.out.rep.kept (Nat.le_trans HDN.out.fr.size HB23.out.size) (fun j hj=>(HB23.out.block j (Nat.lt_of_lt_of_le hj.1.1 HDN.out.fr.size)).trans (hfq j hj)) (fun j hj=>by
            have h1:=HDN.out.fr.sw hj.1
            exact ⟨⟨Nat.lt_of_lt_of_le h1.1 HB23.out.size,h1.2⟩,hj.2⟩))
          have R9 : Hid (Rep w3 (fun k=>k < w3.heap.size/\¬ F2x k) zB6 c2 (dec s2)):=zA0 (HDN.out.rep.kept HB23.out.size (fun j hj=>HB23.out.block j hj.1.1) (fun j hj=>⟨Nat.lt_of_lt_of_le hj.1.1 HB23.out.size,hj.1.2.1⟩))
          have N9 : Hid (¬ F2x b9):=zA0 (fun e=>by have:=HW2.out.dsk.flt _ e; have:=HB9.out; omega)
          have G9:=G93
          clear G53 G93 HB23 HW2
          obtain ⟨d0,d2,d3,d4,d5,d6,d7,d8⟩:=HDC.out w3 b8 G83.out
          have l8:=zA1 G83.out
          clear d0 d3 d4 d6 d7 d8
          cases cra with
          | false =>
           go_wp2
           go_roundw
           case rel=>exact ⟨k + 1,q,M1,F2x,m,cs,by omega,by go_num,rfl,zA0 (HL4.out.cnt (by omega) (by omega))⟩
           case measure=>simp [intOf]; omega
          | true =>
           have HPRE : Hid (Pre w w3 q p b5 b9 M1 (4 + 8 * k + 4) F2x m s2 cs c2):=zA0 ⟨HL4.out.wal.dsk,HL4.out.blk,HL4.out.rep.kept (Nat.le_refl _) (fun _ _=>rfl) (fun j hj=>⟨hj.1.1,hj.1.2.1⟩),G9.out,R9.out,⟨HL4.out.wal.okd,by have:=HL4.out.wal.len; omega⟩,⟨HDN.out.okd,by have:=HDN.out.len; omega⟩,HL4.out.nb.1,N9.out,HL4.out.bel,HL4.out.fa,HL4.out.ba⟩
           go_wp2_with fail
           refine (zV9 pk p (4 + 8 * k + 4) M1 F2x w3 HL4.out.wal.dsk (by omega)).mono ?_
           rintro e w7 ⟨F7,rfl,hd7,hfr7⟩
           have HGC:=zA0 (HL4.out.good.crash pk)
           obtain ⟨M7,hM7⟩ : ∃ M7,M7 = zI6 pk M1:=⟨_,rfl⟩
           rw [<- hM7] at HGC hd7
           have HD7:=zA0 hd7
           have HFR7:=zA0 hfr7
           clear hd7 hfr7 d2 d5 l8 hM7
           obtain ⟨k7,hk7⟩ : ∃ k7,k7 = (cOf M7.files lgN).length:=⟨_,rfl⟩
           have HRD7 : Hid (rdF sd0 (cOf M7.files lgN) = some (m,k7)):=zA0 (by rw [hk7]; exact HGC.out.rd)
           have HG9 : Hid (Good (opM M7 k7) m):=zA0 (by rw [hk7,xC9 HGC.out]; exact HGC.out)
           clear hk7
           obtain ⟨w8,hw8⟩ : ∃ w8,w8 = w7.alloc (.cells Z39 39):=⟨_,rfl⟩
           obtain ⟨b12,hb12⟩ : ∃ b12,b12 = w7.heap.size:=⟨_,rfl⟩
           have HB78 : Hid (Below w7.heap.size w7 w8):=zA0 (by rw [hw8]; exact zB5 w7 _)
           have G12 : Hid (w8.heap[b12]? = some (.cells Z39 39 (0,0))):=zA0 (by rw [hw8,hb12]; exact heap_alloc_new w7 _)
           have HB12:=zA0 hb12
           have hw8z:=hw8
           unfold Z39 at hw8z
           go_upto_region 19 with (fail)
           rw [<- hw8z,<- hb12]
           clear hw8 hw8z hb12
           go_wp2_with fail
           refine (zS5 p (4 + 8 * k + 4) M7 F7 w8 (HD7.out.below HB78.out) HGC.out.cln.left HGC.out.cln.fw (by omega)).mono ?_
           intro e w9 ho
           unfold OpP2 at ho
           rw [HRD7.out] at ho
           simp only at ho
           obtain ⟨q9,F9,c9,rfl,hw9,hr9,hfr9,hq9⟩:=ho
           have H98 : Hid (c9.length = 8):=zA0 hr9.len
           have H9A : Hid (c9.toArray.all (·.oneCell') = true):=hr9.all
           have G129 : Hid (w9.heap[b12]? = some (.cells Z39 39 (0,0))):=zA0 ((hfr9.block b12 (zA1 G12.out) (fun e=>by have:=HD7.out.flt _ e; have:=HB12.out; omega)).trans G12.out)
           obtain ⟨M9,hM9⟩ : ∃ M9,M9 = opM M7 k7:=⟨_,rfl⟩
           rw [<- hM9] at hw9 HG9
           have HTRI : Hid (∀ wA,wA = w9.setRow b12 c9.toArray->Tri w wA q9 p b5 b9 b12 M9 (4 + 8 * k + 4 + 4) F9 m s2 m cs c2 c9):=zA0 (fun wA hA=>by rw [HB12.out] at hA ⊢; exact HPRE.out.tri HFR7.out HD7.out HB78.out (by rw [<- HB12.out]; exact G12.out) hfr9 hw9 hr9 hq9 HG9.out hA)
           clear hw9 hr9 hfr9 hq9 HD7 HFR7 HB78 G12 HPRE HGC HRD7 HG9 hM9
           go_wp2_with (refine zA5 rfl 39 (.tmp 12) (.tmp 83) rfl b12 c9.toArray rfl rfl 39 Z39 G129.out (by rw [z8 H98.out]; exact zC1) (by rw [z8 H98.out]; rfl) H9A.out ?nw)
           case nw =>
            intro wA hwAh
            have HTA:=zA0 (HTRI.out wA hwAh.out)
            clear hwAh HTRI G129
            have HSN:=zA0 (zG7 c9 cs m m wA HTA.out.l12 HTA.out.r5 HTA.out.wal.okd HTA.out.okX.1 (by have:=HTA.out.wal.len; omega) HTA.out.okX.2)
            have HCX : Hid (cs.length = 8):=zA0 HTA.out.r5.len
            go_wp2_with (first
             | (refine wpList_load_row rfl 39 (.tmp 12) rfl b12 rfl 39 c9.toArray (0,0) _ HTA.out.k12 Tryz.underlying39 rfl (by rw [z8 H98.out]; exact zC1) ?_)
             | (refine wpList_load_row rfl 39 (.tmp 5) rfl b5 rfl 39 cs.toArray (0,0) _ HTA.out.k5 Tryz.underlying39 rfl (by rw [z8 HCX.out]; exact zC1) ?_))
            refine Calls.mono HSN.out ?_
            rintro e wB ⟨bb,rfl,hbb,hBB⟩
            have HTB:=zA0 (HTA.out.below hBB)
            clear hBB HSN HTA
            obtain rfl : bb = true:=by first | exact hbb rfl | exact hbb trivial | simpa using hbb
            go_wp2_with (first
             | (refine wpList_load_row rfl 39 (.tmp 12) rfl b12 rfl 39 c9.toArray (0,0) _ HTB.out.k12 Tryz.underlying39 rfl (by rw [z8 H98.out]; exact zC1) ?_)
             | (refine zA5 rfl 39 (.tmp 5) (.tmp 142) rfl b5 c9.toArray rfl rfl 39 cs.toArray HTB.out.k5 (by rw [z8 H98.out]; exact zC1) (by rw [z8 H98.out,z8 HCX.out]) H9A.out ?ne))
            case ne =>
             intro wC hwC
             have HLC:=zA0 (HTB.out.fin hwC.out)
             clear hwC HTB
             go_wp2
             go_roundw
             case rel=>exact ⟨k + 1,q9,M9,F9,m,c9,by omega,by go_num,rfl,zA0 (HLC.out.cnt (by omega) (by omega))⟩
             case measure=>simp [intOf]; omega
       · have HW2:=zA0 hw2
         have HACC:=zA0 hacc
         have HS2:=zA0 hs2
         have HLEFT:=zA0 (hleft pk)
         clear hw2 hacc hs2 hleft
         go_wp2_with (refine zA5 rfl 39 (.tmp 9) (.tmp 51) rfl w2.heap.size c2.toArray rfl rfl 39 Z39 (heap_alloc_new w2 (.cells Z39 39)) (by rw [z8 H28.out]; exact zC1) (by rw [z8 H28.out]; rfl) H2A.out ?nz1)
         case nz1 =>
          intro w3 hw3h
          have HB23 : Hid (Below w2.heap.size w2 w3):=zA0 (by rw [hw3h.out]; exact (zB5 w2 _).trans ⟨rfl,rfl,rfl,by simp [World.setRow],fun k hk=>setRow_other _ _ _ _ (by omega)⟩)
          have G93 : Hid (w3.heap[b9]? = some (.cells c2.toArray 39 (0,0))):=zA0 (by rw [hw3h.out,hb9]; exact setRow_heap _ _ _ _ 39 _ (heap_alloc_new w2 _))
          have G53 : Hid (w3.heap[b5]? = some (.cells cs.toArray 39 (0,0))):=zA0 ((HB23.out.block b5 (by have:=zA1 HOLD.out.blk; have:=HDN.out.fr.size; omega)).trans (HDN.out.bk.trans HOLD.out.blk))
          have G83 : Hid (w3.heap[b8]? = some (.cells es.toArray 54 (0,0))):=zA0 ((HB23.out.block b8 (zA1 G8w.out)).trans G8w.out)
          rw [<- hb9]
          clear hw3h hb9 HL2
          have R9 : Hid (Rep w3 (fun k=>k < w3.heap.size/\¬ F2x k) zB6 c2 (dec s2)):=zA0 (HDN.out.rep.kept HB23.out.size (fun j hj=>HB23.out.block j hj.1.1) (fun j hj=>⟨Nat.lt_of_lt_of_le hj.1.1 HB23.out.size,hj.1.2.1⟩))
          have R5 : Hid (Rep w3 (fun k=>k < w3.heap.size/\¬ F2x k) zB6 cs (dec m)):=zA0 (by
           have hfq : ∀ j,Rb wc F q b5 j->w2.heap[j]? = wc.heap[j]?:=fun j hj=>HDN.out.fr.block j hj.1.1 (fun e=>by rcases e with e | e; exact hj.1.2.1 e; exact hj.1.2.2 e)
           exact HOLD.out.rep.kept (Nat.le_trans HDN.out.fr.size HB23.out.size) (fun j hj=>(HB23.out.block j (Nat.lt_of_lt_of_le hj.1.1 HDN.out.fr.size)).trans (hfq j hj)) (fun j hj=>by
            have h1:=HDN.out.fr.sw hj.1
            exact ⟨Nat.lt_of_lt_of_le h1.1 HB23.out.size,h1.2.1⟩))
          have N9 : Hid (¬ F2x b9):=zA0 (fun e=>by have:=HW2.out.dsk.flt _ e; have:=HB9.out; omega)
          have HMOK : Hid (Okd m/\m.bs.length<=2097152):=zA0 ⟨HOLD.out.wal.okd,HOLD.out.wal.len⟩
          have HPRE : Hid (Pre w w3 q p b5 b9 M2 (4 + 8 * k + 4) F2x m s2 cs c2):=zA0 ⟨(HW2.out.below HB23.out).dsk,G53.out,R5.out,G93.out,R9.out,⟨HMOK.out.1,by have:=HMOK.out.2; omega⟩,⟨HDN.out.okd,by have:=HDN.out.len; omega⟩,HDN.out.nb,N9.out,HDN.out.bel.trans (HB23.out.mono HDN.out.bel.size),HDN.out.fa,HOLD.out.ba⟩
          clear G53 G93 HB23 HW2 R9 R5 N9
          obtain ⟨d0,d2,d3,d4,d5,d6,d7,d8⟩:=HDC.out w3 b8 G83.out
          have l8:=zA1 G83.out
          clear d0 d3 d4 d6 d7 d8
          go_wp2_with fail
          refine (zV9 pk p (4 + 8 * k + 4) M2 F2x w3 HPRE.out.dsk (by omega)).mono ?_
          rintro e w7 ⟨F7,rfl,hd7,hfr7⟩
          obtain ⟨m9,k7,hrd7,hg9,hpart⟩:=HLEFT.out.open
          have HPART:=zA0 hpart
          have HCLN7:=zA0 HLEFT.out.1
          obtain ⟨M7,hM7⟩ : ∃ M7,M7 = zI6 pk M2:=⟨_,rfl⟩
          rw [<- hM7] at hd7 hrd7 hg9 HCLN7
          have HD7:=zA0 hd7
          have HFR7:=zA0 hfr7
          have HRD7:=zA0 hrd7
          have HG9:=zA0 hg9
          have G87 : Hid (w7.heap[b8]? = some (.cells es.toArray 54 (0,0))):=zA0 ((hfr7.block b8 (zA1 G83.out) N82.out).trans G83.out)
          have N87 : Hid (¬ F7 b8):=zA0 (hfr7.notF (zA1 G83.out) N82.out)
          clear hd7 hfr7 d2 d5 l8 hM7 hrd7 hg9 hpart HLEFT G83 N82
          obtain ⟨w8,hw8⟩ : ∃ w8,w8 = w7.alloc (.cells Z39 39):=⟨_,rfl⟩
          obtain ⟨b12,hb12⟩ : ∃ b12,b12 = w7.heap.size:=⟨_,rfl⟩
          have HB78 : Hid (Below w7.heap.size w7 w8):=zA0 (by rw [hw8]; exact zB5 w7 _)
          have G12 : Hid (w8.heap[b12]? = some (.cells Z39 39 (0,0))):=zA0 (by rw [hw8,hb12]; exact heap_alloc_new w7 _)
          have HB12:=zA0 hb12
          have hw8z:=hw8
          unfold Z39 at hw8z
          go_upto_region 19 with (fail)
          rw [<- hw8z,<- hb12]
          clear hw8 hw8z hb12
          go_wp2_with fail
          refine (zS5 p (4 + 8 * k + 4) M7 F7 w8 (HD7.out.below HB78.out) HCLN7.out.left HCLN7.out.fw (by omega)).mono ?_
          intro e w9 ho
          unfold OpP2 at ho
          rw [HRD7.out] at ho
          simp only at ho
          obtain ⟨q9,F9,c9,rfl,hw9,hr9,hfr9,hq9⟩:=ho
          have H98 : Hid (c9.length = 8):=zA0 hr9.len
          have H9A : Hid (c9.toArray.all (·.oneCell') = true):=hr9.all
          have G129 : Hid (w9.heap[b12]? = some (.cells Z39 39 (0,0))):=zA0 ((hfr9.block b12 (zA1 G12.out) (fun e=>by have:=HD7.out.flt _ e; have:=HB12.out; omega)).trans G12.out)
          have G89 : Hid (w9.heap[b8]? = some (.cells es.toArray 54 (0,0))):=zA0 ((hfr9.block b8 (Nat.lt_of_lt_of_le (zA1 G87.out) HB78.out.size) N87.out).trans ((HB78.out.block b8 (zA1 G87.out)).trans G87.out))
          obtain ⟨M9,hM9⟩ : ∃ M9,M9 = opM M7 k7:=⟨_,rfl⟩
          rw [<- hM9] at hw9 HG9
          have HTRI : Hid (∀ wA,wA = w9.setRow b12 c9.toArray->Tri w wA q9 p b5 b9 b12 M9 (4 + 8 * k + 4 + 4) F9 m s2 m9 cs c2 c9):=zA0 (fun wA hA=>by rw [HB12.out] at hA ⊢; exact HPRE.out.tri HFR7.out HD7.out HB78.out (by rw [<- HB12.out]; exact G12.out) hfr9 hw9 hr9 hq9 HG9.out hA)
          clear hw9 hr9 hfr9 hq9 HD7 HFR7 HB78 G12 HPRE HCLN7 HRD7 HG9 hM9
          go_wp2_with (refine zA5 rfl 39 (.tmp 12) (.tmp 83) rfl b12 c9.toArray rfl rfl 39 Z39 G129.out (by rw [z8 H98.out]; exact zC1) (by rw [z8 H98.out]; rfl) H9A.out ?nw)
          case nw =>
           intro wA hwAh
           have HTA:=zA0 (HTRI.out wA hwAh.out)
           have G8A : Hid (wA.heap[b8]? = some (.cells es.toArray 54 (0,0))):=zA0 (by rw [hwAh.out]; exact (setRow_other _ _ _ _ (by have:=zA1 G87.out; have:=HB12.out; omega)).trans G89.out)
           clear hwAh HTRI G129
           have HSN:=zA0 (zG7 c9 cs m9 m wA HTA.out.l12 HTA.out.r5 HTA.out.wal.okd HTA.out.okX.1 (by have:=HTA.out.wal.len; omega) HTA.out.okX.2)
           have HCX : Hid (cs.length = 8):=zA0 HTA.out.r5.len
           go_wp2_with (first
            | (refine wpList_load_row rfl 39 (.tmp 12) rfl b12 rfl 39 c9.toArray (0,0) _ HTA.out.k12 Tryz.underlying39 rfl (by rw [z8 H98.out]; exact zC1) ?_)
            | (refine wpList_load_row rfl 39 (.tmp 5) rfl b5 rfl 39 cs.toArray (0,0) _ HTA.out.k5 Tryz.underlying39 rfl (by rw [z8 HCX.out]; exact zC1) ?_))
           refine Calls.mono HSN.out ?_
           rintro e wB ⟨bb,rfl,hbb,hBB⟩
           have HTB:=zA0 (HTA.out.below hBB)
           have G8B:=zA0 ((hBB.block b8 (zA1 G8A.out)).trans G8A.out)
           clear G8A G89
           clear hBB HSN HTA
           cases bb with
           | true =>
            go_wp2_with (first
             | (refine wpList_load_row rfl 39 (.tmp 12) rfl b12 rfl 39 c9.toArray (0,0) _ HTB.out.k12 Tryz.underlying39 rfl (by rw [z8 H98.out]; exact zC1) ?_)
             | (refine zA5 rfl 39 (.tmp 5) (.tmp 142) rfl b5 c9.toArray rfl rfl 39 cs.toArray HTB.out.k5 (by rw [z8 H98.out]; exact zC1) (by rw [z8 H98.out,z8 HCX.out]) H9A.out ?ne))
            case ne =>
             intro wC hwC
             have HLC:=zA0 (HTB.out.fin hwC.out)
             clear hwC HTB
             go_wp2
             go_roundw
             case rel=>exact ⟨k + 1,q9,M9,F9,m9,c9,by omega,by go_num,rfl,zA0 (HLC.out.cnt (by omega) (by omega))⟩
             case measure=>simp [intOf]; omega
           | false =>
            have HNE : Hid (m9 ≠ m):=zA0 (fun e=>by have:=hbb e; cases this)
            clear hbb
            have HSN2:=zA0 (zG7 c9 c2 m9 s2 wB HTB.out.l12 HTB.out.r9 HTB.out.wal.okd HTB.out.ok2.1 (by have:=HTB.out.wal.len; omega) HTB.out.ok2.2)
            go_wp2_with (first
             | (refine wpList_load_row rfl 39 (.tmp 12) rfl b12 rfl 39 c9.toArray (0,0) _ HTB.out.k12 Tryz.underlying39 rfl (by rw [z8 H98.out]; exact zC1) ?_)
             | (refine wpList_load_row rfl 39 (.tmp 9) rfl b9 rfl 39 c2.toArray (0,0) _ HTB.out.k9 Tryz.underlying39 rfl (by rw [z8 H28.out]; exact zC1) ?_))
            refine Calls.mono HSN2.out ?_
            rintro e wD ⟨b2,rfl,hb2,hBD⟩
            have HB2:=zA0 hb2
            have HTD:=zA0 (HTB.out.below hBD)
            have G8D:=zA0 ((hBD.block b8 (zA1 G8B.out)).trans G8B.out)
            have HCSA : Hid (cs.toArray.all (·.oneCell') = true):=HTD.out.r5.all
            clear hBD hb2 HTB G8B HSN2
            obtain ⟨b14,hb14⟩ : ∃ b14,b14 = wD.heap.size:=⟨_,rfl⟩
            go_wp2_with (first
             | (refine wpList_load_row rfl 39 (.tmp 5) rfl b5 rfl 39 cs.toArray (0,0) _ HTD.out.k5 Tryz.underlying39 rfl (by rw [z8 HCX.out]; exact zC1) ?_)
             | (refine zA5 rfl 39 (.tmp 14) (.tmp 107) rfl wD.heap.size cs.toArray rfl rfl 39 Z39 (heap_alloc_new wD (.cells Z39 39)) (by rw [z8 HCX.out]; exact zC1) (by rw [z8 HCX.out]; rfl) HCSA.out ?nv))
            case nv =>
             intro wE hwEh
             have hBE : Below wD.heap.size wD wE:=by rw [hwEh.out]; exact (zB5 wD _).trans ⟨rfl,rfl,rfl,by simp [World.setRow],fun k hk=>setRow_other _ _ _ _ (by omega)⟩
             have gE : wE.heap[b14]? = some (.cells cs.toArray 39 (0,0)):=by rw [hwEh.out,hb14]; exact setRow_heap _ _ _ _ 39 _ (heap_alloc_new wD _)
             rw [<- hb14]
             have HB14:=zA0 hb14
             clear hwEh hb14
             obtain ⟨av,nv,cv,al,nl,cl,ad,nd,cd,ea',ec',hcf,hsn,hrle⟩:=zG1 HTD.out.r5
             have HSNP:=zA0 hsn
             have HRL5:=zA0 hrle
             rw [hcf] at gE
             have GE:=zA0 gE
             have HBE:=zA0 hBE
             have q0 : wE.cell? ⟨b14,0,none⟩ = some (.int .i64 m.t):=cor gE rfl
             have q1 : wE.cell? ⟨b14,1,none⟩ = some (.int .i64 m.v):=cor gE rfl
             have fq : ∀ o,wE.frozen? ⟨b14,o,none⟩ = false:=fun o=>by simp [World.frozen?,gE]
             have G8E : Hid (wE.heap[b8]? = some (.cells es.toArray 54 (0,0))):=zA0 ((hBE.block b8 (zA1 G8D.out)).trans G8D.out)
             obtain ⟨d0,d2,d3,d4,d5,d6,d7,d8⟩:=HDC.out wE b8 G8E.out
             have l8:=zA1 G8E.out
             have l14:=zA1 gE
             clear hcf hsn hrle gE hBE d0 d2 d3 d4 d5 d8
             go_upto_region 27 with (fail)
             obtain ⟨wG,hwG⟩ : ∃ wG,wG = (wE.setCell ⟨b14,0,none⟩ (.int .i64 t)).setCell ⟨b14,1,none⟩ (.int .i64 v):=⟨_,rfl⟩
             rw [<- hwG]
             have HBG : Hid (Below wD.heap.size wD wG):=zA0 (HBE.out.trans (by rw [hwG]; exact (zC2 (by have:=HB14.out; omega) wE 0 _).trans (zC2 (by have:=HB14.out; omega) _ 1 _)))
             have hlG : b14 < wG.heap.size:=by rw [hwG]; simpa using l14
             obtain ⟨c4,hc4⟩ : ∃ c4 : List Value,c4 = [.int .i64 t,.int .i64 v,.int .i64 (dec m).2.1.1,.int .i64 (dec m).2.1.2.1,.slice av nv cv,.slice al nl cl,.slice ad nd cd,.slice ea' (dec m).2.2.length ec']:=⟨_,rfl⟩
             have G14 : Hid (wG.heap[b14]? = some (.cells c4.toArray 39 (0,0))):=zA0 (by
              rw [hwG,heap_setCell_same _ _ 1 _ 39 _ (heap_setCell_same wE _ 0 _ 39 _ GE.out),hc4]
              rfl)
             have R14 : Hid (Rep wG (fun k=>k < wG.heap.size/\k ≠ b14) zB6 c4 (dec (skS m t v (dEs x) 0))):=zA0 (by
              rw [hc4,yI3]
              have hS : ∀ k,k < wD.heap.size->k < wG.heap.size/\k ≠ b14:=fun k hk=>⟨Nat.lt_of_lt_of_le hk HBG.out.size,by have:=HB14.out; omega⟩
              exact zO8 t v _ _ _ _ _ (snV m) ea' ec' _ (HSNP.out.kept HBG.out.size (fun k hk=>HBG.out.block k hk) hS) (HRL5.out.kept HBG.out.size (fun k hk=>HBG.out.block k hk) hS))
             clear hwG hc4 q0 q1 fq d6 d7 l8 l14 hlG GE HBE G8E HSNP HRL5
             go_wp2
             go_loopw [13,15] (fun fv i wr=>∃ (j:Nat) (fb:Bool) (cj:List Value),j<=vl + 1/\i = .int .i64 (j:Int)/\fv = .bool fb/\Hid ((m9 = s2\/∃ i,i < j/\m9 = skS m t v (dEs x) i)->fb = true)/\Hid (Below wD.heap.size wD wr)/\Hid (wr.heap[b14]? = some (.cells cj.toArray 39 (0,0)))/\Hid (Rep wr (fun k=>k < wr.heap.size/\k ≠ b14) zB6 cj (dec (skS m t v (dEs x) (j - 1))))) (fun _ i _=>vl + 1 - (intOf i).toNat)
             case atStart=>exact ⟨0,b2,c4,Nat.zero_le _,rfl,rfl,zA0 (fun h=>by rcases h with h | ⟨i,hi,_⟩; exact HB2.out h; omega),HBG,G14,R14⟩
             case round =>
              obtain ⟨j,fb,cj,hj,rfl,rfl,HF,HBJ,G14J,R14J⟩:=hrel
              have HTJ:=zA0 (HTD.out.below HBJ.out)
              have G8J:=zA0 ((HBJ.out.block b8 (zA1 G8D.out)).trans G8D.out)
              have HCJ : Hid (cj.length = 8):=zA0 R14J.out.len
              have HCJA : Hid (cj.toArray.all (·.oneCell') = true):=R14J.out.all
              obtain ⟨d0,d2,d3,d4,d5,d6,d7,d8⟩:=HDC.out wr b8 G8J.out
              have l8:=zA1 G8J.out
              clear d2 d3 d4 d5 d6 d7
              by_cases hgo : j<=vl/\snap = false
              · obtain ⟨hjl,hsn0⟩:=hgo
                have HACS : Hid (accS m t v (dEs x)):=zA0 (by
                 have h:=HACC.out
                 unfold accD at h
                 rw [<- HSNAP.out,hsn0] at h
                 rw [HT.out,HV.out]; exact h)
                have HVLE : Hid ((dEs x).length<=1048576):=zA0 (by rw [<- HVL.out]; omega)
                subst hsn0
                by_cases h0 : j = 0
                · subst h0
                  have HFIT:=zA0 (yN9 (k:=0) HACS.out HMOK.out.1 HMOK.out.2 HVLE.out (Nat.zero_le _))
                  have HSJ:=zA0 (zG7 c9 cj m9 (skS m t v (dEs x) 0) wr HTJ.out.l12 (R14J.out.kept (Nat.le_refl _) (fun _ _=>rfl) (fun k hk=>hk.1)) HTJ.out.wal.okd HFIT.out.1 (by have:=HTJ.out.wal.len; omega) HFIT.out.2)
                  go_wp2_with (first
                   | (refine wpList_load_row rfl 39 (.tmp 12) rfl b12 rfl 39 c9.toArray (0,0) _ HTJ.out.k12 Tryz.underlying39 rfl (by rw [z8 H98.out]; exact zC1) ?_)
                   | (refine wpList_load_row rfl 39 (.tmp 14) rfl b14 rfl 39 cj.toArray (0,0) _ G14J.out Tryz.underlying39 rfl (by rw [z8 HCJ.out]; exact zC1) ?_))
                  refine Calls.mono HSJ.out ?_
                  rintro e wK ⟨b3,rfl,hb3,hBK⟩
                  have HB3:=zA0 hb3
                  have HBK : Hid (Below wD.heap.size wD wK):=zA0 (HBJ.out.trans (hBK.mono HBJ.out.size))
                  have G14K:=zA0 ((hBK.block b14 (zA1 G14J.out)).trans G14J.out)
                  have R14K : Hid (Rep wK (fun k=>k < wK.heap.size/\k ≠ b14) zB6 cj (dec (skS m t v (dEs x) (0 + 1 - 1)))):=zA0 (by
                   rw [Nat.add_sub_cancel]
                   exact R14J.out.kept hBK.size (fun k hk=>hBK.block k hk.1) (fun k hk=>⟨Nat.lt_of_lt_of_le hk.1 hBK.size,hk.2⟩))
                  have HFN : Hid ((m9 = s2\/∃ i,i < 0 + 1/\m9 = skS m t v (dEs x) i)->(fb = true\/b3 = true)):=zA0 (fun h=>by
                   rcases h with h | ⟨i,hi,h⟩
                   · exact .inl (HF.out (.inl h))
                   · by_cases hij : i < 0
                     · exact .inl (HF.out (.inr ⟨i,hij,h⟩))
                     · exact .inr (HB3.out (by rw [h,show i = 0 by omega])))
                  clear hb3 hBK HSJ HF G14J R14J HBJ HTJ G8J
                  cases fb with
                  | true =>
                   go_wp2
                   go_roundw
                   case rel=>exact ⟨0 + 1,true,cj,by omega,by go_num,rfl,zA0 (fun _=>rfl),HBK,G14K,R14K⟩
                   case measure=>simp [intOf] <;> omega
                  | false =>
                   go_wp2
                   go_roundw
                   case rel=>exact ⟨0 + 1,b3,cj,by omega,by go_num,rfl,zA0 (fun h=>by rcases HFN.out h with h | h; cases h; exact h),HBK,G14K,R14K⟩
                   case measure=>simp [intOf] <;> omega
                · obtain ⟨jj,rfl⟩ : ∃ jj,j = jj + 1:=⟨j - 1,by omega⟩
                  have hjk : jj < (dEs x).length:=by have:=HVL.out; omega
                  rw [Nat.add_sub_cancel] at R14J
                  obtain ⟨be,oe,ee,rfl,hsb2,hre2,hrg2⟩:=Rep.load HRLE.out hjk
                  obtain ⟨x2,hx2⟩ : ∃ x2,(dEs x)[jj]? = some x2:=⟨_,List.getElem?_eq_getElem hjk⟩
                  have hxe : (dEs x)[jj] = x2:=by rw [List.getElem?_eq_getElem hjk] at hx2; exact Option.some.inj hx2
                  rw [hxe] at hre2
                  obtain ⟨r2,he2,hel2⟩:=zD3 hre2
                  have HIN2:=zA0 (zF6 hel2)
                  have LBE:=zA0 hsb2
                  have HRG2 : Hid (wr.rangeAt be (oe + jj * 29) ee):=zA0 (zB1 hrg2 (HTJ.out.bel.block be hsb2))
                  have HRE2 : Hid (Rep wr (fun k=>k < wr.heap.size/\k ≠ b14) zA8 ee x2):=zA0 (hre2.kept HTJ.out.bel.size (fun k hk=>HTJ.out.bel.block k hk) (fun k hk=>⟨Nat.lt_of_lt_of_le hk HTJ.out.bel.size,by have:=HTD.out.bel.size; have:=HB14.out; omega⟩))
                  have HPU : Hid (∀ W : World,W.heap = wr.heap->Calls Tryz.prog 22 #[.agg cj.toArray,.agg ee.toArray] W (PuP (fun k=>k < wr.heap.size/\k ≠ b14) W (skS m t v (dEs x) (jj + 1)))):=zA0 (fun W hW=>kB7 HACS.out HMOK.out.1 HMOK.out.2 HVLE.out hx2 (R14J.out.kept (by rw [hW]; exact Nat.le_refl _) (fun k _=>by rw [hW]) (fun k hk=>hk)) (HRE2.out.kept (by rw [hW]; exact Nat.le_refl _) (fun k _=>by rw [hW]) (fun k hk=>hk)) (fun k hk=>by rw [hW]; exact hk.1))
                  have C8 : Hid (wr.cell? ⟨b8,8,none⟩ = some (.slice (some ⟨be,oe,none⟩) vl ec)):=zA0 d8
                  have HJ14 : Hid (b14 < wr.heap.size/\b8 < wr.heap.size/\be < wr.heap.size):=zA0 ⟨zA1 G14J.out,l8,Nat.lt_of_lt_of_le hsb2 HTJ.out.bel.size⟩
                  clear hre2 hrg2 he2 hel2 hxe hx2 hsb2 hjk HRE2
                  have hju : jj < vl:=by omega
                  go_wp2
                  refine zD8 (fun wz:World=>wz.rangeAt b14 0 cj/\wz.cell? ⟨b8,8,none⟩ = some (.slice (some ⟨be,oe,none⟩) vl ec)/\wz.rangeAt be (oe + jj * 29) ee) 8 (by kernel_rfl) ?_
                  have hHeld : (fun wz:World=>wz.rangeAt b14 0 cj/\wz.cell? ⟨b8,8,none⟩ = some (.slice (some ⟨be,oe,none⟩) vl ec)/\wz.rangeAt be (oe + jj * 29) ee) _:=⟨zM5 G14J.out,C8.out,HRG2.out⟩
                  refine tkLy 0 rfl (.agg cj.toArray) (by kernel_rfl) (fun _ _ _=>id) hHeld (yieldsIf_load_mid (by rfl) 39 (.tmp 14) rfl b14 0 rfl cj _ (fun _ h=>h.1) Tryz.underlying39 rfl (by rw [HCJ.out]; exact zC1)) ?_
                  try simp only [aPa,aPc,aPd]
                  refine tkLp 1 rfl (.pointer (some ⟨b8,8,none⟩)) (by kernel_rfl) rfl (fun _ _ _=>id) hHeld (by intro w; go_simp) ?_
                  try simp only [aPa,aPc,aPd]
                  refine tkL 2 rfl (.slice (some ⟨be,oe,none⟩) vl ec) (by kernel_rfl) rfl (fun _ _ _=>id) hHeld (by intro wz hSw; obtain ⟨e1,e2,e3⟩:=hSw; clear e1 e3; go_simp) ?_
                  try simp only [aPa,aPc,aPd]
                  refine tkLp 3 rfl (.int .i64 ((jj + 1 : Nat) : Int)) (by kernel_rfl) rfl (fun _ _ _=>id) hHeld (by intro w; go_simp) ?_
                  try simp only [aPa,aPc,aPd]
                  refine tkL 4 rfl (.int .i64 (jj:Int)) (by kernel_rfl) rfl (fun _ _ _=>id) hHeld (by intro wz hSw; clear hSw; go_simp; all_goals (first | done | (rw [IntKind.wrap_i64] <;> omega) | go_num)) ?_
                  try simp only [aPa,aPc,aPd]
                  refine tkL 5 rfl (.pointer (some ⟨be,oe + jj * 29,none⟩)) (by kernel_rfl) rfl (fun _ _ _=>id) hHeld (by intro wz hSw; clear hSw; go_simp; all_goals (first | done | (intro hh; exfalso; omega))) ?_
                  try simp only [aPa,aPc,aPd]
                  refine tkLy 6 rfl (.agg ee.toArray) (by kernel_rfl) (fun _ _ _=>id) hHeld (yieldsIf_load_mid (by rfl) 73 (.tmp 130) rfl be (oe + jj * 29) rfl ee _ (fun _ h=>h.2.2) Tryz.underlying73 rfl HIN2.out) ?_
                  try simp only [aPa,aPc,aPd]
                  refine tkLc 7 rfl (by kernel_rfl) rfl (fun K hK=>?_)
                  go_simp
                  refine Calls.mono (HPU.out _ rfl) ?_
                  rintro e wI ⟨cI,rfl,hrp,hbI⟩
                  have HBI : Hid (Below wr.heap.size wr wI):=zA0 ⟨hbI.os,hbI.tape,hbI.output,hbI.size,hbI.block⟩
                  have HRP:=zA0 hrp
                  have HAI : Hid (cI.toArray.all (·.oneCell') = true):=hrp.all
                  have HCI8 : Hid (cI.length = 8):=zA0 hrp.len
                  have sI : (fun wz:World=>wz.rangeAt b14 0 cj/\wz.cell? ⟨b8,8,none⟩ = some (.slice (some ⟨be,oe,none⟩) vl ec)/\wz.rangeAt be (oe + jj * 29) ee) wI:=⟨zB1 (zM5 G14J.out) (HBI.out.block b14 HJ14.out.1),(HBI.out.cell (p:=⟨b8,8,none⟩) HJ14.out.2.1).trans C8.out,zB1 HRG2.out (HBI.out.block be HJ14.out.2.2)⟩
                  clear hrp hbI
                  refine hK.out _ _ (fun _=>sI) ?_
                  have hHeld:=sI
                  clear hK K
                  try simp only [aPa,aPb,aPc,aPd]
                  refine tkLc 8 rfl (by kernel_rfl) rfl (fun K hK=>?_)
                  clear hHeld sI
                  refine wp_store_row 39 (.tmp 14) (.tmp 132) rfl b14 cI.toArray rfl rfl 39 cj.toArray ((HBI.out.block b14 HJ14.out.1).trans G14J.out) (by rw [z8 HCI8.out]; exact zC1) (by rw [z8 HCI8.out,z8 HCJ.out]) HAI.out ?_
                  refine hK.out _ _ (fun h=>absurd rfl h) ?_
                  clear hK K
                  try simp only [aPb]
                  refine zD9 (by kernel_rfl) ?_ _
                  obtain ⟨wL,hwL⟩ : ∃ wL,wL = wI.setRow b14 cI.toArray:=⟨_,rfl⟩
                  rw [<- hwL]
                  have hkL : ∀ j,j ≠ b14->wL.heap[j]? = wI.heap[j]?:=fun j hj=>by rw [hwL]; exact setRow_other _ _ _ _ hj
                  have hsL : wL.heap.size = wI.heap.size:=by rw [hwL]; simp [World.setRow]
                  have G14L : Hid (wL.heap[b14]? = some (.cells cI.toArray 39 (0,0))):=zA0 (by rw [hwL]; exact setRow_heap _ _ _ _ 39 _ ((HBI.out.block b14 HJ14.out.1).trans G14J.out))
                  have HBL : Hid (Below wD.heap.size wD wL):=zA0 ((HBJ.out.trans (HBI.out.mono HBJ.out.size)).trans (by rw [hwL]; exact ⟨rfl,rfl,rfl,by simp [World.setRow],fun k hk=>setRow_other _ _ _ _ (by have:=HB14.out; omega)⟩))
                  have R14L : Hid (Rep wL (fun k=>k < wL.heap.size/\k ≠ b14) zB6 cI (dec (skS m t v (dEs x) (jj + 1)))):=zA0 (by
                   refine HRP.out.kept (by omega) (fun j hj=>hkL j ?_) (fun j hj=>?_)
                   · rcases hj with hj | hj
                     · exact hj.2
                     · have h1 : wr.heap.size<=j:=hj.1; have:=HJ14.out.1; omega
                   · rcases hj with hj | hj
                     · exact ⟨by rw [hsL]; exact Nat.lt_of_lt_of_le hj.1 HBI.out.size,hj.2⟩
                     · have h1 : wr.heap.size<=j:=hj.1
                       exact ⟨by rw [hsL]; exact hj.2.1,by have:=HJ14.out.1; omega⟩)
                  have HTL:=zA0 (HTD.out.below HBL.out)
                  have HCL8 : Hid (cI.length = 8):=zA0 R14L.out.len
                  clear hwL hkL hsL HRP HBI G14J R14J HTJ HPU G8J HRG2 C8 l8
                  have HFIT:=zA0 (yN9 (k:=jj + 1) HACS.out HMOK.out.1 HMOK.out.2 HVLE.out (by rw [<- HVL.out]; omega))
                  have HSJ:=zA0 (zG7 c9 cI m9 (skS m t v (dEs x) (jj + 1)) wL HTL.out.l12 (R14L.out.kept (Nat.le_refl _) (fun _ _=>rfl) (fun k hk=>hk.1)) HTL.out.wal.okd HFIT.out.1 (by have:=HTL.out.wal.len; omega) HFIT.out.2)
                  go_wp2_with (first
                   | (refine wpList_load_row rfl 39 (.tmp 12) rfl b12 rfl 39 c9.toArray (0,0) _ HTL.out.k12 Tryz.underlying39 rfl (by rw [z8 H98.out]; exact zC1) ?_)
                   | (refine wpList_load_row rfl 39 (.tmp 14) rfl b14 rfl 39 cI.toArray (0,0) _ G14L.out Tryz.underlying39 rfl (by rw [z8 HCL8.out]; exact zC1) ?_))
                  refine Calls.mono HSJ.out ?_
                  rintro e wK ⟨b3,rfl,hb3,hBK⟩
                  have HB3:=zA0 hb3
                  have HBK : Hid (Below wD.heap.size wD wK):=zA0 (HBL.out.trans (hBK.mono HBL.out.size))
                  have G14K:=zA0 ((hBK.block b14 (zA1 G14L.out)).trans G14L.out)
                  have R14K : Hid (Rep wK (fun k=>k < wK.heap.size/\k ≠ b14) zB6 cI (dec (skS m t v (dEs x) ((jj + 1) + 1 - 1)))):=zA0 (by
                   rw [Nat.add_sub_cancel]
                   exact R14L.out.kept hBK.size (fun k hk=>hBK.block k hk.1) (fun k hk=>⟨Nat.lt_of_lt_of_le hk.1 hBK.size,hk.2⟩))
                  have HFN : Hid ((m9 = s2\/∃ i,i < (jj + 1) + 1/\m9 = skS m t v (dEs x) i)->(fb = true\/b3 = true)):=zA0 (fun h=>by
                   rcases h with h | ⟨i,hi,h⟩
                   · exact .inl (HF.out (.inl h))
                   · by_cases hij : i < (jj + 1)
                     · exact .inl (HF.out (.inr ⟨i,hij,h⟩))
                     · exact .inr (HB3.out (by rw [h,show i = (jj + 1) by omega])))
                  clear hb3 hBK HSJ HF G14L R14L HBL HTL HBJ
                  cases fb with
                  | true =>
                   go_wp2
                   go_roundw
                   case rel=>exact ⟨(jj + 1) + 1,true,cI,by omega,by go_num,rfl,zA0 (fun _=>rfl),HBK,G14K,R14K⟩
                   case measure=>simp [intOf] <;> omega
                  | false =>
                   go_wp2
                   go_roundw
                   case rel=>exact ⟨(jj + 1) + 1,b3,cI,by omega,by go_num,rfl,zA0 (fun h=>by rcases HFN.out h with h | h; cases h; exact h),HBK,G14K,R14K⟩
                   case measure=>simp [intOf] <;> omega
              · have HFT : Hid (fb = true):=zA0 (HF.out (by
                  rcases HPART.out with h | h | ⟨h1,i,h2,h3⟩
                  · exact absurd h HNE.out
                  · exact .inl (by rw [h,HS2.out])
                  · refine .inr ⟨i,?_,by rw [HT.out,HV.out]; exact h3⟩
                    have h4 : ¬ j<=vl:=fun e=>hgo ⟨e,by rw [HSNAP.out]; exact h1⟩
                    have:=HVL.out
                    omega))
                obtain rfl : fb = true:=HFT.out
                have HTB:=HTJ
                clear HF HFT HTJ HBJ G14J R14J
                cases snap with
                | true =>
                 clear hgo
                 by_cases hjv : j<=vl
                 · skip
                   go_wp2_with (first
                    | (refine wpList_load_row rfl 39 (.tmp 12) rfl b12 rfl 39 c9.toArray (0,0) _ HTB.out.k12 Tryz.underlying39 rfl (by rw [z8 H98.out]; exact zC1) ?_)
                    | (refine zA5 rfl 39 (.tmp 5) (.tmp 142) rfl b5 c9.toArray rfl rfl 39 cs.toArray HTB.out.k5 (by rw [z8 H98.out]; exact zC1) (by rw [z8 H98.out,z8 HCX.out]) H9A.out ?ne))
                   case ne =>
                    intro wC hwC
                    have HLC:=zA0 (HTB.out.fin hwC.out)
                    clear hwC HTB
                    go_wp2
                    go_roundw
                    case rel=>exact ⟨k + 1,q9,M9,F9,m9,c9,by omega,by go_num,rfl,zA0 (HLC.out.cnt (by omega) (by omega))⟩
                    case measure=>simp [intOf]; omega
                 · skip
                   go_wp2_with (first
                    | (refine wpList_load_row rfl 39 (.tmp 12) rfl b12 rfl 39 c9.toArray (0,0) _ HTB.out.k12 Tryz.underlying39 rfl (by rw [z8 H98.out]; exact zC1) ?_)
                    | (refine zA5 rfl 39 (.tmp 5) (.tmp 142) rfl b5 c9.toArray rfl rfl 39 cs.toArray HTB.out.k5 (by rw [z8 H98.out]; exact zC1) (by rw [z8 H98.out,z8 HCX.out]) H9A.out ?ne))
                   case ne =>
                    intro wC hwC
                    have HLC:=zA0 (HTB.out.fin hwC.out)
                    clear hwC HTB
                    go_wp2
                    go_roundw
                    case rel=>exact ⟨k + 1,q9,M9,F9,m9,c9,by omega,by go_num,rfl,zA0 (HLC.out.cnt (by omega) (by omega))⟩
                    case measure=>simp [intOf]; omega
                | false =>
                 have hjv : vl < j:=by
                  rcases Nat.lt_or_ge vl j with h | h
                  · exact h
                  · exact absurd ⟨h,rfl⟩ hgo
                 clear hgo
                 go_wp2_with (first
                  | (refine wpList_load_row rfl 39 (.tmp 12) rfl b12 rfl 39 c9.toArray (0,0) _ HTB.out.k12 Tryz.underlying39 rfl (by rw [z8 H98.out]; exact zC1) ?_)
                  | (refine zA5 rfl 39 (.tmp 5) (.tmp 142) rfl b5 c9.toArray rfl rfl 39 cs.toArray HTB.out.k5 (by rw [z8 H98.out]; exact zC1) (by rw [z8 H98.out,z8 HCX.out]) H9A.out ?ne))
                 case ne =>
                  intro wC hwC
                  have HLC:=zA0 (HTB.out.fin hwC.out)
                  clear hwC HTB
                  go_wp2
                  go_roundw
                  case rel=>exact ⟨k + 1,q9,M9,F9,m9,c9,by omega,by go_num,rfl,zA0 (HLC.out.cnt (by omega) (by omega))⟩
                  case measure=>simp [intOf]; omega
   · have HBR:=zA0 HLK.out.bel
     clear HLK
     go_wp2_with fail
     refine (xE1 wr).mono ?_
     rintro e w9 ⟨rfl,hB9⟩
     have HB9:=zA0 (HBR.out.trans (hB9.mono HBR.out.size))
     clear hB9
     go_wp2
     go_ret
     exact ⟨rfl,HB9.out⟩
end
end Go.Proofs.YtocoimjhglackaaGreat
