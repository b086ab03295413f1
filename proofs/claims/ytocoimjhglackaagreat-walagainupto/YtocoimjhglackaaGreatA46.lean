/- Wkc -/
import Derived.Test.YtocoimjhglackaaGreatA45
set_option maxHeartbeats 8000000
set_option maxRecDepth 100000
namespace Go.Proofs.YtocoimjhglackaaGreat
section
open Go.RowKit Go.Maps
theorem xF7 {w : World} {S : Nat -> Prop} {a : Option Addr} {vs : List De} (h : RepL w S zN1 a vs) {k : Nat} (hk : k < vs.length) : ∃ b off es,a = some ⟨b,off,none⟩ /\ S b /\ Rep w S zN1 es vs[k] /\ w.rangeAt b (off + k * 14) es := by
 obtain ⟨b,off,e,hS,hes⟩ := h.2 (by intro e; rw [e] at hk; simp at hk)
 obtain ⟨es,h1,h2⟩ := hes k hk
 exact ⟨b,off,es,e,hS,h1,h2⟩
theorem xV8 {es : List Value} (h : es.length = 14) : (Tryz.prog.info? 54).map (·.size) = some es.length := by rw [h]; kernel_rfl
theorem xC4 {M : Md} {m : Sd} (_h : Good M m) : opM M (cOf M.files lgN).length = M := by unfold opM; rw [if_neg (by omega)]
theorem yH3 (a : Option Addr) (cap : Nat) (vs : List De) (pick : Int) (w : World) (hl : vs.length <= 1048576) (hr : RepL w (fun k => k < w.heap.size) zN1 a vs) (hx : ∀ i (hi : i < vs.length),OkX vs[i]) : Calls Tryz.prog 7 #[.slice a vs.length cap,.int .i64 pick] w fun e w' => e = .returned (.bool true) /\ Below w.heap.size w w' := by
 obtain ⟨n,hn⟩ : ∃ n,n = vs.length := ⟨_,rfl⟩
 rw [<- hn]
 have hnb : (n : Int) <= 1048576 := by omega
 have HN := zA0 hn
 have HL := zA0 hl
 have HR := zA0 hr
 have HX := zA0 hx
 clear hn hl hr hx
 go_enter Tryz.func7,Tryz.ntmps7
 go_wp2_with fail
 refine (xP7 w).mono ?_
 rintro e w1 ⟨F1,rfl,hd1,hf1,hB1⟩
 have HD1 := zA0 hd1
 have HF1 := zA0 hf1
 have HB1 := zA0 hB1
 clear hd1 hf1 hB1
 obtain ⟨p,hp⟩ : ∃ p,p = w.heap.size + 1 + 1 := ⟨_,rfl⟩
 rw [<- hp] at HD1 ⊢
 clear hp
 go_wp2_with fail
 refine (zR6 p 0 M0 F1 w1 HD1.out rfl cln0.fw (by omega)).mono ?_
 intro e w2 ho
 have e0 : rdF sd0 (cOf M0.files lgN) = some (sd0,0) := zS1 sd0
 unfold OpP at ho
 rw [e0] at ho
 simp only at ho
 obtain ⟨q,F2,c0,rfl,hw2,hr2,hfr2,hq2⟩ := ho
 have eM : opM M0 0 = M0 := rfl
 rw [eM] at hw2
 have h08 : c0.length = 8 := hr2.len
 have H08 := zA0 h08
 have H0A : Hid (c0.toArray.all (·.oneCell') = true) := hr2.all
 have HNEW := zA0 (fun (w3 : World) (h3 : w3 = (w2.alloc (.cells Z39 39)).setRow w2.heap.size c0.toArray) => Lw.new HB1.out HF1.out hw2 hr2 hfr2 hq2 h3)
 clear hw2 hr2 hfr2 hq2 e0 eM h08
 obtain ⟨b5,hb5⟩ : ∃ b5,b5 = w2.heap.size := ⟨_,rfl⟩
 go_wp2_with (refine zA8 rfl 39 (.tmp 7) (.tmp 22) rfl w2.heap.size c0.toArray rfl rfl 39 Z39 (heap_alloc_new w2 (.cells Z39 39)) (by rw [z8 H08.out]; exact zC8) (by rw [z8 H08.out]; rfl) H0A.out ?nz)
 case nz =>
  intro w3 hw3h
  have HLW0 := zA0 (HNEW.out w3 hw3h.out)
  rw [<- hb5] at HLW0 ⊢
  clear hw3h hb5 HNEW HD1 HF1 HB1
  go_wp2
  go_loopw [9] (fun i wr => ∃ (k : Nat) (M : Md) (F : Nat -> Prop) (m : Sd) (cs : List Value),k <= n /\ i = .int .i64 (k : Int) /\ Hid (Lw w wr q p b5 M (4 + 4 * k) F m cs)) (fun i _ => n - (intOf i).toNat)
  case atStart => exact ⟨0,M0,F2,sd0,c0,Nat.zero_le _,rfl,HLW0⟩
  case round =>
   obtain ⟨k,M,F,m,cs,hk,rfl,HLW⟩ := hrel
   by_cases hlt : k < n
   · have hkl : k < vs.length := by rw [<- HN.out]; exact hlt
     obtain ⟨b1,o1,es,rfl,hsb,hre,hrg⟩ := xF7 HR.out hkl
     have hxk := HX.out k hkl
     obtain ⟨x,hxe⟩ : ∃ x,x = vs[k] := ⟨_,rfl⟩
     rw [<- hxe] at hre hxk
     have LB1 := zA0 hsb
     have HRG : Hid (wr.rangeAt b1 (o1 + k * 14) es) := zA0 (zB2 hrg (HLW.out.bel.block b1 hsb))
     have HEI := zA0 (xV8 hre.len)
     have HCI : Hid ((Tryz.prog.info? 39).map (·.size) = some cs.length) := zA0 (by rw [HLW.out.lenS]; exact zC8)
     have HLWD := zA0 (HLW.out.below (Below.refl _ wr).drew)
     have HDO := zA0 (xN4 (Rb wr.drew F q b5) q p (4 + 4 * k) M F m cs es x wr.drew HLWD.out.wal (fun _ h => h.1) HLWD.out.rep (HLWD.out.inp hre) hxk HLW.out.good.cln.fw (by omega))
     clear hre hrg hsb hxk hxe hkl
     go_wp2
     refine yL8 (fun wz : World => wz.rangeAt b5 0 cs /\ wz.rangeAt b1 (o1 + k * 14) es) 11 (by kernel_rfl) ?_
     have hHeld : (fun wz : World => wz.rangeAt b5 0 cs /\ wz.rangeAt b1 (o1 + k * 14) es) _ := ⟨zM0 (show wr.drew.heap[b5]? = _ from HLW.out.blk),HRG.out⟩
     refine tkMq 0 rfl (.pointer (some ⟨q,0,none⟩)) (by kernel_rfl) rfl (fun _ _ _ => id) (fun _ => hHeld) (by intro w; go_simp) ?_
     try simp only [aPa,aPc,aPd]
     refine tkMy 1 rfl (.agg cs.toArray) (by kernel_rfl) (fun _ _ _ => id) hHeld (yieldsIf_load_mid (by rfl) 39 (.tmp 7) rfl b5 0 rfl cs _ (fun _ h => h.1) Tryz.underlying39 rfl HCI.out) ?_
     try simp only [aPa,aPc,aPd]
     refine tkMq 2 rfl (.slice (some ⟨b1,o1,none⟩) n cap) (by kernel_rfl) rfl (fun _ _ _ => id) (fun _ => hHeld) (by intro w; go_simp) ?_
     try simp only [aPa,aPc,aPd]
     refine tkMq 3 rfl (.int .i64 (k : Int)) (by kernel_rfl) rfl (fun _ _ _ => id) (fun _ => hHeld) (by intro w; go_simp) ?_
     try simp only [aPa,aPc,aPd]
     refine tkMq 4 rfl (.pointer (some ⟨b1,o1 + k * 14,none⟩)) (by kernel_rfl) rfl (fun _ _ _ => id) (fun _ => hHeld) (by intro wz; go_simp; all_goals (first | done | (intro hh; exfalso; omega))) ?_
     try simp only [aPa,aPc,aPd]
     refine tkMy 5 rfl (.agg es.toArray) (by kernel_rfl) (fun _ _ _ => id) hHeld (yieldsIf_load_mid (by rfl) 54 (.tmp 41) rfl b1 (o1 + k * 14) rfl es _ (fun _ h => h.2) Tryz.underlying54 rfl HEI.out) ?_
     try simp only [aPa,aPc,aPd]
     refine tkMc 6 rfl (by kernel_rfl) rfl (fun K hK => ?_)
     go_simp
     refine Calls.mono HDO.out ?_
     intro e w2 hdp
     obtain ⟨c2,m2,M2,F2x,y2,rfl,hst⟩ := HLWD.out.step hdp
     have HST := zA0 hst
     have s2 : (fun wz : World => wz.rangeAt b5 0 cs /\ wz.rangeAt b1 (o1 + k * 14) es) w2 := ⟨zB2 hHeld.1 hst.bk,zB2 hHeld.2 (((hst.bel.block b1 LB1.out).trans (HLW.out.bel.block b1 LB1.out).symm))⟩
     have G2 := zA0 (hst.bk.trans (show wr.drew.heap[b5]? = _ from HLW.out.blk))
     have h28 : c2.length = 8 := hst.rep.len
     have H28 := zA0 h28
     have H2A : Hid (c2.toArray.all (·.oneCell') = true) := hst.rep.all
     clear hdp hst h28
     refine hK.out _ _ (fun _ => s2) ?_
     clear hHeld
     have hHeld := s2
     clear hK K
     try simp only [aPa,aPb,aPc,aPd]
     refine tkMq 7 rfl (.tuple #[.agg c2.toArray,.int .i64 y2,.int .i64 y2]) (by kernel_rfl) rfl (fun _ _ _ => id) (fun _ => hHeld) (by intro w; go_simp) ?_
     try simp only [aPa,aPc,aPd]
     refine tkMq 8 rfl (.agg c2.toArray) (by kernel_rfl) rfl (fun _ _ _ => id) (fun _ => hHeld) (by intro w; go_simp) ?_
     try simp only [aPa,aPc,aPd]
     refine tkMq 9 rfl (.int .i64 y2) (by kernel_rfl) rfl (fun _ _ _ => id) (fun _ => hHeld) (by intro w; go_simp) ?_
     try simp only [aPa,aPc,aPd]
     refine tkMq 10 rfl (.int .i64 y2) (by kernel_rfl) rfl (fun _ _ _ => id) (fun _ => hHeld) (by intro w; go_simp) ?_
     try simp only [aPa,aPc,aPd]
     refine tkMc 11 rfl (by kernel_rfl) rfl (fun K hK => ?_)
     clear hHeld s2
     refine wp_store_row 39 (.tmp 7) (.tmp 44) rfl b5 c2.toArray rfl rfl 39 cs.toArray G2.out (by rw [z8 H28.out]; exact zC8) (by rw [z8 H28.out,z8 HLW.out.lenS]) H2A.out ?_
     refine hK.out _ _ (fun h => absurd h (of_decide_eq_false (by kernel_rfl))) ?_
     clear hK K
     try simp only [aPb]
     refine yM2 (by kernel_rfl) ?_ _
     have HNX : Hid (Lw w (w2.setRow b5 c2.toArray) q p b5 M2 (4 + 4 * (k + 1)) F2x m2 c2) := zA0 (HST.out.lw HLWD.out (Below.refl _ w2))
     go_wp2
     exact ⟨⟨k + 1,M2,F2x,m2,c2,by omega,by go_num,HNX⟩,by simp [intOf]; omega⟩
   · obtain ⟨cn,hcn⟩ : ∃ cn,cn = 4 + 4 * k := ⟨_,rfl⟩
     rw [<- hcn] at HLW
     have hcb : cn <= 4194308 := by omega
     have HCB := zA0 hcb
     have HD := zA0 HLW.out.wal.dsk
     have HGD := zA0 HLW.out.good
     have HBR := zA0 HLW.out.bel
     have HFA := zA0 HLW.out.fa
     clear hcn hcb HLW
     go_wp2_with fail
     refine (yG0 pick p cn M F wr HD.out (by have := HCB.out; omega)).mono ?_
     rintro e w6 ⟨F6,rfl,hd6,hfr6⟩
     rw [HGD.out.cln.crash] at hd6
     have HD6 := zA0 hd6
     have HB6 : Hid (Below w.heap.size w w6) := zA0 (HBR.out.trans (hfr6.below HBR.out.size HFA.out))
     have HF6 : Hid (∀ k,F6 k -> w.heap.size <= k) := zA0 (hfr6.above HBR.out.size HFA.out)
     clear hd6 hfr6 HD HBR HFA
     go_wp2_with fail
     refine (zR6 p cn M F6 w6 HD6.out HGD.out.cln.left HGD.out.cln.fw (by have := HCB.out; omega)).mono ?_
     intro e w7 ho
     unfold OpP at ho
     rw [HGD.out.rd] at ho
     simp only at ho
     obtain ⟨q7,F7,c7,rfl,hw7,hr7,hfr7,hq7⟩ := ho
     rw [xC4 HGD.out] at hw7
     have h78 : c7.length = 8 := hr7.len
     have H78 := zA0 h78
     have H7A : Hid (c7.toArray.all (·.oneCell') = true) := hr7.all
     have HB7 : Hid (Below w.heap.size w w7) := zA0 (HB6.out.trans (hfr7.below HB6.out.size HF6.out))
     have HF7 : Hid (∀ k,F7 k -> w.heap.size <= k) := zA0 (hfr7.above HB6.out.size HF6.out)
     have HD7 := zA0 hw7.dsk
     have HR7 : Hid (Rep w7 (fun k => k < w7.heap.size /\ ¬ F7 k) zB9 c7 (dec m)) := zA0 (hr7.kept (Nat.le_refl _) (fun _ _ => rfl) (fun k hk => ⟨hk.1,hk.2.1⟩))
     have HML : Hid (m.bs.length <= 4194304) := zA0 (by have := hw7.len; omega)
     clear hw7 hr7 hfr7 hq7 h78 HD6 HB6 HF6
     obtain ⟨b11,hb11⟩ : ∃ b11,b11 = w7.heap.size := ⟨_,rfl⟩
     go_wp2_with (refine zA8 rfl 39 (.tmp 11) (.tmp 54) rfl w7.heap.size c7.toArray rfl rfl 39 Z39 (heap_alloc_new w7 (.cells Z39 39)) (by rw [z8 H78.out]; exact zC8) (by rw [z8 H78.out]; rfl) H7A.out ?ny)
     case ny =>
      intro w8 hw8h
      have hB78 : Below w7.heap.size w7 w8 := by rw [hw8h.out]; exact (zB6 w7 _).trans ⟨rfl,rfl,rfl,by simp [World.setRow],fun k hk => setRow_other _ _ _ _ (by omega)⟩
      have G8 : Hid (w8.heap[b11]? = some (.cells c7.toArray 39 (0,0))) := zA0 (by rw [hw8h.out,hb11]; exact setRow_heap _ _ _ _ 39 _ (heap_alloc_new w7 _))
      have HNB : Hid (¬ F7 b11) := zA0 (fun e => by have := HD7.out.flt _ e; omega)
      have HB8 := zA0 (HB7.out.trans (hB78.mono HB7.out.size))
      have HD8 := zA0 (HD7.out.below hB78)
      have HR8 : Hid (Rep w8 (fun k => k < w8.heap.size /\ ¬ F7 k) zB9 c7 (dec m)) := zA0 (HR7.out.kept hB78.size (fun k hk => hB78.block k hk.1) (fun k hk => ⟨Nat.lt_of_lt_of_le hk.1 hB78.size,hk.2⟩))
      rw [<- hb11]
      clear hw8h hB78 hb11 HD7 HB7 HR7
      go_wp2
      go_loopw [12] (fun i wr => ∃ (j : Nat) (F : Nat -> Prop),j <= 3 /\ i = .int .i64 (j : Int) /\ Hid (Dsk wr p M (cn + 4 + 4 * j) F) /\ Hid (wr.heap[b11]? = some (.cells c7.toArray 39 (0,0))) /\ Hid (¬ F b11) /\ Hid (Rep wr (fun k => k < wr.heap.size /\ ¬ F k) zB9 c7 (dec m)) /\ Hid (Below w.heap.size w wr) /\ Hid (∀ k,F k -> w.heap.size <= k)) (fun i _ => 3 - (intOf i).toNat)
      case atStart => exact ⟨0,F7,by omega,rfl,HD8,G8,HNB,HR8,HB8,HF7⟩
      case round =>
       obtain ⟨wz,hwz⟩ : ∃ wz,wz = wr := ⟨_,rfl⟩
       rw [<- hwz] at hrel ⊢
       clear hwz
       obtain ⟨j,Fj,hj,rfl,HDj,Gj,HNBj,HRj,HBj,HFj⟩ := hrel
       by_cases hlt : j < 3
       · go_wp2_with fail
         refine (yG0 pick p (cn + 4 + 4 * j) M Fj wz HDj.out (by have := HCB.out; omega)).mono ?_
         rintro e v6 ⟨E6,rfl,hd6,hfr6⟩
         rw [HGD.out.cln.crash] at hd6
         have HD6 := zA0 hd6
         have HB6 : Hid (Below w.heap.size w v6) := zA0 (HBj.out.trans (hfr6.below HBj.out.size HFj.out))
         have HF6 : Hid (∀ k,E6 k -> w.heap.size <= k) := zA0 (hfr6.above HBj.out.size HFj.out)
         have G6 := zA0 ((hfr6.block b11 (zA1 Gj.out) HNBj.out).trans Gj.out)
         have HNB6 : Hid (¬ E6 b11) := zA0 (hfr6.notF (zA1 Gj.out) HNBj.out)
         have HR6 : Hid (Rep v6 (fun k => k < v6.heap.size /\ ¬ E6 k) zB9 c7 (dec m)) := zA0 (HRj.out.kept hfr6.size (fun k hk => hfr6.block k hk.1 hk.2) (fun k hk => ⟨Nat.lt_of_lt_of_le hk.1 hfr6.size,hfr6.notF hk.1 hk.2⟩))
         clear hd6 hfr6 HDj Gj HNBj HRj HBj HFj
         go_wp2_with fail
         refine (zR6 p (cn + 4 + 4 * j) M E6 v6 HD6.out HGD.out.cln.left HGD.out.cln.fw (by have := HCB.out; omega)).mono ?_
         intro e v7 ho
         unfold OpP at ho
         rw [HGD.out.rd] at ho
         simp only at ho
         obtain ⟨r7,E7,d7,rfl,hw7,hr7,hfr7,hq7⟩ := ho
         rw [xC4 HGD.out] at hw7
         have h78 : d7.length = 8 := hr7.len
         have HD8' := zA0 h78
         have HD7A : Hid (d7.toArray.all (·.oneCell') = true) := hr7.all
         have HB7 : Hid (Below w.heap.size w v7) := zA0 (HB6.out.trans (hfr7.below HB6.out.size HF6.out))
         have HF7' : Hid (∀ k,E7 k -> w.heap.size <= k) := zA0 (hfr7.above HB6.out.size HF6.out)
         have HD7' : Hid (Dsk v7 p M (cn + 4 + 4 * (j + 1)) E7) := zA0 hw7.dsk
         have HRN : Hid (Rep v7 (fun k => k < v7.heap.size) zB9 d7 (dec m)) := zA0 (hr7.kept (Nat.le_refl _) (fun _ _ => rfl) (fun k hk => hk.1))
         have G7 := zA0 ((hfr7.block b11 (zA1 G6.out) HNB6.out).trans G6.out)
         have HNB7 : Hid (¬ E7 b11) := zA0 (hfr7.notF (zA1 G6.out) HNB6.out)
         have HR7' : Hid (Rep v7 (fun k => k < v7.heap.size /\ ¬ E7 k) zB9 c7 (dec m)) := zA0 (HR6.out.kept hfr7.size (fun k hk => hfr7.block k hk.1 hk.2) (fun k hk => ⟨Nat.lt_of_lt_of_le hk.1 hfr7.size,hfr7.notF hk.1 hk.2⟩))
         clear hw7 hr7 hfr7 hq7 h78 HD6 HB6 HF6 G6 HNB6 HR6
         obtain ⟨b14,hb14⟩ : ∃ b14,b14 = v7.heap.size := ⟨_,rfl⟩
         go_wp2_with (refine zA8 rfl 39 (.tmp 14) (.tmp 69) rfl v7.heap.size d7.toArray rfl rfl 39 Z39 (heap_alloc_new v7 (.cells Z39 39)) (by rw [z8 HD8'.out]; exact zC8) (by rw [z8 HD8'.out]; rfl) HD7A.out ?nx)
         case nx =>
          intro v8 hv8h
          have hB78 : Below v7.heap.size v7 v8 := by rw [hv8h.out]; exact (zB6 v7 _).trans ⟨rfl,rfl,rfl,by simp [World.setRow],fun k hk => setRow_other _ _ _ _ (by omega)⟩
          have GN : Hid (v8.heap[b14]? = some (.cells d7.toArray 39 (0,0))) := zA0 (by rw [hv8h.out,hb14]; exact setRow_heap _ _ _ _ 39 _ (heap_alloc_new v7 _))
          have G8' := zA0 ((hB78.block b11 (zA1 G7.out)).trans G7.out)
          have HB8' := zA0 (HB7.out.trans (hB78.mono HB7.out.size))
          have HD8'' := zA0 (HD7'.out.below hB78)
          have HR8' : Hid (Rep v8 (fun k => k < v8.heap.size /\ ¬ E7 k) zB9 c7 (dec m)) := zA0 (HR7'.out.kept hB78.size (fun k hk => hB78.block k hk.1) (fun k hk => ⟨Nat.lt_of_lt_of_le hk.1 hB78.size,hk.2⟩))
          have HSM := zA0 (yO0 c7 d7 m v8 (HR8'.out.kept (Nat.le_refl _) (fun _ _ => rfl) (fun k hk => hk.1)) (HRN.out.kept hB78.size (fun k hk => hB78.block k hk) (fun k hk => Nat.lt_of_lt_of_le hk hB78.size)) HGD.out.okd HML.out)
          rw [<- hb14]
          clear hv8h hB78 hb14 G7 HB7 HD7' HR7' HRN
          go_wp2_with (first
           | (refine wpList_load_row rfl 39 (.tmp 11) rfl b11 rfl 39 c7.toArray (0,0) _ G8'.out Tryz.underlying39 rfl (by rw [z8 H78.out]; exact zC8) ?_)
           | (refine wpList_load_row rfl 39 (.tmp 14) rfl b14 rfl 39 d7.toArray (0,0) _ GN.out Tryz.underlying39 rfl (by rw [z8 HD8'.out]; exact zC8) ?_))
          refine Calls.mono HSM.out ?_
          rintro e v9 ⟨rfl,hB9⟩
          have G9 := zA0 ((hB9.block b11 (zA1 G8'.out)).trans G8'.out)
          have HB9 := zA0 (HB8'.out.trans (hB9.mono HB8'.out.size))
          have HD9 := zA0 (HD8''.out.below hB9)
          have HR9 : Hid (Rep v9 (fun k => k < v9.heap.size /\ ¬ E7 k) zB9 c7 (dec m)) := zA0 (HR8'.out.kept hB9.size (fun k hk => hB9.block k hk.1) (fun k hk => ⟨Nat.lt_of_lt_of_le hk.1 hB9.size,hk.2⟩))
          clear hB9 HSM G8' HB8' HD8'' HR8' GN
          go_wp2
          exact ⟨⟨j + 1,E7,by omega,by go_num,HD9,G9,HNB7,HR9,HB9,HF7'⟩,by simp [intOf]; omega⟩
       · go_wp2_with fail
         refine (xD6 wz).mono ?_
         rintro e w9 ⟨rfl,hB9⟩
         have HB9 := zA0 (HBj.out.trans (hB9.mono HBj.out.size))
         clear hB9
         go_wp2
         go_ret
         exact ⟨rfl,HB9.out⟩
end
end Go.Proofs.YtocoimjhglackaaGreat
