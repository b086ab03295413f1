/- Wib, Wkb, Rgm, Wkc -/
import Derived.Test.YtocoimjhglackaaGreatP44
set_option maxHeartbeats 8000000
set_option maxRecDepth 100000
namespace Go.Proofs.YtocoimjhglackaaGreat
section
open Go.RowKit Go.Maps
theorem xE0 (w : World) : Calls Tryz.prog 12 #[] w fun e w'=>e = .returned (.bool true)/\Below w.heap.size w w':=by
 go_enter Tryz.func12,Tryz.ntmps12
 go_wp2_with fail
 refine (xP7 w).mono ?_
 rintro e w1 ⟨F1,rfl,hd1,hf1,hB1⟩
 have HD1:=zA0 hd1
 have HF1:=zA0 hf1
 have HB1:=zA0 hB1
 clear hd1 hf1 hB1
 obtain ⟨p,hp⟩ : ∃ p,p = w.heap.size + 1 + 1:=⟨_,rfl⟩
 rw [<- hp] at HD1 ⊢
 have HP:=zA0 hp
 clear hp
 go_wp2_with fail
 refine (yG9 p 0 M0 F1 w1 HD1.out rfl cln0.fw (by omega)).mono ?_
 intro e w2 ho
 have e0 : rdF sd0 (cOf M0.files lgN) = some (sd0,0):=zS2 sd0
 unfold OpP at ho
 rw [e0] at ho
 simp only at ho
 obtain ⟨q,F2,cs,rfl,hw2,hr2,hfr2,hq2⟩:=ho
 have eM : opM M0 0 = M0:=rfl
 rw [eM] at hw2
 have HW2:=zA0 hw2
 have HB2 : Hid (Below w.heap.size w w2):=zA0 (HB1.out.trans (hfr2.below HB1.out.size HF1.out))
 have HF2 : Hid (∀ k,F2 k->w.heap.size<=k):=zA0 (hfr2.above HB1.out.size HF1.out)
 have HQ2 : Hid (w.heap.size<=q):=zA0 (Nat.le_trans HB1.out.size hq2)
 obtain ⟨av,nv,cv,al,nl,cl,ad,nd,cd,ea,ec,rfl,_,_⟩:=zG6 hr2
 clear hw2 hr2 hfr2 hq2 e0 eM
 simp only [dec,sd0,List.map_nil,List.length_nil]
 generalize (snV ⟨0,0,none,0,[]⟩).1 = bi
 generalize (snV ⟨0,0,none,0,[]⟩).2.1 = bt
 go_wp2_with fail
 obtain ⟨w3,hw3⟩ : ∃ w3,w3 = w2.alloc (.cells #[.int .i64 0,.int .i64 0,.int .i64 bi,.int .i64 bt,.slice av nv cv,.slice al nl cl,.slice ad nd cd,.slice ea 0 ec] 39):=⟨_,rfl⟩
 have HB3 : Hid (Below w2.heap.size w2 w3):=zA0 (by rw [hw3]; exact zB6 w2 _)
 have hs3 : w3.heap.size = w2.heap.size + 1:=by rw [hw3]; simp
 rw [<- hw3,<- hs3]
 clear hw3 hs3
 have HSV:=zA0 (yG8 q p 4 M0 F2 sd0 1 2 (some ⟨w3.heap.size,0,none⟩) 1 1 [En1 1] (w3.alloc (.cells (Ec 1).toArray 73)) (HW2.out.below (HB3.out.alloc HB3.out.size _)) rfl (xH9 w3 1) (by simp) cln0.fw (by omega) (fun _=>kC2) (fun _=>by show m1.bs.length<=_; rw [zM7.2.2.2]; omega))
 have HBa : Hid (Below w.heap.size w (w3.alloc (.cells (Ec 1).toArray 73))):=zA0 ((HB2.out.trans (HB3.out.mono HB2.out.size)).alloc (by have:=HB2.out.size; have:=HB3.out.size; omega) _)
 refine Calls.mono HSV.out ?_
 rintro e w4 (⟨hn,_⟩ | ⟨_,hsv⟩)
 · exact absurd acc1 hn
 obtain ⟨F4,hfr4,rfl,hw4⟩:=hsv.good rfl
 have hg4:=kD8.save acc1
 obtain ⟨M4,hM4⟩ : ∃ M4,M4 = runT (zL3 M0 (moS 1 2 [En1 1]) (nxS sd0 1 2 [En1 1])) (zL3 M0 (moS 1 2 [En1 1]) (nxS sd0 1 2 [En1 1])).length M0:=⟨_,rfl⟩
 rw [<- hM4] at hw4 hg4
 have HW4 : Hid (WalR w4 q p M4 8 F4 m1 false):=zA0 hw4
 have HG4 : Hid (Good M4 m1):=zA0 hg4
 have hFq : ∀ k,Fq F2 q k->w.heap.size<=k:=fun k hk=>by
  rcases hk with hk | hk
  · exact HF2.out k hk
  · rw [hk]; exact HQ2.out
 have HB4 : Hid (Below w.heap.size w w4):=zA0 (HBa.out.trans (hfr4.below HBa.out.size hFq))
 have HF4 : Hid (∀ k,F4 k->w.heap.size<=k):=zA0 (fun k hk=>hfr4.above HBa.out.size hFq k (.inl hk))
 clear hsv hfr4 hw4 hg4 hM4 hFq HSV HBa HW2 HB3 HD1 HF1
 go_wp2_with fail
 have HS5:=zA0 (yG8 q p 8 M4 F4 m1 1 2 (some ⟨w4.heap.size,0,none⟩) 1 1 [En1 3] (w4.alloc (.cells (Ec 3).toArray 73)) (HW4.out.below (zB6 w4 _)) rfl (xH9 w4 3) (by simp) HG4.out.cln.fw (by omega) (fun h=>absurd h acc3) (fun h=>absurd h acc3))
 refine Calls.mono HS5.out ?_
 intro e w5 h5
 obtain ⟨rfl,hB5⟩ : e = .returned (.int .i64 1)/\Below (w4.alloc (.cells (Ec 3).toArray 73)).heap.size (w4.alloc (.cells (Ec 3).toArray 73)) w5:=by
  rcases h5 with ⟨_,a,b⟩ | ⟨h,_⟩
  · exact ⟨a,b⟩
  · exact absurd h acc3
 clear h5
 have HB45 : Hid (Below w4.heap.size w4 w5):=zA0 ((zB6 w4 _).trans (hB5.mono (by simp)))
 have HD5 : Hid (Dsk w5 p M4 8 F4):=zA0 (HW4.out.dsk.below HB45.out)
 have HB5 : Hid (Below w.heap.size w w5):=zA0 (HB4.out.trans (HB45.out.mono HB4.out.size))
 clear hB5 HS5 HB45 HW4
 go_wp2_with fail
 refine (yG3 0 p 8 M4 F4 w5 HD5.out (by omega)).mono ?_
 rintro e w6 ⟨F6,rfl,hd6,hfr6⟩
 rw [HG4.out.cln.crash] at hd6
 have HD6:=zA0 hd6
 have HB6 : Hid (Below w.heap.size w w6):=zA0 (HB5.out.trans (hfr6.below HB5.out.size HF4.out))
 have HF6 : Hid (∀ k,F6 k->w.heap.size<=k):=zA0 (hfr6.above HB5.out.size HF4.out)
 clear hd6 hfr6
 go_wp2_with fail
 refine (yG9 p 8 M4 F6 w6 HD6.out HG4.out.cln.left HG4.out.cln.fw (by omega)).mono ?_
 intro e w7 ho
 unfold OpP at ho
 rw [HG4.out.rd] at ho
 simp only at ho
 obtain ⟨q7,F7,cs7,rfl,hw7,hr7,hfr7,hq7⟩:=ho
 have HB7 : Hid (Below w.heap.size w w7):=zA0 (HB6.out.trans (hfr7.below HB6.out.size HF6.out))
 obtain ⟨av,nv,cv,al,nl,cl,ad,nd,cd,ea,ec,rfl,_,hrl⟩:=zG6 hr7
 have hm1 : (dec m1).2.2.length = 1:=by show (m1.bs.map dE).length = 1; rw [List.length_map]; exact zM7.2.2.2
 obtain ⟨b,off,es,rfl,hSb,hre,hrg⟩:=Rep.load (k:=0) hrl (by rw [hm1]; omega)
 obtain ⟨r,he,_⟩:=zD6 hre
 have hx : w7.cell? ⟨b,off,none⟩ = some (.int .i64 1):=by
  have h0:=hrg 0 (.int .i64 (eI ((dec m1).2.2[0]'(by rw [hm1]; omega)))) (by rw [he]; rfl)
  have h1 : eI ((dec m1).2.2[0]'(by rw [hm1]; omega)) = m1.base + 1 + (0 : Nat):=Okd.idx HG4.out.okd (k:=0) (by rw [List.length_map,zM7.2.2.2]; omega)
  rw [h1,zM7.2.2.1] at h0
  simpa using h0
 have lb : b < w7.heap.size:=hSb.1
 rw [hm1]
 have e1 : (dec m1).1.1 = 1:=zM7.1
 have e2 : (dec m1).1.2 = 2:=zM7.2.1
 rw [e1,e2]
 generalize (dec m1).2.1.1 = bi
 generalize (dec m1).2.1.2.1 = bt
 have HX:=zA0 hx
 have HLB:=zA0 lb
 clear hw7 hr7 hfr7 hq7 hrl hre hrg he hm1 hx lb e1 e2
 go_wp2_with fail
 refine (xO5 _).mono ?_
 rintro e w9 ⟨rfl,hB9⟩
 have G9 : Hid (w9.heap[w7.heap.size]? = some (.cells #[.int .i64 1,.int .i64 2,.int .i64 bi,.int .i64 bt,.slice av nv cv,.slice al nl cl,.slice ad nd cd,.slice (some ⟨b,off,none⟩) 1 ec] 39 (0,0))):=zA0 ((hB9.block _ (by simp)).trans (heap_alloc_new w7 _))
 have x9 : w9.cell? ⟨b,off,none⟩ = some (.int .i64 1):=(hB9.cell (p:=⟨b,off,none⟩) (by have:=HLB.out; simp; omega)).trans ((World.cell?_of_block (a:=⟨b,off,none⟩) (Below.heap_alloc w7 _ b HLB.out)).trans HX.out)
 have HB9 : Hid (Below w.heap.size w w9):=zA0 ((HB7.out.alloc HB7.out.size _).trans (hB9.mono (by have:=HB7.out.size; simp; omega)))
 have lb9 : b < w9.heap.size:=by have:=hB9.size; have:=HLB.out; simp at *; omega
 have c0 : w9.cell? ⟨w7.heap.size,0,none⟩ = some (.int .i64 1):=cor G9.out rfl
 have c1 : w9.cell? ⟨w7.heap.size,1,none⟩ = some (.int .i64 2):=cor G9.out rfl
 have c7 : w9.cell? ⟨w7.heap.size,7,none⟩ = some (.slice (some ⟨b,off,none⟩) 1 ec):=cor G9.out rfl
 have l9:=zA1 G9.out
 clear hB9
 simp only [Z39]
 go_wp2
 first | go_quiet (fail) | skip
 first | go_wp2 | skip
 go_ret
 have hBz:=HB9.out.alloc HB9.out.size (.cells #[.int .i64 0,.int .i64 0,.int .i64 0,.int .i64 0,.slice none 0 0,.slice none 0 0,.slice none 0 0,.slice none 0 0] 39)
 exact ⟨rfl,hBz.os,hBz.tape,hBz.output,hBz.size,hBz.block⟩
end
section
open Go.RowKit Go.Maps
def Rb (wr : World) (F : Nat->Prop) (q b : Nat) (k : Nat) : Prop:=Sw wr F q k/\k ≠ b
structure Lw (w0 wr : World) (q p b : Nat) (M : Md) (cnt : Nat) (F : Nat->Prop) (m : Sd) (cs : List Value) : Prop where
 wal : WalR wr q p M cnt F m false
 good : Good M m
 blk : wr.heap[b]? = some (.cells cs.toArray 39 (0,0))
 rep : Rep wr (Rb wr F q b) zC0 cs (dec m)
 nb : ¬ F b/\b ≠ q
 bel : Below w0.heap.size w0 wr
 fa : ∀ k,F k->w0.heap.size<=k
 qa : w0.heap.size<=q
 ba : w0.heap.size<=b
theorem Lw.below {w0 wr w' : World} {q p b : Nat} {M : Md} {cnt : Nat} {F : Nat->Prop} {m : Sd} {cs : List Value} (h : Lw w0 wr q p b M cnt F m cs) (hb : Below wr.heap.size wr w') : Lw w0 w' q p b M cnt F m cs :=
 ⟨h.wal.below hb,h.good,(hb.block b (zA1 h.blk)).trans h.blk,h.rep.kept hb.size (fun k hk=>hb.block k hk.1.1) (fun _k hk=>⟨⟨Nat.lt_of_lt_of_le hk.1.1 hb.size,hk.1.2⟩,hk.2⟩),h.nb,h.bel.trans (hb.mono h.bel.size),h.fa,h.qa,h.ba⟩
theorem Lw.inp {w0 wr : World} {q p b : Nat} {M : Md} {cnt : Nat} {F : Nat->Prop} {m : Sd} {cs : List Value} (h : Lw w0 wr q p b M cnt F m cs) {f : Fm} {es : List Value} {v : Vl f} (hr : Rep w0 (fun k=>k < w0.heap.size) f es v) : Rep wr (Rb wr F q b) f es v :=
 hr.kept h.bel.size (fun k hk=>h.bel.block k hk) (fun k hk=>⟨⟨Nat.lt_of_lt_of_le hk h.bel.size,fun e=>by have:=h.fa k e; omega,by have:=h.qa; omega⟩,by have:=h.ba; omega⟩)
theorem Lw.lenS {w0 wr : World} {q p b : Nat} {M : Md} {cnt : Nat} {F : Nat->Prop} {m : Sd} {cs : List Value} (h : Lw w0 wr q p b M cnt F m cs) : cs.length = 8:=h.rep.len
structure Stp1 (R : Nat->Prop) (w0 wr w' : World) (q p b : Nat) (cnt : Nat) (F : Nat->Prop) (m : Sd) (x : De) (M : Md) (cs' : List Value) (m' : Sd) (M' : Md) (F' : Nat->Prop) (y : Int) : Prop where
 wal : WalR w' q p M' (cnt + 4) F' m' false
 good : Good M' m'
 fr : Fr wr w' (Fq F q) (Fq F' q)
 rep : Rep w' (Rb w' F' q b) zC0 cs' (dec m')
 rep2 : Rep w' (fun k=>(R k\/wr.heap.size<=k)/\Sw w' F' q k) zC0 cs' (dec m')
 nb : ¬ F' b
 bk : w'.heap[b]? = wr.heap[b]?
 bel : Below w0.heap.size w0 w'
 fa : ∀ k,F' k->w0.heap.size<=k
 dsr : DsR w' q p cnt m x M m' y y F'
theorem Lw.stepR {R : Nat->Prop} {w0 wr w' : World} {q p b : Nat} {M : Md} {cnt : Nat} {F : Nat->Prop} {m : Sd} {cs : List Value} {x : De} {e : Ending} (h : Lw w0 wr q p b M cnt F m cs) (hRb : ∀ k,R k->k ≠ b) (hd : DsP R wr q p cnt F m x M e w') : ∃ cs' m' M' F' y,e = .returned (.tuple #[.agg cs'.toArray,.int .i64 y,.int .i64 y])/\Stp1 R w0 wr w' q p b cnt F m x M cs' m' M' F' y:=by
 obtain ⟨cs',s',want,got,F',he,hfr,hrep,hok,hlen,hds⟩:=hd
 have hFa : ∀ k,Fq F q k->w0.heap.size<=k:=fun k hk=>by
  rcases hk with hk | hk
  · exact h.fa k hk
  · rw [hk]; exact h.qa
 have hbel : Below w0.heap.size w0 w':=h.bel.trans (hfr.below h.bel.size hFa)
 have hfa : ∀ k,F' k->w0.heap.size<=k:=fun k hk=>hfr.above h.bel.size hFa k (.inl hk)
 have hbF : ¬ Fq F q b:=fun e=>by rcases e with e | e; exact h.nb.1 e; exact h.nb.2 e
 have hbk:=hfr.block b (zA1 h.blk) hbF
 have hnb : ¬ F' b:=fun e=>hfr.notF (zA1 h.blk) hbF (.inl e)
 have hrep2 : Rep w' (Rb w' F' q b) zC0 cs' (dec s'):=hrep.kept (Nat.le_refl _) (fun _ _=>rfl) (fun k hk=>⟨hk.2,by
  rcases hk.1 with h1 | h1
  · exact hRb k h1
  · have:=zA1 h.blk; omega⟩)
 have hds':=hds
 rcases hds with ⟨a1,a2,a3,a4⟩ | ⟨a0,a1,a2,a3,a4⟩ | ⟨a0,a1,a2,a3,k,a4,a5,a6⟩
 · subst a1 a2 a3
   exact ⟨cs',_,M,F',0,he,a4,h.good,hfr,hrep2,hrep,hnb,hbk,hbel,hfa,hds'⟩
 · subst a1 a2 a3
   exact ⟨cs',_,M,F',1,he,a4,h.good,hfr,hrep2,hrep,hnb,hbk,hbel,hfa,hds'⟩
 · rcases a6 with ⟨b1,b2,b3⟩ | ⟨b1,b2,_⟩
   · subst a1 b2 b1 a2
     exact ⟨cs',_,_,F',0,he,b3,h.good.deed a0,hfr,hrep2,hrep,hnb,hbk,hbel,hfa,hds'⟩
   · rw [zL8 h.good.cln.left] at b2
     exact absurd b2 (by decide)
theorem Lw.step {w0 wr w' : World} {q p b : Nat} {M : Md} {cnt : Nat} {F : Nat->Prop} {m : Sd} {cs : List Value} {x : De} {e : Ending} (h : Lw w0 wr q p b M cnt F m cs) (hd : DsP (Rb wr F q b) wr q p cnt F m x M e w') : ∃ cs' m' M' F' y,e = .returned (.tuple #[.agg cs'.toArray,.int .i64 y,.int .i64 y])/\Stp1 (Rb wr F q b) w0 wr w' q p b cnt F m x M cs' m' M' F' y:=h.stepR (fun _ hk=>hk.2) hd
theorem Stp1.lw {R : Nat->Prop} {w0 wr w' : World} {q p b : Nat} {cnt : Nat} {F : Nat->Prop} {m : Sd} {x : De} {M : Md} {cs cs' : List Value} {m' : Sd} {M' : Md} {F' : Nat->Prop} {y : Int} (h : Lw w0 wr q p b M cnt F m cs) (hs : Stp1 R w0 wr w' q p b cnt F m x M cs' m' M' F' y) {w2 : World} (hw : Below w'.heap.size w' w2) : Lw w0 (w2.setRow b cs'.toArray) q p b M' (cnt + 4) F' m' cs':=by
 have hb : w2.heap[b]? = some (.cells cs.toArray 39 (0,0)):=(hw.block b (by have:=zA1 h.blk; have:=hs.fr.size; omega)).trans (hs.bk.trans h.blk)
 have hB : Below w0.heap.size w2 (w2.setRow b cs'.toArray):=⟨rfl,rfl,rfl,by simp [World.setRow],fun k hk=>setRow_other _ _ _ _ (by have:=h.ba; omega)⟩
 refine ⟨(hs.wal.below hw).row hb (by decide) hs.nb h.nb.2 _,hs.good,setRow_heap _ _ _ _ 39 _ hb,?_,⟨hs.nb,h.nb.2⟩,(hs.bel.trans (hw.mono hs.bel.size)).trans hB,hs.fa,h.qa,h.ba⟩
 refine hs.rep.kept (Nat.le_trans hw.size hB.size) (fun k hk=>(setRow_other _ _ _ _ hk.2).trans (hw.block k hk.1.1)) (fun k hk=>⟨⟨Nat.lt_of_lt_of_le hk.1.1 (Nat.le_trans hw.size hB.size),hk.1.2⟩,hk.2⟩)
theorem Lw.reopen {w0 wr w6 w7 : World} {q p b q7 : Nat} {M : Md} {cnt c7 : Nat} {F F6 F7 : Nat->Prop} {m : Sd} {cs : List Value} (h : Lw w0 wr q p b M cnt F m cs) (h6 : Fr wr w6 F F6) (h7 : Fr w6 w7 F6 F7) (hw : WalR w7 q7 p M c7 F7 m false) (hq : w6.heap.size<=q7) : Lw w0 w7 q7 p b M c7 F7 m cs:=by
 have hf:=h6.trans h7
 have lb:=zA1 h.blk
 have hs:=h6.size
 refine ⟨hw,h.good,(hf.block b lb h.nb.1).trans h.blk,h.rep.kept hf.size (fun k hk=>hf.block k hk.1.1 hk.1.2.1) (fun k hk=>⟨⟨Nat.lt_of_lt_of_le hk.1.1 hf.size,hf.notF hk.1.1 hk.1.2.1,by have:=hk.1.1; omega⟩,hk.2⟩),⟨hf.notF lb h.nb.1,by omega⟩,h.bel.trans (hf.below h.bel.size h.fa),hf.above h.bel.size h.fa,?_,h.ba⟩
 have:=h.bel.size
 omega
theorem Lw.new {w0 w1 w2 : World} {p : Nat} {F1 F : Nat->Prop} {q : Nat} {cs : List Value} {w3 : World} (hB1 : Below w0.heap.size w0 w1) (hF1 : ∀ k,F1 k->w0.heap.size<=k) (hw : WalR w2 q p M0 4 F sd0 false) (hr : Rep w2 (Sw w2 F q) zC0 cs (dec sd0)) (hfr : Fr w1 w2 F1 F) (hq : w1.heap.size<=q) (h3 : w3 = (w2.alloc (.cells Z39 39)).setRow w2.heap.size cs.toArray) : Lw w0 w3 q p w2.heap.size M0 4 F sd0 cs:=by
 have hB2 : Below w0.heap.size w0 w2:=hB1.trans (hfr.below hB1.size hF1)
 have hB23 : Below w2.heap.size w2 w3:=by rw [h3]; exact (zB6 w2 _).trans ⟨rfl,rfl,rfl,by simp [World.setRow],fun k hk=>setRow_other _ _ _ _ (by omega)⟩
 have hqa : w0.heap.size<=q:=Nat.le_trans hB1.size hq
 refine ⟨hw.below hB23,kD8,by rw [h3]; exact setRow_heap _ _ _ _ 39 _ (heap_alloc_new w2 _),?_,⟨fun e=>Nat.lt_irrefl _ (hw.dsk.flt _ e),fun e=>by have:=hw.lq; omega⟩,hB2.trans (hB23.mono hB2.size),hfr.above hB1.size hF1,hqa,hB2.size⟩
 exact hr.kept hB23.size (fun k hk=>hB23.block k hk.1) (fun k hk=>⟨⟨Nat.lt_of_lt_of_le hk.1 hB23.size,hk.2⟩,by have:=hk.1; omega⟩)
theorem Lw.put {w0 w3 : World} {q p b : Nat} {M : Md} {cnt : Nat} {F : Nat->Prop} {m : Sd} {cs old : List Value} (hw : WalR w3 q p M cnt F m false) (hg : Good M m) (hb : w3.heap[b]? = some (.cells old.toArray 39 (0,0))) (hr : Rep w3 (Rb w3 F q b) zC0 cs (dec m)) (nb : ¬ F b/\b ≠ q) (bel : Below w0.heap.size w0 w3) (fa : ∀ k,F k->w0.heap.size<=k) (qa : w0.heap.size<=q) (ba : w0.heap.size<=b) {w4 : World} (h4 : w4 = w3.setRow b cs.toArray) : Lw w0 w4 q p b M cnt F m cs:=by
 subst h4
 have hB : Below w0.heap.size w3 (w3.setRow b cs.toArray):=⟨rfl,rfl,rfl,by simp [World.setRow],fun k hk=>setRow_other _ _ _ _ (by omega)⟩
 refine ⟨hw.row hb (by decide) nb.1 nb.2 _,hg,setRow_heap _ _ _ _ 39 _ hb,?_,nb,bel.trans hB,fa,qa,ba⟩
 exact hr.kept hB.size (fun k hk=>setRow_other _ _ _ _ hk.2) (fun k hk=>⟨⟨Nat.lt_of_lt_of_le hk.1.1 hB.size,hk.1.2⟩,hk.2⟩)
theorem Lw.cnt {w0 wr : World} {q p b : Nat} {M : Md} {cnt cnt' : Nat} {F : Nat->Prop} {m : Sd} {cs : List Value} (h : Lw w0 wr q p b M cnt F m cs) (h1 : cnt<=cnt') (h2 : cnt'<=4398046511104) : Lw w0 wr q p b M cnt' F m cs:=⟨h.wal.cnt h1 h2,h.good,h.blk,h.rep,h.nb,h.bel,h.fa,h.qa,h.ba⟩
end
section
section Sc1
variable {P : Program} {ops : Array Oper} {Q : Exit->Act->World->Prop} {md : Region.Mode} {S : World->Prop} {L : Nat}
def zE5 (P : Program) (md : Region.Mode) (ops : Array Oper) (Q : Exit->Act->World->Prop) (S : World->Prop) (L : Nat) : Nat->Array Bool->Act->World->Prop
 | 0,listed,a,w=>Region.ready md ops listed = []/\Q .normal a w
 | fuel + 1,listed,a,w =>
  (Region.ready md ops listed = []->Q .normal a w) /\
  ∀ i ∈ Region.ready md ops listed,wpOp P ops Q i (fun a' w'=>((listed.setIfInBounds i true).getD L true = false->S w')/\zE5 P md ops Q S L fuel (listed.setIfInBounds i true) a' w') a w
theorem yA8 : ∀ (fuel : Nat) (listed : Array Bool) (a : Act) (w : World),zE5 P md ops Q S L fuel listed a w->wpAny P md ops Q fuel listed a w
 | 0,_,_,_,h=>h
 | fuel + 1,_,_,_,h=>⟨h.1,fun i hi=>wpOp_mono (fun a' w' h'=>yA8 fuel _ a' w' h'.2) (h.2 i hi)⟩
theorem zJ5 {l : Array Bool} {i L : Nat} (h : (l.setIfInBounds i true).getD L true = false) : l.getD L true = false:=by
 by_cases e : i = L
 · subst e
   rcases Nat.lt_or_ge i l.size with h' | h'
   · simp [h'] at h
   · simp [h'] at h
 · rw [getD_set_ne true e] at h; exact h
theorem yH2 {i : Nat} {oi : Oper} {v : Value} (hi : ops[i]? = some oi) (hsel : ∀ (j : Nat) (o : Oper) cs b,ops[j]? = some o->o.op ≠ .select cs b)
    (hw : zW7 md ops L i = true) (hQ : ∀ c a w,Q (.panic c) (a.put oi.dst v) w->Q (.panic c) a w) :
    ∀ (fuel : Nat) (listed : Array Bool) (a : Act) (w : World),
     (∀ j oj,ops[j]? = some oj->j ≠ i->listed.getD j true = false->(∀ e ∈ oj.after,Region.binds md e = true->e.on ≠ i)->oi.apart ops oj = true) ->
     i ∈ Region.ready md ops listed->YieldsIf P ops S oi v a->listed.getD L true = false->S w ->
     zE5 P md ops Q S L fuel (listed.setIfInBounds i true) (a.put oi.dst v) w->zE5 P md ops Q S L (fuel + 1) listed a w:=by
 intro fuel
 induction fuel with
 | zero =>
  intro listed a w _ hr hy _ hS H
  refine ⟨fun h=>(by rw [h] at hr; cases hr),fun j hj=>?_⟩
  by_cases hji : j = i
  · subst hji; exact hy.wpOp hi hS ⟨fun _=>hS,H⟩
  · have:=ready_mono hj hji
    rw [H.1] at this
    cases this
 | succ fuel ih =>
  intro listed a w hfree hr hy hL hS H
  refine ⟨fun h=>(by rw [h] at hr; cases hr),fun j hj=>?_⟩
  by_cases hji : j = i
  · subst hji; exact hy.wpOp hi hS ⟨fun _=>hS,H⟩
  · have h1:=H.2 j (ready_mono hj hji)
    obtain ⟨hjun,oj,hoj,hall⟩:=mem_ready.1 hj
    have hnot : ∀ e ∈ oj.after,Region.binds md e = true->e.on ≠ i:=fun e he hb heq=>by
     have h1:=hall e he hb
     have h0:=(mem_ready.1 hr).1
     rw [heq] at h1
     rcases Nat.lt_or_ge i listed.size with h' | h'
     · simp [h'] at h0 h1; rw [h0] at h1; cases h1
     · simp [Array.getElem?_eq_none h'] at h1
    have hjL : j ≠ L:=by
     intro e
     subst e
     unfold zW7 at hw
     rw [hoj] at hw
     simp only [Option.any_some,Array.any_eq_true'] at hw
     obtain ⟨e,he,hb⟩:=hw
     rw [Bool.and_eq_true] at hb
     exact hnot e he hb.1 (by simpa using hb.2)
    have h2:=wpOp_putIf hoj (hfree j oj hoj hji hjun hnot) (fun cs b=>hsel i oi cs b hi) (fun cs b=>hsel j oj cs b hoj) hQ hy h1
    have hfree' : ∀ k ok,ops[k]? = some ok->k ≠ i->(listed.setIfInBounds j true).getD k true = false ->
        (∀ e ∈ ok.after,Region.binds md e = true->e.on ≠ i)->oi.apart ops ok = true:=fun k ok hk hki hun hno=>by
     refine hfree k ok hk hki ?_ hno
     by_cases hjk : j = k
     · subst hjk; exact hjun
     · rw [getD_set_ne true hjk] at hun; exact hun
    have hiL : i ≠ L:=by
     intro e
     subst e
     have h0:=(mem_ready.1 hr)
     unfold zW7 at hw
     rw [hi] at hw
     simp only [Option.any_some,Array.any_eq_true'] at hw
     obtain ⟨e,he,hb⟩:=hw
     rw [Bool.and_eq_true] at hb
     obtain ⟨h3,o3,h4,h5⟩:=h0
     rw [hi] at h4
     cases h4
     have h6:=h5 e he hb.1
     have h7 : e.on = i:=by simpa using hb.2
     rw [h7] at h6
     rcases Nat.lt_or_ge i listed.size with h' | h'
     · simp [h'] at h3 h6; rw [h3] at h6; cases h6
     · simp [Array.getElem?_eq_none h'] at h6
    have hL' : (listed.setIfInBounds j true).getD L true = false:=by rw [getD_set_ne true hjL]; exact hL
    have hL2 : ((listed.setIfInBounds i true).setIfInBounds j true).getD L true = false:=by rw [getD_set_ne true hjL,getD_set_ne true hiL]; exact hL
    refine wpOp_mono (fun a' w' h3=>⟨fun _=>h3.2.1 hL2,ih (listed.setIfInBounds j true) a' w' hfree' (ready_mono hr (Ne.symm hji)) h3.1 hL' (h3.2.1 hL2) ?_⟩) h2
    rw [Array.setIfInBounds_comm _ _ hji]
    exact h3.2.2
theorem yM5 {i : Nat} {oi : Oper} {v : Value} (hi : ops[i]? = some oi) (hsel : ∀ (j : Nat) (o : Oper) cs b,ops[j]? = some o->o.op ≠ .select cs b)
    (hiL : i ≠ L) (hQ : ∀ c a w,Q (.panic c) (a.put oi.dst v) w->Q (.panic c) a w) :
    ∀ (fuel : Nat) (listed : Array Bool) (a : Act) (w : World),
     (∀ j oj,ops[j]? = some oj->j ≠ i->listed.getD j true = false->(∀ e ∈ oj.after,Region.binds md e = true->e.on ≠ i)->oi.apart ops oj = true) ->
     i ∈ Region.ready md ops listed->YieldsIf P ops (fun _=>True) oi v a->(listed.getD L true = false->S w) ->
     zE5 P md ops Q S L fuel (listed.setIfInBounds i true) (a.put oi.dst v) w->zE5 P md ops Q S L (fuel + 1) listed a w:=by
 intro fuel
 induction fuel with
 | zero =>
  intro listed a w _ hr hy hS H
  refine ⟨fun h=>(by rw [h] at hr; cases hr),fun j hj=>?_⟩
  by_cases hji : j = i
  · subst hji; exact hy.wpOp hi trivial ⟨fun hL=>hS (zJ5 hL),H⟩
  · have:=ready_mono hj hji
    rw [H.1] at this
    cases this
 | succ fuel ih =>
  intro listed a w hfree hr hy hS H
  refine ⟨fun h=>(by rw [h] at hr; cases hr),fun j hj=>?_⟩
  by_cases hji : j = i
  · subst hji; exact hy.wpOp hi trivial ⟨fun hL=>hS (zJ5 hL),H⟩
  · have h1:=H.2 j (ready_mono hj hji)
    obtain ⟨hjun,oj,hoj,hall⟩:=mem_ready.1 hj
    have hnot : ∀ e ∈ oj.after,Region.binds md e = true->e.on ≠ i:=fun e he hb heq=>by
     have h1:=hall e he hb
     have h0:=(mem_ready.1 hr).1
     rw [heq] at h1
     rcases Nat.lt_or_ge i listed.size with h' | h'
     · simp [h'] at h0 h1; rw [h0] at h1; cases h1
     · simp [Array.getElem?_eq_none h'] at h1
    have h2:=wpOp_putIf hoj (hfree j oj hoj hji hjun hnot) (fun cs b=>hsel i oi cs b hi) (fun cs b=>hsel j oj cs b hoj) hQ hy h1
    have hfree' : ∀ k ok,ops[k]? = some ok->k ≠ i->(listed.setIfInBounds j true).getD k true = false ->
        (∀ e ∈ ok.after,Region.binds md e = true->e.on ≠ i)->oi.apart ops ok = true:=fun k ok hk hki hun hno=>by
     refine hfree k ok hk hki ?_ hno
     by_cases hjk : j = k
     · subst hjk; exact hjun
     · rw [getD_set_ne true hjk] at hun; exact hun
    have hL2 : (listed.setIfInBounds j true).getD L true = false->((listed.setIfInBounds i true).setIfInBounds j true).getD L true = false:=fun h=>by
     rw [Array.setIfInBounds_comm _ _ (Ne.symm hji),getD_set_ne true hiL]; exact h
    refine wpOp_mono (fun a' w' h3=>⟨fun h=>h3.2.1 (hL2 h),ih (listed.setIfInBounds j true) a' w' hfree' (ready_mono hr (Ne.symm hji)) h3.1 (fun h=>h3.2.1 (hL2 h)) ?_⟩) h2
    rw [Array.setIfInBounds_comm _ _ hji]
    exact h3.2.2
theorem yM4 {i : Nat} {oi : Oper} {v : Value} {fuel : Nat} {listed : Array Bool} {a : Act} {w : World} (hi : ops[i]? = some oi)
    (hs : Region.noSelect ops = true) (hw : zW7 md ops L i = true) (hf : Region.free md ops listed i = true) (hr : (Region.ready md ops listed).contains i = true) (hL : listed.getD L true = false)
    (hQ : ∀ c a w,Q (.panic c) (a.put oi.dst v) w->Q (.panic c) a w) (hy : YieldsIf P ops S oi v a) (hS : S w)
    (h : zE5 P md ops Q S L fuel (listed.setIfInBounds i true) (a.put oi.dst v) w) : zE5 P md ops Q S L (fuel + 1) listed a w :=
 yH2 hi (Region.noSelect_spec hs) hw hQ fuel listed a w (Region.free_spec hi hf) (by simpa using hr) hy hL hS h
theorem yH1 {i : Nat} {oi : Oper} {v : Value} {fuel : Nat} {listed : Array Bool} {a : Act} {w : World} (hi : ops[i]? = some oi)
    (hs : Region.noSelect ops = true) (hiL : i ≠ L) (hf : Region.free md ops listed i = true) (hr : (Region.ready md ops listed).contains i = true)
    (hQ : ∀ c a w,Q (.panic c) (a.put oi.dst v) w->Q (.panic c) a w) (hy : YieldsIf P ops (fun _=>True) oi v a) (hS : listed.getD L true = false->S w)
    (h : zE5 P md ops Q S L fuel (listed.setIfInBounds i true) (a.put oi.dst v) w) : zE5 P md ops Q S L (fuel + 1) listed a w :=
 yM5 hi (Region.noSelect_spec hs) hiL hQ fuel listed a w (Region.free_spec hi hf) (by simpa using hr) hy hS h
theorem zV6 {listed : Array Bool} {a : Act} {w : World} (hr : Region.ready md ops listed = []) (h : Q .normal a w) :
    ∀ fuel,zE5 P md ops Q S L fuel listed a w
 | 0=>⟨hr,h⟩
 | _ + 1=>⟨fun _=>h,by rw [hr]; simp⟩
theorem yV8 {i : Nat} {o : Oper} {fuel : Nat} {listed : Array Bool} {a : Act} {w : World} (hr : Region.ready md ops listed = [i]) (ho : ops[i]? = some o)
    (h : ∀ K' : Act->World->Prop,Shut (∀ a w,((listed.setIfInBounds i true).getD L true = false->S w)->zE5 P md ops Q S L fuel (listed.setIfInBounds i true) a w->K' a w)->if Region.wanted o (yielded ops a.tmps) = true then Oper.wp P o a w K' Q else K' (a.put o.dst undef) w) :
    zE5 P md ops Q S L (fuel + 1) listed a w:=by
 refine ⟨fun h0=>(by rw [hr] at h0; cases h0),fun j hj=>?_⟩
 rw [hr,List.mem_singleton] at hj
 subst hj
 exact wpOp_step ho (fun K' hK=>h K' (fun a w hS hW=>hK a w ⟨hS,hW⟩))
theorem yV7 {i j : Nat} {oi oj : Oper} {fuel : Nat} {listed : Array Bool} {a : Act} {w : World} (hr : Region.ready md ops listed = [i,j]) (hi : ops[i]? = some oi) (hj : ops[j]? = some oj)
    (h1 : ∀ K' : Act->World->Prop,Shut (∀ a w,((listed.setIfInBounds i true).getD L true = false->S w)->zE5 P md ops Q S L fuel (listed.setIfInBounds i true) a w->K' a w)->if Region.wanted oi (yielded ops a.tmps) = true then Oper.wp P oi a w K' Q else K' (a.put oi.dst undef) w)
    (h2 : ∀ K' : Act->World->Prop,Shut (∀ a w,((listed.setIfInBounds j true).getD L true = false->S w)->zE5 P md ops Q S L fuel (listed.setIfInBounds j true) a w->K' a w)->if Region.wanted oj (yielded ops a.tmps) = true then Oper.wp P oj a w K' Q else K' (a.put oj.dst undef) w) :
    zE5 P md ops Q S L (fuel + 1) listed a w:=by
 refine ⟨fun h0=>(by rw [hr] at h0; cases h0),fun k hk=>?_⟩
 rw [hr] at hk
 rcases List.mem_cons.1 hk with e | e
 · subst e
   exact wpOp_step hi (fun K' hK=>h1 K' (fun a w hS hW=>hK a w ⟨hS,hW⟩))
 · rw [List.mem_singleton] at e
   subst e
   exact wpOp_step hj (fun K' hK=>h2 K' (fun a w hS hW=>hK a w ⟨hS,hW⟩))
theorem yM2 {id : Nat} {a : Act} {w : World} (S : World->Prop) (L : Nat) (hm : P.follows .mixedOrders = true)
    (h : zE5 P .any ops Q S L ops.size (Array.replicate ops.size false) a w.drew) : (Code.region id ops true).wp P Q a w :=
 wp_region_any hm (yA8 _ _ _ _ h)
theorem tkMy {oi : Oper} {fuel : Nat} {listed : Array Bool} {a : Act} {w : World} (i : Nat) (hi : ops.toList[i]? = some oi) (v : Value) (hc : (Region.noSelect ops && (Region.free md ops listed i && ((Region.ready md ops listed).contains i && (zW7 md ops L i && !(listed.getD L true))))) = true) (hQ : ∀ c a w,Q (.panic c) (a.put oi.dst v) w->Q (.panic c) a w) (hS : S w) (hy : YieldsIf P ops S oi v a) (h : zE5 P md ops Q S L fuel (listed.setIfInBounds i true) (a.put oi.dst v) w) : zE5 P md ops Q S L (fuel + 1) listed a w:=by
 simp only [Bool.and_eq_true] at hc
 exact yM4 (atL hi) hc.1 hc.2.2.2.1 hc.2.1 hc.2.2.1 (by simpa using hc.2.2.2.2) hQ hy hS h
theorem tkMc {o : Oper} {fuel : Nat} {listed : Array Bool} {a : Act} {w : World} (i : Nat) (ho : ops.toList[i]? = some o) (hr : Region.ready md ops listed = [i]) (hw : Region.wanted o (yielded ops a.tmps) = true) (h : ∀ K' : Act->World->Prop,Shut (∀ a w,((listed.setIfInBounds i true).getD L true = false->S w)->zE5 P md ops Q S L fuel (listed.setIfInBounds i true) a w->K' a w)->Oper.wp P o a w K' Q) : zE5 P md ops Q S L (fuel + 1) listed a w :=
 yV8 hr (atL ho) (fun K' hK=>by rw [if_pos hw]; exact h K' hK)
theorem tkMq {oi : Oper} {fuel : Nat} {listed : Array Bool} {a : Act} {w : World} (i : Nat) (hi : ops.toList[i]? = some oi) (v : Value) (hc : (Region.noSelect ops && (Region.free md ops listed i && ((Region.ready md ops listed).contains i && !(i == L)))) = true) (hw : Region.wanted oi (yielded ops a.tmps) = true) (hQ : ∀ c a w,Q (.panic c) (a.put oi.dst v) w->Q (.panic c) a w) (hS : listed.getD L true = false->S w) (hy : ∀ w,(execOp a.eval oi).run P w = .ok (.value v) w) (h : zE5 P md ops Q S L fuel (listed.setIfInBounds i true) (a.put oi.dst v) w) : zE5 P md ops Q S L (fuel + 1) listed a w:=by
 simp only [Bool.and_eq_true] at hc
 exact yH1 (atL hi) hc.1 (by simpa using hc.2.2.2) hc.2.1 hc.2.2.1 hQ (.inl ⟨hw,fun w _=>hy w⟩) hS h
theorem tkM2 {i j : Nat} {oi oj : Oper} {fuel : Nat} {listed : Array Bool} {a : Act} {w : World} (hr : Region.ready md ops listed = [i,j]) (hi : ops.toList[i]? = some oi) (hj : ops.toList[j]? = some oj) (hwi : Region.wanted oi (yielded ops a.tmps) = true) (hwj : Region.wanted oj (yielded ops a.tmps) = true)
    (h1 : ∀ K' : Act->World->Prop,Shut (∀ a w,((listed.setIfInBounds i true).getD L true = false->S w)->zE5 P md ops Q S L fuel (listed.setIfInBounds i true) a w->K' a w)->Oper.wp P oi a w K' Q)
    (h2 : ∀ K' : Act->World->Prop,Shut (∀ a w,((listed.setIfInBounds j true).getD L true = false->S w)->zE5 P md ops Q S L fuel (listed.setIfInBounds j true) a w->K' a w)->Oper.wp P oj a w K' Q) :
    zE5 P md ops Q S L (fuel + 1) listed a w :=
 yV7 hr (atL hi) (atL hj) (fun K' hK=>by rw [if_pos hwi]; exact h1 K' hK) (fun K' hK=>by rw [if_pos hwj]; exact h2 K' hK)
end Sc1
end
section
open Go.RowKit Go.Maps
theorem xG0 {w : World} {S : Nat->Prop} {a : Option Addr} {vs : List De} (h : RepL w S zN2 a vs) {k : Nat} (hk : k < vs.length) : ∃ b off es,a = some ⟨b,off,none⟩/\S b/\Rep w S zN2 es vs[k]/\w.rangeAt b (off + k * 14) es:=by
 obtain ⟨b,off,e,hS,hes⟩:=h.2 (by intro e; rw [e] at hk; simp at hk)
 obtain ⟨es,h1,h2⟩:=hes k hk
 exact ⟨b,off,es,e,hS,h1,h2⟩
theorem xV9 {es : List Value} (h : es.length = 14) : (Tryz.prog.info? 54).map (·.size) = some es.length:=by rw [h]; kernel_rfl
theorem xC8 {M : Md} {m : Sd} (_h : Good M m) : opM M (cOf M.files lgN).length = M:=by unfold opM; rw [if_neg (by omega)]
end
end Go.Proofs.YtocoimjhglackaaGreat
