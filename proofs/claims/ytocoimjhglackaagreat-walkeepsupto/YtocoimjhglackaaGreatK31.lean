/- Wgg -/
import Derived.Test.YtocoimjhglackaaGreatK30
set_option maxHeartbeats 8000000
set_option maxRecDepth 100000
namespace Go.Proofs.YtocoimjhglackaaGreat
section
open Go.RowKit Go.Maps
def SaP (w:World) (q p cnt:Nat) (F:Nat->Prop) (m:Sd) (t v:Int) (vs:List En) (M:Md) (e:Ending) (w':World) : Prop :=
 (¬ accS m t v vs/\e = .returned (.int .i64 1)/\Below w.heap.size w w')\/(accS m t v vs/\SvO w q p cnt F m (nxS m t v vs) (zI7 M (moS t v vs) (nxS m t v vs)) M e w')
theorem zW1 (M:Md) (mo nx:Sd) : (zI7 M mo nx).length<=4:=by unfold zI7; split <;> simp [wa,ad]
theorem RowB.lt {w:World} {D:Nat} {v:Value} {bs:List (List UInt8)} (h:RowB w (fun k=>D<=k) v bs) : RowB w (fun k=>D<=k/\k < w.heap.size) v bs:=by
 obtain ⟨a,cap,h1,h2,h3,h4⟩:=h
 refine ⟨a,cap,h1,h2,h3,fun hne=>?_⟩
 obtain ⟨g,off,e,h5,h6,h7⟩:=h4 hne
 refine ⟨g,off,e,h5,⟨h6,h5.lt⟩,fun i hi=>?_⟩
 obtain ⟨x,h8,h9⟩:=h7 i hi
 exact ⟨x,h8,h9.1,fun k hk=>⟨h9.2 k hk,h9.1.lt k hk⟩⟩
theorem RowB.mono {w:World} {S S':Nat->Prop} {v:Value} {bs:List (List UInt8)} (h:RowB w S v bs) (hS:∀ k,S k->k < w.heap.size->S' k) : RowB w S' v bs:=by
 obtain ⟨a,cap,h1,h2,h3,h4⟩:=h
 refine ⟨a,cap,h1,h2,h3,fun hne=>?_⟩
 obtain ⟨g,off,e,h5,h6,h7⟩:=h4 hne
 refine ⟨g,off,e,h5,hS g h6 h5.lt,fun i hi=>?_⟩
 obtain ⟨x,h8,h9⟩:=h7 i hi
 exact ⟨x,h8,h9.1,fun k hk=>hS k (h9.2 k hk) (h9.1.lt k hk)⟩
theorem yT6 {m:Sd} {t v:Int} {vs:List En} (h:accS m t v vs) (hm:Okd m) (hl:vs.length<=1048576) : (zC9 (moS t v vs)).length<=281474976710:=by
 have hb:=(xD5 h hm hl).es
 have hbl : (bods vs).length = vs.length:=by unfold bods; simp
 rw [zI4]
 unfold yB1
 rw [List.length_append,zC0]
 have h1:=zH2 h.2.1 h.2.2
 have h2:=yQ1 (bods vs) (n0 vs) (fun b hb2=>by
  by_cases hne : vs = []
  · rw [hne] at hb2; cases hb2
  · have : (moS t v vs).bs = bods vs:=by unfold moS; rw [if_neg hne]
    exact hb b (by rw [this]; exact hb2))
 omega
theorem yG8 (q p cnt:Nat) (M:Md) (F:Nat->Prop) (m:Sd) (t v:Int) (a:Option Addr) (n cap:Nat) (vs:List En) (w:World) (h:WalR w q p M cnt F m false) (hn:n = vs.length) (hr:RepL w (fun k=>k < w.heap.size) zA8 a vs) (hl:vs.length<=1048576) (hfw:Fw M.files) (hc:cnt + 5<=2199023255552) (hnl:accS m t v vs->(zC9 (nxS m t v vs)).length<=1048576) (hml:accS m t v vs->(nxS m t v vs).bs.length<=2097152) :
    Calls Tryz.prog 36 #[.pointer (some ⟨q,0,none⟩),.agg #[.int .i64 t,.int .i64 v],.slice a n cap] w (SaP w q p cnt F m t v vs M):=by
 obtain ⟨w1,hw1⟩ : ∃ w1,w1 = w.alloc (.cells #[.int .i64 t,.int .i64 v] 31):=⟨_,rfl⟩
 have hB1 : Below w.heap.size w w1:=by rw [hw1]; exact zB5 w _
 have g4 : w1.heap[w.heap.size]? = some (.cells #[.int .i64 t,.int .i64 v] 31 (0,0)):=by rw [hw1]; exact heap_alloc_new w _
 have hs1 : w1.heap.size = w.heap.size + 1:=by rw [hw1]; simp
 obtain ⟨sv0,ev0,hwb,hsn,hrow⟩:=h.blk
 obtain ⟨sva,svn,svc,rfl⟩:=hsn.form
 obtain ⟨eva,evc,rfl,_⟩:=id hrow
 have lq:=h.lq
 have hwb1 : Wb w1 q p false m (.slice sva svn svc) (.slice eva m.bs.length evc):=(hB1.block q lq).trans hwb
 have hat1 : zE7 w1 (fun k=>k < w1.heap.size) q 2 m:=h.at.kept hB1.size (fun k hk=>hB1.block k hk.1) (fun k hk=>Nat.lt_of_lt_of_le hk.1 hB1.size) (hB1.block q lq)
 have HBO:=zA0 (yY4 (fun k=>k < w1.heap.size) q 2 m a n cap vs w1 hat1 (fun k hk=>hk) (by omega) h.okd.base (by have:=h.len; omega) hn (hr.kept hB1.size (fun k hk=>hB1.block k hk) (fun k hk=>by omega)) (by omega))
 have H:=zA0 h
 have HWB1:=zA0 hwb1
 have HB1:=zA0 hB1
 have HG4:=zA0 g4
 have HS1:=zA0 hs1
 have HN:=zA0 hn
 have HR:=zA0 hr
 have HL:=zA0 hl
 have HFW:=zA0 hfw
 have HC:=zA0 hc
 have HNL:=zA0 hnl
 have HML:=zA0 hml
 have LQ:=zA0 lq
 have HW1:=zA0 hw1
 have hn2 : (n:Int)<=1048576:=by omega
 obtain ⟨c0,c1,c2,c3,c4,c5,c6,lq1,fq1⟩:=hwb1.cells
 clear h hn hr hl hfw hc hnl hml hat1 hwb hsn hrow hwb1 hB1 g4 hs1 lq
 go_enter Tryz.func36,Tryz.ntmps36
 go_upto_region 1 with (fail)
 rw [<- hw1]
 clear hw1 HW1
 go_wp2_with fail
 refine Calls.mono HBO.out ?_
 rintro e w2 ⟨hb2,hcase⟩
 have hB02 : Below w.heap.size w w2:=HB1.out.trans (hb2.mono HB1.out.size)
 have HB02:=zA0 hB02
 have HB2:=zA0 hb2
 have g42 : w2.heap[w.heap.size]? = some (.cells #[.int .i64 t,.int .i64 v] 31 (0,0)):=(hb2.block _ (zA1 HG4.out)).trans HG4.out
 have HG42:=zA0 g42
 have t0 : w2.cell? ⟨w.heap.size,0,none⟩ = some (.int .i64 t):=cor g42 rfl
 have t1 : w2.cell? ⟨w.heap.size,1,none⟩ = some (.int .i64 v):=cor g42 rfl
 have l4:=zA1 g42
 clear hb2 g42 c0 c1 c2 c3 c4 c5 c6 lq1 fq1 hB02
 rcases hcase with ⟨hok,vb,rfl,hown⟩ | ⟨hno,rfl⟩
 · obtain ⟨ba,bc,hvb,hbc⟩:=hown.form
   subst hvb
   have hbl : (bods vs).length = n:=by unfold bods; rw [List.length_map]; exact HN.out.symm
   rw [hbl]
   have HOWN:=zA0 hown
   have HOK:=zA0 hok
   have HBL:=zA0 hbl
   clear hown hok hbl hbc
   by_cases hH : okN t/\okN v
   · have HACC : Hid (accS m t v vs):=zA0 ⟨HOK.out,hH⟩
     have HH:=zA0 hH
     clear hH
     go_wp2_with fail
     refine Calls.mono (zF4 t v _) ?_
     rintro e w3 ⟨rfl,hb3⟩
     rw [decide_eq_true HH.out]
     have hB03 : Below w.heap.size w w3:=HB02.out.trans (hb3.mono HB02.out.size)
     have hwb3 : Wb w3 q p false m (.slice sva svn svc) (.slice eva m.bs.length evc):=((hb3.block q (by have:=LQ.out; omega)).trans (HB2.out.block q (zA1 HWB1.out))).trans HWB1.out
     obtain ⟨c0,c1,c2,c3,c4,c5,c6,lq3,fq3⟩:=hwb3.cells
     have g43 : w3.heap[w.heap.size]? = some (.cells #[.int .i64 t,.int .i64 v] 31 (0,0)):=(hb3.block _ (zA1 HG42.out)).trans HG42.out
     have u0 : w3.cell? ⟨w.heap.size,0,none⟩ = some (.int .i64 t):=cor g43 rfl
     have u1 : w3.cell? ⟨w.heap.size,1,none⟩ = some (.int .i64 v):=cor g43 rfl
     have l43:=zA1 g43
     have HOWN3:=zA0 (HOWN.out.grow hb3)
     have HB03:=zA0 hB03
     have HWB3:=zA0 hwb3
     clear hb3 hwb3 g43 t0 t1 l4 hB03 HBO
     go_wp2
     have U0:=zA0 u0
     have U1:=zA0 u1
     have L43:=zA0 l43
     go_region
     · obtain ⟨b9,hb9⟩ : ∃ b9,b9 = w3.heap.size:=⟨_,rfl⟩
       obtain ⟨b10,hb10⟩ : ∃ b10,b10 = w3.heap.size + 1:=⟨_,rfl⟩
       obtain ⟨w4,hw4⟩ : ∃ w4,w4 = ((w3.alloc (.cells #[.int .i64 t,.int .i64 v,.slice none 0 0,.int .i64 0,.slice none 0 0] 94)).alloc (.cells #[.int .i64 m.t,.int .i64 m.v,.slice sva svn svc,.int .i64 m.base,.slice eva m.bs.length evc] 94)).drew:=⟨_,rfl⟩
       rw [<- hb10,<- hb9,<- hw4]
       have hB34 : Below w3.heap.size w3 w4:=by rw [hw4]; exact (((zB5 w3 _).alloc (by simp) _).drew)
       have g9 : w4.heap[b9]? = some (.cells #[.int .i64 t,.int .i64 v,.slice none 0 0,.int .i64 0,.slice none 0 0] 94 (0,0)):=by rw [hw4,hb9]; exact (Below.heap_alloc _ _ _ (by simp)).trans (heap_alloc_new w3 _)
       have g10 : w4.heap[b10]? = some (.cells #[.int .i64 m.t,.int .i64 m.v,.slice sva svn svc,.int .i64 m.base,.slice eva m.bs.length evc] 94 (0,0)):=by rw [hw4,hb10]; have hx:=heap_alloc_new (w3.alloc (.cells #[.int .i64 t,.int .i64 v,.slice none 0 0,.int .i64 0,.slice none 0 0] 94)) (.cells #[.int .i64 m.t,.int .i64 m.v,.slice sva svn svc,.int .i64 m.base,.slice eva m.bs.length evc] 94); rw [World.size_alloc] at hx; exact hx
       have B9L : Hid (w3.heap.size<=b9):=zA0 (by rw [hb9]; omega)
       have B10L : Hid (w3.heap.size<=b10):=zA0 (by rw [hb10]; omega)
       have B910 : Hid (b9 ≠ b10):=zA0 (by rw [hb9,hb10]; omega)
       have HB34:=zA0 hB34
       have G9:=zA0 g9
       have G10:=zA0 g10
       clear hw4 hb9 hb10
       have hBw4 : Below w.heap.size w w4:=HB03.out.trans (hB34.mono HB03.out.size)
       have HBW4:=zA0 hBw4
       have HFL : Hid (∀ k,F k->k < w3.heap.size):=zA0 (fun k hk=>by have:=H.out.dsk.flt k hk; have:=HB03.out.size; omega)
       have k0 : w4.cell? ⟨b10,0,none⟩ = some (.int .i64 m.t):=cor g10 rfl
       have k1 : w4.cell? ⟨b10,1,none⟩ = some (.int .i64 m.v):=cor g10 rfl
       have fb10 : ∀ o,w4.frozen? ⟨b10,o,none⟩ = false:=fun o=>by simp [World.frozen?,g10]
       have lb10:=zA1 g10
       have v0 : w4.cell? ⟨w.heap.size,0,none⟩ = some (.int .i64 t):=(hB34.cell (p:=⟨w.heap.size,0,none⟩) L43.out).trans U0.out
       have v1 : w4.cell? ⟨w.heap.size,1,none⟩ = some (.int .i64 v):=(hB34.cell (p:=⟨w.heap.size,1,none⟩) L43.out).trans U1.out
       have lw4 : w.heap.size < w4.heap.size:=Nat.lt_of_lt_of_le L43.out hB34.size
       clear hB34 hBw4 g9 g10
       go_upto_region 8 with (fail)
       obtain ⟨w5,hw5⟩ : ∃ w5,w5 = (w4.setCell ⟨b10,0,none⟩ (.int .i64 t)).setCell ⟨b10,1,none⟩ (.int .i64 v):=⟨_,rfl⟩
       rw [<- hw5]
       have hk5 : ∀ j,j ≠ b10->w5.heap[j]? = w4.heap[j]?:=fun j hj=>by rw [hw5]; exact (zB0 _ _ 1 _ j hj).trans (zB0 w4 _ 0 _ j hj)
       have hs5 : w5.heap.size = w4.heap.size:=by rw [hw5]; simp
       have hB45 : Below w3.heap.size w4 w5:=by rw [hw5]; exact (zC2 B10L.out w4 0 _).trans (zC2 B10L.out _ 1 _)
       have G105 : Hid (w5.heap[b10]? = some (.cells #[.int .i64 t,.int .i64 v,.slice sva svn svc,.int .i64 m.base,.slice eva m.bs.length evc] 94 (0,0))):=zA0 (by
        rw [hw5,heap_setCell_same _ _ 1 _ 94 _ (heap_setCell_same w4 _ 0 _ 94 _ G10.out)]
        rfl)
       have G95 : Hid (w5.heap[b9]? = some (.cells #[.int .i64 t,.int .i64 v,.slice none 0 0,.int .i64 0,.slice none 0 0] 94 (0,0))):=zA0 ((hk5 b9 B910.out).trans G9.out)
       have hBw5 : Below w.heap.size w w5:=HBW4.out.trans (hB45.mono HB03.out.size)
       have HB35 : Hid (Below w3.heap.size w3 w5):=zA0 (HB34.out.trans hB45)
       have HBW5:=zA0 hBw5
       have H5:=zA0 (H.out.below hBw5)
       have HWB5 : Hid (Wb w5 q p false m (.slice sva svn svc) (.slice eva m.bs.length evc)):=zA0 ((HB35.out.block q (zA1 HWB3.out)).trans HWB3.out)
       clear hw5 hk5 hs5 hB45 hBw5 k0 k1 fb10 lb10 v0 v1 lw4
       by_cases hnil : vs = []
       · have hn0 : n = 0:=by rw [HN.out,hnil]; rfl
         subst hn0
         have HMO : Hid (moS t v vs = ⟨t,v,none,0,[]⟩):=zA0 (if_pos hnil)
         have HNX : Hid (nxS m t v vs = setH m t v):=zA0 (by unfold nxS; rw [hnil]; exact zO6 _ _)
         have HNXC : Hid (zJ6 w5 (Sw w5 F q) [.int .i64 (nxS m t v vs).t,.int .i64 (nxS m t v vs).v,.slice sva svn svc,.int .i64 (nxS m t v vs).base,.slice eva m.bs.length evc] (nxS m t v vs)):=zA0 (by
          obtain ⟨sv1,ev1,b1,b2,b3⟩:=H5.out.blk
          have hw5b:=HWB5.out
          have e5:=hw5b.symm.trans b1
          simp only [Option.some.injEq,Obj.cells.injEq,Array.mk.injEq,List.cons.injEq,and_true,true_and] at e5
          obtain ⟨e5a,e5b⟩:=e5
          rw [HNX.out]
          subst e5a e5b
          exact ⟨_,_,rfl,b2,b3⟩)
         have HNT : Hid ((nxS m t v vs).t = t/\(nxS m t v vs).v = v/\(nxS m t v vs).base = m.base):=zA0 (by rw [HNX.out]; exact ⟨rfl,rfl,rfl⟩)
         have HMOC : Hid (zJ6 w5 (fun k=>k < w5.heap.size) [.int .i64 t,.int .i64 v,.slice none 0 0,.int .i64 0,.slice none 0 0] (moS t v vs)):=zA0 (by rw [HMO.out]; exact ⟨_,_,rfl,rfl,⟨none,0,rfl,Nat.le_refl _,by unfold maxLen; omega,fun h=>absurd rfl h⟩⟩)
         have HADD:=zA0 (yG7 q p cnt false _ _ _ _ _ [.int .i64 t,.int .i64 v,.slice none 0 0,.int .i64 0,.slice none 0 0] [.int .i64 t,.int .i64 v,.slice sva svn svc,.int .i64 m.base,.slice eva m.bs.length evc] (moS t v vs) (nxS m t v vs) M F w5 H5.out.dsk HWB5.out H5.out.nq HMOC.out (by have hx:=HNXC.out; rw [HNT.out.1,HNT.out.2.1,HNT.out.2.2] at hx; exact hx.kept (Nat.le_refl _) (fun _ _=>rfl) (fun k hk=>hk.1)) (xD5 HACC.out H.out.okd HL.out) ((zK3 H.out.okd HACC.out).fr (by have:=HML.out HACC.out; omega)) (HNL.out HACC.out) (yT6 HACC.out H.out.okd HL.out) HFW.out HC.out)
         have e0 : w5.cell? ⟨b10,0,none⟩ = some (.int .i64 t):=cor G105.out rfl
         have e1 : w5.cell? ⟨b10,1,none⟩ = some (.int .i64 v):=cor G105.out rfl
         have e2 : w5.cell? ⟨b10,2,none⟩ = some (.slice sva svn svc):=cor G105.out rfl
         have e3 : w5.cell? ⟨b10,3,none⟩ = some (.int .i64 m.base):=cor G105.out rfl
         have e4 : w5.cell? ⟨b10,4,none⟩ = some (.slice eva m.bs.length evc):=cor G105.out rfl
         have f0 : w5.cell? ⟨b9,0,none⟩ = some (.int .i64 t):=cor G95.out rfl
         have f1 : w5.cell? ⟨b9,1,none⟩ = some (.int .i64 v):=cor G95.out rfl
         have f2 : w5.cell? ⟨b9,2,none⟩ = some (.slice none 0 0):=cor G95.out rfl
         have f3 : w5.cell? ⟨b9,3,none⟩ = some (.int .i64 0):=cor G95.out rfl
         have f4 : w5.cell? ⟨b9,4,none⟩ = some (.slice none 0 0):=cor G95.out rfl
         have l9:=zA1 G95.out
         have l10:=zA1 G105.out
         have H6:=H5
         have HB06:=HBW5
         have LQ6:=zA0 (zA1 HWB5.out)
         have HWB6:=HWB5
         have G106:=G105
         have LB6:=zA0 (zA1 G105.out)
         clear hnil
         go_wp2_with fail
         refine Calls.mono HADD.out ?_
         rintro e w8 ⟨k,F',hk1,hk2,hd8,hcase8⟩
         have hd9:=hd8.cnt (cnt':=cnt + 4) (by have:=zW1 M (moS t v vs) (nxS m t v vs); omega) (by have:=HC.out; omega)
         have NB10 : ¬ F b10:=fun e=>by have:=HFL.out _ e; have:=B10L.out; omega
         rcases hcase8 with ⟨hk3,rfl,hf8⟩ | ⟨hk3,hz8,rfl,w9,hf9,rfl⟩
         · have hq8 : Wb w8 q p false m (.slice sva svn svc) (.slice eva m.bs.length evc):=(hf8.block q LQ6.out H.out.nq).trans HWB6.out
           obtain ⟨c0,c1,c2,c3,c4,c5,c6,lq8,fq8⟩:=hq8.cells
           have g8 : w8.heap[b10]? = _:=(hf8.block b10 LB6.out NB10).trans G106.out
           have e0 : w8.cell? ⟨b10,0,none⟩ = some (.int .i64 t):=cor g8 rfl
           have e1 : w8.cell? ⟨b10,1,none⟩ = some (.int .i64 v):=cor g8 rfl
           have e2 : w8.cell? ⟨b10,2,none⟩ = some (.slice sva svn svc):=cor g8 rfl
           have e3 : w8.cell? ⟨b10,3,none⟩ = some (.int .i64 m.base):=cor g8 rfl
           have e4 : w8.cell? ⟨b10,4,none⟩ = some (.slice eva m.bs.length evc):=cor g8 rfl
           have l10:=zA1 g8
           have HK1:=zA0 hk1
           have HK2:=zA0 hk2
           have HK3:=zA0 hk3
           have HF8:=zA0 hf8
           have HD9:=zA0 hd9
           clear hk1 hk2 hk3 hf8 hd8 hd9 hq8 g8 c0
           go_wp2
           go_ret
           have hset:=WalR.setS H6.out HF8.out HD9.out HNXC.out (zK3 H.out.okd HACC.out) (HML.out HACC.out)
           rw [HNT.out.1,HNT.out.2.1,HNT.out.2.2] at hset
           refine .inr ⟨HACC.out,k,F',HK1.out,HK2.out,?_,.inl ⟨HK3.out,rfl,hset⟩⟩
           exact (((((((Fr.of_below HB06.out).trans HF8.out).toQ q).setQ 2 _).setQ 3 _).setQ 4 _).setQ 5 _).setQ 6 _
         · have HK1:=zA0 hk1
           have HK2:=zA0 hk2
           have HK3:=zA0 hk3
           have HF9:=zA0 hf9
           have HZ8:=zA0 hz8
           have HD9:=zA0 hd9
           clear hk1 hk2 hk3 hf9 hd8 hd9 hz8
           go_wp2
           go_ret
           exact .inr ⟨HACC.out,k,F',HK1.out,HK2.out,(((Fr.of_below HB06.out).trans HF9.out).toQ q).setQ 1 _,.inr ⟨HK3.out,HZ8.out,rfl,WalR.fail H6.out HF9.out HD9.out⟩⟩
       · have hpos : 0 < vs.length:=List.length_pos_iff.2 hnil
         obtain ⟨b0,off0,es0,ha0,hb0l,hrep0,hrg0⟩:=Rep.load (k:=0) HR.out hpos
         obtain ⟨r0,he0,hr0⟩:=zD3 hrep0
         obtain ⟨x0,hx0⟩ : ∃ x0,x0 = vs[0]:=⟨_,rfl⟩
         have hN0 : eI x0 = n0 vs:=by unfold n0; rw [hx0]; cases vs with | nil=>simp at hpos | cons y ys=>rfl
         rw [<- hx0] at he0
         have hcc : w.cell? ⟨b0,off0,none⟩ = some (.int .i64 (n0 vs)):=by have:=hrg0 0 (.int .i64 (eI x0)) (by rw [he0]; rfl); rw [hN0] at this; simpa using this
         subst ha0
         have z0 : w5.cell? ⟨b0,off0,none⟩ = some (.int .i64 (n0 vs)):=(HBW5.out.cell (p:=⟨b0,off0,none⟩) hb0l).trans hcc
         have lb0 : b0 < w5.heap.size:=Nat.lt_of_lt_of_le hb0l HBW5.out.size
         have hx0ok:=HOK.out 0 x0 (by rw [hx0]; exact List.getElem?_eq_getElem hpos)
         have hr1 : n0 vs<=1099511627776:=by rw [<- hN0]; exact xG0 hx0ok.1
         have hr2 : m.base < n0 vs/\n0 vs<=m.base + m.bs.length + 1:=⟨hx0ok.2.2.1,hx0ok.2.2.2⟩
         have hbz:=H.out.okd.base
         have hpn : (0:Int) < (n:Int):=by have:=HN.out; omega
         have HB0L:=zA0 hb0l
         have HR2:=zA0 hr2
         have HPOS:=zA0 hpos
         have HNIL:=zA0 hnil
         have hr3 : 0<=n0 vs:=by have:=hbz.1; omega
         clear hrep0 hrg0 he0 hr0 hx0 hN0 hcc hx0ok hpos hnil
         obtain ⟨I0,hI0⟩ : ∃ I0,I0 = n0 vs:=⟨_,rfl⟩
         rw [<- hI0] at z0 hr1 hr2 hr3 HR2
         have f3 : w5.cell? ⟨b9,3,none⟩ = some (.int .i64 0):=cor G95.out rfl
         have f4 : w5.cell? ⟨b9,4,none⟩ = some (.slice none 0 0):=cor G95.out rfl
         have ff9 : ∀ o,w5.frozen? ⟨b9,o,none⟩ = false:=fun o=>by simp [World.frozen?,G95.out]
         have l9:=zA1 G95.out
         have HI0:=zA0 hI0
         clear hI0 hbz
         go_upto_region 10 with (fail)
         obtain ⟨w6,hw6⟩ : ∃ w6,w6 = (w5.setCell ⟨b9,3,none⟩ (.int .i64 (I0 - 1))).setCell ⟨b9,4,none⟩ (.slice ba n bc):=⟨_,rfl⟩
         rw [<- hw6]
         have hk6 : ∀ j,j ≠ b9->w6.heap[j]? = w5.heap[j]?:=fun j hj=>by rw [hw6]; exact (zB0 _ _ 4 _ j hj).trans (zB0 w5 _ 3 _ j hj)
         have hs6 : w6.heap.size = w5.heap.size:=by rw [hw6]; simp
         have hB56 : Below w3.heap.size w5 w6:=by rw [hw6]; exact (zC2 B9L.out w5 3 _).trans (zC2 B9L.out _ 4 _)
         have G96 : Hid (w6.heap[b9]? = some (.cells #[.int .i64 t,.int .i64 v,.slice none 0 0,.int .i64 (I0 - 1),.slice ba n bc] 94 (0,0))):=zA0 (by
          rw [hw6,heap_setCell_same _ _ 4 _ 94 _ (heap_setCell_same w5 _ 3 _ 94 _ G95.out)]
          rfl)
         have G106 : Hid (w6.heap[b10]? = some (.cells #[.int .i64 t,.int .i64 v,.slice sva svn svc,.int .i64 m.base,.slice eva m.bs.length evc] 94 (0,0))):=zA0 ((hk6 b10 (Ne.symm B910.out)).trans G105.out)
         have HB36 : Hid (Below w3.heap.size w3 w6):=zA0 (HB35.out.trans hB56)
         have HBW6:=zA0 (HBW5.out.trans (hB56.mono HB03.out.size))
         have H6:=zA0 (H.out.below HBW6.out)
         have HWB6 : Hid (Wb w6 q p false m (.slice sva svn svc) (.slice eva m.bs.length evc)):=zA0 ((HB36.out.block q (zA1 HWB3.out)).trans HWB3.out)
         have Z6 : Hid (w6.cell? ⟨b0,off0,none⟩ = some (.int .i64 I0)):=zA0 ((hB56.cell (p:=⟨b0,off0,none⟩) (by have:=HB0L.out; have:=HB03.out.size; show b0 < _; omega)).trans z0)
         have L06 : Hid (b0 < w6.heap.size):=zA0 (by omega)
         have LQ6:=zA0 (zA1 HWB6.out)
         have HROW6 : Hid (RowB w6 (fun k=>k < w3.heap.size/\¬ F k/\k ≠ q) (.slice ba (bods vs).length bc) (bods vs)):=zA0 (by
          have hr:=HOWN3.out.rowB
          have hk : ∀ k,(w1.heap.size<=k/\k < w3.heap.size)->w6.heap[k]? = w3.heap[k]?:=fun k hk=>HB36.out.block k hk.2
          have hsw : ∀ k,(w1.heap.size<=k/\k < w3.heap.size)->(k < w3.heap.size/\¬ F k/\k ≠ q):=fun k hk=>⟨hk.2,fun e=>by have:=H.out.dsk.flt _ e; have:=HS1.out; omega,by have:=LQ.out; have:=HS1.out; omega⟩
          exact (RowB.lt hr).kept HB36.out.size hk hsw)
         have HWI:=zA0 (yR4 (fun k=>k < w3.heap.size/\¬ F k/\k ≠ q) q 2 m I0 ba (bods vs).length bc (bods vs) w6.drew (show zE7 w6 (fun k=>k < w3.heap.size/\¬ F k/\k ≠ q) q 2 m from H.out.at.kept HBW6.out.size (fun k hk=>HBW6.out.block k hk.1) (fun k hk=>⟨by have:=HB03.out.size; have:=hk.1; omega,hk.2⟩) (HBW6.out.block q LQ.out)) (fun k hk=>Nat.lt_of_lt_of_le hk.1 HB36.out.size) LQ6.out H.out.okd.base (by have:=H.out.len; omega) HROW6.out (by have:=HBL.out; have:=HL.out; have:=HN.out; omega) hr2)
         rw [HBL.out] at HWI
         clear hw6 hk6 hs6 hB56 z0 lb0 f3 f4 ff9 l9
         refine zD8 (fun wz:World=>wz.cell? ⟨b0,off0,none⟩ = some (.int .i64 I0)) 10 (by kernel_rfl) ?_
         have hHeld : (fun wz:World=>wz.cell? ⟨b0,off0,none⟩ = some (.int .i64 I0)) _:=Z6.out
         refine tkL 0 rfl (.pointer (some ⟨q,0,none⟩)) (by kernel_rfl) rfl (fun _ _ _=>id) hHeld (by intro w hSw; (try dsimp only at hSw); go_simp) ?_
         try simp only [aPa,aPc,aPd]
         refine tkL 1 rfl (.pointer (some ⟨q,0,none⟩)) (by kernel_rfl) rfl (fun _ _ _=>id) hHeld (by intro w hSw; (try dsimp only at hSw); go_simp) ?_
         try simp only [aPa,aPc,aPd]
         refine tkL 2 rfl (.pointer (some ⟨q,2,none⟩)) (by kernel_rfl) rfl (fun _ _ _=>id) hHeld (by intro w hSw; (try dsimp only at hSw); go_simp) ?_
         try simp only [aPa,aPc,aPd]
         refine tkL 3 rfl (.slice (some ⟨b0,off0,none⟩) n cap) (by kernel_rfl) rfl (fun _ _ _=>id) hHeld (by intro w hSw; (try dsimp only at hSw); go_simp) ?_
         try simp only [aPa,aPc,aPd]
         refine tkL 4 rfl (.pointer (some ⟨b0,off0,none⟩)) (by kernel_rfl) rfl (fun _ _ _=>id) hHeld (by intro w hSw; (try dsimp only at hSw); go_simp) ?_
         try simp only [aPa,aPc,aPd]
         refine tkL 5 rfl (.pointer (some ⟨b0,off0,none⟩)) (by kernel_rfl) rfl (fun _ _ _=>id) hHeld (by intro w hSw; (try dsimp only at hSw); go_simp) ?_
         try simp only [aPa,aPc,aPd]
         refine tkL 6 rfl (.int .i64 I0) (by kernel_rfl) rfl (fun _ _ _=>id) hHeld (by intro w hSw; go_simp) ?_
         try simp only [aPa,aPc,aPd]
         refine tkL 7 rfl (.slice ba n bc) (by kernel_rfl) rfl (fun _ _ _=>id) hHeld (by intro w hSw; (try dsimp only at hSw); go_simp) ?_
         try simp only [aPa,aPc,aPd]
         refine tkLc 8 rfl (by kernel_rfl) rfl (fun K hK=>?_)
         go_simp
         refine Calls.mono HWI.out ?_
         rintro e w8 ⟨vw,rfl,hrw,hbw⟩
         obtain ⟨xa,xc,hvw,_⟩:=id hrw
         obtain ⟨xn,hxn⟩ : ∃ xn,xn = (m.bs.take (I0 - m.base - 1).toNat ++ bods vs).length:=⟨_,rfl⟩
         rw [<- hxn] at hvw
         subst hvw
         have HRW8:=zA0 hrw
         have HB8 : Hid (Below w6.heap.size w6 w8):=zA0 ⟨hbw.os,hbw.tape,hbw.output,hbw.size,hbw.block⟩
         have s8 : (fun wz:World=>wz.cell? ⟨b0,off0,none⟩ = some (.int .i64 I0)) w8:=(HB8.out.cell (p:=⟨b0,off0,none⟩) L06.out).trans Z6.out
         have g108 : w8.heap[b10]? = _:=(HB8.out.block _ (zA1 G106.out)).trans G106.out
         have k4 : w8.cell? ⟨b10,4,none⟩ = some (.slice eva m.bs.length evc):=cor g108 rfl
         have fk4 : w8.frozen? ⟨b10,4,none⟩ = false:=by simp [World.frozen?,g108]
         have lk4:=zA1 g108
         clear hrw hbw g108 hxn
         refine hK.out _ _ (fun _=>s8) ?_
         have hHeld:=s8
         clear hK K
         try simp only [aPa,aPb,aPc,aPd]
         refine tkL 9 rfl (.pointer (some ⟨b10,4,none⟩)) (by kernel_rfl) rfl (fun _ _ _=>id) hHeld (by intro w hSw; (try dsimp only at hSw); go_simp) ?_
         try simp only [aPa,aPc,aPd]
         refine tkLc 10 rfl (by kernel_rfl) rfl (fun K hK=>?_)
         clear hHeld
         go_simp
         refine hK.out _ _ (fun h=>absurd rfl h) ?_
         clear hK K
         try simp only [aPa,aPb,aPc,aPd]
         refine zD9 (by kernel_rfl) ?_ _
         obtain ⟨w9,hw9⟩ : ∃ w9,w9 = w8.setCell ⟨b10,4,none⟩ (.slice xa xn xc):=⟨_,rfl⟩
         rw [<- hw9]
         have hk9 : ∀ j,j ≠ b10->w9.heap[j]? = w8.heap[j]?:=fun j hj=>by rw [hw9]; exact zB0 _ _ 4 _ j hj
         have hs9 : w9.heap.size = w8.heap.size:=by rw [hw9]; simp
         have hB89 : Below w3.heap.size w8 w9:=by rw [hw9]; exact zC2 B10L.out w8 4 _
         have hB68 : Below w6.heap.size w6 w8:=HB8.out
         have hB69 : Below w3.heap.size w6 w9:=(hB68.mono HB36.out.size).trans hB89
         have HB39 : Hid (Below w3.heap.size w3 w9):=zA0 (HB36.out.trans hB69)
         have HBW9:=zA0 (HBW6.out.trans (hB69.mono HB03.out.size))
         have H9:=zA0 (H.out.below HBW9.out)
         have HWB9 : Hid (Wb w9 q p false m (.slice sva svn svc) (.slice eva m.bs.length evc)):=zA0 ((HB39.out.block q (zA1 HWB3.out)).trans HWB3.out)
         have G109 : Hid (w9.heap[b10]? = some (.cells #[.int .i64 t,.int .i64 v,.slice sva svn svc,.int .i64 m.base,.slice xa xn xc] 94 (0,0))):=zA0 (by
          rw [hw9,heap_setCell_same w8 _ 4 _ 94 _ ((hB68.block _ (zA1 G106.out)).trans G106.out)]
          rfl)
         have G99 : Hid (w9.heap[b9]? = some (.cells #[.int .i64 t,.int .i64 v,.slice none 0 0,.int .i64 (I0 - 1),.slice ba n bc] 94 (0,0))):=zA0 ((hk9 b9 B910.out).trans ((hB68.block _ (zA1 G96.out)).trans G96.out))
         have HNXE : Hid (nxS m t v vs = ⟨t,v,m.sn,m.base,m.bs.take (I0 - m.base - 1).toNat ++ bods vs⟩):=zA0 (by unfold nxS putB; rw [if_neg (fun e=>HNIL.out (zW0.1 e)),<- HI0.out]; rfl)
         have HNT : Hid ((nxS m t v vs).t = t/\(nxS m t v vs).v = v/\(nxS m t v vs).base = m.base):=zA0 (by rw [HNXE.out]; exact ⟨rfl,rfl,rfl⟩)
         have hk69 : ∀ k,k < w6.heap.size->k ≠ b10->w9.heap[k]? = w6.heap[k]?:=fun k hk hkb=>(hk9 k hkb).trans (hB68.block k hk)
         have hb10F : ∀ k,Sw w6 F q k->w6.heap[k]? = w6.heap[k]?:=fun _ _=>rfl
         have HNXC : Hid (zJ6 w9 (Sw w9 F q) [.int .i64 (nxS m t v vs).t,.int .i64 (nxS m t v vs).v,.slice sva svn svc,.int .i64 (nxS m t v vs).base,.slice xa xn xc] (nxS m t v vs)):=zA0 (by
          obtain ⟨sv1,ev1,b1,b2,b3⟩:=H9.out.blk
          have e5:=HWB9.out.symm.trans b1
          simp only [Option.some.injEq,Obj.cells.injEq,Array.mk.injEq,List.cons.injEq,and_true,true_and] at e5
          obtain ⟨e5a,e5b⟩:=e5
          rw [HNXE.out]
          subst e5a e5b
          refine ⟨_,_,rfl,b2,?_⟩
          have hr:=HRW8.out.kept (w':=w9) (S':=fun k=>(k < w3.heap.size/\¬ F k/\k ≠ q)\/w6.heap.size<=k) (by rw [hs9]; exact Nat.le_refl _) (fun j hj=>hk9 j (by
           have h1:=B10L.out
           have h2:=zA1 G106.out
           rcases hj with h | h
           · have:=h.1; omega
           · have h6 : w6.heap.size<=j:=h; omega)) (fun k hk=>hk)
          exact hr.mono (fun k hk hlt=>⟨hlt,fun e=>by
           have h3:=HFL.out k e
           rcases hk with h | h
           · exact h.2.1 e
           · have:=HB36.out.size; omega,fun e=>by
           rcases hk with h | h
           · exact h.2.2 e
           · have:=LQ6.out; omega⟩))
         have HMOC : Hid (zJ6 w9 (fun k=>k < w9.heap.size) [.int .i64 t,.int .i64 v,.slice none 0 0,.int .i64 (I0 - 1),.slice ba n bc] (moS t v vs)):=zA0 (by
          have hmo : moS t v vs = ⟨t,v,none,n0 vs - 1,bods vs⟩:=if_neg HNIL.out
          rw [hmo,<- HI0.out]
          refine ⟨_,_,rfl,rfl,?_⟩
          have hr:=HROW6.out
          rw [HBL.out] at hr
          have hr2:=hr.kept (w':=w9) (S':=fun _=>True) (by have:=hB68.size; omega) (fun j hj=>(hk9 j (by have h1:=B10L.out; have:=hj.1; omega)).trans (hB68.block j (Nat.lt_of_lt_of_le hj.1 HB36.out.size))) (fun k hk=>trivial)
          exact hr2.mono (fun k hk hlt=>hlt))
         have HADD:=zA0 (yG7 q p cnt false _ _ _ _ _ [.int .i64 t,.int .i64 v,.slice none 0 0,.int .i64 (I0 - 1),.slice ba n bc] [.int .i64 t,.int .i64 v,.slice sva svn svc,.int .i64 m.base,.slice xa xn xc] (moS t v vs) (nxS m t v vs) M F w9 H9.out.dsk HWB9.out H9.out.nq HMOC.out (by have hx:=HNXC.out; rw [HNT.out.1,HNT.out.2.1,HNT.out.2.2] at hx; exact hx.kept (Nat.le_refl _) (fun _ _=>rfl) (fun k hk=>hk.1)) (xD5 HACC.out H.out.okd HL.out) ((zK3 H.out.okd HACC.out).fr (by have:=HML.out HACC.out; omega)) (HNL.out HACC.out) (yT6 HACC.out H.out.okd HL.out) HFW.out HC.out)
         have e0 : w9.cell? ⟨b10,0,none⟩ = some (.int .i64 t):=cor G109.out rfl
         have e1 : w9.cell? ⟨b10,1,none⟩ = some (.int .i64 v):=cor G109.out rfl
         have e2 : w9.cell? ⟨b10,2,none⟩ = some (.slice sva svn svc):=cor G109.out rfl
         have e3 : w9.cell? ⟨b10,3,none⟩ = some (.int .i64 m.base):=cor G109.out rfl
         have e4 : w9.cell? ⟨b10,4,none⟩ = some (.slice xa xn xc):=cor G109.out rfl
         have f0 : w9.cell? ⟨b9,0,none⟩ = some (.int .i64 t):=cor G99.out rfl
         have f1 : w9.cell? ⟨b9,1,none⟩ = some (.int .i64 v):=cor G99.out rfl
         have f2 : w9.cell? ⟨b9,2,none⟩ = some (.slice none 0 0):=cor G99.out rfl
         have f3 : w9.cell? ⟨b9,3,none⟩ = some (.int .i64 (I0 - 1)):=cor G99.out rfl
         have f4 : w9.cell? ⟨b9,4,none⟩ = some (.slice ba n bc):=cor G99.out rfl
         have l9:=zA1 G99.out
         have l10:=zA1 G109.out
         replace H6:=H9
         have HB06:=HBW9
         replace LQ6:=zA0 (zA1 HWB9.out)
         replace HWB6:=HWB9
         replace G106:=G109
         have LB6:=zA0 (zA1 G109.out)
         clear hw9 hk9 hs9 hB89 hB68 hB69 hk69 hb10F hr1 hr2 hr3 hpn
         go_wp2_with fail
         refine Calls.mono HADD.out ?_
         rintro e w8 ⟨k,F',hk1,hk2,hd8,hcase8⟩
         have hd9:=hd8.cnt (cnt':=cnt + 4) (by have:=zW1 M (moS t v vs) (nxS m t v vs); omega) (by have:=HC.out; omega)
         have NB10 : ¬ F b10:=fun e=>by have:=HFL.out _ e; have:=B10L.out; omega
         rcases hcase8 with ⟨hk3,rfl,hf8⟩ | ⟨hk3,hz8,rfl,w9,hf9,rfl⟩
         · have hq8 : Wb w8 q p false m (.slice sva svn svc) (.slice eva m.bs.length evc):=(hf8.block q LQ6.out H.out.nq).trans HWB6.out
           obtain ⟨c0,c1,c2,c3,c4,c5,c6,lq8,fq8⟩:=hq8.cells
           have g8 : w8.heap[b10]? = _:=(hf8.block b10 LB6.out NB10).trans G106.out
           have e0 : w8.cell? ⟨b10,0,none⟩ = some (.int .i64 t):=cor g8 rfl
           have e1 : w8.cell? ⟨b10,1,none⟩ = some (.int .i64 v):=cor g8 rfl
           have e2 : w8.cell? ⟨b10,2,none⟩ = some (.slice sva svn svc):=cor g8 rfl
           have e3 : w8.cell? ⟨b10,3,none⟩ = some (.int .i64 m.base):=cor g8 rfl
           have e4 : w8.cell? ⟨b10,4,none⟩ = some (.slice xa xn xc):=cor g8 rfl
           have l10:=zA1 g8
           have HK1:=zA0 hk1
           have HK2:=zA0 hk2
           have HK3:=zA0 hk3
           have HF8:=zA0 hf8
           have HD9:=zA0 hd9
           clear hk1 hk2 hk3 hf8 hd8 hd9 hq8 g8 c0
           go_wp2
           go_ret
           have hset:=WalR.setS H6.out HF8.out HD9.out HNXC.out (zK3 H.out.okd HACC.out) (HML.out HACC.out)
           rw [HNT.out.1,HNT.out.2.1,HNT.out.2.2] at hset
           refine .inr ⟨HACC.out,k,F',HK1.out,HK2.out,?_,.inl ⟨HK3.out,rfl,hset⟩⟩
           exact (((((((Fr.of_below HB06.out).trans HF8.out).toQ q).setQ 2 _).setQ 3 _).setQ 4 _).setQ 5 _).setQ 6 _
         · have HK1:=zA0 hk1
           have HK2:=zA0 hk2
           have HK3:=zA0 hk3
           have HF9:=zA0 hf9
           have HZ8:=zA0 hz8
           have HD9:=zA0 hd9
           clear hk1 hk2 hk3 hf9 hd8 hd9 hz8
           go_wp2
           go_ret
           exact .inr ⟨HACC.out,k,F',HK1.out,HK2.out,(((Fr.of_below HB06.out).trans HF9.out).toQ q).setQ 1 _,.inr ⟨HK3.out,HZ8.out,rfl,WalR.fail H6.out HF9.out HD9.out⟩⟩
     · obtain ⟨b9,hb9⟩ : ∃ b9,b9 = w3.heap.size + 1:=⟨_,rfl⟩
       obtain ⟨b10,hb10⟩ : ∃ b10,b10 = w3.heap.size:=⟨_,rfl⟩
       obtain ⟨w4,hw4⟩ : ∃ w4,w4 = ((w3.alloc (.cells #[.int .i64 m.t,.int .i64 m.v,.slice sva svn svc,.int .i64 m.base,.slice eva m.bs.length evc] 94)).alloc (.cells #[.int .i64 t,.int .i64 v,.slice none 0 0,.int .i64 0,.slice none 0 0] 94)).drew:=⟨_,rfl⟩
       rw [<- hb9,<- hb10,<- hw4]
       have hB34 : Below w3.heap.size w3 w4:=by rw [hw4]; exact (((zB5 w3 _).alloc (by simp) _).drew)
       have g9 : w4.heap[b9]? = some (.cells #[.int .i64 t,.int .i64 v,.slice none 0 0,.int .i64 0,.slice none 0 0] 94 (0,0)):=by rw [hw4,hb9]; have hx:=heap_alloc_new (w3.alloc (.cells #[.int .i64 m.t,.int .i64 m.v,.slice sva svn svc,.int .i64 m.base,.slice eva m.bs.length evc] 94)) (.cells #[.int .i64 t,.int .i64 v,.slice none 0 0,.int .i64 0,.slice none 0 0] 94); rw [World.size_alloc] at hx; exact hx
       have g10 : w4.heap[b10]? = some (.cells #[.int .i64 m.t,.int .i64 m.v,.slice sva svn svc,.int .i64 m.base,.slice eva m.bs.length evc] 94 (0,0)):=by rw [hw4,hb10]; exact (Below.heap_alloc _ _ _ (by simp)).trans (heap_alloc_new w3 _)
       have B9L : Hid (w3.heap.size<=b9):=zA0 (by rw [hb9]; omega)
       have B10L : Hid (w3.heap.size<=b10):=zA0 (by rw [hb10]; omega)
       have B910 : Hid (b9 ≠ b10):=zA0 (by rw [hb9,hb10]; omega)
       have HB34:=zA0 hB34
       have G9:=zA0 g9
       have G10:=zA0 g10
       clear hw4 hb9 hb10
       have hBw4 : Below w.heap.size w w4:=HB03.out.trans (hB34.mono HB03.out.size)
       have HBW4:=zA0 hBw4
       have HFL : Hid (∀ k,F k->k < w3.heap.size):=zA0 (fun k hk=>by have:=H.out.dsk.flt k hk; have:=HB03.out.size; omega)
       have k0 : w4.cell? ⟨b10,0,none⟩ = some (.int .i64 m.t):=cor g10 rfl
       have k1 : w4.cell? ⟨b10,1,none⟩ = some (.int .i64 m.v):=cor g10 rfl
       have fb10 : ∀ o,w4.frozen? ⟨b10,o,none⟩ = false:=fun o=>by simp [World.frozen?,g10]
       have lb10:=zA1 g10
       have v0 : w4.cell? ⟨w.heap.size,0,none⟩ = some (.int .i64 t):=(hB34.cell (p:=⟨w.heap.size,0,none⟩) L43.out).trans U0.out
       have v1 : w4.cell? ⟨w.heap.size,1,none⟩ = some (.int .i64 v):=(hB34.cell (p:=⟨w.heap.size,1,none⟩) L43.out).trans U1.out
       have lw4 : w.heap.size < w4.heap.size:=Nat.lt_of_lt_of_le L43.out hB34.size
       clear hB34 hBw4 g9 g10
       go_upto_region 8 with (fail)
       obtain ⟨w5,hw5⟩ : ∃ w5,w5 = (w4.setCell ⟨b10,0,none⟩ (.int .i64 t)).setCell ⟨b10,1,none⟩ (.int .i64 v):=⟨_,rfl⟩
       rw [<- hw5]
       have hk5 : ∀ j,j ≠ b10->w5.heap[j]? = w4.heap[j]?:=fun j hj=>by rw [hw5]; exact (zB0 _ _ 1 _ j hj).trans (zB0 w4 _ 0 _ j hj)
       have hs5 : w5.heap.size = w4.heap.size:=by rw [hw5]; simp
       have hB45 : Below w3.heap.size w4 w5:=by rw [hw5]; exact (zC2 B10L.out w4 0 _).trans (zC2 B10L.out _ 1 _)
       have G105 : Hid (w5.heap[b10]? = some (.cells #[.int .i64 t,.int .i64 v,.slice sva svn svc,.int .i64 m.base,.slice eva m.bs.length evc] 94 (0,0))):=zA0 (by
        rw [hw5,heap_setCell_same _ _ 1 _ 94 _ (heap_setCell_same w4 _ 0 _ 94 _ G10.out)]
        rfl)
       have G95 : Hid (w5.heap[b9]? = some (.cells #[.int .i64 t,.int .i64 v,.slice none 0 0,.int .i64 0,.slice none 0 0] 94 (0,0))):=zA0 ((hk5 b9 B910.out).trans G9.out)
       have hBw5 : Below w.heap.size w w5:=HBW4.out.trans (hB45.mono HB03.out.size)
       have HB35 : Hid (Below w3.heap.size w3 w5):=zA0 (HB34.out.trans hB45)
       have HBW5:=zA0 hBw5
       have H5:=zA0 (H.out.below hBw5)
       have HWB5 : Hid (Wb w5 q p false m (.slice sva svn svc) (.slice eva m.bs.length evc)):=zA0 ((HB35.out.block q (zA1 HWB3.out)).trans HWB3.out)
       clear hw5 hk5 hs5 hB45 hBw5 k0 k1 fb10 lb10 v0 v1 lw4
       by_cases hnil : vs = []
       · have hn0 : n = 0:=by rw [HN.out,hnil]; rfl
         subst hn0
         have HMO : Hid (moS t v vs = ⟨t,v,none,0,[]⟩):=zA0 (if_pos hnil)
         have HNX : Hid (nxS m t v vs = setH m t v):=zA0 (by unfold nxS; rw [hnil]; exact zO6 _ _)
         have HNXC : Hid (zJ6 w5 (Sw w5 F q) [.int .i64 (nxS m t v vs).t,.int .i64 (nxS m t v vs).v,.slice sva svn svc,.int .i64 (nxS m t v vs).base,.slice eva m.bs.length evc] (nxS m t v vs)):=zA0 (by
          obtain ⟨sv1,ev1,b1,b2,b3⟩:=H5.out.blk
          have hw5b:=HWB5.out
          have e5:=hw5b.symm.trans b1
          simp only [Option.some.injEq,Obj.cells.injEq,Array.mk.injEq,List.cons.injEq,and_true,true_and] at e5
          obtain ⟨e5a,e5b⟩:=e5
          rw [HNX.out]
          subst e5a e5b
          exact ⟨_,_,rfl,b2,b3⟩)
         have HNT : Hid ((nxS m t v vs).t = t/\(nxS m t v vs).v = v/\(nxS m t v vs).base = m.base):=zA0 (by rw [HNX.out]; exact ⟨rfl,rfl,rfl⟩)
         have HMOC : Hid (zJ6 w5 (fun k=>k < w5.heap.size) [.int .i64 t,.int .i64 v,.slice none 0 0,.int .i64 0,.slice none 0 0] (moS t v vs)):=zA0 (by rw [HMO.out]; exact ⟨_,_,rfl,rfl,⟨none,0,rfl,Nat.le_refl _,by unfold maxLen; omega,fun h=>absurd rfl h⟩⟩)
         have HADD:=zA0 (yG7 q p cnt false _ _ _ _ _ [.int .i64 t,.int .i64 v,.slice none 0 0,.int .i64 0,.slice none 0 0] [.int .i64 t,.int .i64 v,.slice sva svn svc,.int .i64 m.base,.slice eva m.bs.length evc] (moS t v vs) (nxS m t v vs) M F w5 H5.out.dsk HWB5.out H5.out.nq HMOC.out (by have hx:=HNXC.out; rw [HNT.out.1,HNT.out.2.1,HNT.out.2.2] at hx; exact hx.kept (Nat.le_refl _) (fun _ _=>rfl) (fun k hk=>hk.1)) (xD5 HACC.out H.out.okd HL.out) ((zK3 H.out.okd HACC.out).fr (by have:=HML.out HACC.out; omega)) (HNL.out HACC.out) (yT6 HACC.out H.out.okd HL.out) HFW.out HC.out)
         have e0 : w5.cell? ⟨b10,0,none⟩ = some (.int .i64 t):=cor G105.out rfl
         have e1 : w5.cell? ⟨b10,1,none⟩ = some (.int .i64 v):=cor G105.out rfl
         have e2 : w5.cell? ⟨b10,2,none⟩ = some (.slice sva svn svc):=cor G105.out rfl
         have e3 : w5.cell? ⟨b10,3,none⟩ = some (.int .i64 m.base):=cor G105.out rfl
         have e4 : w5.cell? ⟨b10,4,none⟩ = some (.slice eva m.bs.length evc):=cor G105.out rfl
         have f0 : w5.cell? ⟨b9,0,none⟩ = some (.int .i64 t):=cor G95.out rfl
         have f1 : w5.cell? ⟨b9,1,none⟩ = some (.int .i64 v):=cor G95.out rfl
         have f2 : w5.cell? ⟨b9,2,none⟩ = some (.slice none 0 0):=cor G95.out rfl
         have f3 : w5.cell? ⟨b9,3,none⟩ = some (.int .i64 0):=cor G95.out rfl
         have f4 : w5.cell? ⟨b9,4,none⟩ = some (.slice none 0 0):=cor G95.out rfl
         have l9:=zA1 G95.out
         have l10:=zA1 G105.out
         have H6:=H5
         have HB06:=HBW5
         have LQ6:=zA0 (zA1 HWB5.out)
         have HWB6:=HWB5
         have G106:=G105
         have LB6:=zA0 (zA1 G105.out)
         clear hnil
         go_wp2_with fail
         refine Calls.mono HADD.out ?_
         rintro e w8 ⟨k,F',hk1,hk2,hd8,hcase8⟩
         have hd9:=hd8.cnt (cnt':=cnt + 4) (by have:=zW1 M (moS t v vs) (nxS m t v vs); omega) (by have:=HC.out; omega)
         have NB10 : ¬ F b10:=fun e=>by have:=HFL.out _ e; have:=B10L.out; omega
         rcases hcase8 with ⟨hk3,rfl,hf8⟩ | ⟨hk3,hz8,rfl,w9,hf9,rfl⟩
         · have hq8 : Wb w8 q p false m (.slice sva svn svc) (.slice eva m.bs.length evc):=(hf8.block q LQ6.out H.out.nq).trans HWB6.out
           obtain ⟨c0,c1,c2,c3,c4,c5,c6,lq8,fq8⟩:=hq8.cells
           have g8 : w8.heap[b10]? = _:=(hf8.block b10 LB6.out NB10).trans G106.out
           have e0 : w8.cell? ⟨b10,0,none⟩ = some (.int .i64 t):=cor g8 rfl
           have e1 : w8.cell? ⟨b10,1,none⟩ = some (.int .i64 v):=cor g8 rfl
           have e2 : w8.cell? ⟨b10,2,none⟩ = some (.slice sva svn svc):=cor g8 rfl
           have e3 : w8.cell? ⟨b10,3,none⟩ = some (.int .i64 m.base):=cor g8 rfl
           have e4 : w8.cell? ⟨b10,4,none⟩ = some (.slice eva m.bs.length evc):=cor g8 rfl
           have l10:=zA1 g8
           have HK1:=zA0 hk1
           have HK2:=zA0 hk2
           have HK3:=zA0 hk3
           have HF8:=zA0 hf8
           have HD9:=zA0 hd9
           clear hk1 hk2 hk3 hf8 hd8 hd9 hq8 g8 c0
           go_wp2
           go_ret
           have hset:=WalR.setS H6.out HF8.out HD9.out HNXC.out (zK3 H.out.okd HACC.out) (HML.out HACC.out)
           rw [HNT.out.1,HNT.out.2.1,HNT.out.2.2] at hset
           refine .inr ⟨HACC.out,k,F',HK1.out,HK2.out,?_,.inl ⟨HK3.out,rfl,hset⟩⟩
           exact (((((((Fr.of_below HB06.out).trans HF8.out).toQ q).setQ 2 _).setQ 3 _).setQ 4 _).setQ 5 _).setQ 6 _
         · have HK1:=zA0 hk1
           have HK2:=zA0 hk2
           have HK3:=zA0 hk3
           have HF9:=zA0 hf9
           have HZ8:=zA0 hz8
           have HD9:=zA0 hd9
           clear hk1 hk2 hk3 hf9 hd8 hd9 hz8
           go_wp2
           go_ret
           exact .inr ⟨HACC.out,k,F',HK1.out,HK2.out,(((Fr.of_below HB06.out).trans HF9.out).toQ q).setQ 1 _,.inr ⟨HK3.out,HZ8.out,rfl,WalR.fail H6.out HF9.out HD9.out⟩⟩
       · have hpos : 0 < vs.length:=List.length_pos_iff.2 hnil
         obtain ⟨b0,off0,es0,ha0,hb0l,hrep0,hrg0⟩:=Rep.load (k:=0) HR.out hpos
         obtain ⟨r0,he0,hr0⟩:=zD3 hrep0
         obtain ⟨x0,hx0⟩ : ∃ x0,x0 = vs[0]:=⟨_,rfl⟩
         have hN0 : eI x0 = n0 vs:=by unfold n0; rw [hx0]; cases vs with | nil=>simp at hpos | cons y ys=>rfl
         rw [<- hx0] at he0
         have hcc : w.cell? ⟨b0,off0,none⟩ = some (.int .i64 (n0 vs)):=by have:=hrg0 0 (.int .i64 (eI x0)) (by rw [he0]; rfl); rw [hN0] at this; simpa using this
         subst ha0
         have z0 : w5.cell? ⟨b0,off0,none⟩ = some (.int .i64 (n0 vs)):=(HBW5.out.cell (p:=⟨b0,off0,none⟩) hb0l).trans hcc
         have lb0 : b0 < w5.heap.size:=Nat.lt_of_lt_of_le hb0l HBW5.out.size
         have hx0ok:=HOK.out 0 x0 (by rw [hx0]; exact List.getElem?_eq_getElem hpos)
         have hr1 : n0 vs<=1099511627776:=by rw [<- hN0]; exact xG0 hx0ok.1
         have hr2 : m.base < n0 vs/\n0 vs<=m.base + m.bs.length + 1:=⟨hx0ok.2.2.1,hx0ok.2.2.2⟩
         have hbz:=H.out.okd.base
         have hpn : (0:Int) < (n:Int):=by have:=HN.out; omega
         have HB0L:=zA0 hb0l
         have HR2:=zA0 hr2
         have HPOS:=zA0 hpos
         have HNIL:=zA0 hnil
         have hr3 : 0<=n0 vs:=by have:=hbz.1; omega
         clear hrep0 hrg0 he0 hr0 hx0 hN0 hcc hx0ok hpos hnil
         obtain ⟨I0,hI0⟩ : ∃ I0,I0 = n0 vs:=⟨_,rfl⟩
         rw [<- hI0] at z0 hr1 hr2 hr3 HR2
         have f3 : w5.cell? ⟨b9,3,none⟩ = some (.int .i64 0):=cor G95.out rfl
         have f4 : w5.cell? ⟨b9,4,none⟩ = some (.slice none 0 0):=cor G95.out rfl
         have ff9 : ∀ o,w5.frozen? ⟨b9,o,none⟩ = false:=fun o=>by simp [World.frozen?,G95.out]
         have l9:=zA1 G95.out
         have HI0:=zA0 hI0
         clear hI0 hbz
         go_upto_region 10 with (fail)
         obtain ⟨w6,hw6⟩ : ∃ w6,w6 = (w5.setCell ⟨b9,3,none⟩ (.int .i64 (I0 - 1))).setCell ⟨b9,4,none⟩ (.slice ba n bc):=⟨_,rfl⟩
         rw [<- hw6]
         have hk6 : ∀ j,j ≠ b9->w6.heap[j]? = w5.heap[j]?:=fun j hj=>by rw [hw6]; exact (zB0 _ _ 4 _ j hj).trans (zB0 w5 _ 3 _ j hj)
         have hs6 : w6.heap.size = w5.heap.size:=by rw [hw6]; simp
         have hB56 : Below w3.heap.size w5 w6:=by rw [hw6]; exact (zC2 B9L.out w5 3 _).trans (zC2 B9L.out _ 4 _)
         have G96 : Hid (w6.heap[b9]? = some (.cells #[.int .i64 t,.int .i64 v,.slice none 0 0,.int .i64 (I0 - 1),.slice ba n bc] 94 (0,0))):=zA0 (by
          rw [hw6,heap_setCell_same _ _ 4 _ 94 _ (heap_setCell_same w5 _ 3 _ 94 _ G95.out)]
          rfl)
         have G106 : Hid (w6.heap[b10]? = some (.cells #[.int .i64 t,.int .i64 v,.slice sva svn svc,.int .i64 m.base,.slice eva m.bs.length evc] 94 (0,0))):=zA0 ((hk6 b10 (Ne.symm B910.out)).trans G105.out)
         have HB36 : Hid (Below w3.heap.size w3 w6):=zA0 (HB35.out.trans hB56)
         have HBW6:=zA0 (HBW5.out.trans (hB56.mono HB03.out.size))
         have H6:=zA0 (H.out.below HBW6.out)
         have HWB6 : Hid (Wb w6 q p false m (.slice sva svn svc) (.slice eva m.bs.length evc)):=zA0 ((HB36.out.block q (zA1 HWB3.out)).trans HWB3.out)
         have Z6 : Hid (w6.cell? ⟨b0,off0,none⟩ = some (.int .i64 I0)):=zA0 ((hB56.cell (p:=⟨b0,off0,none⟩) (by have:=HB0L.out; have:=HB03.out.size; show b0 < _; omega)).trans z0)
         have L06 : Hid (b0 < w6.heap.size):=zA0 (by omega)
         have LQ6:=zA0 (zA1 HWB6.out)
         have HROW6 : Hid (RowB w6 (fun k=>k < w3.heap.size/\¬ F k/\k ≠ q) (.slice ba (bods vs).length bc) (bods vs)):=zA0 (by
          have hr:=HOWN3.out.rowB
          have hk : ∀ k,(w1.heap.size<=k/\k < w3.heap.size)->w6.heap[k]? = w3.heap[k]?:=fun k hk=>HB36.out.block k hk.2
          have hsw : ∀ k,(w1.heap.size<=k/\k < w3.heap.size)->(k < w3.heap.size/\¬ F k/\k ≠ q):=fun k hk=>⟨hk.2,fun e=>by have:=H.out.dsk.flt _ e; have:=HS1.out; omega,by have:=LQ.out; have:=HS1.out; omega⟩
          exact (RowB.lt hr).kept HB36.out.size hk hsw)
         have HWI:=zA0 (yR4 (fun k=>k < w3.heap.size/\¬ F k/\k ≠ q) q 2 m I0 ba (bods vs).length bc (bods vs) w6.drew (show zE7 w6 (fun k=>k < w3.heap.size/\¬ F k/\k ≠ q) q 2 m from H.out.at.kept HBW6.out.size (fun k hk=>HBW6.out.block k hk.1) (fun k hk=>⟨by have:=HB03.out.size; have:=hk.1; omega,hk.2⟩) (HBW6.out.block q LQ.out)) (fun k hk=>Nat.lt_of_lt_of_le hk.1 HB36.out.size) LQ6.out H.out.okd.base (by have:=H.out.len; omega) HROW6.out (by have:=HBL.out; have:=HL.out; have:=HN.out; omega) hr2)
         rw [HBL.out] at HWI
         clear hw6 hk6 hs6 hB56 z0 lb0 f3 f4 ff9 l9
         refine zD8 (fun wz:World=>wz.cell? ⟨b0,off0,none⟩ = some (.int .i64 I0)) 10 (by kernel_rfl) ?_
         have hHeld : (fun wz:World=>wz.cell? ⟨b0,off0,none⟩ = some (.int .i64 I0)) _:=Z6.out
         refine tkL 0 rfl (.pointer (some ⟨q,0,none⟩)) (by kernel_rfl) rfl (fun _ _ _=>id) hHeld (by intro w hSw; (try dsimp only at hSw); go_simp) ?_
         try simp only [aPa,aPc,aPd]
         refine tkL 1 rfl (.pointer (some ⟨q,0,none⟩)) (by kernel_rfl) rfl (fun _ _ _=>id) hHeld (by intro w hSw; (try dsimp only at hSw); go_simp) ?_
         try simp only [aPa,aPc,aPd]
         refine tkL 2 rfl (.pointer (some ⟨q,2,none⟩)) (by kernel_rfl) rfl (fun _ _ _=>id) hHeld (by intro w hSw; (try dsimp only at hSw); go_simp) ?_
         try simp only [aPa,aPc,aPd]
         refine tkL 3 rfl (.slice (some ⟨b0,off0,none⟩) n cap) (by kernel_rfl) rfl (fun _ _ _=>id) hHeld (by intro w hSw; (try dsimp only at hSw); go_simp) ?_
         try simp only [aPa,aPc,aPd]
         refine tkL 4 rfl (.pointer (some ⟨b0,off0,none⟩)) (by kernel_rfl) rfl (fun _ _ _=>id) hHeld (by intro w hSw; (try dsimp only at hSw); go_simp) ?_
         try simp only [aPa,aPc,aPd]
         refine tkL 5 rfl (.pointer (some ⟨b0,off0,none⟩)) (by kernel_rfl) rfl (fun _ _ _=>id) hHeld (by intro w hSw; (try dsimp only at hSw); go_simp) ?_
         try simp only [aPa,aPc,aPd]
         refine tkL 6 rfl (.int .i64 I0) (by kernel_rfl) rfl (fun _ _ _=>id) hHeld (by intro w hSw; go_simp) ?_
         try simp only [aPa,aPc,aPd]
         refine tkL 7 rfl (.slice ba n bc) (by kernel_rfl) rfl (fun _ _ _=>id) hHeld (by intro w hSw; (try dsimp only at hSw); go_simp) ?_
         try simp only [aPa,aPc,aPd]
         refine tkLc 8 rfl (by kernel_rfl) rfl (fun K hK=>?_)
         go_simp
         refine Calls.mono HWI.out ?_
         rintro e w8 ⟨vw,rfl,hrw,hbw⟩
         obtain ⟨xa,xc,hvw,_⟩:=id hrw
         obtain ⟨xn,hxn⟩ : ∃ xn,xn = (m.bs.take (I0 - m.base - 1).toNat ++ bods vs).length:=⟨_,rfl⟩
         rw [<- hxn] at hvw
         subst hvw
         have HRW8:=zA0 hrw
         have HB8 : Hid (Below w6.heap.size w6 w8):=zA0 ⟨hbw.os,hbw.tape,hbw.output,hbw.size,hbw.block⟩
         have s8 : (fun wz:World=>wz.cell? ⟨b0,off0,none⟩ = some (.int .i64 I0)) w8:=(HB8.out.cell (p:=⟨b0,off0,none⟩) L06.out).trans Z6.out
         have g108 : w8.heap[b10]? = _:=(HB8.out.block _ (zA1 G106.out)).trans G106.out
         have k4 : w8.cell? ⟨b10,4,none⟩ = some (.slice eva m.bs.length evc):=cor g108 rfl
         have fk4 : w8.frozen? ⟨b10,4,none⟩ = false:=by simp [World.frozen?,g108]
         have lk4:=zA1 g108
         clear hrw hbw g108 hxn
         refine hK.out _ _ (fun _=>s8) ?_
         have hHeld:=s8
         clear hK K
         try simp only [aPa,aPb,aPc,aPd]
         refine tkL 9 rfl (.pointer (some ⟨b10,4,none⟩)) (by kernel_rfl) rfl (fun _ _ _=>id) hHeld (by intro w hSw; (try dsimp only at hSw); go_simp) ?_
         try simp only [aPa,aPc,aPd]
         refine tkLc 10 rfl (by kernel_rfl) rfl (fun K hK=>?_)
         clear hHeld
         go_simp
         refine hK.out _ _ (fun h=>absurd rfl h) ?_
         clear hK K
         try simp only [aPa,aPb,aPc,aPd]
         refine zD9 (by kernel_rfl) ?_ _
         obtain ⟨w9,hw9⟩ : ∃ w9,w9 = w8.setCell ⟨b10,4,none⟩ (.slice xa xn xc):=⟨_,rfl⟩
         rw [<- hw9]
         have hk9 : ∀ j,j ≠ b10->w9.heap[j]? = w8.heap[j]?:=fun j hj=>by rw [hw9]; exact zB0 _ _ 4 _ j hj
         have hs9 : w9.heap.size = w8.heap.size:=by rw [hw9]; simp
         have hB89 : Below w3.heap.size w8 w9:=by rw [hw9]; exact zC2 B10L.out w8 4 _
         have hB68 : Below w6.heap.size w6 w8:=HB8.out
         have hB69 : Below w3.heap.size w6 w9:=(hB68.mono HB36.out.size).trans hB89
         have HB39 : Hid (Below w3.heap.size w3 w9):=zA0 (HB36.out.trans hB69)
         have HBW9:=zA0 (HBW6.out.trans (hB69.mono HB03.out.size))
         have H9:=zA0 (H.out.below HBW9.out)
         have HWB9 : Hid (Wb w9 q p false m (.slice sva svn svc) (.slice eva m.bs.length evc)):=zA0 ((HB39.out.block q (zA1 HWB3.out)).trans HWB3.out)
         have G109 : Hid (w9.heap[b10]? = some (.cells #[.int .i64 t,.int .i64 v,.slice sva svn svc,.int .i64 m.base,.slice xa xn xc] 94 (0,0))):=zA0 (by
          rw [hw9,heap_setCell_same w8 _ 4 _ 94 _ ((hB68.block _ (zA1 G106.out)).trans G106.out)]
          rfl)
         have G99 : Hid (w9.heap[b9]? = some (.cells #[.int .i64 t,.int .i64 v,.slice none 0 0,.int .i64 (I0 - 1),.slice ba n bc] 94 (0,0))):=zA0 ((hk9 b9 B910.out).trans ((hB68.block _ (zA1 G96.out)).trans G96.out))
         have HNXE : Hid (nxS m t v vs = ⟨t,v,m.sn,m.base,m.bs.take (I0 - m.base - 1).toNat ++ bods vs⟩):=zA0 (by unfold nxS putB; rw [if_neg (fun e=>HNIL.out (zW0.1 e)),<- HI0.out]; rfl)
         have HNT : Hid ((nxS m t v vs).t = t/\(nxS m t v vs).v = v/\(nxS m t v vs).base = m.base):=zA0 (by rw [HNXE.out]; exact ⟨rfl,rfl,rfl⟩)
         have hk69 : ∀ k,k < w6.heap.size->k ≠ b10->w9.heap[k]? = w6.heap[k]?:=fun k hk hkb=>(hk9 k hkb).trans (hB68.block k hk)
         have hb10F : ∀ k,Sw w6 F q k->w6.heap[k]? = w6.heap[k]?:=fun _ _=>rfl
         have HNXC : Hid (zJ6 w9 (Sw w9 F q) [.int .i64 (nxS m t v vs).t,.int .i64 (nxS m t v vs).v,.slice sva svn svc,.int .i64 (nxS m t v vs).base,.slice xa xn xc] (nxS m t v vs)):=zA0 (by
          obtain ⟨sv1,ev1,b1,b2,b3⟩:=H9.out.blk
          have e5:=HWB9.out.symm.trans b1
          simp only [Option.some.injEq,Obj.cells.injEq,Array.mk.injEq,List.cons.injEq,and_true,true_and] at e5
          obtain ⟨e5a,e5b⟩:=e5
          rw [HNXE.out]
          subst e5a e5b
          refine ⟨_,_,rfl,b2,?_⟩
          have hr:=HRW8.out.kept (w':=w9) (S':=fun k=>(k < w3.heap.size/\¬ F k/\k ≠ q)\/w6.heap.size<=k) (by rw [hs9]; exact Nat.le_refl _) (fun j hj=>hk9 j (by
           have h1:=B10L.out
           have h2:=zA1 G106.out
           rcases hj with h | h
           · have:=h.1; omega
           · have h6 : w6.heap.size<=j:=h; omega)) (fun k hk=>hk)
          exact hr.mono (fun k hk hlt=>⟨hlt,fun e=>by
           have h3:=HFL.out k e
           rcases hk with h | h
           · exact h.2.1 e
           · have:=HB36.out.size; omega,fun e=>by
           rcases hk with h | h
           · exact h.2.2 e
           · have:=LQ6.out; omega⟩))
         have HMOC : Hid (zJ6 w9 (fun k=>k < w9.heap.size) [.int .i64 t,.int .i64 v,.slice none 0 0,.int .i64 (I0 - 1),.slice ba n bc] (moS t v vs)):=zA0 (by
          have hmo : moS t v vs = ⟨t,v,none,n0 vs - 1,bods vs⟩:=if_neg HNIL.out
          rw [hmo,<- HI0.out]
          refine ⟨_,_,rfl,rfl,?_⟩
          have hr:=HROW6.out
          rw [HBL.out] at hr
          have hr2:=hr.kept (w':=w9) (S':=fun _=>True) (by have:=hB68.size; omega) (fun j hj=>(hk9 j (by have h1:=B10L.out; have:=hj.1; omega)).trans (hB68.block j (Nat.lt_of_lt_of_le hj.1 HB36.out.size))) (fun k hk=>trivial)
          exact hr2.mono (fun k hk hlt=>hlt))
         have HADD:=zA0 (yG7 q p cnt false _ _ _ _ _ [.int .i64 t,.int .i64 v,.slice none 0 0,.int .i64 (I0 - 1),.slice ba n bc] [.int .i64 t,.int .i64 v,.slice sva svn svc,.int .i64 m.base,.slice xa xn xc] (moS t v vs) (nxS m t v vs) M F w9 H9.out.dsk HWB9.out H9.out.nq HMOC.out (by have hx:=HNXC.out; rw [HNT.out.1,HNT.out.2.1,HNT.out.2.2] at hx; exact hx.kept (Nat.le_refl _) (fun _ _=>rfl) (fun k hk=>hk.1)) (xD5 HACC.out H.out.okd HL.out) ((zK3 H.out.okd HACC.out).fr (by have:=HML.out HACC.out; omega)) (HNL.out HACC.out) (yT6 HACC.out H.out.okd HL.out) HFW.out HC.out)
         have e0 : w9.cell? ⟨b10,0,none⟩ = some (.int .i64 t):=cor G109.out rfl
         have e1 : w9.cell? ⟨b10,1,none⟩ = some (.int .i64 v):=cor G109.out rfl
         have e2 : w9.cell? ⟨b10,2,none⟩ = some (.slice sva svn svc):=cor G109.out rfl
         have e3 : w9.cell? ⟨b10,3,none⟩ = some (.int .i64 m.base):=cor G109.out rfl
         have e4 : w9.cell? ⟨b10,4,none⟩ = some (.slice xa xn xc):=cor G109.out rfl
         have f0 : w9.cell? ⟨b9,0,none⟩ = some (.int .i64 t):=cor G99.out rfl
         have f1 : w9.cell? ⟨b9,1,none⟩ = some (.int .i64 v):=cor G99.out rfl
         have f2 : w9.cell? ⟨b9,2,none⟩ = some (.slice none 0 0):=cor G99.out rfl
         have f3 : w9.cell? ⟨b9,3,none⟩ = some (.int .i64 (I0 - 1)):=cor G99.out rfl
         have f4 : w9.cell? ⟨b9,4,none⟩ = some (.slice ba n bc):=cor G99.out rfl
         have l9:=zA1 G99.out
         have l10:=zA1 G109.out
         replace H6:=H9
         have HB06:=HBW9
         replace LQ6:=zA0 (zA1 HWB9.out)
         replace HWB6:=HWB9
         replace G106:=G109
         have LB6:=zA0 (zA1 G109.out)
         clear hw9 hk9 hs9 hB89 hB68 hB69 hk69 hb10F hr1 hr2 hr3 hpn
         go_wp2_with fail
         refine Calls.mono HADD.out ?_
         rintro e w8 ⟨k,F',hk1,hk2,hd8,hcase8⟩
         have hd9:=hd8.cnt (cnt':=cnt + 4) (by have:=zW1 M (moS t v vs) (nxS m t v vs); omega) (by have:=HC.out; omega)
         have NB10 : ¬ F b10:=fun e=>by have:=HFL.out _ e; have:=B10L.out; omega
         rcases hcase8 with ⟨hk3,rfl,hf8⟩ | ⟨hk3,hz8,rfl,w9,hf9,rfl⟩
         · have hq8 : Wb w8 q p false m (.slice sva svn svc) (.slice eva m.bs.length evc):=(hf8.block q LQ6.out H.out.nq).trans HWB6.out
           obtain ⟨c0,c1,c2,c3,c4,c5,c6,lq8,fq8⟩:=hq8.cells
           have g8 : w8.heap[b10]? = _:=(hf8.block b10 LB6.out NB10).trans G106.out
           have e0 : w8.cell? ⟨b10,0,none⟩ = some (.int .i64 t):=cor g8 rfl
           have e1 : w8.cell? ⟨b10,1,none⟩ = some (.int .i64 v):=cor g8 rfl
           have e2 : w8.cell? ⟨b10,2,none⟩ = some (.slice sva svn svc):=cor g8 rfl
           have e3 : w8.cell? ⟨b10,3,none⟩ = some (.int .i64 m.base):=cor g8 rfl
           have e4 : w8.cell? ⟨b10,4,none⟩ = some (.slice xa xn xc):=cor g8 rfl
           have l10:=zA1 g8
           have HK1:=zA0 hk1
           have HK2:=zA0 hk2
           have HK3:=zA0 hk3
           have HF8:=zA0 hf8
           have HD9:=zA0 hd9
           clear hk1 hk2 hk3 hf8 hd8 hd9 hq8 g8 c0
           go_wp2
           go_ret
           have hset:=WalR.setS H6.out HF8.out HD9.out HNXC.out (zK3 H.out.okd HACC.out) (HML.out HACC.out)
           rw [HNT.out.1,HNT.out.2.1,HNT.out.2.2] at hset
           refine .inr ⟨HACC.out,k,F',HK1.out,HK2.out,?_,.inl ⟨HK3.out,rfl,hset⟩⟩
           exact (((((((Fr.of_below HB06.out).trans HF8.out).toQ q).setQ 2 _).setQ 3 _).setQ 4 _).setQ 5 _).setQ 6 _
         · have HK1:=zA0 hk1
           have HK2:=zA0 hk2
           have HK3:=zA0 hk3
           have HF9:=zA0 hf9
           have HZ8:=zA0 hz8
           have HD9:=zA0 hd9
           clear hk1 hk2 hk3 hf9 hd8 hd9 hz8
           go_wp2
           go_ret
           exact .inr ⟨HACC.out,k,F',HK1.out,HK2.out,(((Fr.of_below HB06.out).trans HF9.out).toQ q).setQ 1 _,.inr ⟨HK3.out,HZ8.out,rfl,WalR.fail H6.out HF9.out HD9.out⟩⟩
   · have HNA : Hid (¬ accS m t v vs):=zA0 (fun h=>hH h.2)
     have HH:=zA0 hH
     clear hH
     go_wp2_with fail
     refine Calls.mono (zF4 t v _) ?_
     rintro e w3 ⟨rfl,hb3⟩
     rw [decide_eq_false HH.out]
     have HB3:=zA0 hb3
     clear hb3 t0 t1 l4
     go_wp2
     go_ret
     exact .inl ⟨HNA.out,rfl,HB02.out.trans (HB3.out.mono HB02.out.size)⟩
 · have HNA : Hid (¬ accS m t v vs):=zA0 (fun h=>hno h.1)
   clear hno
   go_wp2
   go_ret
   exact .inl ⟨HNA.out,rfl,HB02.out⟩
end
end Go.Proofs.YtocoimjhglackaaGreat
