/- Vos, Vposn, Igsnapshot, Wjb -/
import Derived.Test.YtocoimjhglackaaGreatK37
set_option maxHeartbeats 8000000
set_option maxRecDepth 100000
namespace Go.Proofs.YtocoimjhglackaaGreat
section
open Go.RowKit
theorem yW3 (p:Nat) (l:List UInt8) (bad:Bool) (prot S:Nat->Prop) (cs:List Value) (v:Vl zA2) (w:World) (hl:l.length + szb zA2 v<=137438953472) (hS:∀ b,S b->prot b) (hr:Rep w S zA2 cs v) (h:WR w p l bad prot) :
    Calls Tryz.prog 84 #[.pointer (some ⟨p,0,none⟩),.agg cs.toArray] w fun e w'=>e = .returned (.tuple #[])/\WR w' p (l ++ (enR zA2 v).1) (bad || (enR zA2 v).2) prot/\Kp w w' prot:=by
 obtain ⟨x0,x1,y2_0,y2_1,v2,a3,c3,v3,rfl,rfl,h2,h3⟩:=zR8 hr
 rw [zU2] at hl
 have hl2 : Hid (l.length + (6 + (6 + (szb zB4 v2 + (szb .byt v3))))<=137438953472):=hl
 have hW0 : WR (w.alloc (.cells [.int .i64 x0,.int .i64 x1,y2_0,y2_1,.slice a3 v3.length c3].toArray 36)) p l bad (fun b=>prot b\/b = w.heap.size):=h.box _
 have hA0:=Kp.alloc w (.cells [.int .i64 x0,.int .i64 x1,y2_0,y2_1,.slice a3 v3.length c3].toArray 36) prot h.2.1
 have hq0 : ∀ o,(w.alloc (.cells [.int .i64 x0,.int .i64 x1,y2_0,y2_1,.slice a3 v3.length c3].toArray 36)).cell? ⟨w.heap.size,o,none⟩ = (w.alloc (.cells [.int .i64 x0,.int .i64 x1,y2_0,y2_1,.slice a3 v3.length c3].toArray 36)).cell? ⟨w.heap.size,o,none⟩:=fun _=>rfl
 have HP : Hid (∀ b,S b->prot b):=hS
 have HS : Hid (∀ b,S b->(fun b=>prot b\/b = w.heap.size) b):=fun b hb=>.inl (hS b hb)
 clear h hr hS hl hq0
 go_enter Tryz.func84,Tryz.ntmps84
 go_wp2_with fail
 refine (zE9 p l bad (fun b=>prot b\/b = w.heap.size) x0 _ (by have:=hl2.out; omega) hW0).mono ?_
 rintro e w1 ⟨rfl,hW1,hK1⟩
 have hA1:=hA0.trans (hK1.mono (fun _ x=>.inl x))
 have hq1 : ∀ o,w1.cell? ⟨w.heap.size,o,none⟩ = (w.alloc (.cells [.int .i64 x0,.int .i64 x1,y2_0,y2_1,.slice a3 v3.length c3].toArray 36)).cell? ⟨w.heap.size,o,none⟩:=fun o=>hK1.cell (a:=⟨w.heap.size,o,none⟩) (.inr rfl)
 clear hW0 hK1 hA0
 go_wp2_with fail
 refine (zE9 p (l ++ (enN x0).1) (bad || (enN x0).2) (fun b=>prot b\/b = w.heap.size) x1 _ (by have:=hl2.out; have:=zA3 x0; simp only [List.length_append]; omega) hW1).mono ?_
 rintro e w2 ⟨rfl,hW2,hK2⟩
 have hA2:=hA1.trans (hK2.mono (fun _ x=>.inl x))
 have hq2 : ∀ o,w2.cell? ⟨w.heap.size,o,none⟩ = (w.alloc (.cells [.int .i64 x0,.int .i64 x1,y2_0,y2_1,.slice a3 v3.length c3].toArray 36)).cell? ⟨w.heap.size,o,none⟩:=fun o=>(hK2.cell (a:=⟨w.heap.size,o,none⟩) (.inr rfl)).trans (hq1 o)
 clear hW1 hK2 hA1 hq1
 go_wp2_with fail
 refine (xR7 p (l ++ (enN x0).1 ++ (enN x1).1) (bad || (enN x0).2 || (enN x1).2) (fun b=>prot b\/b = w.heap.size) S [y2_0,y2_1] v2 _ (by have:=hl2.out; have:=zA3 x0; have:=zA3 x1; simp only [List.length_append]; omega) HS.out (h2.kept hA2.size (fun b hb=>hA2.block b (HP.out b hb)) (fun _ x=>x)) hW2).mono ?_
 rintro e w3 ⟨rfl,hW3,hK3⟩
 have hA3:=hA2.trans (hK3.mono (fun _ x=>.inl x))
 have hq3 : ∀ o,w3.cell? ⟨w.heap.size,o,none⟩ = (w.alloc (.cells [.int .i64 x0,.int .i64 x1,y2_0,y2_1,.slice a3 v3.length c3].toArray 36)).cell? ⟨w.heap.size,o,none⟩:=fun o=>(hK3.cell (a:=⟨w.heap.size,o,none⟩) (.inr rfl)).trans (hq2 o)
 clear hW2 hK3 hA2 hq2
 go_wp2_with fail
 refine (xY6 p (l ++ (enN x0).1 ++ (enN x1).1 ++ (enR zB4 v2).1) (bad || (enN x0).2 || (enN x1).2 || (enR zB4 v2).2) (fun b=>prot b\/b = w.heap.size) S a3 c3 v3 _ (by have:=hl2.out; have:=zA3 x0; have:=zA3 x1; have:=zC8 zB4 v2; simp only [List.length_append]; omega) HS.out (h3.2.kept hA3.size (fun b hb=>hA3.block b (HP.out b hb)) (fun _ x=>x)) hW3).mono ?_
 rintro e w4 ⟨rfl,hW4,hK4⟩
 have hA4:=hA3.trans (hK4.mono (fun _ x=>.inl x))
 have hq4 : ∀ o,w4.cell? ⟨w.heap.size,o,none⟩ = (w.alloc (.cells [.int .i64 x0,.int .i64 x1,y2_0,y2_1,.slice a3 v3.length c3].toArray 36)).cell? ⟨w.heap.size,o,none⟩:=fun o=>(hK4.cell (a:=⟨w.heap.size,o,none⟩) (.inr rfl)).trans (hq3 o)
 clear hW3 hK4 hA3 hq3
 have HW : Hid (WR _ _ _ _ _):=hW4
 clear hW4
 go_wp2
 go_end0
 have hWf:=HW.out
 have e1 : (l ++ (enN x0).1 ++ (enN x1).1 ++ (enR zB4 v2).1 ++ (enR .byt v3).1) = l ++ (enR zA2 (x0,x1,v2,v3)).1:=by rw [zV0]; simp only [List.append_assoc]
 have e2 : (bad || (enN x0).2 || (enN x1).2 || (enR zB4 v2).2 || (enR .byt v3).2) = (bad || (enR zA2 (x0,x1,v2,v3)).2):=by rw [zV0]; simp only [Bool.or_assoc]
 rw [e1,e2] at hWf
 exact ⟨rfl,hWf.mono (fun _ x=>.inl x),hA4⟩
end
section
open Go.RowKit
theorem zT5 : (Tryz.prog.info? 36).map (·.size) = some (wd zA2):=by kernel_rfl
theorem zR6 (cs:List Value) (v:Vl zA2) (w:World) (hz:szb zA2 v<=137438953472) (hr:Rep w (fun b=>b < w.heap.size) zA2 cs v) :
    Calls Tryz.prog 52 #[.agg cs.toArray] w fun e w'=>∃ val,e = .returned (.tuple #[val,.int .i64 (zK5 (en zA2 v).2)])/\Own w' val (zD6 (en zA2 v))/\(∀ b,val.ownBlock = some b->w.heap.size<=b)/\Below w.heap.size w w':=by
 have hsz : Hid ((Tryz.prog.info? 36).map (·.size) = some cs.toArray.size):=by show _ = _; rw [List.size_toArray,hr.len]; exact zT5
 have HG2 : Hid (((w.alloc (.cells cs.toArray 36)).alloc (.cells #[.slice none 0 0,.bool false] 141)).heap[w.heap.size]? = some (.cells cs.toArray 36 (0,0))):=by
  show _ = _
  rw [Below.heap_alloc _ _ _ (by rw [World.size_alloc]; omega)]; exact heap_alloc_new w _
 have hB0 : Below w.heap.size w ((w.alloc (.cells cs.toArray 36)).alloc (.cells #[.slice none 0 0,.bool false] 141)):=((Below.refl _ _).alloc (Nat.le_refl _) _).alloc (by rw [World.size_alloc]; omega) _
 have HR : Hid (Rep ((w.alloc (.cells cs.toArray 36)).alloc (.cells #[.slice none 0 0,.bool false] 141)) (fun b=>b < w.heap.size) zA2 cs v):=hr.kept hB0.size (fun b hb=>hB0.block b hb) (fun _ x=>x)
 have HB0 : Hid _:=hB0
 clear hr hB0
 go_enter Tryz.func52,Tryz.ntmps52
 go_wp2_with (refine wpList_load_row rfl 36 (.tmp 1) rfl w.heap.size rfl 36 cs.toArray (0,0) _ HG2.out Tryz.underlying36 rfl hsz.out ?_)
 refine (yW3 _ [] false (fun b=>b < w.heap.size + 1) (fun b=>b < w.heap.size) cs v _ (by rw [List.length_nil]; omega) (fun b hb=>by omega) HR.out (yZ3 _ _ (by rw [World.size_alloc]))).mono ?_
 rintro e w1 ⟨rfl,hW,hK⟩
 have hB : Below w.heap.size w w1:=HB0.out.trans (hK.below.mono (by omega))
 rw [List.nil_append,Bool.false_or] at hW
 clear hK HG2
 go_wp2_with fail
 refine (xP2 _ _ _ _ _ hW).mono ?_
 rintro e w2 ⟨val,rfl,hO,hN0,hw⟩
 subst hw
 have hN : ∀ b,val.ownBlock = some b->w.heap.size<=b:=fun b hb=>by have:=hN0 b hb; simp at this; omega
 have HO : Hid (Own w2 val (zD6 (enR zA2 v))):=hO
 clear hO hN0 hW
 go_wp2
 go_ret2
 have hO:=HO.out
 have hq:=xR2 zA2 v
 have hby : zD6 (enR zA2 v) = zD6 (en zA2 v):=by
  unfold zD6
  rw [hq.1]
  cases hb : (en zA2 v).2 with
  | true=>rfl
  | false=>simp only [Bool.false_eq_true,if_false]; exact hq.2 hb
 rw [hby] at hO
 exact ⟨_,by rw [<- hq.1]; rfl,hO,hN,hB⟩
end
section
open Go.RowKit
theorem zV3 (v:Vl zA2) (h:(en zA2 v).2 = false) : szb zA2 v<=137438953472:=Nat.le_trans (xA0 zA2 v h) (Nat.le_of_ble_eq_true (by kernel_rfl))
end
section
open Go.RowKit Go.Maps
def sumB : List (List UInt8)->Nat
 | []=>0
 | b :: r=>b.length + 15 + sumB r
theorem yN4 : ∀ (x y:List (List UInt8)),sumB (x ++ y) = sumB x + sumB y:=by
 intro x
 induction x with
 | nil=>intro y; simp [sumB]
 | cons b r ih=>intro y; rw [List.cons_append,sumB,ih,sumB]; omega
theorem xA5 {bs:List (List UInt8)} {k:Nat} {b:List UInt8} (h:bs[k]? = some b) : sumB (bs.take (k + 1)) = sumB (bs.take k) + (b.length + 15):=by
 obtain ⟨hk,hb⟩:=List.getElem?_eq_some_iff.1 h
 rw [List.take_succ_eq_append_getElem hk,yN4,hb]
 simp [sumB]
theorem xU0 : ∀ (x:List (List UInt8)),x.length * 15<=sumB x:=by
 intro x
 induction x with
 | nil=>simp [sumB]
 | cons b r ih=>rw [List.length_cons,sumB]; omega
theorem xT9 : ∀ (x:List (List UInt8)),(∀ b ∈ x,b.length<=7470)->sumB x<=x.length * 7485:=by
 intro x
 induction x with
 | nil=>intro _; simp [sumB]
 | cons b r ih =>
  intro h
  have:=h b (by simp)
  have:=ih (fun c hc=>h c (by simp [hc]))
  rw [List.length_cons,sumB]; omega
theorem Okd.b7 {s:Sd} (h:Okd s) : ∀ b ∈ s.bs,b.length<=7470:=fun b hb=>by
 obtain ⟨i,hi,rfl⟩:=List.getElem_of_mem hb
 exact zI3 (h.es i _ (List.getElem?_eq_getElem hi)).1
theorem xX0 : ∀ (bs:List (List UInt8)) (n:Int),(frE n bs).length = sumB bs:=by
 intro bs
 induction bs with
 | nil=>intro n; rfl
 | cons b r ih=>intro n; rw [frE,List.length_append,zC0,ih,sumB]
theorem Okd.snE {s:Sd} (h:Okd s) : (en zA2 (snV s)).2 = false:=by
 unfold snV
 cases hs : s.sn with
 | none=>kernel_rfl
 | some b=>exact (zY3 (h.sn b hs).1).1
def zR1 (s:Sd) : Nat:=79 + (en zA2 (snV s)).1.length + sumB s.bs
theorem Okd.frl {s:Sd} (h:Okd s) : (zC9 s).length<=zR1 s:=by
 have h1:=zH2 h.t h.v
 unfold zC9 frS zR1
 rw [List.length_append,List.length_append,zC0,xX0]
 cases hs : s.sn with
 | none=>simp only [List.length_nil]; omega
 | some b =>
  have e : (en zA2 (snV s)).1 = b:=by unfold snV; rw [hs]; exact (zY3 (h.sn b hs).1).2.symm
  rw [e]
  simp only [zC0]
  omega
theorem yD8 {s:Sd} : s.bs.length * 15<=zR1 s:=by
 have:=xU0 s.bs
 unfold zR1; omega
theorem kB0 {s:Sd} : (en zA2 (snV s)).1.length<=66334:=zU8 _
theorem kE4 {f:Fm} {v:Vl f} (h:(en f v).2 = false) : zD6 (en f v) = (en f v).1:=by unfold zD6; rw [h]; rfl
theorem zX9 (S:Nat->Prop) (cs:List Value) (s:Sd) (w:World) (hr:Rep w S zB6 cs (dec s)) (hS:∀ k,S k->k < w.heap.size) (hok:Okd s) (hlb:s.bs.length<=4194304) : Calls Tryz.prog 24 #[.agg cs.toArray] w fun e w'=>e = .returned (.int .i64 (zR1 s:Nat))/\Below w.heap.size w w':=by
 obtain ⟨av,nv,cv,al,nl,cl,ad,nd,cd,ea,ec,rfl,hsn,hrl⟩:=zG1 hr
 have hml : (s.bs.map dE).length = s.bs.length:=by simp
 have hsE:=hok.snE
 have hb7:=hok.b7
 have hsl:=kB0 (s:=s)
 obtain ⟨n1,hn1⟩ : ∃ n1,n1 = (en zA2 (snV s)).1.length:=⟨_,rfl⟩
 have HSM : Hid (zR1 s = 79 + n1 + sumB s.bs):=zA0 (by unfold zR1; rw [hn1])
 have HN1:=zA0 hn1
 rw [<- hn1] at hsl
 simp only [dec] at *
 rw [hml]
 have HRL:=zA0 hrl
 have HSN:=zA0 hsn
 have HSE:=zA0 hsE
 have HB7:=zA0 hb7
 have HOK:=zA0 hok
 have HS:=zA0 hS
 have HML:=zA0 hml
 have HZS:=zA0 (zV3 _ hsE)
 clear hr hsn hrl hn1 hsE hb7 hok hml
 generalize hsnv : snV s = sn at *
 clear hsnv
 obtain ⟨bi,bt,cf,ld⟩:=sn
 obtain ⟨len,hlen⟩ : ∃ x,x = s.bs.length:=⟨_,rfl⟩
 rw [<- hlen] at hlb ⊢
 have HLEN:=zA0 hlen
 clear hlen
 generalize s.t = t at *
 generalize s.v = v at *
 obtain ⟨w0,hw0⟩ : ∃ w0,w0 = w.alloc (.cells #[.int .i64 t,.int .i64 v,.int .i64 bi,.int .i64 bt,.slice av nv cv,.slice al nl cl,.slice ad nd cd,.slice ea len ec] 39):=⟨_,rfl⟩
 have HB0 : Hid (Below w.heap.size w w0):=zA0 (by rw [hw0]; exact zB5 w _)
 have HG0 : Hid (w0.heap[w.heap.size]? = some (.cells #[.int .i64 t,.int .i64 v,.int .i64 bi,.int .i64 bt,.slice av nv cv,.slice al nl cl,.slice ad nd cd,.slice ea len ec] 39 (0,0))):=zA0 (by rw [hw0]; exact heap_alloc_new w _)
 have CF : Hid (∀ W : World,W.heap[w.heap.size]? = some (.cells #[.int .i64 t,.int .i64 v,.int .i64 bi,.int .i64 bt,.slice av nv cv,.slice al nl cl,.slice ad nd cd,.slice ea len ec] 39 (0,0))->W.cell? ⟨w.heap.size,2,none⟩ = some (.int .i64 bi)/\W.cell? ⟨w.heap.size,3,none⟩ = some (.int .i64 bt)/\W.cell? ⟨w.heap.size,4,none⟩ = some (.slice av nv cv)/\W.cell? ⟨w.heap.size,5,none⟩ = some (.slice al nl cl)/\W.cell? ⟨w.heap.size,6,none⟩ = some (.slice ad nd cd)/\W.cell? ⟨w.heap.size,7,none⟩ = some (.slice ea len ec)):=zA0 (fun W g=>by
  refine ⟨?_,?_,?_,?_,?_,?_⟩ <;> (rw [cell_of_row _ _ _ _ 39 (0,0) g]; rfl))
 obtain ⟨p2,p3,p4,p5,p6,p7⟩:=CF.out w0 HG0.out
 have l0:=zA1 HG0.out
 have HPS:=zA0 (zR6 [.int .i64 bi,.int .i64 bt,.slice av nv cv,.slice al nl cl,.slice ad nd cd] (bi,bt,cf,ld) w0 HZS.out (HSN.out.kept HB0.out.size (fun k hk=>HB0.out.block k (HS.out k hk)) (fun k hk=>Nat.lt_of_lt_of_le (HS.out k hk) HB0.out.size)))
 go_enter Tryz.func24,Tryz.ntmps24
 go_upto_region 1 with (fail)
 rw [<- hw0]
 clear hw0
 go_wp2_with fail
 refine Calls.mono HPS.out ?_
 rintro e w1 ⟨z1,rfl,ho1,_,hB1⟩
 rw [kE4 HSE.out] at ho1
 obtain ⟨za1,zc1,hz1,_⟩:=ho1.form
 subst hz1
 rw [<- HN1.out]
 have HB1:=zA0 (HB0.out.trans (hB1.mono HB0.out.size))
 have HG1:=zA0 ((hB1.block _ (zA1 HG0.out)).trans HG0.out)
 clear ho1 hB1 HPS p2 p3 p4 p5 p6 p7 l0
 generalize zK5 (en zA2 (bi,bt,cf,ld)).2 = co
 go_wp2
 go_loopw [3,6] (fun sv i wr=>∃ (k N:Nat),k<=len/\i = .int .i64 (k:Int)/\sv = .int .i64 (N:Int)/\Hid (N = 79 + n1 + sumB (s.bs.take k))/\Hid (wr.heap[w.heap.size]? = some (.cells #[.int .i64 t,.int .i64 v,.int .i64 bi,.int .i64 bt,.slice av nv cv,.slice al nl cl,.slice ad nd cd,.slice ea len ec] 39 (0,0)))/\Hid (Below w.heap.size w wr)) (fun _ i _=>len - (intOf i).toNat)
 case atStart=>exact ⟨0,79 + n1,Nat.zero_le _,rfl,by go_num,zA0 (by simp [sumB]),HG1,HB1⟩
 case round =>
  obtain ⟨k,N,hk,rfl,rfl,HN,HG,HBR⟩:=hrel
  obtain ⟨_,_,_,_,_,p7⟩:=CF.out wr HG.out
  have l0:=zA1 HG.out
  have hNb : N<=31394500000:=by
   have h1:=xT9 (s.bs.take k) (fun b hb=>HB7.out b (List.mem_of_mem_take hb))
   have h2 : (s.bs.take k).length<=4194304:=by rw [List.length_take]; omega
   have:=HN.out
   omega
  by_cases hlt : k < len
  · have hkl : k < (s.bs.map dE).length:=by rw [HML.out,<- HLEN.out]; exact hlt
    obtain ⟨b1,o1,es1,rfl,hs1,hr1,hg1⟩:=Rep.load HRL.out hkl
    obtain ⟨bo,hbo⟩ : ∃ bo,s.bs[k]? = some bo:=⟨_,List.getElem?_eq_getElem (by rw [<- HLEN.out]; exact hlt)⟩
    have hx : (s.bs.map dE)[k] = dE bo:=by
     have : (s.bs.map dE)[k]? = some (dE bo):=by rw [List.getElem?_map,hbo]; rfl
     rw [List.getElem?_eq_getElem hkl] at this
     exact Option.some.inj this
    rw [hx] at hr1
    have hoe:=(HOK.out.es k bo hbo).1
    have hen:=(zP4 hoe).1
    have HBY : Hid (zD6 (en zA8 (dE bo)) = bo):=zA0 (by rw [kE4 hen]; exact (zP4 hoe).2.symm)
    have hbl : bo.length<=7470:=zI3 hoe
    have HN2 : Hid (N + bo.length + 15 = 79 + n1 + sumB (s.bs.take (k + 1))):=zA0 (by rw [xA5 hbo,HN.out]; omega)
    obtain ⟨r1,he1,hel1⟩:=zD3 hr1
    have lb1:=HS.out b1 hs1
    have R1:=zA0 (hr1.kept (S':=fun q=>q < wr.heap.size) HBR.out.size (fun j hj=>HBR.out.block j (HS.out j hj)) (fun j hj=>Nat.lt_of_lt_of_le (HS.out j hj) HBR.out.size))
    have G1 : Hid (wr.rangeAt b1 (o1 + k * 29) es1):=zA0 (zB1 hg1 (HBR.out.block b1 lb1))
    have I1:=zA0 (zF6 hel1)
    have HSZ:=zA0 (zH7 _ hen)
    clear hr1 hg1 he1 hel1 hen hoe hx hbo hkl r1 hs1
    have lbr : b1 < wr.heap.size:=Nat.lt_of_lt_of_le lb1 HBR.out.size
    go_wp2_with (refine wpList_load_mid rfl 73 (.tmp 31) rfl b1 (o1 + k * 29) rfl es1 _ G1.out Tryz.underlying73 rfl I1.out ?_)
    refine (zI1 es1 (dE bo) wr HSZ.out R1.out).mono ?_
    rintro e w2 ⟨z2,rfl,ho2,_,hB2⟩
    rw [HBY.out] at ho2
    obtain ⟨za2,zc2,hz2,_⟩:=ho2.form
    subst hz2
    have HG2:=zA0 ((hB2.block _ (zA1 HG.out)).trans HG.out)
    have HBR2:=zA0 (HBR.out.trans (hB2.mono HBR.out.size))
    clear ho2 hB2 p7 l0
    generalize zK5 (en zA8 (dE bo)).2 = co2
    generalize bo.length = bn at *
    go_wp2
    exact ⟨⟨k + 1,N + bn + 15,by omega,by go_num,by go_num,HN2,HG2,HBR2⟩,by simp [intOf]; omega⟩
  · have hke : k = len:=by omega
    have HNE : Hid (N = zR1 s):=zA0 (by rw [HN.out,hke,HLEN.out,List.take_length,HSM.out])
    clear hke
    go_wp2
    go_ret
    exact ⟨by rw [<- HNE.out]; rfl,HBR.out⟩
end
end Go.Proofs.YtocoimjhglackaaGreat
