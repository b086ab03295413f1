/- Wff, Wfg -/
import Derived.Test.YtocoimjhglackaaGreatK23
set_option maxHeartbeats 8000000
set_option maxRecDepth 100000
namespace Go.Proofs.YtocoimjhglackaaGreat
section
open Go.RowKit Go.Maps
theorem Okd.len {s:Sd} (h:Okd s) : s.base + s.bs.length<=1099511627776:=by
 cases hn : s.bs.length with
 | zero=>have:=h.base.2; omega
 | succ n =>
  obtain ⟨b,hb⟩ : ∃ b,s.bs[n]? = some b:=⟨s.bs[n],List.getElem?_eq_getElem (by omega)⟩
  have:=h.es n b hb
  have h2:=xL4 this.1 this.2
  omega
theorem yW4 (a:Option Addr) (n cap k:Nat) (l:List UInt8) (w:World) (hn:n = l.length) (hcap:n<=cap) (hk:k<=n) (h:Bs w a l) (hb:∀ y,a = some y->y.block < w.heap.size) :
    ∃ a',(∀ wx : World,(Instr.slice 22 (.slice a n cap) (some (.int .i64 (k:Int))) none none).run Tryz.prog wx = .ok (.slice a' (n - k) (cap - k)) wx)/\Bs w a' (l.drop k)/\(∀ y,a' = some y->y.block < w.heap.size):=by
 refine ⟨if cap = k then a else a.map (·.add k),fun wx=>?_,?_,fun y hy=>?_⟩
 · rw [run_slice_l (P:=Tryz.prog) wx 22 a n cap Tryz.elem22 .i64 k (by omega) (by omega),Tryz.size5]
   simp only [Result.andThen_ok,sliced,Int.toNat_natCast,Nat.mul_one]
 · refine ⟨by rw [List.length_drop]; have:=h.1; omega,fun hne=>?_⟩
   have hlt : k < l.length:=by
    refine Classical.byContradiction fun hn=>hne ?_
    rw [List.drop_of_length_le (by omega)]
   obtain ⟨b,off,rfl,hb1,hc⟩:=h.2 (by intro e; rw [e] at hlt; simp at hlt)
   rw [if_neg (by omega)]
   refine ⟨b,off + k,by simp [Addr.add_lit],hb1,fun j hj=>?_⟩
   rw [List.length_drop] at hj
   rw [Nat.add_assoc,hc (k + j) (by omega),yV4]
 · split at hy
   · exact hb y hy
   · cases a with
     | none=>cases hy
     | some x =>
      simp at hy
      subst hy
      have:=hb x rfl
      cases x
      unfold Addr.add
      split <;> exact this
def Z94 : Array Value:=#[.int .i64 0,.int .i64 0,.slice none 0 0,.int .i64 0,.slice none 0 0]
theorem sd0R (w:World) : SdR (w.heap.size + 1) ((w.alloc (.cells Z94 94)).alloc (.cells Z94 94)) (w.heap.size + 1) sd0 (.slice none 0 0) (.slice none 0 0) []:=by
 refine ⟨?_,Nat.le_refl _,rfl,⟨rfl,.inl ⟨rfl,rfl⟩⟩,rfl,fun i x b h=>by simp at h⟩
 have:=heap_alloc_new (w.alloc (.cells Z94 94)) (.cells Z94 94)
 rw [World.size_alloc] at this
 exact this
theorem SnV.form {w:World} {S:Nat->Prop} {v:Value} {o:Option (List UInt8)} (h:SnV w S v o) : ∃ a n c,v = .slice a n c:=by
 cases o with
 | none=>exact ⟨_,_,_,h⟩
 | some b=>obtain ⟨a,c,e,_⟩:=h.1.form; exact ⟨_,_,_,e⟩
theorem set5 {w:World} {g:Nat} {t:TypeId} (h:w.heap[g]? = some (.cells Z94 t (0,0))) (x0 x1 x2 x3 x4:Value) : (((((w.setCell ⟨g,0,none⟩ x0).setCell ⟨g,1,none⟩ x1).setCell ⟨g,2,none⟩ x2).setCell ⟨g,3,none⟩ x3).setCell ⟨g,4,none⟩ x4).heap[g]? = some (.cells #[x0,x1,x2,x3,x4] t (0,0)):=by
 rw [heap_setCell_same _ g 4 _ t x4 (heap_setCell_same _ g 3 _ t x3 (heap_setCell_same _ g 2 _ t x2 (heap_setCell_same _ g 1 _ t x1 (heap_setCell_same w g 0 _ t x0 h))))]
 rfl
theorem yW5 (w:World) (g:Nat) (x0 x1 x2 x3 x4:Value) : ∀ k,k ≠ g->(((((w.setCell ⟨g,0,none⟩ x0).setCell ⟨g,1,none⟩ x1).setCell ⟨g,2,none⟩ x2).setCell ⟨g,3,none⟩ x3).setCell ⟨g,4,none⟩ x4).heap[k]? = w.heap[k]?:=fun k hk =>
 (zB0 _ g 4 _ k hk).trans ((zB0 _ g 3 _ k hk).trans ((zB0 _ g 2 _ k hk).trans ((zB0 _ g 1 _ k hk).trans (zB0 w g 0 _ k hk))))
theorem zI0 (w:World) (g:Nat) (x0 x1 x2 x3 x4:Value) : Below g w (((((w.setCell ⟨g,0,none⟩ x0).setCell ⟨g,1,none⟩ x1).setCell ⟨g,2,none⟩ x2).setCell ⟨g,3,none⟩ x3).setCell ⟨g,4,none⟩ x4) :=
 ((((zC2 (Nat.le_refl g) w 0 x0).trans (zC2 (Nat.le_refl g) _ 1 x1)).trans (zC2 (Nat.le_refl g) _ 2 x2)).trans (zC2 (Nat.le_refl g) _ 3 x3)).trans (zC2 (Nat.le_refl g) _ 4 x4)
theorem zJ7 {w:World} {g:Nat} (h:w.heap[g]? = some (.cells Z94 94 (0,0))) : w.cell? ⟨g,0,none⟩ = some (.int .i64 0)/\w.cell? ⟨g,1,none⟩ = some (.int .i64 0)/\w.cell? ⟨g,2,none⟩ = some (.slice none 0 0)/\w.cell? ⟨g,3,none⟩ = some (.int .i64 0)/\w.cell? ⟨g,4,none⟩ = some (.slice none 0 0)/\g < w.heap.size/\∀ o,w.frozen? ⟨g,o,none⟩ = false:=by
 refine ⟨?_,?_,?_,?_,?_,zA1 h,fun o=>by simp [World.frozen?,h]⟩ <;> rw [cell_of_row w g _ _ 94 (0,0) h] <;> rfl
theorem SdR.said {D:Nat} {w w':World} {p:Nat} {s:Sd} {sv ev:Value} {xs:List Value} (h:SdR (D + 1) w p s sv ev xs) (hk:∀ k,D + 1<=k->w'.heap[k]? = w.heap[k]?) (hs:w.heap.size<=w'.heap.size) : zJ6 w' (fun k=>D<=k) [.int .i64 s.t,.int .i64 s.v,sv,.int .i64 s.base,ev] s:=by
 obtain ⟨cs,⟨sv',ev',rfl,h1,h2⟩,hr⟩:=h.at
 have e1 : sv' = sv:=by
  have a:=hr 2 _ rfl
  have b:=h.blk.cells.2.2.1
  rw [Nat.zero_add,b] at a
  exact (Option.some.inj a).symm
 have e2 : ev' = ev:=by
  have a:=hr 4 _ rfl
  have b:=h.blk.cells.2.2.2.2.1
  rw [Nat.zero_add,b] at a
  exact (Option.some.inj a).symm
 subst e1 e2
 exact ⟨_,_,rfl,h1.kept hk (fun k hk=>by omega),h2.kept hs hk (fun k hk=>by omega)⟩
def RdP (w:World) (l:List UInt8) (e:Ending) (w':World) : Prop:=Below w.heap.size w w'/\match rdF sd0 l with
 | none=>e = .returned (.tuple #[.agg Z94,.int .i64 0,.int .i64 13])
 | some (s,n)=>∃ cs,e = .returned (.tuple #[.agg cs.toArray,.int .i64 (n:Int),.int .i64 0])/\zJ6 w' (fun k=>w.heap.size<=k) cs s
theorem kD7 : (Tryz.prog.info? 94).map (·.size) = some 5:=by kernel_rfl
theorem yW7 (tmps:Array Value) (W:World) (g:Nat) (cs:Array Value) (x y:Int) (hs:cs.size = 5) (h2:tmps[2]?.getD undef = .pointer (some ⟨g,0,none⟩)) (h3:tmps[3]?.getD undef = .int .i64 x) (h4:tmps[4]?.getD undef = .int .i64 y) (hg:W.heap[g]? = some (.cells cs 94 (0,0))) : (results Tryz.f37 tmps).run Tryz.prog W = .ok (.tuple #[.agg cs,.int .i64 x,.int .i64 y]) W:=by
 have hl:=run_loadVar_row (P:=Tryz.prog) W g 94 94 cs (0,0) _ hg Tryz.underlying94 rfl (by rw [hs]; exact kD7)
 simp [results,Tryz.results37,asAddr,h2,h3,h4,hl]
theorem xK7 (a:Option Addr) (n cap:Nat) (l:List UInt8) (w:World) (hn:n = l.length) (hcap:n<=cap) (hb:Bs w a l) (hbl:∀ y,a = some y->y.block < w.heap.size) (hl:l.length<=1048576) : Calls Tryz.prog 37 #[.slice a n cap] w (RdP w l):=by
 have HN:=zA0 hn
 have HC:=zA0 hcap
 have HB:=zA0 hb
 have HBL:=zA0 hbl
 have HL:=zA0 hl
 have hl2 : (n:Int)<=1048576:=by omega
 have hg0 : ((w.alloc (.cells Z94 94)).alloc (.cells Z94 94)).heap[w.heap.size]? = some (.cells Z94 94 (0,0)):=(Below.heap_alloc _ _ _ (by simp)).trans (heap_alloc_new w _)
 have HG0:=zA0 hg0
 have HB0 : Hid (Below w.heap.size w ((w.alloc (.cells Z94 94)).alloc (.cells Z94 94))):=zA0 ((zB5 w _).alloc (by simp) _)
 clear hn hcap hb hbl hl hg0
 go_enter Tryz.func37,Tryz.ntmps37
 go_wp2
 go_step3
 go_wp2
 go_step3
 go_wp2
 go_loopw [6] (fun i wr=>∃ (k:Nat) (s:Sd) (sv ev:Value) (xs:List Value),k<=n/\i = .int .i64 (k:Int)/\Hid (SdR (w.heap.size + 1) wr (w.heap.size + 1) s sv ev xs)/\Hid (Okd s)/\Hid (rdF sd0 l = (rdF s (l.drop k)).map fun r=>(r.1,k + r.2))/\Hid (Below w.heap.size w wr)/\Hid (wr.heap[w.heap.size]? = some (.cells Z94 94 (0,0)))) (fun i _=>n - (intOf i).toNat)
 case atStart=>exact ⟨0,sd0,_,_,_,Nat.zero_le _,rfl,zA0 (sd0R w),zA0 okd0,zA0 (by simp),HB0,HG0⟩
 case round =>
  obtain ⟨k,s,sv,ev,xs,hk,rfl,HS,HOK,HR,HBr,HGr⟩:=hrel
  obtain ⟨a',hsl,hbs,hbk⟩:=yW4 a n cap k l wr HN.out HC.out hk (HB.out.grow HBr.out) (fun y hy=>Nat.lt_of_lt_of_le (HBL.out y hy) HBr.out.size)
  have hd : n - k = (l.drop k).length:=by rw [List.length_drop,<- HN.out]
  have HU:=zA0 (yM8 a' (n - k) (cap - k) (l.drop k) wr hd (by have:=HC.out; omega) hbs)
  obtain ⟨m,hm⟩ : ∃ m,m = n - k:=⟨_,rfl⟩
  obtain ⟨c,hc⟩ : ∃ c,c = cap - k:=⟨_,rfl⟩
  rw [<- hm,<- hc] at hsl HU
  clear hbs hbk hd hm hc
  go_wp2_with fail
  refine HU.out.mono ?_
  rintro e wu ⟨v,rfl,hbo,hst⟩
  have hBu:=hst.belowN
  have HSU:=zA0 (HS.out.grow hBu)
  have HBu:=zA0 (HBr.out.trans (hBu.mono HBr.out.size))
  have HGu:=zA0 ((hBu.block _ (zA1 HGr.out)).trans HGr.out)
  have HDU : Hid (w.heap.size + 1<=wu.heap.size):=zA0 (zA1 HGu.out)
  have HBV : Hid (BodV wu (fun q=>w.heap.size + 1<=q) v (unf (l.drop k)).body):=zA0 ⟨SlR.own hbo,fun q hq=>by
   rcases hst.row with e | ⟨x,e,hx⟩
   · rw [hq] at e; cases e
   · rw [hq] at e; cases e; have:=zA1 HGr.out; omega⟩
  obtain ⟨va,vn,vc,hvv⟩ : ∃ a n c,v = .slice a n c:=by obtain ⟨a,c,h,_⟩:=hbo.form; exact ⟨a,_,c,h⟩
  subst hvv
  clear hbo hst hBu HU hsl
  by_cases herr : (unf (l.drop k)).err = 0
  · by_cases hus : (unf (l.drop k)).used = 0
    · have HR2 : Hid (rdF sd0 l = some (s,k)):=zA0 (by rw [HR.out,zJ1 herr hus]; rfl)
      rw [herr,hus]
      generalize (unf (l.drop k)).kind = kd at *
      generalize (unf (l.drop k)).place = pl at *
      generalize (unf (l.drop k)).body = bo at *
      clear herr hus
      obtain ⟨sa,sn,sc,e1⟩:=HSU.out.sn.form
      obtain ⟨ea,en,ec,e2⟩:=zV7 HSU.out.row
      subst e1 e2
      obtain ⟨c0,c1,c2,c3,c4,lp,fp⟩:=HSU.out.blk.cells
      obtain ⟨d0,d1,d2,d3,d4,ld,fd⟩:=zJ7 HGu.out
      go_wp2
      refine bodyPost_ret (v:=.tuple #[.agg #[.int .i64 s.t,.int .i64 s.v,.slice sa sn sc,.int .i64 s.base,.slice ea en ec],.int .i64 (k:Int),.int .i64 0]) ?_ rfl ⟨?_,?_⟩
      · exact yW7 _ _ w.heap.size _ _ _ rfl rfl rfl rfl (set5 HGu.out _ _ _ _ _)
      · exact HBu.out.trans (zI0 _ _ _ _ _ _ _)
      · rw [HR2.out]
        exact ⟨_,rfl,HSU.out.said (fun q hq=>yW5 _ _ _ _ _ _ _ q (by omega)) (by simp)⟩
    · have HST:=zA0 (xK9 (s:=s) herr hus)
      obtain ⟨us,hu⟩ : ∃ us : Nat,(unf (l.drop k)).used = (us:Int):=⟨(unf (l.drop k)).used.toNat,by have:=HST.out.1; omega⟩
      rw [hu] at HST
      simp only [Int.toNat_natCast] at HST
      rw [herr,hu]
      generalize (unf (l.drop k)).kind = kd at *
      generalize (unf (l.drop k)).place = pl at *
      generalize (unf (l.drop k)).body = bo at *
      clear herr hus hu
      obtain ⟨u1,u2,k0,pl0,pl1,bol,STEP0⟩:=HST.out
      rw [List.length_drop,<- HN.out] at u2
      have u3 : k + us<=n:=by omega
      have us0 : ((us:Int) == 0) = false:=by rw [beq_eq_false_iff_ne]; omega
      have STEP:=zA0 STEP0
      have PL0:=zA0 pl0
      have BOL:=zA0 bol
      have HBS : Hid (vn = bo.length/\Bs wu va bo):=zA0 (by obtain ⟨q1,_,q2,_⟩:=yN1 HBV.out.1 bol; exact ⟨q1,q2⟩)
      clear STEP0 HST pl0 pl1 bol k0
      by_cases hk1 : kd = 1
      · subst hk1
        have ET : Hid (zH6 s 1 pl bo = yA7 s pl bo):=zA0 (by unfold zH6; simp)
        cases ht : yA7 s pl bo with
        | none =>
         have HR2 : Hid (rdF sd0 l = none):=zA0 (by rw [HR.out,STEP.out,ET.out,ht]; rfl)
         have HTN:=zA0 ht
         clear ht
         go_wp2_with fail
         refine (zU1 (w.heap.size + 1) (w.heap.size + 1) s sv ev xs pl va vn vc bo wu HDU.out HSU.out HBS.out.1 HBS.out.2 BOL.out).mono ?_
         rintro e w3 ⟨rfl,hb3,hs3⟩
         rw [HTN.out]
         have HB3:=zA0 hb3
         have HG3:=zA0 ((hb3.block _ (Nat.lt_succ_self _)).trans HGu.out)
         obtain ⟨d0,d1,d2,d3,d4,ld,fd⟩:=zJ7 HG3.out
         clear hb3 hs3
         go_wp2
         refine bodyPost_ret (v:=.tuple #[.agg Z94,.int .i64 0,.int .i64 13]) ?_ rfl ⟨?_,by rw [HR2.out]⟩
         · exact yW7 _ _ w.heap.size Z94 0 13 rfl rfl rfl rfl (set5 HG3.out _ _ _ _ _)
         · exact (HBu.out.trans (HB3.out.mono (Nat.le_succ _))).trans (zI0 _ _ _ _ _ _ _)
        | some s2 =>
         have HTN:=zA0 ht
         have HOK2:=zA0 (zV5 (s':=s2) HOK.out PL0.out (by rw [ET.out]; exact ht))
         have HR2 : Hid (rdF sd0 l = (rdF s2 (l.drop (k + us))).map fun r=>(r.1,k + us + r.2)):=zA0 (by
          rw [HR.out,STEP.out,ET.out,ht]
          simp only [Option.bind_some,List.drop_drop,Option.map_map]
          congr 1
          funext r
          simp [Nat.add_assoc])
         clear ht
         go_wp2_with fail
         refine (zU1 (w.heap.size + 1) (w.heap.size + 1) s sv ev xs pl va vn vc bo wu HDU.out HSU.out HBS.out.1 HBS.out.2 BOL.out).mono ?_
         rintro e w3 ⟨rfl,hb3,hs3⟩
         rw [HTN.out]
         have HB3:=zA0 hb3
         obtain ⟨sv2,ev2,xs2,h3⟩:=hs3 s2 HTN.out
         have HG3:=zA0 ((hb3.block _ (Nat.lt_succ_self _)).trans HGu.out)
         have HS3:=zA0 h3
         clear hb3 hs3 h3
         go_wp2
         go_roundw
         case rel=>exact ⟨k + us,s2,sv2,ev2,xs2,u3,by go_num,HS3,HOK2,HR2,zA0 (HBu.out.trans (HB3.out.mono (Nat.le_succ _))),HG3⟩
         case measure=>simp [intOf]; omega
      · by_cases hk2 : kd = 2
        · subst hk2
          have ET : Hid (zH6 s 2 pl bo = zR0 s pl bo):=zA0 (by unfold zH6; simp)
          cases ht : zR0 s pl bo with
          | none =>
           have HR2 : Hid (rdF sd0 l = none):=zA0 (by rw [HR.out,STEP.out,ET.out,ht]; rfl)
           have HTN:=zA0 ht
           clear ht
           go_wp2_with fail
           refine (zQ9 (w.heap.size + 1) (w.heap.size + 1) s sv ev xs pl va vn vc bo wu HDU.out HSU.out HBV.out BOL.out HOK.out.base (by have:=HOK.out.len; have:=HOK.out.base.1; omega)).mono ?_
           rintro e w3 ⟨rfl,hb3,hs3⟩
           rw [HTN.out]
           have HB3:=zA0 hb3
           have HG3:=zA0 ((hb3.block _ (Nat.lt_succ_self _)).trans HGu.out)
           obtain ⟨d0,d1,d2,d3,d4,ld,fd⟩:=zJ7 HG3.out
           clear hb3 hs3
           go_wp2
           refine bodyPost_ret (v:=.tuple #[.agg Z94,.int .i64 0,.int .i64 13]) ?_ rfl ⟨?_,by rw [HR2.out]⟩
           · exact yW7 _ _ w.heap.size Z94 0 13 rfl rfl rfl rfl (set5 HG3.out _ _ _ _ _)
           · exact (HBu.out.trans (HB3.out.mono (Nat.le_succ _))).trans (zI0 _ _ _ _ _ _ _)
          | some s2 =>
           have HTN:=zA0 ht
           have HOK2:=zA0 (zV5 (s':=s2) HOK.out PL0.out (by rw [ET.out]; exact ht))
           have HR2 : Hid (rdF sd0 l = (rdF s2 (l.drop (k + us))).map fun r=>(r.1,k + us + r.2)):=zA0 (by
            rw [HR.out,STEP.out,ET.out,ht]
            simp only [Option.bind_some,List.drop_drop,Option.map_map]
            congr 1
            funext r
            simp [Nat.add_assoc])
           clear ht
           go_wp2_with fail
           refine (zQ9 (w.heap.size + 1) (w.heap.size + 1) s sv ev xs pl va vn vc bo wu HDU.out HSU.out HBV.out BOL.out HOK.out.base (by have:=HOK.out.len; have:=HOK.out.base.1; omega)).mono ?_
           rintro e w3 ⟨rfl,hb3,hs3⟩
           rw [HTN.out]
           have HB3:=zA0 hb3
           obtain ⟨sv2,ev2,xs2,h3⟩:=hs3 s2 HTN.out
           have HG3:=zA0 ((hb3.block _ (Nat.lt_succ_self _)).trans HGu.out)
           have HS3:=zA0 h3
           clear hb3 hs3 h3
           go_wp2
           go_roundw
           case rel=>exact ⟨k + us,s2,sv2,ev2,xs2,u3,by go_num,HS3,HOK2,HR2,zA0 (HBu.out.trans (HB3.out.mono (Nat.le_succ _))),HG3⟩
           case measure=>simp [intOf]; omega
        · by_cases hk3 : kd = 3
          · subst hk3
            have ET : Hid (zH6 s 3 pl bo = yA6 s pl bo):=zA0 (by unfold zH6; simp)
            cases ht : yA6 s pl bo with
            | none =>
             have HR2 : Hid (rdF sd0 l = none):=zA0 (by rw [HR.out,STEP.out,ET.out,ht]; rfl)
             have HTN:=zA0 ht
             clear ht
             go_wp2_with fail
             refine (zM4 (w.heap.size + 1) (w.heap.size + 1) s sv ev xs pl va vn vc bo wu HDU.out HSU.out HBV.out BOL.out).mono ?_
             rintro e w3 ⟨rfl,hb3,hs3⟩
             rw [HTN.out]
             have HB3:=zA0 hb3
             have HG3:=zA0 ((hb3.block _ (Nat.lt_succ_self _)).trans HGu.out)
             obtain ⟨d0,d1,d2,d3,d4,ld,fd⟩:=zJ7 HG3.out
             clear hb3 hs3
             go_wp2
             refine bodyPost_ret (v:=.tuple #[.agg Z94,.int .i64 0,.int .i64 13]) ?_ rfl ⟨?_,by rw [HR2.out]⟩
             · exact yW7 _ _ w.heap.size Z94 0 13 rfl rfl rfl rfl (set5 HG3.out _ _ _ _ _)
             · exact (HBu.out.trans (HB3.out.mono (Nat.le_succ _))).trans (zI0 _ _ _ _ _ _ _)
            | some s2 =>
             have HTN:=zA0 ht
             have HOK2:=zA0 (zV5 (s':=s2) HOK.out PL0.out (by rw [ET.out]; exact ht))
             have HR2 : Hid (rdF sd0 l = (rdF s2 (l.drop (k + us))).map fun r=>(r.1,k + us + r.2)):=zA0 (by
              rw [HR.out,STEP.out,ET.out,ht]
              simp only [Option.bind_some,List.drop_drop,Option.map_map]
              congr 1
              funext r
              simp [Nat.add_assoc])
             clear ht
             go_wp2_with fail
             refine (zM4 (w.heap.size + 1) (w.heap.size + 1) s sv ev xs pl va vn vc bo wu HDU.out HSU.out HBV.out BOL.out).mono ?_
             rintro e w3 ⟨rfl,hb3,hs3⟩
             rw [HTN.out]
             have HB3:=zA0 hb3
             obtain ⟨sv2,ev2,xs2,h3⟩:=hs3 s2 HTN.out
             have HG3:=zA0 ((hb3.block _ (Nat.lt_succ_self _)).trans HGu.out)
             have HS3:=zA0 h3
             clear hb3 hs3 h3
             go_wp2
             go_roundw
             case rel=>exact ⟨k + us,s2,sv2,ev2,xs2,u3,by go_num,HS3,HOK2,HR2,zA0 (HBu.out.trans (HB3.out.mono (Nat.le_succ _))),HG3⟩
             case measure=>simp [intOf]; omega
          · have HR2 : Hid (rdF sd0 l = none):=zA0 (by rw [HR.out,STEP.out]; unfold zH6; rw [if_neg hk1,if_neg hk2,if_neg hk3]; rfl)
            have q1 : (kd == 1) = false:=by simpa using hk1
            have q2 : (kd == 2) = false:=by simpa using hk2
            have q3 : (kd == 3) = false:=by simpa using hk3
            obtain ⟨d0,d1,d2,d3,d4,ld,fd⟩:=zJ7 HGu.out
            clear hk1 hk2 hk3
            go_wp2
            refine bodyPost_ret (v:=.tuple #[.agg Z94,.int .i64 0,.int .i64 13]) ?_ rfl ⟨?_,by rw [HR2.out]⟩
            · exact yW7 _ _ w.heap.size Z94 0 13 rfl rfl rfl rfl (set5 HGu.out _ _ _ _ _)
            · exact HBu.out.trans (zI0 _ _ _ _ _ _ _)
  · have HR2 : Hid (rdF sd0 l = none):=zA0 (by rw [HR.out,zY1 herr]; rfl)
    generalize (unf (l.drop k)).err = er at *
    generalize (unf (l.drop k)).used = us at *
    generalize (unf (l.drop k)).kind = kd at *
    generalize (unf (l.drop k)).place = pl at *
    generalize (unf (l.drop k)).body = bo at *
    have er1 : (er == 0) = false:=by simpa using herr
    have er2 : (er != 0) = true:=by simpa using herr
    obtain ⟨d0,d1,d2,d3,d4,ld,fd⟩:=zJ7 HGu.out
    clear herr
    go_wp2
    refine bodyPost_ret (v:=.tuple #[.agg Z94,.int .i64 0,.int .i64 13]) ?_ rfl ⟨?_,by rw [HR2.out]⟩
    · exact yW7 _ _ w.heap.size Z94 0 13 rfl rfl rfl rfl (set5 HGu.out _ _ _ _ _)
    · exact HBu.out.trans (zI0 _ _ _ _ _ _ _)
end
section
open Go.RowKit Go.Maps
def OwnB (D:Nat) (w:World) (v:Value) (bs:List (List UInt8)) : Prop:=∃ xs,w.ownsRow D 22 1 v xs.length xs/\xs.length = bs.length/\∀ (i:Nat) (x:Value) (b:List UInt8),xs[i]? = some x->bs[i]? = some b->BodV w (fun k=>D<=k) x b
theorem OwnB.nil (D:Nat) (w:World) : OwnB D w (.slice none 0 0) []:=⟨[],⟨rfl,.inl ⟨rfl,rfl⟩⟩,rfl,fun i x b h=>by simp at h⟩
theorem OwnB.grow {D:Nat} {w w':World} {v:Value} {bs:List (List UInt8)} (h:OwnB D w v bs) (hb:Below w.heap.size w w') : OwnB D w' v bs:=by
 obtain ⟨xs,h1,h2,h3⟩:=h
 exact ⟨xs,zK0 h1 (fun k _ hk=>hb.block k (zA1 hk)),h2,fun i x b hx hc=>(h3 i x b hx hc).alike (fun k _ hk=>hb.block k (zA1 hk))⟩
theorem OwnB.form {D:Nat} {w:World} {v:Value} {bs:List (List UInt8)} (h:OwnB D w v bs) : ∃ a c,v = .slice a bs.length c/\bs.length<=c:=by
 obtain ⟨xs,h1,h2,h3⟩:=h
 rcases h1.2 with ⟨rfl,e⟩ | ⟨g,cap,cur,rfl,h3,h4,h5,_⟩
 · exact ⟨none,0,by rw [<- h2,e],by omega⟩
 · exact ⟨_,cap,by rw [h2],by omega⟩
theorem OwnB.rowB {D:Nat} {w:World} {v:Value} {bs:List (List UInt8)} (h:OwnB D w v bs) : RowB w (fun k=>D<=k) v bs:=by
 obtain ⟨xs,h1,h2,h3⟩:=h
 rcases h1.2 with ⟨rfl,e⟩ | ⟨g,cap,cur,rfl,h4,h5,h6,h7,h8,h9⟩
 · have hl : bs = []:=List.length_eq_zero_iff.1 (by omega)
   exact ⟨none,0,by rw [hl]; rfl,by rw [hl]; exact Nat.le_refl _,by unfold maxLen; omega,fun hne=>absurd hl hne⟩
 · refine ⟨_,cap,by rw [h2],by omega,h7,fun _=>⟨g,0,rfl,⟨cur,h5⟩,h4,fun i hi=>?_⟩⟩
   obtain ⟨x,hxx⟩ : ∃ x,xs[i]? = some x:=⟨_,List.getElem?_eq_getElem (by omega)⟩
   refine ⟨x,?_,h3 i _ _ hxx (List.getElem?_eq_getElem hi)⟩
   rw [Nat.zero_add,cell_of_row w g i cur 22 (0,0) h5]
   rw [<- h9,List.getElem?_take,if_pos (by omega)] at hxx
   simpa using hxx
theorem yM6 {ops:Array Oper} {rest:List Oper} {o:Oper} {a:Act} {Q:Exit->Act->World->Prop} (w:World) (hgd:o.guard = none) (s x:Operand) (ho:o.op = .call { callee:=.builtin .append,args:=#[s,x],argTypes:=#[92,92] })
    (D:Nat) (v:Value) (bs:List (List UInt8)) (hs:a.eval s = v) (u:Value) (b:List UInt8) (hx:a.eval x = .slice (some ⟨w.heap.size,0,none⟩) 1 1) (hr:OwnB D w v bs) (hu:BodV w (fun k=>D<=k) u b) (hlen:bs.length + 1<=2199023255552) (hD:D<=w.heap.size)
    (h:∀ v' w',OwnB D w' v' (bs ++ [b])->Below D w w'->(∀ (k:Nat) (cs:Array Value) (t:TypeId),w.heap[k]? = some (Obj.cells cs t (0,0))->t ≠ 22->w'.heap[k]? = w.heap[k]?)->wpList Tryz.prog ops Q rest (a.put o.dst v') w') : wpList Tryz.prog ops Q (o :: rest) a (w.alloc (.cells #[u] 22)):=by
 obtain ⟨xs,h1,h2,h3⟩:=hr
 have hb:=zB5 w (.cells #[u] 22)
 have hu1 : u.oneCell' = true:=by obtain ⟨_,_,e,_⟩:=hu.1.form; rw [e]; rfl
 refine zK8 (w.alloc (.cells #[u] 22)) hgd s x ho D v xs hs (zK0 h1 (fun k _ hk=>hb.block k (zA1 hk))) _ 1 1 [u] hx rfl (xO9 w u hu1) (by simp; omega) (by simp; omega) (fun v' w' g1 g2 g3=>?_)
 have kp : ∀ (k:Nat) (cs:Array Value) (t:TypeId),w.heap[k]? = some (Obj.cells cs t (0,0))->t ≠ 22->w'.heap[k]? = w.heap[k]?:=fun k cs t hk ht=>(g2.block k (by simp; exact Nat.lt_succ_of_lt (zA1 hk)) (fun e=>by
  obtain ⟨_,_,cur,hc⟩:=zD7 h1 e.symm
  rw [hk] at hc
  cases hc
  exact ht rfl)).trans (hb.block k (zA1 hk))
 refine h v' w' ⟨xs ++ [u],g1,by simp [h2],fun i y c hy hc=>?_⟩ ((hb.mono hD).trans (zM9 (zK0 h1 (fun k _ hk=>hb.block k (zA1 hk))) g2 (by simp; omega))) kp
 by_cases hi : i < xs.length
 · rw [List.getElem?_append_left hi] at hy
   rw [List.getElem?_append_left (by omega)] at hc
   exact (h3 i y c hy hc).alike (fun k cs hk=>kp k cs 5 hk (by decide))
 · rw [List.getElem?_append_right (by omega)] at hy
   rw [List.getElem?_append_right (by omega)] at hc
   have h0 : i - xs.length = 0:=by
    have:=(List.getElem?_eq_some_iff.1 hy).1
    simp at this; omega
   rw [h0] at hy
   rw [<- h2,h0] at hc
   simp at hy hc
   subst hy hc
   exact hu.alike (fun k cs hk=>kp k cs 5 hk (by decide))
def n0 (vs:List En) : Int:=(vs.head?.map eI).getD 0
def okX (s:Sd) (vs:List En) (i:Nat) (x:En) : Prop:=(en zA8 x).2 = false/\eI x = n0 vs + i/\s.base < n0 vs/\n0 vs<=s.base + s.bs.length + 1
def okL (s:Sd) (vs:List En) : Prop:=∀ (i:Nat) (x:En),vs[i]? = some x->okX s vs i x
def bods (vs:List En) : List (List UInt8):=vs.map fun x=>(en zA8 x).1
theorem Rep.load {w:World} {S:Nat->Prop} {a:Option Addr} {vs:List En} (h:RepL w S zA8 a vs) {k:Nat} (hk:k < vs.length) : ∃ b off es,a = some ⟨b,off,none⟩/\S b/\Rep w S zA8 es vs[k]/\w.rangeAt b (off + k * 29) es:=by
 obtain ⟨b,off,e,hS,hes⟩:=h.2 (by intro e; rw [e] at hk; simp at hk)
 obtain ⟨es,h1,h2⟩:=hes k hk
 exact ⟨b,off,es,e,hS,h1,h2⟩
theorem yC1 (S:Nat->Prop) (p o:Nat) (s:Sd) (n:Int) (bb:Bool) (w:World) (h:zE7 w S p o s) (hb:okN s.base) (hl:s.bs.length<=1099511627776) (hbb:decide (s.base < n/\n<=s.base + s.bs.length + 1) = bb) : Calls Tryz.prog 89 #[.pointer (some ⟨p,o,none⟩),.int .i64 n] w fun e w'=>e = .returned (.bool bb)/\∃ m,w' = w.drewN m:=by
 rw [<- hbb]; exact zN2 S p o s n w h hb hl
def BoP (w:World) (s:Sd) (vs:List En) (e:Ending) (w':World) : Prop:=Below w.heap.size w w'/\((okL s vs/\∃ v,e = .returned (.tuple #[v,.bool true])/\OwnB w.heap.size w' v (bods vs))\/(¬ okL s vs/\e = .returned (.tuple #[.slice none 0 0,.bool false])))
theorem zF6 {cs:List Value} (h:cs.length = 29) : (Tryz.prog.info? 73).map (·.size) = some cs.length:=by rw [h]; exact xQ5
theorem yY4 (S:Nat->Prop) (p o:Nat) (s:Sd) (a:Option Addr) (n cap:Nat) (vs:List En) (w:World) (hs:zE7 w S p o s) (hSS:∀ k,S k->k < w.heap.size) (hpl:p < w.heap.size) (hb:okN s.base) (hbl:s.bs.length<=1099511627776) (hn:n = vs.length) (hr:RepL w (fun k=>k < w.heap.size) zA8 a vs) (hl:vs.length<=1099511627776) :
    Calls Tryz.prog 57 #[.pointer (some ⟨p,o,none⟩),.slice a n cap] w (BoP w s vs):=by
 have HS:=zA0 hs
 have HSS:=zA0 hSS
 have HPL:=zA0 hpl
 have HB:=zA0 hb
 have HBL:=zA0 hbl
 have HN:=zA0 hn
 have HR:=zA0 hr
 have hl2 : (n:Int)<=1099511627776:=by omega
 have hln : n<=1099511627776:=by omega
 clear hs hSS hpl hb hbl hn hr hl
 go_enter Tryz.func57,Tryz.ntmps57
 go_wp2
 go_loopw [6,13] (fun vv i wr=>∃ (k:Nat) (v:Value),v = vv/\k<=n/\i = .int .i64 (k:Int)/\Hid (OwnB w.heap.size wr v (bods (vs.take k)))/\Hid (∀ (j:Nat) (x:En),j < k->vs[j]? = some x->okX s vs j x)/\Hid (Below w.heap.size w wr)) (fun _ i _=>n - (intOf i).toNat)
 case atStart=>exact ⟨0,_,rfl,Nat.zero_le _,rfl,zA0 (by simpa [bods] using OwnB.nil w.heap.size w),zA0 (fun j x h=>by omega),zA0 (Below.refl _ _)⟩
 case round =>
  obtain ⟨k,v,rfl,hk,rfl,HO,HP,HBr⟩:=hrel
  by_cases hlt : k < n
  · have hltv : k < vs.length:=by rw [<- HN.out]; exact hlt
    obtain ⟨b,off,es,rfl,hSb,hrep,hrg⟩:=Rep.load (HR.out.kept HBr.out.size (fun q hq=>HBr.out.block q hq) (fun q hq=>Nat.lt_of_lt_of_le hq HBr.out.size)) hltv
    obtain ⟨b0,off0,es0,e0,hSb0,hrep0,hrg0⟩:=Rep.load (k:=0) (HR.out.kept (S':=fun q=>q < wr.heap.size) HBr.out.size (fun q hq=>HBr.out.block q hq) (fun q hq=>Nat.lt_of_lt_of_le hq HBr.out.size)) (Nat.lt_of_le_of_lt (Nat.zero_le _) hltv)
    cases e0
    obtain ⟨r0,he0,_⟩:=zD3 hrep0
    obtain ⟨r,he,hel⟩:=zD3 hrep
    obtain ⟨x,hx⟩ : ∃ x,x = vs[k]:=⟨_,rfl⟩
    obtain ⟨x0,hx0⟩ : ∃ x0,x0 = vs[0]'(Nat.lt_of_le_of_lt (Nat.zero_le _) hltv):=⟨_,rfl⟩
    have hn0 : n0 vs = eI x0:=by unfold n0; rw [hx0]; cases vs with | nil=>simp at hltv | cons y ys=>rfl
    rw [<- hx] at hrep he
    rw [<- hx0] at he0
    have hc0 : wr.cell? ⟨b,off,none⟩ = some (.int .i64 (eI x0)):=by have:=hrg0 0 (.int .i64 (eI x0)) (by rw [he0]; rfl); simpa using this
    have HC0:=zA0 hc0
    have HX : Hid (vs[k]? = some x):=zA0 (by rw [hx]; exact List.getElem?_eq_getElem hltv)
    have HX0 : Hid (vs[0]? = some x0):=zA0 (by rw [hx0]; exact List.getElem?_eq_getElem _)
    have HN0:=zA0 hn0
    have HRG:=zA0 hrg
    have HREP:=zA0 hrep
    have HSB:=zA0 hSb
    have HEL:=zA0 hel
    have HE:=zA0 he
    have HIN:=zA0 (zF6 hel)
    have HCI : Hid ((Tryz.prog.info? 73).map (·.size) = some es.toArray.size):=by show _ = _; rw [List.size_toArray]; exact zF6 hel
    have HCS : Hid (es.toArray.size = zB7.size):=by show _ = _; rw [List.size_toArray,hel]; rfl
    have HCO : Hid (es.toArray.all (·.oneCell') = true):=hrep.all
    clear hx hx0 hn0 hrep hrg hrep0 hrg0 he he0 hel hc0 hSb hSb0 hltv
    go_wp2_with (first
     | (refine wpList_load_mid rfl 73 (.tmp 16) rfl b (off + k * 29) rfl es _ HRG.out Tryz.underlying73 rfl HIN.out ?_)
     | (refine zA5 rfl 73 (.tmp 8) (.tmp 17) rfl wr.heap.size es.toArray rfl rfl 73 zB7 (heap_alloc_new wr (.cells zB7 73)) HCI.out HCS.out.symm HCO.out ?next))
    case next =>
     intro w2 hw2h
     have hw2:=hw2h.out
     have hB2 : Below wr.heap.size wr w2:=by rw [hw2]; exact ((Below.refl _ _).alloc (Nat.le_refl _) _).trans ⟨rfl,rfl,rfl,by simp [World.setRow],fun k hk=>setRow_other _ _ _ _ (by omega)⟩
     have G2:=zA0 (show w2.heap[wr.heap.size]? = some (.cells es.toArray 73 (0,0)) by rw [hw2]; exact setRow_heap _ _ _ _ 73 _ (heap_alloc_new wr _))
     have HREP2:=zA0 (HREP.out.kept (S':=fun q=>q < w2.heap.size) hB2.size (fun q hq=>hB2.block q hq) (fun q hq=>Nat.lt_of_lt_of_le hq hB2.size))
     have HB2:=zA0 hB2
     clear hw2 hw2h hB2
     go_wp2_with (refine wpList_load_row rfl 73 (.tmp 8) rfl wr.heap.size rfl 73 es.toArray (0,0) _ G2.out Tryz.underlying73 rfl HCI.out ?_)
     refine (yW9 es x _ HREP2.out).mono ?_
     rintro e w3 ⟨val,rfl,ho,hnew,hb3⟩
     have HB3:=zA0 ((HBr.out.trans (HB2.out.mono HBr.out.size)).trans (hb3.mono (Nat.le_trans HBr.out.size HB2.out.size)))
     have hB23 : Below wr.heap.size wr w3:=HB2.out.trans (hb3.mono HB2.out.size)
     have G3:=zA0 ((hb3.block _ (zA1 G2.out)).trans G2.out)
     have y0 : w3.cell? ⟨wr.heap.size,0,none⟩ = some (.int .i64 (eI x)):=by rw [cell_of_row w3 _ 0 _ 73 (0,0) G3.out,HE.out]; rfl
     have ly:=zA1 G3.out
     have z0 : w3.cell? ⟨b,off,none⟩ = some (.int .i64 (eI x0)):=(hB23.cell (p:=⟨b,off,none⟩) HSB.out).trans HC0.out
     have lz : b < w3.heap.size:=Nat.lt_of_lt_of_le HSB.out hB23.size
     have HO3:=zA0 (HO.out.grow hB23)
     have HS3:=zA0 (HS.out.kept (S':=S) HB3.out.size (fun q hq=>HB3.out.block q (HSS.out q hq)) (fun q hq=>hq) (HB3.out.block p HPL.out))
     obtain ⟨va,vn,vc,hvv⟩ : ∃ a n c,val = .slice a n c:=by obtain ⟨a,c,h,_⟩:=ho.form; exact ⟨a,_,c,h⟩
     subst hvv
     have HOV:=zA0 ho
     have HNW:=zA0 hnew
     clear ho hnew hb3 hB23 HREP HREP2 HCI HCS HCO HIN HRG G2
     by_cases ok : (en zA8 x).2 = false
     · rw [show zK5 (en zA8 x).2 = 0 by rw [ok]; rfl]
       have h0r : -1099511627776<=eI x0/\eI x0<=1099511627776:=by
        have : (en zA8 x0).2 = false:=by
         cases k with
         | zero=>have e1:=HX.out; rw [HX0.out] at e1; cases e1; exact ok
         | succ k=>exact (HP.out 0 x0 (by omega) HX0.out).1
        have h1 : ((enN x0.1).2 || (en (.cat .num zD4) x0.2).2) = false:=this
        rw [Bool.or_eq_false_iff] at h1
        exact yP0 x0.1 h1.1
       obtain ⟨q1,q2⟩:=h0r
       have OK:=zA0 ok
       clear ok
       by_cases hi : eI x = eI x0 + k
       · by_cases hm : s.base < eI x0/\eI x0<=s.base + s.bs.length + 1
         · have HM:=zA0 hm
           have HBV : Hid (BodV w3 (fun q=>w.heap.size<=q) (.slice va vn vc) (en zA8 x).1):=zA0 ⟨by have:=SlR.own HOV.out; unfold zD6 at this; rw [OK.out] at this; exact this,fun q hq=>by have:=HNW.out q hq; have:=HB2.out.size; have:=HBr.out.size; omega⟩
           have HOKX : Hid (okX s vs k x):=zA0 ⟨OK.out,by rw [HN0.out]; exact hi,by rw [HN0.out]; exact hm.1,by rw [HN0.out]; exact hm.2⟩
           have hi3 : eI x0 + (k:Int) = eI x:=hi.symm
           rw [<- hi3] at y0
           clear hi hm hi3
           generalize eI x0 = I0 at *
           go_wp2
           go_quiet ((go_at_call 89; refine Calls.quiet_of (yC1 S p o s I0 true _ ?_ ?_ ?_ ?_); exact HS3.out; exact HB.out; exact HBL.out; exact decide_eq_true HM.out))
           go_wp2_with (at_builtin; refine yM6 (w3.drewN nq) rfl (.tmp 45) (.tmp 47) rfl w.heap.size v _ rfl _ _ rfl HO3.out HBV.out (by simp [bods]; omega) HB3.out.size ?nx)
           case nx =>
            intro v5 w5 ho5 hb5 hk5
            have HO5:=zA0 ho5
            have HB5:=zA0 (HB3.out.trans ((Below.refl _ w3).trans (show Below w.heap.size w3 w5 from ⟨hb5.os,hb5.tape,hb5.output,hb5.size,hb5.block⟩)))
            clear ho5 hb5 hk5
            go_wp2
            go_roundw
            case rel =>
             refine ⟨k + 1,v5,rfl,by omega,by go_num,?_,?_,HB5⟩
             · have e1 : bods (vs.take (k + 1)) = bods (vs.take k) ++ [(en zA8 x).1]:=by
                 unfold bods
                 have hlt2 : k < vs.length:=by rw [<- HN.out]; exact hlt
                 rw [List.take_succ_eq_append_getElem hlt2,List.map_append]
                 have:=HX.out
                 rw [List.getElem?_eq_getElem hlt2] at this
                 cases this
                 rfl
               rw [e1]
               exact HO5
             · refine zA0 (fun j y hj hy=>?_)
               by_cases hjk : j < k
               · exact HP.out j y hjk hy
               · have : j = k:=by omega
                 subst this
                 rw [HX.out] at hy
                 cases hy
                 exact HOKX.out
            case measure=>simp [intOf]; omega
         · have HM:=zA0 hm
           have HNO : Hid (¬ okL s vs):=zA0 (fun h=>hm (by have:=h k x HX.out; rw [<- HN0.out]; exact ⟨this.2.2.1,this.2.2.2⟩))
           have hi3 : eI x0 + (k:Int) = eI x:=hi.symm
           rw [<- hi3] at y0
           clear hi hm hi3
           generalize eI x0 = I0 at *
           go_wp2
           go_quiet ((go_at_call 89; refine Calls.quiet_of (yC1 S p o s I0 false _ ?_ ?_ ?_ ?_); exact HS3.out; exact HB.out; exact HBL.out; exact decide_eq_false HM.out))
           go_wp2
           go_ret2
           exact ⟨HB3.out.trans ⟨rfl,rfl,rfl,Nat.le_refl _,fun _ _=>rfl⟩,.inr ⟨HNO.out,rfl⟩⟩
       · have HNO : Hid (¬ okL s vs):=zA0 (fun h=>hi (by have:=h k x HX.out; rw [<- HN0.out]; exact this.2.1))
         have hi2 : (eI x != eI x0 + (k:Int)) = true:=by simpa using hi
         clear hi
         generalize eI x0 = I0 at *
         generalize eI x = I1 at *
         go_wp2
         go_quiet (fail)
         go_wp2
         go_ret2
         exact ⟨HB3.out.trans ⟨rfl,rfl,rfl,Nat.le_refl _,fun _ _=>rfl⟩,.inr ⟨HNO.out,rfl⟩⟩
     · have HNO : Hid (¬ okL s vs):=zA0 (fun h=>ok (h k x HX.out).1)
       rw [show zK5 (en zA8 x).2 = 1 by rw [eq_true_of_ne_false ok]; rfl]
       clear ok
       go_wp2
       go_quiet (fail)
       go_wp2
       go_ret2
       exact ⟨HB3.out.trans ⟨rfl,rfl,rfl,Nat.le_refl _,fun _ _=>rfl⟩,.inr ⟨HNO.out,rfl⟩⟩
  · have hkn : n = k:=by omega
    subst hkn
    have HOK : Hid (okL s vs):=zA0 (fun i x hx=>HP.out i x (by rw [HN.out]; exact (List.getElem?_eq_some_iff.1 hx).1) hx)
    go_wp2
    go_ret2
    refine ⟨HBr.out,.inl ⟨HOK.out,v,rfl,?_⟩⟩
    have:=HO.out
    rw [HN.out,List.take_length] at this
    exact this
end
end Go.Proofs.YtocoimjhglackaaGreat
