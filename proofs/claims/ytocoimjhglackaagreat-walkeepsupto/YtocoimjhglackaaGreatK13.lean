/- Vra -/
import Derived.Test.YtocoimjhglackaaGreatK12
import Derived.Test.YtocoimjhglackaaGreatK04
set_option maxHeartbeats 8000000
set_option maxRecDepth 100000
namespace Go.Proofs.YtocoimjhglackaaGreat
section
open Go.RowKit
theorem zX6 {D:Nat} (p:Nat) (s:Option (List UInt8)) (w:World) (h:RG D w p s) : Calls Tryz.prog 196 #[.pointer (some ⟨p,0,none⟩)] w fun e w'=>e = .returned (.bool (decide (numV s = 1)))/\RG D w' p (truS s)/\RS w w' p:=by
 have HT : Hid (truS s = if numV s = 0\/numV s = 1 then numS s else none):=rfl
 go_enter Tryz.func196,Tryz.ntmps196
 go_wp2_with fail
 refine (zF2 p s w h).mono ?_
 rintro e w1 ⟨rfl,r1,s1⟩
 obtain ⟨V,HVV⟩ : ∃ V,Hid (numV s = V):=⟨_,rfl⟩
 rw [HVV.out]
 by_cases hV : V = 0\/V = 1
 · have ht:=HT.out
   rw [HVV.out,if_pos hV] at ht
   have HT2 : Hid (truS s = numS s):=ht
   clear ht HT
   rcases hV with rfl | rfl
   · go_wp2
     go_ret
     exact ⟨by rw [HVV.out]; rfl,by rw [HT2.out]; exact r1,s1⟩
   · go_wp2
     go_ret
     exact ⟨by rw [HVV.out]; rfl,by rw [HT2.out]; exact r1,s1⟩
 · have ht:=HT.out
   rw [HVV.out,if_neg hV] at ht
   have HT2 : Hid (truS s = none):=ht
   clear ht HT
   have hb0 : (V != 0) = true:=by rw [bne_iff_ne]; omega
   have hb1 : (V != 1) = true:=by rw [bne_iff_ne]; omega
   have hb2 : (V == 1) = false:=by simp; omega
   have HB3 : Hid (decide (V = 1) = false):=by show _ = _; simp; omega
   obtain ⟨cv,cb,c0,c1,hp,hD,f0,f1⟩:=r1.cells
   go_wp2_with fail
   refine (zF8 p w1 _ _ hp hD c0 c1 f0 f1).mono ?_
   rintro e w2 ⟨rfl,r2,s2⟩
   go_wp2
   go_ret
   exact ⟨by rw [HVV.out,HB3.out]; rfl,by rw [HT2.out]; exact r2,s1.trans s2⟩
theorem yX1 {α:Type} (l:List α) (h:l.length = 11) : ∃ y0 y1 y2 y3 y4 y5 y6 y7 y8 y9 y10,l = [y0,y1,y2,y3,y4,y5,y6,y7,y8,y9,y10]:=by
 match l,h with
 | [y0,y1,y2,y3,y4,y5,y6,y7,y8,y9,y10],_=>exact ⟨_,_,_,_,_,_,_,_,_,_,_,rfl⟩
theorem de_n (s:Option (List UInt8)) : de .num s = (numV s,numS s):=rfl
theorem de_t (s:Option (List UInt8)) : de .tru s = (decide (numV s = 1),truS s):=rfl
theorem de_e (f:Fm) (s:Option (List UInt8)) : de f s = ((de f s).1,(de f s).2):=rfl
theorem de_c {a b:Fm} {s t u:Option (List UInt8)} {x:Vl a} {y:Vl b} (h1:de a s = (x,t)) (h2:de b t = (y,u)) : de (.cat a b) s = ((x,y),u):=by rw [de,h1]; simp only [h2]
theorem zB9 {P:Prop} (h:P) : Hid P:=h
theorem kE5 (s:Option (List UInt8)) : de zA9 s = ((numV s,numV (numS s)),(numS (numS s))):=(de_c (de_n s) (de_n (numS s)))
theorem xU5 {D:Nat} (p:Nat) (s:Option (List UInt8)) (w:World) (h:RG D w p s) :
    Calls Tryz.prog 197 #[.pointer (some ⟨p,0,none⟩)] w fun e w'=>∃ cs : List Value,e = .returned (.agg cs.toArray)/\Rep w' (NB w w') zA9 cs (de zA9 s).1/\RG D w' p (de zA9 s).2/\RS w w' p:=by
 rw [kE5]
 have hmf : ∀ (fn:Fn) (first cap:Array Value) (w:World),(Instr.makeFunc fn first cap).run Tryz.prog w = .ok (.func fn first cap) w:=fun _ _ _ _=>rfl
 have hB0 : Below w.heap.size w (w.alloc (.cells #[.int .i64 0,.int .i64 0] 63)):=(Below.refl _ _).alloc (Nat.le_refl _) _
 have h0 : RG D (w.alloc (.cells #[.int .i64 0,.int .i64 0] 63)) p s:=h.ext hB0 h.1 h.2.1
 have s0 : RS w (w.alloc (.cells #[.int .i64 0,.int .i64 0] 63)) p:=(RS.refl _ _).alloc _
 have g0 : Hid ((w.alloc (.cells #[.int .i64 0,.int .i64 0] 63)).heap[w.heap.size]? = some (.cells #[.int .i64 0,.int .i64 0] 63 (0,0))):=heap_alloc_new w _
 have z0 : w.heap.size < (w.alloc (.cells #[.int .i64 0,.int .i64 0] 63)).heap.size:=by rw [World.size_alloc]; omega
 have hpq : Hid (p ≠ w.heap.size):=by have:=h.1; show p ≠ _; omega
 have hDq : Hid (p < w.heap.size/\D<=w.heap.size):=⟨h.1,h.2.1⟩
 clear h hB0
 go_enter Tryz.func197,Tryz.ntmps197
 go_wp2_with fail
 refine (zF2 p s _ h0).mono ?_
 rintro e w1 ⟨rfl,h1,t1⟩
 have s1:=s0.trans t1
 have g1 : Hid (w1.heap[w.heap.size]? = some (.cells #[.int .i64 0,.int .i64 0] 63 (0,0))):=(t1.block _ z0 hpq.out.symm).trans g0.out
 have z1 : w.heap.size < w1.heap.size:=Nat.lt_of_lt_of_le z0 t1.size
 clear h0 t1 s0 g0 z0
 go_wp2_with fail
 refine (zF2 p (numS s) _ h1).mono ?_
 rintro e w2 ⟨rfl,h2,t2⟩
 have s2:=s1.trans t2
 have g2 : Hid (w2.heap[w.heap.size]? = some (.cells #[.int .i64 0,.int .i64 0] 63 (0,0))):=(t2.block _ z1 hpq.out.symm).trans g1.out
 have z2 : w.heap.size < w2.heap.size:=Nat.lt_of_lt_of_le z1 t2.size
 clear h1 t2 s1 g1 z1
 have I0 : Hid ((Tryz.prog.info? 63).map (·.size) = some (#[.int .i64 (numV s),.int .i64 (numV (numS s))] : Array Value).size):=by show _ = _; kernel_rfl
 have REP : Hid (Rep w2 (NBr (w.heap.size + 1) w2) zA9 [.int .i64 (numV s),.int .i64 (numV (numS s))] (numV s,numV (numS s))):=by
  exact xQ1 (numV s) (numV (numS s))
 have O0 : Hid ((#[.int .i64 (numV s),.int .i64 (numV (numS s))] : Array Value).all (·.oneCell') = true):=REP.out.all
 go_wp2_with (refine wpList_store_row rfl 63 (.tmp 2) (.tmp 7) rfl w.heap.size #[.int .i64 (numV s),.int .i64 (numV (numS s))] rfl rfl 63 #[.int .i64 0,.int .i64 0] g2.out I0.out rfl O0.out ?_)
 refine bodyPost_ret (v:=.agg #[.int .i64 (numV s),.int .i64 (numV (numS s))]) ?_ rfl ⟨[.int .i64 (numV s),.int .i64 (numV (numS s))],rfl,?_,?_,?_⟩
 · refine results_cell_row Tryz.results197 _ _ w.heap.size 63 _ (0,0) _ ?_ (setRow_heap w2 w.heap.size _ _ 63 _ g2.out) Tryz.underlying63 rfl I0.out
   rfl
 · exact REP.out.keptN (by simp [World.setRow]) (fun b h1 h2=>setRow_other _ _ _ _ (by omega)) (Nat.le_succ _)
 · exact h2.ext ⟨rfl,rfl,rfl,by simp [World.setRow],fun k hk=>setRow_other _ _ _ _ (by omega)⟩ hDq.out.1 hDq.out.2
 · exact s2.setRow (Nat.le_refl _) _
theorem yX2 : (Tryz.prog.info? 3).map (fun i=>(i.zero,i.size,i.bytes)) = some (some (.int .i64 0),1,8):=by kernel_rfl
theorem zY8 {D:Nat} (p:Nat) (s:Option (List UInt8)) (w:World) (h:RG D w p s) :
    Calls Tryz.prog 173 #[.pointer (some ⟨p,0,none⟩),.func (.func 143) #[.pointer (some ⟨p,0,none⟩)] #[]] w fun e w'=>∃ (a:Option Addr) (c:Nat),e = .returned (.slice a (de (.lst .num) s).1.length c)/\RepL w' (NB w w') .num a (de (.lst .num) s).1/\RG D w' p (de (.lst .num) s).2/\RS w w' p:=by
 obtain ⟨i0,hi,hz0,hz1,hz2⟩:=info_parts yX2
 have hp0:=h.1
 have hD0:=h.2.1
 go_enter Tryz.func173,Tryz.ntmps173
 go_wp2_with fail
 refine (zZ9 p s _ w (by omega) (by omega) h).mono ?_
 rintro e w1 ⟨rfl,r1,s1,hn⟩
 have HNO : Hid (∀ k,k<=cntV 64 s->(deN (de .num) k (cntS 64 s)).2 = none->de (.lst .num) s = ([],none)):=fun k hk h=>zM1 .num s k hk h
 have HYE : Hid (¬ (deN (de .num) (cntV 64 s) (cntS 64 s)).2 = none->de (.lst .num) s = deN (de .num) (cntV 64 s) (cntS 64 s)):=fun h=>by rw [de,if_neg h]
 generalize cntV 64 s = N at *
 go_wp2
 go_loopw [5,8] (fun v i wr=>∃ k : Nat,∃ xs : List Value,k<=N/\i = .int .i64 k/\RG D wr p (deN (de .num) k (cntS 64 s)).2/\RS w wr p/\wr.ownsRow w.heap.size 3 1 v k xs/\Hid (0 < k->(deN (de .num) k (cntS 64 s)).2 ≠ none)/\Hid (zE4 w wr .num v xs (deN (de .num) k (cntS 64 s)).1)) (fun _ i _=>N - (intOf i).toNat)
 case atStart=>exact ⟨0,[],Nat.zero_le _,rfl,r1,s1,World.ownsRow_nil _ _ _ _,(fun h=>absurd h (by omega)),zE4.nil _ _ _ _⟩
 case round =>
  obtain ⟨k,xs,hk,rfl,rk,sk,ok,hnn,hel⟩:=hrel
  by_cases hlt : k < N
  · go_wp2_with fail
    refine (zF2 p _ wr rk).mono ?_
    rintro e w2 ⟨rfl,r2,t2⟩
    have hx : Rep w2 (NB wr w2) .num [.int .i64 (numV (deN (de .num) k (cntS 64 s)).2)] (de .num (deN (de .num) k (cntS 64 s)).2).1:=rfl
    have sk2:=sk.trans t2
    have ok2:=zO7 ok t2 hp0
    have HEL2 : Hid (zE4 w w2 .num u5 xs (deN (de .num) k (cntS 64 s)).1):=hel.out.rs t2 hp0
    have HVL : Hid (∀ q,u5.ownBlock = some q->q < wr.heap.size):=fun q hq=>(ok.lt q hq).2
    have HWR : Hid (w.heap.size<=wr.heap.size):=sk.size
    have HX : Hid (Rep w2 (NB wr w2) .num [.int .i64 (numV (deN (de .num) k (cntS 64 s)).2)] (de .num (deN (de .num) k (cntS 64 s)).2).1):=hx
    have O1 : Hid (∀ u ∈ (#[.int .i64 (numV (deN (de .num) k (cntS 64 s)).2)] : Array Value).toList,u.oneCell' = true):=hx.one
    have HB2 : Hid (Below w2.heap.size w2 (w2.alloc (.cells #[.int .i64 (numV (deN (de .num) k (cntS 64 s)).2)] 3))):=(Below.refl _ _).alloc (Nat.le_refl _) _
    clear t2 rk ok sk hx hel
    go_wp2_with (at_builtin; refine zF1 _ rfl (.tmp 10) (.tmp 13) 32 rfl w.heap.size 3 i0 (.int .i64 0) 1 8 Tryz.underlying32 hi hz0 hz1 hz2 rfl (by decide) _ _ _ rfl (ok2.alloc _) ⟨w2.heap.size,0,none⟩ 1 1 (#[.int .i64 (numV (deN (de .num) k (cntS 64 s)).2)] : Array Value).toList rfl rfl (fun j u hj=>zG4 w2 _ _ j u hj) O1.out ?c3 ?c4 ?c5 ?next)
    case c3=>unfold maxLen; omega
    case c4=>omega
    case c5=>have:=sk2.size; rw [World.size_alloc]; omega
    case next =>
     intro v3 w3 ho3 hg3 hw3
     have HEL3 : Hid (zE4 w w3 .num v3 (xs ++ [.int .i64 (numV (deN (de .num) k (cntS 64 s)).2)]) ((deN (de .num) k (cntS 64 s)).1 ++ [(de .num (deN (de .num) k (cntS 64 s)).2).1])):=HEL2.out.more HX.out HWR.out HVL.out HB2.out hg3 (by rw [World.size_alloc]; exact hw3)
     have hB3 : Below w.heap.size w2 w3:=((Below.refl _ _).alloc sk2.size _).grown hg3 (by have:=sk2.size; rw [World.size_alloc]; omega) (fun j hj=>(ok2.lt j hj).1)
     have r3 : RG D w3 p (de .num (deN (de .num) k (cntS 64 s)).2).2:=r2.ext hB3 hp0 hD0
     have s3:=sk2.ext hB3
     clear hg3 r2 sk2 ok2 hB3 hw3
     cases hst : (de .num (deN (de .num) k (cntS 64 s)).2).2 with
     | none =>
      have r4:=r3
      rw [hst] at r4
      have HN : Hid (de (.lst .num) s = ([],none)):=HNO.out (k + 1) (by omega) hst
      clear hst r3
      obtain ⟨q1,q2,q3,q4,q5,q6⟩:=r4
      have r5 : Hid (RG D w3 p none):=⟨q1,q2,q3,q4,q5,q6⟩
      go_wp2
      go_ret
      rw [HN.out]
      exact ⟨none,0,rfl,⟨by simp,fun h=>absurd rfl h⟩,r5.out,s3⟩
     | some l3 =>
      have r4:=r3
      rw [hst] at r4
      have HNN : Hid (0 < k + 1->(deN (de .num) (k + 1) (cntS 64 s)).2 ≠ none):=fun _ h=>by
       have h' : (de .num (deN (de .num) k (cntS 64 s)).2).2 = none:=h
       rw [hst] at h'; cases h'
      clear hst
      obtain ⟨_,_,_,_,_,_,_,q6,_⟩:=r4
      have R3 : Hid (RG D w3 p (deN (de .num) (k + 1) (cntS 64 s)).2):=r3
      clear r3
      go_wp2
      exact ⟨⟨k + 1,_,by omega,by go_num,R3.out,s3,ho3,HNN,HEL3⟩,by simp [intOf]; omega⟩
  · have hkN : k = N:=by omega
    subst hkN
    obtain ⟨va,vc,hv,hrl⟩ : ∃ va vc,u5 = Value.slice va k vc/\RepL wr (NB w wr) .num va (deN (de .num) k (cntS 64 s)).1:=by
     have hl:=zG2 (de .num) k (cntS 64 s)
     have:=zE4.done (e:=3) hel.out (by rw [hl]; exact ok) (by rw [hl]; omega)
     rwa [hl] at this
    subst hv
    have FIN : Hid (RepL wr (NB w wr) .num va (de (.lst .num) s).1/\RG D wr p (de (.lst .num) s).2/\(de (.lst .num) s).1.length = k):=by
     by_cases hst : (deN (de .num) k (cntS 64 s)).2 = none
     · have hk0 : k = 0:=by
         rcases Nat.eq_zero_or_pos k with h0 | h0
         · exact h0
         · exact absurd hst (hnn.out h0)
       have e:=HNO.out k (Nat.le_refl _) hst
       rw [hst] at rk
       refine ⟨?_,?_,?_⟩
       · rw [e]; exact ⟨by simp,fun h=>absurd rfl h⟩
       · rw [e]; exact rk
       · rw [e,hk0]; rfl
     · have e:=HYE.out hst
       refine ⟨?_,?_,?_⟩
       · rw [e]; exact hrl
       · rw [e]; exact rk
       · rw [e]; exact zG2 _ _ _
    clear rk ok hrl hel hnn
    go_wp2
    go_ret
    rw [FIN.out.2.2]
    exact ⟨_,_,rfl,FIN.out.1,FIN.out.2.1,sk⟩
theorem xY1 (s:Option (List UInt8)) : de zB4 s = (((de (.lst .num) s).1,(de (.lst .num) ((de (.lst .num) s).2)).1),((de (.lst .num) ((de (.lst .num) s).2)).2)):=(de_c (de_e (.lst .num) s) (de_e (.lst .num) ((de (.lst .num) s).2)))
theorem xR6 {D:Nat} (p:Nat) (s:Option (List UInt8)) (w:World) (h:RG D w p s) :
    Calls Tryz.prog 144 #[.pointer (some ⟨p,0,none⟩)] w fun e w'=>∃ cs : List Value,e = .returned (.agg cs.toArray)/\Rep w' (NB w w') zB4 cs (de zB4 s).1/\RG D w' p (de zB4 s).2/\RS w w' p:=by
 rw [xY1]
 have hmf : ∀ (fn:Fn) (first cap:Array Value) (w:World),(Instr.makeFunc fn first cap).run Tryz.prog w = .ok (.func fn first cap) w:=fun _ _ _ _=>rfl
 have hB0 : Below w.heap.size w (w.alloc (.cells #[.slice none 0 0,.slice none 0 0] 34)):=(Below.refl _ _).alloc (Nat.le_refl _) _
 have h0 : RG D (w.alloc (.cells #[.slice none 0 0,.slice none 0 0] 34)) p s:=h.ext hB0 h.1 h.2.1
 have s0 : RS w (w.alloc (.cells #[.slice none 0 0,.slice none 0 0] 34)) p:=(RS.refl _ _).alloc _
 have g0 : Hid ((w.alloc (.cells #[.slice none 0 0,.slice none 0 0] 34)).heap[w.heap.size]? = some (.cells #[.slice none 0 0,.slice none 0 0] 34 (0,0))):=heap_alloc_new w _
 have z0 : w.heap.size < (w.alloc (.cells #[.slice none 0 0,.slice none 0 0] 34)).heap.size:=by rw [World.size_alloc]; omega
 have hpq : Hid (p ≠ w.heap.size):=by have:=h.1; show p ≠ _; omega
 have hDq : Hid (p < w.heap.size/\D<=w.heap.size):=⟨h.1,h.2.1⟩
 clear h hB0
 go_enter Tryz.func144,Tryz.ntmps144
 go_wp2_with fail
 refine (zY8 p s _ h0).mono ?_
 rintro e w1 ⟨a0,c0,rfl,q0,h1,t1⟩
 have Q0:=zB9 (q0.keptN (lo':=w.heap.size + 1) (Nat.le_refl _) (fun _ _ _=>rfl) z0)
 clear q0
 have s1:=s0.trans t1
 have g1 : Hid (w1.heap[w.heap.size]? = some (.cells #[.slice none 0 0,.slice none 0 0] 34 (0,0))):=(t1.block _ z0 hpq.out.symm).trans g0.out
 have z1 : w.heap.size < w1.heap.size:=Nat.lt_of_lt_of_le z0 t1.size
 clear h0 t1 s0 g0 z0
 go_wp2_with fail
 refine (zY8 p ((de (.lst .num) s).2) _ h1).mono ?_
 rintro e w2 ⟨a1,c1,rfl,q1,h2,t2⟩
 replace Q0:=zB9 (Q0.out.keptN (lo':=w.heap.size + 1) t2.size (fun b h1 h2=>t2.block b h2 (by have:=hDq.out.1; omega)) (Nat.le_refl _))
 have Q1:=zB9 (q1.keptN (lo':=w.heap.size + 1) (Nat.le_refl _) (fun _ _ _=>rfl) z1)
 clear q1
 have s2:=s1.trans t2
 have g2 : Hid (w2.heap[w.heap.size]? = some (.cells #[.slice none 0 0,.slice none 0 0] 34 (0,0))):=(t2.block _ z1 hpq.out.symm).trans g1.out
 have z2 : w.heap.size < w2.heap.size:=Nat.lt_of_lt_of_le z1 t2.size
 clear h1 t2 s1 g1 z1
 have I0 : Hid ((Tryz.prog.info? 34).map (·.size) = some (#[.slice a0 (de (.lst .num) s).1.length c0,.slice a1 (de (.lst .num) ((de (.lst .num) s).2)).1.length c1] : Array Value).size):=by show _ = _; kernel_rfl
 have REP : Hid (Rep w2 (NBr (w.heap.size + 1) w2) zB4 [.slice a0 (de (.lst .num) s).1.length c0,.slice a1 (de (.lst .num) ((de (.lst .num) s).2)).1.length c1] ((de (.lst .num) s).1,(de (.lst .num) ((de (.lst .num) s).2)).1)):=by
  exact xD9 a0 c0 ((de (.lst .num) s).1) a1 c1 ((de (.lst .num) ((de (.lst .num) s).2)).1) Q0.out Q1.out
 have O0 : Hid ((#[.slice a0 (de (.lst .num) s).1.length c0,.slice a1 (de (.lst .num) ((de (.lst .num) s).2)).1.length c1] : Array Value).all (·.oneCell') = true):=REP.out.all
 go_wp2_with (refine wpList_store_row rfl 34 (.tmp 2) (.tmp 11) rfl w.heap.size #[.slice a0 (de (.lst .num) s).1.length c0,.slice a1 (de (.lst .num) ((de (.lst .num) s).2)).1.length c1] rfl rfl 34 #[.slice none 0 0,.slice none 0 0] g2.out I0.out rfl O0.out ?_)
 refine bodyPost_ret (v:=.agg #[.slice a0 (de (.lst .num) s).1.length c0,.slice a1 (de (.lst .num) ((de (.lst .num) s).2)).1.length c1]) ?_ rfl ⟨[.slice a0 (de (.lst .num) s).1.length c0,.slice a1 (de (.lst .num) ((de (.lst .num) s).2)).1.length c1],rfl,?_,?_,?_⟩
 · refine results_cell_row Tryz.results144 _ _ w.heap.size 34 _ (0,0) _ ?_ (setRow_heap w2 w.heap.size _ _ 34 _ g2.out) Tryz.underlying34 rfl I0.out
   rfl
 · exact REP.out.keptN (by simp [World.setRow]) (fun b h1 h2=>setRow_other _ _ _ _ (by omega)) (Nat.le_succ _)
 · exact h2.ext ⟨rfl,rfl,rfl,by simp [World.setRow],fun k hk=>setRow_other _ _ _ _ (by omega)⟩ hDq.out.1 hDq.out.2
 · exact s2.setRow (Nat.le_refl _) _
theorem xO2 (s:Option (List UInt8)) : de zA7 s = ((numV s,numV (numS s),numV (numS (numS s)),numV (numS (numS (numS s))),numV (numS (numS (numS (numS s)))),numV (numS (numS (numS (numS (numS s))))),numV (numS (numS (numS (numS (numS (numS s)))))),(de zA9 (numS (numS (numS (numS (numS (numS (numS s)))))))).1,decide (numV ((de zA9 (numS (numS (numS (numS (numS (numS (numS s)))))))).2) = 1),numV (truS ((de zA9 (numS (numS (numS (numS (numS (numS (numS s)))))))).2))),(numS (truS ((de zA9 (numS (numS (numS (numS (numS (numS (numS s)))))))).2)))):=(de_c (de_n s) (de_c (de_n (numS s)) (de_c (de_n (numS (numS s))) (de_c (de_n (numS (numS (numS s)))) (de_c (de_n (numS (numS (numS (numS s))))) (de_c (de_n (numS (numS (numS (numS (numS s)))))) (de_c (de_n (numS (numS (numS (numS (numS (numS s))))))) (de_c (de_e zA9 (numS (numS (numS (numS (numS (numS (numS s)))))))) (de_c (de_t ((de zA9 (numS (numS (numS (numS (numS (numS (numS s)))))))).2)) (de_n (truS ((de zA9 (numS (numS (numS (numS (numS (numS (numS s)))))))).2))))))))))))
theorem xZ5 {D:Nat} (p:Nat) (s:Option (List UInt8)) (w:World) (h:RG D w p s) :
    Calls Tryz.prog 199 #[.pointer (some ⟨p,0,none⟩)] w fun e w'=>∃ cs : List Value,e = .returned (.agg cs.toArray)/\Rep w' (NB w w') zA7 cs (de zA7 s).1/\RG D w' p (de zA7 s).2/\RS w w' p:=by
 rw [xO2]
 have hmf : ∀ (fn:Fn) (first cap:Array Value) (w:World),(Instr.makeFunc fn first cap).run Tryz.prog w = .ok (.func fn first cap) w:=fun _ _ _ _=>rfl
 have hB0 : Below w.heap.size w (w.alloc (.cells #[.int .i64 0,.int .i64 0,.int .i64 0,.int .i64 0,.int .i64 0,.int .i64 0,.int .i64 0,.int .i64 0,.int .i64 0,.bool false,.int .i64 0] 227)):=(Below.refl _ _).alloc (Nat.le_refl _) _
 have h0 : RG D (w.alloc (.cells #[.int .i64 0,.int .i64 0,.int .i64 0,.int .i64 0,.int .i64 0,.int .i64 0,.int .i64 0,.int .i64 0,.int .i64 0,.bool false,.int .i64 0] 227)) p s:=h.ext hB0 h.1 h.2.1
 have s0 : RS w (w.alloc (.cells #[.int .i64 0,.int .i64 0,.int .i64 0,.int .i64 0,.int .i64 0,.int .i64 0,.int .i64 0,.int .i64 0,.int .i64 0,.bool false,.int .i64 0] 227)) p:=(RS.refl _ _).alloc _
 have g0 : Hid ((w.alloc (.cells #[.int .i64 0,.int .i64 0,.int .i64 0,.int .i64 0,.int .i64 0,.int .i64 0,.int .i64 0,.int .i64 0,.int .i64 0,.bool false,.int .i64 0] 227)).heap[w.heap.size]? = some (.cells #[.int .i64 0,.int .i64 0,.int .i64 0,.int .i64 0,.int .i64 0,.int .i64 0,.int .i64 0,.int .i64 0,.int .i64 0,.bool false,.int .i64 0] 227 (0,0))):=heap_alloc_new w _
 have z0 : w.heap.size < (w.alloc (.cells #[.int .i64 0,.int .i64 0,.int .i64 0,.int .i64 0,.int .i64 0,.int .i64 0,.int .i64 0,.int .i64 0,.int .i64 0,.bool false,.int .i64 0] 227)).heap.size:=by rw [World.size_alloc]; omega
 have hpq : Hid (p ≠ w.heap.size):=by have:=h.1; show p ≠ _; omega
 have hDq : Hid (p < w.heap.size/\D<=w.heap.size):=⟨h.1,h.2.1⟩
 clear h hB0
 go_enter Tryz.func199,Tryz.ntmps199
 go_wp2_with fail
 refine (zF2 p s _ h0).mono ?_
 rintro e w1 ⟨rfl,h1,t1⟩
 have s1:=s0.trans t1
 have g1 : Hid (w1.heap[w.heap.size]? = some (.cells #[.int .i64 0,.int .i64 0,.int .i64 0,.int .i64 0,.int .i64 0,.int .i64 0,.int .i64 0,.int .i64 0,.int .i64 0,.bool false,.int .i64 0] 227 (0,0))):=(t1.block _ z0 hpq.out.symm).trans g0.out
 have z1 : w.heap.size < w1.heap.size:=Nat.lt_of_lt_of_le z0 t1.size
 clear h0 t1 s0 g0 z0
 go_wp2_with fail
 refine (zF2 p (numS s) _ h1).mono ?_
 rintro e w2 ⟨rfl,h2,t2⟩
 have s2:=s1.trans t2
 have g2 : Hid (w2.heap[w.heap.size]? = some (.cells #[.int .i64 0,.int .i64 0,.int .i64 0,.int .i64 0,.int .i64 0,.int .i64 0,.int .i64 0,.int .i64 0,.int .i64 0,.bool false,.int .i64 0] 227 (0,0))):=(t2.block _ z1 hpq.out.symm).trans g1.out
 have z2 : w.heap.size < w2.heap.size:=Nat.lt_of_lt_of_le z1 t2.size
 clear h1 t2 s1 g1 z1
 go_wp2_with fail
 refine (zF2 p (numS (numS s)) _ h2).mono ?_
 rintro e w3 ⟨rfl,h3,t3⟩
 have s3:=s2.trans t3
 have g3 : Hid (w3.heap[w.heap.size]? = some (.cells #[.int .i64 0,.int .i64 0,.int .i64 0,.int .i64 0,.int .i64 0,.int .i64 0,.int .i64 0,.int .i64 0,.int .i64 0,.bool false,.int .i64 0] 227 (0,0))):=(t3.block _ z2 hpq.out.symm).trans g2.out
 have z3 : w.heap.size < w3.heap.size:=Nat.lt_of_lt_of_le z2 t3.size
 clear h2 t3 s2 g2 z2
 go_wp2_with fail
 refine (zF2 p (numS (numS (numS s))) _ h3).mono ?_
 rintro e w4 ⟨rfl,h4,t4⟩
 have s4:=s3.trans t4
 have g4 : Hid (w4.heap[w.heap.size]? = some (.cells #[.int .i64 0,.int .i64 0,.int .i64 0,.int .i64 0,.int .i64 0,.int .i64 0,.int .i64 0,.int .i64 0,.int .i64 0,.bool false,.int .i64 0] 227 (0,0))):=(t4.block _ z3 hpq.out.symm).trans g3.out
 have z4 : w.heap.size < w4.heap.size:=Nat.lt_of_lt_of_le z3 t4.size
 clear h3 t4 s3 g3 z3
 go_wp2_with fail
 refine (zF2 p (numS (numS (numS (numS s)))) _ h4).mono ?_
 rintro e w5 ⟨rfl,h5,t5⟩
 have s5:=s4.trans t5
 have g5 : Hid (w5.heap[w.heap.size]? = some (.cells #[.int .i64 0,.int .i64 0,.int .i64 0,.int .i64 0,.int .i64 0,.int .i64 0,.int .i64 0,.int .i64 0,.int .i64 0,.bool false,.int .i64 0] 227 (0,0))):=(t5.block _ z4 hpq.out.symm).trans g4.out
 have z5 : w.heap.size < w5.heap.size:=Nat.lt_of_lt_of_le z4 t5.size
 clear h4 t5 s4 g4 z4
 go_wp2_with fail
 refine (zF2 p (numS (numS (numS (numS (numS s))))) _ h5).mono ?_
 rintro e w6 ⟨rfl,h6,t6⟩
 have s6:=s5.trans t6
 have g6 : Hid (w6.heap[w.heap.size]? = some (.cells #[.int .i64 0,.int .i64 0,.int .i64 0,.int .i64 0,.int .i64 0,.int .i64 0,.int .i64 0,.int .i64 0,.int .i64 0,.bool false,.int .i64 0] 227 (0,0))):=(t6.block _ z5 hpq.out.symm).trans g5.out
 have z6 : w.heap.size < w6.heap.size:=Nat.lt_of_lt_of_le z5 t6.size
 clear h5 t6 s5 g5 z5
 go_wp2_with fail
 refine (zF2 p (numS (numS (numS (numS (numS (numS s)))))) _ h6).mono ?_
 rintro e w7 ⟨rfl,h7,t7⟩
 have s7:=s6.trans t7
 have g7 : Hid (w7.heap[w.heap.size]? = some (.cells #[.int .i64 0,.int .i64 0,.int .i64 0,.int .i64 0,.int .i64 0,.int .i64 0,.int .i64 0,.int .i64 0,.int .i64 0,.bool false,.int .i64 0] 227 (0,0))):=(t7.block _ z6 hpq.out.symm).trans g6.out
 have z7 : w.heap.size < w7.heap.size:=Nat.lt_of_lt_of_le z6 t7.size
 clear h6 t7 s6 g6 z6
 go_wp2_with fail
 refine (xU5 p (numS (numS (numS (numS (numS (numS (numS s))))))) _ h7).mono ?_
 rintro e w8 ⟨cs7,rfl,q7,h8,t8⟩
 obtain ⟨y7_0,y7_1,rfl⟩:=zF3 cs7 q7.len
 have Q7:=zB9 (q7.keptN (lo':=w.heap.size + 1) (Nat.le_refl _) (fun _ _ _=>rfl) z7)
 clear q7
 have s8:=s7.trans t8
 have g8 : Hid (w8.heap[w.heap.size]? = some (.cells #[.int .i64 0,.int .i64 0,.int .i64 0,.int .i64 0,.int .i64 0,.int .i64 0,.int .i64 0,.int .i64 0,.int .i64 0,.bool false,.int .i64 0] 227 (0,0))):=(t8.block _ z7 hpq.out.symm).trans g7.out
 have z8 : w.heap.size < w8.heap.size:=Nat.lt_of_lt_of_le z7 t8.size
 clear h7 t8 s7 g7 z7
 go_wp2_with fail
 refine (zX6 p ((de zA9 (numS (numS (numS (numS (numS (numS (numS s)))))))).2) _ h8).mono ?_
 rintro e w9 ⟨rfl,h9,t9⟩
 replace Q7:=zB9 (Q7.out.keptN (lo':=w.heap.size + 1) t9.size (fun b h1 h2=>t9.block b h2 (by have:=hDq.out.1; omega)) (Nat.le_refl _))
 have s9:=s8.trans t9
 have g9 : Hid (w9.heap[w.heap.size]? = some (.cells #[.int .i64 0,.int .i64 0,.int .i64 0,.int .i64 0,.int .i64 0,.int .i64 0,.int .i64 0,.int .i64 0,.int .i64 0,.bool false,.int .i64 0] 227 (0,0))):=(t9.block _ z8 hpq.out.symm).trans g8.out
 have z9 : w.heap.size < w9.heap.size:=Nat.lt_of_lt_of_le z8 t9.size
 clear h8 t9 s8 g8 z8
 go_wp2_with fail
 refine (zF2 p (truS ((de zA9 (numS (numS (numS (numS (numS (numS (numS s)))))))).2)) _ h9).mono ?_
 rintro e w10 ⟨rfl,h10,t10⟩
 replace Q7:=zB9 (Q7.out.keptN (lo':=w.heap.size + 1) t10.size (fun b h1 h2=>t10.block b h2 (by have:=hDq.out.1; omega)) (Nat.le_refl _))
 have s10:=s9.trans t10
 have g10 : Hid (w10.heap[w.heap.size]? = some (.cells #[.int .i64 0,.int .i64 0,.int .i64 0,.int .i64 0,.int .i64 0,.int .i64 0,.int .i64 0,.int .i64 0,.int .i64 0,.bool false,.int .i64 0] 227 (0,0))):=(t10.block _ z9 hpq.out.symm).trans g9.out
 have z10 : w.heap.size < w10.heap.size:=Nat.lt_of_lt_of_le z9 t10.size
 clear h9 t10 s9 g9 z9
 have I0 : Hid ((Tryz.prog.info? 227).map (·.size) = some (#[.int .i64 (numV s),.int .i64 (numV (numS s)),.int .i64 (numV (numS (numS s))),.int .i64 (numV (numS (numS (numS s)))),.int .i64 (numV (numS (numS (numS (numS s))))),.int .i64 (numV (numS (numS (numS (numS (numS s)))))),.int .i64 (numV (numS (numS (numS (numS (numS (numS s))))))),y7_0,y7_1,.bool (decide (numV ((de zA9 (numS (numS (numS (numS (numS (numS (numS s)))))))).2) = 1)),.int .i64 (numV (truS ((de zA9 (numS (numS (numS (numS (numS (numS (numS s)))))))).2)))] : Array Value).size):=by show _ = _; kernel_rfl
 have REP : Hid (Rep w10 (NBr (w.heap.size + 1) w10) zA7 [.int .i64 (numV s),.int .i64 (numV (numS s)),.int .i64 (numV (numS (numS s))),.int .i64 (numV (numS (numS (numS s)))),.int .i64 (numV (numS (numS (numS (numS s))))),.int .i64 (numV (numS (numS (numS (numS (numS s)))))),.int .i64 (numV (numS (numS (numS (numS (numS (numS s))))))),y7_0,y7_1,.bool (decide (numV ((de zA9 (numS (numS (numS (numS (numS (numS (numS s)))))))).2) = 1)),.int .i64 (numV (truS ((de zA9 (numS (numS (numS (numS (numS (numS (numS s)))))))).2)))] (numV s,numV (numS s),numV (numS (numS s)),numV (numS (numS (numS s))),numV (numS (numS (numS (numS s)))),numV (numS (numS (numS (numS (numS s))))),numV (numS (numS (numS (numS (numS (numS s)))))),(de zA9 (numS (numS (numS (numS (numS (numS (numS s)))))))).1,decide (numV ((de zA9 (numS (numS (numS (numS (numS (numS (numS s)))))))).2) = 1),numV (truS ((de zA9 (numS (numS (numS (numS (numS (numS (numS s)))))))).2)))):=by
  exact xM1 (numV s) (numV (numS s)) (numV (numS (numS s))) (numV (numS (numS (numS s)))) (numV (numS (numS (numS (numS s))))) (numV (numS (numS (numS (numS (numS s)))))) (numV (numS (numS (numS (numS (numS (numS s))))))) y7_0 y7_1 ((de zA9 (numS (numS (numS (numS (numS (numS (numS s)))))))).1) (decide (numV ((de zA9 (numS (numS (numS (numS (numS (numS (numS s)))))))).2) = 1)) (numV (truS ((de zA9 (numS (numS (numS (numS (numS (numS (numS s)))))))).2))) Q7.out
 have O0 : Hid ((#[.int .i64 (numV s),.int .i64 (numV (numS s)),.int .i64 (numV (numS (numS s))),.int .i64 (numV (numS (numS (numS s)))),.int .i64 (numV (numS (numS (numS (numS s))))),.int .i64 (numV (numS (numS (numS (numS (numS s)))))),.int .i64 (numV (numS (numS (numS (numS (numS (numS s))))))),y7_0,y7_1,.bool (decide (numV ((de zA9 (numS (numS (numS (numS (numS (numS (numS s)))))))).2) = 1)),.int .i64 (numV (truS ((de zA9 (numS (numS (numS (numS (numS (numS (numS s)))))))).2)))] : Array Value).all (·.oneCell') = true):=REP.out.all
 go_wp2_with (refine wpList_store_row rfl 227 (.tmp 2) (.tmp 23) rfl w.heap.size #[.int .i64 (numV s),.int .i64 (numV (numS s)),.int .i64 (numV (numS (numS s))),.int .i64 (numV (numS (numS (numS s)))),.int .i64 (numV (numS (numS (numS (numS s))))),.int .i64 (numV (numS (numS (numS (numS (numS s)))))),.int .i64 (numV (numS (numS (numS (numS (numS (numS s))))))),y7_0,y7_1,.bool (decide (numV ((de zA9 (numS (numS (numS (numS (numS (numS (numS s)))))))).2) = 1)),.int .i64 (numV (truS ((de zA9 (numS (numS (numS (numS (numS (numS (numS s)))))))).2)))] rfl rfl 227 #[.int .i64 0,.int .i64 0,.int .i64 0,.int .i64 0,.int .i64 0,.int .i64 0,.int .i64 0,.int .i64 0,.int .i64 0,.bool false,.int .i64 0] g10.out I0.out rfl O0.out ?_)
 refine bodyPost_ret (v:=.agg #[.int .i64 (numV s),.int .i64 (numV (numS s)),.int .i64 (numV (numS (numS s))),.int .i64 (numV (numS (numS (numS s)))),.int .i64 (numV (numS (numS (numS (numS s))))),.int .i64 (numV (numS (numS (numS (numS (numS s)))))),.int .i64 (numV (numS (numS (numS (numS (numS (numS s))))))),y7_0,y7_1,.bool (decide (numV ((de zA9 (numS (numS (numS (numS (numS (numS (numS s)))))))).2) = 1)),.int .i64 (numV (truS ((de zA9 (numS (numS (numS (numS (numS (numS (numS s)))))))).2)))]) ?_ rfl ⟨[.int .i64 (numV s),.int .i64 (numV (numS s)),.int .i64 (numV (numS (numS s))),.int .i64 (numV (numS (numS (numS s)))),.int .i64 (numV (numS (numS (numS (numS s))))),.int .i64 (numV (numS (numS (numS (numS (numS s)))))),.int .i64 (numV (numS (numS (numS (numS (numS (numS s))))))),y7_0,y7_1,.bool (decide (numV ((de zA9 (numS (numS (numS (numS (numS (numS (numS s)))))))).2) = 1)),.int .i64 (numV (truS ((de zA9 (numS (numS (numS (numS (numS (numS (numS s)))))))).2)))],rfl,?_,?_,?_⟩
 · refine results_cell_row Tryz.results199 _ _ w.heap.size 227 _ (0,0) _ ?_ (setRow_heap w10 w.heap.size _ _ 227 _ g10.out) Tryz.underlying227 rfl I0.out
   rfl
 · exact REP.out.keptN (by simp [World.setRow]) (fun b h1 h2=>setRow_other _ _ _ _ (by omega)) (Nat.le_succ _)
 · exact h10.ext ⟨rfl,rfl,rfl,by simp [World.setRow],fun k hk=>setRow_other _ _ _ _ (by omega)⟩ hDq.out.1 hDq.out.2
 · exact s10.setRow (Nat.le_refl _) _
theorem yK0 : (Tryz.prog.info? 227).map (fun i=>(i.zero,i.size,i.bytes)) = some (some (.agg #[.int .i64 0,.int .i64 0,.int .i64 0,.int .i64 0,.int .i64 0,.int .i64 0,.int .i64 0,.int .i64 0,.int .i64 0,.bool false,.int .i64 0]),11,88):=by kernel_rfl
theorem yP5 {D:Nat} (p:Nat) (s:Option (List UInt8)) (w:World) (h:RG D w p s) :
    Calls Tryz.prog 198 #[.pointer (some ⟨p,0,none⟩),.func (.func 199) #[.pointer (some ⟨p,0,none⟩)] #[]] w fun e w'=>∃ (a:Option Addr) (c:Nat),e = .returned (.slice a (de (.lst zA7) s).1.length c)/\RepL w' (NB w w') zA7 a (de (.lst zA7) s).1/\RG D w' p (de (.lst zA7) s).2/\RS w w' p:=by
 obtain ⟨i0,hi,hz0,hz1,hz2⟩:=info_parts yK0
 have hp0:=h.1
 have hD0:=h.2.1
 go_enter Tryz.func198,Tryz.ntmps198
 go_wp2_with fail
 refine (zZ9 p s _ w (by omega) (by omega) h).mono ?_
 rintro e w1 ⟨rfl,r1,s1,hn⟩
 have HNO : Hid (∀ k,k<=cntV 64 s->(deN (de zA7) k (cntS 64 s)).2 = none->de (.lst zA7) s = ([],none)):=fun k hk h=>zM1 zA7 s k hk h
 have HYE : Hid (¬ (deN (de zA7) (cntV 64 s) (cntS 64 s)).2 = none->de (.lst zA7) s = deN (de zA7) (cntV 64 s) (cntS 64 s)):=fun h=>by rw [de,if_neg h]
 generalize cntV 64 s = N at *
 go_wp2
 go_loopw [5,8] (fun v i wr=>∃ k : Nat,∃ xs : List Value,k<=N/\i = .int .i64 k/\RG D wr p (deN (de zA7) k (cntS 64 s)).2/\RS w wr p/\wr.ownsRow w.heap.size 227 11 v k xs/\Hid (0 < k->(deN (de zA7) k (cntS 64 s)).2 ≠ none)/\Hid (zE4 w wr zA7 v xs (deN (de zA7) k (cntS 64 s)).1)) (fun _ i _=>N - (intOf i).toNat)
 case atStart=>exact ⟨0,[],Nat.zero_le _,rfl,r1,s1,World.ownsRow_nil _ _ _ _,(fun h=>absurd h (by omega)),zE4.nil _ _ _ _⟩
 case round =>
  obtain ⟨k,xs,hk,rfl,rk,sk,ok,hnn,hel⟩:=hrel
  by_cases hlt : k < N
  · go_wp2_with fail
    refine (xZ5 p _ wr rk).mono ?_
    rintro e w2 ⟨es,rfl,hx,r2,t2⟩
    obtain ⟨y0,y1,y2,y3,y4,y5,y6,y7,y8,y9,y10,rfl⟩:=yX1 es hx.len
    have sk2:=sk.trans t2
    have ok2:=zO7 ok t2 hp0
    have HEL2 : Hid (zE4 w w2 zA7 u5 xs (deN (de zA7) k (cntS 64 s)).1):=hel.out.rs t2 hp0
    have HVL : Hid (∀ q,u5.ownBlock = some q->q < wr.heap.size):=fun q hq=>(ok.lt q hq).2
    have HWR : Hid (w.heap.size<=wr.heap.size):=sk.size
    have HX : Hid (Rep w2 (NB wr w2) zA7 [y0,y1,y2,y3,y4,y5,y6,y7,y8,y9,y10] (de zA7 (deN (de zA7) k (cntS 64 s)).2).1):=hx
    have O1 : Hid (∀ u ∈ (#[y0,y1,y2,y3,y4,y5,y6,y7,y8,y9,y10] : Array Value).toList,u.oneCell' = true):=hx.one
    have HB2 : Hid (Below w2.heap.size w2 (w2.alloc (.cells #[y0,y1,y2,y3,y4,y5,y6,y7,y8,y9,y10] 227))):=(Below.refl _ _).alloc (Nat.le_refl _) _
    clear t2 rk ok sk hx hel
    go_wp2_with (at_builtin; refine zF1 _ rfl (.tmp 10) (.tmp 13) 67 rfl w.heap.size 227 i0 (.agg #[.int .i64 0,.int .i64 0,.int .i64 0,.int .i64 0,.int .i64 0,.int .i64 0,.int .i64 0,.int .i64 0,.int .i64 0,.bool false,.int .i64 0]) 11 88 Tryz.underlying67 hi hz0 hz1 hz2 rfl (by decide) _ _ _ rfl (ok2.alloc _) ⟨w2.heap.size,0,none⟩ 1 1 (#[y0,y1,y2,y3,y4,y5,y6,y7,y8,y9,y10] : Array Value).toList rfl rfl (fun j u hj=>zG4 w2 _ _ j u hj) O1.out ?c3 ?c4 ?c5 ?next)
    case c3=>unfold maxLen; omega
    case c4=>omega
    case c5=>have:=sk2.size; rw [World.size_alloc]; omega
    case next =>
     intro v3 w3 ho3 hg3 hw3
     have HEL3 : Hid (zE4 w w3 zA7 v3 (xs ++ [y0,y1,y2,y3,y4,y5,y6,y7,y8,y9,y10]) ((deN (de zA7) k (cntS 64 s)).1 ++ [(de zA7 (deN (de zA7) k (cntS 64 s)).2).1])):=HEL2.out.more HX.out HWR.out HVL.out HB2.out hg3 (by rw [World.size_alloc]; exact hw3)
     have hB3 : Below w.heap.size w2 w3:=((Below.refl _ _).alloc sk2.size _).grown hg3 (by have:=sk2.size; rw [World.size_alloc]; omega) (fun j hj=>(ok2.lt j hj).1)
     have r3 : RG D w3 p (de zA7 (deN (de zA7) k (cntS 64 s)).2).2:=r2.ext hB3 hp0 hD0
     have s3:=sk2.ext hB3
     clear hg3 r2 sk2 ok2 hB3 hw3
     cases hst : (de zA7 (deN (de zA7) k (cntS 64 s)).2).2 with
     | none =>
      have r4:=r3
      rw [hst] at r4
      have HN : Hid (de (.lst zA7) s = ([],none)):=HNO.out (k + 1) (by omega) hst
      clear hst r3
      obtain ⟨q1,q2,q3,q4,q5,q6⟩:=r4
      have r5 : Hid (RG D w3 p none):=⟨q1,q2,q3,q4,q5,q6⟩
      go_wp2
      go_ret
      rw [HN.out]
      exact ⟨none,0,rfl,⟨by simp,fun h=>absurd rfl h⟩,r5.out,s3⟩
     | some l3 =>
      have r4:=r3
      rw [hst] at r4
      have HNN : Hid (0 < k + 1->(deN (de zA7) (k + 1) (cntS 64 s)).2 ≠ none):=fun _ h=>by
       have h' : (de zA7 (deN (de zA7) k (cntS 64 s)).2).2 = none:=h
       rw [hst] at h'; cases h'
      clear hst
      obtain ⟨_,_,_,_,_,_,_,q6,_⟩:=r4
      have R3 : Hid (RG D w3 p (deN (de zA7) (k + 1) (cntS 64 s)).2):=r3
      clear r3
      go_wp2
      exact ⟨⟨k + 1,_,by omega,by go_num,R3.out,s3,ho3,HNN,HEL3⟩,by simp [intOf]; omega⟩
  · have hkN : k = N:=by omega
    subst hkN
    obtain ⟨va,vc,hv,hrl⟩ : ∃ va vc,u5 = Value.slice va k vc/\RepL wr (NB w wr) zA7 va (deN (de zA7) k (cntS 64 s)).1:=by
     have hl:=zG2 (de zA7) k (cntS 64 s)
     have:=zE4.done (e:=227) hel.out (by rw [hl]; exact ok) (by rw [hl]; omega)
     rwa [hl] at this
    subst hv
    have FIN : Hid (RepL wr (NB w wr) zA7 va (de (.lst zA7) s).1/\RG D wr p (de (.lst zA7) s).2/\(de (.lst zA7) s).1.length = k):=by
     by_cases hst : (deN (de zA7) k (cntS 64 s)).2 = none
     · have hk0 : k = 0:=by
         rcases Nat.eq_zero_or_pos k with h0 | h0
         · exact h0
         · exact absurd hst (hnn.out h0)
       have e:=HNO.out k (Nat.le_refl _) hst
       rw [hst] at rk
       refine ⟨?_,?_,?_⟩
       · rw [e]; exact ⟨by simp,fun h=>absurd rfl h⟩
       · rw [e]; exact rk
       · rw [e,hk0]; rfl
     · have e:=HYE.out hst
       refine ⟨?_,?_,?_⟩
       · rw [e]; exact hrl
       · rw [e]; exact rk
       · rw [e]; exact zG2 _ _ _
    clear rk ok hrl hel hnn
    go_wp2
    go_ret
    rw [FIN.out.2.2]
    exact ⟨_,_,rfl,FIN.out.1,FIN.out.2.1,sk⟩
theorem xG3 (s:Option (List UInt8)) : de zA4 s = ((numV s,numV (numS s)),(numS (numS s))):=(de_c (de_n s) (de_n (numS s)))
theorem xK4 {D:Nat} (p:Nat) (s:Option (List UInt8)) (w:World) (h:RG D w p s) :
    Calls Tryz.prog 178 #[.pointer (some ⟨p,0,none⟩)] w fun e w'=>∃ cs : List Value,e = .returned (.agg cs.toArray)/\Rep w' (NB w w') zA4 cs (de zA4 s).1/\RG D w' p (de zA4 s).2/\RS w w' p:=by
 rw [xG3]
 have hmf : ∀ (fn:Fn) (first cap:Array Value) (w:World),(Instr.makeFunc fn first cap).run Tryz.prog w = .ok (.func fn first cap) w:=fun _ _ _ _=>rfl
 have hB0 : Below w.heap.size w (w.alloc (.cells #[.int .i64 0,.int .i64 0] 187)):=(Below.refl _ _).alloc (Nat.le_refl _) _
 have h0 : RG D (w.alloc (.cells #[.int .i64 0,.int .i64 0] 187)) p s:=h.ext hB0 h.1 h.2.1
 have s0 : RS w (w.alloc (.cells #[.int .i64 0,.int .i64 0] 187)) p:=(RS.refl _ _).alloc _
 have g0 : Hid ((w.alloc (.cells #[.int .i64 0,.int .i64 0] 187)).heap[w.heap.size]? = some (.cells #[.int .i64 0,.int .i64 0] 187 (0,0))):=heap_alloc_new w _
 have z0 : w.heap.size < (w.alloc (.cells #[.int .i64 0,.int .i64 0] 187)).heap.size:=by rw [World.size_alloc]; omega
 have hpq : Hid (p ≠ w.heap.size):=by have:=h.1; show p ≠ _; omega
 have hDq : Hid (p < w.heap.size/\D<=w.heap.size):=⟨h.1,h.2.1⟩
 clear h hB0
 go_enter Tryz.func178,Tryz.ntmps178
 go_wp2_with fail
 refine (zF2 p s _ h0).mono ?_
 rintro e w1 ⟨rfl,h1,t1⟩
 have s1:=s0.trans t1
 have g1 : Hid (w1.heap[w.heap.size]? = some (.cells #[.int .i64 0,.int .i64 0] 187 (0,0))):=(t1.block _ z0 hpq.out.symm).trans g0.out
 have z1 : w.heap.size < w1.heap.size:=Nat.lt_of_lt_of_le z0 t1.size
 clear h0 t1 s0 g0 z0
 go_wp2_with fail
 refine (zF2 p (numS s) _ h1).mono ?_
 rintro e w2 ⟨rfl,h2,t2⟩
 have s2:=s1.trans t2
 have g2 : Hid (w2.heap[w.heap.size]? = some (.cells #[.int .i64 0,.int .i64 0] 187 (0,0))):=(t2.block _ z1 hpq.out.symm).trans g1.out
 have z2 : w.heap.size < w2.heap.size:=Nat.lt_of_lt_of_le z1 t2.size
 clear h1 t2 s1 g1 z1
 have I0 : Hid ((Tryz.prog.info? 187).map (·.size) = some (#[.int .i64 (numV s),.int .i64 (numV (numS s))] : Array Value).size):=by show _ = _; kernel_rfl
 have REP : Hid (Rep w2 (NBr (w.heap.size + 1) w2) zA4 [.int .i64 (numV s),.int .i64 (numV (numS s))] (numV s,numV (numS s))):=by
  exact xD6 (numV s) (numV (numS s))
 have O0 : Hid ((#[.int .i64 (numV s),.int .i64 (numV (numS s))] : Array Value).all (·.oneCell') = true):=REP.out.all
 go_wp2_with (refine wpList_store_row rfl 187 (.tmp 2) (.tmp 7) rfl w.heap.size #[.int .i64 (numV s),.int .i64 (numV (numS s))] rfl rfl 187 #[.int .i64 0,.int .i64 0] g2.out I0.out rfl O0.out ?_)
 refine bodyPost_ret (v:=.agg #[.int .i64 (numV s),.int .i64 (numV (numS s))]) ?_ rfl ⟨[.int .i64 (numV s),.int .i64 (numV (numS s))],rfl,?_,?_,?_⟩
 · refine results_cell_row Tryz.results178 _ _ w.heap.size 187 _ (0,0) _ ?_ (setRow_heap w2 w.heap.size _ _ 187 _ g2.out) Tryz.underlying187 rfl I0.out
   rfl
 · exact REP.out.keptN (by simp [World.setRow]) (fun b h1 h2=>setRow_other _ _ _ _ (by omega)) (Nat.le_succ _)
 · exact h2.ext ⟨rfl,rfl,rfl,by simp [World.setRow],fun k hk=>setRow_other _ _ _ _ (by omega)⟩ hDq.out.1 hDq.out.2
 · exact s2.setRow (Nat.le_refl _) _
theorem yE5 : (Tryz.prog.info? 187).map (fun i=>(i.zero,i.size,i.bytes)) = some (some (.agg #[.int .i64 0,.int .i64 0]),2,16):=by kernel_rfl
theorem yJ8 {D:Nat} (p:Nat) (s:Option (List UInt8)) (w:World) (h:RG D w p s) :
    Calls Tryz.prog 177 #[.pointer (some ⟨p,0,none⟩),.func (.func 178) #[.pointer (some ⟨p,0,none⟩)] #[]] w fun e w'=>∃ (a:Option Addr) (c:Nat),e = .returned (.slice a (de (.lst zA4) s).1.length c)/\RepL w' (NB w w') zA4 a (de (.lst zA4) s).1/\RG D w' p (de (.lst zA4) s).2/\RS w w' p:=by
 obtain ⟨i0,hi,hz0,hz1,hz2⟩:=info_parts yE5
 have hp0:=h.1
 have hD0:=h.2.1
 go_enter Tryz.func177,Tryz.ntmps177
 go_wp2_with fail
 refine (zZ9 p s _ w (by omega) (by omega) h).mono ?_
 rintro e w1 ⟨rfl,r1,s1,hn⟩
 have HNO : Hid (∀ k,k<=cntV 64 s->(deN (de zA4) k (cntS 64 s)).2 = none->de (.lst zA4) s = ([],none)):=fun k hk h=>zM1 zA4 s k hk h
 have HYE : Hid (¬ (deN (de zA4) (cntV 64 s) (cntS 64 s)).2 = none->de (.lst zA4) s = deN (de zA4) (cntV 64 s) (cntS 64 s)):=fun h=>by rw [de,if_neg h]
 generalize cntV 64 s = N at *
 go_wp2
 go_loopw [5,8] (fun v i wr=>∃ k : Nat,∃ xs : List Value,k<=N/\i = .int .i64 k/\RG D wr p (deN (de zA4) k (cntS 64 s)).2/\RS w wr p/\wr.ownsRow w.heap.size 187 2 v k xs/\Hid (0 < k->(deN (de zA4) k (cntS 64 s)).2 ≠ none)/\Hid (zE4 w wr zA4 v xs (deN (de zA4) k (cntS 64 s)).1)) (fun _ i _=>N - (intOf i).toNat)
 case atStart=>exact ⟨0,[],Nat.zero_le _,rfl,r1,s1,World.ownsRow_nil _ _ _ _,(fun h=>absurd h (by omega)),zE4.nil _ _ _ _⟩
 case round =>
  obtain ⟨k,xs,hk,rfl,rk,sk,ok,hnn,hel⟩:=hrel
  by_cases hlt : k < N
  · go_wp2_with fail
    refine (xK4 p _ wr rk).mono ?_
    rintro e w2 ⟨es,rfl,hx,r2,t2⟩
    obtain ⟨y0,y1,rfl⟩:=zF3 es hx.len
    have sk2:=sk.trans t2
    have ok2:=zO7 ok t2 hp0
    have HEL2 : Hid (zE4 w w2 zA4 u5 xs (deN (de zA4) k (cntS 64 s)).1):=hel.out.rs t2 hp0
    have HVL : Hid (∀ q,u5.ownBlock = some q->q < wr.heap.size):=fun q hq=>(ok.lt q hq).2
    have HWR : Hid (w.heap.size<=wr.heap.size):=sk.size
    have HX : Hid (Rep w2 (NB wr w2) zA4 [y0,y1] (de zA4 (deN (de zA4) k (cntS 64 s)).2).1):=hx
    have O1 : Hid (∀ u ∈ (#[y0,y1] : Array Value).toList,u.oneCell' = true):=hx.one
    have HB2 : Hid (Below w2.heap.size w2 (w2.alloc (.cells #[y0,y1] 187))):=(Below.refl _ _).alloc (Nat.le_refl _) _
    clear t2 rk ok sk hx hel
    go_wp2_with (at_builtin; refine zF1 _ rfl (.tmp 10) (.tmp 13) 66 rfl w.heap.size 187 i0 (.agg #[.int .i64 0,.int .i64 0]) 2 16 Tryz.underlying66 hi hz0 hz1 hz2 rfl (by decide) _ _ _ rfl (ok2.alloc _) ⟨w2.heap.size,0,none⟩ 1 1 (#[y0,y1] : Array Value).toList rfl rfl (fun j u hj=>zG4 w2 _ _ j u hj) O1.out ?c3 ?c4 ?c5 ?next)
    case c3=>unfold maxLen; omega
    case c4=>omega
    case c5=>have:=sk2.size; rw [World.size_alloc]; omega
    case next =>
     intro v3 w3 ho3 hg3 hw3
     have HEL3 : Hid (zE4 w w3 zA4 v3 (xs ++ [y0,y1]) ((deN (de zA4) k (cntS 64 s)).1 ++ [(de zA4 (deN (de zA4) k (cntS 64 s)).2).1])):=HEL2.out.more HX.out HWR.out HVL.out HB2.out hg3 (by rw [World.size_alloc]; exact hw3)
     have hB3 : Below w.heap.size w2 w3:=((Below.refl _ _).alloc sk2.size _).grown hg3 (by have:=sk2.size; rw [World.size_alloc]; omega) (fun j hj=>(ok2.lt j hj).1)
     have r3 : RG D w3 p (de zA4 (deN (de zA4) k (cntS 64 s)).2).2:=r2.ext hB3 hp0 hD0
     have s3:=sk2.ext hB3
     clear hg3 r2 sk2 ok2 hB3 hw3
     cases hst : (de zA4 (deN (de zA4) k (cntS 64 s)).2).2 with
     | none =>
      have r4:=r3
      rw [hst] at r4
      have HN : Hid (de (.lst zA4) s = ([],none)):=HNO.out (k + 1) (by omega) hst
      clear hst r3
      obtain ⟨q1,q2,q3,q4,q5,q6⟩:=r4
      have r5 : Hid (RG D w3 p none):=⟨q1,q2,q3,q4,q5,q6⟩
      go_wp2
      go_ret
      rw [HN.out]
      exact ⟨none,0,rfl,⟨by simp,fun h=>absurd rfl h⟩,r5.out,s3⟩
     | some l3 =>
      have r4:=r3
      rw [hst] at r4
      have HNN : Hid (0 < k + 1->(deN (de zA4) (k + 1) (cntS 64 s)).2 ≠ none):=fun _ h=>by
       have h' : (de zA4 (deN (de zA4) k (cntS 64 s)).2).2 = none:=h
       rw [hst] at h'; cases h'
      clear hst
      obtain ⟨_,_,_,_,_,_,_,q6,_⟩:=r4
      have R3 : Hid (RG D w3 p (deN (de zA4) (k + 1) (cntS 64 s)).2):=r3
      clear r3
      go_wp2
      exact ⟨⟨k + 1,_,by omega,by go_num,R3.out,s3,ho3,HNN,HEL3⟩,by simp [intOf]; omega⟩
  · have hkN : k = N:=by omega
    subst hkN
    obtain ⟨va,vc,hv,hrl⟩ : ∃ va vc,u5 = Value.slice va k vc/\RepL wr (NB w wr) zA4 va (deN (de zA4) k (cntS 64 s)).1:=by
     have hl:=zG2 (de zA4) k (cntS 64 s)
     have:=zE4.done (e:=187) hel.out (by rw [hl]; exact ok) (by rw [hl]; omega)
     rwa [hl] at this
    subst hv
    have FIN : Hid (RepL wr (NB w wr) zA4 va (de (.lst zA4) s).1/\RG D wr p (de (.lst zA4) s).2/\(de (.lst zA4) s).1.length = k):=by
     by_cases hst : (deN (de zA4) k (cntS 64 s)).2 = none
     · have hk0 : k = 0:=by
         rcases Nat.eq_zero_or_pos k with h0 | h0
         · exact h0
         · exact absurd hst (hnn.out h0)
       have e:=HNO.out k (Nat.le_refl _) hst
       rw [hst] at rk
       refine ⟨?_,?_,?_⟩
       · rw [e]; exact ⟨by simp,fun h=>absurd rfl h⟩
       · rw [e]; exact rk
       · rw [e,hk0]; rfl
     · have e:=HYE.out hst
       refine ⟨?_,?_,?_⟩
       · rw [e]; exact hrl
       · rw [e]; exact rk
       · rw [e]; exact zG2 _ _ _
    clear rk ok hrl hel hnn
    go_wp2
    go_ret
    rw [FIN.out.2.2]
    exact ⟨_,_,rfl,FIN.out.1,FIN.out.2.1,sk⟩
theorem xO0 (s:Option (List UInt8)) : de zA6 s = ((numV s,(de zA9 (numS s)).1),((de zA9 (numS s)).2)):=(de_c (de_n s) (de_e zA9 (numS s)))
theorem xW9 {D:Nat} (p:Nat) (s:Option (List UInt8)) (w:World) (h:RG D w p s) :
    Calls Tryz.prog 195 #[.pointer (some ⟨p,0,none⟩)] w fun e w'=>∃ cs : List Value,e = .returned (.agg cs.toArray)/\Rep w' (NB w w') zA6 cs (de zA6 s).1/\RG D w' p (de zA6 s).2/\RS w w' p:=by
 rw [xO0]
 have hmf : ∀ (fn:Fn) (first cap:Array Value) (w:World),(Instr.makeFunc fn first cap).run Tryz.prog w = .ok (.func fn first cap) w:=fun _ _ _ _=>rfl
 have hB0 : Below w.heap.size w (w.alloc (.cells #[.int .i64 0,.int .i64 0,.int .i64 0] 209)):=(Below.refl _ _).alloc (Nat.le_refl _) _
 have h0 : RG D (w.alloc (.cells #[.int .i64 0,.int .i64 0,.int .i64 0] 209)) p s:=h.ext hB0 h.1 h.2.1
 have s0 : RS w (w.alloc (.cells #[.int .i64 0,.int .i64 0,.int .i64 0] 209)) p:=(RS.refl _ _).alloc _
 have g0 : Hid ((w.alloc (.cells #[.int .i64 0,.int .i64 0,.int .i64 0] 209)).heap[w.heap.size]? = some (.cells #[.int .i64 0,.int .i64 0,.int .i64 0] 209 (0,0))):=heap_alloc_new w _
 have z0 : w.heap.size < (w.alloc (.cells #[.int .i64 0,.int .i64 0,.int .i64 0] 209)).heap.size:=by rw [World.size_alloc]; omega
 have hpq : Hid (p ≠ w.heap.size):=by have:=h.1; show p ≠ _; omega
 have hDq : Hid (p < w.heap.size/\D<=w.heap.size):=⟨h.1,h.2.1⟩
 clear h hB0
 go_enter Tryz.func195,Tryz.ntmps195
 go_wp2_with fail
 refine (zF2 p s _ h0).mono ?_
 rintro e w1 ⟨rfl,h1,t1⟩
 have s1:=s0.trans t1
 have g1 : Hid (w1.heap[w.heap.size]? = some (.cells #[.int .i64 0,.int .i64 0,.int .i64 0] 209 (0,0))):=(t1.block _ z0 hpq.out.symm).trans g0.out
 have z1 : w.heap.size < w1.heap.size:=Nat.lt_of_lt_of_le z0 t1.size
 clear h0 t1 s0 g0 z0
 go_wp2_with fail
 refine (xU5 p (numS s) _ h1).mono ?_
 rintro e w2 ⟨cs1,rfl,q1,h2,t2⟩
 obtain ⟨y1_0,y1_1,rfl⟩:=zF3 cs1 q1.len
 have Q1:=zB9 (q1.keptN (lo':=w.heap.size + 1) (Nat.le_refl _) (fun _ _ _=>rfl) z1)
 clear q1
 have s2:=s1.trans t2
 have g2 : Hid (w2.heap[w.heap.size]? = some (.cells #[.int .i64 0,.int .i64 0,.int .i64 0] 209 (0,0))):=(t2.block _ z1 hpq.out.symm).trans g1.out
 have z2 : w.heap.size < w2.heap.size:=Nat.lt_of_lt_of_le z1 t2.size
 clear h1 t2 s1 g1 z1
 have I0 : Hid ((Tryz.prog.info? 209).map (·.size) = some (#[.int .i64 (numV s),y1_0,y1_1] : Array Value).size):=by show _ = _; kernel_rfl
 have REP : Hid (Rep w2 (NBr (w.heap.size + 1) w2) zA6 [.int .i64 (numV s),y1_0,y1_1] (numV s,(de zA9 (numS s)).1)):=by
  exact xM0 (numV s) y1_0 y1_1 ((de zA9 (numS s)).1) Q1.out
 have O0 : Hid ((#[.int .i64 (numV s),y1_0,y1_1] : Array Value).all (·.oneCell') = true):=REP.out.all
 go_wp2_with (refine wpList_store_row rfl 209 (.tmp 2) (.tmp 7) rfl w.heap.size #[.int .i64 (numV s),y1_0,y1_1] rfl rfl 209 #[.int .i64 0,.int .i64 0,.int .i64 0] g2.out I0.out rfl O0.out ?_)
 refine bodyPost_ret (v:=.agg #[.int .i64 (numV s),y1_0,y1_1]) ?_ rfl ⟨[.int .i64 (numV s),y1_0,y1_1],rfl,?_,?_,?_⟩
 · refine results_cell_row Tryz.results195 _ _ w.heap.size 209 _ (0,0) _ ?_ (setRow_heap w2 w.heap.size _ _ 209 _ g2.out) Tryz.underlying209 rfl I0.out
   rfl
 · exact REP.out.keptN (by simp [World.setRow]) (fun b h1 h2=>setRow_other _ _ _ _ (by omega)) (Nat.le_succ _)
 · exact h2.ext ⟨rfl,rfl,rfl,by simp [World.setRow],fun k hk=>setRow_other _ _ _ _ (by omega)⟩ hDq.out.1 hDq.out.2
 · exact s2.setRow (Nat.le_refl _) _
theorem yJ9 : (Tryz.prog.info? 209).map (fun i=>(i.zero,i.size,i.bytes)) = some (some (.agg #[.int .i64 0,.int .i64 0,.int .i64 0]),3,24):=by kernel_rfl
theorem yP3 {D:Nat} (p:Nat) (s:Option (List UInt8)) (w:World) (h:RG D w p s) :
    Calls Tryz.prog 194 #[.pointer (some ⟨p,0,none⟩),.func (.func 195) #[.pointer (some ⟨p,0,none⟩)] #[]] w fun e w'=>∃ (a:Option Addr) (c:Nat),e = .returned (.slice a (de (.lst zA6) s).1.length c)/\RepL w' (NB w w') zA6 a (de (.lst zA6) s).1/\RG D w' p (de (.lst zA6) s).2/\RS w w' p:=by
 obtain ⟨i0,hi,hz0,hz1,hz2⟩:=info_parts yJ9
 have hp0:=h.1
 have hD0:=h.2.1
 go_enter Tryz.func194,Tryz.ntmps194
 go_wp2_with fail
 refine (zZ9 p s _ w (by omega) (by omega) h).mono ?_
 rintro e w1 ⟨rfl,r1,s1,hn⟩
 have HNO : Hid (∀ k,k<=cntV 64 s->(deN (de zA6) k (cntS 64 s)).2 = none->de (.lst zA6) s = ([],none)):=fun k hk h=>zM1 zA6 s k hk h
 have HYE : Hid (¬ (deN (de zA6) (cntV 64 s) (cntS 64 s)).2 = none->de (.lst zA6) s = deN (de zA6) (cntV 64 s) (cntS 64 s)):=fun h=>by rw [de,if_neg h]
 generalize cntV 64 s = N at *
 go_wp2
 go_loopw [5,8] (fun v i wr=>∃ k : Nat,∃ xs : List Value,k<=N/\i = .int .i64 k/\RG D wr p (deN (de zA6) k (cntS 64 s)).2/\RS w wr p/\wr.ownsRow w.heap.size 209 3 v k xs/\Hid (0 < k->(deN (de zA6) k (cntS 64 s)).2 ≠ none)/\Hid (zE4 w wr zA6 v xs (deN (de zA6) k (cntS 64 s)).1)) (fun _ i _=>N - (intOf i).toNat)
 case atStart=>exact ⟨0,[],Nat.zero_le _,rfl,r1,s1,World.ownsRow_nil _ _ _ _,(fun h=>absurd h (by omega)),zE4.nil _ _ _ _⟩
 case round =>
  obtain ⟨k,xs,hk,rfl,rk,sk,ok,hnn,hel⟩:=hrel
  by_cases hlt : k < N
  · go_wp2_with fail
    refine (xW9 p _ wr rk).mono ?_
    rintro e w2 ⟨es,rfl,hx,r2,t2⟩
    obtain ⟨y0,y1,y2,rfl⟩:=xE2 es hx.len
    have sk2:=sk.trans t2
    have ok2:=zO7 ok t2 hp0
    have HEL2 : Hid (zE4 w w2 zA6 u5 xs (deN (de zA6) k (cntS 64 s)).1):=hel.out.rs t2 hp0
    have HVL : Hid (∀ q,u5.ownBlock = some q->q < wr.heap.size):=fun q hq=>(ok.lt q hq).2
    have HWR : Hid (w.heap.size<=wr.heap.size):=sk.size
    have HX : Hid (Rep w2 (NB wr w2) zA6 [y0,y1,y2] (de zA6 (deN (de zA6) k (cntS 64 s)).2).1):=hx
    have O1 : Hid (∀ u ∈ (#[y0,y1,y2] : Array Value).toList,u.oneCell' = true):=hx.one
    have HB2 : Hid (Below w2.heap.size w2 (w2.alloc (.cells #[y0,y1,y2] 209))):=(Below.refl _ _).alloc (Nat.le_refl _) _
    clear t2 rk ok sk hx hel
    go_wp2_with (at_builtin; refine zF1 _ rfl (.tmp 10) (.tmp 13) 59 rfl w.heap.size 209 i0 (.agg #[.int .i64 0,.int .i64 0,.int .i64 0]) 3 24 Tryz.underlying59 hi hz0 hz1 hz2 rfl (by decide) _ _ _ rfl (ok2.alloc _) ⟨w2.heap.size,0,none⟩ 1 1 (#[y0,y1,y2] : Array Value).toList rfl rfl (fun j u hj=>zG4 w2 _ _ j u hj) O1.out ?c3 ?c4 ?c5 ?next)
    case c3=>unfold maxLen; omega
    case c4=>omega
    case c5=>have:=sk2.size; rw [World.size_alloc]; omega
    case next =>
     intro v3 w3 ho3 hg3 hw3
     have HEL3 : Hid (zE4 w w3 zA6 v3 (xs ++ [y0,y1,y2]) ((deN (de zA6) k (cntS 64 s)).1 ++ [(de zA6 (deN (de zA6) k (cntS 64 s)).2).1])):=HEL2.out.more HX.out HWR.out HVL.out HB2.out hg3 (by rw [World.size_alloc]; exact hw3)
     have hB3 : Below w.heap.size w2 w3:=((Below.refl _ _).alloc sk2.size _).grown hg3 (by have:=sk2.size; rw [World.size_alloc]; omega) (fun j hj=>(ok2.lt j hj).1)
     have r3 : RG D w3 p (de zA6 (deN (de zA6) k (cntS 64 s)).2).2:=r2.ext hB3 hp0 hD0
     have s3:=sk2.ext hB3
     clear hg3 r2 sk2 ok2 hB3 hw3
     cases hst : (de zA6 (deN (de zA6) k (cntS 64 s)).2).2 with
     | none =>
      have r4:=r3
      rw [hst] at r4
      have HN : Hid (de (.lst zA6) s = ([],none)):=HNO.out (k + 1) (by omega) hst
      clear hst r3
      obtain ⟨q1,q2,q3,q4,q5,q6⟩:=r4
      have r5 : Hid (RG D w3 p none):=⟨q1,q2,q3,q4,q5,q6⟩
      go_wp2
      go_ret
      rw [HN.out]
      exact ⟨none,0,rfl,⟨by simp,fun h=>absurd rfl h⟩,r5.out,s3⟩
     | some l3 =>
      have r4:=r3
      rw [hst] at r4
      have HNN : Hid (0 < k + 1->(deN (de zA6) (k + 1) (cntS 64 s)).2 ≠ none):=fun _ h=>by
       have h' : (de zA6 (deN (de zA6) k (cntS 64 s)).2).2 = none:=h
       rw [hst] at h'; cases h'
      clear hst
      obtain ⟨_,_,_,_,_,_,_,q6,_⟩:=r4
      have R3 : Hid (RG D w3 p (deN (de zA6) (k + 1) (cntS 64 s)).2):=r3
      clear r3
      go_wp2
      exact ⟨⟨k + 1,_,by omega,by go_num,R3.out,s3,ho3,HNN,HEL3⟩,by simp [intOf]; omega⟩
  · have hkN : k = N:=by omega
    subst hkN
    obtain ⟨va,vc,hv,hrl⟩ : ∃ va vc,u5 = Value.slice va k vc/\RepL wr (NB w wr) zA6 va (deN (de zA6) k (cntS 64 s)).1:=by
     have hl:=zG2 (de zA6) k (cntS 64 s)
     have:=zE4.done (e:=209) hel.out (by rw [hl]; exact ok) (by rw [hl]; omega)
     rwa [hl] at this
    subst hv
    have FIN : Hid (RepL wr (NB w wr) zA6 va (de (.lst zA6) s).1/\RG D wr p (de (.lst zA6) s).2/\(de (.lst zA6) s).1.length = k):=by
     by_cases hst : (deN (de zA6) k (cntS 64 s)).2 = none
     · have hk0 : k = 0:=by
         rcases Nat.eq_zero_or_pos k with h0 | h0
         · exact h0
         · exact absurd hst (hnn.out h0)
       have e:=HNO.out k (Nat.le_refl _) hst
       rw [hst] at rk
       refine ⟨?_,?_,?_⟩
       · rw [e]; exact ⟨by simp,fun h=>absurd rfl h⟩
       · rw [e]; exact rk
       · rw [e,hk0]; rfl
     · have e:=HYE.out hst
       refine ⟨?_,?_,?_⟩
       · rw [e]; exact hrl
       · rw [e]; exact rk
       · rw [e]; exact zG2 _ _ _
    clear rk ok hrl hel hnn
    go_wp2
    go_ret
    rw [FIN.out.2.2]
    exact ⟨_,_,rfl,FIN.out.1,FIN.out.2.1,sk⟩
end
end Go.Proofs.YtocoimjhglackaaGreat
