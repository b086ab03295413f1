/- Rby, Know, Vry, Vrs, Rnew, Vz, Vgsn -/
import Derived.Lib.SlBytesConst
import Derived.Test.YtocoimjhglackaaGreatK13
set_option maxHeartbeats 8000000
set_option maxRecDepth 100000
namespace Go.Proofs.YtocoimjhglackaaGreat
section
open Go.RowKit
theorem yI2 (a:Option Addr) (n cap hi':Nat) (h2:hi'<=cap) (w:World) :
    (Instr.slice 22 (.slice a n cap) none (some (.int .i64 (hi':Int))) none).run Tryz.prog w = .ok (.slice a hi' cap) w:=yD6 a n cap hi' _ rfl h2 w
theorem Bs.firstAny {w:World} {a:Option Addr} {l:List UInt8} (h:Bs w a l) (q:Nat) : Bs w a (l.take q):=by
 refine ⟨by have:=h.1; rw [List.length_take]; omega,fun hne=>?_⟩
 obtain ⟨b,off,rfl,hlt,hc⟩:=h.2 (by rintro rfl; simp at hne)
 have h2 : Bs w (some ⟨b,off,none⟩) (l.take q):=Bs.first h q
 exact h2.2 hne
end
section
open Go.RowKit
theorem Own.cap {w:World} {a:Option Addr} {n cap:Nat} {l:List UInt8} (h:Own w (.slice a n cap) l) : n<=cap:=by
 rcases h with ⟨h,_⟩ | ⟨g,c,cur,h,_,hl,_⟩
 · cases h; omega
 · cases h; exact hl
theorem Own.some {w:World} {v:Value} {l:List UInt8} (h:Own w v l) (hl:l ≠ []) : ∃ g cap,v = .slice (some ⟨g,0,none⟩) l.length cap/\l.length<=cap:=by
 rcases h with ⟨_,h⟩ | ⟨g,c,cur,h,_,hc,_⟩
 · exact absurd h hl
 · exact ⟨g,c,h,hc⟩
end
section
open Go.RowKit
theorem xY5 {D:Nat} (p:Nat) (s:Option (List UInt8)) (w:World) (h:RG D w p s) :
    Calls Tryz.prog 145 #[.pointer (some ⟨p,0,none⟩)] w fun e w'=>∃ (a:Option Addr) (c:Nat),e = .returned (.slice a (de .byt s).1.length c)/\(de .byt s).1.length<=c/\RepB w' (NB w w') a (de .byt s).1/\RG D w' p (de .byt s).2/\RS w w' p:=by
 show Calls Tryz.prog 145 #[.pointer (some ⟨p,0,none⟩)] w fun e w'=>∃ (a:Option Addr) (c:Nat),e = .returned (.slice a (bytV s).length c)/\(bytV s).length<=c/\RepB w' (NB w w') a (bytV s)/\RG D w' p (bytT s)/\RS w w' p
 have HB : Hid (bytT s = (cntS 65536 s).bind fun l=>if l.length < cntV 65536 s then none else some (l.drop (cntV 65536 s))):=rfl
 have HV : Hid (bytV s = match cntS 65536 s with | none=>[] | some l=>if l.length < cntV 65536 s then [] else l.take (cntV 65536 s)):=rfl
 go_enter Tryz.func145,Tryz.ntmps145
 go_wp2_with fail
 refine (zZ9 p s _ w (by omega) (by omega) h).mono ?_
 rintro e w1 ⟨rfl,r1,s1,hn⟩
 generalize cntV 65536 s = N at *
 cases hst : cntS 65536 s with
 | none =>
  have hb:=HB.out
  have hv:=HV.out
  rw [hst] at hb r1 hv
  have HB2 : Hid (bytT s = none):=hb
  have HV2 : Hid (bytV s = []):=hv
  have R1 : Hid (RG D w1 p none):=r1
  obtain ⟨h1,hD,f0,f1,c0,c1⟩:=r1
  clear hb hv HB HV hst
  by_cases hN : N = 0
  · subst hN
    have hsl:=yI2 none 0 0 0 (Nat.le_refl _)
    have hsl2:=zL0 none 0 0 0 0 rfl (Nat.le_refl _)
    go_wp2_with fail
    refine (zM2 none 0 0 [] w1 rfl ⟨by simp,fun h=>absurd rfl h⟩).mono ?_
    rintro e w2 ⟨v2,rfl,o2,s2⟩
    have B2:=s2.belowN
    have r2:=R1.out.ext B2 h1 hD
    have e0 : w2.cell? ⟨p,0,none⟩ = some (.slice none 0 0):=r2.2.2.2.2.1
    have e1 : w2.cell? ⟨p,1,none⟩ = some (.bool true):=r2.2.2.2.2.2
    have k0:=r2.2.2.1
    have k1:=r2.2.2.2.1
    have q0:=r2.1
    have q1:=r2.2.1
    obtain ⟨a2,c2,hv2,_⟩:=o2.form
    subst hv2
    have s12 : RS w w2 p:=s1.ext (B2.mono s1.size)
    clear r2 R1 o2 s2
    go_wp2
    go_ret
    rw [HV2.out]
    refine ⟨_,_,rfl,Nat.zero_le _,⟨⟨by simp,fun h=>absurd rfl h⟩,fun h=>absurd rfl h⟩,?_,?_⟩
    · rw [HB2.out]
      exact ⟨by simpa using q0,by simpa using q1,by rw [World.frozen?_setCell]; exact k0,by rw [World.frozen?_setCell]; exact k1,World.cell?_setCell_same w2 _ _ e0,by rw [World.cell?_setCell_other w2 _ _ _ (by simp)]; exact e1⟩
    · exact s12.trans ⟨rfl,rfl,rfl,by simp,fun j _ hp=>Below.heap_setCell w2 ⟨p,0,none⟩ _ j hp⟩
  · have hNp : (0:Int) < (N:Int):=by omega
    go_wp2_with fail
    refine (zF8 p w1 _ _ h1 hD c0 c1 f0 f1).mono ?_
    rintro e w2 ⟨rfl,r2,s2⟩
    go_wp2
    go_ret
    rw [HV2.out]
    exact ⟨none,0,rfl,Nat.zero_le _,⟨⟨by simp,fun h=>absurd rfl h⟩,fun h=>absurd rfl h⟩,by rw [HB2.out]; exact r2,s1.trans s2⟩
 | some l =>
  have hb:=HB.out
  have hv:=HV.out
  rw [hst] at hb r1 hv
  simp only at hv
  have R1:=r1
  obtain ⟨h1,hD,f0,f1,a,cap,c0,c1,hcap,hbs,hne⟩:=r1
  have HNE : Hid _:=hne
  have hll:=hbs.1
  by_cases hlt : l.length < N
  · have HB2 : Hid (bytT s = none):=by show bytT s = _; rw [hb]; simp [hlt]
    have HV2 : Hid (bytV s = []):=by show bytV s = _; rw [hv,if_pos hlt]
    clear hb hv HB HV hst hne
    go_wp2_with fail
    refine (zF8 p w1 _ _ h1 hD c0 c1 f0 f1).mono ?_
    rintro e w2 ⟨rfl,r2,s2⟩
    go_wp2
    go_ret
    rw [HV2.out]
    exact ⟨none,0,rfl,Nat.zero_le _,⟨⟨by simp,fun h=>absurd rfl h⟩,fun h=>absurd rfl h⟩,by rw [HB2.out]; exact r2,s1.trans s2⟩
  · have HB2 : Hid (bytT s = some (l.drop N)):=by show bytT s = _; rw [hb]; simp [hlt]
    have HV2 : Hid (bytV s = l.take N):=by show bytV s = _; rw [hv,if_neg hlt]
    have hNl : N<=l.length:=by omega
    clear hb hv HB HV hst hne
    have hsl:=yI2 a l.length cap N (by omega)
    go_wp2_with fail
    refine (zM2 a N cap (l.take N) w1 (by rw [List.length_take]; omega) (hbs.firstAny N)).mono ?_
    rintro e w2 ⟨v2,rfl,o2,s2⟩
    have B2:=s2.belowN
    have r2:=R1.ext B2 h1 hD
    have hbs2 : Bs w2 a l:=hbs.grow B2
    have e0 : w2.cell? ⟨p,0,none⟩ = some (.slice a l.length cap):=(B2.cell (p:=⟨p,0,none⟩) h1).trans c0
    have k0:=r2.2.2.1
    obtain ⟨a3,HA3,hsl3⟩ : ∃ a3,Hid (a3 = if cap = N then a else a.map (·.add N))/\∀ w,(Instr.slice 22 (.slice a l.length cap) (some (.int .i64 (N:Int))) none none).run Tryz.prog w = .ok (.slice a3 (l.length - N) (cap - N)) w :=
     ⟨_,rfl,zL0 a l.length cap N _ rfl hNl⟩
    have hnx:=RG.next r2 e0 hcap hbs2 HNE.out hNl (.slice a3 (l.length - N) (cap - N)) (by rw [HA3.out])
    have HX : Hid _:=hnx
    have s12 : RS w w2 p:=s1.ext (B2.mono s1.size)
    obtain ⟨a2,c2,hv2,hbsn⟩:=o2.form
    subst hv2
    have hNN : (l.take N).length = N:=by rw [List.length_take]; omega
    have BYT : Hid ((l.take N).length<=c2/\RepB w2 (NB w w2) a2 (l.take N)):=by
     refine ⟨o2.cap,hbsn (by omega),fun hne x hx=>?_⟩
     have hob : (Value.slice a2 (l.take N).length c2).ownBlock = some x.block:=by rw [hx]; rfl
     refine ⟨?_,o2.lt _ hob,o2.uf _ hob⟩
     rcases s2.row with e | ⟨q,e,hq⟩
     · rw [hob] at e; cases e
     · rw [hob] at e; cases e; exact Nat.le_trans s1.size hq
    rw [hNN] at BYT
    have HPN : Hid (p < w.heap.size\/True):=.inr trivial
    have HNP : Hid (p < w.heap.size):=h.1
    clear hnx r2 o2 s2 hsl R1 hbsn
    rw [hNN]
    go_wp2
    go_ret
    rw [HV2.out,hNN]
    refine ⟨_,_,rfl,BYT.out.1,?_,by rw [HB2.out]; exact HX.out.1,s12.trans HX.out.2⟩
    exact BYT.out.2.keptN (by simp) (fun b h1 h2=>Below.heap_setCell w2 ⟨p,0,none⟩ _ b (by have:=HNP.out; show b ≠ p; omega)) (Nat.le_refl _)
end
section
open Go.RowKit
theorem yQ5 (s:Option (List UInt8)) : de zA2 s = ((numV s,numV (numS s),(de zB4 (numS (numS s))).1,(de .byt ((de zB4 (numS (numS s))).2)).1),((de .byt ((de zB4 (numS (numS s))).2)).2)):=(de_c (de_n s) (de_c (de_n (numS s)) (de_c (de_e zB4 (numS (numS s))) (de_e .byt ((de zB4 (numS (numS s))).2)))))
theorem yW2 {D:Nat} (p:Nat) (s:Option (List UInt8)) (w:World) (h:RG D w p s) :
    Calls Tryz.prog 116 #[.pointer (some ⟨p,0,none⟩)] w fun e w'=>∃ cs : List Value,e = .returned (.agg cs.toArray)/\Rep w' (NB w w') zA2 cs (de zA2 s).1/\RG D w' p (de zA2 s).2/\RS w w' p:=by
 rw [yQ5]
 have hmf : ∀ (fn:Fn) (first cap:Array Value) (w:World),(Instr.makeFunc fn first cap).run Tryz.prog w = .ok (.func fn first cap) w:=fun _ _ _ _=>rfl
 have hB0 : Below w.heap.size w (w.alloc (.cells #[.int .i64 0,.int .i64 0,.slice none 0 0,.slice none 0 0,.slice none 0 0] 36)):=(Below.refl _ _).alloc (Nat.le_refl _) _
 have h0 : RG D (w.alloc (.cells #[.int .i64 0,.int .i64 0,.slice none 0 0,.slice none 0 0,.slice none 0 0] 36)) p s:=h.ext hB0 h.1 h.2.1
 have s0 : RS w (w.alloc (.cells #[.int .i64 0,.int .i64 0,.slice none 0 0,.slice none 0 0,.slice none 0 0] 36)) p:=(RS.refl _ _).alloc _
 have g0 : Hid ((w.alloc (.cells #[.int .i64 0,.int .i64 0,.slice none 0 0,.slice none 0 0,.slice none 0 0] 36)).heap[w.heap.size]? = some (.cells #[.int .i64 0,.int .i64 0,.slice none 0 0,.slice none 0 0,.slice none 0 0] 36 (0,0))):=heap_alloc_new w _
 have z0 : w.heap.size < (w.alloc (.cells #[.int .i64 0,.int .i64 0,.slice none 0 0,.slice none 0 0,.slice none 0 0] 36)).heap.size:=by rw [World.size_alloc]; omega
 have hpq : Hid (p ≠ w.heap.size):=by have:=h.1; show p ≠ _; omega
 have hDq : Hid (p < w.heap.size/\D<=w.heap.size):=⟨h.1,h.2.1⟩
 clear h hB0
 go_enter Tryz.func116,Tryz.ntmps116
 go_wp2_with fail
 refine (zF2 p s _ h0).mono ?_
 rintro e w1 ⟨rfl,h1,t1⟩
 have s1:=s0.trans t1
 have g1 : Hid (w1.heap[w.heap.size]? = some (.cells #[.int .i64 0,.int .i64 0,.slice none 0 0,.slice none 0 0,.slice none 0 0] 36 (0,0))):=(t1.block _ z0 hpq.out.symm).trans g0.out
 have z1 : w.heap.size < w1.heap.size:=Nat.lt_of_lt_of_le z0 t1.size
 clear h0 t1 s0 g0 z0
 go_wp2_with fail
 refine (zF2 p (numS s) _ h1).mono ?_
 rintro e w2 ⟨rfl,h2,t2⟩
 have s2:=s1.trans t2
 have g2 : Hid (w2.heap[w.heap.size]? = some (.cells #[.int .i64 0,.int .i64 0,.slice none 0 0,.slice none 0 0,.slice none 0 0] 36 (0,0))):=(t2.block _ z1 hpq.out.symm).trans g1.out
 have z2 : w.heap.size < w2.heap.size:=Nat.lt_of_lt_of_le z1 t2.size
 clear h1 t2 s1 g1 z1
 go_wp2_with fail
 refine (xR6 p (numS (numS s)) _ h2).mono ?_
 rintro e w3 ⟨cs2,rfl,q2,h3,t3⟩
 obtain ⟨y2_0,y2_1,rfl⟩:=zF3 cs2 q2.len
 have Q2:=zB9 (q2.keptN (lo':=w.heap.size + 1) (Nat.le_refl _) (fun _ _ _=>rfl) z2)
 clear q2
 have s3:=s2.trans t3
 have g3 : Hid (w3.heap[w.heap.size]? = some (.cells #[.int .i64 0,.int .i64 0,.slice none 0 0,.slice none 0 0,.slice none 0 0] 36 (0,0))):=(t3.block _ z2 hpq.out.symm).trans g2.out
 have z3 : w.heap.size < w3.heap.size:=Nat.lt_of_lt_of_le z2 t3.size
 clear h2 t3 s2 g2 z2
 go_wp2_with fail
 refine (xY5 p ((de zB4 (numS (numS s))).2) _ h3).mono ?_
 rintro e w4 ⟨a3,c3,rfl,k3,q3,h4,t4⟩
 replace Q2:=zB9 (Q2.out.keptN (lo':=w.heap.size + 1) t4.size (fun b h1 h2=>t4.block b h2 (by have:=hDq.out.1; omega)) (Nat.le_refl _))
 have Q3:=zB9 (q3.keptN (lo':=w.heap.size + 1) (Nat.le_refl _) (fun _ _ _=>rfl) z3)
 clear q3
 have s4:=s3.trans t4
 have g4 : Hid (w4.heap[w.heap.size]? = some (.cells #[.int .i64 0,.int .i64 0,.slice none 0 0,.slice none 0 0,.slice none 0 0] 36 (0,0))):=(t4.block _ z3 hpq.out.symm).trans g3.out
 have z4 : w.heap.size < w4.heap.size:=Nat.lt_of_lt_of_le z3 t4.size
 clear h3 t4 s3 g3 z3
 have I0 : Hid ((Tryz.prog.info? 36).map (·.size) = some (#[.int .i64 (numV s),.int .i64 (numV (numS s)),y2_0,y2_1,.slice a3 (de .byt ((de zB4 (numS (numS s))).2)).1.length c3] : Array Value).size):=by show _ = _; kernel_rfl
 have REP : Hid (Rep w4 (NBr (w.heap.size + 1) w4) zA2 [.int .i64 (numV s),.int .i64 (numV (numS s)),y2_0,y2_1,.slice a3 (de .byt ((de zB4 (numS (numS s))).2)).1.length c3] (numV s,numV (numS s),(de zB4 (numS (numS s))).1,(de .byt ((de zB4 (numS (numS s))).2)).1)):=by
  exact zP9 (numV s) (numV (numS s)) y2_0 y2_1 ((de zB4 (numS (numS s))).1) a3 c3 ((de .byt ((de zB4 (numS (numS s))).2)).1) Q2.out ⟨k3,Q3.out⟩
 have O0 : Hid ((#[.int .i64 (numV s),.int .i64 (numV (numS s)),y2_0,y2_1,.slice a3 (de .byt ((de zB4 (numS (numS s))).2)).1.length c3] : Array Value).all (·.oneCell') = true):=REP.out.all
 go_wp2_with (refine wpList_store_row rfl 36 (.tmp 2) (.tmp 11) rfl w.heap.size #[.int .i64 (numV s),.int .i64 (numV (numS s)),y2_0,y2_1,.slice a3 (de .byt ((de zB4 (numS (numS s))).2)).1.length c3] rfl rfl 36 #[.int .i64 0,.int .i64 0,.slice none 0 0,.slice none 0 0,.slice none 0 0] g4.out I0.out rfl O0.out ?_)
 refine bodyPost_ret (v:=.agg #[.int .i64 (numV s),.int .i64 (numV (numS s)),y2_0,y2_1,.slice a3 (de .byt ((de zB4 (numS (numS s))).2)).1.length c3]) ?_ rfl ⟨[.int .i64 (numV s),.int .i64 (numV (numS s)),y2_0,y2_1,.slice a3 (de .byt ((de zB4 (numS (numS s))).2)).1.length c3],rfl,?_,?_,?_⟩
 · refine results_cell_row Tryz.results116 _ _ w.heap.size 36 _ (0,0) _ ?_ (setRow_heap w4 w.heap.size _ _ 36 _ g4.out) Tryz.underlying36 rfl I0.out
   rfl
 · exact REP.out.keptN (by simp [World.setRow]) (fun b h1 h2=>setRow_other _ _ _ _ (by omega)) (Nat.le_succ _)
 · exact h4.ext ⟨rfl,rfl,rfl,by simp [World.setRow],fun k hk=>setRow_other _ _ _ _ (by omega)⟩ hDq.out.1 hDq.out.2
 · exact s4.setRow (Nat.le_refl _) _
end
section
open Go.RowKit
theorem xP5 (w:World) (a:Option Addr) (cap:Nat) (l:List UInt8) (n D:Nat) (hn:n = w.heap.size) (hD:D<=w.heap.size) (hc:l.length<=cap) (h:Bs w a l) (hb:∀ y,a = some y->y.block < D) :
    RG D (w.alloc (.cells #[.slice a l.length cap,.bool false] 171)) n (some l):=by
 subst hn
 refine ⟨by simp,by simp; omega,World.frozen?_alloc_at _ _ _ _ rfl,World.frozen?_alloc_at _ _ _ _ rfl,a,cap,?_,?_,hc,h.alloc _,fun x hx=>?_⟩
 · rw [World.cell?_alloc_at _ _ _ _ rfl]; rfl
 · rw [World.cell?_alloc_at _ _ _ _ rfl]; rfl
 · have:=hb x hx; omega
end
section
open Go.RowKit
def yL9 : Vl zA9:=(0,0)
theorem kB1 (w:World) (S:Nat->Prop) : Rep w S zA9 [.int .i64 0,.int .i64 0] yL9:=xQ1 0 0
def zQ4 : Vl zB4:=([],[])
theorem yO1 (w:World) (S:Nat->Prop) : Rep w S zB4 [.slice none 0 0,.slice none 0 0] zQ4:=xD9 none 0 [] none 0 [] ⟨by simp,fun h=>absurd rfl h⟩ ⟨by simp,fun h=>absurd rfl h⟩
def kG1 : Vl zA7:=(0,0,0,0,0,0,0,yL9,false,0)
def kF4 : Vl zA4:=(0,0)
def kG0 : Vl zA6:=(0,yL9)
def xH5 : Vl zC4:=(0,0,0,0,[],0,false)
theorem kB2 (w:World) (S:Nat->Prop) : Rep w S zC4 [.int .i64 0,.int .i64 0,.int .i64 0,.int .i64 0,.slice none 0 0,.int .i64 0,.bool false] xH5:=xQ2 0 0 0 0 none 0 [] 0 false ⟨by simp,fun h=>absurd rfl h⟩
def yR1 : Vl zB3:=(0,yL9,false,false,0,0,0)
theorem xU3 (w:World) (S:Nat->Prop) : Rep w S zB3 [.int .i64 0,.int .i64 0,.int .i64 0,.bool false,.bool false,.int .i64 0,.int .i64 0,.int .i64 0] yR1:=xD8 0 (.int .i64 0) (.int .i64 0) yL9 false false 0 0 0 (kB1 w S)
def yR0 : Vl zC5:=(0,0,0,[],[],false)
theorem xU2 (w:World) (S:Nat->Prop) : Rep w S zC5 [.int .i64 0,.int .i64 0,.int .i64 0,.slice none 0 0,.slice none 0 0,.bool false] yR0:=xD7 0 0 0 none 0 [] none 0 [] false ⟨by simp,fun h=>absurd rfl h⟩ ⟨by simp,fun h=>absurd rfl h⟩
def yL8 : Vl yH0:=(0,0,[])
def yM0 : Vl zD4:=(0,0,0,xH5,yR1,[],yR0,zQ4)
theorem xP4 (w:World) (S:Nat->Prop) : Rep w S zD4 [.int .i64 0,.int .i64 0,.int .i64 0,.int .i64 0,.int .i64 0,.int .i64 0,.int .i64 0,.slice none 0 0,.int .i64 0,.bool false,.int .i64 0,.int .i64 0,.int .i64 0,.bool false,.bool false,.int .i64 0,.int .i64 0,.int .i64 0,.slice none 0 0,.int .i64 0,.int .i64 0,.int .i64 0,.slice none 0 0,.slice none 0 0,.bool false,.slice none 0 0,.slice none 0 0] yM0:=xQ3 0 0 0 (.int .i64 0) (.int .i64 0) (.int .i64 0) (.int .i64 0) (.slice none 0 0) (.int .i64 0) (.bool false) xH5 (.int .i64 0) (.int .i64 0) (.int .i64 0) (.bool false) (.bool false) (.int .i64 0) (.int .i64 0) (.int .i64 0) yR1 none 0 [] (.int .i64 0) (.int .i64 0) (.int .i64 0) (.slice none 0 0) (.slice none 0 0) (.bool false) yR0 (.slice none 0 0) (.slice none 0 0) zQ4 (kB2 w S) (xU3 w S) ⟨by simp,fun h=>absurd rfl h⟩ (xU2 w S) (yO1 w S)
def zW2 : Vl zA8:=(0,0,yM0)
theorem xJ6 (w:World) (S:Nat->Prop) : Rep w S zA8 [.int .i64 0,.int .i64 0,.int .i64 0,.int .i64 0,.int .i64 0,.int .i64 0,.int .i64 0,.int .i64 0,.int .i64 0,.slice none 0 0,.int .i64 0,.bool false,.int .i64 0,.int .i64 0,.int .i64 0,.bool false,.bool false,.int .i64 0,.int .i64 0,.int .i64 0,.slice none 0 0,.int .i64 0,.int .i64 0,.int .i64 0,.slice none 0 0,.slice none 0 0,.bool false,.slice none 0 0,.slice none 0 0] zW2:=yT7 0 0 (.int .i64 0) (.int .i64 0) (.int .i64 0) (.int .i64 0) (.int .i64 0) (.int .i64 0) (.int .i64 0) (.slice none 0 0) (.int .i64 0) (.bool false) (.int .i64 0) (.int .i64 0) (.int .i64 0) (.bool false) (.bool false) (.int .i64 0) (.int .i64 0) (.int .i64 0) (.slice none 0 0) (.int .i64 0) (.int .i64 0) (.int .i64 0) (.slice none 0 0) (.slice none 0 0) (.bool false) (.slice none 0 0) (.slice none 0 0) yM0 (xP4 w S)
def kJ2 : Vl xS4:=(0,0,0,0)
def kF5 : Vl yV6:=(0,0,0,0)
def kJ1 : Vl xS3:=(0,0,yL8)
def kF9 : Vl xZ9:=(0,0,[],[],[],[],[],[],[])
def zH0 : Vl zA2:=(0,0,zQ4,[])
theorem yO0 (w:World) (S:Nat->Prop) : Rep w S zA2 [.int .i64 0,.int .i64 0,.slice none 0 0,.slice none 0 0,.slice none 0 0] zH0:=zP9 0 0 (.slice none 0 0) (.slice none 0 0) zQ4 none 0 [] (yO1 w S) ⟨Nat.le_refl _,⟨by simp,fun h=>absurd rfl h⟩,fun h=>absurd rfl h⟩
def kJ7 : Vl kJ5:=(0,0,0,0,0,0,0,false,0,0,0,0,[],zQ4,[],yM0,yL8)
end
section
open Go.RowKit
def zB2 : Array Value:=#[.int .i64 0,.int .i64 0,.slice none 0 0,.slice none 0 0,.slice none 0 0]
theorem zE2 : (Tryz.prog.info? 36).map (·.size) = some zB2.size:=by kernel_rfl
theorem zS4 : zB2.all (·.oneCell') = true:=by kernel_rfl
theorem zM8 (w:World) (S:Nat->Prop) : Rep w S zA2 zB2.toList zH0:=yO0 w S
theorem zW4 {D:Nat} (p:Nat) (s:Option (List UInt8)) (w:World) (h:RG D w p s) :
    Calls Tryz.prog 115 #[.pointer (some ⟨p,0,none⟩),.func (.func 116) #[.pointer (some ⟨p,0,none⟩)] #[]] w fun e w'=>∃ (cs:List Value) (v:Vl zA2),e = .returned (.tuple #[.agg cs.toArray,.bool (decide ((de zA2 s).2 = some []))])/\Rep w' (NB w w') zA2 cs v/\((de zA2 s).2 = some []->v = (de zA2 s).1)/\RS w w' p:=by
 have hB0 : Below w.heap.size w (w.alloc (.cells zB2 36)):=(Below.refl _ _).alloc (Nat.le_refl _) _
 have h0 : RG D (w.alloc (.cells zB2 36)) p s:=h.ext hB0 h.1 h.2.1
 have g0 : Hid ((w.alloc (.cells zB2 36)).heap[w.heap.size]? = some (.cells zB2 36 (0,0))):=heap_alloc_new w _
 have z0 : Hid (w.heap.size < (w.alloc (.cells zB2 36)).heap.size):=by show _ < _; rw [World.size_alloc]; omega
 have s0 : RS w (w.alloc (.cells zB2 36)) p:=(RS.refl _ _).alloc _
 have hpq : Hid (p ≠ w.heap.size):=by have:=h.1; show p ≠ _; omega
 have hp0:=h.1
 have hD0:=h.2.1
 clear h hB0
 go_enter Tryz.func115,Tryz.ntmps115
 go_wp2_with fail
 refine (yW2 p s _ h0).mono ?_
 rintro e w1 ⟨cl,he,hrep,h1,t1⟩
 have hcs : cl.toArray.size = zB2.size:=by rw [List.size_toArray,hrep.len]; kernel_rfl
 have hco : cl.toArray.all (·.oneCell') = true:=hrep.all
 have hrep2 : Rep w1 (NBr (w.heap.size + 1) w1) zA2 cl (de zA2 s).1:=hrep.keptN (Nat.le_refl _) (fun _ _ _=>rfl) z0.out
 have HRE : Hid (Rep w1 (NBr (w.heap.size + 1) w1) zA2 cl (de zA2 s).1):=hrep2
 obtain ⟨cs,hcl⟩ : ∃ cs,Hid (cl.toArray = cs):=⟨_,rfl⟩
 rw [hcl.out] at he hcs hco
 subst he
 have s1:=s0.trans t1
 have g1 : Hid (w1.heap[w.heap.size]? = some (.cells zB2 36 (0,0))):=(t1.block _ z0.out hpq.out.symm).trans g0.out
 have z1 : w.heap.size < w1.heap.size:=Nat.lt_of_lt_of_le z0.out t1.size
 have HCS : Hid (cs.size = zB2.size):=hcs
 have HCO : Hid (cs.all (·.oneCell') = true):=hco
 have HCI : Hid ((Tryz.prog.info? 36).map (·.size) = some cs.size):=by show _ = _; rw [hcs]; exact zE2
 clear g0 z0 s0 t1 h0 hcs hco hrep hrep2
 go_wp2_with (refine zA5 rfl 36 (.tmp 6) (.tmp 9) rfl w1.heap.size cs rfl rfl 36 zB2 (heap_alloc_new w1 (.cells zB2 36)) HCI.out HCS.out.symm HCO.out ?next)
 case next =>
  intro w2 hw2h
  have hw2:=hw2h.out
  have hB2 : Below w1.heap.size w1 w2:=by rw [hw2]; exact ((Below.refl _ _).alloc (Nat.le_refl _) _).trans ⟨rfl,rfl,rfl,by simp [World.setRow],fun k hk=>setRow_other _ _ _ _ (by omega)⟩
  have HRE2 : Hid (Rep w2 (NBr (w.heap.size + 1) w2) zA2 cl (de zA2 s).1):=HRE.out.keptN hB2.size (fun b h1 h2=>hB2.block b h2) (Nat.le_refl _)
  have h2 : RG D w2 p ((de zA2 s).2):=h1.ext hB2 h1.1 h1.2.1
  have s2 : RS w w2 p:=s1.ext (hB2.mono s1.size)
  have g2 : Hid (w2.heap[w.heap.size]? = some (.cells zB2 36 (0,0))):=(hB2.block _ z1).trans g1.out
  have k2 : Hid (w2.heap[w1.heap.size]? = some (.cells cs 36 (0,0))):=by
   show _ = _
   rw [hw2]; exact setRow_heap _ _ _ _ 36 _ (heap_alloc_new w1 _)
  have z2 : w.heap.size < w2.heap.size:=Nat.lt_of_lt_of_le z1 hB2.size
  clear hw2 hw2h g1 h1 s1 hB2 HRE
  by_cases hfin : (de zA2 s).2 = some []
  · have h3:=h2
    rw [hfin] at h3
    obtain ⟨_,_,_,_,a,cap,c0,c1,_,_,_⟩:=h3
    have HF : Hid (decide ((de zA2 s).2 = some []) = true):=by show _ = _; simp [hfin]
    rw [List.length_nil] at c0
    clear hfin h2
    go_wp2_with (first
     | (refine wpList_load_row rfl 36 (.tmp 6) rfl w1.heap.size rfl 36 cs (0,0) _ k2.out Tryz.underlying36 rfl HCI.out ?_)
     | (refine zA5 rfl 36 (.tmp 4) (.tmp 23) rfl w.heap.size cs rfl rfl 36 zB2 g2.out HCI.out HCS.out.symm HCO.out ?next2))
    case next2 =>
     intro w3 hw3h
     have hw3:=hw3h.out
     have s3 : RS w w3 p:=by rw [hw3]; exact s2.setRow (Nat.le_refl _) _
     have HRE3 : Hid (Rep w3 (NB w w3) zA2 cl (de zA2 s).1):=by
      rw [hw3]
      exact HRE2.out.keptN (by simp [World.setRow]) (fun b h1 h2=>setRow_other _ _ _ _ (by omega)) (Nat.le_succ _)
     have g3 : Hid (w3.heap[w.heap.size]? = some (.cells cs 36 (0,0))):=by
      show _ = _
      rw [hw3]; exact setRow_heap _ _ _ _ 36 _ g2.out
     clear hw3 hw3h
     go_wp2
     refine bodyPost_ret (v:=.tuple #[.agg cs,.bool true]) ?_ rfl ⟨cl,_,by rw [HF.out,hcl.out],HRE3.out,fun _=>rfl,s3⟩
     simp [results,Tryz.results115,asAddr,run_loadVar_row w3 w.heap.size 36 36 cs (0,0) _ g3.out Tryz.underlying36 rfl HCI.out]
  · have HF : Hid (decide ((de zA2 s).2 = some []) = false):=by show _ = _; simp [hfin]
    obtain ⟨va,vn,vc,vb,c0,c1,hcase⟩ : ∃ va vn vc vb,w2.cell? ⟨p,0,none⟩ = some (.slice va vn vc)/\w2.cell? ⟨p,1,none⟩ = some (.bool vb)/\(vb = true\/(vb = false/\0 < vn/\vn<=211106232532992)):=by
     cases hst : (de zA2 s).2 with
     | none=>rw [hst] at h2; exact ⟨none,0,0,true,h2.2.2.2.2.1,h2.2.2.2.2.2,.inl rfl⟩
     | some l =>
      rw [hst] at h2
      obtain ⟨_,_,_,_,a,cap,c0,c1,_,hbs,_⟩:=h2
      refine ⟨a,l.length,cap,false,c0,c1,.inr ⟨rfl,?_,hbs.1⟩⟩
      rcases l with _ | ⟨y,r⟩
      · exact absurd hst hfin
      · simp
    clear hfin h2
    rcases hcase with rfl | ⟨rfl,hvn,hvm⟩
    · go_wp2_with (first
        | (refine wpList_load_row rfl 36 (.tmp 7) rfl w2.heap.size rfl 36 zB2 (0,0) _ (heap_alloc_new w2 (.cells zB2 36)) Tryz.underlying36 rfl zE2 ?_)
        | (refine zA5 rfl 36 (.tmp 4) (.tmp 22) rfl w.heap.size zB2 rfl rfl 36 zB2 ((Below.heap_alloc w2 (.cells zB2 36) _ z2).trans g2.out) zE2 rfl zS4 ?next2))
      case next2 =>
       intro w3 hw3h
       have hw3:=hw3h.out
       have s3 : RS w w3 p:=by rw [hw3]; exact (s2.alloc _).setRow (Nat.le_refl _) _
       have g3 : Hid (w3.heap[w.heap.size]? = some (.cells zB2 36 (0,0))):=by
        show _ = _
        rw [hw3]; exact setRow_heap _ _ _ _ 36 _ ((Below.heap_alloc w2 _ _ z2).trans g2.out)
       clear hw3 hw3h
       go_wp2
       refine bodyPost_ret (v:=.tuple #[.agg zB2,.bool false]) ?_ rfl ⟨zB2.toList,zH0,by rw [HF.out],zM8 _ _,fun h=>absurd h (of_decide_eq_false HF.out),s3⟩
       simp [results,Tryz.results115,asAddr,run_loadVar_row w3 w.heap.size 36 36 zB2 (0,0) _ g3.out Tryz.underlying36 rfl zE2]
    · go_wp2_with (first
        | (refine wpList_load_row rfl 36 (.tmp 7) rfl w2.heap.size rfl 36 zB2 (0,0) _ (heap_alloc_new w2 (.cells zB2 36)) Tryz.underlying36 rfl zE2 ?_)
        | (refine zA5 rfl 36 (.tmp 4) (.tmp 22) rfl w.heap.size zB2 rfl rfl 36 zB2 ((Below.heap_alloc w2 (.cells zB2 36) _ z2).trans g2.out) zE2 rfl zS4 ?next2))
      case next2 =>
       intro w3 hw3h
       have hw3:=hw3h.out
       have s3 : RS w w3 p:=by rw [hw3]; exact (s2.alloc _).setRow (Nat.le_refl _) _
       have g3 : Hid (w3.heap[w.heap.size]? = some (.cells zB2 36 (0,0))):=by
        show _ = _
        rw [hw3]; exact setRow_heap _ _ _ _ 36 _ ((Below.heap_alloc w2 _ _ z2).trans g2.out)
       clear hw3 hw3h
       go_wp2
       refine bodyPost_ret (v:=.tuple #[.agg zB2,.bool false]) ?_ rfl ⟨zB2.toList,zH0,by rw [HF.out],zM8 _ _,fun h=>absurd h (of_decide_eq_false HF.out),s3⟩
       simp [results,Tryz.results115,asAddr,run_loadVar_row w3 w.heap.size 36 36 zB2 (0,0) _ g3.out Tryz.underlying36 rfl zE2]
theorem zL8 (a:Option Addr) (n cap:Nat) (l:List UInt8) (w:World) (hn:n = l.length) (hcap:n<=cap) (hbs:Bs w a l) (hbl:∀ y,a = some y->y.block < w.heap.size) :
    Calls Tryz.prog 82 #[.slice a n cap] w fun e w'=>∃ (cs:List Value) (v:Vl zA2),e = .returned (.tuple #[.agg cs.toArray,.bool (decide ((de zA2 (some l)).2 = some []))])/\Rep w' (NB w w') zA2 cs v/\((de zA2 (some l)).2 = some []->v = (de zA2 (some l)).1)/\Below w.heap.size w w':=by
 have hmf : ∀ (fn:Fn) (first cap:Array Value) (w:World),(Instr.makeFunc fn first cap).run Tryz.prog w = .ok (.func fn first cap) w:=fun _ _ _ _=>rfl
 subst hn
 have g0 : Hid ((w.alloc (.cells zB2 36)).heap[w.heap.size]? = some (.cells zB2 36 (0,0))):=heap_alloc_new w _
 have h0 : RG w.heap.size ((w.alloc (.cells zB2 36)).alloc (.cells #[.slice a l.length cap,.bool false] 171)) (w.heap.size + 1) (some l):=xP5 _ a cap l _ _ (by rw [World.size_alloc]) (by rw [World.size_alloc]; omega) hcap (hbs.alloc _) hbl
 clear hbs hbl
 go_enter Tryz.func82,Tryz.ntmps82
 go_wp2_with fail
 refine (zW4 (w.heap.size + 1) (some l) _ h0).mono ?_
 rintro e w1 ⟨cl,vv,he,hrep,hval,s1⟩
 have hcs : cl.toArray.size = zB2.size:=by rw [List.size_toArray,hrep.len]; kernel_rfl
 have hco : cl.toArray.all (·.oneCell') = true:=hrep.all
 have HRE : Hid (Rep w1 (NBr (w.heap.size + 1) w1) zA2 cl vv):=hrep.keptN (Nat.le_refl _) (fun _ _ _=>rfl) (by rw [World.size_alloc,World.size_alloc]; omega)
 have HVAL : Hid _:=hval
 obtain ⟨cs,hcl⟩ : ∃ cs,Hid (cl.toArray = cs):=⟨_,rfl⟩
 rw [hcl.out] at he hcs hco
 subst he
 have hB : Below w.heap.size w w1 :=
  Below.trans (((Below.refl _ _).alloc (Nat.le_refl _) (.cells zB2 36)).alloc (by rw [World.size_alloc]; omega) _) ⟨s1.os,s1.tape,s1.output,s1.size,fun k hk=>s1.block k (by simp; omega) (by omega)⟩
 have g1 : Hid (w1.heap[w.heap.size]? = some (.cells zB2 36 (0,0))):=by
  show _ = _
  rw [s1.block _ (by simp; omega) (by omega),Below.heap_alloc _ _ _ (by rw [World.size_alloc]; omega)]; exact g0.out
 have HCS : Hid (cs.size = zB2.size):=hcs
 have HCO : Hid (cs.all (·.oneCell') = true):=hco
 have HCI : Hid ((Tryz.prog.info? 36).map (·.size) = some cs.size):=by show _ = _; rw [hcs]; exact zE2
 clear s1 g0 h0 hcs hco hrep hval
 obtain ⟨okb,hokb⟩ : ∃ okb,Hid (decide ((de zA2 (some l)).2 = some []) = okb):=⟨_,rfl⟩
 rw [hokb.out]
 go_wp2_with (refine zA5 rfl 36 (.tmp 2) (.tmp 12) rfl w.heap.size cs rfl rfl 36 _ g1.out HCI.out HCS.out.symm HCO.out ?next)
 case next =>
  intro w2 hw2h
  have hw2:=hw2h.out
  have g2 : Hid (w2.heap[w.heap.size]? = some (.cells cs 36 (0,0))):=by
   show _ = _
   rw [hw2]; exact setRow_heap _ _ _ _ 36 _ g1.out
  have hB2 : Below w.heap.size w w2:=by
   rw [hw2]; exact hB.trans ⟨rfl,rfl,rfl,by simp [World.setRow],fun k hk=>setRow_other _ _ _ _ (by omega)⟩
  have HRE3 : Hid (Rep w2 (NB w w2) zA2 cl vv):=by
   rw [hw2]
   exact HRE.out.keptN (by simp [World.setRow]) (fun b h1 h2=>setRow_other _ _ _ _ (by omega)) (Nat.le_succ _)
  clear hw2 hw2h
  go_wp2
  refine bodyPost_ret (v:=.tuple #[.agg cs,.bool okb]) ?_ rfl ⟨cl,vv,by rw [hokb.out,hcl.out],HRE3.out,HVAL.out,hB2⟩
  simp [results,Tryz.results82,asAddr,run_loadVar_row w2 w.heap.size 36 36 cs (0,0) _ g2.out Tryz.underlying36 rfl HCI.out]
end
end Go.Proofs.YtocoimjhglackaaGreat
