/- Wfh -/
import Derived.Test.YtocoimjhglackaaGreatK24
set_option maxHeartbeats 8000000
set_option maxRecDepth 100000
namespace Go.Proofs.YtocoimjhglackaaGreat
section
open Go.RowKit Go.Maps
theorem RowB.xs {w:World} {S:Nat->Prop} {v:Value} {bs:List (List UInt8)} (h:RowB w S v bs) (hl:bs.length<=2199023255552) : ∃ a cap xs,v = .slice a bs.length cap/\bs.length<=cap/\cap<=maxLen/\xs.length = bs.length/\VsR w a xs/\(bs ≠ []->∀ y,a = some y->S y.block)/\∀ (i:Nat) (x:Value) (b:List UInt8),xs[i]? = some x->bs[i]? = some b->BodV w S x b:=by
 obtain ⟨a,cap,h1,h2,h3,h4⟩:=h
 by_cases hne : bs = []
 · subst hne
   exact ⟨a,cap,[],h1,h2,h3,rfl,VsR.nil _ _,fun h=>absurd rfl h,fun i x b hx=>by simp at hx⟩
 · obtain ⟨g,off,rfl,h5,h6,h7⟩:=h4 hne
   have hf : ∀ i : Fin bs.length,∃ x,w.cell? ⟨g,off + i.1,none⟩ = some x/\BodV w S x bs[i.1]:=fun i=>h7 i.1 i.2
   refine ⟨_,cap,List.ofFn (fun i=>Classical.choose (hf i)),h1,h2,h3,by simp,⟨by simpa using hl,fun u hu=>?_,fun _=>⟨g,off,rfl,h5.lt,fun j u hu=>?_⟩⟩,fun _ y hy=>by cases hy; exact h6,fun i x b hx hb=>?_⟩
   · obtain ⟨i,rfl⟩:=List.mem_ofFn.1 hu
     obtain ⟨_,_,e,_⟩:=(Classical.choose_spec (hf i)).2.1.form
     rw [e]; rfl
   · rw [List.getElem?_ofFn] at hu
     split at hu
     · rename_i hj
       cases hu
       exact (Classical.choose_spec (hf ⟨j,hj⟩)).1
     · cases hu
   · rw [List.getElem?_ofFn] at hx
     split at hx
     · rename_i hj
       cases hx
       have:=(Classical.choose_spec (hf ⟨i,hj⟩)).2
       rw [List.getElem?_eq_getElem hj] at hb
       cases hb
       exact this
     · cases hx
theorem yN8 (a:Option Addr) (n cap k:Nat) (xs:List Value) (w:World) (hn:n = xs.length) (hcap:n<=cap) (hk:k<=n) (h:VsR w a xs) :
    ∃ a',(∀ wx : World,(Instr.slice 92 (.slice a n cap) (some (.int .i64 (k:Int))) none none).run Tryz.prog wx = .ok (.slice a' (n - k) (cap - k)) wx)/\VsR w a' (xs.drop k)/\(a' = none ↔ a = none):=by
 refine ⟨if cap = k then a else a.map (·.add k),fun wx=>?_,?_,?_⟩
 · rw [run_slice_l (P:=Tryz.prog) wx 92 a n cap Tryz.elem92 .i64 k (by omega) (by omega),Tryz.size22]
   simp only [Result.andThen_ok,sliced,Int.toNat_natCast,Nat.mul_one]
 · refine ⟨by rw [List.length_drop]; have:=h.1; omega,fun u hu=>h.2.1 u (List.mem_of_mem_drop hu),fun hne=>?_⟩
   have hlt : k < xs.length:=by
    refine Classical.byContradiction fun hn=>hne ?_
    rw [List.drop_of_length_le (by omega)]
   obtain ⟨b,off,rfl,hb1,hc⟩:=h.2.2 (by intro e; rw [e] at hlt; simp at hlt)
   rw [if_neg (by omega)]
   refine ⟨b,off + k,by simp [Addr.add_lit],hb1,fun j u hj=>?_⟩
   rw [List.getElem?_drop] at hj
   rw [Nat.add_assoc]
   exact hc (k + j) u hj
 · split
   · exact Iff.rfl
   · cases a <;> simp
theorem xS5 {w:World} {a:Option Addr} {xs:List Value} (h:VsR w a xs) (k:Nat) : VsR w a (xs.take k):=by
 refine ⟨by rw [List.length_take]; have:=h.1; omega,fun u hu=>h.2.1 u (List.mem_of_mem_take hu),fun hne=>?_⟩
 obtain ⟨b,off,e,hb,hc⟩:=h.2.2 (by intro e; rw [e] at hne; simp at hne)
 refine ⟨b,off,e,hb,fun j u hj=>hc j u ?_⟩
 rw [List.getElem?_take] at hj
 split at hj
 · exact hj
 · cases hj
theorem xB6 {w0 w:World} {S:Nat->Prop} {D:Nat} {v:Value} {xs:List Value} {bs:List (List UInt8)} (h:w.ownsRow D 22 1 v xs.length xs) (hl:xs.length = bs.length) (hb:∀ (i:Nat) (x:Value) (b:List UInt8),xs[i]? = some x->bs[i]? = some b->BodV w0 S x b) (hk:∀ k,S k->w.heap[k]? = w0.heap[k]?) : RowB w (fun k=>S k\/D<=k) v bs:=by
 rcases h.2 with ⟨rfl,e⟩ | ⟨g,cap,cur,rfl,h4,h5,h6,h7,h8,h9⟩
 · have hl0 : bs = []:=List.length_eq_zero_iff.1 (by omega)
   exact ⟨none,0,by rw [hl0]; rfl,by rw [hl0]; exact Nat.le_refl _,by unfold maxLen; omega,fun hne=>absurd hl0 hne⟩
 · refine ⟨_,cap,by rw [hl],by omega,h7,fun _=>⟨g,0,rfl,⟨cur,h5⟩,.inr h4,fun i hi=>?_⟩⟩
   obtain ⟨x,hxx⟩ : ∃ x,xs[i]? = some x:=⟨_,List.getElem?_eq_getElem (by omega)⟩
   refine ⟨x,?_,(hb i _ _ hxx (List.getElem?_eq_getElem hi)).kept hk (fun k hk=>.inl hk)⟩
   rw [Nat.zero_add,cell_of_row w g i cur 22 (0,0) h5]
   rw [<- h9,List.getElem?_take,if_pos (by omega)] at hxx
   simpa using hxx
def WiP (w:World) (S:Nat->Prop) (bs:List (List UInt8)) (e:Ending) (w':World) : Prop:=∃ v,e = .returned v/\RowB w' (fun k=>S k\/w.heap.size<=k) v bs/\Below w.heap.size w w'
theorem yR4 (S:Nat->Prop) (p o:Nat) (s:Sd) (first:Int) (a:Option Addr) (n cap:Nat) (os:List (List UInt8)) (w:World) (hs:zE7 w S p o s) (hSS:∀ k,S k->k < w.heap.size) (hpl:p < w.heap.size) (hb:okN s.base) (hbl:s.bs.length<=1099511627776) (ho:RowB w S (.slice a n cap) os) (hol:os.length<=1099511627776) (hf:s.base < first/\first<=s.base + s.bs.length + 1) :
    Calls Tryz.prog 59 #[.pointer (some ⟨p,o,none⟩),.int .i64 first,.slice a n cap] w (WiP w S (s.bs.take (first - s.base - 1).toNat ++ os)):=by
 obtain ⟨sv,ev,_,hrow,c0,c1,c2,c3,c4⟩:=hs.cells
 obtain ⟨ea,ec,xs,rfl,e1,e2,e3,e4,e5,e6⟩:=hrow.xs (by omega)
 obtain ⟨oa,oc,ys,q0,q1,q2,q3,q4,q5,q6⟩:=ho.xs (by omega)
 cases q0
 obtain ⟨kk,hkk⟩ : ∃ kk,kk = (first - s.base - 1).toNat:=⟨_,rfl⟩
 rw [<- hkk]
 have hki : first - s.base - 1 = (kk:Int):=by omega
 have hkl : kk<=s.bs.length:=by omega
 have hsl:=yS3 ea s.bs.length ec kk (first - s.base - 1) hki (by omega)
 obtain ⟨b1,b2⟩:=hb
 obtain ⟨f1,f2⟩:=hf
 have hpair : yA3 (w.drew.alloc (.cells #[.slice ea kk ec,.slice a os.length cap] 92)) w.heap.size (.slice ea kk ec) (.slice a os.length cap):=heap_alloc_new w.drew _
 have hB : Below w.heap.size w (w.drew.alloc (.cells #[.slice ea kk ec,.slice a os.length cap] 92)):=(Below.refl _ w).drew.alloc (Nat.le_refl _) _
 have HCC:=zA0 (yY2 (w.drew.alloc (.cells #[.slice ea kk ec,.slice a os.length cap] 92)) w.heap.size ea a (xs.take kk) ys kk os.length ec cap (by rw [List.length_take]; omega) q3.symm ((xS5 e4 kk).grow hB) (q4.grow hB) hpair (by rw [List.length_take]; omega))
 have HE6:=zA0 e6
 have HQ6:=zA0 q6
 have HSS:=zA0 hSS
 have HLEN : Hid (kk<=xs.length/\ys.length = os.length):=zA0 ⟨by omega,q3⟩
 have HL2:=zA0 e3
 have HB:=zA0 hB
 have HKI:=zA0 hki
 clear hs ho c0 c1 c2 e4 e5 e6 q4 q5 q6 hrow hSS hpair hkk hB e3 q3
 have C4:=zA0 c4
 have C3:=zA0 c3
 have HPL:=zA0 hpl
 clear hpl
 go_enter Tryz.func59,Tryz.ntmps59
 go_wp2
 refine wp_region_held_drew (S:=fun wz : World=>wz.cell? ⟨p,o + 4,none⟩ = some (.slice ea s.bs.length ec)/\wz.cell? ⟨p,o + 3,none⟩ = some (.int .i64 s.base)) (by kernel_rfl) ⟨C4.out,C3.out⟩ (fun hHeld=>?_)
 refine tkH 0 rfl (.pointer (some ⟨p,o,none⟩)) (by kernel_rfl) rfl (fun _ _ _=>id) hHeld (by intro w hSw; (try dsimp only at hSw); go_simp) ?_
 try simp only [aPa,aPc,aPd]
 refine tkH 1 rfl (.pointer (some ⟨p,o,none⟩)) (by kernel_rfl) rfl (fun _ _ _=>id) hHeld (by intro w hSw; (try dsimp only at hSw); go_simp) ?_
 try simp only [aPa,aPc,aPd]
 refine tkH 2 rfl (.pointer (some ⟨p,o + 4,none⟩)) (by kernel_rfl) rfl (fun _ _ _=>id) hHeld (by intro w hSw; (try dsimp only at hSw); go_simp) ?_
 try simp only [aPa,aPc,aPd]
 refine tkH 3 rfl (.slice ea s.bs.length ec) (by kernel_rfl) rfl (fun _ _ _=>id) hHeld (by intro w hSw; obtain ⟨s1,s2⟩:=hSw; go_simp) ?_
 try simp only [aPa,aPc,aPd]
 refine tkH 4 rfl (.int .i64 first) (by kernel_rfl) rfl (fun _ _ _=>id) hHeld (by intro w hSw; (try dsimp only at hSw); go_simp) ?_
 try simp only [aPa,aPc,aPd]
 refine tkH 5 rfl (.pointer (some ⟨p,o,none⟩)) (by kernel_rfl) rfl (fun _ _ _=>id) hHeld (by intro w hSw; (try dsimp only at hSw); go_simp) ?_
 try simp only [aPa,aPc,aPd]
 refine tkH 6 rfl (.pointer (some ⟨p,o,none⟩)) (by kernel_rfl) rfl (fun _ _ _=>id) hHeld (by intro w hSw; (try dsimp only at hSw); go_simp) ?_
 try simp only [aPa,aPc,aPd]
 refine tkH 7 rfl (.pointer (some ⟨p,o + 3,none⟩)) (by kernel_rfl) rfl (fun _ _ _=>id) hHeld (by intro w hSw; (try dsimp only at hSw); go_simp) ?_
 try simp only [aPa,aPc,aPd]
 refine tkH 8 rfl (.int .i64 s.base) (by kernel_rfl) rfl (fun _ _ _=>id) hHeld (by intro w hSw; obtain ⟨s1,s2⟩:=hSw; go_simp) ?_
 try simp only [aPa,aPc,aPd]
 refine tkH 9 rfl (.int .i64 (first - s.base)) (by kernel_rfl) rfl (fun _ _ _=>id) hHeld (by intro w hSw; clear hSw; go_simp; (rw [IntKind.wrap_i64]; omega)) ?_
 try simp only [aPa,aPc,aPd]
 refine tkH 10 rfl (.int .i64 (first - s.base - 1)) (by kernel_rfl) rfl (fun _ _ _=>id) hHeld (by intro w hSw; clear hSw; go_simp; (rw [IntKind.wrap_i64]; omega)) ?_
 try simp only [aPa,aPc,aPd]
 refine tkH 11 rfl (.slice ea kk ec) (by kernel_rfl) rfl (fun _ _ _=>id) hHeld (by intro w hSw; clear hSw; go_simp; intro hh; omega) ?_
 try simp only [aPa,aPc,aPd]
 refine tkH 12 rfl (.slice a os.length cap) (by kernel_rfl) rfl (fun _ _ _=>id) hHeld (by intro w hSw; (try dsimp only at hSw); go_simp) ?_
 try simp only [aPa,aPc,aPd]
 refine tkHc 13 rfl (by kernel_rfl) rfl (fun K hK=>?_)
 go_simp
 have s1 : (fun wz:World=>wz.cell? ⟨p,o + 4,none⟩ = some (.slice ea s.bs.length ec)/\wz.cell? ⟨p,o + 3,none⟩ = some (.int .i64 s.base)) (w.drew.alloc (.cells #[.slice ea kk ec,.slice a os.length cap] 92)):=⟨(HB.out.cell (p:=⟨p,o + 4,none⟩) HPL.out).trans C4.out,(HB.out.cell (p:=⟨p,o + 3,none⟩) HPL.out).trans C3.out⟩
 refine hK.out _ _ s1 (fun hHeld1=>?_)
 clear hK K
 try simp only [aPa,aPb,aPc,aPd]
 refine tkHc 14 rfl (by kernel_rfl) rfl (fun K hK=>?_)
 go_simp
 refine HCC.out.mono ?_
 rintro e w1 ⟨v1,rfl,hr1,hb1⟩
 obtain ⟨va,vn,vc,hvv⟩:=zV7 hr1
 subst hvv
 have HR1:=zA0 hr1
 have HB1:=zA0 hb1
 have s2 : (fun wz:World=>wz.cell? ⟨p,o + 4,none⟩ = some (.slice ea s.bs.length ec)/\wz.cell? ⟨p,o + 3,none⟩ = some (.int .i64 s.base)) w1:=⟨(hb1.cell (p:=⟨p,o + 4,none⟩) (Nat.lt_of_lt_of_le HPL.out HB.out.size)).trans s1.1,(hb1.cell (p:=⟨p,o + 3,none⟩) (Nat.lt_of_lt_of_le HPL.out HB.out.size)).trans s1.2⟩
 clear hr1 hb1
 refine hK.out _ _ s2 (fun hHeld2=>?_)
 clear hK K
 try simp only [aPa,aPb,aPc,aPd]
 refine tkH 15 rfl (.slice va vn vc) (by kernel_rfl) rfl (fun _ _ _=>id) hHeld2 (by intro w hSw; (try dsimp only at hSw); go_simp) ?_
 try simp only [aPa,aPc,aPd]
 refine wpAnyH_done (by kernel_rfl) ?_ _
 go_wp2
 go_ret
 refine ⟨_,rfl,?_,HB.out.trans (HB1.out.mono HB.out.size)⟩
 have hlt : (xs.take kk).length = kk:=by rw [List.length_take]; have:=HLEN.out.1; omega
 have hrn:=xB6 (w0:=w) (S:=S) (bs:=s.bs.take kk ++ os) HR1.out (by rw [List.length_append,List.length_append,hlt,List.length_take,HLEN.out.2]; have:=HLEN.out.1; have:=HL2.out; omega) (fun i x b hx hb=>?_) (fun k hk=>(HB1.out.block k (Nat.lt_of_lt_of_le (HSS.out k hk) HB.out.size)).trans (HB.out.block k (HSS.out k hk)))
 · obtain ⟨a1,c1,g1,g2,g3,g4⟩:=hrn
   refine ⟨a1,c1,g1,g2,g3,fun hne=>?_⟩
   obtain ⟨g,off,q1,q2,q3,q4⟩:=g4 hne
   refine ⟨g,off,q1,q2,q3.imp id (fun h=>Nat.le_trans HB.out.size h),fun i hi=>?_⟩
   obtain ⟨x,q5,q6,q7⟩:=q4 i hi
   exact ⟨x,q5,q6,fun k hk=>(q7 k hk).imp id (fun h=>Nat.le_trans HB.out.size h)⟩
 · by_cases hi : i < kk
   · rw [List.getElem?_append_left (by omega),List.getElem?_take,if_pos hi] at hx
     rw [List.getElem?_append_left (by rw [List.length_take]; have:=HLEN.out.1; have:=HL2.out; omega),List.getElem?_take,if_pos hi] at hb
     exact HE6.out i x b hx hb
   · rw [List.getElem?_append_right (by omega),hlt] at hx
     rw [List.getElem?_append_right (by rw [List.length_take]; omega),List.length_take,Nat.min_eq_left (by have:=HLEN.out.1; have:=HL2.out; omega)] at hb
     exact HQ6.out _ x b hx hb
theorem xH4 (S:Nat->Prop) (p o:Nat) (s:Sd) (idx:Int) (w:World) (hs:zE7 w S p o s) (hSS:∀ k,S k->k < w.heap.size) (hpl:p < w.heap.size) (hb:okN s.base) (hbl:s.bs.length<=1099511627776) (hi:s.base<=idx/\idx<=1099511627776) :
    Calls Tryz.prog 80 #[.pointer (some ⟨p,o,none⟩),.int .i64 idx] w (WiP w S (s.bs.drop (min idx (s.base + s.bs.length) - s.base).toNat)):=by
 obtain ⟨sv,ev,_,hrow,c0,c1,c2,c3,c4⟩:=hs.cells
 obtain ⟨ea,ec,xs,rfl,e1,e2,e3,e4,e5,e6⟩:=hrow.xs (by omega)
 obtain ⟨mm,hmm⟩ : ∃ mm,mm = min idx (s.base + s.bs.length):=⟨_,rfl⟩
 obtain ⟨kk,hkk⟩ : ∃ kk,kk = (mm - s.base).toNat:=⟨_,rfl⟩
 rw [<- hmm,<- hkk]
 have hm1 : s.base<=mm:=by omega
 have hm2 : mm<=s.base + s.bs.length:=by omega
 have hkl : kk<=s.bs.length:=by omega
 have hki : mm - s.base = (kk:Int):=by omega
 obtain ⟨a',ha1,ha2,ha3⟩:=yN8 ea s.bs.length ec kk xs w e3.symm e1 hkl e4
 have hnn : a' = none->xs.drop kk = []:=fun h=>by
  have h0:=ha3.1 h
  refine Classical.byContradiction fun hn=>?_
  obtain ⟨b,off,e,_⟩:=ha2.2.2 hn
  rw [h] at e; cases e
 have HCL : Hid (∀ q2 : Nat,Calls Tryz.prog 111 #[.slice a' (s.bs.length - kk) (ec - kk)] (w.drewN q2) fun e w'=>∃ v,e = .returned v/\w'.ownsRow w.heap.size 22 1 v (xs.drop kk).length (xs.drop kk)/\Below w.heap.size w w'):=zA0 (fun q2=>(yY3 (w.drewN q2) a' (xs.drop kk) (s.bs.length - kk) (ec - kk) (by rw [List.length_drop,e3]) ha2 hnn (by rw [List.length_drop]; omega)).mono (fun e w' ⟨v,h1,h2,h3⟩=>⟨v,h1,h2,⟨h3.os,h3.tape,h3.output,h3.size,h3.block⟩⟩))
 have HS:=zA0 hs
 have HOB:=zA0 hb
 have HBL:=zA0 hbl
 obtain ⟨b1,b2⟩:=hb
 obtain ⟨f1,f2⟩:=hi
 have HE6:=zA0 e6
 have HSS:=zA0 hSS
 have HLEN : Hid (kk<=xs.length):=zA0 (by omega)
 have HL2:=zA0 e3
 have C4:=zA0 c4
 have C3:=zA0 c3
 have HPL:=zA0 hpl
 clear hs c0 c1 c2 e4 e5 e6 hrow hSS hkk e3 hpl ha2 ha3 hnn
 go_enter Tryz.func80,Tryz.ntmps80
 go_wp2
 refine wp_region_held_drew (S:=fun wz : World=>wz.cell? ⟨p,o + 4,none⟩ = some (.slice ea s.bs.length ec)/\wz.cell? ⟨p,o + 3,none⟩ = some (.int .i64 s.base)) (by kernel_rfl) ⟨C4.out,C3.out⟩ (fun hHeld=>?_)
 refine tkH 0 rfl (.pointer (some ⟨p,o,none⟩)) (by kernel_rfl) rfl (fun _ _ _=>id) hHeld (by intro w hSw; (try dsimp only at hSw); go_simp) ?_
 try simp only [aPa,aPc,aPd]
 refine tkH 1 rfl (.pointer (some ⟨p,o,none⟩)) (by kernel_rfl) rfl (fun _ _ _=>id) hHeld (by intro w hSw; (try dsimp only at hSw); go_simp) ?_
 try simp only [aPa,aPc,aPd]
 refine tkH 2 rfl (.pointer (some ⟨p,o + 4,none⟩)) (by kernel_rfl) rfl (fun _ _ _=>id) hHeld (by intro w hSw; (try dsimp only at hSw); go_simp) ?_
 try simp only [aPa,aPc,aPd]
 refine tkH 3 rfl (.slice ea s.bs.length ec) (by kernel_rfl) rfl (fun _ _ _=>id) hHeld (by intro w hSw; obtain ⟨s1,s2⟩:=hSw; go_simp) ?_
 try simp only [aPa,aPc,aPd]
 refine tkH 4 rfl (.int .i64 idx) (by kernel_rfl) rfl (fun _ _ _=>id) hHeld (by intro w hSw; (try dsimp only at hSw); go_simp) ?_
 try simp only [aPa,aPc,aPd]
 refine tkH 5 rfl (.pointer (some ⟨p,o,none⟩)) (by kernel_rfl) rfl (fun _ _ _=>id) hHeld (by intro w hSw; (try dsimp only at hSw); go_simp) ?_
 try simp only [aPa,aPc,aPd]
 refine tkH 8 rfl (.pointer (some ⟨p,o,none⟩)) (by kernel_rfl) rfl (fun _ _ _=>id) hHeld (by intro w hSw; (try dsimp only at hSw); go_simp) ?_
 try simp only [aPa,aPc,aPd]
 refine tkH 9 rfl (.pointer (some ⟨p,o,none⟩)) (by kernel_rfl) rfl (fun _ _ _=>id) hHeld (by intro w hSw; (try dsimp only at hSw); go_simp) ?_
 try simp only [aPa,aPc,aPd]
 refine tkH 10 rfl (.pointer (some ⟨p,o + 3,none⟩)) (by kernel_rfl) rfl (fun _ _ _=>id) hHeld (by intro w hSw; (try dsimp only at hSw); go_simp) ?_
 try simp only [aPa,aPc,aPd]
 refine tkH 11 rfl (.int .i64 s.base) (by kernel_rfl) rfl (fun _ _ _=>id) hHeld (by intro w hSw; obtain ⟨s1,s2⟩:=hSw; go_simp) ?_
 try simp only [aPa,aPc,aPd]
 refine tkHc 6 rfl (by kernel_rfl) rfl (fun K hK=>?_)
 go_simp
 refine (yE9 S p o s w.drew HS.out HOB.out HBL.out).mono ?_
 rintro e w1 ⟨rfl,nq,rfl⟩
 refine hK.out _ _ ⟨C4.out,C3.out⟩ (fun hHeld1=>?_)
 clear hK K
 try simp only [aPa,aPb,aPc,aPd]
 refine tkH 7 rfl (.int .i64 mm) (by kernel_rfl) rfl (fun _ _ _=>id) hHeld1 (by intro w hSw; clear hSw; go_simp; all_goals (first | exact hmm | (rw [hmm]) | (simp [hmm]))) ?_
 try simp only [aPa,aPc,aPd]
 refine tkH 12 rfl (.int .i64 (kk:Int)) (by kernel_rfl) rfl (fun _ _ _=>id) hHeld1 (by intro w hSw; clear hSw; go_simp; (rw [IntKind.wrap_i64]; omega)) ?_
 try simp only [aPa,aPc,aPd]
 refine tkH 13 rfl ((.slice a' (s.bs.length - kk) (ec - kk))) (by kernel_rfl) rfl (fun _ _ _=>id) hHeld1 (by intro w hSw; clear hSw; go_simp; all_goals (first | (rw [ha1]; first | done | simp) | (intro hh; omega))) ?_
 try simp only [aPa,aPc,aPd]
 refine tkHc 14 rfl (by kernel_rfl) rfl (fun K hK=>?_)
 go_simp
 refine (HCL.out (1 + nq)).mono ?_
 rintro e w2 ⟨v1,rfl,hr1,hb1⟩
 obtain ⟨va,vn,vc,hvv⟩:=zV7 hr1
 subst hvv
 have HR1:=zA0 hr1
 have HB1 : Hid (Below w.heap.size w w2):=zA0 hb1
 have s2 : (fun wz:World=>wz.cell? ⟨p,o + 4,none⟩ = some (.slice ea s.bs.length ec)/\wz.cell? ⟨p,o + 3,none⟩ = some (.int .i64 s.base)) w2:=⟨(HB1.out.cell (p:=⟨p,o + 4,none⟩) HPL.out).trans C4.out,(HB1.out.cell (p:=⟨p,o + 3,none⟩) HPL.out).trans C3.out⟩
 clear hr1 hb1
 refine hK.out _ _ s2 (fun hHeld2=>?_)
 clear hK K
 try simp only [aPa,aPb,aPc,aPd]
 refine tkH 15 rfl (.slice va vn vc) (by kernel_rfl) rfl (fun _ _ _=>id) hHeld2 (by intro w hSw; (try dsimp only at hSw); go_simp) ?_
 try simp only [aPa,aPc,aPd]
 refine wpAnyH_done (by kernel_rfl) ?_ _
 go_wp2
 go_ret
 refine ⟨_,rfl,?_,HB1.out⟩
 exact xB6 (w0:=w) (S:=S) (bs:=s.bs.drop kk) HR1.out (by rw [List.length_drop,List.length_drop,HL2.out]) (fun i x b hx hb=>by rw [List.getElem?_drop] at hx hb; exact HE6.out _ x b hx hb) (fun k hk=>HB1.out.block k (HSS.out k hk))
end
end Go.Proofs.YtocoimjhglackaaGreat
