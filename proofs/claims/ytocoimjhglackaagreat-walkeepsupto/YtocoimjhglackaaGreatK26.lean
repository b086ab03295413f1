/- Wfi -/
import Derived.Test.YtocoimjhglackaaGreatK25
set_option maxHeartbeats 8000000
set_option maxRecDepth 100000
namespace Go.Proofs.YtocoimjhglackaaGreat
section
open Go.RowKit Go.Maps
structure FrOk (s:Sd) : Prop where
 t : okN s.t
 v : okN s.v
 sn : ∀ b,s.sn = some b->b.length<=66334/\b ≠ []
 b0 : 0<=s.base
 bl : s.base + s.bs.length<=1099511627776
 es : ∀ b ∈ s.bs,b.length<=7470
 n : s.bs.length<=4194304
theorem Okd.fr {s:Sd} (h:Okd s) (hn:s.bs.length<=4194304) : FrOk s:=by
 refine ⟨h.t,h.v,fun b hb=>⟨yO9 (h.sn b hb).1,xP8 (h.sn b hb).1⟩,h.base.1,h.len,fun b hb=>?_,hn⟩
 obtain ⟨i,hi,rfl⟩:=List.getElem_of_mem hb
 exact zI3 (h.es i _ (List.getElem?_eq_getElem hi)).1
theorem yQ1 : ∀ (bs:List (List UInt8)) (n:Int),(∀ b ∈ bs,b.length<=7470)->(frE n bs).length<=bs.length * 7485:=by
 intro bs
 induction bs with
 | nil=>intro n _; simp [frE]
 | cons b r ih =>
  intro n h
  rw [frE,List.length_append,zC0,List.length_cons]
  have h1:=h b (by simp)
  have h2:=ih (n + 1) (fun c hc=>h c (by simp [hc]))
  omega
theorem yT5 (a:Addr) (n cap:Nat) (w:World) : (binOp .neq 22 (.slice (some a) n cap) (.slice none 0 0)).run Tryz.prog w = .ok (.bool true) w:=by
 have e : ∃ d,Op.maxDepth = d + 1:=⟨Op.maxDepth - 1,by decide⟩
 obtain ⟨d,e⟩:=e
 unfold binOp Op.equal
 rw [e]
 simp [go_sem,Op.equalIn,run_underlying Tryz.underlying22]
theorem yJ3 (n cap:Nat) (w:World) : (binOp .neq 22 (.slice none n cap) (.slice none 0 0)).run Tryz.prog w = .ok (.bool false) w:=by
 have e : ∃ d,Op.maxDepth = d + 1:=⟨Op.maxDepth - 1,by decide⟩
 obtain ⟨d,e⟩:=e
 unfold binOp Op.equal
 rw [e]
 simp [go_sem,Op.equalIn,run_underlying Tryz.underlying22]
theorem yE2 {o:Oper} {a:Act} {K:Act->World->Prop} {Q:Exit->Act->World->Prop} (w:World) (s x:Operand)
    (ho:o.op = .call { callee:=.builtin .append,args:=#[s,x],argTypes:=#[22,22] })
    (v:Value) (l:List UInt8) (hs:a.eval s = v) (hown:Own w v l) (xv:Value) (news:List UInt8) (hx:a.eval x = xv) (hsrc:Src Tryz.prog 1 22 xv news.length (vals news) w) (hlen:l.length + news.length<=211106232532992)
    (h:∀ v' w',Own w' v' (l ++ news)->Stp w w' v.ownBlock v'.ownBlock->K (a.put o.dst v') w') : Oper.wp Tryz.prog o a w K Q:=by
 obtain ⟨i,hi,hz0,hz1,hz2⟩:=info_parts Tryz.info5
 obtain ⟨v',w',hr,h2,h3⟩:=zU3 (P:=Tryz.prog) o.type Tryz.underlying22 hi hz0 hz1 hz2 w v l hown xv news hsrc hlen
 unfold Oper.wp execOp
 simp only [ho,resolve,invoke,builtin,Sem.run_bind,Sem.run_pure,Result.andThen_ok,List.map_toArray,List.map_cons,List.map_nil,hs,hx,hr]
 exact h v' w' h2 h3
def FsP (w:World) (l:List UInt8) (e:Ending) (w':World) : Prop:=∃ v,e = .returned v/\Own w' v l/\(∀ k,v.ownBlock = some k->w.heap.size<=k)/\Below w.heap.size w w'
structure Gw (w:World) (D:Nat) (wr:World) (v:Value) (l:List UInt8) : Prop where
 own : Own wr v l
 new : ∀ k,v.ownBlock = some k->D<=k
 bel : Below D w wr
theorem Gw.fr {w w1 w2:World} {D:Nat} {v _v1 v2:Value} {l m:List UInt8} (h:Gw w D w1 v l) (h2:Own w2 v2 (l ++ m)) (hs:Stp w1 w2 v.ownBlock v2.ownBlock) (hD:D<=w1.heap.size) : Gw w D w2 v2 (l ++ m):=by
 refine ⟨h2,fun k hk=>?_,h.bel.trans (hs.below D hD (fun k hk=>h.new k hk))⟩
 rcases hs.row with e | ⟨x,e,hx⟩
 · rw [hk] at e; exact h.new k e.symm
 · rw [hk] at e; cases e; omega
theorem Gw.grow {w w1 w2:World} {D:Nat} {v:Value} {l:List UInt8} (h:Gw w D w1 v l) (hb:Below w1.heap.size w1 w2) (hD:D<=w1.heap.size) : Gw w D w2 v l:=⟨h.own.below hb,h.new,h.bel.trans (hb.mono hD)⟩
theorem zP0 (S:Nat->Prop) (p o:Nat) (s:Sd) (w:World) (hs:zE7 w S p o s) (hSS:∀ k,S k->k < w.heap.size) (hpl:p < w.heap.size) (hf:FrOk s) : Calls Tryz.prog 81 #[.pointer (some ⟨p,o,none⟩)] w (FsP w (zC9 s)):=by
 obtain ⟨sv,ev,hsn,hrow,c0,c1,c2,c3,c4⟩:=hs.cells
 obtain ⟨ea,ec,xs,rfl,e1,e2,e3,e4,e5,e6⟩:=hrow.xs (by have:=hf.n; omega)
 have HF:=zA0 hf
 have HSN:=zA0 hsn
 have HSS:=zA0 hSS
 have HPL:=zA0 hpl
 have HE4:=zA0 e4
 have HE6:=zA0 e6
 have HE3:=zA0 e3
 have hn:=hf.n
 have hb0:=hf.b0
 have hbl:=hf.bl
 have C2:=zA0 c2
 have C3:=zA0 c3
 have C4:=zA0 c4
 clear hs hf hrow hSS hpl e3 e4 e5 e6
 go_enter Tryz.func81,Tryz.ntmps81
 go_wp2_with fail
 refine (yO7 s.t s.v HF.out.t HF.out.v _).mono ?_
 rintro e w1 ⟨hb,hc,rfl,hcap,hbs,hlo,hb1⟩
 have hl12:=zH2 HF.out.t HF.out.v
 have HFR:=zA0 (zS0 1 0 (some ⟨hb,0,none⟩) (zE0 s.t s.v).length hc (zE0 s.t s.v) w1 rfl hbs ⟨by omega,by omega,by omega,by omega,by omega⟩)
 have HB1:=zA0 hb1
 have HL12:=zA0 hl12
 clear hcap hbs hlo hb1 hl12
 generalize (zE0 s.t s.v).length = hbn at HFR HL12 ⊢
 go_wp2_with fail
 refine HFR.out.mono ?_
 rintro e w2 ⟨v2,rfl,ho2,hs2⟩
 obtain ⟨va,vn,vc,hv2⟩ : ∃ a n c,v2 = Value.slice a n c:=by obtain ⟨a,c,h,_⟩:=ho2.form; exact ⟨a,_,c,h⟩
 subst hv2
 have hB2 : Below w1.heap.size w1 w2:=hs2.below _ (Nat.le_refl _) (fun k hk=>by cases hk)
 have hBw : Below w.heap.size w w2:=HB1.out.trans (hB2.mono HB1.out.size)
 have HGW : Hid (Gw w w.heap.size w2 (.slice va vn vc) (fr 1 0 (zE0 s.t s.v))):=zA0 ⟨ho2,fun k hk=>by
  rcases hs2.row with e | ⟨x,e,hx⟩
  · rw [hk] at e; cases e
  · rw [hk] at e; cases e; have:=HB1.out.size; omega,hBw⟩
 have d2 : w2.cell? ⟨p,o + 2,none⟩ = some sv:=(hBw.cell (p:=⟨p,o + 2,none⟩) HPL.out).trans C2.out
 have d3 : w2.cell? ⟨p,o + 3,none⟩ = some (.int .i64 s.base):=(hBw.cell (p:=⟨p,o + 3,none⟩) HPL.out).trans C3.out
 have d4 : w2.cell? ⟨p,o + 4,none⟩ = some (.slice ea s.bs.length ec):=(hBw.cell (p:=⟨p,o + 4,none⟩) HPL.out).trans C4.out
 have lp2 : p < w2.heap.size:=Nat.lt_of_lt_of_le HPL.out hBw.size
 have HBW:=zA0 hBw
 have HL27 : Hid ((fr 1 0 (zE0 s.t s.v)).length<=27):=zA0 (by rw [zC0]; have:=zH2 HF.out.t HF.out.v; omega)
 clear ho2 hs2 hB2 hBw HFR c0 c1 c2 c3 c4
 cases hsn2 : s.sn with
 | none =>
  have hsv : sv = .slice none 0 0:=by have:=HSN.out; rw [hsn2] at this; exact this
  subst hsv
  have hnq:=yJ3 0 0 w2
  have HFE : Hid (zC9 s = fr 1 0 (zE0 s.t s.v) ++ frE (s.base + 1) s.bs):=zA0 (by unfold zC9 frS; rw [hsn2,List.append_nil])
  clear hsn2 HSN
  go_wp2
  have hg:=HGW.out
  have hlp : (fr 1 0 (zE0 s.t s.v)).length<=100000:=by have:=HL27.out; omega
  have HG0:=zA0 hg
  have HLP:=zA0 hlp
  clear hg hlp
  go_loopw [3,33] (fun vv i wr=>∃ (k:Nat) (v:Value),v = vv/\k<=s.bs.length/\i = .int .i64 (k:Int)/\Hid (Gw w w.heap.size wr v (fr 1 0 (zE0 s.t s.v) ++ frE (s.base + 1) (s.bs.take k)))) (fun _ i _=>s.bs.length - (intOf i).toNat)
  case atStart=>exact ⟨0,_,rfl,Nat.zero_le _,rfl,zA0 (by simpa [frE] using HG0.out)⟩
  case round =>
   obtain ⟨k,v,rfl,hk,rfl,HG⟩:=hrel
   have hBr:=HG.out.bel
   have d3 : wr.cell? ⟨p,o + 3,none⟩ = some (.int .i64 s.base):=(hBr.cell (p:=⟨p,o + 3,none⟩) HPL.out).trans C3.out
   have lpr : p < wr.heap.size:=Nat.lt_of_lt_of_le HPL.out hBr.size
   obtain ⟨va,vn,vc,hvv⟩ : ∃ a n c,v = Value.slice a n c:=by obtain ⟨a,c,h,_⟩:=HG.out.own.form; exact ⟨a,_,c,h⟩
   subst hvv
   by_cases hlt : k < s.bs.length
   · obtain ⟨x,hx⟩ : ∃ x,xs[k]? = some x:=⟨_,List.getElem?_eq_getElem (by rw [HE3.out]; exact hlt)⟩
     obtain ⟨bd,hbd⟩ : ∃ bd,s.bs[k]? = some bd:=⟨_,List.getElem?_eq_getElem hlt⟩
     have hbdl : bd.length<=7470:=HF.out.es bd (List.mem_of_getElem? hbd)
     obtain ⟨xa,xc,hxe,hxc,hxb⟩:=(((HE6.out k x bd hx hbd).1).grow (show Below w.heap.size w wr from hBr)).bs (by omega)
     obtain ⟨gb,goff,hea,hgl,hgc⟩:=HE4.out.2.2 (by intro e; rw [e] at hx; simp at hx)
     have y0 : wr.cell? ⟨gb,goff + k,none⟩ = some x:=(hBr.cell (p:=⟨gb,goff + k,none⟩) hgl).trans (hgc k x hx)
     have lg : gb < wr.heap.size:=Nat.lt_of_lt_of_le hgl hBr.size
     subst hea
     subst hxe
     have HFX:=zA0 (zS0 2 (s.base + 1 + k) xa bd.length xc bd wr rfl hxb ⟨by omega,by omega,by omega,by omega,by omega⟩)
     have HLB:=zA0 hbdl
     have HBD:=zA0 hbd
     clear hbd hx hxb hxc hbdl hgc hBr
     generalize hbn : bd.length = bn at HFX y0
     clear hbn
     go_wp2_with fail
     refine HFX.out.mono ?_
     rintro e w5 ⟨v5,rfl,ho5,hs5⟩
     replace ho5 : Own w5 v5 (fr 2 (s.base + 1 + k).toNat bd):=ho5
     have hB5 : Below wr.heap.size wr w5:=hs5.below _ (Nat.le_refl _) (fun k hk=>by cases hk)
     have HG5:=zA0 (HG.out.grow hB5 HG.out.bel.size)
     have hfl : (fr 2 (s.base + 1 + k).toNat bd).length<=7485:=by rw [zC0]; have:=HLB.out; omega
     obtain ⟨wa,wc,hv5,hbs5⟩:=ho5.form
     subst hv5
     have HSRC:=zA0 ((hbs5 (by omega)).src (P:=Tryz.prog) Tryz.underlying22 wc)
     have HLEN : Hid ((fr 1 0 (zE0 s.t s.v) ++ frE (s.base + 1) (s.bs.take k)).length + (fr 2 (s.base + 1 + k).toNat bd).length<=211106232532992):=by
      have h1:=yQ1 (s.bs.take k) (s.base + 1) (fun c hc=>HF.out.es c (List.mem_of_mem_take hc))
      have h2:=HLP.out
      rw [List.length_take] at h1
      show _<=_
      rw [List.length_append]
      omega
     have HFL:=zA0 hfl
     clear ho5 hs5 hB5 hbs5 hfl
     obtain ⟨fl,hfl2⟩ : ∃ fl,fl = (fr 2 (s.base + 1 + k).toNat bd).length:=⟨_,rfl⟩
     rw [<- hfl2] at HSRC ⊢
     have HFL2:=zA0 hfl2
     clear hfl2
     go_wp2_with (at_builtin; refine zC3 _ rfl (.tmp 38) (.tmp 47) rfl _ _ rfl HG5.out.own _ (fr 2 (s.base + 1 + k).toNat bd) rfl (by rw [<- HFL2.out]; exact HSRC.out) HLEN.out ?nx)
     case nx =>
      intro v6 w6 ho6 hs6
      replace ho6 : Own w6 v6 ((fr 1 0 (zE0 s.t s.v) ++ frE (s.base + 1) (s.bs.take k)) ++ fr 2 (s.base + 1 + k).toNat bd):=by simpa only [List.append_assoc] using ho6
      have HG6:=zA0 (HG5.out.fr (_v1:=v6) ho6 hs6 HG5.out.bel.size)
      obtain ⟨za,zn,zc,hv6⟩ : ∃ a n c,v6 = Value.slice a n c:=by obtain ⟨a,c,h,_⟩:=ho6.form; exact ⟨a,_,c,h⟩
      subst hv6
      clear ho6 hs6
      go_wp2
      go_roundw
      case rel =>
       refine ⟨k + 1,_,rfl,by omega,by go_num,?_⟩
       have e1 : frE (s.base + 1) (s.bs.take (k + 1)) = frE (s.base + 1) (s.bs.take k) ++ fr 2 (s.base + 1 + k).toNat bd:=by
        have hb2:=HBD.out
        rw [List.getElem?_eq_getElem hlt] at hb2
        cases hb2
        rw [List.take_succ_eq_append_getElem hlt,yU0,List.length_take,Nat.min_eq_left (by omega)]
       rw [e1,<- List.append_assoc]
       exact HG6
      case measure=>simp [intOf]; omega
   · have hkn : k = s.bs.length:=by omega
     subst hkn
     have HGE:=HG
     rw [List.take_length] at HGE
     go_wp2
     go_ret
     exact ⟨_,rfl,by rw [HFE.out]; exact HGE.out.own,HGE.out.new,HGE.out.bel⟩
 | some sb =>
  have hsv : BodV w S sv sb:=by have:=HSN.out; rw [hsn2] at this; exact this
  obtain ⟨hsl,hsne⟩:=HF.out.sn sb hsn2
  obtain ⟨sa,sc,hse,hsc,hsb⟩:=(hsv.1.grow HBW.out).bs (by omega)
  obtain ⟨sg,soff,rfl,_,_⟩:=hsb.2 hsne
  subst hse
  have hnq:=yT5 ⟨sg,soff,none⟩ sb.length sc w2
  have HFE : Hid (zC9 s = fr 1 0 (zE0 s.t s.v) ++ fr 3 s.base.toNat sb ++ frE (s.base + 1) s.bs):=zA0 (by unfold zC9 frS; rw [hsn2])
  have HFX:=zA0 (zS0 3 s.base (some ⟨sg,soff,none⟩) sb.length sc sb w2.drew rfl hsb ⟨by omega,by omega,by omega,by omega,by omega⟩)
  have HSL:=zA0 hsl
  clear hsn2 HSN hsv hsb hsc hsne hsl
  generalize hsn3 : sb.length = sn at HFX hnq d2
  clear hsn3
  have D3:=zA0 d3
  have D2:=zA0 d2
  go_wp2
  refine wp_region_held_drew (S:=fun wz : World=>wz.cell? ⟨p,o + 2,none⟩ = some (.slice (some ⟨sg,soff,none⟩) sn sc)/\wz.cell? ⟨p,o + 3,none⟩ = some (.int .i64 s.base)) (by kernel_rfl) ⟨D2.out,D3.out⟩ (fun hHeld=>?_)
  refine tkH 0 rfl (.slice va vn vc) (by kernel_rfl) rfl (fun _ _ _=>id) hHeld (by intro w hSw; (try dsimp only at hSw); go_simp) ?_
  try simp only [aPa,aPc,aPd]
  refine tkH 1 rfl (.pointer (some ⟨p,o,none⟩)) (by kernel_rfl) rfl (fun _ _ _=>id) hHeld (by intro w hSw; (try dsimp only at hSw); go_simp) ?_
  try simp only [aPa,aPc,aPd]
  refine tkH 2 rfl (.pointer (some ⟨p,o,none⟩)) (by kernel_rfl) rfl (fun _ _ _=>id) hHeld (by intro w hSw; (try dsimp only at hSw); go_simp) ?_
  try simp only [aPa,aPc,aPd]
  refine tkH 3 rfl (.pointer (some ⟨p,o + 3,none⟩)) (by kernel_rfl) rfl (fun _ _ _=>id) hHeld (by intro w hSw; (try dsimp only at hSw); go_simp) ?_
  try simp only [aPa,aPc,aPd]
  refine tkH 4 rfl (.int .i64 s.base) (by kernel_rfl) rfl (fun _ _ _=>id) hHeld (by intro w hSw; obtain ⟨s1,s2⟩:=hSw; go_simp) ?_
  try simp only [aPa,aPc,aPd]
  refine tkH 5 rfl (.pointer (some ⟨p,o,none⟩)) (by kernel_rfl) rfl (fun _ _ _=>id) hHeld (by intro w hSw; (try dsimp only at hSw); go_simp) ?_
  try simp only [aPa,aPc,aPd]
  refine tkH 6 rfl (.pointer (some ⟨p,o,none⟩)) (by kernel_rfl) rfl (fun _ _ _=>id) hHeld (by intro w hSw; (try dsimp only at hSw); go_simp) ?_
  try simp only [aPa,aPc,aPd]
  refine tkH 7 rfl (.pointer (some ⟨p,o + 2,none⟩)) (by kernel_rfl) rfl (fun _ _ _=>id) hHeld (by intro w hSw; (try dsimp only at hSw); go_simp) ?_
  try simp only [aPa,aPc,aPd]
  refine tkH 8 rfl (.slice (some ⟨sg,soff,none⟩) sn sc) (by kernel_rfl) rfl (fun _ _ _=>id) hHeld (by intro w hSw; obtain ⟨s1,s2⟩:=hSw; go_simp) ?_
  try simp only [aPa,aPc,aPd]
  refine tkHc 9 rfl (by kernel_rfl) rfl (fun K hK=>?_)
  go_simp
  refine Calls.mono HFX.out ?_
  rintro e w5 ⟨v5,rfl,ho5,hs5⟩
  replace ho5 : Own w5 v5 (fr 3 s.base.toNat sb):=ho5
  have hB50:=hs5.below _ (Nat.le_refl _) (fun k hk=>by cases hk)
  have hB5 : Below w2.heap.size w2 w5:=⟨hB50.os,hB50.tape,hB50.output,hB50.size,hB50.block⟩
  clear hB50
  have HG5:=zA0 (HGW.out.grow hB5 HGW.out.bel.size)
  have hfl : (fr 3 s.base.toNat sb).length<=66349:=by rw [zC0]; have:=HSL.out; omega
  obtain ⟨wa,wc,hv5,hbs5⟩:=ho5.form
  subst hv5
  have HSRC:=zA0 ((hbs5 (by omega)).src (P:=Tryz.prog) Tryz.underlying22 wc)
  have HFL:=zA0 hfl
  have s5 : (fun wz:World=>wz.cell? ⟨p,o + 2,none⟩ = some (.slice (some ⟨sg,soff,none⟩) sn sc)/\wz.cell? ⟨p,o + 3,none⟩ = some (.int .i64 s.base)) w5:=⟨(hB5.cell (p:=⟨p,o + 2,none⟩) lp2).trans D2.out,(hB5.cell (p:=⟨p,o + 3,none⟩) lp2).trans D3.out⟩
  have HB5:=zA0 hB5
  clear ho5 hs5 hbs5 hfl hB5
  refine hK.out _ _ s5 (fun hHeld1=>?_)
  clear hK K
  try simp only [aPa,aPb,aPc,aPd]
  refine tkHc 10 rfl (by kernel_rfl) rfl (fun K hK=>?_)
  refine yE2 w5 (.tmp 17) (.tmp 26) rfl _ _ rfl HG5.out.own _ (fr 3 s.base.toNat sb) rfl HSRC.out (by have:=HL27.out; have:=HFL.out; omega) (fun v6 w6 ho6 hs6=>?_)
  have HG6:=zA0 (HG5.out.fr (_v1:=v6) ho6 hs6 HG5.out.bel.size)
  obtain ⟨za,zn,zc,hv6⟩ : ∃ a n c,v6 = Value.slice a n c:=by obtain ⟨a,c,h,_⟩:=ho6.form; exact ⟨a,_,c,h⟩
  subst hv6
  have hB6:=HG6.out.bel
  have s6 : (fun wz:World=>wz.cell? ⟨p,o + 2,none⟩ = some (.slice (some ⟨sg,soff,none⟩) sn sc)/\wz.cell? ⟨p,o + 3,none⟩ = some (.int .i64 s.base)) w6:=⟨(hB6.cell (p:=⟨p,o + 2,none⟩) HPL.out).trans (((HBW.out.cell (p:=⟨p,o + 2,none⟩) HPL.out).symm).trans D2.out),(hB6.cell (p:=⟨p,o + 3,none⟩) HPL.out).trans C3.out⟩
  have lp6 : p < w6.heap.size:=Nat.lt_of_lt_of_le HPL.out hB6.size
  have d46 : w6.cell? ⟨p,o + 4,none⟩ = some (.slice ea s.bs.length ec):=(hB6.cell (p:=⟨p,o + 4,none⟩) HPL.out).trans C4.out
  clear ho6 hs6 hB6
  refine hK.out _ _ s6 (fun hHeld2=>?_)
  clear hK K
  try simp only [aPa,aPc,aPd]
  refine tkH 11 rfl (.slice za zn zc) (by kernel_rfl) rfl (fun _ _ _=>id) hHeld2 (by intro w hSw; (try dsimp only at hSw); go_simp) ?_
  try simp only [aPa,aPc,aPd]
  refine wpAnyH_done (by kernel_rfl) ?_ _
  go_wp2
  have hg:=HG6.out
  have hlp : (fr 1 0 (zE0 s.t s.v) ++ fr 3 s.base.toNat sb).length<=100000:=by have:=HL27.out; have:=HSL.out; rw [List.length_append,zC0 3]; omega
  have HG0:=zA0 hg
  have HLP:=zA0 hlp
  clear hg hlp
  go_loopw [3,33] (fun vv i wr=>∃ (k:Nat) (v:Value),v = vv/\k<=s.bs.length/\i = .int .i64 (k:Int)/\Hid (Gw w w.heap.size wr v ((fr 1 0 (zE0 s.t s.v) ++ fr 3 s.base.toNat sb) ++ frE (s.base + 1) (s.bs.take k)))) (fun _ i _=>s.bs.length - (intOf i).toNat)
  case atStart=>exact ⟨0,_,rfl,Nat.zero_le _,rfl,zA0 (by simpa [frE] using HG0.out)⟩
  case round =>
   obtain ⟨k,v,rfl,hk,rfl,HG⟩:=hrel
   have hBr:=HG.out.bel
   have d3 : wr.cell? ⟨p,o + 3,none⟩ = some (.int .i64 s.base):=(hBr.cell (p:=⟨p,o + 3,none⟩) HPL.out).trans C3.out
   have lpr : p < wr.heap.size:=Nat.lt_of_lt_of_le HPL.out hBr.size
   obtain ⟨va,vn,vc,hvv⟩ : ∃ a n c,v = Value.slice a n c:=by obtain ⟨a,c,h,_⟩:=HG.out.own.form; exact ⟨a,_,c,h⟩
   subst hvv
   by_cases hlt : k < s.bs.length
   · obtain ⟨x,hx⟩ : ∃ x,xs[k]? = some x:=⟨_,List.getElem?_eq_getElem (by rw [HE3.out]; exact hlt)⟩
     obtain ⟨bd,hbd⟩ : ∃ bd,s.bs[k]? = some bd:=⟨_,List.getElem?_eq_getElem hlt⟩
     have hbdl : bd.length<=7470:=HF.out.es bd (List.mem_of_getElem? hbd)
     obtain ⟨xa,xc,hxe,hxc,hxb⟩:=(((HE6.out k x bd hx hbd).1).grow (show Below w.heap.size w wr from hBr)).bs (by omega)
     obtain ⟨gb,goff,hea,hgl,hgc⟩:=HE4.out.2.2 (by intro e; rw [e] at hx; simp at hx)
     have y0 : wr.cell? ⟨gb,goff + k,none⟩ = some x:=(hBr.cell (p:=⟨gb,goff + k,none⟩) hgl).trans (hgc k x hx)
     have lg : gb < wr.heap.size:=Nat.lt_of_lt_of_le hgl hBr.size
     subst hea
     subst hxe
     have HFX:=zA0 (zS0 2 (s.base + 1 + k) xa bd.length xc bd wr rfl hxb ⟨by omega,by omega,by omega,by omega,by omega⟩)
     have HLB:=zA0 hbdl
     have HBD:=zA0 hbd
     clear hbd hx hxb hxc hbdl hgc hBr
     generalize hbn : bd.length = bn at HFX y0
     clear hbn
     go_wp2_with fail
     refine HFX.out.mono ?_
     rintro e w5 ⟨v5,rfl,ho5,hs5⟩
     replace ho5 : Own w5 v5 (fr 2 (s.base + 1 + k).toNat bd):=ho5
     have hB5 : Below wr.heap.size wr w5:=hs5.below _ (Nat.le_refl _) (fun k hk=>by cases hk)
     have HG5:=zA0 (HG.out.grow hB5 HG.out.bel.size)
     have hfl : (fr 2 (s.base + 1 + k).toNat bd).length<=7485:=by rw [zC0]; have:=HLB.out; omega
     obtain ⟨wa,wc,hv5,hbs5⟩:=ho5.form
     subst hv5
     have HSRC:=zA0 ((hbs5 (by omega)).src (P:=Tryz.prog) Tryz.underlying22 wc)
     have HLEN : Hid (((fr 1 0 (zE0 s.t s.v) ++ fr 3 s.base.toNat sb) ++ frE (s.base + 1) (s.bs.take k)).length + (fr 2 (s.base + 1 + k).toNat bd).length<=211106232532992):=by
      have h1:=yQ1 (s.bs.take k) (s.base + 1) (fun c hc=>HF.out.es c (List.mem_of_mem_take hc))
      have h2:=HLP.out
      rw [List.length_take] at h1
      show _<=_
      rw [List.length_append]
      omega
     have HFL:=zA0 hfl
     clear ho5 hs5 hB5 hbs5 hfl
     obtain ⟨fl,hfl2⟩ : ∃ fl,fl = (fr 2 (s.base + 1 + k).toNat bd).length:=⟨_,rfl⟩
     rw [<- hfl2] at HSRC ⊢
     have HFL2:=zA0 hfl2
     clear hfl2
     go_wp2_with (at_builtin; refine zC3 _ rfl (.tmp 38) (.tmp 47) rfl _ _ rfl HG5.out.own _ (fr 2 (s.base + 1 + k).toNat bd) rfl (by rw [<- HFL2.out]; exact HSRC.out) HLEN.out ?nx)
     case nx =>
      intro v6 w6 ho6 hs6
      replace ho6 : Own w6 v6 (((fr 1 0 (zE0 s.t s.v) ++ fr 3 s.base.toNat sb) ++ frE (s.base + 1) (s.bs.take k)) ++ fr 2 (s.base + 1 + k).toNat bd):=by simpa only [List.append_assoc] using ho6
      have HG6:=zA0 (HG5.out.fr (_v1:=v6) ho6 hs6 HG5.out.bel.size)
      obtain ⟨za,zn,zc,hv6⟩ : ∃ a n c,v6 = Value.slice a n c:=by obtain ⟨a,c,h,_⟩:=ho6.form; exact ⟨a,_,c,h⟩
      subst hv6
      clear ho6 hs6
      go_wp2
      go_roundw
      case rel =>
       refine ⟨k + 1,_,rfl,by omega,by go_num,?_⟩
       have e1 : frE (s.base + 1) (s.bs.take (k + 1)) = frE (s.base + 1) (s.bs.take k) ++ fr 2 (s.base + 1 + k).toNat bd:=by
        have hb2:=HBD.out
        rw [List.getElem?_eq_getElem hlt] at hb2
        cases hb2
        rw [List.take_succ_eq_append_getElem hlt,yU0,List.length_take,Nat.min_eq_left (by omega)]
       rw [e1,<- List.append_assoc]
       exact HG6
      case measure=>simp [intOf]; omega
   · have hkn : k = s.bs.length:=by omega
     subst hkn
     have HGE:=HG
     rw [List.take_length] at HGE
     go_wp2
     go_ret
     exact ⟨_,rfl,by rw [HFE.out]; exact HGE.out.own,HGE.out.new,HGE.out.bel⟩
end
end Go.Proofs.YtocoimjhglackaaGreat
