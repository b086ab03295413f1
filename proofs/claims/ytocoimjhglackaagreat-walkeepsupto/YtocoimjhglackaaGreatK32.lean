/- Wja -/
import Derived.Test.YtocoimjhglackaaGreatK31
set_option maxHeartbeats 8000000
set_option maxRecDepth 100000
namespace Go.Proofs.YtocoimjhglackaaGreat
section
open Go.RowKit Go.Maps
def accT (m:Sd) (t v:Int) (x:Sn) : Prop:=(en zA2 x).2 = false/\(okN t/\okN v)/\1<=sI x/\m.base<=sI x
def nxT (m:Sd) (t v:Int) (x:Sn) (all:Bool) : Sd:=⟨t,v,some (en zA2 x).1,sI x,if all = true then [] else m.bs.drop (sI x - m.base).toNat⟩
theorem yJ2 {m:Sd} {t v:Int} {x:Sn} {all:Bool} (hm:Okd m) (h:accT m t v x) : Okd (nxT m t v x all):=by
 obtain ⟨h1,h2,h3,h4⟩:=h
 obtain ⟨g1,g2⟩:=yU1 h1
 refine ⟨h2.1,h2.2,fun e=>(by cases e),fun b hb=>?_,⟨by show 0<=sI x; omega,xJ5 h1⟩,fun i b hb=>?_⟩
 · cases hb; exact ⟨g1,by rw [g2]; rfl⟩
 · cases all with
   | true=>simp [nxT] at hb
   | false =>
    have hb' : (m.bs.drop (sI x - m.base).toNat)[i]? = some b:=hb
    rw [List.getElem?_drop] at hb'
    have:=hm.es _ b hb'
    refine ⟨this.1,?_⟩
    rw [this.2]
    show m.base + 1 + (((sI x - m.base).toNat + i : Nat) : Int) = sI x + 1 + i
    omega
theorem xD0 {m:Sd} {t v:Int} {x:Sn} {all:Bool} : (nxT m t v x all).bs.length<=m.bs.length:=by
 cases all with
 | true=>exact Nat.zero_le _
 | false=>show (m.bs.drop _).length<=_; rw [List.length_drop]; omega
theorem xN6 (m:Sd) (i:Int) (h:m.base<=i) : m.bs.drop (min i (m.base + m.bs.length) - m.base).toNat = m.bs.drop (i - m.base).toNat:=by
 by_cases hl : i<=m.base + m.bs.length
 · rw [Int.min_eq_left hl]
 · rw [Int.min_eq_right (by omega),List.drop_eq_nil_of_le (by omega),List.drop_eq_nil_of_le (by omega)]
def StP (w:World) (q p cnt:Nat) (F:Nat->Prop) (m:Sd) (t v:Int) (x:Sn) (all:Bool) (M:Md) (e:Ending) (w':World) : Prop :=
 (¬ accT m t v x/\e = .returned (.int .i64 1)/\Below w.heap.size w w')\/(accT m t v x/\SvO w q p cnt F m (nxT m t v x all) (wa (zC9 (nxT m t v x all))) M e w')
theorem xW3 {cs:List Value} (h:cs.length = 5) : (Tryz.prog.info? 36).map (·.size) = some cs.toArray.size:=by rw [List.size_toArray,h]; kernel_rfl
theorem xB1 {w:World} {S:Nat->Prop} {cs:List Value} {x:Sn} (h:Rep w S zA2 cs x) : cs.length = 5/\∃ r,cs = .int .i64 (sI x) :: r:=by
 obtain ⟨av,cv,al,cl,ad,cd,rfl,_⟩:=zH1 h
 exact ⟨rfl,_,rfl⟩
theorem zV4 (q p cnt:Nat) (M:Md) (F:Nat->Prop) (m:Sd) (t v:Int) (cs:List Value) (x:Sn) (all:Bool) (w:World) (h:WalR w q p M cnt F m false) (hr:Rep w (fun k=>k < w.heap.size) zA2 cs x) (hfw:Fw M.files) (hc:cnt + 5<=2199023255552) (hnl:accT m t v x->(zC9 (nxT m t v x all)).length<=1048576) :
    Calls Tryz.prog 49 #[.pointer (some ⟨q,0,none⟩),.agg #[.int .i64 t,.int .i64 v],.agg cs.toArray,.bool all] w (StP w q p cnt F m t v x all M):=by
 obtain ⟨hcl,r,hcs⟩:=xB1 hr
 obtain ⟨w1,hw1⟩ : ∃ w1,w1 = (w.alloc (.cells #[.int .i64 t,.int .i64 v] 31)).alloc (.cells cs.toArray 36):=⟨_,rfl⟩
 have hB1 : Below w.heap.size w w1:=by rw [hw1]; exact (zB5 w _).alloc (by simp) _
 have g5 : w1.heap[w.heap.size]? = some (.cells #[.int .i64 t,.int .i64 v] 31 (0,0)):=by rw [hw1]; exact (Below.heap_alloc _ _ _ (by simp)).trans (heap_alloc_new w _)
 have g6 : w1.heap[w.heap.size + 1]? = some (.cells cs.toArray 36 (0,0)):=by
  rw [hw1]
  have:=heap_alloc_new (w.alloc (.cells #[.int .i64 t,.int .i64 v] 31)) (.cells cs.toArray 36)
  rwa [World.size_alloc] at this
 have hs1 : w1.heap.size = w.heap.size + 2:=by rw [hw1]; simp
 obtain ⟨sv0,ev0,hwb,hsn,hrow⟩:=h.blk
 obtain ⟨sva,svn,svc,rfl⟩:=hsn.form
 obtain ⟨eva,evc,rfl,_⟩:=id hrow
 have lq:=h.lq
 have hwb1 : Wb w1 q p false m (.slice sva svn svc) (.slice eva m.bs.length evc):=(hB1.block q lq).trans hwb
 have HPS:=zA0 (zR5 cs x w1 (hr.kept hB1.size (fun k hk=>hB1.block k hk) (fun k hk=>by omega)))
 have HSZ:=zA0 (xW3 hcl)
 have HCS:=zA0 hcs
 have H:=zA0 h
 have HWB1:=zA0 hwb1
 have HB1:=zA0 hB1
 have HG5:=zA0 g5
 have HG6:=zA0 g6
 have HS1:=zA0 hs1
 have HR:=zA0 hr
 have HFW:=zA0 hfw
 have HC:=zA0 hc
 have HNL:=zA0 hnl
 have LQ:=zA0 lq
 have HW1:=zA0 hw1
 obtain ⟨c0,c1,c2,c3,c4,c5,c6,lq1,fq1⟩:=hwb1.cells
 clear h hr hfw hc hnl hwb hsn hrow hwb1 hB1 g5 g6 hs1 lq hcl hcs
 go_enter Tryz.func49,Tryz.ntmps49
 go_upto_region 1 with (fail)
 rw [<- hw1]
 clear hw1 HW1
 go_wp2_with (refine wpList_load_row rfl 36 (.tmp 6) rfl (w.heap.size + 1) rfl 36 cs.toArray (0,0) _ HG6.out Tryz.underlying36 rfl HSZ.out ?_)
 refine Calls.mono HPS.out ?_
 rintro e w2 ⟨vb,rfl,hown,hnew,hb2⟩
 obtain ⟨ba,bc,hvb,hbc⟩:=hown.form
 subst hvb
 have hB02 : Below w.heap.size w w2:=HB1.out.trans (hb2.mono HB1.out.size)
 have HB02:=zA0 hB02
 have HB2:=zA0 hb2
 have g52 : w2.heap[w.heap.size]? = some (.cells #[.int .i64 t,.int .i64 v] 31 (0,0)):=(hb2.block _ (zA1 HG5.out)).trans HG5.out
 have g62 : w2.heap[w.heap.size + 1]? = some (.cells cs.toArray 36 (0,0)):=(hb2.block _ (zA1 HG6.out)).trans HG6.out
 have HG52:=zA0 g52
 have HG62:=zA0 g62
 have t0 : w2.cell? ⟨w.heap.size,0,none⟩ = some (.int .i64 t):=cor g52 rfl
 have t1 : w2.cell? ⟨w.heap.size,1,none⟩ = some (.int .i64 v):=cor g52 rfl
 have l4:=zA1 g52
 have l6:=zA1 g62
 have HOWN:=zA0 hown
 have HNEW:=zA0 hnew
 clear hb2 g52 g62 c0 c1 c2 c3 c4 c5 c6 lq1 fq1 hB02 hown hnew hbc HPS
 obtain ⟨bl,hbl⟩ : ∃ bl,bl = (zD6 (en zA2 x)).length:=⟨_,rfl⟩
 rw [<- hbl] at HOWN HNEW ⊢
 have HBL:=zA0 hbl
 clear hbl
 have HCELLS : Hid (w2.cell? ⟨w.heap.size,0,none⟩ = some (.int .i64 t)/\w2.cell? ⟨w.heap.size,1,none⟩ = some (.int .i64 v)/\w2.cell? ⟨w.heap.size + 1,0,none⟩ = some (.int .i64 (sI x))/\w2.cell? ⟨q,5,none⟩ = some (.int .i64 m.base)):=zA0 ⟨t0,t1,by rw [cell_of_row _ _ _ _ 36 (0,0) HG62.out,HCS.out]; rfl,by rw [cell_of_row _ _ _ _ 98 (0,0) ((HB2.out.block q (zA1 HWB1.out)).trans HWB1.out)]; rfl⟩
 have LQ2 : Hid (q < w2.heap.size):=zA0 (Nat.lt_of_lt_of_le LQ.out HB02.out.size)
 have L42:=zA0 l4
 have L62:=zA0 l6
 have hq2 : w2.heap[q]? = w1.heap[q]?:=HB2.out.block q (zA1 HWB1.out)
 have HQ2:=zA0 hq2
 clear t0 t1 l4 l6 hq2
 by_cases hbad : (en zA2 x).2 = true
 · have HNA : Hid (¬ accT m t v x):=zA0 (fun h=>by have:=h.1; rw [hbad] at this; cases this)
   have hcb : zK5 (en zA2 x).2 = 1:=by rw [hbad]; rfl
   rw [hcb]
   clear hcb hbad
   go_upto_region 4 with (fail)
   refine wp_region_held_drew (S:=fun wz : World=>wz.cell? ⟨w.heap.size,0,none⟩ = some (.int .i64 t)/\wz.cell? ⟨w.heap.size,1,none⟩ = some (.int .i64 v)/\wz.cell? ⟨w.heap.size + 1,0,none⟩ = some (.int .i64 (sI x))/\wz.cell? ⟨q,5,none⟩ = some (.int .i64 m.base)) (by kernel_rfl) HCELLS.out (fun hHeld=>?_)
   refine tkHp 0 rfl (.int .i64 1) (by kernel_rfl) rfl (fun _ _ _=>id) hHeld (by intro w; go_simp) ?_
   try simp only [aPa,aPc,aPd]
   refine tkHp 1 rfl (.bool true) (by kernel_rfl) rfl (fun _ _ _=>id) hHeld (by intro w; go_simp) ?_
   try simp only [aPa,aPc,aPd]
   refine tkHp 2 rfl (.bool true) (by kernel_rfl) rfl (fun _ _ _=>id) hHeld (by intro w; go_simp) ?_
   try simp only [aPa,aPc,aPd]
   refine tkHn 3 rfl (by kernel_rfl) rfl (fun _ _ _=>id) hHeld ?_
   try simp only [aPa,aPc,aPd]
   refine tkHn 4 rfl (by kernel_rfl) rfl (fun _ _ _=>id) hHeld ?_
   try simp only [aPa,aPc,aPd]
   refine tkHn 5 rfl (by kernel_rfl) rfl (fun _ _ _=>id) hHeld ?_
   try simp only [aPa,aPc,aPd]
   refine tkHp 6 rfl (.bool true) (by kernel_rfl) rfl (fun _ _ _=>id) hHeld (by intro w; go_simp) ?_
   try simp only [aPa,aPc,aPd]
   refine tkHp 7 rfl (.bool true) (by kernel_rfl) rfl (fun _ _ _=>id) hHeld (by intro w; go_simp) ?_
   try simp only [aPa,aPc,aPd]
   refine tkHn 8 rfl (by kernel_rfl) rfl (fun _ _ _=>id) hHeld ?_
   try simp only [aPa,aPc,aPd]
   refine tkHn 9 rfl (by kernel_rfl) rfl (fun _ _ _=>id) hHeld ?_
   try simp only [aPa,aPc,aPd]
   refine tkHn 10 rfl (by kernel_rfl) rfl (fun _ _ _=>id) hHeld ?_
   try simp only [aPa,aPc,aPd]
   refine tkHp 11 rfl (.bool true) (by kernel_rfl) rfl (fun _ _ _=>id) hHeld (by intro w; go_simp) ?_
   try simp only [aPa,aPc,aPd]
   refine tkHp 12 rfl (.bool true) (by kernel_rfl) rfl (fun _ _ _=>id) hHeld (by intro w; go_simp) ?_
   try simp only [aPa,aPc,aPd]
   refine tkHn 13 rfl (by kernel_rfl) rfl (fun _ _ _=>id) hHeld ?_
   try simp only [aPa,aPc,aPd]
   refine tkHn 14 rfl (by kernel_rfl) rfl (fun _ _ _=>id) hHeld ?_
   try simp only [aPa,aPc,aPd]
   refine tkHn 15 rfl (by kernel_rfl) rfl (fun _ _ _=>id) hHeld ?_
   try simp only [aPa,aPc,aPd]
   refine tkHn 16 rfl (by kernel_rfl) rfl (fun _ _ _=>id) hHeld ?_
   try simp only [aPa,aPc,aPd]
   refine tkHn 17 rfl (by kernel_rfl) rfl (fun _ _ _=>id) hHeld ?_
   try simp only [aPa,aPc,aPd]
   refine tkHn 18 rfl (by kernel_rfl) rfl (fun _ _ _=>id) hHeld ?_
   try simp only [aPa,aPc,aPd]
   refine tkHn 19 rfl (by kernel_rfl) rfl (fun _ _ _=>id) hHeld ?_
   try simp only [aPa,aPc,aPd]
   refine tkHn 20 rfl (by kernel_rfl) rfl (fun _ _ _=>id) hHeld ?_
   try simp only [aPa,aPc,aPd]
   refine tkHp 21 rfl (.bool true) (by kernel_rfl) rfl (fun _ _ _=>id) hHeld (by intro w; go_simp) ?_
   try simp only [aPa,aPc,aPd]
   refine wpAnyH_done (by kernel_rfl) ?_ _
   have hBd:=HB02.out.drew
   have HBD:=zA0 hBd
   clear hBd
   go_wp2
   go_ret
   exact .inl ⟨HNA.out,rfl,HBD.out⟩
 · have hgood : (en zA2 x).2 = false:=by simpa using hbad
   have hcb : zK5 (en zA2 x).2 = 0:=by rw [hgood]; rfl
   have HBY : Hid (zD6 (en zA2 x) = (en zA2 x).1):=zA0 (by unfold zD6; rw [hgood]; rfl)
   have HGOOD:=zA0 hgood
   rw [hcb]
   clear hcb hbad hgood
   by_cases hH : okN t/\okN v
   · have HH:=zA0 hH
     clear hH
     by_cases h1 : sI x < 1
     · have HNA : Hid (¬ accT m t v x):=zA0 (fun h=>by have:=h.2.2.1; omega)
       have hd1 : decide (sI x < 1) = true:=decide_eq_true h1
       clear h1
       go_upto_region 4 with (fail)
       refine wp_region_held_drew (S:=fun wz : World=>wz.cell? ⟨w.heap.size,0,none⟩ = some (.int .i64 t)/\wz.cell? ⟨w.heap.size,1,none⟩ = some (.int .i64 v)/\wz.cell? ⟨w.heap.size + 1,0,none⟩ = some (.int .i64 (sI x))/\wz.cell? ⟨q,5,none⟩ = some (.int .i64 m.base)) (by kernel_rfl) HCELLS.out (fun hHeld=>?_)
       refine tkHp 0 rfl (.int .i64 0) (by kernel_rfl) rfl (fun _ _ _=>id) hHeld (by intro w; go_simp) ?_
       try simp only [aPa,aPc,aPd]
       refine tkHp 1 rfl (.bool false) (by kernel_rfl) rfl (fun _ _ _=>id) hHeld (by intro w; go_simp) ?_
       try simp only [aPa,aPc,aPd]
       refine tkHp 2 rfl (.bool false) (by kernel_rfl) rfl (fun _ _ _=>id) hHeld (by intro w; go_simp) ?_
       try simp only [aPa,aPc,aPd]
       refine tkH 3 rfl (.agg #[.int .i64 t,.int .i64 v]) (by kernel_rfl) rfl (fun _ _ _=>id) hHeld (by intro wz hSw; obtain ⟨e1,e2,e3,e4⟩:=hSw; go_simp) ?_
       try simp only [aPa,aPc,aPd]
       refine tkHc 4 rfl (by kernel_rfl) rfl (fun K hK=>?_)
       go_simp
       refine Calls.mono (zF4 t v _) ?_
       rintro e w3 ⟨rfl,hb3x⟩
       have hb3 : Below w2.heap.size w2 w3:=⟨hb3x.os,hb3x.tape,hb3x.output,hb3x.size,hb3x.block⟩
       rw [decide_eq_true HH.out]
       have HB03:=zA0 (HB02.out.trans (hb3.mono HB02.out.size))
       have HB23:=zA0 hb3
       have s3 : (fun wz:World=>wz.cell? ⟨w.heap.size,0,none⟩ = some (.int .i64 t)/\wz.cell? ⟨w.heap.size,1,none⟩ = some (.int .i64 v)/\wz.cell? ⟨w.heap.size + 1,0,none⟩ = some (.int .i64 (sI x))/\wz.cell? ⟨q,5,none⟩ = some (.int .i64 m.base)) w3:=⟨(hb3.cell (p:=⟨w.heap.size,0,none⟩) L42.out).trans HCELLS.out.1,(hb3.cell (p:=⟨w.heap.size,1,none⟩) L42.out).trans HCELLS.out.2.1,(hb3.cell (p:=⟨w.heap.size + 1,0,none⟩) L62.out).trans HCELLS.out.2.2.1,(hb3.cell (p:=⟨q,5,none⟩) LQ2.out).trans HCELLS.out.2.2.2⟩
       clear hb3 hb3x
       refine hK.out _ _ s3 (fun hHeld1=>?_)
       clear hK K
       try simp only [aPa,aPb,aPc,aPd]
       refine tkHp 5 rfl (.bool false) (by kernel_rfl) rfl (fun _ _ _=>id) hHeld1 (by intro w; go_simp) ?_
       try simp only [aPa,aPc,aPd]
       refine tkHp 6 rfl (.bool false) (by kernel_rfl) rfl (fun _ _ _=>id) hHeld1 (by intro w; go_simp) ?_
       try simp only [aPa,aPc,aPd]
       refine tkHp 7 rfl (.bool false) (by kernel_rfl) rfl (fun _ _ _=>id) hHeld1 (by intro w; go_simp) ?_
       try simp only [aPa,aPc,aPd]
       refine tkHp 8 rfl (.pointer (some ⟨w.heap.size + 1,0,none⟩)) (by kernel_rfl) rfl (fun _ _ _=>id) hHeld1 (by intro w; go_simp) ?_
       try simp only [aPa,aPc,aPd]
       refine tkH 9 rfl (.int .i64 (sI x)) (by kernel_rfl) rfl (fun _ _ _=>id) hHeld1 (by intro wz hSw; obtain ⟨e1,e2,e3,e4⟩:=hSw; go_simp) ?_
       try simp only [aPa,aPc,aPd]
       refine tkH 10 rfl (.bool true) (by kernel_rfl) rfl (fun _ _ _=>id) hHeld1 (by intro wz hSw; clear hSw; go_simp; try rw [hd1]) ?_
       try simp only [aPa,aPc,aPd]
       refine tkHp 11 rfl (.bool true) (by kernel_rfl) rfl (fun _ _ _=>id) hHeld1 (by intro w; go_simp) ?_
       try simp only [aPa,aPc,aPd]
       refine tkHp 12 rfl (.bool true) (by kernel_rfl) rfl (fun _ _ _=>id) hHeld1 (by intro w; go_simp) ?_
       try simp only [aPa,aPc,aPd]
       refine tkHn 13 rfl (by kernel_rfl) rfl (fun _ _ _=>id) hHeld1 ?_
       try simp only [aPa,aPc,aPd]
       refine tkHn 14 rfl (by kernel_rfl) rfl (fun _ _ _=>id) hHeld1 ?_
       try simp only [aPa,aPc,aPd]
       refine tkHn 15 rfl (by kernel_rfl) rfl (fun _ _ _=>id) hHeld1 ?_
       try simp only [aPa,aPc,aPd]
       refine tkHn 16 rfl (by kernel_rfl) rfl (fun _ _ _=>id) hHeld1 ?_
       try simp only [aPa,aPc,aPd]
       refine tkHn 17 rfl (by kernel_rfl) rfl (fun _ _ _=>id) hHeld1 ?_
       try simp only [aPa,aPc,aPd]
       refine tkHn 18 rfl (by kernel_rfl) rfl (fun _ _ _=>id) hHeld1 ?_
       try simp only [aPa,aPc,aPd]
       refine tkHn 19 rfl (by kernel_rfl) rfl (fun _ _ _=>id) hHeld1 ?_
       try simp only [aPa,aPc,aPd]
       refine tkHn 20 rfl (by kernel_rfl) rfl (fun _ _ _=>id) hHeld1 ?_
       try simp only [aPa,aPc,aPd]
       refine tkHp 21 rfl (.bool true) (by kernel_rfl) rfl (fun _ _ _=>id) hHeld1 (by intro w; go_simp) ?_
       try simp only [aPa,aPc,aPd]
       refine wpAnyH_done (by kernel_rfl) ?_ _
       go_wp2
       go_ret
       exact .inl ⟨HNA.out,rfl,HB03.out⟩
     · have hd1 : decide (sI x < 1) = false:=decide_eq_false h1
       by_cases h2 : sI x < m.base
       · have HNA : Hid (¬ accT m t v x):=zA0 (fun h=>by have:=h.2.2.2; omega)
         have hd2 : decide (sI x < m.base) = true:=decide_eq_true h2
         clear h1 h2
         go_upto_region 4 with (fail)
         refine wp_region_held_drew (S:=fun wz : World=>wz.cell? ⟨w.heap.size,0,none⟩ = some (.int .i64 t)/\wz.cell? ⟨w.heap.size,1,none⟩ = some (.int .i64 v)/\wz.cell? ⟨w.heap.size + 1,0,none⟩ = some (.int .i64 (sI x))/\wz.cell? ⟨q,5,none⟩ = some (.int .i64 m.base)) (by kernel_rfl) HCELLS.out (fun hHeld=>?_)
         refine tkHp 0 rfl (.int .i64 0) (by kernel_rfl) rfl (fun _ _ _=>id) hHeld (by intro w; go_simp) ?_
         try simp only [aPa,aPc,aPd]
         refine tkHp 1 rfl (.bool false) (by kernel_rfl) rfl (fun _ _ _=>id) hHeld (by intro w; go_simp) ?_
         try simp only [aPa,aPc,aPd]
         refine tkHp 2 rfl (.bool false) (by kernel_rfl) rfl (fun _ _ _=>id) hHeld (by intro w; go_simp) ?_
         try simp only [aPa,aPc,aPd]
         refine tkH 3 rfl (.agg #[.int .i64 t,.int .i64 v]) (by kernel_rfl) rfl (fun _ _ _=>id) hHeld (by intro wz hSw; obtain ⟨e1,e2,e3,e4⟩:=hSw; go_simp) ?_
         try simp only [aPa,aPc,aPd]
         refine tkHc 4 rfl (by kernel_rfl) rfl (fun K hK=>?_)
         go_simp
         refine Calls.mono (zF4 t v _) ?_
         rintro e w3 ⟨rfl,hb3x⟩
         have hb3 : Below w2.heap.size w2 w3:=⟨hb3x.os,hb3x.tape,hb3x.output,hb3x.size,hb3x.block⟩
         rw [decide_eq_true HH.out]
         have HB03:=zA0 (HB02.out.trans (hb3.mono HB02.out.size))
         have HB23:=zA0 hb3
         have s3 : (fun wz:World=>wz.cell? ⟨w.heap.size,0,none⟩ = some (.int .i64 t)/\wz.cell? ⟨w.heap.size,1,none⟩ = some (.int .i64 v)/\wz.cell? ⟨w.heap.size + 1,0,none⟩ = some (.int .i64 (sI x))/\wz.cell? ⟨q,5,none⟩ = some (.int .i64 m.base)) w3:=⟨(hb3.cell (p:=⟨w.heap.size,0,none⟩) L42.out).trans HCELLS.out.1,(hb3.cell (p:=⟨w.heap.size,1,none⟩) L42.out).trans HCELLS.out.2.1,(hb3.cell (p:=⟨w.heap.size + 1,0,none⟩) L62.out).trans HCELLS.out.2.2.1,(hb3.cell (p:=⟨q,5,none⟩) LQ2.out).trans HCELLS.out.2.2.2⟩
         clear hb3 hb3x
         refine hK.out _ _ s3 (fun hHeld1=>?_)
         clear hK K
         try simp only [aPa,aPb,aPc,aPd]
         refine tkHp 5 rfl (.bool false) (by kernel_rfl) rfl (fun _ _ _=>id) hHeld1 (by intro w; go_simp) ?_
         try simp only [aPa,aPc,aPd]
         refine tkHp 6 rfl (.bool false) (by kernel_rfl) rfl (fun _ _ _=>id) hHeld1 (by intro w; go_simp) ?_
         try simp only [aPa,aPc,aPd]
         refine tkHp 7 rfl (.bool false) (by kernel_rfl) rfl (fun _ _ _=>id) hHeld1 (by intro w; go_simp) ?_
         try simp only [aPa,aPc,aPd]
         refine tkHp 8 rfl (.pointer (some ⟨w.heap.size + 1,0,none⟩)) (by kernel_rfl) rfl (fun _ _ _=>id) hHeld1 (by intro w; go_simp) ?_
         try simp only [aPa,aPc,aPd]
         refine tkH 9 rfl (.int .i64 (sI x)) (by kernel_rfl) rfl (fun _ _ _=>id) hHeld1 (by intro wz hSw; obtain ⟨e1,e2,e3,e4⟩:=hSw; go_simp) ?_
         try simp only [aPa,aPc,aPd]
         refine tkH 10 rfl (.bool false) (by kernel_rfl) rfl (fun _ _ _=>id) hHeld1 (by intro wz hSw; clear hSw; go_simp; try rw [hd1]) ?_
         try simp only [aPa,aPc,aPd]
         refine tkHp 11 rfl (.bool false) (by kernel_rfl) rfl (fun _ _ _=>id) hHeld1 (by intro w; go_simp) ?_
         try simp only [aPa,aPc,aPd]
         refine tkHp 12 rfl (.bool false) (by kernel_rfl) rfl (fun _ _ _=>id) hHeld1 (by intro w; go_simp) ?_
         try simp only [aPa,aPc,aPd]
         refine tkHp 13 rfl (.pointer (some ⟨w.heap.size + 1,0,none⟩)) (by kernel_rfl) rfl (fun _ _ _=>id) hHeld1 (by intro w; go_simp) ?_
         try simp only [aPa,aPc,aPd]
         refine tkH 14 rfl (.int .i64 (sI x)) (by kernel_rfl) rfl (fun _ _ _=>id) hHeld1 (by intro wz hSw; obtain ⟨e1,e2,e3,e4⟩:=hSw; go_simp) ?_
         try simp only [aPa,aPc,aPd]
         refine tkHp 15 rfl (.pointer (some ⟨q,0,none⟩)) (by kernel_rfl) rfl (fun _ _ _=>id) hHeld1 (by intro w; go_simp) ?_
         try simp only [aPa,aPc,aPd]
         refine tkHp 16 rfl (.pointer (some ⟨q,0,none⟩)) (by kernel_rfl) rfl (fun _ _ _=>id) hHeld1 (by intro w; go_simp) ?_
         try simp only [aPa,aPc,aPd]
         refine tkHp 17 rfl (.pointer (some ⟨q,2,none⟩)) (by kernel_rfl) rfl (fun _ _ _=>id) hHeld1 (by intro w; go_simp) ?_
         try simp only [aPa,aPc,aPd]
         refine tkHp 18 rfl (.pointer (some ⟨q,5,none⟩)) (by kernel_rfl) rfl (fun _ _ _=>id) hHeld1 (by intro w; go_simp) ?_
         try simp only [aPa,aPc,aPd]
         refine tkH 19 rfl (.int .i64 m.base) (by kernel_rfl) rfl (fun _ _ _=>id) hHeld1 (by intro wz hSw; obtain ⟨e1,e2,e3,e4⟩:=hSw; go_simp) ?_
         try simp only [aPa,aPc,aPd]
         refine tkH 20 rfl (.bool true) (by kernel_rfl) rfl (fun _ _ _=>id) hHeld1 (by intro wz hSw; clear hSw; go_simp; try rw [hd2]) ?_
         try simp only [aPa,aPc,aPd]
         refine tkHp 21 rfl (.bool true) (by kernel_rfl) rfl (fun _ _ _=>id) hHeld1 (by intro w; go_simp) ?_
         try simp only [aPa,aPc,aPd]
         refine wpAnyH_done (by kernel_rfl) ?_ _
         go_wp2
         go_ret
         exact .inl ⟨HNA.out,rfl,HB03.out⟩
       · have HACC : Hid (accT m t v x):=zA0 ⟨HGOOD.out,HH.out,by omega,by omega⟩
         have HI0 : Hid (1<=sI x/\m.base<=sI x/\sI x<=1099511627776):=zA0 ⟨by omega,by omega,xJ5 HGOOD.out⟩
         have hd2 : decide (sI x < m.base) = false:=decide_eq_false h2
         clear h1 h2
         go_upto_region 4 with (fail)
         refine wp_region_held_drew (S:=fun wz : World=>wz.cell? ⟨w.heap.size,0,none⟩ = some (.int .i64 t)/\wz.cell? ⟨w.heap.size,1,none⟩ = some (.int .i64 v)/\wz.cell? ⟨w.heap.size + 1,0,none⟩ = some (.int .i64 (sI x))/\wz.cell? ⟨q,5,none⟩ = some (.int .i64 m.base)) (by kernel_rfl) HCELLS.out (fun hHeld=>?_)
         refine tkHp 0 rfl (.int .i64 0) (by kernel_rfl) rfl (fun _ _ _=>id) hHeld (by intro w; go_simp) ?_
         try simp only [aPa,aPc,aPd]
         refine tkHp 1 rfl (.bool false) (by kernel_rfl) rfl (fun _ _ _=>id) hHeld (by intro w; go_simp) ?_
         try simp only [aPa,aPc,aPd]
         refine tkHp 2 rfl (.bool false) (by kernel_rfl) rfl (fun _ _ _=>id) hHeld (by intro w; go_simp) ?_
         try simp only [aPa,aPc,aPd]
         refine tkH 3 rfl (.agg #[.int .i64 t,.int .i64 v]) (by kernel_rfl) rfl (fun _ _ _=>id) hHeld (by intro wz hSw; obtain ⟨e1,e2,e3,e4⟩:=hSw; go_simp) ?_
         try simp only [aPa,aPc,aPd]
         refine tkHc 4 rfl (by kernel_rfl) rfl (fun K hK=>?_)
         go_simp
         refine Calls.mono (zF4 t v _) ?_
         rintro e w3 ⟨rfl,hb3x⟩
         have hb3 : Below w2.heap.size w2 w3:=⟨hb3x.os,hb3x.tape,hb3x.output,hb3x.size,hb3x.block⟩
         rw [decide_eq_true HH.out]
         have HB03:=zA0 (HB02.out.trans (hb3.mono HB02.out.size))
         have HB23:=zA0 hb3
         have s3 : (fun wz:World=>wz.cell? ⟨w.heap.size,0,none⟩ = some (.int .i64 t)/\wz.cell? ⟨w.heap.size,1,none⟩ = some (.int .i64 v)/\wz.cell? ⟨w.heap.size + 1,0,none⟩ = some (.int .i64 (sI x))/\wz.cell? ⟨q,5,none⟩ = some (.int .i64 m.base)) w3:=⟨(hb3.cell (p:=⟨w.heap.size,0,none⟩) L42.out).trans HCELLS.out.1,(hb3.cell (p:=⟨w.heap.size,1,none⟩) L42.out).trans HCELLS.out.2.1,(hb3.cell (p:=⟨w.heap.size + 1,0,none⟩) L62.out).trans HCELLS.out.2.2.1,(hb3.cell (p:=⟨q,5,none⟩) LQ2.out).trans HCELLS.out.2.2.2⟩
         clear hb3 hb3x
         refine hK.out _ _ s3 (fun hHeld1=>?_)
         clear hK K
         try simp only [aPa,aPb,aPc,aPd]
         refine tkHp 5 rfl (.bool false) (by kernel_rfl) rfl (fun _ _ _=>id) hHeld1 (by intro w; go_simp) ?_
         try simp only [aPa,aPc,aPd]
         refine tkHp 6 rfl (.bool false) (by kernel_rfl) rfl (fun _ _ _=>id) hHeld1 (by intro w; go_simp) ?_
         try simp only [aPa,aPc,aPd]
         refine tkHp 7 rfl (.bool false) (by kernel_rfl) rfl (fun _ _ _=>id) hHeld1 (by intro w; go_simp) ?_
         try simp only [aPa,aPc,aPd]
         refine tkHp 8 rfl (.pointer (some ⟨w.heap.size + 1,0,none⟩)) (by kernel_rfl) rfl (fun _ _ _=>id) hHeld1 (by intro w; go_simp) ?_
         try simp only [aPa,aPc,aPd]
         refine tkH 9 rfl (.int .i64 (sI x)) (by kernel_rfl) rfl (fun _ _ _=>id) hHeld1 (by intro wz hSw; obtain ⟨e1,e2,e3,e4⟩:=hSw; go_simp) ?_
         try simp only [aPa,aPc,aPd]
         refine tkH 10 rfl (.bool false) (by kernel_rfl) rfl (fun _ _ _=>id) hHeld1 (by intro wz hSw; clear hSw; go_simp; try rw [hd1]) ?_
         try simp only [aPa,aPc,aPd]
         refine tkHp 11 rfl (.bool false) (by kernel_rfl) rfl (fun _ _ _=>id) hHeld1 (by intro w; go_simp) ?_
         try simp only [aPa,aPc,aPd]
         refine tkHp 12 rfl (.bool false) (by kernel_rfl) rfl (fun _ _ _=>id) hHeld1 (by intro w; go_simp) ?_
         try simp only [aPa,aPc,aPd]
         refine tkHp 13 rfl (.pointer (some ⟨w.heap.size + 1,0,none⟩)) (by kernel_rfl) rfl (fun _ _ _=>id) hHeld1 (by intro w; go_simp) ?_
         try simp only [aPa,aPc,aPd]
         refine tkH 14 rfl (.int .i64 (sI x)) (by kernel_rfl) rfl (fun _ _ _=>id) hHeld1 (by intro wz hSw; obtain ⟨e1,e2,e3,e4⟩:=hSw; go_simp) ?_
         try simp only [aPa,aPc,aPd]
         refine tkHp 15 rfl (.pointer (some ⟨q,0,none⟩)) (by kernel_rfl) rfl (fun _ _ _=>id) hHeld1 (by intro w; go_simp) ?_
         try simp only [aPa,aPc,aPd]
         refine tkHp 16 rfl (.pointer (some ⟨q,0,none⟩)) (by kernel_rfl) rfl (fun _ _ _=>id) hHeld1 (by intro w; go_simp) ?_
         try simp only [aPa,aPc,aPd]
         refine tkHp 17 rfl (.pointer (some ⟨q,2,none⟩)) (by kernel_rfl) rfl (fun _ _ _=>id) hHeld1 (by intro w; go_simp) ?_
         try simp only [aPa,aPc,aPd]
         refine tkHp 18 rfl (.pointer (some ⟨q,5,none⟩)) (by kernel_rfl) rfl (fun _ _ _=>id) hHeld1 (by intro w; go_simp) ?_
         try simp only [aPa,aPc,aPd]
         refine tkH 19 rfl (.int .i64 m.base) (by kernel_rfl) rfl (fun _ _ _=>id) hHeld1 (by intro wz hSw; obtain ⟨e1,e2,e3,e4⟩:=hSw; go_simp) ?_
         try simp only [aPa,aPc,aPd]
         refine tkH 20 rfl (.bool false) (by kernel_rfl) rfl (fun _ _ _=>id) hHeld1 (by intro wz hSw; clear hSw; go_simp; try rw [hd2]) ?_
         try simp only [aPa,aPc,aPd]
         refine tkHp 21 rfl (.bool false) (by kernel_rfl) rfl (fun _ _ _=>id) hHeld1 (by intro w; go_simp) ?_
         try simp only [aPa,aPc,aPd]
         refine wpAnyH_done (by kernel_rfl) ?_ _
         have hHx:=hHeld1
         obtain ⟨t0,t1,u6,u5⟩:=hHx
         have U6:=zA0 u6
         have hwb3 : Wb w3 q p false m (.slice sva svn svc) (.slice eva m.bs.length evc):=((HB23.out.block q LQ2.out).trans HQ2.out).trans HWB1.out
         have l43 : w.heap.size < w3.heap.size:=Nat.lt_of_lt_of_le L42.out HB23.out.size
         have l63 : w.heap.size + 1 < w3.heap.size:=Nat.lt_of_lt_of_le L62.out HB23.out.size
         have L63:=zA0 l63
         have HOWN3:=zA0 (HOWN.out.below HB23.out)
         have HWB3:=zA0 hwb3
         have HNOK:=zA0 (yJ2 (all:=all) H.out.okd HACC.out)
         have HNLN : Hid ((nxT m t v x all).bs.length<=2097152):=zA0 (by have:=xD0 (m:=m) (t:=t) (v:=v) (x:=x) (all:=all); have:=H.out.len; omega)
         obtain ⟨b11,hb11⟩ : ∃ b11,b11 = w3.heap.size:=⟨_,rfl⟩
         obtain ⟨w4,hw4⟩ : ∃ w4,w4 = w3.alloc (.cells #[.int .i64 t,.int .i64 v,.slice ba bl bc,.int .i64 (sI x),.slice none 0 0] 94):=⟨_,rfl⟩
         clear hwb3 u5 hHeld1 hHeld hd1 hd2
         go_upto_region 7 with (fail)
         rw [<- hb11,<- hw4]
         have HB34 : Hid (Below w3.heap.size w3 w4):=zA0 (by rw [hw4]; exact zB5 w3 _)
         have G4 : Hid (w4.heap[b11]? = some (.cells #[.int .i64 t,.int .i64 v,.slice ba bl bc,.int .i64 (sI x),.slice none 0 0] 94 (0,0))):=zA0 (by rw [hw4,hb11]; exact heap_alloc_new w3 _)
         have B11:=zA0 hb11
         clear hw4 hb11 t0 t1 u6 l43 l63
         cases all with
         | true =>
          obtain ⟨w5,hw5⟩ : ∃ w5,w5 = w4:=⟨_,rfl⟩
          rw [<- hw5]
          have G5 : Hid (w5.heap[b11]? = some (.cells #[.int .i64 t,.int .i64 v,.slice ba bl bc,.int .i64 (sI x),.slice none 0 0] 94 (0,0))):=zA0 (by rw [hw5]; exact G4.out)
          have HB35 : Hid (Below w3.heap.size w3 w5):=zA0 (by rw [hw5]; exact HB34.out)
          have HROW5 : Hid (RowB w5 (Sw w5 F q) (.slice none 0 0) (nxT m t v x true).bs):=zA0 ⟨none,0,rfl,Nat.le_refl _,by unfold maxLen; omega,fun h=>absurd rfl h⟩
          clear hw5 HB34 G4
          obtain ⟨xa,hxa⟩ : ∃ xa : Option Addr,xa = none:=⟨_,rfl⟩
          obtain ⟨xn,hxn⟩ : ∃ xn : Nat,xn = 0:=⟨_,rfl⟩
          obtain ⟨xc,hxc⟩ : ∃ xc : Nat,xc = 0:=⟨_,rfl⟩
          have G5x : Hid (w5.heap[b11]? = some (.cells #[.int .i64 t,.int .i64 v,.slice ba bl bc,.int .i64 (sI x),.slice xa xn xc] 94 (0,0))):=zA0 (by rw [hxa,hxn,hxc]; exact G5.out)
          have HROW5x : Hid (RowB w5 (Sw w5 F q) (.slice xa xn xc) (nxT m t v x true).bs):=zA0 (by rw [hxa,hxn,hxc]; exact HROW5.out)
          clear hxa hxn hxc G5 HROW5
          have HBW5:=zA0 (HB03.out.trans (HB35.out.mono HB03.out.size))
          have H5:=zA0 (H.out.below HBW5.out)
          have HWB5 : Hid (Wb w5 q p false m (.slice sva svn svc) (.slice eva m.bs.length evc)):=zA0 ((HB35.out.block q (zA1 HWB3.out)).trans HWB3.out)
          have HSN5 : Hid (BodV w5 (Sw w5 F q) (.slice ba bl bc) (en zA2 x).1):=zA0 (by
           have h1 : SlR w3 (.slice ba bl bc) (en zA2 x).1:=by have:=SlR.own HOWN3.out; rw [HBY.out] at this; exact this
           refine ⟨h1.grow HB35.out,fun k hk=>⟨Nat.lt_of_lt_of_le (h1.lt k hk) HB35.out.size,fun e=>?_,?_⟩⟩
           · have:=H.out.dsk.flt _ e; have:=HNEW.out k hk; have:=HS1.out; omega
           · have:=HNEW.out k hk; have:=LQ.out; have:=HS1.out; omega)
          have HNXC : Hid (zJ6 w5 (Sw w5 F q) [.int .i64 t,.int .i64 v,.slice ba bl bc,.int .i64 (sI x),.slice xa xn xc] (nxT m t v x true)):=zA0 ⟨_,_,rfl,HSN5.out,HROW5x.out⟩
          have HAT : Hid (zE7 w5 (Sw w5 F q) b11 0 (nxT m t v x true)):=zA0 ⟨_,HNXC.out,fun j v hv=>by rw [Nat.zero_add,cell_of_row _ _ _ _ 94 (0,0) G5x.out]; simpa using hv⟩
          have L5:=zA0 (zA1 G5x.out)
          have LQ5:=zA0 (zA1 HWB5.out)
          have HFM:=zA0 (zP0 (Sw w5 F q) b11 0 (nxT m t v x true) w5 HAT.out (fun k hk=>hk.1) L5.out (HNOK.out.fr (by have:=HNLN.out; omega)))
          clear HSN5 HROW5x HAT
          go_wp2_with fail
          refine Calls.mono HFM.out ?_
          rintro e w6 ⟨v6,rfl,ho6,hn6,hb6x⟩
          have hb6 : Below w5.heap.size w5 w6:=⟨hb6x.os,hb6x.tape,hb6x.output,hb6x.size,hb6x.block⟩
          obtain ⟨ga,gc,hv6,hbs6⟩:=ho6.form
          subst hv6
          have HB56:=zA0 hb6
          have HBS6:=zA0 (hbs6 (by have:=HNL.out HACC.out; omega))
          have HWB6 : Hid (Wb w6 q p false m (.slice sva svn svc) (.slice eva m.bs.length evc)):=zA0 ((hb6.block q LQ5.out).trans HWB5.out)
          have H6:=zA0 (H5.out.below hb6)
          have HFL : Hid (∀ k,F k->k < w.heap.size):=zA0 (fun k hk=>H.out.dsk.flt k hk)
          have HWN:=zA0 (zH5 q p cnt false _ _ _ _ _ ga (zC9 (nxT m t v x true)).length gc (zC9 (nxT m t v x true)) M F w6 H6.out.dsk HWB6.out H.out.nq rfl HBS6.out (yE0 ho6) (yE1 (B:=w5.heap.size) ho6 hn6 (fun k hk=>by have:=HFL.out k hk; have:=HBW5.out.size; omega)) (HNL.out HACC.out) HFW.out HC.out)
          obtain ⟨gn,hgn⟩ : ∃ gn,gn = (zC9 (nxT m t v x true)).length:=⟨_,rfl⟩
          rw [<- hgn] at HWN ⊢
          clear hb6 hb6x ho6 hn6 hbs6 hgn HFM
          go_wp2_with fail
          refine Calls.mono HWN.out ?_
          rintro e w8y ⟨k,F',hk1,hk2,hd8,hcase8⟩
          have hd9:=hd8.cnt (cnt':=cnt + 4) (Nat.le_refl _) (by have:=HC.out; omega)
          have NB11 : ¬ F b11:=fun e=>by have:=HFL.out _ e; have:=B11.out; have:=HB03.out.size; omega
          have LQ6:=zA0 (zA1 HWB6.out)
          have G6:=zA0 ((HB56.out.block b11 L5.out).trans G5x.out)
          have L6:=zA0 (zA1 G6.out)
          have HB06:=zA0 (HBW5.out.trans (HB56.out.mono HBW5.out.size))
          have HNX6:=zA0 (HNXC.out.kept (S':=Sw w6 F q) HB56.out.size (fun k hk=>HB56.out.block k hk.1) (fun k hk=>⟨Nat.lt_of_lt_of_le hk.1 HB56.out.size,hk.2⟩))
          rcases hcase8 with ⟨hk3,rfl,hf8⟩ | ⟨hk3,hz8,rfl,w9,hf9,rfl⟩
          · have hq8 : Wb w8y q p false m (.slice sva svn svc) (.slice eva m.bs.length evc):=(hf8.block q LQ6.out H.out.nq).trans HWB6.out
            obtain ⟨c0,c1,c2,c3,c4,c5,c6,lq8,fq8⟩:=hq8.cells
            have g8 : w8y.heap[b11]? = _:=(hf8.block b11 L6.out NB11).trans G6.out
            have e0 : w8y.cell? ⟨b11,0,none⟩ = some (.int .i64 t):=cor g8 rfl
            have e1 : w8y.cell? ⟨b11,1,none⟩ = some (.int .i64 v):=cor g8 rfl
            have e2 : w8y.cell? ⟨b11,2,none⟩ = some (.slice ba bl bc):=cor g8 rfl
            have e3 : w8y.cell? ⟨b11,3,none⟩ = some (.int .i64 (sI x)):=cor g8 rfl
            have e4 : w8y.cell? ⟨b11,4,none⟩ = some (.slice xa xn xc):=cor g8 rfl
            have l11:=zA1 g8
            have HK1:=zA0 hk1
            have HK2:=zA0 hk2
            have HK3:=zA0 hk3
            have HF8:=zA0 hf8
            have HD9:=zA0 hd9
            clear hk1 hk2 hk3 hf8 hd8 hd9 hq8 g8 c0 NB11
            go_wp2
            go_ret
            have hset:=WalR.setS H6.out HF8.out HD9.out HNX6.out HNOK.out HNLN.out
            refine .inr ⟨HACC.out,k,F',HK1.out,HK2.out,?_,.inl ⟨HK3.out,rfl,hset⟩⟩
            exact (((((((Fr.of_below HB06.out).trans HF8.out).toQ q).setQ 2 _).setQ 3 _).setQ 4 _).setQ 5 _).setQ 6 _
          · have HK1:=zA0 hk1
            have HK2:=zA0 hk2
            have HK3:=zA0 hk3
            have HF9:=zA0 hf9
            have HZ8:=zA0 hz8
            have HD9:=zA0 hd9
            clear hk1 hk2 hk3 hf9 hd8 hd9 hz8 NB11
            go_wp2
            go_ret
            exact .inr ⟨HACC.out,k,F',HK1.out,HK2.out,(((Fr.of_below HB06.out).trans HF9.out).toQ q).setQ 1 _,.inr ⟨HK3.out,HZ8.out,rfl,WalR.fail H6.out HF9.out HD9.out⟩⟩
         | false =>
          have HBW4:=zA0 (HB03.out.trans (HB34.out.mono HB03.out.size))
          have H4:=zA0 (H.out.below HBW4.out)
          have Z4 : Hid (w4.cell? ⟨w.heap.size + 1,0,none⟩ = some (.int .i64 (sI x))):=zA0 ((HB34.out.cell (p:=⟨w.heap.size + 1,0,none⟩) L63.out).trans U6.out)
          have HAB:=zA0 (xH4 (fun k=>k < w3.heap.size/\¬ F k/\k ≠ q) q 2 m (sI x) w4.drew (show zE7 w4 (fun k=>k < w3.heap.size/\¬ F k/\k ≠ q) q 2 m from H.out.at.kept HBW4.out.size (fun k hk=>HBW4.out.block k hk.1) (fun k hk=>⟨Nat.lt_of_lt_of_le hk.1 HB03.out.size,hk.2⟩) (HBW4.out.block q LQ.out)) (fun k hk=>Nat.lt_of_lt_of_le hk.1 HB34.out.size) H4.out.lq H.out.okd.base (by have:=H.out.len; omega) ⟨HI0.out.2.1,HI0.out.2.2⟩)
          have L64 : Hid (w.heap.size + 1 < w4.heap.size):=zA0 (Nat.lt_of_lt_of_le L63.out HB34.out.size)
          go_upto_region 8 with (fail)
          refine zD8 (fun wz:World=>wz.cell? ⟨w.heap.size + 1,0,none⟩ = some (.int .i64 (sI x))) 7 (by kernel_rfl) ?_
          have hHeld : (fun wz:World=>wz.cell? ⟨w.heap.size + 1,0,none⟩ = some (.int .i64 (sI x))) _:=Z4.out
          refine tkL 0 rfl (.pointer (some ⟨q,0,none⟩)) (by kernel_rfl) rfl (fun _ _ _=>id) hHeld (by intro w hSw; (try dsimp only at hSw); go_simp) ?_
          try simp only [aPa,aPc,aPd]
          refine tkL 1 rfl (.pointer (some ⟨q,0,none⟩)) (by kernel_rfl) rfl (fun _ _ _=>id) hHeld (by intro w hSw; (try dsimp only at hSw); go_simp) ?_
          try simp only [aPa,aPc,aPd]
          refine tkL 2 rfl (.pointer (some ⟨q,2,none⟩)) (by kernel_rfl) rfl (fun _ _ _=>id) hHeld (by intro w hSw; (try dsimp only at hSw); go_simp) ?_
          try simp only [aPa,aPc,aPd]
          refine tkL 3 rfl (.pointer (some ⟨w.heap.size + 1,0,none⟩)) (by kernel_rfl) rfl (fun _ _ _=>id) hHeld (by intro w hSw; (try dsimp only at hSw); go_simp) ?_
          try simp only [aPa,aPc,aPd]
          refine tkL 4 rfl (.int .i64 (sI x)) (by kernel_rfl) rfl (fun _ _ _=>id) hHeld (by intro w hSw; go_simp) ?_
          try simp only [aPa,aPc,aPd]
          refine tkLc 5 rfl (by kernel_rfl) rfl (fun K hK=>?_)
          go_simp
          refine Calls.mono HAB.out ?_
          rintro e w8 ⟨vw,rfl,hrw,hbw⟩
          obtain ⟨xa,xc,hvw,_⟩:=id hrw
          obtain ⟨xn,hxn⟩ : ∃ xn,xn = (m.bs.drop (min (sI x) (m.base + m.bs.length) - m.base).toNat).length:=⟨_,rfl⟩
          rw [<- hxn] at hvw
          subst hvw
          have HRW8:=zA0 hrw
          have HXN:=zA0 hxn
          have HB8 : Hid (Below w4.heap.size w4 w8):=zA0 ⟨hbw.os,hbw.tape,hbw.output,hbw.size,hbw.block⟩
          have s8 : (fun wz:World=>wz.cell? ⟨w.heap.size + 1,0,none⟩ = some (.int .i64 (sI x))) w8:=(HB8.out.cell (p:=⟨w.heap.size + 1,0,none⟩) L64.out).trans Z4.out
          have g118 : w8.heap[b11]? = _:=(HB8.out.block _ (zA1 G4.out)).trans G4.out
          have k4 : w8.cell? ⟨b11,4,none⟩ = some (.slice none 0 0):=cor g118 rfl
          have fk4 : w8.frozen? ⟨b11,4,none⟩ = false:=by simp [World.frozen?,g118]
          have lk4:=zA1 g118
          clear hrw hbw hxn g118
          refine hK.out _ _ (fun _=>s8) ?_
          have hHeld:=s8
          clear hK K
          try simp only [aPa,aPb,aPc,aPd]
          refine tkL 6 rfl (.pointer (some ⟨b11,4,none⟩)) (by kernel_rfl) rfl (fun _ _ _=>id) hHeld (by intro w hSw; (try dsimp only at hSw); go_simp) ?_
          try simp only [aPa,aPc,aPd]
          refine tkLc 7 rfl (by kernel_rfl) rfl (fun K hK=>?_)
          clear hHeld
          go_simp
          refine hK.out _ _ (fun h=>absurd rfl h) ?_
          clear hK K
          try simp only [aPa,aPb,aPc,aPd]
          refine zD9 (by kernel_rfl) ?_ _
          have hk6 : ∀ j,j ≠ b11->(w8.setCell ⟨b11,4,none⟩ (.slice xa xn xc)).heap[j]? = w8.heap[j]?:=fun j hj=>zB0 _ _ 4 _ j hj
          obtain ⟨w5,hw5⟩ : ∃ w5,w5 = w8.setCell ⟨b11,4,none⟩ (.slice xa xn xc):=⟨_,rfl⟩
          rw [<- hw5] at hk6 ⊢
          have hs5 : w5.heap.size = w8.heap.size:=by rw [hw5]; simp
          have G5x : Hid (w5.heap[b11]? = some (.cells #[.int .i64 t,.int .i64 v,.slice ba bl bc,.int .i64 (sI x),.slice xa xn xc] 94 (0,0))):=zA0 (by rw [hw5,heap_setCell_same w8 _ 4 _ 94 _ ((HB8.out.block _ (zA1 G4.out)).trans G4.out)]; rfl)
          have hB85 : Below w3.heap.size w8 w5:=by rw [hw5]; exact zC2 (by rw [B11.out]; exact Nat.le_refl _) w8 4 _
          have HB35 : Hid (Below w3.heap.size w3 w5):=zA0 ((HB34.out.trans (HB8.out.mono HB34.out.size)).trans hB85)
          have HROW5x : Hid (RowB w5 (Sw w5 F q) (.slice xa xn xc) (nxT m t v x false).bs):=zA0 (by
           have hr:=HRW8.out
           rw [xN6 m _ HI0.out.2.1] at hr
           have hr2 : RowB w8 (fun k=>k ≠ b11/\k < w8.heap.size/\¬ F k/\k ≠ q) (.slice xa xn xc) (nxT m t v x false).bs:=by
            have:=hr.mono (S':=fun k=>k ≠ b11/\k < w8.heap.size/\¬ F k/\k ≠ q) (fun k hk hl=>?_)
            · exact this
            · rcases hk with hk | hk
              · exact ⟨by have:=hk.1; have:=B11.out; omega,hl,hk.2⟩
              · have h1:=zA1 G4.out
                have h2 : w4.heap.size<=k:=hk
                exact ⟨by omega,hl,fun e=>by have:=H4.out.dsk.flt _ e; omega,by have:=H4.out.lq; omega⟩
           exact hr2.kept (by omega) (fun k hk=>hk6 k hk.1) (fun k hk=>⟨by rw [hs5]; exact hk.2.1,hk.2.2⟩))
          clear hw5 hk6 hs5 hB85 HRW8 HAB
          have HBW5:=zA0 (HB03.out.trans (HB35.out.mono HB03.out.size))
          have H5:=zA0 (H.out.below HBW5.out)
          have HWB5 : Hid (Wb w5 q p false m (.slice sva svn svc) (.slice eva m.bs.length evc)):=zA0 ((HB35.out.block q (zA1 HWB3.out)).trans HWB3.out)
          have HSN5 : Hid (BodV w5 (Sw w5 F q) (.slice ba bl bc) (en zA2 x).1):=zA0 (by
           have h1 : SlR w3 (.slice ba bl bc) (en zA2 x).1:=by have:=SlR.own HOWN3.out; rw [HBY.out] at this; exact this
           refine ⟨h1.grow HB35.out,fun k hk=>⟨Nat.lt_of_lt_of_le (h1.lt k hk) HB35.out.size,fun e=>?_,?_⟩⟩
           · have:=H.out.dsk.flt _ e; have:=HNEW.out k hk; have:=HS1.out; omega
           · have:=HNEW.out k hk; have:=LQ.out; have:=HS1.out; omega)
          have HNXC : Hid (zJ6 w5 (Sw w5 F q) [.int .i64 t,.int .i64 v,.slice ba bl bc,.int .i64 (sI x),.slice xa xn xc] (nxT m t v x false)):=zA0 ⟨_,_,rfl,HSN5.out,HROW5x.out⟩
          have HAT : Hid (zE7 w5 (Sw w5 F q) b11 0 (nxT m t v x false)):=zA0 ⟨_,HNXC.out,fun j v hv=>by rw [Nat.zero_add,cell_of_row _ _ _ _ 94 (0,0) G5x.out]; simpa using hv⟩
          have L5:=zA0 (zA1 G5x.out)
          have LQ5:=zA0 (zA1 HWB5.out)
          have HFM:=zA0 (zP0 (Sw w5 F q) b11 0 (nxT m t v x false) w5 HAT.out (fun k hk=>hk.1) L5.out (HNOK.out.fr (by have:=HNLN.out; omega)))
          clear HSN5 HROW5x HAT
          go_wp2_with fail
          refine Calls.mono HFM.out ?_
          rintro e w6 ⟨v6,rfl,ho6,hn6,hb6x⟩
          have hb6 : Below w5.heap.size w5 w6:=⟨hb6x.os,hb6x.tape,hb6x.output,hb6x.size,hb6x.block⟩
          obtain ⟨ga,gc,hv6,hbs6⟩:=ho6.form
          subst hv6
          have HB56:=zA0 hb6
          have HBS6:=zA0 (hbs6 (by have:=HNL.out HACC.out; omega))
          have HWB6 : Hid (Wb w6 q p false m (.slice sva svn svc) (.slice eva m.bs.length evc)):=zA0 ((hb6.block q LQ5.out).trans HWB5.out)
          have H6:=zA0 (H5.out.below hb6)
          have HFL : Hid (∀ k,F k->k < w.heap.size):=zA0 (fun k hk=>H.out.dsk.flt k hk)
          have HWN:=zA0 (zH5 q p cnt false _ _ _ _ _ ga (zC9 (nxT m t v x false)).length gc (zC9 (nxT m t v x false)) M F w6 H6.out.dsk HWB6.out H.out.nq rfl HBS6.out (yE0 ho6) (yE1 (B:=w5.heap.size) ho6 hn6 (fun k hk=>by have:=HFL.out k hk; have:=HBW5.out.size; omega)) (HNL.out HACC.out) HFW.out HC.out)
          obtain ⟨gn,hgn⟩ : ∃ gn,gn = (zC9 (nxT m t v x false)).length:=⟨_,rfl⟩
          rw [<- hgn] at HWN ⊢
          clear hb6 hb6x ho6 hn6 hbs6 hgn HFM
          go_wp2_with fail
          refine Calls.mono HWN.out ?_
          rintro e w8y ⟨k,F',hk1,hk2,hd8,hcase8⟩
          have hd9:=hd8.cnt (cnt':=cnt + 4) (Nat.le_refl _) (by have:=HC.out; omega)
          have NB11 : ¬ F b11:=fun e=>by have:=HFL.out _ e; have:=B11.out; have:=HB03.out.size; omega
          have LQ6:=zA0 (zA1 HWB6.out)
          have G6:=zA0 ((HB56.out.block b11 L5.out).trans G5x.out)
          have L6:=zA0 (zA1 G6.out)
          have HB06:=zA0 (HBW5.out.trans (HB56.out.mono HBW5.out.size))
          have HNX6:=zA0 (HNXC.out.kept (S':=Sw w6 F q) HB56.out.size (fun k hk=>HB56.out.block k hk.1) (fun k hk=>⟨Nat.lt_of_lt_of_le hk.1 HB56.out.size,hk.2⟩))
          rcases hcase8 with ⟨hk3,rfl,hf8⟩ | ⟨hk3,hz8,rfl,w9,hf9,rfl⟩
          · have hq8 : Wb w8y q p false m (.slice sva svn svc) (.slice eva m.bs.length evc):=(hf8.block q LQ6.out H.out.nq).trans HWB6.out
            obtain ⟨c0,c1,c2,c3,c4,c5,c6,lq8,fq8⟩:=hq8.cells
            have g8 : w8y.heap[b11]? = _:=(hf8.block b11 L6.out NB11).trans G6.out
            have e0 : w8y.cell? ⟨b11,0,none⟩ = some (.int .i64 t):=cor g8 rfl
            have e1 : w8y.cell? ⟨b11,1,none⟩ = some (.int .i64 v):=cor g8 rfl
            have e2 : w8y.cell? ⟨b11,2,none⟩ = some (.slice ba bl bc):=cor g8 rfl
            have e3 : w8y.cell? ⟨b11,3,none⟩ = some (.int .i64 (sI x)):=cor g8 rfl
            have e4 : w8y.cell? ⟨b11,4,none⟩ = some (.slice xa xn xc):=cor g8 rfl
            have l11:=zA1 g8
            have HK1:=zA0 hk1
            have HK2:=zA0 hk2
            have HK3:=zA0 hk3
            have HF8:=zA0 hf8
            have HD9:=zA0 hd9
            clear hk1 hk2 hk3 hf8 hd8 hd9 hq8 g8 c0 NB11
            go_wp2
            go_ret
            have hset:=WalR.setS H6.out HF8.out HD9.out HNX6.out HNOK.out HNLN.out
            refine .inr ⟨HACC.out,k,F',HK1.out,HK2.out,?_,.inl ⟨HK3.out,rfl,hset⟩⟩
            exact (((((((Fr.of_below HB06.out).trans HF8.out).toQ q).setQ 2 _).setQ 3 _).setQ 4 _).setQ 5 _).setQ 6 _
          · have HK1:=zA0 hk1
            have HK2:=zA0 hk2
            have HK3:=zA0 hk3
            have HF9:=zA0 hf9
            have HZ8:=zA0 hz8
            have HD9:=zA0 hd9
            clear hk1 hk2 hk3 hf9 hd8 hd9 hz8 NB11
            go_wp2
            go_ret
            exact .inr ⟨HACC.out,k,F',HK1.out,HK2.out,(((Fr.of_below HB06.out).trans HF9.out).toQ q).setQ 1 _,.inr ⟨HK3.out,HZ8.out,rfl,WalR.fail H6.out HF9.out HD9.out⟩⟩
   · have HNA : Hid (¬ accT m t v x):=zA0 (fun h=>hH h.2.1)
     have HH:=zA0 hH
     clear hH
     go_upto_region 4 with (fail)
     refine wp_region_held_drew (S:=fun wz : World=>wz.cell? ⟨w.heap.size,0,none⟩ = some (.int .i64 t)/\wz.cell? ⟨w.heap.size,1,none⟩ = some (.int .i64 v)/\wz.cell? ⟨w.heap.size + 1,0,none⟩ = some (.int .i64 (sI x))/\wz.cell? ⟨q,5,none⟩ = some (.int .i64 m.base)) (by kernel_rfl) HCELLS.out (fun hHeld=>?_)
     refine tkHp 0 rfl (.int .i64 0) (by kernel_rfl) rfl (fun _ _ _=>id) hHeld (by intro w; go_simp) ?_
     try simp only [aPa,aPc,aPd]
     refine tkHp 1 rfl (.bool false) (by kernel_rfl) rfl (fun _ _ _=>id) hHeld (by intro w; go_simp) ?_
     try simp only [aPa,aPc,aPd]
     refine tkHp 2 rfl (.bool false) (by kernel_rfl) rfl (fun _ _ _=>id) hHeld (by intro w; go_simp) ?_
     try simp only [aPa,aPc,aPd]
     refine tkH 3 rfl (.agg #[.int .i64 t,.int .i64 v]) (by kernel_rfl) rfl (fun _ _ _=>id) hHeld (by intro wz hSw; obtain ⟨e1,e2,e3,e4⟩:=hSw; go_simp) ?_
     try simp only [aPa,aPc,aPd]
     refine tkHc 4 rfl (by kernel_rfl) rfl (fun K hK=>?_)
     go_simp
     refine Calls.mono (zF4 t v _) ?_
     rintro e w3 ⟨rfl,hb3x⟩
     have hb3 : Below w2.heap.size w2 w3:=⟨hb3x.os,hb3x.tape,hb3x.output,hb3x.size,hb3x.block⟩
     rw [decide_eq_false HH.out]
     have HB03:=zA0 (HB02.out.trans (hb3.mono HB02.out.size))
     have HB23:=zA0 hb3
     have s3 : (fun wz:World=>wz.cell? ⟨w.heap.size,0,none⟩ = some (.int .i64 t)/\wz.cell? ⟨w.heap.size,1,none⟩ = some (.int .i64 v)/\wz.cell? ⟨w.heap.size + 1,0,none⟩ = some (.int .i64 (sI x))/\wz.cell? ⟨q,5,none⟩ = some (.int .i64 m.base)) w3:=⟨(hb3.cell (p:=⟨w.heap.size,0,none⟩) L42.out).trans HCELLS.out.1,(hb3.cell (p:=⟨w.heap.size,1,none⟩) L42.out).trans HCELLS.out.2.1,(hb3.cell (p:=⟨w.heap.size + 1,0,none⟩) L62.out).trans HCELLS.out.2.2.1,(hb3.cell (p:=⟨q,5,none⟩) LQ2.out).trans HCELLS.out.2.2.2⟩
     clear hb3 hb3x
     refine hK.out _ _ s3 (fun hHeld1=>?_)
     clear hK K
     try simp only [aPa,aPb,aPc,aPd]
     refine tkHp 5 rfl (.bool true) (by kernel_rfl) rfl (fun _ _ _=>id) hHeld1 (by intro w; go_simp) ?_
     try simp only [aPa,aPc,aPd]
     refine tkHp 6 rfl (.bool true) (by kernel_rfl) rfl (fun _ _ _=>id) hHeld1 (by intro w; go_simp) ?_
     try simp only [aPa,aPc,aPd]
     refine tkHp 7 rfl (.bool true) (by kernel_rfl) rfl (fun _ _ _=>id) hHeld1 (by intro w; go_simp) ?_
     try simp only [aPa,aPc,aPd]
     refine tkHn 8 rfl (by kernel_rfl) rfl (fun _ _ _=>id) hHeld1 ?_
     try simp only [aPa,aPc,aPd]
     refine tkHn 9 rfl (by kernel_rfl) rfl (fun _ _ _=>id) hHeld1 ?_
     try simp only [aPa,aPc,aPd]
     refine tkHn 10 rfl (by kernel_rfl) rfl (fun _ _ _=>id) hHeld1 ?_
     try simp only [aPa,aPc,aPd]
     refine tkHp 11 rfl (.bool true) (by kernel_rfl) rfl (fun _ _ _=>id) hHeld1 (by intro w; go_simp) ?_
     try simp only [aPa,aPc,aPd]
     refine tkHp 12 rfl (.bool true) (by kernel_rfl) rfl (fun _ _ _=>id) hHeld1 (by intro w; go_simp) ?_
     try simp only [aPa,aPc,aPd]
     refine tkHn 13 rfl (by kernel_rfl) rfl (fun _ _ _=>id) hHeld1 ?_
     try simp only [aPa,aPc,aPd]
     refine tkHn 14 rfl (by kernel_rfl) rfl (fun _ _ _=>id) hHeld1 ?_
     try simp only [aPa,aPc,aPd]
     refine tkHn 15 rfl (by kernel_rfl) rfl (fun _ _ _=>id) hHeld1 ?_
     try simp only [aPa,aPc,aPd]
     refine tkHn 16 rfl (by kernel_rfl) rfl (fun _ _ _=>id) hHeld1 ?_
     try simp only [aPa,aPc,aPd]
     refine tkHn 17 rfl (by kernel_rfl) rfl (fun _ _ _=>id) hHeld1 ?_
     try simp only [aPa,aPc,aPd]
     refine tkHn 18 rfl (by kernel_rfl) rfl (fun _ _ _=>id) hHeld1 ?_
     try simp only [aPa,aPc,aPd]
     refine tkHn 19 rfl (by kernel_rfl) rfl (fun _ _ _=>id) hHeld1 ?_
     try simp only [aPa,aPc,aPd]
     refine tkHn 20 rfl (by kernel_rfl) rfl (fun _ _ _=>id) hHeld1 ?_
     try simp only [aPa,aPc,aPd]
     refine tkHp 21 rfl (.bool true) (by kernel_rfl) rfl (fun _ _ _=>id) hHeld1 (by intro w; go_simp) ?_
     try simp only [aPa,aPc,aPd]
     refine wpAnyH_done (by kernel_rfl) ?_ _
     go_wp2
     go_ret
     exact .inl ⟨HNA.out,rfl,HB03.out⟩
end
end Go.Proofs.YtocoimjhglackaaGreat
