/- Wga, Wgb -/
import Derived.Test.YtocoimjhglackaaGreatK27
set_option maxHeartbeats 8000000
set_option maxRecDepth 100000
namespace Go.Proofs.YtocoimjhglackaaGreat
section
open Go.RowKit Go.Maps
def lgB : ByteArray:=⟨#[108,111,103]⟩
def nwB : ByteArray:=⟨#[108,111,103,46,110,101,119]⟩
def lgN : Nm:=[108,111,103]
def nwN : Nm:=[108,111,103,46,110,101,119]
theorem yE6 : zE6 lgN = true:=by decide
theorem xD1 : zE6 nwN = true:=by decide
theorem xM4 : lgN ≠ nwN:=by decide
def Fw (fs:FS) : Prop:=∀ k,(fs k).isSome = true->k = lgN\/k = nwN
theorem Fw.card {fs:FS} (h:Fw fs) {m:Nat} (hm:Card fs m) : m<=2:=by
 obtain ⟨ks,⟨_,hnd,hk⟩,rfl⟩:=hm
 have hsub : ∀ x ∈ ks,x ∈ [lgN,nwN]:=fun x hx=>by
  rcases h x ((hk x).1 hx) with e | e <;> simp [e]
 match ks,hnd,hsub with
 | [],_,_=>simp
 | [_],_,_=>simp
 | [_,_],_,_=>simp
 | a :: b :: c :: r,hnd,hsub =>
  exfalso
  have ha:=hsub a (by simp)
  have hb:=hsub b (by simp)
  have hc:=hsub c (by simp)
  simp only [List.mem_cons,List.not_mem_nil,or_false] at ha hb hc
  simp only [List.nodup_cons,List.mem_cons,not_or] at hnd
  obtain ⟨⟨h1,h2,_⟩,⟨h3,_⟩,_⟩:=hnd
  rcases ha with ha | ha <;> rcases hb with hb | hb <;> rcases hc with hc | hc <;> simp_all
inductive Ax where
 | sy
 | pt (d:List UInt8)
 | rn
 | ap (d:List UInt8)
def stepA (x:Ax) (M:Md) : Md :=
 match x with
 | .sy=>xT6 M
 | .pt d=>yN5 M (.pt nwN d) 1
 | .rn=>yN5 M (.rn nwN lgN) 1
 | .ap d=>yN5 M (.ap lgN d) (max 1 d.length)
def okA (x:Ax) (M:Md) : Prop :=
 match x with
 | .sy=>True
 | .pt d=>d.length<=1048576
 | .rn=>(M.files nwN).isSome = true
 | .ap d=>(cOf M.files lgN).length + d.length<=1048576
def lfE (M:Md) : Int:=if M.left = 0 then 11 else 0
theorem kD5 {M:Md} {d:List UInt8} {m:Nat} (hf:Fw M.files) (hm:Card M.files m) (h:d.length<=1048576) : ptE nwN d.length M m = lfE M:=by
 have:=hf.card hm
 unfold ptE lfE zI2
 rw [if_pos xD1]
 split
 · rfl
 · rw [if_pos]
   simp
   omega
theorem kD6 {M:Md} {d:List UInt8} {m:Nat} (hf:Fw M.files) (hm:Card M.files m) (h:(cOf M.files lgN).length + d.length<=1048576) : apE lgN d.length M m = lfE M:=by
 have:=hf.card hm
 unfold apE lfE zI2
 rw [if_pos yE6]
 split
 · rfl
 · rw [if_pos]
   simp
   omega
theorem kD4 {M:Md} (h:(M.files nwN).isSome = true) : rnE nwN lgN M = lfE M:=by
 unfold rnE lfE
 rw [if_pos ⟨xD1,yE6⟩,if_pos h]
def DiP (w:World) (p cnt:Nat) (F:Nat->Prop) (E:Int) (M':Md) (e:Ending) (w':World) : Prop:=∃ F',e = .returned (.int .i64 E)/\Dsk w' p M' (cnt + 1) F'/\Fr w w' F F'
theorem Dsk.drew {w:World} {p:Nat} {M:Md} {cnt:Nat} {F:Nat->Prop} (h:Dsk w p M cnt F) : Dsk w.drew p M cnt F:=h.below (Below.refl _ w).drew
theorem Fr.undrew {w w':World} {F F':Nat->Prop} (h:Fr w.drew w' F F') : Fr w w' F F':=⟨h.os,h.tape,h.output,h.size,h.block,h.foot⟩
theorem kI1 (p cnt:Nat) (a:Option Addr) (cap:Nat) (d:List UInt8) (M:Md) (F:Nat->Prop) (w:World) (h:Dsk w p M cnt F) (hB:Bs w a d) (hnn:a = none->d = []) (hfw:Fw M.files) (hok:okA (.pt d) M) (hc:cnt + 1<=2199023255552) : Calls Tryz.prog 67 #[.pointer (some ⟨p,0,none⟩),.string nwB,.slice a d.length cap] w (DiP w p cnt F (lfE M) (mv (lfE M) (stepA (.pt d) M) M)):=by
 refine (kB6 nwB a cap d p cnt M F w h hB hnn hc).mono ?_
 rintro e w' ⟨m,F',hm,rfl,hd,hf⟩
 have e1 : ptE nwB.data.toList d.length M m = lfE M:=kD5 hfw hm hok
 rw [e1] at hd ⊢
 exact ⟨F',rfl,hd,hf⟩
theorem kI2 (p cnt:Nat) (a:Option Addr) (cap:Nat) (d:List UInt8) (M:Md) (F:Nat->Prop) (w:World) (h:Dsk w p M cnt F) (hB:Bs w a d) (hnn:a = none->d = []) (hfw:Fw M.files) (hok:okA (.ap d) M) (hc:cnt + 1<=2199023255552) : Calls Tryz.prog 10 #[.pointer (some ⟨p,0,none⟩),.string lgB,.slice a d.length cap] w (DiP w p cnt F (lfE M) (mv (lfE M) (stepA (.ap d) M) M)):=by
 refine (xH0 lgB a cap d p cnt M F w h hB hnn hc).mono ?_
 rintro e w' ⟨m,F',hm,rfl,hd,hf⟩
 have e1 : apE lgB.data.toList d.length M m = lfE M:=kD6 hfw hm hok
 rw [e1] at hd ⊢
 exact ⟨F',rfl,hd,hf⟩
theorem kI0 (p cnt:Nat) (M:Md) (F:Nat->Prop) (w:World) (h:Dsk w p M cnt F) (hok:okA .rn M) (hc:cnt + 1<=2199023255552) : Calls Tryz.prog 69 #[.pointer (some ⟨p,0,none⟩),.string nwB,.string lgB] w (DiP w p cnt F (lfE M) (mv (lfE M) (stepA .rn M) M)):=by
 refine (xB8 nwB lgB p cnt M F w h hc).mono ?_
 rintro e w' ⟨F',rfl,hd,hf⟩
 have e1 : rnE nwB.data.toList lgB.data.toList M = lfE M:=kD4 hok
 rw [e1] at hd ⊢
 exact ⟨F',rfl,hd,hf⟩
theorem kH9 (p cnt:Nat) (M:Md) (F:Nat->Prop) (w:World) (h:Dsk w p M cnt F) (hc:cnt + 1<=2199023255552) : Calls Tryz.prog 11 #[.pointer (some ⟨p,0,none⟩)] w (DiP w p cnt F (lfE M) (mv (lfE M) (stepA .sy M) M)):=by
 refine (xT4 p cnt M F w h (by omega)).mono ?_
 rintro e w' ⟨F',rfl,hd,hf⟩
 exact ⟨F',rfl,⟨hd.1.more (by omega),hd.2⟩,hf⟩
theorem kI7 (c1 q p cnt:Nat) (c2:Nat) (a:Option Addr) (cap:Nat) (d:List UInt8) (M:Md) (F:Nat->Prop) (w:World) (h:Dsk w p M cnt F) (h1:w.cell? ⟨c1,0,none⟩ = some (.pointer (some ⟨q,0,none⟩))) (l1:c1 < w.heap.size) (n1:¬ F c1) (hq:w.cell? ⟨q,0,none⟩ = some (.pointer (some ⟨p,0,none⟩))) (lq:q < w.heap.size) (nq:¬ F q) (h2:w.cell? ⟨c2,0,none⟩ = some (.slice a d.length cap)) (l2:c2 < w.heap.size) (n2:¬ F c2) (hB:Bs w a d) (hnn:a = none->d = []) (hfw:Fw M.files) (hok:okA (.pt d) M) (hc:cnt + 1<=2199023255552) : Calls Tryz.prog 66 #[.pointer (some ⟨c1,0,none⟩),.pointer (some ⟨c2,0,none⟩)] w (DiP w p cnt F (lfE M) (mv (lfE M) (stepA (.pt d) M) M)):=by
 have HC : Hid (Calls Tryz.prog 67 #[.pointer (some ⟨p,0,none⟩),.string nwB,.slice a d.length cap] w.drew (DiP w.drew p cnt F (lfE M) (mv (lfE M) (stepA (.pt d) M) M))):=zA0 (kI1 p cnt a cap d M F w.drew h.drew hB.drew hnn hfw hok hc)
 have C1:=zA0 h1
 have CQ:=zA0 hq
 have L1:=zA0 l1
 have LQ:=zA0 lq
 have N1:=zA0 n1
 have NQ:=zA0 nq
 have C2:=zA0 h2
 have L2:=zA0 l2
 have N2:=zA0 n2
 clear hB hnn
 clear h hfw hok
 go_enter Tryz.func66,Tryz.ntmps66
 go_wp2
 refine wp_region_held_drew (S:=fun wz : World=>wz.cell? ⟨c1,0,none⟩ = some (.pointer (some ⟨q,0,none⟩))/\wz.cell? ⟨q,0,none⟩ = some (.pointer (some ⟨p,0,none⟩))/\wz.cell? ⟨c2,0,none⟩ = some (.slice a d.length cap)) (by kernel_rfl) ⟨C1.out,CQ.out,C2.out⟩ (fun hHeld=>?_)
 refine tkH 0 rfl (.pointer (some ⟨q,0,none⟩)) (by kernel_rfl) rfl (fun _ _ _=>id) hHeld (by intro w hSw; obtain ⟨s1,s2,s3⟩:=hSw; go_simp) ?_
 try simp only [aPa,aPc,aPd]
 refine tkH 1 rfl (.pointer (some ⟨q,0,none⟩)) (by kernel_rfl) rfl (fun _ _ _=>id) hHeld (by intro w hSw; (try dsimp only at hSw); go_simp) ?_
 try simp only [aPa,aPc,aPd]
 refine tkH 2 rfl (.pointer (some ⟨q,0,none⟩)) (by kernel_rfl) rfl (fun _ _ _=>id) hHeld (by intro w hSw; (try dsimp only at hSw); go_simp) ?_
 try simp only [aPa,aPc,aPd]
 refine tkH 3 rfl (.pointer (some ⟨p,0,none⟩)) (by kernel_rfl) rfl (fun _ _ _=>id) hHeld (by intro w hSw; obtain ⟨s1,s2,s3⟩:=hSw; go_simp) ?_
 try simp only [aPa,aPc,aPd]
 refine tkH 4 rfl (.slice a d.length cap) (by kernel_rfl) rfl (fun _ _ _=>id) hHeld (by intro w hSw; obtain ⟨s1,s2,s3⟩:=hSw; go_simp) ?_
 try simp only [aPa,aPc,aPd]
 refine tkHc 5 rfl (by kernel_rfl) rfl (fun K hK=>?_)
 go_simp
 refine Calls.mono HC.out ?_
 rintro e w1 ⟨F',rfl,hd,hf⟩
 have s5 : (fun wz:World=>wz.cell? ⟨c1,0,none⟩ = some (.pointer (some ⟨q,0,none⟩))/\wz.cell? ⟨q,0,none⟩ = some (.pointer (some ⟨p,0,none⟩))/\wz.cell? ⟨c2,0,none⟩ = some (.slice a d.length cap)) w1:=⟨(World.cell?_of_block (a:=⟨c1,0,none⟩) (hf.block c1 L1.out N1.out)).trans C1.out,(World.cell?_of_block (a:=⟨q,0,none⟩) (hf.block q LQ.out NQ.out)).trans CQ.out,(hf.block c2 L2.out N2.out |> fun h=>(World.cell?_of_block (a:=⟨c2,0,none⟩) h).trans C2.out)⟩
 have HD:=zA0 hd
 have HF:=zA0 hf
 clear hd hf
 refine hK.out _ _ s5 (fun hHeld1=>?_)
 clear hK K
 try simp only [aPa,aPb,aPc,aPd]
 refine tkH 6 rfl (.int .i64 (lfE M)) (by kernel_rfl) rfl (fun _ _ _=>id) hHeld1 (by intro w hSw; (try dsimp only at hSw); go_simp) ?_
 try simp only [aPa,aPc,aPd]
 refine wpAnyH_done (by kernel_rfl) ?_ _
 go_wp2
 go_ret
 exact ⟨_,rfl,HD.out,HF.out.undrew⟩
theorem kI8 (c1 q p cnt:Nat) (c2:Nat) (a:Option Addr) (cap:Nat) (d:List UInt8) (M:Md) (F:Nat->Prop) (w:World) (h:Dsk w p M cnt F) (h1:w.cell? ⟨c1,0,none⟩ = some (.pointer (some ⟨q,0,none⟩))) (l1:c1 < w.heap.size) (n1:¬ F c1) (hq:w.cell? ⟨q,0,none⟩ = some (.pointer (some ⟨p,0,none⟩))) (lq:q < w.heap.size) (nq:¬ F q) (h2:w.cell? ⟨c2,0,none⟩ = some (.slice a d.length cap)) (l2:c2 < w.heap.size) (n2:¬ F c2) (hB:Bs w a d) (hnn:a = none->d = []) (hfw:Fw M.files) (hok:okA (.ap d) M) (hc:cnt + 1<=2199023255552) : Calls Tryz.prog 93 #[.pointer (some ⟨c1,0,none⟩),.pointer (some ⟨c2,0,none⟩)] w (DiP w p cnt F (lfE M) (mv (lfE M) (stepA (.ap d) M) M)):=by
 have HC : Hid (Calls Tryz.prog 10 #[.pointer (some ⟨p,0,none⟩),.string lgB,.slice a d.length cap] w.drew (DiP w.drew p cnt F (lfE M) (mv (lfE M) (stepA (.ap d) M) M))):=zA0 (kI2 p cnt a cap d M F w.drew h.drew hB.drew hnn hfw hok hc)
 have C1:=zA0 h1
 have CQ:=zA0 hq
 have L1:=zA0 l1
 have LQ:=zA0 lq
 have N1:=zA0 n1
 have NQ:=zA0 nq
 have C2:=zA0 h2
 have L2:=zA0 l2
 have N2:=zA0 n2
 clear hB hnn
 clear h hfw hok
 go_enter Tryz.func93,Tryz.ntmps93
 go_wp2
 refine wp_region_held_drew (S:=fun wz : World=>wz.cell? ⟨c1,0,none⟩ = some (.pointer (some ⟨q,0,none⟩))/\wz.cell? ⟨q,0,none⟩ = some (.pointer (some ⟨p,0,none⟩))/\wz.cell? ⟨c2,0,none⟩ = some (.slice a d.length cap)) (by kernel_rfl) ⟨C1.out,CQ.out,C2.out⟩ (fun hHeld=>?_)
 refine tkH 0 rfl (.pointer (some ⟨q,0,none⟩)) (by kernel_rfl) rfl (fun _ _ _=>id) hHeld (by intro w hSw; obtain ⟨s1,s2,s3⟩:=hSw; go_simp) ?_
 try simp only [aPa,aPc,aPd]
 refine tkH 1 rfl (.pointer (some ⟨q,0,none⟩)) (by kernel_rfl) rfl (fun _ _ _=>id) hHeld (by intro w hSw; (try dsimp only at hSw); go_simp) ?_
 try simp only [aPa,aPc,aPd]
 refine tkH 2 rfl (.pointer (some ⟨q,0,none⟩)) (by kernel_rfl) rfl (fun _ _ _=>id) hHeld (by intro w hSw; (try dsimp only at hSw); go_simp) ?_
 try simp only [aPa,aPc,aPd]
 refine tkH 3 rfl (.pointer (some ⟨p,0,none⟩)) (by kernel_rfl) rfl (fun _ _ _=>id) hHeld (by intro w hSw; obtain ⟨s1,s2,s3⟩:=hSw; go_simp) ?_
 try simp only [aPa,aPc,aPd]
 refine tkH 4 rfl (.slice a d.length cap) (by kernel_rfl) rfl (fun _ _ _=>id) hHeld (by intro w hSw; obtain ⟨s1,s2,s3⟩:=hSw; go_simp) ?_
 try simp only [aPa,aPc,aPd]
 refine tkHc 5 rfl (by kernel_rfl) rfl (fun K hK=>?_)
 go_simp
 refine Calls.mono HC.out ?_
 rintro e w1 ⟨F',rfl,hd,hf⟩
 have s5 : (fun wz:World=>wz.cell? ⟨c1,0,none⟩ = some (.pointer (some ⟨q,0,none⟩))/\wz.cell? ⟨q,0,none⟩ = some (.pointer (some ⟨p,0,none⟩))/\wz.cell? ⟨c2,0,none⟩ = some (.slice a d.length cap)) w1:=⟨(World.cell?_of_block (a:=⟨c1,0,none⟩) (hf.block c1 L1.out N1.out)).trans C1.out,(World.cell?_of_block (a:=⟨q,0,none⟩) (hf.block q LQ.out NQ.out)).trans CQ.out,(hf.block c2 L2.out N2.out |> fun h=>(World.cell?_of_block (a:=⟨c2,0,none⟩) h).trans C2.out)⟩
 have HD:=zA0 hd
 have HF:=zA0 hf
 clear hd hf
 refine hK.out _ _ s5 (fun hHeld1=>?_)
 clear hK K
 try simp only [aPa,aPb,aPc,aPd]
 refine tkH 6 rfl (.int .i64 (lfE M)) (by kernel_rfl) rfl (fun _ _ _=>id) hHeld1 (by intro w hSw; (try dsimp only at hSw); go_simp) ?_
 try simp only [aPa,aPc,aPd]
 refine wpAnyH_done (by kernel_rfl) ?_ _
 go_wp2
 go_ret
 exact ⟨_,rfl,HD.out,HF.out.undrew⟩
theorem kI6 (c1 q p cnt:Nat) (M:Md) (F:Nat->Prop) (w:World) (h:Dsk w p M cnt F) (h1:w.cell? ⟨c1,0,none⟩ = some (.pointer (some ⟨q,0,none⟩))) (_l1:c1 < w.heap.size) (hq:w.cell? ⟨q,0,none⟩ = some (.pointer (some ⟨p,0,none⟩))) (_lq:q < w.heap.size) (hok:okA .rn M) (hc:cnt + 1<=2199023255552) : Calls Tryz.prog 68 #[.pointer (some ⟨c1,0,none⟩)] w (DiP w p cnt F (lfE M) (mv (lfE M) (stepA .rn M) M)):=by
 have HC:=zA0 (kI0 p cnt M F w h hok hc)
 clear h hok
 go_enter Tryz.func68,Tryz.ntmps68
 go_wp2_with (go_at_call 69; refine Calls.mono HC.out ?_; rintro e w1 ⟨F1,rfl,hd,hf⟩; have HD:=zA0 hd; have HF:=zA0 hf; clear hd hf)
 go_ret
 exact ⟨_,rfl,HD.out,HF.out⟩
end
section
open Go.RowKit Go.Maps
theorem Dsk.keep {w w':World} {p:Nat} {M:Md} {cnt:Nat} {F:Nat->Prop} (h:Dsk w p M cnt F) (hF:∀ k,F k->w'.heap[k]? = w.heap[k]?) (hT:∀ (k:Nat) (cs:Array Value) (t:TypeId),t = 9\/t = 22->w.heap[k]? = some (Obj.cells cs t (0,0))->w'.heap[k]? = w.heap[k]?) : Dsk w' p M cnt F:=by
 obtain ⟨⟨bF,bD,DF,DD,dn,G,hd,rfl⟩,hM⟩:=h
 obtain ⟨n,hn,hm⟩:=hd.mF
 obtain ⟨n',hn',hm'⟩:=hd.mD
 refine ⟨⟨bF,bD,DF,DD,dn,G,⟨(hF p (.inl rfl)).trans hd.blk,⟨n,hn,hm.kept (hF bF (.inr (.inl rfl)))⟩,⟨n',hn',hm'.kept (hF bD (.inr (.inr (.inl rfl))))⟩,hd.ne,hd.hF,hd.hD,hd.liv.kept (fun s k g hg=>hF g (.inr (.inr (.inr (.inr (.inl ⟨s,k,hg⟩)))))),zD2 hd.row (fun k hk=>hF k (.inr (.inr (.inr (.inl hk))))),hd.done,fun g hg=>?_,hd.leb,hd.cn⟩,rfl⟩,hM⟩
 exact (hd.deed g hg).kept (fun k cs t ht hk=>hT k cs t ht hk) (fun l hl=>hl.kept (fun k hk=>hF k (.inr (.inr (.inr (.inr (.inr ⟨g.z,List.mem_map_of_mem hg,hk⟩)))))))
theorem Dsk.cnt {w:World} {p:Nat} {M:Md} {cnt cnt':Nat} {F:Nat->Prop} (h:Dsk w p M cnt F) (h1:cnt<=cnt') (h2:cnt'<=4398046511104) : Dsk w p M cnt' F:=by
 obtain ⟨⟨bF,bD,DF,DD,dn,G,hd,e⟩,hM⟩:=h
 obtain ⟨n,hn,hm⟩:=hd.mF
 obtain ⟨n',hn',hm'⟩:=hd.mD
 exact ⟨⟨bF,bD,DF,DD,dn,G,⟨hd.blk,⟨n,by omega,hm⟩,⟨n',by omega,hm'⟩,hd.ne,hd.hF,hd.hD,hd.liv,hd.row,hd.done,hd.deed,hd.leb,h2⟩,e⟩,hM⟩
theorem Dsk.flt {w:World} {p:Nat} {M:Md} {cnt:Nat} {F:Nat->Prop} (h:Dsk w p M cnt F) : ∀ k,F k->k < w.heap.size:=by
 obtain ⟨⟨bF,bD,DF,DD,dn,G,hd,rfl⟩,_⟩:=h
 exact hd.ftLt
def Th (w:World) (F:Nat->Prop) (q p:Nat) (v:Value) : Ax->Prop
 | .sy=>v = .func (.func 11) #[.pointer (some ⟨p,0,none⟩)] #[]
 | .rn=>∃ c1,v = .func (.func 68) #[] #[.pointer (some ⟨c1,0,none⟩)]/\w.cell? ⟨c1,0,none⟩ = some (.pointer (some ⟨q,0,none⟩))/\c1 < w.heap.size/\¬ F c1
 | .pt d=>∃ c1 c2 a cap,v = .func (.func 66) #[] #[.pointer (some ⟨c1,0,none⟩),.pointer (some ⟨c2,0,none⟩)]/\w.cell? ⟨c1,0,none⟩ = some (.pointer (some ⟨q,0,none⟩))/\c1 < w.heap.size/\¬ F c1/\w.cell? ⟨c2,0,none⟩ = some (.slice a d.length cap)/\c2 < w.heap.size/\¬ F c2/\Bs w a d/\(a = none->d = [])/\∀ y,a = some y->¬ F y.block/\y.block < w.heap.size
 | .ap d=>∃ c1 c2 a cap,v = .func (.func 93) #[] #[.pointer (some ⟨c1,0,none⟩),.pointer (some ⟨c2,0,none⟩)]/\w.cell? ⟨c1,0,none⟩ = some (.pointer (some ⟨q,0,none⟩))/\c1 < w.heap.size/\¬ F c1/\w.cell? ⟨c2,0,none⟩ = some (.slice a d.length cap)/\c2 < w.heap.size/\¬ F c2/\Bs w a d/\(a = none->d = [])/\∀ y,a = some y->¬ F y.block/\y.block < w.heap.size
theorem Fr.cellK {w w':World} {F F':Nat->Prop} (h:Fr w w' F F') {k o:Nat} (hk:k < w.heap.size) (hF:¬ F k) : w'.cell? ⟨k,o,none⟩ = w.cell? ⟨k,o,none⟩:=World.cell?_of_block (a:=⟨k,o,none⟩) (h.block k hk hF)
theorem Fr.notF {w w':World} {F F':Nat->Prop} (h:Fr w w' F F') {k:Nat} (hk:k < w.heap.size) (hF:¬ F k) : ¬ F' k:=fun e=>by
 rcases h.foot k e with e | e
 · exact hF e
 · omega
theorem Bs.fr {w w':World} {F F':Nat->Prop} {a:Option Addr} {l:List UInt8} (h:Bs w a l) (hf:Fr w w' F F') (ha:∀ y,a = some y->¬ F y.block/\y.block < w.heap.size) : Bs w' a l:=by
 refine ⟨h.1,fun hne=>?_⟩
 obtain ⟨b,off,rfl,hlt,hc⟩:=h.2 hne
 exact ⟨b,off,rfl,Nat.lt_of_lt_of_le hlt hf.size,fun j hj=>(hf.cellK hlt (ha _ rfl).1).trans (hc j hj)⟩
theorem Th.fr {w w':World} {F F':Nat->Prop} {q p:Nat} {v:Value} {x:Ax} (h:Th w F q p v x) (hf:Fr w w' F F') : Th w' F' q p v x:=by
 cases x with
 | sy=>exact h
 | rn =>
  obtain ⟨c1,e,h1,h2,h3⟩:=h
  exact ⟨c1,e,(hf.cellK h2 h3).trans h1,Nat.lt_of_lt_of_le h2 hf.size,hf.notF h2 h3⟩
 | pt d =>
  obtain ⟨c1,c2,a,cap,e,h1,h2,h3,h4,h5,h6,h7,h8,h9⟩:=h
  exact ⟨c1,c2,a,cap,e,(hf.cellK h2 h3).trans h1,Nat.lt_of_lt_of_le h2 hf.size,hf.notF h2 h3,(hf.cellK h5 h6).trans h4,Nat.lt_of_lt_of_le h5 hf.size,hf.notF h5 h6,h7.fr hf h9,h8,fun y hy=>⟨hf.notF (h9 y hy).2 (h9 y hy).1,Nat.lt_of_lt_of_le (h9 y hy).2 hf.size⟩⟩
 | ap d =>
  obtain ⟨c1,c2,a,cap,e,h1,h2,h3,h4,h5,h6,h7,h8,h9⟩:=h
  exact ⟨c1,c2,a,cap,e,(hf.cellK h2 h3).trans h1,Nat.lt_of_lt_of_le h2 hf.size,hf.notF h2 h3,(hf.cellK h5 h6).trans h4,Nat.lt_of_lt_of_le h5 hf.size,hf.notF h5 h6,h7.fr hf h9,h8,fun y hy=>⟨hf.notF (h9 y hy).2 (h9 y hy).1,Nat.lt_of_lt_of_le (h9 y hy).2 hf.size⟩⟩
def runT (acts:List Ax) (k:Nat) (M:Md) : Md:=(acts.take k).foldl (fun M x=>stepA x M) M
theorem zR2 {acts:List Ax} {k:Nat} {x:Ax} (h:acts[k]? = some x) (M:Md) : runT acts (k + 1) M = stepA x (runT acts k M):=by
 unfold runT
 have hk:=(List.getElem?_eq_some_iff.1 h).1
 have e : acts[k] = x:=(List.getElem?_eq_some_iff.1 h).2
 rw [List.take_succ_eq_append_getElem hk,List.foldl_append,e]; rfl
def DoP (w:World) (q p cnt:Nat) (F:Nat->Prop) (acts:List Ax) (M:Md) (e:Ending) (w':World) : Prop:=∃ k F',k<=acts.length/\(∀ j,j < k->(runT acts j M).left ≠ 0)/\Dsk w' p (runT acts k M) (cnt + acts.length) F' /\
 ((k = acts.length/\e = .returned (.int .i64 0)/\Fr w w' F F')\/(k < acts.length/\(runT acts k M).left = 0/\e = .returned (.int .i64 11)/\∃ w1,Fr w w1 F F'/\w' = w1.setCell ⟨q,1,none⟩ (.bool true)))
theorem xR4 (q p cnt g:Nat) (rf:Bool) (y0 y1 y2 y3 y4:Value) (acts:List Ax) (vals:List Value) (n:Nat) (M:Md) (F:Nat->Prop) (w:World) (h:Dsk w p M cnt F)
    (hq:w.heap[q]? = some (.cells #[.pointer (some ⟨p,0,none⟩),.bool rf,y0,y1,y2,y3,y4] 98 (0,0))) (nq:¬ F q) (hn:n = acts.length) (hvl:vals.length = acts.length) (hrow:w.rangeAt g 0 vals) (lg:g < w.heap.size) (ng:¬ F g) (hth:∀ (i:Nat) (v:Value) (x:Ax),vals[i]? = some v->acts[i]? = some x->Th w F q p v x)
    (hfw:∀ k,Fw (runT acts k M).files) (hok:∀ (k:Nat) (x:Ax),acts[k]? = some x->okA x (runT acts k M)) (hc:cnt + acts.length + 1<=2199023255552) (hl:acts.length<=4) :
    Calls Tryz.prog 65 #[.pointer (some ⟨q,0,none⟩),.slice (some ⟨g,0,none⟩) n n] w (DoP w q p cnt F acts M):=by
 have H:=zA0 h
 have HQ:=zA0 hq
 have NQ:=zA0 nq
 have LQ:=zA0 (zA1 hq)
 have HN:=zA0 hn
 have HVL:=zA0 hvl
 have HROW:=zA0 hrow
 have LG:=zA0 lg
 have NG:=zA0 ng
 have HTH:=zA0 hth
 have HFW:=zA0 hfw
 have HOK:=zA0 hok
 have HC:=zA0 hc
 have hn4 : (n:Int)<=4:=by omega
 have HL:=zA0 hl
 clear h hq nq hn hvl hrow lg ng hth hfw hok hc hl
 go_enter Tryz.func65,Tryz.ntmps65
 go_wp2
 go_loopw [10] (fun i wr=>∃ (k:Nat) (Fk:Nat->Prop),k<=n/\i = .int .i64 (k:Int)/\Hid (Dsk wr p (runT acts k M) (cnt + k) Fk)/\Hid (Fr w wr F Fk)/\Hid (∀ j,j < k->(runT acts j M).left ≠ 0)) (fun i _=>n - (intOf i).toNat)
 case atStart=>exact ⟨0,F,Nat.zero_le _,rfl,H,zA0 (Fr.refl _ _),zA0 (fun j hj=>by omega)⟩
 case round =>
  obtain ⟨k,Fk,hk,rfl,HD,HF,HLF⟩:=hrel
  by_cases hlt : k < n
  · obtain ⟨x,hx⟩ : ∃ x,acts[k]? = some x:=⟨_,List.getElem?_eq_getElem (by rw [<- HN.out]; exact hlt)⟩
    obtain ⟨v,hv⟩ : ∃ v,vals[k]? = some v:=⟨_,List.getElem?_eq_getElem (by rw [HVL.out,<- HN.out]; exact hlt)⟩
    have hT:=(HTH.out k v x hv hx).fr HF.out
    have g00:=HROW.out k v hv
    rw [Nat.zero_add] at g00
    have g0 : wr.cell? ⟨g,k,none⟩ = some v:=(HF.out.cellK (o:=k) LG.out NG.out).trans g00
    clear g00
    have lgr : g < wr.heap.size:=Nat.lt_of_lt_of_le LG.out HF.out.size
    have hqr : wr.heap[q]? = some (.cells #[.pointer (some ⟨p,0,none⟩),.bool rf,y0,y1,y2,y3,y4] 98 (0,0)):=(HF.out.block q LQ.out NQ.out).trans HQ.out
    have hqc : wr.cell? ⟨q,0,none⟩ = some (.pointer (some ⟨p,0,none⟩)):=by rw [cell_of_row _ _ _ _ 98 (0,0) hqr]; rfl
    have HCALL : Hid (∀ f cap args,v = .func (.func f) args cap->Calls Tryz.prog f (args ++ cap) wr (DiP wr p (cnt + k) Fk (lfE (runT acts k M)) (mv (lfE (runT acts k M)) (stepA x (runT acts k M)) (runT acts k M)))):=by
     have hcc : cnt + k + 1<=2199023255552:=by have:=HC.out; have:=HN.out; omega
     have hnq : ¬ Fk q:=HF.out.notF LQ.out NQ.out
     have lqr : q < wr.heap.size:=zA1 hqr
     refine zA0 (fun f cap args e=>?_)
     cases x with
     | sy=>rw [show v = _ from hT] at e; cases e; exact kH9 p (cnt + k) _ Fk wr HD.out hcc
     | rn =>
      obtain ⟨c1,ev,h1,h2,h3⟩:=hT
      rw [ev] at e; cases e
      exact kI6 c1 q p (cnt + k) _ Fk wr HD.out h1 h2 hqc lqr (HOK.out k _ hx) hcc
     | pt d =>
      obtain ⟨c1,c2,a,cp,ev,h1,h2,h3,h4,h5,h6,h7,h8,h9⟩:=hT
      rw [ev] at e; cases e
      exact kI7 c1 q p (cnt + k) c2 a cp d _ Fk wr HD.out h1 h2 h3 hqc lqr hnq h4 h5 h6 h7 h8 (HFW.out k) (HOK.out k _ hx) hcc
     | ap d =>
      obtain ⟨c1,c2,a,cp,ev,h1,h2,h3,h4,h5,h6,h7,h8,h9⟩:=hT
      rw [ev] at e; cases e
      exact kI8 c1 q p (cnt + k) c2 a cp d _ Fk wr HD.out h1 h2 h3 hqc lqr hnq h4 h5 h6 h7 h8 (HFW.out k) (HOK.out k _ hx) hcc
    cases x with
    | sy =>
     obtain rfl:=hT
     have HCL:=zA0 (HCALL.out _ _ _ rfl)
     have HX:=zA0 hx
     clear hv hx HCALL hqc hqr
     go_wp2_with fail
     refine Calls.mono HCL.out ?_
     rintro e w1 ⟨F1,rfl,hd,hf⟩
     have hf1:=HF.out.trans hf
     have hq1 : w1.heap[q]? = some (.cells #[.pointer (some ⟨p,0,none⟩),.bool rf,y0,y1,y2,y3,y4] 98 (0,0)):=(hf1.block q LQ.out NQ.out).trans HQ.out
     have b1 : w1.cell? ⟨q,1,none⟩ = some (.bool rf):=by rw [cell_of_row _ _ _ _ 98 (0,0) hq1]; rfl
     have lq1:=zA1 hq1
     have fq1 : w1.frozen? ⟨q,1,none⟩ = false:=by simp [World.frozen?,hq1]
     have HD1:=zA0 hd
     have HF1:=zA0 hf1
     have HQ1:=zA0 hq1
     clear hd hf hf1 hq1
     by_cases hz : (runT acts k M).left = 0
     · have e1 : lfE (runT acts k M) = 11:=if_pos hz
       rw [e1] at HD1 ⊢
       rw [zY6 (by decide)] at HD1
       have HZ:=zA0 hz
       clear e1 hz
       go_wp2
       go_ret
       refine ⟨k,F1,by have:=HN.out; omega,HLF.out,?_,.inr ⟨by have:=HN.out; omega,HZ.out,rfl,w1,HF1.out,rfl⟩⟩
       have hd2:=HD1.out.cnt (cnt':=cnt + acts.length) (by have:=HN.out; omega) (by have:=HC.out; omega)
       have hnq : ¬ F1 q:=HF1.out.notF LQ.out NQ.out
       exact hd2.keep (fun j hj=>zB0 _ _ _ _ j (fun e=>hnq (e ▸ hj))) (fun j cs t ht hj=>zB0 _ _ _ _ j (fun e=>by
        rw [e,HQ1.out] at hj
        cases hj
        revert ht; decide))
     · have e1 : lfE (runT acts k M) = 0:=if_neg hz
       rw [e1] at HD1 ⊢
       rw [mv_0,<- zR2 HX.out M] at HD1
       have HZ:=zA0 hz
       clear e1 hz
       go_wp2
       go_roundw
       case rel =>
        refine ⟨k + 1,F1,by omega,by go_num,HD1,HF1,zA0 (fun j hj=>?_)⟩
        by_cases hjk : j < k
        · exact HLF.out j hjk
        · have : j = k:=by omega
          subst this
          exact HZ.out
       case measure=>simp [intOf]; omega
    | rn =>
     obtain ⟨c1,rfl,h1,h2,h3⟩:=hT
     have HCL:=zA0 (HCALL.out _ _ _ rfl)
     have HX:=zA0 hx
     clear hv hx HCALL hqc hqr h1 h2 h3
     go_wp2_with fail
     refine Calls.mono HCL.out ?_
     rintro e w1 ⟨F1,rfl,hd,hf⟩
     have hf1:=HF.out.trans hf
     have hq1 : w1.heap[q]? = some (.cells #[.pointer (some ⟨p,0,none⟩),.bool rf,y0,y1,y2,y3,y4] 98 (0,0)):=(hf1.block q LQ.out NQ.out).trans HQ.out
     have b1 : w1.cell? ⟨q,1,none⟩ = some (.bool rf):=by rw [cell_of_row _ _ _ _ 98 (0,0) hq1]; rfl
     have lq1:=zA1 hq1
     have fq1 : w1.frozen? ⟨q,1,none⟩ = false:=by simp [World.frozen?,hq1]
     have HD1:=zA0 hd
     have HF1:=zA0 hf1
     have HQ1:=zA0 hq1
     clear hd hf hf1 hq1
     by_cases hz : (runT acts k M).left = 0
     · have e1 : lfE (runT acts k M) = 11:=if_pos hz
       rw [e1] at HD1 ⊢
       rw [zY6 (by decide)] at HD1
       have HZ:=zA0 hz
       clear e1 hz
       go_wp2
       go_ret
       refine ⟨k,F1,by have:=HN.out; omega,HLF.out,?_,.inr ⟨by have:=HN.out; omega,HZ.out,rfl,w1,HF1.out,rfl⟩⟩
       have hd2:=HD1.out.cnt (cnt':=cnt + acts.length) (by have:=HN.out; omega) (by have:=HC.out; omega)
       have hnq : ¬ F1 q:=HF1.out.notF LQ.out NQ.out
       exact hd2.keep (fun j hj=>zB0 _ _ _ _ j (fun e=>hnq (e ▸ hj))) (fun j cs t ht hj=>zB0 _ _ _ _ j (fun e=>by
        rw [e,HQ1.out] at hj
        cases hj
        revert ht; decide))
     · have e1 : lfE (runT acts k M) = 0:=if_neg hz
       rw [e1] at HD1 ⊢
       rw [mv_0,<- zR2 HX.out M] at HD1
       have HZ:=zA0 hz
       clear e1 hz
       go_wp2
       go_roundw
       case rel =>
        refine ⟨k + 1,F1,by omega,by go_num,HD1,HF1,zA0 (fun j hj=>?_)⟩
        by_cases hjk : j < k
        · exact HLF.out j hjk
        · have : j = k:=by omega
          subst this
          exact HZ.out
       case measure=>simp [intOf]; omega
    | pt d =>
     obtain ⟨c1,c2,a,cp,rfl,h1,h2,h3,h4,h5,h6,h7,h8,h9⟩:=hT
     have HCL:=zA0 (HCALL.out _ _ _ rfl)
     have HX:=zA0 hx
     clear hv hx HCALL hqc hqr h1 h2 h3 h4 h5 h6 h7 h8 h9
     go_wp2_with fail
     refine Calls.mono HCL.out ?_
     rintro e w1 ⟨F1,rfl,hd,hf⟩
     have hf1:=HF.out.trans hf
     have hq1 : w1.heap[q]? = some (.cells #[.pointer (some ⟨p,0,none⟩),.bool rf,y0,y1,y2,y3,y4] 98 (0,0)):=(hf1.block q LQ.out NQ.out).trans HQ.out
     have b1 : w1.cell? ⟨q,1,none⟩ = some (.bool rf):=by rw [cell_of_row _ _ _ _ 98 (0,0) hq1]; rfl
     have lq1:=zA1 hq1
     have fq1 : w1.frozen? ⟨q,1,none⟩ = false:=by simp [World.frozen?,hq1]
     have HD1:=zA0 hd
     have HF1:=zA0 hf1
     have HQ1:=zA0 hq1
     clear hd hf hf1 hq1
     by_cases hz : (runT acts k M).left = 0
     · have e1 : lfE (runT acts k M) = 11:=if_pos hz
       rw [e1] at HD1 ⊢
       rw [zY6 (by decide)] at HD1
       have HZ:=zA0 hz
       clear e1 hz
       go_wp2
       go_ret
       refine ⟨k,F1,by have:=HN.out; omega,HLF.out,?_,.inr ⟨by have:=HN.out; omega,HZ.out,rfl,w1,HF1.out,rfl⟩⟩
       have hd2:=HD1.out.cnt (cnt':=cnt + acts.length) (by have:=HN.out; omega) (by have:=HC.out; omega)
       have hnq : ¬ F1 q:=HF1.out.notF LQ.out NQ.out
       exact hd2.keep (fun j hj=>zB0 _ _ _ _ j (fun e=>hnq (e ▸ hj))) (fun j cs t ht hj=>zB0 _ _ _ _ j (fun e=>by
        rw [e,HQ1.out] at hj
        cases hj
        revert ht; decide))
     · have e1 : lfE (runT acts k M) = 0:=if_neg hz
       rw [e1] at HD1 ⊢
       rw [mv_0,<- zR2 HX.out M] at HD1
       have HZ:=zA0 hz
       clear e1 hz
       go_wp2
       go_roundw
       case rel =>
        refine ⟨k + 1,F1,by omega,by go_num,HD1,HF1,zA0 (fun j hj=>?_)⟩
        by_cases hjk : j < k
        · exact HLF.out j hjk
        · have : j = k:=by omega
          subst this
          exact HZ.out
       case measure=>simp [intOf]; omega
    | ap d =>
     obtain ⟨c1,c2,a,cp,rfl,h1,h2,h3,h4,h5,h6,h7,h8,h9⟩:=hT
     have HCL:=zA0 (HCALL.out _ _ _ rfl)
     have HX:=zA0 hx
     clear hv hx HCALL hqc hqr h1 h2 h3 h4 h5 h6 h7 h8 h9
     go_wp2_with fail
     refine Calls.mono HCL.out ?_
     rintro e w1 ⟨F1,rfl,hd,hf⟩
     have hf1:=HF.out.trans hf
     have hq1 : w1.heap[q]? = some (.cells #[.pointer (some ⟨p,0,none⟩),.bool rf,y0,y1,y2,y3,y4] 98 (0,0)):=(hf1.block q LQ.out NQ.out).trans HQ.out
     have b1 : w1.cell? ⟨q,1,none⟩ = some (.bool rf):=by rw [cell_of_row _ _ _ _ 98 (0,0) hq1]; rfl
     have lq1:=zA1 hq1
     have fq1 : w1.frozen? ⟨q,1,none⟩ = false:=by simp [World.frozen?,hq1]
     have HD1:=zA0 hd
     have HF1:=zA0 hf1
     have HQ1:=zA0 hq1
     clear hd hf hf1 hq1
     by_cases hz : (runT acts k M).left = 0
     · have e1 : lfE (runT acts k M) = 11:=if_pos hz
       rw [e1] at HD1 ⊢
       rw [zY6 (by decide)] at HD1
       have HZ:=zA0 hz
       clear e1 hz
       go_wp2
       go_ret
       refine ⟨k,F1,by have:=HN.out; omega,HLF.out,?_,.inr ⟨by have:=HN.out; omega,HZ.out,rfl,w1,HF1.out,rfl⟩⟩
       have hd2:=HD1.out.cnt (cnt':=cnt + acts.length) (by have:=HN.out; omega) (by have:=HC.out; omega)
       have hnq : ¬ F1 q:=HF1.out.notF LQ.out NQ.out
       exact hd2.keep (fun j hj=>zB0 _ _ _ _ j (fun e=>hnq (e ▸ hj))) (fun j cs t ht hj=>zB0 _ _ _ _ j (fun e=>by
        rw [e,HQ1.out] at hj
        cases hj
        revert ht; decide))
     · have e1 : lfE (runT acts k M) = 0:=if_neg hz
       rw [e1] at HD1 ⊢
       rw [mv_0,<- zR2 HX.out M] at HD1
       have HZ:=zA0 hz
       clear e1 hz
       go_wp2
       go_roundw
       case rel =>
        refine ⟨k + 1,F1,by omega,by go_num,HD1,HF1,zA0 (fun j hj=>?_)⟩
        by_cases hjk : j < k
        · exact HLF.out j hjk
        · have : j = k:=by omega
          subst this
          exact HZ.out
       case measure=>simp [intOf]; omega
  · have hkn : n = k:=by omega
    subst hkn
    go_wp2
    go_ret
    exact ⟨acts.length,Fk,Nat.le_refl _,by rw [<- HN.out]; exact HLF.out,by rw [<- HN.out]; exact HD.out,.inl ⟨rfl,rfl,HF.out⟩⟩
end
end Go.Proofs.YtocoimjhglackaaGreat
