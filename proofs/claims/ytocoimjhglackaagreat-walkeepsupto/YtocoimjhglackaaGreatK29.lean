/- Wgc, Wgd -/
import Derived.Test.YtocoimjhglackaaGreatK28
set_option maxHeartbeats 8000000
set_option maxRecDepth 100000
namespace Go.Proofs.YtocoimjhglackaaGreat
section
open Go.RowKit Go.Maps
def wa (d:List UInt8) : List Ax:=[.pt d,.sy,.rn,.sy]
def ad (d:List UInt8) : List Ax:=[.ap d,.sy]
theorem Fw.fup {fs:FS} (h:Fw fs) {k:Nm} (hk:k = lgN\/k = nwN) (v:Option (List UInt8)) : Fw (fup fs k v):=fun j hj=>by
 rw [zG8] at hj
 split at hj
 · rename_i e; rw [e]; exact hk
 · exact h j hj
theorem Fw.stepA {M:Md} (h:Fw M.files) (x:Ax) : Fw (stepA x M).files:=by
 cases x with
 | sy=>exact h
 | pt d=>exact h.fup (.inr rfl) _
 | rn=>exact (h.fup (.inr rfl) _).fup (.inl rfl) _
 | ap d=>exact h.fup (.inl rfl) _
theorem Fw.runT {M:Md} (h:Fw M.files) (acts:List Ax) (k:Nat) : Fw (runT acts k M).files:=by
 unfold Proofs.YtocoimjhglackaaGreat.runT
 generalize acts.take k = l
 induction l generalizing M with
 | nil=>exact h
 | cons x l ih=>exact ih (h.stepA x)
theorem kG5 {M:Md} {d:List UInt8} (hd:d.length<=1048576) : ∀ (k:Nat) (x:Ax),(wa d)[k]? = some x->okA x (runT (wa d) k M):=by
 intro k x hx
 match k,hx with
 | 0,hx=>cases hx; exact hd
 | 1,hx=>cases hx; exact trivial
 | 2,hx =>
  cases hx
  show ((fup M.files nwN (some d)) nwN).isSome = true
  unfold fup; simp
 | 3,hx=>cases hx; exact trivial
 | k + 4,hx=>simp [wa] at hx
theorem kJ0 {M:Md} {d:List UInt8} (hd:(cOf M.files lgN).length + d.length<=1048576) : ∀ (k:Nat) (x:Ax),(ad d)[k]? = some x->okA x (runT (ad d) k M):=by
 intro k x hx
 match k,hx with
 | 0,hx=>cases hx; exact hd
 | 1,hx=>cases hx; exact trivial
 | k + 2,hx=>simp [ad] at hx
theorem DoP.pre {w w1:World} {q p cnt:Nat} {F:Nat->Prop} {acts:List Ax} {M:Md} {e:Ending} {w':World} (h:DoP w1 q p cnt F acts M e w') (hb:Below w.heap.size w w1) : DoP w q p cnt F acts M e w':=by
 obtain ⟨k,F',h1,h2,h3,h4⟩:=h
 refine ⟨k,F',h1,h2,h3,?_⟩
 rcases h4 with ⟨a,b,c⟩ | ⟨a,b,c,w2,d,e⟩
 · exact .inl ⟨a,b,(Fr.of_below hb).trans c⟩
 · exact .inr ⟨a,b,c,w2,(Fr.of_below hb).trans d,e⟩
theorem zZ8 {w:World} {q p cnt:Nat} {F:Nat->Prop} {acts:List Ax} {M:Md} {e:Ending} {w':World} (h:DoP w q p cnt F acts M e w') (hq:w.cell? ⟨q,0,none⟩ = some (.pointer (some ⟨p,0,none⟩))/\q < w.heap.size/\¬ F q) : ∃ E,e = .returned (.int .i64 E)/\w'.cell? ⟨q,0,none⟩ = some (.pointer (some ⟨p,0,none⟩))/\∀ k,k < w.heap.size->(¬ F k/\k ≠ q)->∀ {v},w.cell? ⟨k,0,none⟩ = some v->w'.cell? ⟨k,0,none⟩ = some v:=by
 obtain ⟨k,F',h1,h2,h3,h4⟩:=h
 rcases h4 with ⟨a,b,c⟩ | ⟨a,b,c,w2,d,e⟩
 · exact ⟨_,b,(c.cellK hq.2.1 hq.2.2).trans hq.1,fun j hj hn v hv=>(c.cellK hj hn.1).trans hv⟩
 · subst e
   refine ⟨_,c,?_,fun j hj hn v hv=>?_⟩
   · rw [World.cell?_setCell_other _ _ _ _ (by simp)]
     exact (d.cellK hq.2.1 hq.2.2).trans hq.1
   · exact (World.cell?_of_block (a:=⟨j,0,none⟩) (zB0 _ _ _ _ j hn.2)).trans ((d.cellK hj hn.1).trans hv)
theorem zH5 (q p cnt:Nat) (rf:Bool) (y0 y1 y2 y3 y4:Value) (a:Option Addr) (n cap:Nat) (d:List UInt8) (M:Md) (F:Nat->Prop) (w:World) (h:Dsk w p M cnt F)
    (hq:w.heap[q]? = some (.cells #[.pointer (some ⟨p,0,none⟩),.bool rf,y0,y1,y2,y3,y4] 98 (0,0))) (nq:¬ F q) (hn:n = d.length) (hB:Bs w a d) (hnn:a = none->d = []) (hab:∀ y,a = some y->¬ F y.block/\y.block < w.heap.size) (hdl:d.length<=1048576) (hfw:Fw M.files) (hc:cnt + 5<=2199023255552) :
    Calls Tryz.prog 38 #[.pointer (some ⟨q,0,none⟩),.slice a n cap] w (DoP w q p cnt F (wa d) M):=by
 subst hn
 have lq:=zA1 hq
 have hFl:=h.flt
 obtain ⟨w2,hw2⟩ : ∃ w2,w2 = (w.alloc (.cells #[.pointer (some ⟨q,0,none⟩)] 29)).alloc (.cells #[.slice a d.length cap] 22):=⟨_,rfl⟩
 have hB2 : Below w.heap.size w w2:=by rw [hw2]; exact (zB5 w _).alloc (by simp) _
 have hs2 : w2.heap.size = w.heap.size + 2:=by rw [hw2]; simp
 have g1 : w2.heap[w.heap.size]? = some (.cells #[.pointer (some ⟨q,0,none⟩)] 29 (0,0)):=by rw [hw2]; exact (Below.heap_alloc _ _ _ (by simp)).trans (heap_alloc_new w _)
 have g2 : w2.heap[w.heap.size + 1]? = some (.cells #[.slice a d.length cap] 22 (0,0)):=by
  rw [hw2]
  have:=heap_alloc_new (w.alloc (.cells #[.pointer (some ⟨q,0,none⟩)] 29)) (.cells #[.slice a d.length cap] 22)
  rwa [World.size_alloc] at this
 have c1 : w2.cell? ⟨w.heap.size,0,none⟩ = some (.pointer (some ⟨q,0,none⟩)):=cor g1 rfl
 have c2 : w2.cell? ⟨w.heap.size + 1,0,none⟩ = some (.slice a d.length cap):=cor g2 rfl
 have hq2 : w2.heap[q]? = _:=(hB2.block q lq).trans hq
 have cq2 : w2.cell? ⟨q,0,none⟩ = some (.pointer (some ⟨p,0,none⟩)):=cor hq2 rfl
 have n1 : ¬ F w.heap.size:=fun e=>by have:=hFl _ e; omega
 have n2 : ¬ F (w.heap.size + 1):=fun e=>by have:=hFl _ e; omega
 have n3 : ¬ F w2.heap.size:=fun e=>by have:=hFl _ e; omega
 obtain ⟨w3,hw3⟩ : ∃ w3,w3 = (w2.drew.alloc (.cells #[.func (.func 66) #[] #[.pointer (some ⟨w.heap.size,0,none⟩),.pointer (some ⟨w.heap.size + 1,0,none⟩)],.func (.func 11) #[.pointer (some ⟨p,0,none⟩)] #[],.func (.func 68) #[] #[.pointer (some ⟨w.heap.size,0,none⟩)],.func (.func 11) #[.pointer (some ⟨p,0,none⟩)] #[]] 27)):=⟨_,rfl⟩
 have hB3 : Below w2.heap.size w2 w3:=by rw [hw3]; exact (Below.refl _ w2).drew.alloc (Nat.le_refl _) _
 have hB23:=hB2.trans (hB3.mono hB2.size)
 have hs3 : w3.heap.size = w.heap.size + 3:=by rw [hw3]; simp; exact hs2
 have g3 : w3.heap[w2.heap.size]? = some (.cells #[.func (.func 66) #[] #[.pointer (some ⟨w.heap.size,0,none⟩),.pointer (some ⟨w.heap.size + 1,0,none⟩)],.func (.func 11) #[.pointer (some ⟨p,0,none⟩)] #[],.func (.func 68) #[] #[.pointer (some ⟨w.heap.size,0,none⟩)],.func (.func 11) #[.pointer (some ⟨p,0,none⟩)] #[]] 27 (0,0)):=by rw [hw3]; exact heap_alloc_new w2.drew _
 have c13 : w3.cell? ⟨w.heap.size,0,none⟩ = some (.pointer (some ⟨q,0,none⟩)):=(hB3.cell (p:=⟨w.heap.size,0,none⟩) (by show w.heap.size < _; omega)).trans c1
 have c23 : w3.cell? ⟨w.heap.size + 1,0,none⟩ = some (.slice a d.length cap):=(hB3.cell (p:=⟨w.heap.size + 1,0,none⟩) (by show w.heap.size + 1 < _; omega)).trans c2
 have hq3 : w3.heap[q]? = _:=(hB3.block q (by omega)).trans hq2
 have cq3 : w3.cell? ⟨q,0,none⟩ = some (.pointer (some ⟨p,0,none⟩)):=cor hq3 rfl
 have HDO:=zA0 (xR4 q p cnt w2.heap.size rf y0 y1 y2 y3 y4 (wa d) [.func (.func 66) #[] #[.pointer (some ⟨w.heap.size,0,none⟩),.pointer (some ⟨w.heap.size + 1,0,none⟩)],.func (.func 11) #[.pointer (some ⟨p,0,none⟩)] #[],.func (.func 68) #[] #[.pointer (some ⟨w.heap.size,0,none⟩)],.func (.func 11) #[.pointer (some ⟨p,0,none⟩)] #[]] 4 M F w3 (h.below hB23) hq3 nq rfl rfl (fun j v hv=>by rw [Nat.zero_add,cell_of_row _ _ _ _ 27 (0,0) g3]; simpa using hv) (by omega) n3
  (fun i v x hv hx=>by
   match i,hv,hx with
   | 0,hv,hx=>cases hv; cases hx; exact ⟨_,_,a,cap,rfl,c13,by omega,n1,c23,by omega,n2,hB.grow hB23,hnn,fun y hy=>⟨(hab y hy).1,by have:=(hab y hy).2; omega⟩⟩
   | 1,hv,hx=>cases hv; cases hx; rfl
   | 2,hv,hx=>cases hv; cases hx; exact ⟨_,rfl,c13,by omega,n1⟩
   | 3,hv,hx=>cases hv; cases hx; rfl
   | k + 4,hv,hx=>simp [wa] at hx)
  (fun k=>hfw.runT _ k) (kG5 hdl) (by simp [wa]; omega) (by simp [wa]))
 rw [hw3] at HDO
 have BW : Hid (Below w.heap.size w (w2.drew.alloc (.cells #[.func (.func 66) #[] #[.pointer (some ⟨w.heap.size,0,none⟩),.pointer (some ⟨w.heap.size + 1,0,none⟩)],.func (.func 11) #[.pointer (some ⟨p,0,none⟩)] #[],.func (.func 68) #[] #[.pointer (some ⟨w.heap.size,0,none⟩)],.func (.func 11) #[.pointer (some ⟨p,0,none⟩)] #[]] 27))):=zA0 (by rw [<- hw3]; exact hB23)
 have C12:=zA0 c1
 have CQ2:=zA0 cq2
 have C13 : Hid (((w2.drew.alloc (.cells #[.func (.func 66) #[] #[.pointer (some ⟨w.heap.size,0,none⟩),.pointer (some ⟨w.heap.size + 1,0,none⟩)],.func (.func 11) #[.pointer (some ⟨p,0,none⟩)] #[],.func (.func 68) #[] #[.pointer (some ⟨w.heap.size,0,none⟩)],.func (.func 11) #[.pointer (some ⟨p,0,none⟩)] #[]] 27))).cell? ⟨w.heap.size,0,none⟩ = some (.pointer (some ⟨q,0,none⟩))):=zA0 (by rw [<- hw3]; exact c13)
 have CQ3 : Hid (((w2.drew.alloc (.cells #[.func (.func 66) #[] #[.pointer (some ⟨w.heap.size,0,none⟩),.pointer (some ⟨w.heap.size + 1,0,none⟩)],.func (.func 11) #[.pointer (some ⟨p,0,none⟩)] #[],.func (.func 68) #[] #[.pointer (some ⟨w.heap.size,0,none⟩)],.func (.func 11) #[.pointer (some ⟨p,0,none⟩)] #[]] 27))).cell? ⟨q,0,none⟩ = some (.pointer (some ⟨p,0,none⟩))/\q < ((w2.drew.alloc (.cells #[.func (.func 66) #[] #[.pointer (some ⟨w.heap.size,0,none⟩),.pointer (some ⟨w.heap.size + 1,0,none⟩)],.func (.func 11) #[.pointer (some ⟨p,0,none⟩)] #[],.func (.func 68) #[] #[.pointer (some ⟨w.heap.size,0,none⟩)],.func (.func 11) #[.pointer (some ⟨p,0,none⟩)] #[]] 27))).heap.size/\¬ F q):=zA0 (by rw [<- hw3]; exact ⟨cq3,by omega,nq⟩)
 have LC13 : Hid (w.heap.size < ((w2.drew.alloc (.cells #[.func (.func 66) #[] #[.pointer (some ⟨w.heap.size,0,none⟩),.pointer (some ⟨w.heap.size + 1,0,none⟩)],.func (.func 11) #[.pointer (some ⟨p,0,none⟩)] #[],.func (.func 68) #[] #[.pointer (some ⟨w.heap.size,0,none⟩)],.func (.func 11) #[.pointer (some ⟨p,0,none⟩)] #[]] 27))).heap.size):=zA0 (by rw [<- hw3]; omega)
 have NC1 : Hid (¬ F w.heap.size/\w.heap.size ≠ q):=zA0 ⟨n1,by omega⟩
 have HW2:=zA0 hw2
 have HS2:=zA0 hs2
 clear hw3 hB2 hs2 g1 g2 c1 c2 hq2 cq2 n1 n2 n3 hB3 hB23 hs3 g3 c13 c23 hq3 cq3 h hq nq hB hnn hab hdl hfw hc hFl hw2
 generalize d.length = dn at *
 go_enter Tryz.func38,Tryz.ntmps38
 go_wp2
 rw [<- HW2.out]
 clear HW2
 refine wp_region_held_drew (S:=fun wz : World=>wz.cell? ⟨w.heap.size,0,none⟩ = some (.pointer (some ⟨q,0,none⟩))/\wz.cell? ⟨q,0,none⟩ = some (.pointer (some ⟨p,0,none⟩))) (by kernel_rfl) ⟨C12.out,CQ2.out⟩ (fun hHeld=>?_)
 refine tkH 0 rfl (.pointer (some ⟨q,0,none⟩)) (by kernel_rfl) rfl (fun _ _ _=>id) hHeld (by intro w hSw; obtain ⟨s1,s2⟩:=hSw; go_simp) ?_
 try simp only [aPa,aPc,aPd]
 refine tkH 1 rfl (.func (.func 66) #[] #[.pointer (some ⟨w.heap.size,0,none⟩),.pointer (some ⟨w.heap.size + 1,0,none⟩)]) (by kernel_rfl) rfl (fun _ _ _=>id) hHeld (by intro w hSw; (try dsimp only at hSw); go_simp) ?_
 try simp only [aPa,aPc,aPd]
 refine tkH 2 rfl (.pointer (some ⟨q,0,none⟩)) (by kernel_rfl) rfl (fun _ _ _=>id) hHeld (by intro w hSw; obtain ⟨s1,s2⟩:=hSw; go_simp) ?_
 try simp only [aPa,aPc,aPd]
 refine tkH 3 rfl (.pointer (some ⟨q,0,none⟩)) (by kernel_rfl) rfl (fun _ _ _=>id) hHeld (by intro w hSw; (try dsimp only at hSw); go_simp) ?_
 try simp only [aPa,aPc,aPd]
 refine tkH 4 rfl (.pointer (some ⟨q,0,none⟩)) (by kernel_rfl) rfl (fun _ _ _=>id) hHeld (by intro w hSw; (try dsimp only at hSw); go_simp) ?_
 try simp only [aPa,aPc,aPd]
 refine tkH 5 rfl (.pointer (some ⟨p,0,none⟩)) (by kernel_rfl) rfl (fun _ _ _=>id) hHeld (by intro w hSw; obtain ⟨s1,s2⟩:=hSw; go_simp) ?_
 try simp only [aPa,aPc,aPd]
 refine tkH 6 rfl (.func (.func 11) #[.pointer (some ⟨p,0,none⟩)] #[]) (by kernel_rfl) rfl (fun _ _ _=>id) hHeld (by intro w hSw; (try dsimp only at hSw); go_simp) ?_
 try simp only [aPa,aPc,aPd]
 refine tkH 7 rfl (.func (.func 68) #[] #[.pointer (some ⟨w.heap.size,0,none⟩)]) (by kernel_rfl) rfl (fun _ _ _=>id) hHeld (by intro w hSw; (try dsimp only at hSw); go_simp) ?_
 try simp only [aPa,aPc,aPd]
 refine tkH 8 rfl (.pointer (some ⟨q,0,none⟩)) (by kernel_rfl) rfl (fun _ _ _=>id) hHeld (by intro w hSw; obtain ⟨s1,s2⟩:=hSw; go_simp) ?_
 try simp only [aPa,aPc,aPd]
 refine tkH 9 rfl (.pointer (some ⟨q,0,none⟩)) (by kernel_rfl) rfl (fun _ _ _=>id) hHeld (by intro w hSw; (try dsimp only at hSw); go_simp) ?_
 try simp only [aPa,aPc,aPd]
 refine tkH 10 rfl (.pointer (some ⟨q,0,none⟩)) (by kernel_rfl) rfl (fun _ _ _=>id) hHeld (by intro w hSw; (try dsimp only at hSw); go_simp) ?_
 try simp only [aPa,aPc,aPd]
 refine tkH 11 rfl (.pointer (some ⟨p,0,none⟩)) (by kernel_rfl) rfl (fun _ _ _=>id) hHeld (by intro w hSw; obtain ⟨s1,s2⟩:=hSw; go_simp) ?_
 try simp only [aPa,aPc,aPd]
 refine tkH 12 rfl (.func (.func 11) #[.pointer (some ⟨p,0,none⟩)] #[]) (by kernel_rfl) rfl (fun _ _ _=>id) hHeld (by intro w hSw; (try dsimp only at hSw); go_simp) ?_
 try simp only [aPa,aPc,aPd]
 refine tkHc 13 rfl (by kernel_rfl) rfl (fun K hK=>?_)
 go_simp
 have s4 : (fun wz:World=>wz.cell? ⟨w.heap.size,0,none⟩ = some (.pointer (some ⟨q,0,none⟩))/\wz.cell? ⟨q,0,none⟩ = some (.pointer (some ⟨p,0,none⟩))) (w2.drew.alloc (.cells #[.func (.func 66) #[] #[.pointer (some ⟨w.heap.size,0,none⟩),.pointer (some ⟨w.heap.size + 1,0,none⟩)],.func (.func 11) #[.pointer (some ⟨p,0,none⟩)] #[],.func (.func 68) #[] #[.pointer (some ⟨w.heap.size,0,none⟩)],.func (.func 11) #[.pointer (some ⟨p,0,none⟩)] #[]] 27)):=⟨C13.out,CQ3.out.1⟩
 refine hK.out _ _ s4 (fun hHeld1=>?_)
 clear hK K
 try simp only [aPa,aPb,aPc,aPd]
 refine tkHc 14 rfl (by kernel_rfl) rfl (fun K hK=>?_)
 go_simp
 refine Calls.mono HDO.out ?_
 rintro e w5 hdo
 have HD:=zA0 (hdo.pre BW.out)
 obtain ⟨EE,hEE,s5⟩:=zZ8 hdo CQ3.out
 subst hEE
 have s6 : (fun wz:World=>wz.cell? ⟨w.heap.size,0,none⟩ = some (.pointer (some ⟨q,0,none⟩))/\wz.cell? ⟨q,0,none⟩ = some (.pointer (some ⟨p,0,none⟩))) w5:=⟨s5.2 _ LC13.out NC1.out C13.out,s5.1⟩
 clear hdo s5
 refine hK.out _ _ s6 (fun hHeld2=>?_)
 clear hK K
 try simp only [aPa,aPb,aPc,aPd]
 refine tkH 15 rfl (.int .i64 EE) (by kernel_rfl) rfl (fun _ _ _=>id) hHeld2 (by intro w hSw; (try dsimp only at hSw); go_simp) ?_
 try simp only [aPa,aPc,aPd]
 refine wpAnyH_done (by kernel_rfl) ?_ _
 go_wp2
 go_ret
 exact HD.out
end
section
open Go.RowKit Go.Maps
theorem xC0 (p cnt:Nat) (M:Md) (F:Nat->Prop) (w:World) (h:Dsk w p M cnt F) : Calls Tryz.prog 17 #[.pointer (some ⟨p,0,none⟩),.string lgB] w fun e w'=>∃ z,e = .returned (.tuple #[z,.int .i64 (if (M.files lgN).isSome = true then 0 else 12)])/\SlR w' z (cOf M.files lgN)/\Frs w z/\Below w.heap.size w w':=by
 obtain ⟨⟨bF,bD,DF,DD,dn,G,hd,_⟩,hM⟩:=h
 cases hf : M.files lgN with
 | none =>
  refine (xC1 lgB p cnt bF bD M DF DD dn G w hd yE6 hf).mono ?_
  rintro e w' ⟨rfl,rfl⟩
  exact ⟨_,rfl,by unfold cOf; rw [hf]; exact SlR.nil _,(fun k hk=>by cases hk),Below.refl _ _⟩
 | some d =>
  have hl : d.length<=1048576:=by have:=hM.files.1 lgN; unfold cOf at this; rw [hf] at this; exact this
  refine (xU7 lgB d p cnt bF bD M DF DD dn G w hd yE6 hf hl).mono ?_
  rintro e w' ⟨z,rfl,h1,h2,h3⟩
  exact ⟨z,rfl,by unfold cOf; rw [hf]; exact h1,h2,h3⟩
theorem Dsk.lgl {w:World} {p:Nat} {M:Md} {cnt:Nat} {F:Nat->Prop} (h:Dsk w p M cnt F) : (cOf M.files lgN).length<=1048576:=h.2.files.1 lgN
theorem xJ4 (q p cnt:Nat) (M:Md) (F:Nat->Prop) (w:World) (h:Dsk w p M cnt F) (hq:w.cell? ⟨q,0,none⟩ = some (.pointer (some ⟨p,0,none⟩))) (_lq:q < w.heap.size) : Calls Tryz.prog 92 #[.pointer (some ⟨q,0,none⟩)] w fun e w'=>e = .returned (.int .i64 ((cOf M.files lgN).length : Nat))/\Below w.heap.size w w':=by
 have HR:=zA0 (xC0 p cnt M F w h)
 clear h
 go_enter Tryz.func92,Tryz.ntmps92
 go_wp2_with fail
 refine Calls.mono HR.out ?_
 rintro e w1 ⟨z,rfl,h1,h2,h3⟩
 obtain ⟨za,zc,hz⟩:=yF6 h1
 subst hz
 have HB:=zA0 h3
 clear h1 h2 h3 HR
 obtain ⟨zn,hzn⟩ : ∃ zn,zn = (cOf M.files lgN).length:=⟨_,rfl⟩
 rw [<- hzn]
 have HZ:=zA0 hzn
 generalize (if (M.files lgN).isSome = true then (0:Int) else 12) = ee
 clear hzn
 go_wp2
 go_ret
 exact ⟨by rw [<- HZ.out]; rfl,HB.out⟩
theorem zJ6.form {w:World} {S:Nat->Prop} {cs:List Value} {s:Sd} (h:zJ6 w S cs s) : ∃ a n c a' n' c',cs = [.int .i64 s.t,.int .i64 s.v,.slice a n c,.int .i64 s.base,.slice a' n' c']:=by
 obtain ⟨sv,ev,rfl,h1,h2⟩:=h
 obtain ⟨a,n,c,rfl⟩:=h1.form
 obtain ⟨a',c',rfl,_⟩:=h2
 exact ⟨_,_,_,_,_,_,rfl⟩
def zI7 (M:Md) (mo nx:Sd) : List Ax:=if 524288 < (cOf M.files lgN).length + (zC9 mo).length then wa (zC9 nx) else ad (zC9 mo)
theorem yE0 {w:World} {a:Option Addr} {n c:Nat} {l:List UInt8} (h:Own w (.slice a n c) l) : a = none->l = []:=by
 rintro rfl
 rcases h with ⟨_,e⟩ | ⟨g,cap,cur,e,_⟩
 · exact e
 · cases e
theorem yE1 {w:World} {a:Option Addr} {n c B:Nat} {l:List UInt8} {F:Nat->Prop} (h:Own w (.slice a n c) l) (hn:∀ k,(Value.slice a n c).ownBlock = some k->B<=k) (hF:∀ k,F k->k < B) : ∀ y,a = some y->¬ F y.block/\y.block < w.heap.size:=by
 rintro y rfl
 exact ⟨fun e=>by have:=hF _ e; have:=hn _ rfl; omega,h.lt _ rfl⟩
theorem yG7 (q p cnt:Nat) (rf:Bool) (y0 y1 y2 y3 y4:Value) (cm cn:List Value) (mo nx:Sd) (M:Md) (F:Nat->Prop) (w:World) (h:Dsk w p M cnt F)
    (hq:w.heap[q]? = some (.cells #[.pointer (some ⟨p,0,none⟩),.bool rf,y0,y1,y2,y3,y4] 98 (0,0))) (nq:¬ F q) (hm:zJ6 w (fun k=>k < w.heap.size) cm mo) (hx:zJ6 w (fun k=>k < w.heap.size) cn nx) (hfm:FrOk mo) (hfx:FrOk nx) (hnl:(zC9 nx).length<=1048576) (hml:(zC9 mo).length<=281474976710) (hfw:Fw M.files) (hc:cnt + 5<=2199023255552) :
    Calls Tryz.prog 60 #[.pointer (some ⟨q,0,none⟩),.agg cm.toArray,.agg cn.toArray] w (DoP w q p cnt F (zI7 M mo nx) M):=by
 have lq:=zA1 hq
 have hFl:=h.flt
 obtain ⟨a1,b1,c1,d1,e1,f1,rfl⟩:=hm.form
 obtain ⟨a2,b2,c2,d2,e2,f2,rfl⟩:=hx.form
 obtain ⟨w2,hw2⟩ : ∃ w2,w2 = ((w.alloc (.cells #[.pointer (some ⟨q,0,none⟩)] 29)).alloc (.cells #[.int .i64 mo.t,.int .i64 mo.v,.slice a1 b1 c1,.int .i64 mo.base,.slice d1 e1 f1] 94)).alloc (.cells #[.int .i64 nx.t,.int .i64 nx.v,.slice a2 b2 c2,.int .i64 nx.base,.slice d2 e2 f2] 94):=⟨_,rfl⟩
 have hB2 : Below w.heap.size w w2:=by rw [hw2]; exact ((zB5 w _).alloc (by simp) _).alloc (by simp; omega) _
 have hs2 : w2.heap.size = w.heap.size + 3:=by rw [hw2]; simp
 have g0 : w2.heap[w.heap.size]? = some (.cells #[.pointer (some ⟨q,0,none⟩)] 29 (0,0)):=by rw [hw2]; exact (Below.heap_alloc _ _ _ (by simp; omega)).trans ((Below.heap_alloc _ _ _ (by simp)).trans (heap_alloc_new w _))
 have g1 : w2.heap[w.heap.size + 1]? = some (.cells #[.int .i64 mo.t,.int .i64 mo.v,.slice a1 b1 c1,.int .i64 mo.base,.slice d1 e1 f1] 94 (0,0)):=by
  rw [hw2]
  refine (Below.heap_alloc _ _ _ (by simp)).trans ?_
  have:=heap_alloc_new (w.alloc (.cells #[.pointer (some ⟨q,0,none⟩)] 29)) (.cells #[.int .i64 mo.t,.int .i64 mo.v,.slice a1 b1 c1,.int .i64 mo.base,.slice d1 e1 f1] 94)
  rwa [World.size_alloc] at this
 have g2 : w2.heap[w.heap.size + 2]? = some (.cells #[.int .i64 nx.t,.int .i64 nx.v,.slice a2 b2 c2,.int .i64 nx.base,.slice d2 e2 f2] 94 (0,0)):=by
  rw [hw2]
  have:=heap_alloc_new ((w.alloc (.cells #[.pointer (some ⟨q,0,none⟩)] 29)).alloc (.cells #[.int .i64 mo.t,.int .i64 mo.v,.slice a1 b1 c1,.int .i64 mo.base,.slice d1 e1 f1] 94)) (.cells #[.int .i64 nx.t,.int .i64 nx.v,.slice a2 b2 c2,.int .i64 nx.base,.slice d2 e2 f2] 94)
  rwa [World.size_alloc,World.size_alloc] at this
 have hmA : zE7 w2 (fun k=>k < w.heap.size) (w.heap.size + 1) 0 mo:=⟨_,hm.kept hB2.size (fun k hk=>hB2.block k hk) (fun k hk=>hk),fun j v hv=>by rw [Nat.zero_add,cell_of_row _ _ _ _ 94 (0,0) g1]; simpa using hv⟩
 have hxA : zE7 w2 (fun k=>k < w.heap.size) (w.heap.size + 2) 0 nx:=⟨_,hx.kept hB2.size (fun k hk=>hB2.block k hk) (fun k hk=>hk),fun j v hv=>by rw [Nat.zero_add,cell_of_row _ _ _ _ 94 (0,0) g2]; simpa using hv⟩
 have HFM:=zA0 (zP0 (fun k=>k < w.heap.size) (w.heap.size + 1) 0 mo w2 hmA (fun k hk=>by omega) (by omega) hfm)
 have HXA:=zA0 hxA
 have HFX:=zA0 hfx
 have HNL:=zA0 hnl
 have HML:=zA0 hml
 have HFW:=zA0 hfw
 have HC:=zA0 hc
 have H:=zA0 h
 have HQ:=zA0 hq
 have NQ:=zA0 nq
 have LQ:=zA0 lq
 have HFL:=zA0 hFl
 have HB2:=zA0 hB2
 have HS2:=zA0 hs2
 have C02 : Hid (w2.cell? ⟨w.heap.size,0,none⟩ = some (.pointer (some ⟨q,0,none⟩))):=zA0 (cor g0 rfl)
 have hlg:=h.lgl
 have HW2:=zA0 hw2
 clear hm hx hfm hfx hnl hml hfw hc h hq nq lq hFl hB2 hs2 g0 g1 g2 hmA hxA hw2
 go_enter Tryz.func60,Tryz.ntmps60
 go_upto_region 1 with (fail)
 rw [<- HW2.out]
 clear HW2
 go_wp2_with fail
 refine Calls.mono HFM.out ?_
 rintro e w3x ⟨v3,rfl,ho3,hn3,hb3⟩
 obtain ⟨fa,fc,hv3,hbs3⟩:=ho3.form
 subst hv3
 obtain ⟨w3,hw3⟩ : ∃ w3,w3 = w3x.alloc (.cells #[.slice fa (zC9 mo).length fc] 22):=⟨_,rfl⟩
 have hB3 : Below w3x.heap.size w3x w3:=by rw [hw3]; exact zB5 _ _
 have hB23 : Below w2.heap.size w2 w3:=hb3.trans (hB3.mono hb3.size)
 have hBw3 : Below w.heap.size w w3:=HB2.out.trans (hB23.mono HB2.out.size)
 have hs3 : w3.heap.size = w3x.heap.size + 1:=by rw [hw3]; simp
 have g7 : w3.heap[w3x.heap.size]? = some (.cells #[.slice fa (zC9 mo).length fc] 22 (0,0)):=by rw [hw3]; exact heap_alloc_new _ _
 have C33 : Hid (w3.cell? ⟨w.heap.size,0,none⟩ = some (.pointer (some ⟨q,0,none⟩))):=zA0 ((hB23.cell (p:=⟨w.heap.size,0,none⟩) (by have:=HS2.out; show w.heap.size < _; omega)).trans C02.out)
 have C730 : w3.cell? ⟨w3x.heap.size,0,none⟩ = some (.slice fa (zC9 mo).length fc):=cor g7 rfl
 have LC3 : Hid (w.heap.size < w3.heap.size):=zA0 (by have:=HS2.out; have:=hB23.size; omega)
 have LC7 : Hid (w3x.heap.size < w3.heap.size):=zA0 (by omega)
 have HQ3:=zA0 ((hBw3.block q LQ.out).trans HQ.out)
 have HD3:=zA0 (H.out.below hBw3)
 have HSZ:=zA0 (xJ4 q p cnt M F w3.drew HD3.out.drew (by have:w3.cell? ⟨q,0,none⟩ = some (.pointer (some ⟨p,0,none⟩)):=(cor HQ3.out rfl); exact this) (zA1 HQ3.out))
 have HBS3 : Hid (Bs w3 fa (zC9 mo)):=zA0 ((hbs3 (by have:=HML.out; omega)).grow hB3)
 have HO3:=zA0 ho3
 have HX3:=zA0 hb3.size
 have HN3:=zA0 hn3
 have HBW3:=zA0 hBw3
 have HXA3:=zA0 (HXA.out.kept (S':=fun k=>k < w.heap.size) hB23.size (fun k hk=>hB23.block k (by have:=HS2.out; omega)) (fun k hk=>hk) (hB23.block _ (by have:=HS2.out; omega)))
 have HB23:=zA0 hB23
 have HML2:=HML.out
 have HAB3 : Hid (∀ y,fa = some y->¬ F y.block/\y.block < w3.heap.size):=zA0 (fun y hy=>by
  obtain ⟨u1,u2⟩:=yE1 (B:=w2.heap.size) ho3 hn3 (F:=F) (fun k hk=>by have:=HFL.out k hk; have:=HS2.out; omega) y hy
  exact ⟨u1,by omega⟩)
 obtain ⟨fn,hfn⟩ : ∃ fn,fn = (zC9 mo).length:=⟨_,rfl⟩
 rw [<- hfn] at C730 HML2 ⊢
 rw [<- hfn] at hw3
 have C73:=zA0 C730
 have HFN:=zA0 hfn
 have HW3:=zA0 hw3
 clear hB3 hb3 hB23 hBw3 hs3 g7 C730 ho3 hn3 hbs3 hfn hw3 HFM
 go_upto_region 2 with (fail)
 rw [<- HW3.out]
 clear HW3
 refine wp_region_held_drew (S:=fun wz : World=>wz.cell? ⟨w.heap.size,0,none⟩ = some (.pointer (some ⟨q,0,none⟩))/\wz.cell? ⟨w3x.heap.size,0,none⟩ = some (.slice fa fn fc)) (by kernel_rfl) ⟨C33.out,C73.out⟩ (fun hHeld=>?_)
 refine tkH 0 rfl (.pointer (some ⟨q,0,none⟩)) (by kernel_rfl) rfl (fun _ _ _=>id) hHeld (by intro w hSw; obtain ⟨s1,s2⟩:=hSw; go_simp) ?_
 try simp only [aPa,aPc,aPd]
 refine tkH 2 rfl (.slice fa fn fc) (by kernel_rfl) rfl (fun _ _ _=>id) hHeld (by intro w hSw; obtain ⟨s1,s2⟩:=hSw; go_simp) ?_
 try simp only [aPa,aPc,aPd]
 refine tkH 3 rfl (.int .i64 (fn:Int)) (by kernel_rfl) rfl (fun _ _ _=>id) hHeld (by intro w hSw; (try dsimp only at hSw); go_simp) ?_
 try simp only [aPa,aPc,aPd]
 refine tkHc 1 rfl (by kernel_rfl) rfl (fun K hK=>?_)
 go_simp
 refine Calls.mono HSZ.out ?_
 rintro e w4 ⟨rfl,hb4⟩
 have HB4 : Hid (Below w3.heap.size w3 w4):=zA0 ⟨hb4.os,hb4.tape,hb4.output,hb4.size,hb4.block⟩
 have s4 : (fun wz:World=>wz.cell? ⟨w.heap.size,0,none⟩ = some (.pointer (some ⟨q,0,none⟩))/\wz.cell? ⟨w3x.heap.size,0,none⟩ = some (.slice fa fn fc)) w4:=⟨(HB4.out.cell (p:=⟨w.heap.size,0,none⟩) LC3.out).trans C33.out,(HB4.out.cell (p:=⟨w3x.heap.size,0,none⟩) LC7.out).trans C73.out⟩
 clear hb4
 refine hK.out _ _ s4 (fun hHeld1=>?_)
 clear hK K
 try simp only [aPa,aPb,aPc,aPd]
 refine tkH 4 rfl (.int .i64 ((cOf M.files lgN).length + (fn:Int))) (by kernel_rfl) rfl (fun _ _ _=>id) hHeld1 (by intro w hSw; clear hSw; go_simp; all_goals (first | done | (rw [IntKind.wrap_i64]; omega))) ?_
 try simp only [aPa,aPc,aPd]
 refine tkH 5 rfl (.bool (decide (524288 < ((cOf M.files lgN).length : Int) + (fn:Int)))) (by kernel_rfl) rfl (fun _ _ _=>id) hHeld1 (by intro w hSw; (try dsimp only at hSw); go_simp) ?_
 try simp only [aPa,aPc,aPd]
 refine wpAnyH_done (by kernel_rfl) ?_ _
 have HB43:=HB4
 have hBw4 : Below w.heap.size w w4:=HBW3.out.trans (HB4.out.mono HBW3.out.size)
 have BW4:=zA0 hBw4
 have HQ4:=zA0 ((hBw4.block q LQ.out).trans HQ.out)
 have CQ4 : Hid (w4.cell? ⟨q,0,none⟩ = some (.pointer (some ⟨p,0,none⟩))):=zA0 (cor HQ4.out rfl)
 have LQ4:=zA0 (zA1 HQ4.out)
 have HD4:=zA0 (H.out.below hBw4)
 have C34 : Hid (w4.cell? ⟨w.heap.size,0,none⟩ = some (.pointer (some ⟨q,0,none⟩))):=zA0 ((HB4.out.cell (p:=⟨w.heap.size,0,none⟩) LC3.out).trans C33.out)
 have C74 : Hid (w4.cell? ⟨w3x.heap.size,0,none⟩ = some (.slice fa fn fc)):=zA0 ((HB4.out.cell (p:=⟨w3x.heap.size,0,none⟩) LC7.out).trans C73.out)
 have LC34 : Hid (w.heap.size < w4.heap.size):=zA0 (Nat.lt_of_lt_of_le LC3.out HB4.out.size)
 have LC74 : Hid (w3x.heap.size < w4.heap.size):=zA0 (Nat.lt_of_lt_of_le LC7.out HB4.out.size)
 have HXA4:=zA0 (HXA3.out.kept (S':=fun k=>k < w.heap.size) HB4.out.size (fun k hk=>HB4.out.block k (by have:=LC3.out; omega)) (fun k hk=>hk) (HB4.out.block _ (by have:=HS2.out; have:=HB23.out.size; omega)))
 have NC3 : Hid (¬ F w.heap.size/\w.heap.size ≠ q):=zA0 ⟨fun e=>by have:=HFL.out _ e; omega,by have:=LQ.out; omega⟩
 have HFL4 : Hid (∀ k,F k->k < w4.heap.size):=zA0 (fun k hk=>by have:=HFL.out k hk; have:=LC34.out; omega)
 clear hBw4
 by_cases hbig : 524288 < ((cOf M.files lgN).length : Int) + (fn:Int)
 · have HAC : Hid (zI7 M mo nx = wa (zC9 nx)):=zA0 (if_pos (by have:=HFN.out; omega))
   rw [decide_eq_true hbig]
   have HFN:=zA0 (zP0 (fun k=>k < w.heap.size) (w.heap.size + 2) 0 nx w4.drew HXA4.out (fun k hk=>by have:=LC34.out; show k < w4.heap.size; omega) (by have:=HS2.out; have:=HB23.out.size; have:=HB43.out.size; show w.heap.size + 2 < w4.heap.size; omega) HFX.out)
   have CQ5 : ∀ {w5:World},Below w4.heap.size w4 w5->w5.cell? ⟨q,0,none⟩ = some (.pointer (some ⟨p,0,none⟩))/\q < w5.heap.size/\¬ F q:=fun hb=>⟨(hb.cell (p:=⟨q,0,none⟩) LQ4.out).trans CQ4.out,Nat.lt_of_lt_of_le LQ4.out hb.size,NQ.out⟩
   clear hbig
   go_wp2
   refine wp_region_held_drew (S:=fun wz : World=>wz.cell? ⟨w.heap.size,0,none⟩ = some (.pointer (some ⟨q,0,none⟩))) (by kernel_rfl) C34.out (fun hHeld=>?_)
   refine tkH 0 rfl (.pointer (some ⟨q,0,none⟩)) (by kernel_rfl) rfl (fun _ _ _=>id) hHeld (by intro w hSw; go_simp) ?_
   try simp only [aPa,aPc,aPd]
   refine tkHc 1 rfl (by kernel_rfl) rfl (fun K hK=>?_)
   go_simp
   refine Calls.mono HFN.out ?_
   rintro e w5 ⟨v5,rfl,ho5,hn5,hb5⟩
   have HB5 : Hid (Below w4.heap.size w4 w5):=zA0 ⟨hb5.os,hb5.tape,hb5.output,hb5.size,hb5.block⟩
   obtain ⟨ga,gc,hv5,hbs5⟩:=ho5.form
   subst hv5
   have HBS5:=zA0 (hbs5 (by have:=HNL.out; omega))
   have HN5:=zA0 hn5
   have HO5:=zA0 ho5
   have s5 : (fun wz:World=>wz.cell? ⟨w.heap.size,0,none⟩ = some (.pointer (some ⟨q,0,none⟩))) w5:=(HB5.out.cell (p:=⟨w.heap.size,0,none⟩) LC34.out).trans C34.out
   have HWN:=zA0 (zH5 q p cnt rf y0 y1 y2 y3 y4 ga (zC9 nx).length gc (zC9 nx) M F w5 (HD4.out.below HB5.out) ((HB5.out.block q LQ4.out).trans HQ4.out) NQ.out rfl HBS5.out (yE0 HO5.out) (yE1 HO5.out HN5.out HFL4.out) HNL.out HFW.out HC.out)
   obtain ⟨gn,hgn⟩ : ∃ gn,gn = (zC9 nx).length:=⟨_,rfl⟩
   rw [<- hgn] at HWN ⊢
   clear hb5 ho5 hn5 hbs5 hgn
   refine hK.out _ _ s5 (fun hHeld1=>?_)
   clear hK K
   try simp only [aPa,aPb,aPc,aPd]
   refine tkHc 2 rfl (by kernel_rfl) rfl (fun K hK=>?_)
   go_simp
   refine Calls.mono HWN.out ?_
   rintro e w6 hdo
   obtain ⟨EE,hEE,e5⟩:=zZ8 hdo (CQ5 HB5.out)
   subst hEE
   have HD:=zA0 (hdo.pre (BW4.out.trans (HB5.out.mono BW4.out.size)))
   have s6 : (fun wz:World=>wz.cell? ⟨w.heap.size,0,none⟩ = some (.pointer (some ⟨q,0,none⟩))) w6:=e5.2 _ (Nat.lt_of_lt_of_le LC34.out HB5.out.size) NC3.out s5
   clear hdo e5
   refine hK.out _ _ s6 (fun hHeld2=>?_)
   clear hK K
   try simp only [aPa,aPb,aPc,aPd]
   refine tkH 3 rfl (.int .i64 EE) (by kernel_rfl) rfl (fun _ _ _=>id) hHeld2 (by intro w hSw; (try dsimp only at hSw); go_simp) ?_
   try simp only [aPa,aPc,aPd]
   refine wpAnyH_done (by kernel_rfl) ?_ _
   go_wp2
   go_ret
   rw [HAC.out]
   exact HD.out
 · have HAC : Hid (zI7 M mo nx = ad (zC9 mo)):=zA0 (if_neg (by have:=HFN.out; omega))
   rw [decide_eq_false hbig]
   have hB7 : Below w4.heap.size w4 (w4.drew.alloc (.cells #[.func (.func 93) #[] #[.pointer (some ⟨w.heap.size,0,none⟩),.pointer (some ⟨w3x.heap.size,0,none⟩)],.func (.func 11) #[.pointer (some ⟨p,0,none⟩)] #[]] 27)):=(Below.refl _ w4).drew.alloc (Nat.le_refl _) _
   have BB7:=zA0 (BW4.out.trans (hB7.mono BW4.out.size))
   have C37 : Hid (((w4.drew.alloc (.cells #[.func (.func 93) #[] #[.pointer (some ⟨w.heap.size,0,none⟩),.pointer (some ⟨w3x.heap.size,0,none⟩)],.func (.func 11) #[.pointer (some ⟨p,0,none⟩)] #[]] 27))).cell? ⟨w.heap.size,0,none⟩ = some (.pointer (some ⟨q,0,none⟩))):=zA0 ((hB7.cell (p:=⟨w.heap.size,0,none⟩) LC34.out).trans C34.out)
   have C77 : ((w4.drew.alloc (.cells #[.func (.func 93) #[] #[.pointer (some ⟨w.heap.size,0,none⟩),.pointer (some ⟨w3x.heap.size,0,none⟩)],.func (.func 11) #[.pointer (some ⟨p,0,none⟩)] #[]] 27))).cell? ⟨w3x.heap.size,0,none⟩ = some (.slice fa fn fc):=(hB7.cell (p:=⟨w3x.heap.size,0,none⟩) LC74.out).trans C74.out
   have CQ7 : Hid (((w4.drew.alloc (.cells #[.func (.func 93) #[] #[.pointer (some ⟨w.heap.size,0,none⟩),.pointer (some ⟨w3x.heap.size,0,none⟩)],.func (.func 11) #[.pointer (some ⟨p,0,none⟩)] #[]] 27))).cell? ⟨q,0,none⟩ = some (.pointer (some ⟨p,0,none⟩))/\q < ((w4.drew.alloc (.cells #[.func (.func 93) #[] #[.pointer (some ⟨w.heap.size,0,none⟩),.pointer (some ⟨w3x.heap.size,0,none⟩)],.func (.func 11) #[.pointer (some ⟨p,0,none⟩)] #[]] 27))).heap.size/\¬ F q):=zA0 ⟨(hB7.cell (p:=⟨q,0,none⟩) LQ4.out).trans CQ4.out,Nat.lt_of_lt_of_le LQ4.out hB7.size,NQ.out⟩
   have LC37 : Hid (w.heap.size < ((w4.drew.alloc (.cells #[.func (.func 93) #[] #[.pointer (some ⟨w.heap.size,0,none⟩),.pointer (some ⟨w3x.heap.size,0,none⟩)],.func (.func 11) #[.pointer (some ⟨p,0,none⟩)] #[]] 27))).heap.size):=zA0 (Nat.lt_of_lt_of_le LC34.out hB7.size)
   have g9 : ((w4.drew.alloc (.cells #[.func (.func 93) #[] #[.pointer (some ⟨w.heap.size,0,none⟩),.pointer (some ⟨w3x.heap.size,0,none⟩)],.func (.func 11) #[.pointer (some ⟨p,0,none⟩)] #[]] 27))).heap[w4.heap.size]? = some (.cells #[.func (.func 93) #[] #[.pointer (some ⟨w.heap.size,0,none⟩),.pointer (some ⟨w3x.heap.size,0,none⟩)],.func (.func 11) #[.pointer (some ⟨p,0,none⟩)] #[]] 27 (0,0)):=heap_alloc_new w4.drew _
   have l9 : w4.heap.size < ((w4.drew.alloc (.cells #[.func (.func 93) #[] #[.pointer (some ⟨w.heap.size,0,none⟩),.pointer (some ⟨w3x.heap.size,0,none⟩)],.func (.func 11) #[.pointer (some ⟨p,0,none⟩)] #[]] 27))).heap.size:=by simp
   have HDO:=zA0 (xR4 q p cnt w4.heap.size rf y0 y1 y2 y3 y4 (ad (zC9 mo)) [.func (.func 93) #[] #[.pointer (some ⟨w.heap.size,0,none⟩),.pointer (some ⟨w3x.heap.size,0,none⟩)],.func (.func 11) #[.pointer (some ⟨p,0,none⟩)] #[]] 2 M F (w4.drew.alloc (.cells #[.func (.func 93) #[] #[.pointer (some ⟨w.heap.size,0,none⟩),.pointer (some ⟨w3x.heap.size,0,none⟩)],.func (.func 11) #[.pointer (some ⟨p,0,none⟩)] #[]] 27)) (HD4.out.below hB7) ((hB7.block q LQ4.out).trans HQ4.out) NQ.out rfl rfl (fun j v hv=>by rw [Nat.zero_add,cell_of_row _ _ _ _ 27 (0,0) g9]; simpa using hv) l9 (fun e=>by have:=HFL4.out _ e; omega)
    (fun i v x hv hx=>by
     match i,hv,hx with
     | 0,hv,hx =>
      cases hv; cases hx
      refine ⟨_,_,fa,fc,rfl,C37.out,LC37.out,NC3.out.1,by rw [<- HFN.out]; exact C77,Nat.lt_of_lt_of_le LC74.out hB7.size,fun e=>?_,((HBS3.out.grow HB43.out)).grow hB7,yE0 HO3.out,fun y hy=>⟨(HAB3.out y hy).1,Nat.lt_of_lt_of_le (Nat.lt_of_lt_of_le (HAB3.out y hy).2 HB43.out.size) hB7.size⟩⟩
      have:=HFL.out _ e
      have:=HS2.out
      have:=HB23.out.size
      have:=HX3.out
      omega
     | 1,hv,hx=>cases hv; cases hx; rfl
     | k + 2,hv,hx=>simp [ad] at hx)
    (fun k=>HFW.out.runT _ k) (kJ0 (by have:=HFN.out; omega)) (by have:=HC.out; simp [ad]; omega) (by simp [ad]))
   clear hbig hB7 C77 g9 l9
   go_wp2
   refine wp_region_held_drew (S:=fun wz : World=>wz.cell? ⟨w.heap.size,0,none⟩ = some (.pointer (some ⟨q,0,none⟩))/\wz.cell? ⟨q,0,none⟩ = some (.pointer (some ⟨p,0,none⟩))) (by kernel_rfl) ⟨C34.out,CQ4.out⟩ (fun hHeld=>?_)
   refine tkH 0 rfl (.pointer (some ⟨q,0,none⟩)) (by kernel_rfl) rfl (fun _ _ _=>id) hHeld (by intro w hSw; obtain ⟨s1,s2⟩:=hSw; go_simp) ?_
   try simp only [aPa,aPc,aPd]
   refine tkH 1 rfl (.func (.func 93) #[] #[.pointer (some ⟨w.heap.size,0,none⟩),.pointer (some ⟨w3x.heap.size,0,none⟩)]) (by kernel_rfl) rfl (fun _ _ _=>id) hHeld (by intro w hSw; (try dsimp only at hSw); go_simp) ?_
   try simp only [aPa,aPc,aPd]
   refine tkH 2 rfl (.pointer (some ⟨q,0,none⟩)) (by kernel_rfl) rfl (fun _ _ _=>id) hHeld (by intro w hSw; obtain ⟨s1,s2⟩:=hSw; go_simp) ?_
   try simp only [aPa,aPc,aPd]
   refine tkH 3 rfl (.pointer (some ⟨q,0,none⟩)) (by kernel_rfl) rfl (fun _ _ _=>id) hHeld (by intro w hSw; (try dsimp only at hSw); go_simp) ?_
   try simp only [aPa,aPc,aPd]
   refine tkH 4 rfl (.pointer (some ⟨q,0,none⟩)) (by kernel_rfl) rfl (fun _ _ _=>id) hHeld (by intro w hSw; (try dsimp only at hSw); go_simp) ?_
   try simp only [aPa,aPc,aPd]
   refine tkH 5 rfl (.pointer (some ⟨p,0,none⟩)) (by kernel_rfl) rfl (fun _ _ _=>id) hHeld (by intro w hSw; obtain ⟨s1,s2⟩:=hSw; go_simp) ?_
   try simp only [aPa,aPc,aPd]
   refine tkH 6 rfl (.func (.func 11) #[.pointer (some ⟨p,0,none⟩)] #[]) (by kernel_rfl) rfl (fun _ _ _=>id) hHeld (by intro w hSw; (try dsimp only at hSw); go_simp) ?_
   try simp only [aPa,aPc,aPd]
   refine tkHc 7 rfl (by kernel_rfl) rfl (fun K hK=>?_)
   go_simp
   have s4 : (fun wz:World=>wz.cell? ⟨w.heap.size,0,none⟩ = some (.pointer (some ⟨q,0,none⟩))/\wz.cell? ⟨q,0,none⟩ = some (.pointer (some ⟨p,0,none⟩))) (w4.drew.alloc (.cells #[.func (.func 93) #[] #[.pointer (some ⟨w.heap.size,0,none⟩),.pointer (some ⟨w3x.heap.size,0,none⟩)],.func (.func 11) #[.pointer (some ⟨p,0,none⟩)] #[]] 27)):=⟨C37.out,CQ7.out.1⟩
   refine hK.out _ _ s4 (fun hHeld1=>?_)
   clear hK K
   try simp only [aPa,aPb,aPc,aPd]
   refine tkHc 8 rfl (by kernel_rfl) rfl (fun K hK=>?_)
   go_simp
   refine Calls.mono HDO.out ?_
   rintro e w8 hdo
   obtain ⟨EE,hEE,e5⟩:=zZ8 hdo CQ7.out
   subst hEE
   have HD:=zA0 (hdo.pre BB7.out)
   have s6 : (fun wz:World=>wz.cell? ⟨w.heap.size,0,none⟩ = some (.pointer (some ⟨q,0,none⟩))/\wz.cell? ⟨q,0,none⟩ = some (.pointer (some ⟨p,0,none⟩))) w8:=⟨e5.2 _ LC37.out NC3.out C37.out,e5.1⟩
   clear hdo e5
   refine hK.out _ _ s6 (fun hHeld2=>?_)
   clear hK K
   try simp only [aPa,aPb,aPc,aPd]
   refine tkH 9 rfl (.int .i64 EE) (by kernel_rfl) rfl (fun _ _ _=>id) hHeld2 (by intro w hSw; (try dsimp only at hSw); go_simp) ?_
   try simp only [aPa,aPc,aPd]
   refine wpAnyH_done (by kernel_rfl) ?_ _
   go_wp2
   go_ret
   rw [HAC.out]
   exact HD.out
end
end Go.Proofs.YtocoimjhglackaaGreat
