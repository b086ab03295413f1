/- Vrc, Vgen -/
import Derived.Test.YtocoimjhglackaaGreatK15
import Derived.Test.YtocoimjhglackaaGreatK14
set_option maxHeartbeats 8000000
set_option maxRecDepth 100000
namespace Go.Proofs.YtocoimjhglackaaGreat
section
open Go.RowKit
theorem xO1 (s:Option (List UInt8)) : de zA8 s = ((numV s,numV (numS s),(de zD4 (numS (numS s))).1),((de zD4 (numS (numS s))).2)):=(de_c (de_n s) (de_c (de_n (numS s)) (de_e zD4 (numS (numS s)))))
theorem xX3 {D:Nat} (p:Nat) (s:Option (List UInt8)) (w:World) (h:RG D w p s) :
    Calls Tryz.prog 118 #[.pointer (some ⟨p,0,none⟩)] w fun e w'=>∃ cs : List Value,e = .returned (.agg cs.toArray)/\Rep w' (NB w w') zA8 cs (de zA8 s).1/\RG D w' p (de zA8 s).2/\RS w w' p:=by
 rw [xO1]
 have hmf : ∀ (fn:Fn) (first cap:Array Value) (w:World),(Instr.makeFunc fn first cap).run Tryz.prog w = .ok (.func fn first cap) w:=fun _ _ _ _=>rfl
 have hB0 : Below w.heap.size w (w.alloc (.cells #[.int .i64 0,.int .i64 0,.int .i64 0,.int .i64 0,.int .i64 0,.int .i64 0,.int .i64 0,.int .i64 0,.int .i64 0,.slice none 0 0,.int .i64 0,.bool false,.int .i64 0,.int .i64 0,.int .i64 0,.bool false,.bool false,.int .i64 0,.int .i64 0,.int .i64 0,.slice none 0 0,.int .i64 0,.int .i64 0,.int .i64 0,.slice none 0 0,.slice none 0 0,.bool false,.slice none 0 0,.slice none 0 0] 73)):=(Below.refl _ _).alloc (Nat.le_refl _) _
 have h0 : RG D (w.alloc (.cells #[.int .i64 0,.int .i64 0,.int .i64 0,.int .i64 0,.int .i64 0,.int .i64 0,.int .i64 0,.int .i64 0,.int .i64 0,.slice none 0 0,.int .i64 0,.bool false,.int .i64 0,.int .i64 0,.int .i64 0,.bool false,.bool false,.int .i64 0,.int .i64 0,.int .i64 0,.slice none 0 0,.int .i64 0,.int .i64 0,.int .i64 0,.slice none 0 0,.slice none 0 0,.bool false,.slice none 0 0,.slice none 0 0] 73)) p s:=h.ext hB0 h.1 h.2.1
 have s0 : RS w (w.alloc (.cells #[.int .i64 0,.int .i64 0,.int .i64 0,.int .i64 0,.int .i64 0,.int .i64 0,.int .i64 0,.int .i64 0,.int .i64 0,.slice none 0 0,.int .i64 0,.bool false,.int .i64 0,.int .i64 0,.int .i64 0,.bool false,.bool false,.int .i64 0,.int .i64 0,.int .i64 0,.slice none 0 0,.int .i64 0,.int .i64 0,.int .i64 0,.slice none 0 0,.slice none 0 0,.bool false,.slice none 0 0,.slice none 0 0] 73)) p:=(RS.refl _ _).alloc _
 have g0 : Hid ((w.alloc (.cells #[.int .i64 0,.int .i64 0,.int .i64 0,.int .i64 0,.int .i64 0,.int .i64 0,.int .i64 0,.int .i64 0,.int .i64 0,.slice none 0 0,.int .i64 0,.bool false,.int .i64 0,.int .i64 0,.int .i64 0,.bool false,.bool false,.int .i64 0,.int .i64 0,.int .i64 0,.slice none 0 0,.int .i64 0,.int .i64 0,.int .i64 0,.slice none 0 0,.slice none 0 0,.bool false,.slice none 0 0,.slice none 0 0] 73)).heap[w.heap.size]? = some (.cells #[.int .i64 0,.int .i64 0,.int .i64 0,.int .i64 0,.int .i64 0,.int .i64 0,.int .i64 0,.int .i64 0,.int .i64 0,.slice none 0 0,.int .i64 0,.bool false,.int .i64 0,.int .i64 0,.int .i64 0,.bool false,.bool false,.int .i64 0,.int .i64 0,.int .i64 0,.slice none 0 0,.int .i64 0,.int .i64 0,.int .i64 0,.slice none 0 0,.slice none 0 0,.bool false,.slice none 0 0,.slice none 0 0] 73 (0,0))):=heap_alloc_new w _
 have z0 : w.heap.size < (w.alloc (.cells #[.int .i64 0,.int .i64 0,.int .i64 0,.int .i64 0,.int .i64 0,.int .i64 0,.int .i64 0,.int .i64 0,.int .i64 0,.slice none 0 0,.int .i64 0,.bool false,.int .i64 0,.int .i64 0,.int .i64 0,.bool false,.bool false,.int .i64 0,.int .i64 0,.int .i64 0,.slice none 0 0,.int .i64 0,.int .i64 0,.int .i64 0,.slice none 0 0,.slice none 0 0,.bool false,.slice none 0 0,.slice none 0 0] 73)).heap.size:=by rw [World.size_alloc]; omega
 have hpq : Hid (p ≠ w.heap.size):=by have:=h.1; show p ≠ _; omega
 have hDq : Hid (p < w.heap.size/\D<=w.heap.size):=⟨h.1,h.2.1⟩
 clear h hB0
 go_enter Tryz.func118,Tryz.ntmps118
 go_wp2_with fail
 refine (zF2 p s _ h0).mono ?_
 rintro e w1 ⟨rfl,h1,t1⟩
 have s1:=s0.trans t1
 have g1 : Hid (w1.heap[w.heap.size]? = some (.cells #[.int .i64 0,.int .i64 0,.int .i64 0,.int .i64 0,.int .i64 0,.int .i64 0,.int .i64 0,.int .i64 0,.int .i64 0,.slice none 0 0,.int .i64 0,.bool false,.int .i64 0,.int .i64 0,.int .i64 0,.bool false,.bool false,.int .i64 0,.int .i64 0,.int .i64 0,.slice none 0 0,.int .i64 0,.int .i64 0,.int .i64 0,.slice none 0 0,.slice none 0 0,.bool false,.slice none 0 0,.slice none 0 0] 73 (0,0))):=(t1.block _ z0 hpq.out.symm).trans g0.out
 have z1 : w.heap.size < w1.heap.size:=Nat.lt_of_lt_of_le z0 t1.size
 clear h0 t1 s0 g0 z0
 go_wp2_with fail
 refine (zF2 p (numS s) _ h1).mono ?_
 rintro e w2 ⟨rfl,h2,t2⟩
 have s2:=s1.trans t2
 have g2 : Hid (w2.heap[w.heap.size]? = some (.cells #[.int .i64 0,.int .i64 0,.int .i64 0,.int .i64 0,.int .i64 0,.int .i64 0,.int .i64 0,.int .i64 0,.int .i64 0,.slice none 0 0,.int .i64 0,.bool false,.int .i64 0,.int .i64 0,.int .i64 0,.bool false,.bool false,.int .i64 0,.int .i64 0,.int .i64 0,.slice none 0 0,.int .i64 0,.int .i64 0,.int .i64 0,.slice none 0 0,.slice none 0 0,.bool false,.slice none 0 0,.slice none 0 0] 73 (0,0))):=(t2.block _ z1 hpq.out.symm).trans g1.out
 have z2 : w.heap.size < w2.heap.size:=Nat.lt_of_lt_of_le z1 t2.size
 clear h1 t2 s1 g1 z1
 go_wp2_with fail
 refine (kI4 p (numS (numS s)) _ h2).mono ?_
 rintro e w3 ⟨cs2,rfl,q2,h3,t3⟩
 obtain ⟨y2_0,y2_1,y2_2,y2_3,y2_4,y2_5,y2_6,y2_7,y2_8,y2_9,y2_10,y2_11,y2_12,y2_13,y2_14,y2_15,y2_16,y2_17,y2_18,y2_19,y2_20,y2_21,y2_22,y2_23,y2_24,y2_25,y2_26,rfl⟩:=yC2 cs2 q2.len
 have Q2:=zB9 (q2.keptN (lo':=w.heap.size + 1) (Nat.le_refl _) (fun _ _ _=>rfl) z2)
 clear q2
 have s3:=s2.trans t3
 have g3 : Hid (w3.heap[w.heap.size]? = some (.cells #[.int .i64 0,.int .i64 0,.int .i64 0,.int .i64 0,.int .i64 0,.int .i64 0,.int .i64 0,.int .i64 0,.int .i64 0,.slice none 0 0,.int .i64 0,.bool false,.int .i64 0,.int .i64 0,.int .i64 0,.bool false,.bool false,.int .i64 0,.int .i64 0,.int .i64 0,.slice none 0 0,.int .i64 0,.int .i64 0,.int .i64 0,.slice none 0 0,.slice none 0 0,.bool false,.slice none 0 0,.slice none 0 0] 73 (0,0))):=(t3.block _ z2 hpq.out.symm).trans g2.out
 have z3 : w.heap.size < w3.heap.size:=Nat.lt_of_lt_of_le z2 t3.size
 clear h2 t3 s2 g2 z2
 have I0 : Hid ((Tryz.prog.info? 73).map (·.size) = some (#[.int .i64 (numV s),.int .i64 (numV (numS s)),y2_0,y2_1,y2_2,y2_3,y2_4,y2_5,y2_6,y2_7,y2_8,y2_9,y2_10,y2_11,y2_12,y2_13,y2_14,y2_15,y2_16,y2_17,y2_18,y2_19,y2_20,y2_21,y2_22,y2_23,y2_24,y2_25,y2_26] : Array Value).size):=by show _ = _; kernel_rfl
 have REP : Hid (Rep w3 (NBr (w.heap.size + 1) w3) zA8 [.int .i64 (numV s),.int .i64 (numV (numS s)),y2_0,y2_1,y2_2,y2_3,y2_4,y2_5,y2_6,y2_7,y2_8,y2_9,y2_10,y2_11,y2_12,y2_13,y2_14,y2_15,y2_16,y2_17,y2_18,y2_19,y2_20,y2_21,y2_22,y2_23,y2_24,y2_25,y2_26] (numV s,numV (numS s),(de zD4 (numS (numS s))).1)):=by
  exact yT7 (numV s) (numV (numS s)) y2_0 y2_1 y2_2 y2_3 y2_4 y2_5 y2_6 y2_7 y2_8 y2_9 y2_10 y2_11 y2_12 y2_13 y2_14 y2_15 y2_16 y2_17 y2_18 y2_19 y2_20 y2_21 y2_22 y2_23 y2_24 y2_25 y2_26 ((de zD4 (numS (numS s))).1) Q2.out
 have O0 : Hid ((#[.int .i64 (numV s),.int .i64 (numV (numS s)),y2_0,y2_1,y2_2,y2_3,y2_4,y2_5,y2_6,y2_7,y2_8,y2_9,y2_10,y2_11,y2_12,y2_13,y2_14,y2_15,y2_16,y2_17,y2_18,y2_19,y2_20,y2_21,y2_22,y2_23,y2_24,y2_25,y2_26] : Array Value).all (·.oneCell') = true):=REP.out.all
 go_wp2_with (refine wpList_store_row rfl 73 (.tmp 2) (.tmp 9) rfl w.heap.size #[.int .i64 (numV s),.int .i64 (numV (numS s)),y2_0,y2_1,y2_2,y2_3,y2_4,y2_5,y2_6,y2_7,y2_8,y2_9,y2_10,y2_11,y2_12,y2_13,y2_14,y2_15,y2_16,y2_17,y2_18,y2_19,y2_20,y2_21,y2_22,y2_23,y2_24,y2_25,y2_26] rfl rfl 73 #[.int .i64 0,.int .i64 0,.int .i64 0,.int .i64 0,.int .i64 0,.int .i64 0,.int .i64 0,.int .i64 0,.int .i64 0,.slice none 0 0,.int .i64 0,.bool false,.int .i64 0,.int .i64 0,.int .i64 0,.bool false,.bool false,.int .i64 0,.int .i64 0,.int .i64 0,.slice none 0 0,.int .i64 0,.int .i64 0,.int .i64 0,.slice none 0 0,.slice none 0 0,.bool false,.slice none 0 0,.slice none 0 0] g3.out I0.out rfl O0.out ?_)
 refine bodyPost_ret (v:=.agg #[.int .i64 (numV s),.int .i64 (numV (numS s)),y2_0,y2_1,y2_2,y2_3,y2_4,y2_5,y2_6,y2_7,y2_8,y2_9,y2_10,y2_11,y2_12,y2_13,y2_14,y2_15,y2_16,y2_17,y2_18,y2_19,y2_20,y2_21,y2_22,y2_23,y2_24,y2_25,y2_26]) ?_ rfl ⟨[.int .i64 (numV s),.int .i64 (numV (numS s)),y2_0,y2_1,y2_2,y2_3,y2_4,y2_5,y2_6,y2_7,y2_8,y2_9,y2_10,y2_11,y2_12,y2_13,y2_14,y2_15,y2_16,y2_17,y2_18,y2_19,y2_20,y2_21,y2_22,y2_23,y2_24,y2_25,y2_26],rfl,?_,?_,?_⟩
 · refine results_cell_row Tryz.results118 _ _ w.heap.size 73 _ (0,0) _ ?_ (setRow_heap w3 w.heap.size _ _ 73 _ g3.out) Tryz.underlying73 rfl I0.out
   rfl
 · exact REP.out.keptN (by simp [World.setRow]) (fun b h1 h2=>setRow_other _ _ _ _ (by omega)) (Nat.le_succ _)
 · exact h3.ext ⟨rfl,rfl,rfl,by simp [World.setRow],fun k hk=>setRow_other _ _ _ _ (by omega)⟩ hDq.out.1 hDq.out.2
 · exact s3.setRow (Nat.le_refl _) _
end
section
open Go.RowKit
def zB7 : Array Value:=#[.int .i64 0,.int .i64 0,.int .i64 0,.int .i64 0,.int .i64 0,.int .i64 0,.int .i64 0,.int .i64 0,.int .i64 0,.slice none 0 0,.int .i64 0,.bool false,.int .i64 0,.int .i64 0,.int .i64 0,.bool false,.bool false,.int .i64 0,.int .i64 0,.int .i64 0,.slice none 0 0,.int .i64 0,.int .i64 0,.int .i64 0,.slice none 0 0,.slice none 0 0,.bool false,.slice none 0 0,.slice none 0 0]
theorem zG3 : (Tryz.prog.info? 73).map (·.size) = some zB7.size:=by kernel_rfl
theorem yC9 : zB7.all (·.oneCell') = true:=by kernel_rfl
theorem yI4 (w:World) (S:Nat->Prop) : Rep w S zA8 zB7.toList zW2:=xJ6 w S
theorem yH2 {D:Nat} (p:Nat) (s:Option (List UInt8)) (w:World) (h:RG D w p s) :
    Calls Tryz.prog 117 #[.pointer (some ⟨p,0,none⟩),.func (.func 118) #[.pointer (some ⟨p,0,none⟩)] #[]] w fun e w'=>∃ (cs:List Value) (v:Vl zA8),e = .returned (.tuple #[.agg cs.toArray,.bool (decide ((de zA8 s).2 = some []))])/\Rep w' (NB w w') zA8 cs v/\((de zA8 s).2 = some []->v = (de zA8 s).1)/\RS w w' p:=by
 have hB0 : Below w.heap.size w (w.alloc (.cells zB7 73)):=(Below.refl _ _).alloc (Nat.le_refl _) _
 have h0 : RG D (w.alloc (.cells zB7 73)) p s:=h.ext hB0 h.1 h.2.1
 have g0 : Hid ((w.alloc (.cells zB7 73)).heap[w.heap.size]? = some (.cells zB7 73 (0,0))):=heap_alloc_new w _
 have z0 : Hid (w.heap.size < (w.alloc (.cells zB7 73)).heap.size):=by show _ < _; rw [World.size_alloc]; omega
 have s0 : RS w (w.alloc (.cells zB7 73)) p:=(RS.refl _ _).alloc _
 have hpq : Hid (p ≠ w.heap.size):=by have:=h.1; show p ≠ _; omega
 have hp0:=h.1
 have hD0:=h.2.1
 clear h hB0
 go_enter Tryz.func117,Tryz.ntmps117
 go_wp2_with fail
 refine (xX3 p s _ h0).mono ?_
 rintro e w1 ⟨cl,he,hrep,h1,t1⟩
 have hcs : cl.toArray.size = zB7.size:=by rw [List.size_toArray,hrep.len]; kernel_rfl
 have hco : cl.toArray.all (·.oneCell') = true:=hrep.all
 have hrep2 : Rep w1 (NBr (w.heap.size + 1) w1) zA8 cl (de zA8 s).1:=hrep.keptN (Nat.le_refl _) (fun _ _ _=>rfl) z0.out
 have HRE : Hid (Rep w1 (NBr (w.heap.size + 1) w1) zA8 cl (de zA8 s).1):=hrep2
 obtain ⟨cs,hcl⟩ : ∃ cs,Hid (cl.toArray = cs):=⟨_,rfl⟩
 rw [hcl.out] at he hcs hco
 subst he
 have s1:=s0.trans t1
 have g1 : Hid (w1.heap[w.heap.size]? = some (.cells zB7 73 (0,0))):=(t1.block _ z0.out hpq.out.symm).trans g0.out
 have z1 : w.heap.size < w1.heap.size:=Nat.lt_of_lt_of_le z0.out t1.size
 have HCS : Hid (cs.size = zB7.size):=hcs
 have HCO : Hid (cs.all (·.oneCell') = true):=hco
 have HCI : Hid ((Tryz.prog.info? 73).map (·.size) = some cs.size):=by show _ = _; rw [hcs]; exact zG3
 clear g0 z0 s0 t1 h0 hcs hco hrep hrep2
 go_wp2_with (refine zA5 rfl 73 (.tmp 6) (.tmp 9) rfl w1.heap.size cs rfl rfl 73 zB7 (heap_alloc_new w1 (.cells zB7 73)) HCI.out HCS.out.symm HCO.out ?next)
 case next =>
  intro w2 hw2h
  have hw2:=hw2h.out
  have hB2 : Below w1.heap.size w1 w2:=by rw [hw2]; exact ((Below.refl _ _).alloc (Nat.le_refl _) _).trans ⟨rfl,rfl,rfl,by simp [World.setRow],fun k hk=>setRow_other _ _ _ _ (by omega)⟩
  have HRE2 : Hid (Rep w2 (NBr (w.heap.size + 1) w2) zA8 cl (de zA8 s).1):=HRE.out.keptN hB2.size (fun b h1 h2=>hB2.block b h2) (Nat.le_refl _)
  have h2 : RG D w2 p ((de zA8 s).2):=h1.ext hB2 h1.1 h1.2.1
  have s2 : RS w w2 p:=s1.ext (hB2.mono s1.size)
  have g2 : Hid (w2.heap[w.heap.size]? = some (.cells zB7 73 (0,0))):=(hB2.block _ z1).trans g1.out
  have k2 : Hid (w2.heap[w1.heap.size]? = some (.cells cs 73 (0,0))):=by
   show _ = _
   rw [hw2]; exact setRow_heap _ _ _ _ 73 _ (heap_alloc_new w1 _)
  have z2 : w.heap.size < w2.heap.size:=Nat.lt_of_lt_of_le z1 hB2.size
  clear hw2 hw2h g1 h1 s1 hB2 HRE
  by_cases hfin : (de zA8 s).2 = some []
  · have h3:=h2
    rw [hfin] at h3
    obtain ⟨_,_,_,_,a,cap,c0,c1,_,_,_⟩:=h3
    have HF : Hid (decide ((de zA8 s).2 = some []) = true):=by show _ = _; simp [hfin]
    rw [List.length_nil] at c0
    clear hfin h2
    go_wp2_with (first
     | (refine wpList_load_row rfl 73 (.tmp 6) rfl w1.heap.size rfl 73 cs (0,0) _ k2.out Tryz.underlying73 rfl HCI.out ?_)
     | (refine zA5 rfl 73 (.tmp 4) (.tmp 23) rfl w.heap.size cs rfl rfl 73 zB7 g2.out HCI.out HCS.out.symm HCO.out ?next2))
    case next2 =>
     intro w3 hw3h
     have hw3:=hw3h.out
     have s3 : RS w w3 p:=by rw [hw3]; exact s2.setRow (Nat.le_refl _) _
     have HRE3 : Hid (Rep w3 (NB w w3) zA8 cl (de zA8 s).1):=by
      rw [hw3]
      exact HRE2.out.keptN (by simp [World.setRow]) (fun b h1 h2=>setRow_other _ _ _ _ (by omega)) (Nat.le_succ _)
     have g3 : Hid (w3.heap[w.heap.size]? = some (.cells cs 73 (0,0))):=by
      show _ = _
      rw [hw3]; exact setRow_heap _ _ _ _ 73 _ g2.out
     clear hw3 hw3h
     go_wp2
     refine bodyPost_ret (v:=.tuple #[.agg cs,.bool true]) ?_ rfl ⟨cl,_,by rw [HF.out,hcl.out],HRE3.out,fun _=>rfl,s3⟩
     simp [results,Tryz.results117,asAddr,run_loadVar_row w3 w.heap.size 73 73 cs (0,0) _ g3.out Tryz.underlying73 rfl HCI.out]
  · have HF : Hid (decide ((de zA8 s).2 = some []) = false):=by show _ = _; simp [hfin]
    obtain ⟨va,vn,vc,vb,c0,c1,hcase⟩ : ∃ va vn vc vb,w2.cell? ⟨p,0,none⟩ = some (.slice va vn vc)/\w2.cell? ⟨p,1,none⟩ = some (.bool vb)/\(vb = true\/(vb = false/\0 < vn/\vn<=211106232532992)):=by
     cases hst : (de zA8 s).2 with
     | none=>rw [hst] at h2; exact ⟨none,0,0,true,h2.2.2.2.2.1,h2.2.2.2.2.2,.inl rfl⟩
     | some l =>
      rw [hst] at h2
      obtain ⟨_,_,_,_,a,cap,c0,c1,_,hbs,_⟩:=h2
      refine ⟨a,l.length,cap,false,c0,c1,.inr ⟨rfl,?_,hbs.1⟩⟩
      rcases l with _ | ⟨y,r⟩
      · exact absurd hst hfin
      · simp
    clear hfin h2
    rcases hcase with rfl | ⟨rfl,hvn,hvm⟩
    · go_wp2_with (first
        | (refine wpList_load_row rfl 73 (.tmp 7) rfl w2.heap.size rfl 73 zB7 (0,0) _ (heap_alloc_new w2 (.cells zB7 73)) Tryz.underlying73 rfl zG3 ?_)
        | (refine zA5 rfl 73 (.tmp 4) (.tmp 22) rfl w.heap.size zB7 rfl rfl 73 zB7 ((Below.heap_alloc w2 (.cells zB7 73) _ z2).trans g2.out) zG3 rfl yC9 ?next2))
      case next2 =>
       intro w3 hw3h
       have hw3:=hw3h.out
       have s3 : RS w w3 p:=by rw [hw3]; exact (s2.alloc _).setRow (Nat.le_refl _) _
       have g3 : Hid (w3.heap[w.heap.size]? = some (.cells zB7 73 (0,0))):=by
        show _ = _
        rw [hw3]; exact setRow_heap _ _ _ _ 73 _ ((Below.heap_alloc w2 _ _ z2).trans g2.out)
       clear hw3 hw3h
       go_wp2
       refine bodyPost_ret (v:=.tuple #[.agg zB7,.bool false]) ?_ rfl ⟨zB7.toList,zW2,by rw [HF.out],yI4 _ _,fun h=>absurd h (of_decide_eq_false HF.out),s3⟩
       simp [results,Tryz.results117,asAddr,run_loadVar_row w3 w.heap.size 73 73 zB7 (0,0) _ g3.out Tryz.underlying73 rfl zG3]
    · go_wp2_with (first
        | (refine wpList_load_row rfl 73 (.tmp 7) rfl w2.heap.size rfl 73 zB7 (0,0) _ (heap_alloc_new w2 (.cells zB7 73)) Tryz.underlying73 rfl zG3 ?_)
        | (refine zA5 rfl 73 (.tmp 4) (.tmp 22) rfl w.heap.size zB7 rfl rfl 73 zB7 ((Below.heap_alloc w2 (.cells zB7 73) _ z2).trans g2.out) zG3 rfl yC9 ?next2))
      case next2 =>
       intro w3 hw3h
       have hw3:=hw3h.out
       have s3 : RS w w3 p:=by rw [hw3]; exact (s2.alloc _).setRow (Nat.le_refl _) _
       have g3 : Hid (w3.heap[w.heap.size]? = some (.cells zB7 73 (0,0))):=by
        show _ = _
        rw [hw3]; exact setRow_heap _ _ _ _ 73 _ ((Below.heap_alloc w2 _ _ z2).trans g2.out)
       clear hw3 hw3h
       go_wp2
       refine bodyPost_ret (v:=.tuple #[.agg zB7,.bool false]) ?_ rfl ⟨zB7.toList,zW2,by rw [HF.out],yI4 _ _,fun h=>absurd h (of_decide_eq_false HF.out),s3⟩
       simp [results,Tryz.results117,asAddr,run_loadVar_row w3 w.heap.size 73 73 zB7 (0,0) _ g3.out Tryz.underlying73 rfl zG3]
theorem zT6 (a:Option Addr) (n cap:Nat) (l:List UInt8) (w:World) (hn:n = l.length) (hcap:n<=cap) (hbs:Bs w a l) (hbl:∀ y,a = some y->y.block < w.heap.size) :
    Calls Tryz.prog 83 #[.slice a n cap] w fun e w'=>∃ (cs:List Value) (v:Vl zA8),e = .returned (.tuple #[.agg cs.toArray,.bool (decide ((de zA8 (some l)).2 = some []))])/\Rep w' (NB w w') zA8 cs v/\((de zA8 (some l)).2 = some []->v = (de zA8 (some l)).1)/\Below w.heap.size w w':=by
 have hmf : ∀ (fn:Fn) (first cap:Array Value) (w:World),(Instr.makeFunc fn first cap).run Tryz.prog w = .ok (.func fn first cap) w:=fun _ _ _ _=>rfl
 subst hn
 have g0 : Hid ((w.alloc (.cells zB7 73)).heap[w.heap.size]? = some (.cells zB7 73 (0,0))):=heap_alloc_new w _
 have h0 : RG w.heap.size ((w.alloc (.cells zB7 73)).alloc (.cells #[.slice a l.length cap,.bool false] 171)) (w.heap.size + 1) (some l):=xP5 _ a cap l _ _ (by rw [World.size_alloc]) (by rw [World.size_alloc]; omega) hcap (hbs.alloc _) hbl
 clear hbs hbl
 go_enter Tryz.func83,Tryz.ntmps83
 go_wp2_with fail
 refine (yH2 (w.heap.size + 1) (some l) _ h0).mono ?_
 rintro e w1 ⟨cl,vv,he,hrep,hval,s1⟩
 have hcs : cl.toArray.size = zB7.size:=by rw [List.size_toArray,hrep.len]; kernel_rfl
 have hco : cl.toArray.all (·.oneCell') = true:=hrep.all
 have HRE : Hid (Rep w1 (NBr (w.heap.size + 1) w1) zA8 cl vv):=hrep.keptN (Nat.le_refl _) (fun _ _ _=>rfl) (by rw [World.size_alloc,World.size_alloc]; omega)
 have HVAL : Hid _:=hval
 obtain ⟨cs,hcl⟩ : ∃ cs,Hid (cl.toArray = cs):=⟨_,rfl⟩
 rw [hcl.out] at he hcs hco
 subst he
 have hB : Below w.heap.size w w1 :=
  Below.trans (((Below.refl _ _).alloc (Nat.le_refl _) (.cells zB7 73)).alloc (by rw [World.size_alloc]; omega) _) ⟨s1.os,s1.tape,s1.output,s1.size,fun k hk=>s1.block k (by simp; omega) (by omega)⟩
 have g1 : Hid (w1.heap[w.heap.size]? = some (.cells zB7 73 (0,0))):=by
  show _ = _
  rw [s1.block _ (by simp; omega) (by omega),Below.heap_alloc _ _ _ (by rw [World.size_alloc]; omega)]; exact g0.out
 have HCS : Hid (cs.size = zB7.size):=hcs
 have HCO : Hid (cs.all (·.oneCell') = true):=hco
 have HCI : Hid ((Tryz.prog.info? 73).map (·.size) = some cs.size):=by show _ = _; rw [hcs]; exact zG3
 clear s1 g0 h0 hcs hco hrep hval
 obtain ⟨okb,hokb⟩ : ∃ okb,Hid (decide ((de zA8 (some l)).2 = some []) = okb):=⟨_,rfl⟩
 rw [hokb.out]
 go_wp2_with (refine zA5 rfl 73 (.tmp 2) (.tmp 12) rfl w.heap.size cs rfl rfl 73 _ g1.out HCI.out HCS.out.symm HCO.out ?next)
 case next =>
  intro w2 hw2h
  have hw2:=hw2h.out
  have g2 : Hid (w2.heap[w.heap.size]? = some (.cells cs 73 (0,0))):=by
   show _ = _
   rw [hw2]; exact setRow_heap _ _ _ _ 73 _ g1.out
  have hB2 : Below w.heap.size w w2:=by
   rw [hw2]; exact hB.trans ⟨rfl,rfl,rfl,by simp [World.setRow],fun k hk=>setRow_other _ _ _ _ (by omega)⟩
  have HRE3 : Hid (Rep w2 (NB w w2) zA8 cl vv):=by
   rw [hw2]
   exact HRE.out.keptN (by simp [World.setRow]) (fun b h1 h2=>setRow_other _ _ _ _ (by omega)) (Nat.le_succ _)
  clear hw2 hw2h
  go_wp2
  refine bodyPost_ret (v:=.tuple #[.agg cs,.bool okb]) ?_ rfl ⟨cl,vv,by rw [hokb.out,hcl.out],HRE3.out,HVAL.out,hB2⟩
  simp [results,Tryz.results83,asAddr,run_loadVar_row w2 w.heap.size 73 73 cs (0,0) _ g2.out Tryz.underlying73 rfl HCI.out]
end
end Go.Proofs.YtocoimjhglackaaGreat
