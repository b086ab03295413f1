/- Vwa -/
import Derived.Test.YtocoimjhglackaaGreatK04
set_option maxHeartbeats 8000000
set_option maxRecDepth 100000
namespace Go.Proofs.YtocoimjhglackaaGreat
section
open Go.RowKit
theorem xU4 (p:Nat) (l:List UInt8) (bad:Bool) (prot S:Nat->Prop) (cs:List Value) (v:Vl zA9) (w:World) (hl:l.length + 12<=137438953472) (hS:∀ b,S b->prot b) (hr:Rep w S zA9 cs v) (h:WR w p l bad prot) :
    Calls Tryz.prog 204 #[.pointer (some ⟨p,0,none⟩),.agg cs.toArray] w fun e w'=>e = .returned (.tuple #[])/\WR w' p (l ++ (en zA9 v).1) (bad || (en zA9 v).2) prot/\Kp w w' prot:=by
 have hmf : ∀ (fn:Fn) (first cap:Array Value) (w:World),(Instr.makeFunc fn first cap).run Tryz.prog w = .ok (.func fn first cap) w:=fun _ _ _ _=>rfl
 obtain ⟨x0,x1,rfl,rfl⟩:=yT0 hr
 have hl2 : Hid (l.length + 12<=137438953472):=hl
 have hW0 : WR (w.alloc (.cells [.int .i64 x0,.int .i64 x1].toArray 63)) p l bad (fun b=>prot b\/b = w.heap.size):=h.box _
 have hA0:=Kp.alloc w (.cells [.int .i64 x0,.int .i64 x1].toArray 63) prot h.2.1
 have HP : Hid (∀ b,S b->prot b):=hS
 have HS : Hid (∀ b,S b->(fun b=>prot b\/b = w.heap.size) b):=fun b hb=>.inl (hS b hb)
 clear h hr hS hl
 go_enter Tryz.func204,Tryz.ntmps204
 go_wp2_with fail
 refine (zC6 p l bad (fun b=>prot b\/b = w.heap.size) x0 _ (by have:=hl2.out; omega) hW0).mono ?_
 rintro e w1 ⟨rfl,hW1,hK1⟩
 have hA1:=hA0.trans (hK1.mono (fun _ x=>.inl x))
 have hq1 : ∀ o,w1.cell? ⟨w.heap.size,o,none⟩ = (w.alloc (.cells [.int .i64 x0,.int .i64 x1].toArray 63)).cell? ⟨w.heap.size,o,none⟩:=fun o=>hK1.cell (a:=⟨w.heap.size,o,none⟩) (.inr rfl)
 clear hW0 hK1 hA0
 go_wp2_with fail
 refine (zC6 p (l ++ (enN x0).1) (bad || (enN x0).2) (fun b=>prot b\/b = w.heap.size) x1 _ (by have:=hl2.out; have:=zA3 x0; simp only [List.length_append]; omega) hW1).mono ?_
 rintro e w2 ⟨rfl,hW2,hK2⟩
 have hA2:=hA1.trans (hK2.mono (fun _ x=>.inl x))
 have hq2 : ∀ o,w2.cell? ⟨w.heap.size,o,none⟩ = (w.alloc (.cells [.int .i64 x0,.int .i64 x1].toArray 63)).cell? ⟨w.heap.size,o,none⟩:=fun o=>(hK2.cell (a:=⟨w.heap.size,o,none⟩) (.inr rfl)).trans (hq1 o)
 clear hW1 hK2 hA1 hq1
 go_wp2
 go_end0
 have e1 : l ++ (enN x0).1 ++ (enN x1).1 = l ++ (en zA9 (x0,x1)).1:=by rw [xQ7]; simp only [List.append_assoc]
 have e2 : (bad || (enN x0).2 || (enN x1).2) = (bad || (en zA9 (x0,x1)).2):=by rw [xQ7]; simp only [Bool.or_assoc]
 rw [e1,e2] at hW2
 exact ⟨rfl,hW2.mono (fun _ x=>.inl x),hA2⟩
theorem zY7 (p:Nat) (l:List UInt8) (bad:Bool) (prot S:Nat->Prop) (a:Option Addr) (c:Nat) (vs:List (Vl .num)) (w:World) (hl:l.length + 390<=137438953472) (hS:∀ b,S b->prot b) (hr:RepL w S .num a vs) (h:WR w p l bad prot) :
    Calls Tryz.prog 167 #[.pointer (some ⟨p,0,none⟩),.slice a vs.length c,.func (.func 138) #[.pointer (some ⟨p,0,none⟩)] #[]] w fun e w'=>e = .returned (.tuple #[])/\WR w' p (l ++ (en (.lst .num) vs).1) (bad || (en (.lst .num) vs).2) prot/\Kp w w' prot:=by
 have hl2 : Hid (l.length + 390<=137438953472):=hl
 by_cases hbig : vs.length<=64
 · have e0 : en (.lst .num) vs = (enc (vs.length:Int) ++ vs.flatMap fun v=>(en .num v).1,vs.any fun v=>(en .num v).2):=by show (if _ then _ else _) = _; rw [if_pos hbig]
   rw [e0]
   have e1 : Hid (enN (vs.length:Int) = (enc (vs.length:Int),false)):=by show _ = _; unfold enN; rw [if_pos (by omega)]
   have hl0:=hl2.out
   have HF : Hid (∀ k,((vs.take k).flatMap fun v=>(en .num v).1).length<=384):=by
    intro k
    have h1:=zH9 (fun v=>(en .num v).1) 6 (fun v=>xE3 v) (vs.take k)
    have h2 : (vs.take k).length<=64:=by rw [List.length_take]; omega
    omega
   have HEL : Hid ((enc (vs.length:Int)).length<=6):=zD5 _ (by omega) (by omega)
   have HSP : Hid (∀ b,S b->prot b):=hS
   clear hl e0 hS
   go_enter Tryz.func167,Tryz.ntmps167
   go_wp2_with fail
   refine (zC6 p l bad prot (vs.length:Int) w (by omega) h).mono ?_
   rintro e w1 ⟨rfl,hW1,hK1⟩
   rw [e1.out] at hW1
   simp only [Bool.or_false] at hW1
   go_wp2
   go_loopw [20] (fun i wr=>∃ k : Nat,k<=vs.length/\i = .int .i64 k/\WR wr p (l ++ enc (vs.length:Int) ++ (vs.take k).flatMap fun v=>(en .num v).1) (bad || (vs.take k).any fun v=>(en .num v).2) prot/\Kp w wr prot) (fun i _=>vs.length - (intOf i).toNat)
   case atStart=>exact ⟨0,Nat.zero_le _,rfl,by simpa using hW1,hK1⟩
   case round =>
    obtain ⟨k,hk,rfl,hWk,hKk⟩:=hrel
    by_cases hlt : k < vs.length
    · obtain ⟨b,off,rfl,hSb,hes⟩:=hr.2 (by intro e; rw [e] at hlt; simp at hlt)
      obtain ⟨es,hrep0,hrg0⟩:=hes k hlt
      have hrep:=hrep0.kept (S':=S) hKk.size (fun b hb=>hKk.block b (HSP.out b hb)) (fun _ x=>x)
      have hrg : wr.rangeAt b (off + k * wd .num) es:=zB1 hrg0 (hKk.block b (HSP.out b hSb))
      clear hrep0 hrg0
      have HLK : Hid ((l ++ enc (vs.length:Int) ++ (vs.take k).flatMap fun v=>(en .num v).1).length + 6<=137438953472):=by
       have h1:=HF.out k; have h2:=HEL.out; have h3:=hl2.out
       show _<=_
       have h4:=zH9 (fun v=>(en .num v).1) 6 (fun v=>xE3 v) (vs.take k)
       have h5 : (vs.take k).length + 1<=64:=by rw [List.length_take]; omega
       simp only [List.length_append]
       omega
      obtain rfl : es = [.int .i64 (vs[k] : Int)]:=hrep
      have hcell : wr.cell? ⟨b,off + k,none⟩ = some (.int .i64 (vs[k] : Int)):=by have:=hrg 0 _ rfl; simpa [wd] using this
      clear hrg hes hr
      have hKm:=hKk
      have hcell2:=hcell
      generalize HVK : (vs[k] : Int) = vk at hcell2
      clear hcell
      go_wp2_with fail
      have hHVK : Hid (vs[k] = vk):=HVK
      clear HVK
      refine (zC6 p _ _ prot vk wr HLK.out hWk).mono ?_
      rw [<- hHVK.out]
      rintro e w3 ⟨rfl,hW3,hK3⟩
      have E1 : Hid ((vs.take (k + 1)).flatMap (fun v=>(en .num v).1) = (vs.take k).flatMap (fun v=>(en .num v).1) ++ (en .num vs[k]).1):=by
       show _ = _
       rw [<- List.take_append_getElem hlt,List.flatMap_append]; simp
      have E2 : Hid ((vs.take (k + 1)).any (fun v=>(en .num v).2) = ((vs.take k).any (fun v=>(en .num v).2) || (en .num vs[k]).2)):=by
       show _ = _
       rw [<- List.take_append_getElem hlt,List.any_append]; simp
      go_wp2
      refine ⟨⟨k + 1,by omega,by go_num,?_,hKm.trans hK3⟩,by simp [intOf]; omega⟩
      rw [E1.out,E2.out,<- List.append_assoc,<- Bool.or_assoc]
      exact hW3
    · have hkN : k = vs.length:=by omega
      subst hkN
      go_wp2
      go_end0
      rw [List.take_of_length_le (Nat.le_refl _),List.append_assoc] at hWk
      exact ⟨rfl,hWk,hKk⟩
 · have e0 : en (.lst .num) vs = ([],true):=by show (if _ then _ else _) = _; rw [if_neg hbig]
   rw [e0]
   simp only [Bool.or_true,List.append_nil]
   have HB : Hid _:=h.bad
   obtain ⟨h1,h2,h3,v,h4,h5,h6,h7,h8,h9⟩:=h
   clear h1 h2 h9 h8 hr hl hl2 e0
   go_enter Tryz.func167,Tryz.ntmps167
   go_wp2
   (try simp only [Exit.inBlock,Exit.then]); refine bodyPost_ret (results_none rfl _ _ _) rfl ?_
   exact ⟨rfl,HB.out⟩
theorem xR5 (p:Nat) (l:List UInt8) (bad:Bool) (prot S:Nat->Prop) (cs:List Value) (v:Vl zB4) (w:World) (hl:l.length + 780<=137438953472) (hS:∀ b,S b->prot b) (hr:Rep w S zB4 cs v) (h:WR w p l bad prot) :
    Calls Tryz.prog 139 #[.pointer (some ⟨p,0,none⟩),.agg cs.toArray] w fun e w'=>e = .returned (.tuple #[])/\WR w' p (l ++ (en zB4 v).1) (bad || (en zB4 v).2) prot/\Kp w w' prot:=by
 have hmf : ∀ (fn:Fn) (first cap:Array Value) (w:World),(Instr.makeFunc fn first cap).run Tryz.prog w = .ok (.func fn first cap) w:=fun _ _ _ _=>rfl
 obtain ⟨a0,c0,v0,a1,c1,v1,rfl,rfl,h0,h1⟩:=yJ1 hr
 have hl2 : Hid (l.length + 780<=137438953472):=hl
 have hW0 : WR (w.alloc (.cells [.slice a0 v0.length c0,.slice a1 v1.length c1].toArray 34)) p l bad (fun b=>prot b\/b = w.heap.size):=h.box _
 have hA0:=Kp.alloc w (.cells [.slice a0 v0.length c0,.slice a1 v1.length c1].toArray 34) prot h.2.1
 have HP : Hid (∀ b,S b->prot b):=hS
 have HS : Hid (∀ b,S b->(fun b=>prot b\/b = w.heap.size) b):=fun b hb=>.inl (hS b hb)
 clear h hr hS hl
 go_enter Tryz.func139,Tryz.ntmps139
 go_wp2_with fail
 refine (zY7 p l bad (fun b=>prot b\/b = w.heap.size) S a0 c0 v0 _ (by have:=hl2.out; omega) HS.out (h0.kept hA0.size (fun b hb=>hA0.block b (HP.out b hb)) (fun _ x=>x)) hW0).mono ?_
 rintro e w1 ⟨rfl,hW1,hK1⟩
 have hA1:=hA0.trans (hK1.mono (fun _ x=>.inl x))
 have hq1 : ∀ o,w1.cell? ⟨w.heap.size,o,none⟩ = (w.alloc (.cells [.slice a0 v0.length c0,.slice a1 v1.length c1].toArray 34)).cell? ⟨w.heap.size,o,none⟩:=fun o=>hK1.cell (a:=⟨w.heap.size,o,none⟩) (.inr rfl)
 clear hW0 hK1 hA0
 go_wp2_with fail
 refine (zY7 p (l ++ (en (.lst .num) v0).1) (bad || (en (.lst .num) v0).2) (fun b=>prot b\/b = w.heap.size) S a1 c1 v1 _ (by have:=hl2.out; have:=zY9 v0; simp only [List.length_append]; omega) HS.out (h1.kept hA1.size (fun b hb=>hA1.block b (HP.out b hb)) (fun _ x=>x)) hW1).mono ?_
 rintro e w2 ⟨rfl,hW2,hK2⟩
 have hA2:=hA1.trans (hK2.mono (fun _ x=>.inl x))
 have hq2 : ∀ o,w2.cell? ⟨w.heap.size,o,none⟩ = (w.alloc (.cells [.slice a0 v0.length c0,.slice a1 v1.length c1].toArray 34)).cell? ⟨w.heap.size,o,none⟩:=fun o=>(hK2.cell (a:=⟨w.heap.size,o,none⟩) (.inr rfl)).trans (hq1 o)
 clear hW1 hK2 hA1 hq1
 go_wp2
 go_end0
 have e1 : l ++ (en (.lst .num) v0).1 ++ (en (.lst .num) v1).1 = l ++ (en zB4 (v0,v1)).1:=by rw [xF4]; simp only [List.append_assoc]
 have e2 : (bad || (en (.lst .num) v0).2 || (en (.lst .num) v1).2) = (bad || (en zB4 (v0,v1)).2):=by rw [xF4]; simp only [Bool.or_assoc]
 rw [e1,e2] at hW2
 exact ⟨rfl,hW2.mono (fun _ x=>.inl x),hA2⟩
theorem xZ4 (p:Nat) (l:List UInt8) (bad:Bool) (prot S:Nat->Prop) (cs:List Value) (v:Vl zA7) (w:World) (hl:l.length + 66<=137438953472) (hS:∀ b,S b->prot b) (hr:Rep w S zA7 cs v) (h:WR w p l bad prot) :
    Calls Tryz.prog 206 #[.pointer (some ⟨p,0,none⟩),.agg cs.toArray] w fun e w'=>e = .returned (.tuple #[])/\WR w' p (l ++ (en zA7 v).1) (bad || (en zA7 v).2) prot/\Kp w w' prot:=by
 have hmf : ∀ (fn:Fn) (first cap:Array Value) (w:World),(Instr.makeFunc fn first cap).run Tryz.prog w = .ok (.func fn first cap) w:=fun _ _ _ _=>rfl
 obtain ⟨x0,x1,x2,x3,x4,x5,x6,y7_0,y7_1,v7,x8,x9,rfl,rfl,h7⟩:=yC0 hr
 have hl2 : Hid (l.length + 66<=137438953472):=hl
 have hW0 : WR (w.alloc (.cells [.int .i64 x0,.int .i64 x1,.int .i64 x2,.int .i64 x3,.int .i64 x4,.int .i64 x5,.int .i64 x6,y7_0,y7_1,.bool x8,.int .i64 x9].toArray 227)) p l bad (fun b=>prot b\/b = w.heap.size):=h.box _
 have hA0:=Kp.alloc w (.cells [.int .i64 x0,.int .i64 x1,.int .i64 x2,.int .i64 x3,.int .i64 x4,.int .i64 x5,.int .i64 x6,y7_0,y7_1,.bool x8,.int .i64 x9].toArray 227) prot h.2.1
 have HP : Hid (∀ b,S b->prot b):=hS
 have HS : Hid (∀ b,S b->(fun b=>prot b\/b = w.heap.size) b):=fun b hb=>.inl (hS b hb)
 clear h hr hS hl
 go_enter Tryz.func206,Tryz.ntmps206
 go_wp2_with fail
 refine (zC6 p l bad (fun b=>prot b\/b = w.heap.size) x0 _ (by have:=hl2.out; omega) hW0).mono ?_
 rintro e w1 ⟨rfl,hW1,hK1⟩
 have hA1:=hA0.trans (hK1.mono (fun _ x=>.inl x))
 have hq1 : ∀ o,w1.cell? ⟨w.heap.size,o,none⟩ = (w.alloc (.cells [.int .i64 x0,.int .i64 x1,.int .i64 x2,.int .i64 x3,.int .i64 x4,.int .i64 x5,.int .i64 x6,y7_0,y7_1,.bool x8,.int .i64 x9].toArray 227)).cell? ⟨w.heap.size,o,none⟩:=fun o=>hK1.cell (a:=⟨w.heap.size,o,none⟩) (.inr rfl)
 clear hW0 hK1 hA0
 go_wp2_with fail
 refine (zC6 p (l ++ (enN x0).1) (bad || (enN x0).2) (fun b=>prot b\/b = w.heap.size) x1 _ (by have:=hl2.out; have:=zA3 x0; simp only [List.length_append]; omega) hW1).mono ?_
 rintro e w2 ⟨rfl,hW2,hK2⟩
 have hA2:=hA1.trans (hK2.mono (fun _ x=>.inl x))
 have hq2 : ∀ o,w2.cell? ⟨w.heap.size,o,none⟩ = (w.alloc (.cells [.int .i64 x0,.int .i64 x1,.int .i64 x2,.int .i64 x3,.int .i64 x4,.int .i64 x5,.int .i64 x6,y7_0,y7_1,.bool x8,.int .i64 x9].toArray 227)).cell? ⟨w.heap.size,o,none⟩:=fun o=>(hK2.cell (a:=⟨w.heap.size,o,none⟩) (.inr rfl)).trans (hq1 o)
 clear hW1 hK2 hA1 hq1
 go_wp2_with fail
 refine (zC6 p (l ++ (enN x0).1 ++ (enN x1).1) (bad || (enN x0).2 || (enN x1).2) (fun b=>prot b\/b = w.heap.size) x2 _ (by have:=hl2.out; have:=zA3 x0; have:=zA3 x1; simp only [List.length_append]; omega) hW2).mono ?_
 rintro e w3 ⟨rfl,hW3,hK3⟩
 have hA3:=hA2.trans (hK3.mono (fun _ x=>.inl x))
 have hq3 : ∀ o,w3.cell? ⟨w.heap.size,o,none⟩ = (w.alloc (.cells [.int .i64 x0,.int .i64 x1,.int .i64 x2,.int .i64 x3,.int .i64 x4,.int .i64 x5,.int .i64 x6,y7_0,y7_1,.bool x8,.int .i64 x9].toArray 227)).cell? ⟨w.heap.size,o,none⟩:=fun o=>(hK3.cell (a:=⟨w.heap.size,o,none⟩) (.inr rfl)).trans (hq2 o)
 clear hW2 hK3 hA2 hq2
 go_wp2_with fail
 refine (zC6 p (l ++ (enN x0).1 ++ (enN x1).1 ++ (enN x2).1) (bad || (enN x0).2 || (enN x1).2 || (enN x2).2) (fun b=>prot b\/b = w.heap.size) x3 _ (by have:=hl2.out; have:=zA3 x0; have:=zA3 x1; have:=zA3 x2; simp only [List.length_append]; omega) hW3).mono ?_
 rintro e w4 ⟨rfl,hW4,hK4⟩
 have hA4:=hA3.trans (hK4.mono (fun _ x=>.inl x))
 have hq4 : ∀ o,w4.cell? ⟨w.heap.size,o,none⟩ = (w.alloc (.cells [.int .i64 x0,.int .i64 x1,.int .i64 x2,.int .i64 x3,.int .i64 x4,.int .i64 x5,.int .i64 x6,y7_0,y7_1,.bool x8,.int .i64 x9].toArray 227)).cell? ⟨w.heap.size,o,none⟩:=fun o=>(hK4.cell (a:=⟨w.heap.size,o,none⟩) (.inr rfl)).trans (hq3 o)
 clear hW3 hK4 hA3 hq3
 go_wp2_with fail
 refine (zC6 p (l ++ (enN x0).1 ++ (enN x1).1 ++ (enN x2).1 ++ (enN x3).1) (bad || (enN x0).2 || (enN x1).2 || (enN x2).2 || (enN x3).2) (fun b=>prot b\/b = w.heap.size) x4 _ (by have:=hl2.out; have:=zA3 x0; have:=zA3 x1; have:=zA3 x2; have:=zA3 x3; simp only [List.length_append]; omega) hW4).mono ?_
 rintro e w5 ⟨rfl,hW5,hK5⟩
 have hA5:=hA4.trans (hK5.mono (fun _ x=>.inl x))
 have hq5 : ∀ o,w5.cell? ⟨w.heap.size,o,none⟩ = (w.alloc (.cells [.int .i64 x0,.int .i64 x1,.int .i64 x2,.int .i64 x3,.int .i64 x4,.int .i64 x5,.int .i64 x6,y7_0,y7_1,.bool x8,.int .i64 x9].toArray 227)).cell? ⟨w.heap.size,o,none⟩:=fun o=>(hK5.cell (a:=⟨w.heap.size,o,none⟩) (.inr rfl)).trans (hq4 o)
 clear hW4 hK5 hA4 hq4
 go_wp2_with fail
 refine (zC6 p (l ++ (enN x0).1 ++ (enN x1).1 ++ (enN x2).1 ++ (enN x3).1 ++ (enN x4).1) (bad || (enN x0).2 || (enN x1).2 || (enN x2).2 || (enN x3).2 || (enN x4).2) (fun b=>prot b\/b = w.heap.size) x5 _ (by have:=hl2.out; have:=zA3 x0; have:=zA3 x1; have:=zA3 x2; have:=zA3 x3; have:=zA3 x4; simp only [List.length_append]; omega) hW5).mono ?_
 rintro e w6 ⟨rfl,hW6,hK6⟩
 have hA6:=hA5.trans (hK6.mono (fun _ x=>.inl x))
 have hq6 : ∀ o,w6.cell? ⟨w.heap.size,o,none⟩ = (w.alloc (.cells [.int .i64 x0,.int .i64 x1,.int .i64 x2,.int .i64 x3,.int .i64 x4,.int .i64 x5,.int .i64 x6,y7_0,y7_1,.bool x8,.int .i64 x9].toArray 227)).cell? ⟨w.heap.size,o,none⟩:=fun o=>(hK6.cell (a:=⟨w.heap.size,o,none⟩) (.inr rfl)).trans (hq5 o)
 clear hW5 hK6 hA5 hq5
 go_wp2_with fail
 refine (zC6 p (l ++ (enN x0).1 ++ (enN x1).1 ++ (enN x2).1 ++ (enN x3).1 ++ (enN x4).1 ++ (enN x5).1) (bad || (enN x0).2 || (enN x1).2 || (enN x2).2 || (enN x3).2 || (enN x4).2 || (enN x5).2) (fun b=>prot b\/b = w.heap.size) x6 _ (by have:=hl2.out; have:=zA3 x0; have:=zA3 x1; have:=zA3 x2; have:=zA3 x3; have:=zA3 x4; have:=zA3 x5; simp only [List.length_append]; omega) hW6).mono ?_
 rintro e w7 ⟨rfl,hW7,hK7⟩
 have hA7:=hA6.trans (hK7.mono (fun _ x=>.inl x))
 have hq7 : ∀ o,w7.cell? ⟨w.heap.size,o,none⟩ = (w.alloc (.cells [.int .i64 x0,.int .i64 x1,.int .i64 x2,.int .i64 x3,.int .i64 x4,.int .i64 x5,.int .i64 x6,y7_0,y7_1,.bool x8,.int .i64 x9].toArray 227)).cell? ⟨w.heap.size,o,none⟩:=fun o=>(hK7.cell (a:=⟨w.heap.size,o,none⟩) (.inr rfl)).trans (hq6 o)
 clear hW6 hK7 hA6 hq6
 go_wp2_with fail
 refine (xU4 p (l ++ (enN x0).1 ++ (enN x1).1 ++ (enN x2).1 ++ (enN x3).1 ++ (enN x4).1 ++ (enN x5).1 ++ (enN x6).1) (bad || (enN x0).2 || (enN x1).2 || (enN x2).2 || (enN x3).2 || (enN x4).2 || (enN x5).2 || (enN x6).2) (fun b=>prot b\/b = w.heap.size) S [y7_0,y7_1] v7 _ (by have:=hl2.out; have:=zA3 x0; have:=zA3 x1; have:=zA3 x2; have:=zA3 x3; have:=zA3 x4; have:=zA3 x5; have:=zA3 x6; simp only [List.length_append]; omega) HS.out (h7.kept hA7.size (fun b hb=>hA7.block b (HP.out b hb)) (fun _ x=>x)) hW7).mono ?_
 rintro e w8 ⟨rfl,hW8,hK8⟩
 have hA8:=hA7.trans (hK8.mono (fun _ x=>.inl x))
 have hq8 : ∀ o,w8.cell? ⟨w.heap.size,o,none⟩ = (w.alloc (.cells [.int .i64 x0,.int .i64 x1,.int .i64 x2,.int .i64 x3,.int .i64 x4,.int .i64 x5,.int .i64 x6,y7_0,y7_1,.bool x8,.int .i64 x9].toArray 227)).cell? ⟨w.heap.size,o,none⟩:=fun o=>(hK8.cell (a:=⟨w.heap.size,o,none⟩) (.inr rfl)).trans (hq7 o)
 clear hW7 hK8 hA7 hq7
 go_wp2_with fail
 refine (zX5 p (l ++ (enN x0).1 ++ (enN x1).1 ++ (enN x2).1 ++ (enN x3).1 ++ (enN x4).1 ++ (enN x5).1 ++ (enN x6).1 ++ (en zA9 v7).1) (bad || (enN x0).2 || (enN x1).2 || (enN x2).2 || (enN x3).2 || (enN x4).2 || (enN x5).2 || (enN x6).2 || (en zA9 v7).2) (fun b=>prot b\/b = w.heap.size) x8 _ (by have:=hl2.out; have:=zA3 x0; have:=zA3 x1; have:=zA3 x2; have:=zA3 x3; have:=zA3 x4; have:=zA3 x5; have:=zA3 x6; have:=zQ0 v7; simp only [List.length_append]; omega) hW8).mono ?_
 rintro e w9 ⟨rfl,hW9,hK9⟩
 have hA9:=hA8.trans (hK9.mono (fun _ x=>.inl x))
 have hq9 : ∀ o,w9.cell? ⟨w.heap.size,o,none⟩ = (w.alloc (.cells [.int .i64 x0,.int .i64 x1,.int .i64 x2,.int .i64 x3,.int .i64 x4,.int .i64 x5,.int .i64 x6,y7_0,y7_1,.bool x8,.int .i64 x9].toArray 227)).cell? ⟨w.heap.size,o,none⟩:=fun o=>(hK9.cell (a:=⟨w.heap.size,o,none⟩) (.inr rfl)).trans (hq8 o)
 clear hW8 hK9 hA8 hq8
 go_wp2_with fail
 refine (zC6 p (l ++ (enN x0).1 ++ (enN x1).1 ++ (enN x2).1 ++ (enN x3).1 ++ (enN x4).1 ++ (enN x5).1 ++ (enN x6).1 ++ (en zA9 v7).1 ++ (en .tru x8).1) (bad || (enN x0).2 || (enN x1).2 || (enN x2).2 || (enN x3).2 || (enN x4).2 || (enN x5).2 || (enN x6).2 || (en zA9 v7).2 || (en .tru x8).2) (fun b=>prot b\/b = w.heap.size) x9 _ (by have:=hl2.out; have:=zA3 x0; have:=zA3 x1; have:=zA3 x2; have:=zA3 x3; have:=zA3 x4; have:=zA3 x5; have:=zA3 x6; have:=zQ0 v7; have:=zN5 x8; simp only [List.length_append]; omega) hW9).mono ?_
 rintro e w10 ⟨rfl,hW10,hK10⟩
 have hA10:=hA9.trans (hK10.mono (fun _ x=>.inl x))
 have hq10 : ∀ o,w10.cell? ⟨w.heap.size,o,none⟩ = (w.alloc (.cells [.int .i64 x0,.int .i64 x1,.int .i64 x2,.int .i64 x3,.int .i64 x4,.int .i64 x5,.int .i64 x6,y7_0,y7_1,.bool x8,.int .i64 x9].toArray 227)).cell? ⟨w.heap.size,o,none⟩:=fun o=>(hK10.cell (a:=⟨w.heap.size,o,none⟩) (.inr rfl)).trans (hq9 o)
 clear hW9 hK10 hA9 hq9
 go_wp2
 go_end0
 have e1 : l ++ (enN x0).1 ++ (enN x1).1 ++ (enN x2).1 ++ (enN x3).1 ++ (enN x4).1 ++ (enN x5).1 ++ (enN x6).1 ++ (en zA9 v7).1 ++ (en .tru x8).1 ++ (enN x9).1 = l ++ (en zA7 (x0,x1,x2,x3,x4,x5,x6,v7,x8,x9)).1:=by rw [yU4]; simp only [List.append_assoc]
 have e2 : (bad || (enN x0).2 || (enN x1).2 || (enN x2).2 || (enN x3).2 || (enN x4).2 || (enN x5).2 || (enN x6).2 || (en zA9 v7).2 || (en .tru x8).2 || (enN x9).2) = (bad || (en zA7 (x0,x1,x2,x3,x4,x5,x6,v7,x8,x9)).2):=by rw [yU4]; simp only [Bool.or_assoc]
 rw [e1,e2] at hW10
 exact ⟨rfl,hW10.mono (fun _ x=>.inl x),hA10⟩
theorem yX5 : (Tryz.prog.info? 227).map (·.size) = some (wd zA7):=by kernel_rfl
theorem yP4 (p:Nat) (l:List UInt8) (bad:Bool) (prot S:Nat->Prop) (a:Option Addr) (c:Nat) (vs:List (Vl zA7)) (w:World) (hl:l.length + 4230<=137438953472) (hS:∀ b,S b->prot b) (hr:RepL w S zA7 a vs) (h:WR w p l bad prot) :
    Calls Tryz.prog 205 #[.pointer (some ⟨p,0,none⟩),.slice a vs.length c,.func (.func 206) #[.pointer (some ⟨p,0,none⟩)] #[]] w fun e w'=>e = .returned (.tuple #[])/\WR w' p (l ++ (en (.lst zA7) vs).1) (bad || (en (.lst zA7) vs).2) prot/\Kp w w' prot:=by
 have hl2 : Hid (l.length + 4230<=137438953472):=hl
 by_cases hbig : vs.length<=64
 · have e0 : en (.lst zA7) vs = (enc (vs.length:Int) ++ vs.flatMap fun v=>(en zA7 v).1,vs.any fun v=>(en zA7 v).2):=by show (if _ then _ else _) = _; rw [if_pos hbig]
   rw [e0]
   have e1 : Hid (enN (vs.length:Int) = (enc (vs.length:Int),false)):=by show _ = _; unfold enN; rw [if_pos (by omega)]
   have hl0:=hl2.out
   have HF : Hid (∀ k,((vs.take k).flatMap fun v=>(en zA7 v).1).length<=4224):=by
    intro k
    have h1:=zH9 (fun v=>(en zA7 v).1) 66 (fun v=>yK2 v) (vs.take k)
    have h2 : (vs.take k).length<=64:=by rw [List.length_take]; omega
    omega
   have HEL : Hid ((enc (vs.length:Int)).length<=6):=zD5 _ (by omega) (by omega)
   have HSP : Hid (∀ b,S b->prot b):=hS
   clear hl e0 hS
   go_enter Tryz.func205,Tryz.ntmps205
   go_wp2_with fail
   refine (zC6 p l bad prot (vs.length:Int) w (by omega) h).mono ?_
   rintro e w1 ⟨rfl,hW1,hK1⟩
   rw [e1.out] at hW1
   simp only [Bool.or_false] at hW1
   go_wp2
   go_loopw [20] (fun i wr=>∃ k : Nat,k<=vs.length/\i = .int .i64 k/\WR wr p (l ++ enc (vs.length:Int) ++ (vs.take k).flatMap fun v=>(en zA7 v).1) (bad || (vs.take k).any fun v=>(en zA7 v).2) prot/\Kp w wr prot) (fun i _=>vs.length - (intOf i).toNat)
   case atStart=>exact ⟨0,Nat.zero_le _,rfl,by simpa using hW1,hK1⟩
   case round =>
    obtain ⟨k,hk,rfl,hWk,hKk⟩:=hrel
    by_cases hlt : k < vs.length
    · obtain ⟨b,off,rfl,hSb,hes⟩:=hr.2 (by intro e; rw [e] at hlt; simp at hlt)
      obtain ⟨es,hrep0,hrg0⟩:=hes k hlt
      have hrep:=hrep0.kept (S':=S) hKk.size (fun b hb=>hKk.block b (HSP.out b hb)) (fun _ x=>x)
      have hrg : wr.rangeAt b (off + k * wd zA7) es:=zB1 hrg0 (hKk.block b (HSP.out b hSb))
      clear hrep0 hrg0
      have HLK : Hid ((l ++ enc (vs.length:Int) ++ (vs.take k).flatMap fun v=>(en zA7 v).1).length + 66<=137438953472):=by
       have h1:=HF.out k; have h2:=HEL.out; have h3:=hl2.out
       show _<=_
       have h4:=zH9 (fun v=>(en zA7 v).1) 66 (fun v=>yK2 v) (vs.take k)
       have h5 : (vs.take k).length + 1<=64:=by rw [List.length_take]; omega
       simp only [List.length_append]
       omega
      have I0 : Hid ((Tryz.prog.info? 227).map (·.size) = some es.length):=by show _ = _; rw [hrep.len]; exact yX5
      have O0 : Hid (es.toArray.all (·.oneCell') = true):=hrep.all
      have HRG : Hid (wr.rangeAt b (off + k * wd zA7) es):=hrg
      have hsz : es.toArray.size = 11:=by rw [List.size_toArray]; exact hrep.len
      have HL0 : Hid ((#[.int .i64 0,.int .i64 0,.int .i64 0,.int .i64 0,.int .i64 0,.int .i64 0,.int .i64 0,.int .i64 0,.int .i64 0,.bool false,.int .i64 0] : Array Value).size = es.toArray.size):=hsz.symm
      clear hsz
      have HRE : Hid (Rep wr S zA7 es vs[k]):=hrep
      clear hrep hrg hes hr
      have I1 : Hid ((Tryz.prog.info? 227).map (·.size) = some es.toArray.size):=by show _ = _; rw [List.size_toArray]; exact I0.out
      go_wp2_with (first
       | refine wpList_load_mid rfl 227 (.tmp 22) rfl b (off + k * wd zA7) rfl es _ HRG.out Tryz.underlying227 rfl I0.out ?_
       | refine zA5 rfl 227 (.tmp 7) (.tmp 23) rfl wr.heap.size es.toArray rfl rfl 227 #[.int .i64 0,.int .i64 0,.int .i64 0,.int .i64 0,.int .i64 0,.int .i64 0,.int .i64 0,.int .i64 0,.int .i64 0,.bool false,.int .i64 0] (heap_alloc_new wr (.cells #[.int .i64 0,.int .i64 0,.int .i64 0,.int .i64 0,.int .i64 0,.int .i64 0,.int .i64 0,.int .i64 0,.int .i64 0,.bool false,.int .i64 0] 227)) I1.out HL0.out O0.out ?next)
      case next =>
      intro w2 hw2
      have B2 : Below wr.heap.size wr w2:=by
       rw [hw2.out]
       exact ((Below.refl _ _).alloc (Nat.le_refl _) _).trans ⟨rfl,rfl,rfl,by simp [World.setRow],fun kk hkk=>setRow_other _ _ _ _ (by omega)⟩
      have g2 : Hid (w2.heap[wr.heap.size]? = some (.cells es.toArray 227 (0,0))):=by
       show _ = _
       rw [hw2.out]
       exact setRow_heap _ _ _ _ 227 _ (heap_alloc_new wr (.cells #[.int .i64 0,.int .i64 0,.int .i64 0,.int .i64 0,.int .i64 0,.int .i64 0,.int .i64 0,.int .i64 0,.int .i64 0,.bool false,.int .i64 0] 227))
      have hWm:=hWk.grow B2
      have hKm:=hKk.trans (yF1 B2 prot hWk.2.1)
      have HRE2 : Hid (Rep w2 S zA7 es vs[k]):=HRE.out.kept B2.size (fun b hb=>B2.block b (hWk.2.1 b (HSP.out b hb))) (fun _ x=>x)
      clear hw2 B2 HRE HRG hWk hKk
      go_wp2_with (refine wpList_load_row rfl 227 (.tmp 7) rfl wr.heap.size rfl 227 es.toArray (0,0) _ g2.out Tryz.underlying227 rfl I1.out ?_)
      refine (xZ4 p _ _ prot S es vs[k] w2 HLK.out HSP.out HRE2.out hWm).mono ?_
      rintro e w3 ⟨rfl,hW3,hK3⟩
      have E1 : Hid ((vs.take (k + 1)).flatMap (fun v=>(en zA7 v).1) = (vs.take k).flatMap (fun v=>(en zA7 v).1) ++ (en zA7 vs[k]).1):=by
       show _ = _
       rw [<- List.take_append_getElem hlt,List.flatMap_append]; simp
      have E2 : Hid ((vs.take (k + 1)).any (fun v=>(en zA7 v).2) = ((vs.take k).any (fun v=>(en zA7 v).2) || (en zA7 vs[k]).2)):=by
       show _ = _
       rw [<- List.take_append_getElem hlt,List.any_append]; simp
      go_wp2
      refine ⟨⟨k + 1,by omega,by go_num,?_,hKm.trans hK3⟩,by simp [intOf]; omega⟩
      rw [E1.out,E2.out,<- List.append_assoc,<- Bool.or_assoc]
      exact hW3
    · have hkN : k = vs.length:=by omega
      subst hkN
      go_wp2
      go_end0
      rw [List.take_of_length_le (Nat.le_refl _),List.append_assoc] at hWk
      exact ⟨rfl,hWk,hKk⟩
 · have e0 : en (.lst zA7) vs = ([],true):=by show (if _ then _ else _) = _; rw [if_neg hbig]
   rw [e0]
   simp only [Bool.or_true,List.append_nil]
   have HB : Hid _:=h.bad
   obtain ⟨h1,h2,h3,v,h4,h5,h6,h7,h8,h9⟩:=h
   clear h1 h2 h9 h8 hr hl hl2 e0
   go_enter Tryz.func205,Tryz.ntmps205
   go_wp2
   (try simp only [Exit.inBlock,Exit.then]); refine bodyPost_ret (results_none rfl _ _ _) rfl ?_
   exact ⟨rfl,HB.out⟩
theorem xK3 (p:Nat) (l:List UInt8) (bad:Bool) (prot S:Nat->Prop) (cs:List Value) (v:Vl zA4) (w:World) (hl:l.length + 12<=137438953472) (hS:∀ b,S b->prot b) (hr:Rep w S zA4 cs v) (h:WR w p l bad prot) :
    Calls Tryz.prog 189 #[.pointer (some ⟨p,0,none⟩),.agg cs.toArray] w fun e w'=>e = .returned (.tuple #[])/\WR w' p (l ++ (en zA4 v).1) (bad || (en zA4 v).2) prot/\Kp w w' prot:=by
 have hmf : ∀ (fn:Fn) (first cap:Array Value) (w:World),(Instr.makeFunc fn first cap).run Tryz.prog w = .ok (.func fn first cap) w:=fun _ _ _ _=>rfl
 obtain ⟨x0,x1,rfl,rfl⟩:=zY2 hr
 have hl2 : Hid (l.length + 12<=137438953472):=hl
 have hW0 : WR (w.alloc (.cells [.int .i64 x0,.int .i64 x1].toArray 187)) p l bad (fun b=>prot b\/b = w.heap.size):=h.box _
 have hA0:=Kp.alloc w (.cells [.int .i64 x0,.int .i64 x1].toArray 187) prot h.2.1
 have HP : Hid (∀ b,S b->prot b):=hS
 have HS : Hid (∀ b,S b->(fun b=>prot b\/b = w.heap.size) b):=fun b hb=>.inl (hS b hb)
 clear h hr hS hl
 go_enter Tryz.func189,Tryz.ntmps189
 go_wp2_with fail
 refine (zC6 p l bad (fun b=>prot b\/b = w.heap.size) x0 _ (by have:=hl2.out; omega) hW0).mono ?_
 rintro e w1 ⟨rfl,hW1,hK1⟩
 have hA1:=hA0.trans (hK1.mono (fun _ x=>.inl x))
 have hq1 : ∀ o,w1.cell? ⟨w.heap.size,o,none⟩ = (w.alloc (.cells [.int .i64 x0,.int .i64 x1].toArray 187)).cell? ⟨w.heap.size,o,none⟩:=fun o=>hK1.cell (a:=⟨w.heap.size,o,none⟩) (.inr rfl)
 clear hW0 hK1 hA0
 go_wp2_with fail
 refine (zC6 p (l ++ (enN x0).1) (bad || (enN x0).2) (fun b=>prot b\/b = w.heap.size) x1 _ (by have:=hl2.out; have:=zA3 x0; simp only [List.length_append]; omega) hW1).mono ?_
 rintro e w2 ⟨rfl,hW2,hK2⟩
 have hA2:=hA1.trans (hK2.mono (fun _ x=>.inl x))
 have hq2 : ∀ o,w2.cell? ⟨w.heap.size,o,none⟩ = (w.alloc (.cells [.int .i64 x0,.int .i64 x1].toArray 187)).cell? ⟨w.heap.size,o,none⟩:=fun o=>(hK2.cell (a:=⟨w.heap.size,o,none⟩) (.inr rfl)).trans (hq1 o)
 clear hW1 hK2 hA1 hq1
 go_wp2
 go_end0
 have e1 : l ++ (enN x0).1 ++ (enN x1).1 = l ++ (en zA4 (x0,x1)).1:=by rw [yK7]; simp only [List.append_assoc]
 have e2 : (bad || (enN x0).2 || (enN x1).2) = (bad || (en zA4 (x0,x1)).2):=by rw [yK7]; simp only [Bool.or_assoc]
 rw [e1,e2] at hW2
 exact ⟨rfl,hW2.mono (fun _ x=>.inl x),hA2⟩
theorem yP8 : (Tryz.prog.info? 187).map (·.size) = some (wd zA4):=by kernel_rfl
theorem yJ7 (p:Nat) (l:List UInt8) (bad:Bool) (prot S:Nat->Prop) (a:Option Addr) (c:Nat) (vs:List (Vl zA4)) (w:World) (hl:l.length + 774<=137438953472) (hS:∀ b,S b->prot b) (hr:RepL w S zA4 a vs) (h:WR w p l bad prot) :
    Calls Tryz.prog 188 #[.pointer (some ⟨p,0,none⟩),.slice a vs.length c,.func (.func 189) #[.pointer (some ⟨p,0,none⟩)] #[]] w fun e w'=>e = .returned (.tuple #[])/\WR w' p (l ++ (en (.lst zA4) vs).1) (bad || (en (.lst zA4) vs).2) prot/\Kp w w' prot:=by
 have hl2 : Hid (l.length + 774<=137438953472):=hl
 by_cases hbig : vs.length<=64
 · have e0 : en (.lst zA4) vs = (enc (vs.length:Int) ++ vs.flatMap fun v=>(en zA4 v).1,vs.any fun v=>(en zA4 v).2):=by show (if _ then _ else _) = _; rw [if_pos hbig]
   rw [e0]
   have e1 : Hid (enN (vs.length:Int) = (enc (vs.length:Int),false)):=by show _ = _; unfold enN; rw [if_pos (by omega)]
   have hl0:=hl2.out
   have HF : Hid (∀ k,((vs.take k).flatMap fun v=>(en zA4 v).1).length<=768):=by
    intro k
    have h1:=zH9 (fun v=>(en zA4 v).1) 12 (fun v=>yC3 v) (vs.take k)
    have h2 : (vs.take k).length<=64:=by rw [List.length_take]; omega
    omega
   have HEL : Hid ((enc (vs.length:Int)).length<=6):=zD5 _ (by omega) (by omega)
   have HSP : Hid (∀ b,S b->prot b):=hS
   clear hl e0 hS
   go_enter Tryz.func188,Tryz.ntmps188
   go_wp2_with fail
   refine (zC6 p l bad prot (vs.length:Int) w (by omega) h).mono ?_
   rintro e w1 ⟨rfl,hW1,hK1⟩
   rw [e1.out] at hW1
   simp only [Bool.or_false] at hW1
   go_wp2
   go_loopw [20] (fun i wr=>∃ k : Nat,k<=vs.length/\i = .int .i64 k/\WR wr p (l ++ enc (vs.length:Int) ++ (vs.take k).flatMap fun v=>(en zA4 v).1) (bad || (vs.take k).any fun v=>(en zA4 v).2) prot/\Kp w wr prot) (fun i _=>vs.length - (intOf i).toNat)
   case atStart=>exact ⟨0,Nat.zero_le _,rfl,by simpa using hW1,hK1⟩
   case round =>
    obtain ⟨k,hk,rfl,hWk,hKk⟩:=hrel
    by_cases hlt : k < vs.length
    · obtain ⟨b,off,rfl,hSb,hes⟩:=hr.2 (by intro e; rw [e] at hlt; simp at hlt)
      obtain ⟨es,hrep0,hrg0⟩:=hes k hlt
      have hrep:=hrep0.kept (S':=S) hKk.size (fun b hb=>hKk.block b (HSP.out b hb)) (fun _ x=>x)
      have hrg : wr.rangeAt b (off + k * wd zA4) es:=zB1 hrg0 (hKk.block b (HSP.out b hSb))
      clear hrep0 hrg0
      have HLK : Hid ((l ++ enc (vs.length:Int) ++ (vs.take k).flatMap fun v=>(en zA4 v).1).length + 12<=137438953472):=by
       have h1:=HF.out k; have h2:=HEL.out; have h3:=hl2.out
       show _<=_
       have h4:=zH9 (fun v=>(en zA4 v).1) 12 (fun v=>yC3 v) (vs.take k)
       have h5 : (vs.take k).length + 1<=64:=by rw [List.length_take]; omega
       simp only [List.length_append]
       omega
      have I0 : Hid ((Tryz.prog.info? 187).map (·.size) = some es.length):=by show _ = _; rw [hrep.len]; exact yP8
      have O0 : Hid (es.toArray.all (·.oneCell') = true):=hrep.all
      have HRG : Hid (wr.rangeAt b (off + k * wd zA4) es):=hrg
      have hsz : es.toArray.size = 2:=by rw [List.size_toArray]; exact hrep.len
      have HL0 : Hid ((#[.int .i64 0,.int .i64 0] : Array Value).size = es.toArray.size):=hsz.symm
      clear hsz
      have HRE : Hid (Rep wr S zA4 es vs[k]):=hrep
      clear hrep hrg hes hr
      have I1 : Hid ((Tryz.prog.info? 187).map (·.size) = some es.toArray.size):=by show _ = _; rw [List.size_toArray]; exact I0.out
      go_wp2_with (first
       | refine wpList_load_mid rfl 187 (.tmp 22) rfl b (off + k * wd zA4) rfl es _ HRG.out Tryz.underlying187 rfl I0.out ?_
       | refine zA5 rfl 187 (.tmp 7) (.tmp 23) rfl wr.heap.size es.toArray rfl rfl 187 #[.int .i64 0,.int .i64 0] (heap_alloc_new wr (.cells #[.int .i64 0,.int .i64 0] 187)) I1.out HL0.out O0.out ?next)
      case next =>
      intro w2 hw2
      have B2 : Below wr.heap.size wr w2:=by
       rw [hw2.out]
       exact ((Below.refl _ _).alloc (Nat.le_refl _) _).trans ⟨rfl,rfl,rfl,by simp [World.setRow],fun kk hkk=>setRow_other _ _ _ _ (by omega)⟩
      have g2 : Hid (w2.heap[wr.heap.size]? = some (.cells es.toArray 187 (0,0))):=by
       show _ = _
       rw [hw2.out]
       exact setRow_heap _ _ _ _ 187 _ (heap_alloc_new wr (.cells #[.int .i64 0,.int .i64 0] 187))
      have hWm:=hWk.grow B2
      have hKm:=hKk.trans (yF1 B2 prot hWk.2.1)
      have HRE2 : Hid (Rep w2 S zA4 es vs[k]):=HRE.out.kept B2.size (fun b hb=>B2.block b (hWk.2.1 b (HSP.out b hb))) (fun _ x=>x)
      clear hw2 B2 HRE HRG hWk hKk
      go_wp2_with (refine wpList_load_row rfl 187 (.tmp 7) rfl wr.heap.size rfl 187 es.toArray (0,0) _ g2.out Tryz.underlying187 rfl I1.out ?_)
      refine (xK3 p _ _ prot S es vs[k] w2 HLK.out HSP.out HRE2.out hWm).mono ?_
      rintro e w3 ⟨rfl,hW3,hK3⟩
      have E1 : Hid ((vs.take (k + 1)).flatMap (fun v=>(en zA4 v).1) = (vs.take k).flatMap (fun v=>(en zA4 v).1) ++ (en zA4 vs[k]).1):=by
       show _ = _
       rw [<- List.take_append_getElem hlt,List.flatMap_append]; simp
      have E2 : Hid ((vs.take (k + 1)).any (fun v=>(en zA4 v).2) = ((vs.take k).any (fun v=>(en zA4 v).2) || (en zA4 vs[k]).2)):=by
       show _ = _
       rw [<- List.take_append_getElem hlt,List.any_append]; simp
      go_wp2
      refine ⟨⟨k + 1,by omega,by go_num,?_,hKm.trans hK3⟩,by simp [intOf]; omega⟩
      rw [E1.out,E2.out,<- List.append_assoc,<- Bool.or_assoc]
      exact hW3
    · have hkN : k = vs.length:=by omega
      subst hkN
      go_wp2
      go_end0
      rw [List.take_of_length_le (Nat.le_refl _),List.append_assoc] at hWk
      exact ⟨rfl,hWk,hKk⟩
 · have e0 : en (.lst zA4) vs = ([],true):=by show (if _ then _ else _) = _; rw [if_neg hbig]
   rw [e0]
   simp only [Bool.or_true,List.append_nil]
   have HB : Hid _:=h.bad
   obtain ⟨h1,h2,h3,v,h4,h5,h6,h7,h8,h9⟩:=h
   clear h1 h2 h9 h8 hr hl hl2 e0
   go_enter Tryz.func188,Tryz.ntmps188
   go_wp2
   (try simp only [Exit.inBlock,Exit.then]); refine bodyPost_ret (results_none rfl _ _ _) rfl ?_
   exact ⟨rfl,HB.out⟩
theorem xW8 (p:Nat) (l:List UInt8) (bad:Bool) (prot S:Nat->Prop) (cs:List Value) (v:Vl zA6) (w:World) (hl:l.length + 18<=137438953472) (hS:∀ b,S b->prot b) (hr:Rep w S zA6 cs v) (h:WR w p l bad prot) :
    Calls Tryz.prog 202 #[.pointer (some ⟨p,0,none⟩),.agg cs.toArray] w fun e w'=>e = .returned (.tuple #[])/\WR w' p (l ++ (en zA6 v).1) (bad || (en zA6 v).2) prot/\Kp w w' prot:=by
 have hmf : ∀ (fn:Fn) (first cap:Array Value) (w:World),(Instr.makeFunc fn first cap).run Tryz.prog w = .ok (.func fn first cap) w:=fun _ _ _ _=>rfl
 obtain ⟨x0,y1_0,y1_1,v1,rfl,rfl,h1⟩:=yB8 hr
 have hl2 : Hid (l.length + 18<=137438953472):=hl
 have hW0 : WR (w.alloc (.cells [.int .i64 x0,y1_0,y1_1].toArray 209)) p l bad (fun b=>prot b\/b = w.heap.size):=h.box _
 have hA0:=Kp.alloc w (.cells [.int .i64 x0,y1_0,y1_1].toArray 209) prot h.2.1
 have HP : Hid (∀ b,S b->prot b):=hS
 have HS : Hid (∀ b,S b->(fun b=>prot b\/b = w.heap.size) b):=fun b hb=>.inl (hS b hb)
 clear h hr hS hl
 go_enter Tryz.func202,Tryz.ntmps202
 go_wp2_with fail
 refine (zC6 p l bad (fun b=>prot b\/b = w.heap.size) x0 _ (by have:=hl2.out; omega) hW0).mono ?_
 rintro e w1 ⟨rfl,hW1,hK1⟩
 have hA1:=hA0.trans (hK1.mono (fun _ x=>.inl x))
 have hq1 : ∀ o,w1.cell? ⟨w.heap.size,o,none⟩ = (w.alloc (.cells [.int .i64 x0,y1_0,y1_1].toArray 209)).cell? ⟨w.heap.size,o,none⟩:=fun o=>hK1.cell (a:=⟨w.heap.size,o,none⟩) (.inr rfl)
 clear hW0 hK1 hA0
 go_wp2_with fail
 refine (xU4 p (l ++ (enN x0).1) (bad || (enN x0).2) (fun b=>prot b\/b = w.heap.size) S [y1_0,y1_1] v1 _ (by have:=hl2.out; have:=zA3 x0; simp only [List.length_append]; omega) HS.out (h1.kept hA1.size (fun b hb=>hA1.block b (HP.out b hb)) (fun _ x=>x)) hW1).mono ?_
 rintro e w2 ⟨rfl,hW2,hK2⟩
 have hA2:=hA1.trans (hK2.mono (fun _ x=>.inl x))
 have hq2 : ∀ o,w2.cell? ⟨w.heap.size,o,none⟩ = (w.alloc (.cells [.int .i64 x0,y1_0,y1_1].toArray 209)).cell? ⟨w.heap.size,o,none⟩:=fun o=>(hK2.cell (a:=⟨w.heap.size,o,none⟩) (.inr rfl)).trans (hq1 o)
 clear hW1 hK2 hA1 hq1
 go_wp2
 go_end0
 have e1 : l ++ (enN x0).1 ++ (en zA9 v1).1 = l ++ (en zA6 (x0,v1)).1:=by rw [yU2]; simp only [List.append_assoc]
 have e2 : (bad || (enN x0).2 || (en zA9 v1).2) = (bad || (en zA6 (x0,v1)).2):=by rw [yU2]; simp only [Bool.or_assoc]
 rw [e1,e2] at hW2
 exact ⟨rfl,hW2.mono (fun _ x=>.inl x),hA2⟩
theorem yX4 : (Tryz.prog.info? 209).map (·.size) = some (wd zA6):=by kernel_rfl
theorem yP2 (p:Nat) (l:List UInt8) (bad:Bool) (prot S:Nat->Prop) (a:Option Addr) (c:Nat) (vs:List (Vl zA6)) (w:World) (hl:l.length + 1158<=137438953472) (hS:∀ b,S b->prot b) (hr:RepL w S zA6 a vs) (h:WR w p l bad prot) :
    Calls Tryz.prog 201 #[.pointer (some ⟨p,0,none⟩),.slice a vs.length c,.func (.func 202) #[.pointer (some ⟨p,0,none⟩)] #[]] w fun e w'=>e = .returned (.tuple #[])/\WR w' p (l ++ (en (.lst zA6) vs).1) (bad || (en (.lst zA6) vs).2) prot/\Kp w w' prot:=by
 have hl2 : Hid (l.length + 1158<=137438953472):=hl
 by_cases hbig : vs.length<=64
 · have e0 : en (.lst zA6) vs = (enc (vs.length:Int) ++ vs.flatMap fun v=>(en zA6 v).1,vs.any fun v=>(en zA6 v).2):=by show (if _ then _ else _) = _; rw [if_pos hbig]
   rw [e0]
   have e1 : Hid (enN (vs.length:Int) = (enc (vs.length:Int),false)):=by show _ = _; unfold enN; rw [if_pos (by omega)]
   have hl0:=hl2.out
   have HF : Hid (∀ k,((vs.take k).flatMap fun v=>(en zA6 v).1).length<=1152):=by
    intro k
    have h1:=zH9 (fun v=>(en zA6 v).1) 18 (fun v=>yK1 v) (vs.take k)
    have h2 : (vs.take k).length<=64:=by rw [List.length_take]; omega
    omega
   have HEL : Hid ((enc (vs.length:Int)).length<=6):=zD5 _ (by omega) (by omega)
   have HSP : Hid (∀ b,S b->prot b):=hS
   clear hl e0 hS
   go_enter Tryz.func201,Tryz.ntmps201
   go_wp2_with fail
   refine (zC6 p l bad prot (vs.length:Int) w (by omega) h).mono ?_
   rintro e w1 ⟨rfl,hW1,hK1⟩
   rw [e1.out] at hW1
   simp only [Bool.or_false] at hW1
   go_wp2
   go_loopw [20] (fun i wr=>∃ k : Nat,k<=vs.length/\i = .int .i64 k/\WR wr p (l ++ enc (vs.length:Int) ++ (vs.take k).flatMap fun v=>(en zA6 v).1) (bad || (vs.take k).any fun v=>(en zA6 v).2) prot/\Kp w wr prot) (fun i _=>vs.length - (intOf i).toNat)
   case atStart=>exact ⟨0,Nat.zero_le _,rfl,by simpa using hW1,hK1⟩
   case round =>
    obtain ⟨k,hk,rfl,hWk,hKk⟩:=hrel
    by_cases hlt : k < vs.length
    · obtain ⟨b,off,rfl,hSb,hes⟩:=hr.2 (by intro e; rw [e] at hlt; simp at hlt)
      obtain ⟨es,hrep0,hrg0⟩:=hes k hlt
      have hrep:=hrep0.kept (S':=S) hKk.size (fun b hb=>hKk.block b (HSP.out b hb)) (fun _ x=>x)
      have hrg : wr.rangeAt b (off + k * wd zA6) es:=zB1 hrg0 (hKk.block b (HSP.out b hSb))
      clear hrep0 hrg0
      have HLK : Hid ((l ++ enc (vs.length:Int) ++ (vs.take k).flatMap fun v=>(en zA6 v).1).length + 18<=137438953472):=by
       have h1:=HF.out k; have h2:=HEL.out; have h3:=hl2.out
       show _<=_
       have h4:=zH9 (fun v=>(en zA6 v).1) 18 (fun v=>yK1 v) (vs.take k)
       have h5 : (vs.take k).length + 1<=64:=by rw [List.length_take]; omega
       simp only [List.length_append]
       omega
      have I0 : Hid ((Tryz.prog.info? 209).map (·.size) = some es.length):=by show _ = _; rw [hrep.len]; exact yX4
      have O0 : Hid (es.toArray.all (·.oneCell') = true):=hrep.all
      have HRG : Hid (wr.rangeAt b (off + k * wd zA6) es):=hrg
      have hsz : es.toArray.size = 3:=by rw [List.size_toArray]; exact hrep.len
      have HL0 : Hid ((#[.int .i64 0,.int .i64 0,.int .i64 0] : Array Value).size = es.toArray.size):=hsz.symm
      clear hsz
      have HRE : Hid (Rep wr S zA6 es vs[k]):=hrep
      clear hrep hrg hes hr
      have I1 : Hid ((Tryz.prog.info? 209).map (·.size) = some es.toArray.size):=by show _ = _; rw [List.size_toArray]; exact I0.out
      go_wp2_with (first
       | refine wpList_load_mid rfl 209 (.tmp 22) rfl b (off + k * wd zA6) rfl es _ HRG.out Tryz.underlying209 rfl I0.out ?_
       | refine zA5 rfl 209 (.tmp 7) (.tmp 23) rfl wr.heap.size es.toArray rfl rfl 209 #[.int .i64 0,.int .i64 0,.int .i64 0] (heap_alloc_new wr (.cells #[.int .i64 0,.int .i64 0,.int .i64 0] 209)) I1.out HL0.out O0.out ?next)
      case next =>
      intro w2 hw2
      have B2 : Below wr.heap.size wr w2:=by
       rw [hw2.out]
       exact ((Below.refl _ _).alloc (Nat.le_refl _) _).trans ⟨rfl,rfl,rfl,by simp [World.setRow],fun kk hkk=>setRow_other _ _ _ _ (by omega)⟩
      have g2 : Hid (w2.heap[wr.heap.size]? = some (.cells es.toArray 209 (0,0))):=by
       show _ = _
       rw [hw2.out]
       exact setRow_heap _ _ _ _ 209 _ (heap_alloc_new wr (.cells #[.int .i64 0,.int .i64 0,.int .i64 0] 209))
      have hWm:=hWk.grow B2
      have hKm:=hKk.trans (yF1 B2 prot hWk.2.1)
      have HRE2 : Hid (Rep w2 S zA6 es vs[k]):=HRE.out.kept B2.size (fun b hb=>B2.block b (hWk.2.1 b (HSP.out b hb))) (fun _ x=>x)
      clear hw2 B2 HRE HRG hWk hKk
      go_wp2_with (refine wpList_load_row rfl 209 (.tmp 7) rfl wr.heap.size rfl 209 es.toArray (0,0) _ g2.out Tryz.underlying209 rfl I1.out ?_)
      refine (xW8 p _ _ prot S es vs[k] w2 HLK.out HSP.out HRE2.out hWm).mono ?_
      rintro e w3 ⟨rfl,hW3,hK3⟩
      have E1 : Hid ((vs.take (k + 1)).flatMap (fun v=>(en zA6 v).1) = (vs.take k).flatMap (fun v=>(en zA6 v).1) ++ (en zA6 vs[k]).1):=by
       show _ = _
       rw [<- List.take_append_getElem hlt,List.flatMap_append]; simp
      have E2 : Hid ((vs.take (k + 1)).any (fun v=>(en zA6 v).2) = ((vs.take k).any (fun v=>(en zA6 v).2) || (en zA6 vs[k]).2)):=by
       show _ = _
       rw [<- List.take_append_getElem hlt,List.any_append]; simp
      go_wp2
      refine ⟨⟨k + 1,by omega,by go_num,?_,hKm.trans hK3⟩,by simp [intOf]; omega⟩
      rw [E1.out,E2.out,<- List.append_assoc,<- Bool.or_assoc]
      exact hW3
    · have hkN : k = vs.length:=by omega
      subst hkN
      go_wp2
      go_end0
      rw [List.take_of_length_le (Nat.le_refl _),List.append_assoc] at hWk
      exact ⟨rfl,hWk,hKk⟩
 · have e0 : en (.lst zA6) vs = ([],true):=by show (if _ then _ else _) = _; rw [if_neg hbig]
   rw [e0]
   simp only [Bool.or_true,List.append_nil]
   have HB : Hid _:=h.bad
   obtain ⟨h1,h2,h3,v,h4,h5,h6,h7,h8,h9⟩:=h
   clear h1 h2 h9 h8 hr hl hl2 e0
   go_enter Tryz.func201,Tryz.ntmps201
   go_wp2
   (try simp only [Exit.inBlock,Exit.then]); refine bodyPost_ret (results_none rfl _ _ _) rfl ?_
   exact ⟨rfl,HB.out⟩
end
end Go.Proofs.YtocoimjhglackaaGreat
