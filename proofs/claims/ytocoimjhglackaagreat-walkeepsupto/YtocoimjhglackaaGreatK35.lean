/- Voa -/
import Derived.Test.YtocoimjhglackaaGreatK34
set_option maxHeartbeats 8000000
set_option maxRecDepth 100000
namespace Go.Proofs.YtocoimjhglackaaGreat
section
open Go.RowKit
theorem xH8 (p:Nat) (l:List UInt8) (bad:Bool) (prot S:Nat->Prop) (a:Option Addr) (c:Nat) (vs:List (Vl .num)) (w:World) (hl:l.length + szb (.lst .num) vs<=137438953472) (hS:∀ b,S b->prot b) (hr:RepL w S .num a vs) (h:WR w p l bad prot) :
    Calls Tryz.prog 147 #[.pointer (some ⟨p,0,none⟩),.slice a vs.length c] w fun e w'=>e = .returned (.tuple #[])/\WR w' p (l ++ (enR (.lst .num) vs).1) (bad || (enR (.lst .num) vs).2) prot/\Kp w w' prot:=by
 have hl2 : Hid (l.length + (6 + (vs.map fun v=>szb .num v).sum)<=137438953472):=hl
 have hN:=hr.1
 have HSP : Hid (∀ b,S b->prot b):=hS
 have HNL : Hid ((enN (vs.length:Int)).1.length<=6):=zA3 _
 have EB : Hid (∀ q,(bad || (decide (64 < (vs.length:Int)) || (enN (vs.length:Int)).2) || q) = (bad || (decide (64 < (vs.length:Int)) || (enN (vs.length:Int)).2 || q))):=fun q=>Bool.or_assoc _ _ _
 clear hl hS
 go_enter Tryz.func147,Tryz.ntmps147
 go_wp2_with fail
 refine (yG4 p l bad prot (vs.length:Int) w (by have:=hl2.out; omega) h).mono ?_
 rintro e w1 ⟨rfl,hW1,hK1⟩
 go_wp2
 go_loopw [4] (fun i wr=>∃ k : Nat,k<=vs.length/\i = .int .i64 k/\WR wr p (l ++ (enN (vs.length:Int)).1 ++ (vs.take k).flatMap fun v=>(enR .num v).1) (bad || (decide (64 < (vs.length:Int)) || (enN (vs.length:Int)).2) || (vs.take k).any fun v=>(enR .num v).2) prot/\Kp w wr prot) (fun i _=>vs.length - (intOf i).toNat)
 case atStart=>exact ⟨0,Nat.zero_le _,rfl,by simpa using hW1,hK1⟩
 case round =>
     obtain ⟨k,hk,rfl,hWk,hKk⟩:=hrel
     by_cases hlt : k < vs.length
     · obtain ⟨b,off,rfl,hSb,hes⟩:=hr.2 (by intro e; rw [e] at hlt; simp at hlt)
       obtain ⟨es,hrep0,hrg0⟩:=hes k hlt
       have hrep:=hrep0.kept (S':=S) hKk.size (fun b hb=>hKk.block b (HSP.out b hb)) (fun _ x=>x)
       have hrg : wr.rangeAt b (off + k * wd .num) es:=zB1 hrg0 (hKk.block b (HSP.out b hSb))
       clear hrep0 hrg0
       have HLK : Hid ((l ++ (enN (vs.length:Int)).1 ++ (vs.take k).flatMap fun v=>(enR .num v).1).length + szb .num vs[k]<=137438953472):=by
        have h3:=hl2.out
        show _<=_
        have h4:=zS1 (fun v=>(enR .num v).1) (fun v=>szb .num v) (fun v=>zC8 .num v) (vs.take k)
        have h5:=zV6 (fun v=>szb .num v) vs k hlt
        have h6:=HNL.out
        simp only [List.length_append]
        omega
       obtain rfl : es = [.int .i64 (vs[k] : Int)]:=hrep
       have hcell : wr.cell? ⟨b,off + k,none⟩ = some (.int .i64 (vs[k] : Int)):=by have:=hrg 0 _ rfl; simpa [wd] using this
       clear hrg hes hr
       have hcell2:=hcell
       generalize HVK : (vs[k] : Int) = vk at hcell2
       clear hcell
       go_wp2_with fail
       have hHVK : Hid (vs[k] = vk):=HVK
       clear HVK
       refine (zE9 p _ _ prot vk wr HLK.out hWk).mono ?_
       rw [<- hHVK.out]
       rintro e w3 ⟨rfl,hW3,hK3⟩
       have E1 : Hid ((vs.take (k + 1)).flatMap (fun v=>(enR .num v).1) = (vs.take k).flatMap (fun v=>(enR .num v).1) ++ (enR .num vs[k]).1):=by
        show _ = _
        rw [<- List.take_append_getElem hlt,List.flatMap_append]; simp
       have E2 : Hid ((vs.take (k + 1)).any (fun v=>(enR .num v).2) = ((vs.take k).any (fun v=>(enR .num v).2) || (enR .num vs[k]).2)):=by
        show _ = _
        rw [<- List.take_append_getElem hlt,List.any_append]; simp
       go_wp2
       refine ⟨⟨k + 1,by omega,by go_num,?_,hKk.trans hK3⟩,by simp [intOf]; omega⟩
       rw [E1.out,E2.out,<- List.append_assoc,<- Bool.or_assoc]
       exact hW3
     · have hkN : k = vs.length:=by omega
       subst hkN
       go_wp2
       go_end0
       rw [List.take_of_length_le (Nat.le_refl _),List.append_assoc,EB.out] at hWk
       exact ⟨rfl,hWk,hKk⟩
theorem xU6 (p:Nat) (l:List UInt8) (bad:Bool) (prot S:Nat->Prop) (cs:List Value) (v:Vl zA9) (w:World) (hl:l.length + szb zA9 v<=137438953472) (hS:∀ b,S b->prot b) (hr:Rep w S zA9 cs v) (h:WR w p l bad prot) :
    Calls Tryz.prog 163 #[.pointer (some ⟨p,0,none⟩),.agg cs.toArray] w fun e w'=>e = .returned (.tuple #[])/\WR w' p (l ++ (enR zA9 v).1) (bad || (enR zA9 v).2) prot/\Kp w w' prot:=by
 obtain ⟨x0,x1,rfl,rfl⟩:=yT0 hr
 rw [yZ9] at hl
 have hl2 : Hid (l.length + (6 + (6))<=137438953472):=hl
 have hW0 : WR (w.alloc (.cells [.int .i64 x0,.int .i64 x1].toArray 63)) p l bad (fun b=>prot b\/b = w.heap.size):=h.box _
 have hA0:=Kp.alloc w (.cells [.int .i64 x0,.int .i64 x1].toArray 63) prot h.2.1
 have hq0 : ∀ o,(w.alloc (.cells [.int .i64 x0,.int .i64 x1].toArray 63)).cell? ⟨w.heap.size,o,none⟩ = (w.alloc (.cells [.int .i64 x0,.int .i64 x1].toArray 63)).cell? ⟨w.heap.size,o,none⟩:=fun _=>rfl
 have HP : Hid (∀ b,S b->prot b):=hS
 have HS : Hid (∀ b,S b->(fun b=>prot b\/b = w.heap.size) b):=fun b hb=>.inl (hS b hb)
 clear h hr hS hl hq0
 go_enter Tryz.func163,Tryz.ntmps163
 go_wp2_with fail
 refine (zE9 p l bad (fun b=>prot b\/b = w.heap.size) x0 _ (by have:=hl2.out; omega) hW0).mono ?_
 rintro e w1 ⟨rfl,hW1,hK1⟩
 have hA1:=hA0.trans (hK1.mono (fun _ x=>.inl x))
 have hq1 : ∀ o,w1.cell? ⟨w.heap.size,o,none⟩ = (w.alloc (.cells [.int .i64 x0,.int .i64 x1].toArray 63)).cell? ⟨w.heap.size,o,none⟩:=fun o=>hK1.cell (a:=⟨w.heap.size,o,none⟩) (.inr rfl)
 clear hW0 hK1 hA0
 go_wp2_with fail
 refine (zE9 p (l ++ (enN x0).1) (bad || (enN x0).2) (fun b=>prot b\/b = w.heap.size) x1 _ (by have:=hl2.out; have:=zA3 x0; simp only [List.length_append]; omega) hW1).mono ?_
 rintro e w2 ⟨rfl,hW2,hK2⟩
 have hA2:=hA1.trans (hK2.mono (fun _ x=>.inl x))
 have hq2 : ∀ o,w2.cell? ⟨w.heap.size,o,none⟩ = (w.alloc (.cells [.int .i64 x0,.int .i64 x1].toArray 63)).cell? ⟨w.heap.size,o,none⟩:=fun o=>(hK2.cell (a:=⟨w.heap.size,o,none⟩) (.inr rfl)).trans (hq1 o)
 clear hW1 hK2 hA1 hq1
 have HW : Hid (WR _ _ _ _ _):=hW2
 clear hW2
 go_wp2
 go_end0
 have hWf:=HW.out
 have e1 : (l ++ (enN x0).1 ++ (enN x1).1) = l ++ (enR zA9 (x0,x1)).1:=by rw [xF5]; simp only [List.append_assoc]
 have e2 : (bad || (enN x0).2 || (enN x1).2) = (bad || (enR zA9 (x0,x1)).2):=by rw [xF5]; simp only [Bool.or_assoc]
 rw [e1,e2] at hWf
 exact ⟨rfl,hWf.mono (fun _ x=>.inl x),hA2⟩
theorem xR7 (p:Nat) (l:List UInt8) (bad:Bool) (prot S:Nat->Prop) (cs:List Value) (v:Vl zB4) (w:World) (hl:l.length + szb zB4 v<=137438953472) (hS:∀ b,S b->prot b) (hr:Rep w S zB4 cs v) (h:WR w p l bad prot) :
    Calls Tryz.prog 119 #[.pointer (some ⟨p,0,none⟩),.agg cs.toArray] w fun e w'=>e = .returned (.tuple #[])/\WR w' p (l ++ (enR zB4 v).1) (bad || (enR zB4 v).2) prot/\Kp w w' prot:=by
 obtain ⟨a0,c0,v0,a1,c1,v1,rfl,rfl,h0,h1⟩:=yJ1 hr
 rw [yS1] at hl
 have hl2 : Hid (l.length + (szb (.lst .num) v0 + (szb (.lst .num) v1))<=137438953472):=hl
 have hW0 : WR (w.alloc (.cells [.slice a0 v0.length c0,.slice a1 v1.length c1].toArray 34)) p l bad (fun b=>prot b\/b = w.heap.size):=h.box _
 have hA0:=Kp.alloc w (.cells [.slice a0 v0.length c0,.slice a1 v1.length c1].toArray 34) prot h.2.1
 have hq0 : ∀ o,(w.alloc (.cells [.slice a0 v0.length c0,.slice a1 v1.length c1].toArray 34)).cell? ⟨w.heap.size,o,none⟩ = (w.alloc (.cells [.slice a0 v0.length c0,.slice a1 v1.length c1].toArray 34)).cell? ⟨w.heap.size,o,none⟩:=fun _=>rfl
 have HP : Hid (∀ b,S b->prot b):=hS
 have HS : Hid (∀ b,S b->(fun b=>prot b\/b = w.heap.size) b):=fun b hb=>.inl (hS b hb)
 clear h hr hS hl hq0
 go_enter Tryz.func119,Tryz.ntmps119
 go_wp2_with fail
 refine (xH8 p l bad (fun b=>prot b\/b = w.heap.size) S a0 c0 v0 _ (by have:=hl2.out; omega) HS.out (h0.kept hA0.size (fun b hb=>hA0.block b (HP.out b hb)) (fun _ x=>x)) hW0).mono ?_
 rintro e w1 ⟨rfl,hW1,hK1⟩
 have hA1:=hA0.trans (hK1.mono (fun _ x=>.inl x))
 have hq1 : ∀ o,w1.cell? ⟨w.heap.size,o,none⟩ = (w.alloc (.cells [.slice a0 v0.length c0,.slice a1 v1.length c1].toArray 34)).cell? ⟨w.heap.size,o,none⟩:=fun o=>hK1.cell (a:=⟨w.heap.size,o,none⟩) (.inr rfl)
 clear hW0 hK1 hA0
 go_wp2_with fail
 refine (xH8 p (l ++ (enR (.lst .num) v0).1) (bad || (enR (.lst .num) v0).2) (fun b=>prot b\/b = w.heap.size) S a1 c1 v1 _ (by have:=hl2.out; have:=zC8 (.lst .num) v0; simp only [List.length_append]; omega) HS.out (h1.kept hA1.size (fun b hb=>hA1.block b (HP.out b hb)) (fun _ x=>x)) hW1).mono ?_
 rintro e w2 ⟨rfl,hW2,hK2⟩
 have hA2:=hA1.trans (hK2.mono (fun _ x=>.inl x))
 have hq2 : ∀ o,w2.cell? ⟨w.heap.size,o,none⟩ = (w.alloc (.cells [.slice a0 v0.length c0,.slice a1 v1.length c1].toArray 34)).cell? ⟨w.heap.size,o,none⟩:=fun o=>(hK2.cell (a:=⟨w.heap.size,o,none⟩) (.inr rfl)).trans (hq1 o)
 clear hW1 hK2 hA1 hq1
 have HW : Hid (WR _ _ _ _ _):=hW2
 clear hW2
 go_wp2
 go_end0
 have hWf:=HW.out
 have e1 : (l ++ (enR (.lst .num) v0).1 ++ (enR (.lst .num) v1).1) = l ++ (enR zB4 (v0,v1)).1:=by rw [yU7]; simp only [List.append_assoc]
 have e2 : (bad || (enR (.lst .num) v0).2 || (enR (.lst .num) v1).2) = (bad || (enR zB4 (v0,v1)).2):=by rw [yU7]; simp only [Bool.or_assoc]
 rw [e1,e2] at hWf
 exact ⟨rfl,hWf.mono (fun _ x=>.inl x),hA2⟩
theorem xZ6 (p:Nat) (l:List UInt8) (bad:Bool) (prot S:Nat->Prop) (cs:List Value) (v:Vl zA7) (w:World) (hl:l.length + szb zA7 v<=137438953472) (hS:∀ b,S b->prot b) (hr:Rep w S zA7 cs v) (h:WR w p l bad prot) :
    Calls Tryz.prog 192 #[.pointer (some ⟨p,0,none⟩),.agg cs.toArray] w fun e w'=>e = .returned (.tuple #[])/\WR w' p (l ++ (enR zA7 v).1) (bad || (enR zA7 v).2) prot/\Kp w w' prot:=by
 obtain ⟨x0,x1,x2,x3,x4,x5,x6,y7_0,y7_1,v7,x8,x9,rfl,rfl,h7⟩:=yC0 hr
 rw [yI0] at hl
 have hl2 : Hid (l.length + (6 + (6 + (6 + (6 + (6 + (6 + (6 + (szb zA9 v7 + (6 + (6))))))))))<=137438953472):=hl
 have hW0 : WR (w.alloc (.cells [.int .i64 x0,.int .i64 x1,.int .i64 x2,.int .i64 x3,.int .i64 x4,.int .i64 x5,.int .i64 x6,y7_0,y7_1,.bool x8,.int .i64 x9].toArray 227)) p l bad (fun b=>prot b\/b = w.heap.size):=h.box _
 have hA0:=Kp.alloc w (.cells [.int .i64 x0,.int .i64 x1,.int .i64 x2,.int .i64 x3,.int .i64 x4,.int .i64 x5,.int .i64 x6,y7_0,y7_1,.bool x8,.int .i64 x9].toArray 227) prot h.2.1
 have hq0 : ∀ o,(w.alloc (.cells [.int .i64 x0,.int .i64 x1,.int .i64 x2,.int .i64 x3,.int .i64 x4,.int .i64 x5,.int .i64 x6,y7_0,y7_1,.bool x8,.int .i64 x9].toArray 227)).cell? ⟨w.heap.size,o,none⟩ = (w.alloc (.cells [.int .i64 x0,.int .i64 x1,.int .i64 x2,.int .i64 x3,.int .i64 x4,.int .i64 x5,.int .i64 x6,y7_0,y7_1,.bool x8,.int .i64 x9].toArray 227)).cell? ⟨w.heap.size,o,none⟩:=fun _=>rfl
 have HP : Hid (∀ b,S b->prot b):=hS
 have HS : Hid (∀ b,S b->(fun b=>prot b\/b = w.heap.size) b):=fun b hb=>.inl (hS b hb)
 clear h hr hS hl hq0
 go_enter Tryz.func192,Tryz.ntmps192
 go_wp2_with fail
 refine (zE9 p l bad (fun b=>prot b\/b = w.heap.size) x0 _ (by have:=hl2.out; omega) hW0).mono ?_
 rintro e w1 ⟨rfl,hW1,hK1⟩
 have hA1:=hA0.trans (hK1.mono (fun _ x=>.inl x))
 have hq1 : ∀ o,w1.cell? ⟨w.heap.size,o,none⟩ = (w.alloc (.cells [.int .i64 x0,.int .i64 x1,.int .i64 x2,.int .i64 x3,.int .i64 x4,.int .i64 x5,.int .i64 x6,y7_0,y7_1,.bool x8,.int .i64 x9].toArray 227)).cell? ⟨w.heap.size,o,none⟩:=fun o=>hK1.cell (a:=⟨w.heap.size,o,none⟩) (.inr rfl)
 clear hW0 hK1 hA0
 go_wp2_with fail
 refine (zE9 p (l ++ (enN x0).1) (bad || (enN x0).2) (fun b=>prot b\/b = w.heap.size) x1 _ (by have:=hl2.out; have:=zA3 x0; simp only [List.length_append]; omega) hW1).mono ?_
 rintro e w2 ⟨rfl,hW2,hK2⟩
 have hA2:=hA1.trans (hK2.mono (fun _ x=>.inl x))
 have hq2 : ∀ o,w2.cell? ⟨w.heap.size,o,none⟩ = (w.alloc (.cells [.int .i64 x0,.int .i64 x1,.int .i64 x2,.int .i64 x3,.int .i64 x4,.int .i64 x5,.int .i64 x6,y7_0,y7_1,.bool x8,.int .i64 x9].toArray 227)).cell? ⟨w.heap.size,o,none⟩:=fun o=>(hK2.cell (a:=⟨w.heap.size,o,none⟩) (.inr rfl)).trans (hq1 o)
 clear hW1 hK2 hA1 hq1
 go_wp2_with fail
 refine (zE9 p (l ++ (enN x0).1 ++ (enN x1).1) (bad || (enN x0).2 || (enN x1).2) (fun b=>prot b\/b = w.heap.size) x2 _ (by have:=hl2.out; have:=zA3 x0; have:=zA3 x1; simp only [List.length_append]; omega) hW2).mono ?_
 rintro e w3 ⟨rfl,hW3,hK3⟩
 have hA3:=hA2.trans (hK3.mono (fun _ x=>.inl x))
 have hq3 : ∀ o,w3.cell? ⟨w.heap.size,o,none⟩ = (w.alloc (.cells [.int .i64 x0,.int .i64 x1,.int .i64 x2,.int .i64 x3,.int .i64 x4,.int .i64 x5,.int .i64 x6,y7_0,y7_1,.bool x8,.int .i64 x9].toArray 227)).cell? ⟨w.heap.size,o,none⟩:=fun o=>(hK3.cell (a:=⟨w.heap.size,o,none⟩) (.inr rfl)).trans (hq2 o)
 clear hW2 hK3 hA2 hq2
 go_wp2_with fail
 refine (zE9 p (l ++ (enN x0).1 ++ (enN x1).1 ++ (enN x2).1) (bad || (enN x0).2 || (enN x1).2 || (enN x2).2) (fun b=>prot b\/b = w.heap.size) x3 _ (by have:=hl2.out; have:=zA3 x0; have:=zA3 x1; have:=zA3 x2; simp only [List.length_append]; omega) hW3).mono ?_
 rintro e w4 ⟨rfl,hW4,hK4⟩
 have hA4:=hA3.trans (hK4.mono (fun _ x=>.inl x))
 have hq4 : ∀ o,w4.cell? ⟨w.heap.size,o,none⟩ = (w.alloc (.cells [.int .i64 x0,.int .i64 x1,.int .i64 x2,.int .i64 x3,.int .i64 x4,.int .i64 x5,.int .i64 x6,y7_0,y7_1,.bool x8,.int .i64 x9].toArray 227)).cell? ⟨w.heap.size,o,none⟩:=fun o=>(hK4.cell (a:=⟨w.heap.size,o,none⟩) (.inr rfl)).trans (hq3 o)
 clear hW3 hK4 hA3 hq3
 go_wp2_with fail
 refine (zE9 p (l ++ (enN x0).1 ++ (enN x1).1 ++ (enN x2).1 ++ (enN x3).1) (bad || (enN x0).2 || (enN x1).2 || (enN x2).2 || (enN x3).2) (fun b=>prot b\/b = w.heap.size) x4 _ (by have:=hl2.out; have:=zA3 x0; have:=zA3 x1; have:=zA3 x2; have:=zA3 x3; simp only [List.length_append]; omega) hW4).mono ?_
 rintro e w5 ⟨rfl,hW5,hK5⟩
 have hA5:=hA4.trans (hK5.mono (fun _ x=>.inl x))
 have hq5 : ∀ o,w5.cell? ⟨w.heap.size,o,none⟩ = (w.alloc (.cells [.int .i64 x0,.int .i64 x1,.int .i64 x2,.int .i64 x3,.int .i64 x4,.int .i64 x5,.int .i64 x6,y7_0,y7_1,.bool x8,.int .i64 x9].toArray 227)).cell? ⟨w.heap.size,o,none⟩:=fun o=>(hK5.cell (a:=⟨w.heap.size,o,none⟩) (.inr rfl)).trans (hq4 o)
 clear hW4 hK5 hA4 hq4
 go_wp2_with fail
 refine (zE9 p (l ++ (enN x0).1 ++ (enN x1).1 ++ (enN x2).1 ++ (enN x3).1 ++ (enN x4).1) (bad || (enN x0).2 || (enN x1).2 || (enN x2).2 || (enN x3).2 || (enN x4).2) (fun b=>prot b\/b = w.heap.size) x5 _ (by have:=hl2.out; have:=zA3 x0; have:=zA3 x1; have:=zA3 x2; have:=zA3 x3; have:=zA3 x4; simp only [List.length_append]; omega) hW5).mono ?_
 rintro e w6 ⟨rfl,hW6,hK6⟩
 have hA6:=hA5.trans (hK6.mono (fun _ x=>.inl x))
 have hq6 : ∀ o,w6.cell? ⟨w.heap.size,o,none⟩ = (w.alloc (.cells [.int .i64 x0,.int .i64 x1,.int .i64 x2,.int .i64 x3,.int .i64 x4,.int .i64 x5,.int .i64 x6,y7_0,y7_1,.bool x8,.int .i64 x9].toArray 227)).cell? ⟨w.heap.size,o,none⟩:=fun o=>(hK6.cell (a:=⟨w.heap.size,o,none⟩) (.inr rfl)).trans (hq5 o)
 clear hW5 hK6 hA5 hq5
 go_wp2_with fail
 refine (zE9 p (l ++ (enN x0).1 ++ (enN x1).1 ++ (enN x2).1 ++ (enN x3).1 ++ (enN x4).1 ++ (enN x5).1) (bad || (enN x0).2 || (enN x1).2 || (enN x2).2 || (enN x3).2 || (enN x4).2 || (enN x5).2) (fun b=>prot b\/b = w.heap.size) x6 _ (by have:=hl2.out; have:=zA3 x0; have:=zA3 x1; have:=zA3 x2; have:=zA3 x3; have:=zA3 x4; have:=zA3 x5; simp only [List.length_append]; omega) hW6).mono ?_
 rintro e w7 ⟨rfl,hW7,hK7⟩
 have hA7:=hA6.trans (hK7.mono (fun _ x=>.inl x))
 have hq7 : ∀ o,w7.cell? ⟨w.heap.size,o,none⟩ = (w.alloc (.cells [.int .i64 x0,.int .i64 x1,.int .i64 x2,.int .i64 x3,.int .i64 x4,.int .i64 x5,.int .i64 x6,y7_0,y7_1,.bool x8,.int .i64 x9].toArray 227)).cell? ⟨w.heap.size,o,none⟩:=fun o=>(hK7.cell (a:=⟨w.heap.size,o,none⟩) (.inr rfl)).trans (hq6 o)
 clear hW6 hK7 hA6 hq6
 go_wp2_with fail
 refine (xU6 p (l ++ (enN x0).1 ++ (enN x1).1 ++ (enN x2).1 ++ (enN x3).1 ++ (enN x4).1 ++ (enN x5).1 ++ (enN x6).1) (bad || (enN x0).2 || (enN x1).2 || (enN x2).2 || (enN x3).2 || (enN x4).2 || (enN x5).2 || (enN x6).2) (fun b=>prot b\/b = w.heap.size) S [y7_0,y7_1] v7 _ (by have:=hl2.out; have:=zA3 x0; have:=zA3 x1; have:=zA3 x2; have:=zA3 x3; have:=zA3 x4; have:=zA3 x5; have:=zA3 x6; simp only [List.length_append]; omega) HS.out (h7.kept hA7.size (fun b hb=>hA7.block b (HP.out b hb)) (fun _ x=>x)) hW7).mono ?_
 rintro e w8 ⟨rfl,hW8,hK8⟩
 have hA8:=hA7.trans (hK8.mono (fun _ x=>.inl x))
 have hq8 : ∀ o,w8.cell? ⟨w.heap.size,o,none⟩ = (w.alloc (.cells [.int .i64 x0,.int .i64 x1,.int .i64 x2,.int .i64 x3,.int .i64 x4,.int .i64 x5,.int .i64 x6,y7_0,y7_1,.bool x8,.int .i64 x9].toArray 227)).cell? ⟨w.heap.size,o,none⟩:=fun o=>(hK8.cell (a:=⟨w.heap.size,o,none⟩) (.inr rfl)).trans (hq7 o)
 clear hW7 hK8 hA7 hq7
 go_wp2_with fail
 refine (yK6 p (l ++ (enN x0).1 ++ (enN x1).1 ++ (enN x2).1 ++ (enN x3).1 ++ (enN x4).1 ++ (enN x5).1 ++ (enN x6).1 ++ (enR zA9 v7).1) (bad || (enN x0).2 || (enN x1).2 || (enN x2).2 || (enN x3).2 || (enN x4).2 || (enN x5).2 || (enN x6).2 || (enR zA9 v7).2) (fun b=>prot b\/b = w.heap.size) x8 _ (by have:=hl2.out; have:=zA3 x0; have:=zA3 x1; have:=zA3 x2; have:=zA3 x3; have:=zA3 x4; have:=zA3 x5; have:=zA3 x6; have:=zC8 zA9 v7; simp only [List.length_append]; omega) hW8).mono ?_
 rintro e w9 ⟨rfl,hW9,hK9⟩
 have hA9:=hA8.trans (hK9.mono (fun _ x=>.inl x))
 have hq9 : ∀ o,w9.cell? ⟨w.heap.size,o,none⟩ = (w.alloc (.cells [.int .i64 x0,.int .i64 x1,.int .i64 x2,.int .i64 x3,.int .i64 x4,.int .i64 x5,.int .i64 x6,y7_0,y7_1,.bool x8,.int .i64 x9].toArray 227)).cell? ⟨w.heap.size,o,none⟩:=fun o=>(hK9.cell (a:=⟨w.heap.size,o,none⟩) (.inr rfl)).trans (hq8 o)
 clear hW8 hK9 hA8 hq8
 go_wp2_with fail
 refine (zE9 p (l ++ (enN x0).1 ++ (enN x1).1 ++ (enN x2).1 ++ (enN x3).1 ++ (enN x4).1 ++ (enN x5).1 ++ (enN x6).1 ++ (enR zA9 v7).1 ++ (enR .tru x8).1) (bad || (enN x0).2 || (enN x1).2 || (enN x2).2 || (enN x3).2 || (enN x4).2 || (enN x5).2 || (enN x6).2 || (enR zA9 v7).2 || (enR .tru x8).2) (fun b=>prot b\/b = w.heap.size) x9 _ (by have:=hl2.out; have:=zA3 x0; have:=zA3 x1; have:=zA3 x2; have:=zA3 x3; have:=zA3 x4; have:=zA3 x5; have:=zA3 x6; have:=zC8 zA9 v7; have:=zC8 .tru x8; have : szb .tru x8 = 6:=rfl; simp only [List.length_append]; omega) hW9).mono ?_
 rintro e w10 ⟨rfl,hW10,hK10⟩
 have hA10:=hA9.trans (hK10.mono (fun _ x=>.inl x))
 have hq10 : ∀ o,w10.cell? ⟨w.heap.size,o,none⟩ = (w.alloc (.cells [.int .i64 x0,.int .i64 x1,.int .i64 x2,.int .i64 x3,.int .i64 x4,.int .i64 x5,.int .i64 x6,y7_0,y7_1,.bool x8,.int .i64 x9].toArray 227)).cell? ⟨w.heap.size,o,none⟩:=fun o=>(hK10.cell (a:=⟨w.heap.size,o,none⟩) (.inr rfl)).trans (hq9 o)
 clear hW9 hK10 hA9 hq9
 have HW : Hid (WR _ _ _ _ _):=hW10
 clear hW10
 go_wp2
 go_end0
 have hWf:=HW.out
 have e1 : (l ++ (enN x0).1 ++ (enN x1).1 ++ (enN x2).1 ++ (enN x3).1 ++ (enN x4).1 ++ (enN x5).1 ++ (enN x6).1 ++ (enR zA9 v7).1 ++ (enR .tru x8).1 ++ (enN x9).1) = l ++ (enR zA7 (x0,x1,x2,x3,x4,x5,x6,v7,x8,x9)).1:=by rw [yL0]; simp only [List.append_assoc]
 have e2 : (bad || (enN x0).2 || (enN x1).2 || (enN x2).2 || (enN x3).2 || (enN x4).2 || (enN x5).2 || (enN x6).2 || (enR zA9 v7).2 || (enR .tru x8).2 || (enN x9).2) = (bad || (enR zA7 (x0,x1,x2,x3,x4,x5,x6,v7,x8,x9)).2):=by rw [yL0]; simp only [Bool.or_assoc]
 rw [e1,e2] at hWf
 exact ⟨rfl,hWf.mono (fun _ x=>.inl x),hA10⟩
theorem yK3 : (Tryz.prog.info? 227).map (·.size) = some (wd zA7):=by kernel_rfl
theorem xO7 (p:Nat) (l:List UInt8) (bad:Bool) (prot S:Nat->Prop) (a:Option Addr) (c:Nat) (vs:List (Vl zA7)) (w:World) (hl:l.length + szb (.lst zA7) vs<=137438953472) (hS:∀ b,S b->prot b) (hr:RepL w S zA7 a vs) (h:WR w p l bad prot) :
    Calls Tryz.prog 165 #[.pointer (some ⟨p,0,none⟩),.slice a vs.length c] w fun e w'=>e = .returned (.tuple #[])/\WR w' p (l ++ (enR (.lst zA7) vs).1) (bad || (enR (.lst zA7) vs).2) prot/\Kp w w' prot:=by
 have hl2 : Hid (l.length + (6 + (vs.map fun v=>szb zA7 v).sum)<=137438953472):=hl
 have hN:=hr.1
 have HSP : Hid (∀ b,S b->prot b):=hS
 have HNL : Hid ((enN (vs.length:Int)).1.length<=6):=zA3 _
 have EB : Hid (∀ q,(bad || (decide (64 < (vs.length:Int)) || (enN (vs.length:Int)).2) || q) = (bad || (decide (64 < (vs.length:Int)) || (enN (vs.length:Int)).2 || q))):=fun q=>Bool.or_assoc _ _ _
 clear hl hS
 go_enter Tryz.func165,Tryz.ntmps165
 go_wp2_with fail
 refine (yG4 p l bad prot (vs.length:Int) w (by have:=hl2.out; omega) h).mono ?_
 rintro e w1 ⟨rfl,hW1,hK1⟩
 go_wp2
 go_loopw [4] (fun i wr=>∃ k : Nat,k<=vs.length/\i = .int .i64 k/\WR wr p (l ++ (enN (vs.length:Int)).1 ++ (vs.take k).flatMap fun v=>(enR zA7 v).1) (bad || (decide (64 < (vs.length:Int)) || (enN (vs.length:Int)).2) || (vs.take k).any fun v=>(enR zA7 v).2) prot/\Kp w wr prot) (fun i _=>vs.length - (intOf i).toNat)
 case atStart=>exact ⟨0,Nat.zero_le _,rfl,by simpa using hW1,hK1⟩
 case round =>
     obtain ⟨k,hk,rfl,hWk,hKk⟩:=hrel
     by_cases hlt : k < vs.length
     · obtain ⟨b,off,rfl,hSb,hes⟩:=hr.2 (by intro e; rw [e] at hlt; simp at hlt)
       obtain ⟨es,hrep0,hrg0⟩:=hes k hlt
       have hrep:=hrep0.kept (S':=S) hKk.size (fun b hb=>hKk.block b (HSP.out b hb)) (fun _ x=>x)
       have hrg : wr.rangeAt b (off + k * wd zA7) es:=zB1 hrg0 (hKk.block b (HSP.out b hSb))
       clear hrep0 hrg0
       have HLK : Hid ((l ++ (enN (vs.length:Int)).1 ++ (vs.take k).flatMap fun v=>(enR zA7 v).1).length + szb zA7 vs[k]<=137438953472):=by
        have h3:=hl2.out
        show _<=_
        have h4:=zS1 (fun v=>(enR zA7 v).1) (fun v=>szb zA7 v) (fun v=>zC8 zA7 v) (vs.take k)
        have h5:=zV6 (fun v=>szb zA7 v) vs k hlt
        have h6:=HNL.out
        simp only [List.length_append]
        omega
       have I0 : Hid ((Tryz.prog.info? 227).map (·.size) = some es.length):=by show _ = _; rw [hrep.len]; exact yK3
       have HRG : Hid (wr.rangeAt b (off + k * wd zA7) es):=hrg
       have HRE : Hid (Rep wr S zA7 es vs[k]):=hrep
       clear hrep hrg hes hr
       go_wp2_with (refine wpList_load_mid rfl 227 (.tmp 18) rfl b (off + k * wd zA7) rfl es _ HRG.out Tryz.underlying227 rfl I0.out ?_)
       refine (xZ6 p _ _ prot S es vs[k] wr HLK.out HSP.out HRE.out hWk).mono ?_
       rintro e w3 ⟨rfl,hW3,hK3⟩
       have E1 : Hid ((vs.take (k + 1)).flatMap (fun v=>(enR zA7 v).1) = (vs.take k).flatMap (fun v=>(enR zA7 v).1) ++ (enR zA7 vs[k]).1):=by
        show _ = _
        rw [<- List.take_append_getElem hlt,List.flatMap_append]; simp
       have E2 : Hid ((vs.take (k + 1)).any (fun v=>(enR zA7 v).2) = ((vs.take k).any (fun v=>(enR zA7 v).2) || (enR zA7 vs[k]).2)):=by
        show _ = _
        rw [<- List.take_append_getElem hlt,List.any_append]; simp
       go_wp2
       refine ⟨⟨k + 1,by omega,by go_num,?_,hKk.trans hK3⟩,by simp [intOf]; omega⟩
       rw [E1.out,E2.out,<- List.append_assoc,<- Bool.or_assoc]
       exact hW3
     · have hkN : k = vs.length:=by omega
       subst hkN
       go_wp2
       go_end0
       rw [List.take_of_length_le (Nat.le_refl _),List.append_assoc,EB.out] at hWk
       exact ⟨rfl,hWk,hKk⟩
theorem kH3 (p:Nat) (l:List UInt8) (bad:Bool) (prot S:Nat->Prop) (cs:List Value) (v:Vl zC4) (w:World) (hl:l.length + szb zC4 v<=137438953472) (hS:∀ b,S b->prot b) (hr:Rep w S zC4 cs v) (h:WR w p l bad prot) :
    Calls Tryz.prog 134 #[.pointer (some ⟨p,0,none⟩),.agg cs.toArray] w fun e w'=>e = .returned (.tuple #[])/\WR w' p (l ++ (enR zC4 v).1) (bad || (enR zC4 v).2) prot/\Kp w w' prot:=by
 obtain ⟨x0,x1,x2,x3,a4,c4,v4,x5,x6,rfl,rfl,h4⟩:=yT1 hr
 rw [xA1] at hl
 have hl2 : Hid (l.length + (6 + (6 + (6 + (6 + (szb (.lst zA6) v4 + (6 + (6)))))))<=137438953472):=hl
 have hW0 : WR (w.alloc (.cells [.int .i64 x0,.int .i64 x1,.int .i64 x2,.int .i64 x3,.slice a4 v4.length c4,.int .i64 x5,.bool x6].toArray 61)) p l bad (fun b=>prot b\/b = w.heap.size):=h.box _
 have hA0:=Kp.alloc w (.cells [.int .i64 x0,.int .i64 x1,.int .i64 x2,.int .i64 x3,.slice a4 v4.length c4,.int .i64 x5,.bool x6].toArray 61) prot h.2.1
 have hq0 : ∀ o,(w.alloc (.cells [.int .i64 x0,.int .i64 x1,.int .i64 x2,.int .i64 x3,.slice a4 v4.length c4,.int .i64 x5,.bool x6].toArray 61)).cell? ⟨w.heap.size,o,none⟩ = (w.alloc (.cells [.int .i64 x0,.int .i64 x1,.int .i64 x2,.int .i64 x3,.slice a4 v4.length c4,.int .i64 x5,.bool x6].toArray 61)).cell? ⟨w.heap.size,o,none⟩:=fun _=>rfl
 have HP : Hid (∀ b,S b->prot b):=hS
 have HS : Hid (∀ b,S b->(fun b=>prot b\/b = w.heap.size) b):=fun b hb=>.inl (hS b hb)
 clear h hr hS hl hq0
 go_enter Tryz.func134,Tryz.ntmps134
 go_wp2_with fail
 refine (zE9 p l bad (fun b=>prot b\/b = w.heap.size) x0 _ (by have:=hl2.out; omega) hW0).mono ?_
 rintro e w1 ⟨rfl,hW1,hK1⟩
 have hA1:=hA0.trans (hK1.mono (fun _ x=>.inl x))
 have hq1 : ∀ o,w1.cell? ⟨w.heap.size,o,none⟩ = (w.alloc (.cells [.int .i64 x0,.int .i64 x1,.int .i64 x2,.int .i64 x3,.slice a4 v4.length c4,.int .i64 x5,.bool x6].toArray 61)).cell? ⟨w.heap.size,o,none⟩:=fun o=>hK1.cell (a:=⟨w.heap.size,o,none⟩) (.inr rfl)
 clear hW0 hK1 hA0
 go_wp2_with fail
 refine (zE9 p (l ++ (enN x0).1) (bad || (enN x0).2) (fun b=>prot b\/b = w.heap.size) x1 _ (by have:=hl2.out; have:=zA3 x0; simp only [List.length_append]; omega) hW1).mono ?_
 rintro e w2 ⟨rfl,hW2,hK2⟩
 have hA2:=hA1.trans (hK2.mono (fun _ x=>.inl x))
 have hq2 : ∀ o,w2.cell? ⟨w.heap.size,o,none⟩ = (w.alloc (.cells [.int .i64 x0,.int .i64 x1,.int .i64 x2,.int .i64 x3,.slice a4 v4.length c4,.int .i64 x5,.bool x6].toArray 61)).cell? ⟨w.heap.size,o,none⟩:=fun o=>(hK2.cell (a:=⟨w.heap.size,o,none⟩) (.inr rfl)).trans (hq1 o)
 clear hW1 hK2 hA1 hq1
 go_wp2_with fail
 refine (zE9 p (l ++ (enN x0).1 ++ (enN x1).1) (bad || (enN x0).2 || (enN x1).2) (fun b=>prot b\/b = w.heap.size) x2 _ (by have:=hl2.out; have:=zA3 x0; have:=zA3 x1; simp only [List.length_append]; omega) hW2).mono ?_
 rintro e w3 ⟨rfl,hW3,hK3⟩
 have hA3:=hA2.trans (hK3.mono (fun _ x=>.inl x))
 have hq3 : ∀ o,w3.cell? ⟨w.heap.size,o,none⟩ = (w.alloc (.cells [.int .i64 x0,.int .i64 x1,.int .i64 x2,.int .i64 x3,.slice a4 v4.length c4,.int .i64 x5,.bool x6].toArray 61)).cell? ⟨w.heap.size,o,none⟩:=fun o=>(hK3.cell (a:=⟨w.heap.size,o,none⟩) (.inr rfl)).trans (hq2 o)
 clear hW2 hK3 hA2 hq2
 go_wp2_with fail
 refine (zE9 p (l ++ (enN x0).1 ++ (enN x1).1 ++ (enN x2).1) (bad || (enN x0).2 || (enN x1).2 || (enN x2).2) (fun b=>prot b\/b = w.heap.size) x3 _ (by have:=hl2.out; have:=zA3 x0; have:=zA3 x1; have:=zA3 x2; simp only [List.length_append]; omega) hW3).mono ?_
 rintro e w4 ⟨rfl,hW4,hK4⟩
 have hA4:=hA3.trans (hK4.mono (fun _ x=>.inl x))
 have hq4 : ∀ o,w4.cell? ⟨w.heap.size,o,none⟩ = (w.alloc (.cells [.int .i64 x0,.int .i64 x1,.int .i64 x2,.int .i64 x3,.slice a4 v4.length c4,.int .i64 x5,.bool x6].toArray 61)).cell? ⟨w.heap.size,o,none⟩:=fun o=>(hK4.cell (a:=⟨w.heap.size,o,none⟩) (.inr rfl)).trans (hq3 o)
 clear hW3 hK4 hA3 hq3
 go_wp2_with fail
 refine (yG4 p (l ++ (enN x0).1 ++ (enN x1).1 ++ (enN x2).1 ++ (enN x3).1) (bad || (enN x0).2 || (enN x1).2 || (enN x2).2 || (enN x3).2) (fun b=>prot b\/b = w.heap.size) (v4.length:Int) _ (by have hh:=hl2.out; have:=zA3 x0; have:=zA3 x1; have:=zA3 x2; have:=zA3 x3; rw [xI4 zA6 v4] at hh; simp only [List.length_append]; omega) hW4).mono ?_
 rintro e w5 ⟨rfl,hW5,hK5⟩
 have hA5:=hA4.trans (hK5.mono (fun _ x=>.inl x))
 have hq5 : ∀ o,w5.cell? ⟨w.heap.size,o,none⟩ = (w.alloc (.cells [.int .i64 x0,.int .i64 x1,.int .i64 x2,.int .i64 x3,.slice a4 v4.length c4,.int .i64 x5,.bool x6].toArray 61)).cell? ⟨w.heap.size,o,none⟩:=fun o=>(hK5.cell (a:=⟨w.heap.size,o,none⟩) (.inr rfl)).trans (hq4 o)
 clear hW4 hK5 hA4 hq4
 have hN4:=h4.1
 go_wp2
 go_loopw [4] (fun i wr=>∃ k : Nat,k<=v4.length/\i = .int .i64 k/\WR wr p ((l ++ (enN x0).1 ++ (enN x1).1 ++ (enN x2).1 ++ (enN x3).1) ++ (enN (v4.length:Int)).1 ++ (v4.take k).flatMap fun v=>(enR zA6 v).1) ((bad || (enN x0).2 || (enN x1).2 || (enN x2).2 || (enN x3).2) || (decide (64 < (v4.length:Int)) || (enN (v4.length:Int)).2) || (v4.take k).any fun v=>(enR zA6 v).2) (fun b=>prot b\/b = w.heap.size)/\Kp w wr prot/\∀ o,wr.cell? ⟨w.heap.size,o,none⟩ = (w.alloc (.cells [.int .i64 x0,.int .i64 x1,.int .i64 x2,.int .i64 x3,.slice a4 v4.length c4,.int .i64 x5,.bool x6].toArray 61)).cell? ⟨w.heap.size,o,none⟩) (fun i _=>v4.length - (intOf i).toNat)
 case atStart=>exact ⟨0,Nat.zero_le _,rfl,by simpa using hW5,hA5,hq5⟩
 case round =>
  clear hW5 hA5 hq5
  obtain ⟨k,hk,rfl,hWk,hKk,hqk⟩:=hrel
  by_cases hlt : k < v4.length
  · obtain ⟨b,off,rfl,hSb,hes⟩:=h4.2 (by intro e; rw [e] at hlt; simp at hlt)
    obtain ⟨es,hrep0,hrg0⟩:=hes k hlt
    have hrep:=hrep0.kept (S':=S) hKk.size (fun b hb=>hKk.block b (HP.out b hb)) (fun _ x=>x)
    have hrg : World.rangeAt _ b (off + k * wd zA6) es:=zB1 hrg0 (hKk.block b (HP.out b hSb))
    have HLK : Hid (((l ++ (enN x0).1 ++ (enN x1).1 ++ (enN x2).1 ++ (enN x3).1) ++ (enN (v4.length:Int)).1 ++ (v4.take k).flatMap fun v=>(enR zA6 v).1).length + szb zA6 v4[k]<=137438953472):=by
     have h3:=hl2.out
     have:=zA3 x0; have:=zA3 x1; have:=zA3 x2; have:=zA3 x3; have h4:=zS1 (fun v=>(enR zA6 v).1) (fun v=>szb zA6 v) (fun v=>zC8 zA6 v) (v4.take k)
     have h5:=zV6 (fun v=>szb zA6 v) v4 k hlt
     have h6:=zA3 (v4.length:Int)
     show _<=_
     rw [xI4 zA6 v4] at h3
     simp only [List.length_append]
     omega
    have HPB : Hid ((fun b=>prot b\/b = w.heap.size) b):=.inl (HP.out b hSb)
    clear hrep0 hrg0 hes
    obtain ⟨z0,zy1_0,zy1_1,zv1,he,hv,zh1⟩:=yB8 hrep
    subst he
    have HV : Hid (v4[k] = (z0,zv1)):=hv
    clear hv hrep
    rw [HV.out,yH8] at HLK
    have hgk:=hrg
    clear hrg
    have hc0 : World.cell? _ ⟨b,off + k * 3,none⟩ = some (.int .i64 z0):=hgk 0 _ rfl
    go_wp2_with fail
    refine (zE9 p ((l ++ (enN x0).1 ++ (enN x1).1 ++ (enN x2).1 ++ (enN x3).1) ++ (enN (v4.length:Int)).1 ++ (v4.take k).flatMap fun v=>(enR zA6 v).1) ((bad || (enN x0).2 || (enN x1).2 || (enN x2).2 || (enN x3).2) || (decide (64 < (v4.length:Int)) || (enN (v4.length:Int)).2) || (v4.take k).any fun v=>(enR zA6 v).2) (fun b=>prot b\/b = w.heap.size) z0 _ (by have:=HLK.out; omega) hWk).mono ?_
    rintro e w1z ⟨rfl,hW1z,hZ1z⟩
    have hq1z : ∀ o,w1z.cell? ⟨w.heap.size,o,none⟩ = (w.alloc (.cells [.int .i64 x0,.int .i64 x1,.int .i64 x2,.int .i64 x3,.slice (some ⟨b,off,none⟩) v4.length c4,.int .i64 x5,.bool x6].toArray 61)).cell? ⟨w.heap.size,o,none⟩:=fun o=>(hZ1z.cell (a:=⟨w.heap.size,o,none⟩) (.inr rfl)).trans (hqk o)
    have hK1z:=hKk.trans (hZ1z.mono (fun _ x=>.inl x))
    have hg1z:=zB1 hgk (hZ1z.block b HPB.out)
    have ZK1z : Kp _ w1z (fun b=>prot b\/b = w.heap.size):=hZ1z
    clear hZ1z hqk hKk hWk hgk hc0
    have hc1 : World.cell? _ ⟨b,off + k * 3 + 1,none⟩ = some (zy1_0):=hg1z 1 _ rfl
    have hc2 : World.cell? _ ⟨b,off + k * 3 + 2,none⟩ = some (zy1_1):=hg1z 2 _ rfl
    go_wp2_with fail
    refine (xU6 p (((l ++ (enN x0).1 ++ (enN x1).1 ++ (enN x2).1 ++ (enN x3).1) ++ (enN (v4.length:Int)).1 ++ (v4.take k).flatMap fun v=>(enR zA6 v).1) ++ (enN z0).1) (((bad || (enN x0).2 || (enN x1).2 || (enN x2).2 || (enN x3).2) || (decide (64 < (v4.length:Int)) || (enN (v4.length:Int)).2) || (v4.take k).any fun v=>(enR zA6 v).2) || (enN z0).2) (fun b=>prot b\/b = w.heap.size) S [zy1_0,zy1_1] zv1 _ (by have:=HLK.out; have:=zA3 z0; simp only [List.length_append] at *; omega) HS.out (zh1.kept (S':=S) ZK1z.size (fun b hb=>ZK1z.block b (HS.out b hb)) (fun _ x=>x)) hW1z).mono ?_
    rintro e w2z ⟨rfl,hW2z,hZ2z⟩
    have hq2z : ∀ o,w2z.cell? ⟨w.heap.size,o,none⟩ = (w.alloc (.cells [.int .i64 x0,.int .i64 x1,.int .i64 x2,.int .i64 x3,.slice (some ⟨b,off,none⟩) v4.length c4,.int .i64 x5,.bool x6].toArray 61)).cell? ⟨w.heap.size,o,none⟩:=fun o=>(hZ2z.cell (a:=⟨w.heap.size,o,none⟩) (.inr rfl)).trans (hq1z o)
    have hK2z:=hK1z.trans (hZ2z.mono (fun _ x=>.inl x))
    have hg2z:=zB1 hg1z (hZ2z.block b HPB.out)
    have ZK2z : Kp _ w2z (fun b=>prot b\/b = w.heap.size):=ZK1z.trans hZ2z
    clear hZ2z hq1z hK1z hW1z hg1z ZK1z hc1 hc2
    have hWx:=hW2z
    have hAx:=hK2z
    have hqx:=hq2z
    clear hW2z hK2z hq2z hg2z ZK2z
    have E1 : Hid ((v4.take (k + 1)).flatMap (fun v=>(enR zA6 v).1) = (v4.take k).flatMap (fun v=>(enR zA6 v).1) ++ (enR zA6 v4[k]).1):=by
     show _ = _
     rw [<- List.take_append_getElem hlt,List.flatMap_append]; simp
    have E2 : Hid ((v4.take (k + 1)).any (fun v=>(enR zA6 v).2) = ((v4.take k).any (fun v=>(enR zA6 v).2) || (enR zA6 v4[k]).2)):=by
     show _ = _
     rw [<- List.take_append_getElem hlt,List.any_append]; simp
    have HWX : Hid (WR _ _ _ _ _):=hWx
    clear hWx
    go_wp2
    refine ⟨⟨k + 1,by omega,by go_num,?_,hAx,hqx⟩,by simp [intOf]; omega⟩
    have hWx:=HWX.out
    rw [E1.out,E2.out,HV.out,xF7]
    simp only [List.append_assoc,Bool.or_assoc] at hWx ⊢
    exact hWx
  · have hkN : k = v4.length:=by omega
    subst hkN
    rw [List.take_of_length_le (Nat.le_refl _),List.append_assoc,Bool.or_assoc] at hWk
    have hW5 : WR wr p (l ++ (enN x0).1 ++ (enN x1).1 ++ (enN x2).1 ++ (enN x3).1 ++ (enR (.lst zA6) v4).1) (bad || (enN x0).2 || (enN x1).2 || (enN x2).2 || (enN x3).2 || (enR (.lst zA6) v4).2) (fun b=>prot b\/b = w.heap.size):=by rw [xR1,xR0]; exact hWk
    have hA5:=hKk
    have hq5:=hqk
    clear hWk hKk hqk hlt hk hN4
    go_wp2_with fail
    refine (zE9 p (l ++ (enN x0).1 ++ (enN x1).1 ++ (enN x2).1 ++ (enN x3).1 ++ (enR (.lst zA6) v4).1) (bad || (enN x0).2 || (enN x1).2 || (enN x2).2 || (enN x3).2 || (enR (.lst zA6) v4).2) (fun b=>prot b\/b = w.heap.size) x5 _ (by have:=hl2.out; have:=zA3 x0; have:=zA3 x1; have:=zA3 x2; have:=zA3 x3; have:=zC8 (.lst zA6) v4; simp only [List.length_append]; omega) hW5).mono ?_
    rintro e w6 ⟨rfl,hW6,hK6⟩
    have hA6:=hA5.trans (hK6.mono (fun _ x=>.inl x))
    have hq6 : ∀ o,w6.cell? ⟨w.heap.size,o,none⟩ = (w.alloc (.cells [.int .i64 x0,.int .i64 x1,.int .i64 x2,.int .i64 x3,.slice a4 v4.length c4,.int .i64 x5,.bool x6].toArray 61)).cell? ⟨w.heap.size,o,none⟩:=fun o=>(hK6.cell (a:=⟨w.heap.size,o,none⟩) (.inr rfl)).trans (hq5 o)
    clear hW5 hK6 hA5 hq5
    go_wp2_with fail
    refine (yK6 p (l ++ (enN x0).1 ++ (enN x1).1 ++ (enN x2).1 ++ (enN x3).1 ++ (enR (.lst zA6) v4).1 ++ (enN x5).1) (bad || (enN x0).2 || (enN x1).2 || (enN x2).2 || (enN x3).2 || (enR (.lst zA6) v4).2 || (enN x5).2) (fun b=>prot b\/b = w.heap.size) x6 _ (by have:=hl2.out; have:=zA3 x0; have:=zA3 x1; have:=zA3 x2; have:=zA3 x3; have:=zC8 (.lst zA6) v4; have:=zA3 x5; simp only [List.length_append]; omega) hW6).mono ?_
    rintro e w7 ⟨rfl,hW7,hK7⟩
    have hA7:=hA6.trans (hK7.mono (fun _ x=>.inl x))
    have hq7 : ∀ o,w7.cell? ⟨w.heap.size,o,none⟩ = (w.alloc (.cells [.int .i64 x0,.int .i64 x1,.int .i64 x2,.int .i64 x3,.slice a4 v4.length c4,.int .i64 x5,.bool x6].toArray 61)).cell? ⟨w.heap.size,o,none⟩:=fun o=>(hK7.cell (a:=⟨w.heap.size,o,none⟩) (.inr rfl)).trans (hq6 o)
    clear hW6 hK7 hA6 hq6
    have HW : Hid (WR _ _ _ _ _):=hW7
    clear hW7
    go_wp2
    go_end0
    have hWf:=HW.out
    have e1 : (l ++ (enN x0).1 ++ (enN x1).1 ++ (enN x2).1 ++ (enN x3).1 ++ (enR (.lst zA6) v4).1 ++ (enN x5).1 ++ (enR .tru x6).1) = l ++ (enR zC4 (x0,x1,x2,x3,v4,x5,x6)).1:=by rw [xF6]; simp only [List.append_assoc]
    have e2 : (bad || (enN x0).2 || (enN x1).2 || (enN x2).2 || (enN x3).2 || (enR (.lst zA6) v4).2 || (enN x5).2 || (enR .tru x6).2) = (bad || (enR zC4 (x0,x1,x2,x3,v4,x5,x6)).2):=by rw [xF6]; simp only [Bool.or_assoc]
    rw [e1,e2] at hWf
    exact ⟨rfl,hWf.mono (fun _ x=>.inl x),hA7⟩
end
end Go.Proofs.YtocoimjhglackaaGreat
