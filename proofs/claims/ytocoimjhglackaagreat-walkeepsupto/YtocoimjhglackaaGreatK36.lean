/- Vob -/
import Derived.Test.YtocoimjhglackaaGreatK35
set_option maxHeartbeats 8000000
set_option maxRecDepth 100000
namespace Go.Proofs.YtocoimjhglackaaGreat
section
open Go.RowKit
theorem kC5 (p:Nat) (l:List UInt8) (bad:Bool) (prot S:Nat->Prop) (cs:List Value) (v:Vl zB3) (w:World) (hl:l.length + szb zB3 v<=137438953472) (hS:∀ b,S b->prot b) (hr:Rep w S zB3 cs v) (h:WR w p l bad prot) :
    Calls Tryz.prog 135 #[.pointer (some ⟨p,0,none⟩),.agg cs.toArray] w fun e w'=>e = .returned (.tuple #[])/\WR w' p (l ++ (enR zB3 v).1) (bad || (enR zB3 v).2) prot/\Kp w w' prot:=by
 obtain ⟨x0,y1_0,y1_1,v1,x2,x3,x4,x5,x6,rfl,rfl,h1⟩:=yJ0 hr
 rw [yS0] at hl
 have hl2 : Hid (l.length + (6 + (szb zA9 v1 + (6 + (6 + (6 + (6 + (6)))))))<=137438953472):=hl
 have hW0 : WR (w.alloc (.cells [.int .i64 x0,y1_0,y1_1,.bool x2,.bool x3,.int .i64 x4,.int .i64 x5,.int .i64 x6].toArray 65)) p l bad (fun b=>prot b\/b = w.heap.size):=h.box _
 have hA0:=Kp.alloc w (.cells [.int .i64 x0,y1_0,y1_1,.bool x2,.bool x3,.int .i64 x4,.int .i64 x5,.int .i64 x6].toArray 65) prot h.2.1
 have hq0 : ∀ o,(w.alloc (.cells [.int .i64 x0,y1_0,y1_1,.bool x2,.bool x3,.int .i64 x4,.int .i64 x5,.int .i64 x6].toArray 65)).cell? ⟨w.heap.size,o,none⟩ = (w.alloc (.cells [.int .i64 x0,y1_0,y1_1,.bool x2,.bool x3,.int .i64 x4,.int .i64 x5,.int .i64 x6].toArray 65)).cell? ⟨w.heap.size,o,none⟩:=fun _=>rfl
 have HP : Hid (∀ b,S b->prot b):=hS
 have HS : Hid (∀ b,S b->(fun b=>prot b\/b = w.heap.size) b):=fun b hb=>.inl (hS b hb)
 clear h hr hS hl hq0
 go_enter Tryz.func135,Tryz.ntmps135
 go_wp2_with fail
 refine (zE9 p l bad (fun b=>prot b\/b = w.heap.size) x0 _ (by have:=hl2.out; omega) hW0).mono ?_
 rintro e w1 ⟨rfl,hW1,hK1⟩
 have hA1:=hA0.trans (hK1.mono (fun _ x=>.inl x))
 have hq1 : ∀ o,w1.cell? ⟨w.heap.size,o,none⟩ = (w.alloc (.cells [.int .i64 x0,y1_0,y1_1,.bool x2,.bool x3,.int .i64 x4,.int .i64 x5,.int .i64 x6].toArray 65)).cell? ⟨w.heap.size,o,none⟩:=fun o=>hK1.cell (a:=⟨w.heap.size,o,none⟩) (.inr rfl)
 clear hW0 hK1 hA0
 go_wp2_with fail
 refine (xU6 p (l ++ (enN x0).1) (bad || (enN x0).2) (fun b=>prot b\/b = w.heap.size) S [y1_0,y1_1] v1 _ (by have:=hl2.out; have:=zA3 x0; simp only [List.length_append]; omega) HS.out (h1.kept hA1.size (fun b hb=>hA1.block b (HP.out b hb)) (fun _ x=>x)) hW1).mono ?_
 rintro e w2 ⟨rfl,hW2,hK2⟩
 have hA2:=hA1.trans (hK2.mono (fun _ x=>.inl x))
 have hq2 : ∀ o,w2.cell? ⟨w.heap.size,o,none⟩ = (w.alloc (.cells [.int .i64 x0,y1_0,y1_1,.bool x2,.bool x3,.int .i64 x4,.int .i64 x5,.int .i64 x6].toArray 65)).cell? ⟨w.heap.size,o,none⟩:=fun o=>(hK2.cell (a:=⟨w.heap.size,o,none⟩) (.inr rfl)).trans (hq1 o)
 clear hW1 hK2 hA1 hq1
 go_wp2_with fail
 refine (yK6 p (l ++ (enN x0).1 ++ (enR zA9 v1).1) (bad || (enN x0).2 || (enR zA9 v1).2) (fun b=>prot b\/b = w.heap.size) x2 _ (by have:=hl2.out; have:=zA3 x0; have:=zC8 zA9 v1; simp only [List.length_append]; omega) hW2).mono ?_
 rintro e w3 ⟨rfl,hW3,hK3⟩
 have hA3:=hA2.trans (hK3.mono (fun _ x=>.inl x))
 have hq3 : ∀ o,w3.cell? ⟨w.heap.size,o,none⟩ = (w.alloc (.cells [.int .i64 x0,y1_0,y1_1,.bool x2,.bool x3,.int .i64 x4,.int .i64 x5,.int .i64 x6].toArray 65)).cell? ⟨w.heap.size,o,none⟩:=fun o=>(hK3.cell (a:=⟨w.heap.size,o,none⟩) (.inr rfl)).trans (hq2 o)
 clear hW2 hK3 hA2 hq2
 go_wp2_with fail
 refine (yK6 p (l ++ (enN x0).1 ++ (enR zA9 v1).1 ++ (enR .tru x2).1) (bad || (enN x0).2 || (enR zA9 v1).2 || (enR .tru x2).2) (fun b=>prot b\/b = w.heap.size) x3 _ (by have:=hl2.out; have:=zA3 x0; have:=zC8 zA9 v1; have:=zC8 .tru x2; have : szb .tru x2 = 6:=rfl; simp only [List.length_append]; omega) hW3).mono ?_
 rintro e w4 ⟨rfl,hW4,hK4⟩
 have hA4:=hA3.trans (hK4.mono (fun _ x=>.inl x))
 have hq4 : ∀ o,w4.cell? ⟨w.heap.size,o,none⟩ = (w.alloc (.cells [.int .i64 x0,y1_0,y1_1,.bool x2,.bool x3,.int .i64 x4,.int .i64 x5,.int .i64 x6].toArray 65)).cell? ⟨w.heap.size,o,none⟩:=fun o=>(hK4.cell (a:=⟨w.heap.size,o,none⟩) (.inr rfl)).trans (hq3 o)
 clear hW3 hK4 hA3 hq3
 go_wp2_with fail
 refine (zE9 p (l ++ (enN x0).1 ++ (enR zA9 v1).1 ++ (enR .tru x2).1 ++ (enR .tru x3).1) (bad || (enN x0).2 || (enR zA9 v1).2 || (enR .tru x2).2 || (enR .tru x3).2) (fun b=>prot b\/b = w.heap.size) x4 _ (by have:=hl2.out; have:=zA3 x0; have:=zC8 zA9 v1; have:=zC8 .tru x2; have : szb .tru x2 = 6:=rfl; have:=zC8 .tru x3; have : szb .tru x3 = 6:=rfl; simp only [List.length_append]; omega) hW4).mono ?_
 rintro e w5 ⟨rfl,hW5,hK5⟩
 have hA5:=hA4.trans (hK5.mono (fun _ x=>.inl x))
 have hq5 : ∀ o,w5.cell? ⟨w.heap.size,o,none⟩ = (w.alloc (.cells [.int .i64 x0,y1_0,y1_1,.bool x2,.bool x3,.int .i64 x4,.int .i64 x5,.int .i64 x6].toArray 65)).cell? ⟨w.heap.size,o,none⟩:=fun o=>(hK5.cell (a:=⟨w.heap.size,o,none⟩) (.inr rfl)).trans (hq4 o)
 clear hW4 hK5 hA4 hq4
 go_wp2_with fail
 refine (zE9 p (l ++ (enN x0).1 ++ (enR zA9 v1).1 ++ (enR .tru x2).1 ++ (enR .tru x3).1 ++ (enN x4).1) (bad || (enN x0).2 || (enR zA9 v1).2 || (enR .tru x2).2 || (enR .tru x3).2 || (enN x4).2) (fun b=>prot b\/b = w.heap.size) x5 _ (by have:=hl2.out; have:=zA3 x0; have:=zC8 zA9 v1; have:=zC8 .tru x2; have : szb .tru x2 = 6:=rfl; have:=zC8 .tru x3; have : szb .tru x3 = 6:=rfl; have:=zA3 x4; simp only [List.length_append]; omega) hW5).mono ?_
 rintro e w6 ⟨rfl,hW6,hK6⟩
 have hA6:=hA5.trans (hK6.mono (fun _ x=>.inl x))
 have hq6 : ∀ o,w6.cell? ⟨w.heap.size,o,none⟩ = (w.alloc (.cells [.int .i64 x0,y1_0,y1_1,.bool x2,.bool x3,.int .i64 x4,.int .i64 x5,.int .i64 x6].toArray 65)).cell? ⟨w.heap.size,o,none⟩:=fun o=>(hK6.cell (a:=⟨w.heap.size,o,none⟩) (.inr rfl)).trans (hq5 o)
 clear hW5 hK6 hA5 hq5
 go_wp2_with fail
 refine (zE9 p (l ++ (enN x0).1 ++ (enR zA9 v1).1 ++ (enR .tru x2).1 ++ (enR .tru x3).1 ++ (enN x4).1 ++ (enN x5).1) (bad || (enN x0).2 || (enR zA9 v1).2 || (enR .tru x2).2 || (enR .tru x3).2 || (enN x4).2 || (enN x5).2) (fun b=>prot b\/b = w.heap.size) x6 _ (by have:=hl2.out; have:=zA3 x0; have:=zC8 zA9 v1; have:=zC8 .tru x2; have : szb .tru x2 = 6:=rfl; have:=zC8 .tru x3; have : szb .tru x3 = 6:=rfl; have:=zA3 x4; have:=zA3 x5; simp only [List.length_append]; omega) hW6).mono ?_
 rintro e w7 ⟨rfl,hW7,hK7⟩
 have hA7:=hA6.trans (hK7.mono (fun _ x=>.inl x))
 have hq7 : ∀ o,w7.cell? ⟨w.heap.size,o,none⟩ = (w.alloc (.cells [.int .i64 x0,y1_0,y1_1,.bool x2,.bool x3,.int .i64 x4,.int .i64 x5,.int .i64 x6].toArray 65)).cell? ⟨w.heap.size,o,none⟩:=fun o=>(hK7.cell (a:=⟨w.heap.size,o,none⟩) (.inr rfl)).trans (hq6 o)
 clear hW6 hK7 hA6 hq6
 have HW : Hid (WR _ _ _ _ _):=hW7
 clear hW7
 go_wp2
 go_end0
 have hWf:=HW.out
 have e1 : (l ++ (enN x0).1 ++ (enR zA9 v1).1 ++ (enR .tru x2).1 ++ (enR .tru x3).1 ++ (enN x4).1 ++ (enN x5).1 ++ (enN x6).1) = l ++ (enR zB3 (x0,v1,x2,x3,x4,x5,x6)).1:=by rw [yU6]; simp only [List.append_assoc]
 have e2 : (bad || (enN x0).2 || (enR zA9 v1).2 || (enR .tru x2).2 || (enR .tru x3).2 || (enN x4).2 || (enN x5).2 || (enN x6).2) = (bad || (enR zB3 (x0,v1,x2,x3,x4,x5,x6)).2):=by rw [yU6]; simp only [Bool.or_assoc]
 rw [e1,e2] at hWf
 exact ⟨rfl,hWf.mono (fun _ x=>.inl x),hA7⟩
theorem kC2 (p:Nat) (l:List UInt8) (bad:Bool) (prot S:Nat->Prop) (cs:List Value) (v:Vl zC5) (w:World) (hl:l.length + szb zC5 v<=137438953472) (hS:∀ b,S b->prot b) (hr:Rep w S zC5 cs v) (h:WR w p l bad prot) :
    Calls Tryz.prog 137 #[.pointer (some ⟨p,0,none⟩),.agg cs.toArray] w fun e w'=>e = .returned (.tuple #[])/\WR w' p (l ++ (enR zC5 v).1) (bad || (enR zC5 v).2) prot/\Kp w w' prot:=by
 obtain ⟨x0,x1,x2,a3,c3,v3,a4,c4,v4,x5,rfl,rfl,h3,h4⟩:=yI9 hr
 rw [yR9] at hl
 have hl2 : Hid (l.length + (6 + (6 + (6 + (szb (.lst .num) v3 + (szb (.lst zA7) v4 + (6))))))<=137438953472):=hl
 have hW0 : WR (w.alloc (.cells [.int .i64 x0,.int .i64 x1,.int .i64 x2,.slice a3 v3.length c3,.slice a4 v4.length c4,.bool x5].toArray 69)) p l bad (fun b=>prot b\/b = w.heap.size):=h.box _
 have hA0:=Kp.alloc w (.cells [.int .i64 x0,.int .i64 x1,.int .i64 x2,.slice a3 v3.length c3,.slice a4 v4.length c4,.bool x5].toArray 69) prot h.2.1
 have hq0 : ∀ o,(w.alloc (.cells [.int .i64 x0,.int .i64 x1,.int .i64 x2,.slice a3 v3.length c3,.slice a4 v4.length c4,.bool x5].toArray 69)).cell? ⟨w.heap.size,o,none⟩ = (w.alloc (.cells [.int .i64 x0,.int .i64 x1,.int .i64 x2,.slice a3 v3.length c3,.slice a4 v4.length c4,.bool x5].toArray 69)).cell? ⟨w.heap.size,o,none⟩:=fun _=>rfl
 have HP : Hid (∀ b,S b->prot b):=hS
 have HS : Hid (∀ b,S b->(fun b=>prot b\/b = w.heap.size) b):=fun b hb=>.inl (hS b hb)
 clear h hr hS hl hq0
 go_enter Tryz.func137,Tryz.ntmps137
 go_wp2_with fail
 refine (zE9 p l bad (fun b=>prot b\/b = w.heap.size) x0 _ (by have:=hl2.out; omega) hW0).mono ?_
 rintro e w1 ⟨rfl,hW1,hK1⟩
 have hA1:=hA0.trans (hK1.mono (fun _ x=>.inl x))
 have hq1 : ∀ o,w1.cell? ⟨w.heap.size,o,none⟩ = (w.alloc (.cells [.int .i64 x0,.int .i64 x1,.int .i64 x2,.slice a3 v3.length c3,.slice a4 v4.length c4,.bool x5].toArray 69)).cell? ⟨w.heap.size,o,none⟩:=fun o=>hK1.cell (a:=⟨w.heap.size,o,none⟩) (.inr rfl)
 clear hW0 hK1 hA0
 go_wp2_with fail
 refine (zE9 p (l ++ (enN x0).1) (bad || (enN x0).2) (fun b=>prot b\/b = w.heap.size) x1 _ (by have:=hl2.out; have:=zA3 x0; simp only [List.length_append]; omega) hW1).mono ?_
 rintro e w2 ⟨rfl,hW2,hK2⟩
 have hA2:=hA1.trans (hK2.mono (fun _ x=>.inl x))
 have hq2 : ∀ o,w2.cell? ⟨w.heap.size,o,none⟩ = (w.alloc (.cells [.int .i64 x0,.int .i64 x1,.int .i64 x2,.slice a3 v3.length c3,.slice a4 v4.length c4,.bool x5].toArray 69)).cell? ⟨w.heap.size,o,none⟩:=fun o=>(hK2.cell (a:=⟨w.heap.size,o,none⟩) (.inr rfl)).trans (hq1 o)
 clear hW1 hK2 hA1 hq1
 go_wp2_with fail
 refine (zE9 p (l ++ (enN x0).1 ++ (enN x1).1) (bad || (enN x0).2 || (enN x1).2) (fun b=>prot b\/b = w.heap.size) x2 _ (by have:=hl2.out; have:=zA3 x0; have:=zA3 x1; simp only [List.length_append]; omega) hW2).mono ?_
 rintro e w3 ⟨rfl,hW3,hK3⟩
 have hA3:=hA2.trans (hK3.mono (fun _ x=>.inl x))
 have hq3 : ∀ o,w3.cell? ⟨w.heap.size,o,none⟩ = (w.alloc (.cells [.int .i64 x0,.int .i64 x1,.int .i64 x2,.slice a3 v3.length c3,.slice a4 v4.length c4,.bool x5].toArray 69)).cell? ⟨w.heap.size,o,none⟩:=fun o=>(hK3.cell (a:=⟨w.heap.size,o,none⟩) (.inr rfl)).trans (hq2 o)
 clear hW2 hK3 hA2 hq2
 go_wp2_with fail
 refine (xH8 p (l ++ (enN x0).1 ++ (enN x1).1 ++ (enN x2).1) (bad || (enN x0).2 || (enN x1).2 || (enN x2).2) (fun b=>prot b\/b = w.heap.size) S a3 c3 v3 _ (by have:=hl2.out; have:=zA3 x0; have:=zA3 x1; have:=zA3 x2; simp only [List.length_append]; omega) HS.out (h3.kept hA3.size (fun b hb=>hA3.block b (HP.out b hb)) (fun _ x=>x)) hW3).mono ?_
 rintro e w4 ⟨rfl,hW4,hK4⟩
 have hA4:=hA3.trans (hK4.mono (fun _ x=>.inl x))
 have hq4 : ∀ o,w4.cell? ⟨w.heap.size,o,none⟩ = (w.alloc (.cells [.int .i64 x0,.int .i64 x1,.int .i64 x2,.slice a3 v3.length c3,.slice a4 v4.length c4,.bool x5].toArray 69)).cell? ⟨w.heap.size,o,none⟩:=fun o=>(hK4.cell (a:=⟨w.heap.size,o,none⟩) (.inr rfl)).trans (hq3 o)
 clear hW3 hK4 hA3 hq3
 go_wp2_with fail
 refine (xO7 p (l ++ (enN x0).1 ++ (enN x1).1 ++ (enN x2).1 ++ (enR (.lst .num) v3).1) (bad || (enN x0).2 || (enN x1).2 || (enN x2).2 || (enR (.lst .num) v3).2) (fun b=>prot b\/b = w.heap.size) S a4 c4 v4 _ (by have:=hl2.out; have:=zA3 x0; have:=zA3 x1; have:=zA3 x2; have:=zC8 (.lst .num) v3; simp only [List.length_append]; omega) HS.out (h4.kept hA4.size (fun b hb=>hA4.block b (HP.out b hb)) (fun _ x=>x)) hW4).mono ?_
 rintro e w5 ⟨rfl,hW5,hK5⟩
 have hA5:=hA4.trans (hK5.mono (fun _ x=>.inl x))
 have hq5 : ∀ o,w5.cell? ⟨w.heap.size,o,none⟩ = (w.alloc (.cells [.int .i64 x0,.int .i64 x1,.int .i64 x2,.slice a3 v3.length c3,.slice a4 v4.length c4,.bool x5].toArray 69)).cell? ⟨w.heap.size,o,none⟩:=fun o=>(hK5.cell (a:=⟨w.heap.size,o,none⟩) (.inr rfl)).trans (hq4 o)
 clear hW4 hK5 hA4 hq4
 go_wp2_with fail
 refine (yK6 p (l ++ (enN x0).1 ++ (enN x1).1 ++ (enN x2).1 ++ (enR (.lst .num) v3).1 ++ (enR (.lst zA7) v4).1) (bad || (enN x0).2 || (enN x1).2 || (enN x2).2 || (enR (.lst .num) v3).2 || (enR (.lst zA7) v4).2) (fun b=>prot b\/b = w.heap.size) x5 _ (by have:=hl2.out; have:=zA3 x0; have:=zA3 x1; have:=zA3 x2; have:=zC8 (.lst .num) v3; have:=zC8 (.lst zA7) v4; simp only [List.length_append]; omega) hW5).mono ?_
 rintro e w6 ⟨rfl,hW6,hK6⟩
 have hA6:=hA5.trans (hK6.mono (fun _ x=>.inl x))
 have hq6 : ∀ o,w6.cell? ⟨w.heap.size,o,none⟩ = (w.alloc (.cells [.int .i64 x0,.int .i64 x1,.int .i64 x2,.slice a3 v3.length c3,.slice a4 v4.length c4,.bool x5].toArray 69)).cell? ⟨w.heap.size,o,none⟩:=fun o=>(hK6.cell (a:=⟨w.heap.size,o,none⟩) (.inr rfl)).trans (hq5 o)
 clear hW5 hK6 hA5 hq5
 have HW : Hid (WR _ _ _ _ _):=hW6
 clear hW6
 go_wp2
 go_end0
 have hWf:=HW.out
 have e1 : (l ++ (enN x0).1 ++ (enN x1).1 ++ (enN x2).1 ++ (enR (.lst .num) v3).1 ++ (enR (.lst zA7) v4).1 ++ (enR .tru x5).1) = l ++ (enR zC5 (x0,x1,x2,v3,v4,x5)).1:=by rw [yU5]; simp only [List.append_assoc]
 have e2 : (bad || (enN x0).2 || (enN x1).2 || (enN x2).2 || (enR (.lst .num) v3).2 || (enR (.lst zA7) v4).2 || (enR .tru x5).2) = (bad || (enR zC5 (x0,x1,x2,v3,v4,x5)).2):=by rw [yU5]; simp only [Bool.or_assoc]
 rw [e1,e2] at hWf
 exact ⟨rfl,hWf.mono (fun _ x=>.inl x),hA6⟩
theorem kI5 (p:Nat) (l:List UInt8) (bad:Bool) (prot S:Nat->Prop) (cs:List Value) (v:Vl zD4) (w:World) (hl:l.length + szb zD4 v<=137438953472) (hS:∀ b,S b->prot b) (hr:Rep w S zD4 cs v) (h:WR w p l bad prot) :
    Calls Tryz.prog 108 #[.pointer (some ⟨p,0,none⟩),.agg cs.toArray] w fun e w'=>e = .returned (.tuple #[])/\WR w' p (l ++ (enR zD4 v).1) (bad || (enR zD4 v).2) prot/\Kp w w' prot:=by
 obtain ⟨x0,x1,x2,y3_0,y3_1,y3_2,y3_3,y3_4,y3_5,y3_6,v3,y4_0,y4_1,y4_2,y4_3,y4_4,y4_5,y4_6,y4_7,v4,a5,c5,v5,y6_0,y6_1,y6_2,y6_3,y6_4,y6_5,v6,y7_0,y7_1,v7,rfl,rfl,h3,h4,h5,h6,h7⟩:=yT2 hr
 rw [xA2] at hl
 have hl2 : Hid (l.length + (6 + (6 + (6 + (szb zC4 v3 + (szb zB3 v4 + (szb (.lst zA4) v5 + (szb zC5 v6 + (szb zB4 v7))))))))<=137438953472):=hl
 have hW0 : WR (w.alloc (.cells [.int .i64 x0,.int .i64 x1,.int .i64 x2,y3_0,y3_1,y3_2,y3_3,y3_4,y3_5,y3_6,y4_0,y4_1,y4_2,y4_3,y4_4,y4_5,y4_6,y4_7,.slice a5 v5.length c5,y6_0,y6_1,y6_2,y6_3,y6_4,y6_5,y7_0,y7_1].toArray 71)) p l bad (fun b=>prot b\/b = w.heap.size):=h.box _
 have hA0:=Kp.alloc w (.cells [.int .i64 x0,.int .i64 x1,.int .i64 x2,y3_0,y3_1,y3_2,y3_3,y3_4,y3_5,y3_6,y4_0,y4_1,y4_2,y4_3,y4_4,y4_5,y4_6,y4_7,.slice a5 v5.length c5,y6_0,y6_1,y6_2,y6_3,y6_4,y6_5,y7_0,y7_1].toArray 71) prot h.2.1
 have hq0 : ∀ o,(w.alloc (.cells [.int .i64 x0,.int .i64 x1,.int .i64 x2,y3_0,y3_1,y3_2,y3_3,y3_4,y3_5,y3_6,y4_0,y4_1,y4_2,y4_3,y4_4,y4_5,y4_6,y4_7,.slice a5 v5.length c5,y6_0,y6_1,y6_2,y6_3,y6_4,y6_5,y7_0,y7_1].toArray 71)).cell? ⟨w.heap.size,o,none⟩ = (w.alloc (.cells [.int .i64 x0,.int .i64 x1,.int .i64 x2,y3_0,y3_1,y3_2,y3_3,y3_4,y3_5,y3_6,y4_0,y4_1,y4_2,y4_3,y4_4,y4_5,y4_6,y4_7,.slice a5 v5.length c5,y6_0,y6_1,y6_2,y6_3,y6_4,y6_5,y7_0,y7_1].toArray 71)).cell? ⟨w.heap.size,o,none⟩:=fun _=>rfl
 have HP : Hid (∀ b,S b->prot b):=hS
 have HS : Hid (∀ b,S b->(fun b=>prot b\/b = w.heap.size) b):=fun b hb=>.inl (hS b hb)
 clear h hr hS hl hq0
 go_enter Tryz.func108,Tryz.ntmps108
 go_wp2_with fail
 refine (zE9 p l bad (fun b=>prot b\/b = w.heap.size) x0 _ (by have:=hl2.out; omega) hW0).mono ?_
 rintro e w1 ⟨rfl,hW1,hK1⟩
 have hA1:=hA0.trans (hK1.mono (fun _ x=>.inl x))
 have hq1 : ∀ o,w1.cell? ⟨w.heap.size,o,none⟩ = (w.alloc (.cells [.int .i64 x0,.int .i64 x1,.int .i64 x2,y3_0,y3_1,y3_2,y3_3,y3_4,y3_5,y3_6,y4_0,y4_1,y4_2,y4_3,y4_4,y4_5,y4_6,y4_7,.slice a5 v5.length c5,y6_0,y6_1,y6_2,y6_3,y6_4,y6_5,y7_0,y7_1].toArray 71)).cell? ⟨w.heap.size,o,none⟩:=fun o=>hK1.cell (a:=⟨w.heap.size,o,none⟩) (.inr rfl)
 clear hW0 hK1 hA0
 go_wp2_with fail
 refine (zE9 p (l ++ (enN x0).1) (bad || (enN x0).2) (fun b=>prot b\/b = w.heap.size) x1 _ (by have:=hl2.out; have:=zA3 x0; simp only [List.length_append]; omega) hW1).mono ?_
 rintro e w2 ⟨rfl,hW2,hK2⟩
 have hA2:=hA1.trans (hK2.mono (fun _ x=>.inl x))
 have hq2 : ∀ o,w2.cell? ⟨w.heap.size,o,none⟩ = (w.alloc (.cells [.int .i64 x0,.int .i64 x1,.int .i64 x2,y3_0,y3_1,y3_2,y3_3,y3_4,y3_5,y3_6,y4_0,y4_1,y4_2,y4_3,y4_4,y4_5,y4_6,y4_7,.slice a5 v5.length c5,y6_0,y6_1,y6_2,y6_3,y6_4,y6_5,y7_0,y7_1].toArray 71)).cell? ⟨w.heap.size,o,none⟩:=fun o=>(hK2.cell (a:=⟨w.heap.size,o,none⟩) (.inr rfl)).trans (hq1 o)
 clear hW1 hK2 hA1 hq1
 go_wp2_with fail
 refine (zE9 p (l ++ (enN x0).1 ++ (enN x1).1) (bad || (enN x0).2 || (enN x1).2) (fun b=>prot b\/b = w.heap.size) x2 _ (by have:=hl2.out; have:=zA3 x0; have:=zA3 x1; simp only [List.length_append]; omega) hW2).mono ?_
 rintro e w3 ⟨rfl,hW3,hK3⟩
 have hA3:=hA2.trans (hK3.mono (fun _ x=>.inl x))
 have hq3 : ∀ o,w3.cell? ⟨w.heap.size,o,none⟩ = (w.alloc (.cells [.int .i64 x0,.int .i64 x1,.int .i64 x2,y3_0,y3_1,y3_2,y3_3,y3_4,y3_5,y3_6,y4_0,y4_1,y4_2,y4_3,y4_4,y4_5,y4_6,y4_7,.slice a5 v5.length c5,y6_0,y6_1,y6_2,y6_3,y6_4,y6_5,y7_0,y7_1].toArray 71)).cell? ⟨w.heap.size,o,none⟩:=fun o=>(hK3.cell (a:=⟨w.heap.size,o,none⟩) (.inr rfl)).trans (hq2 o)
 clear hW2 hK3 hA2 hq2
 go_wp2_with fail
 refine (kH3 p (l ++ (enN x0).1 ++ (enN x1).1 ++ (enN x2).1) (bad || (enN x0).2 || (enN x1).2 || (enN x2).2) (fun b=>prot b\/b = w.heap.size) S [y3_0,y3_1,y3_2,y3_3,y3_4,y3_5,y3_6] v3 _ (by have:=hl2.out; have:=zA3 x0; have:=zA3 x1; have:=zA3 x2; simp only [List.length_append]; omega) HS.out (h3.kept hA3.size (fun b hb=>hA3.block b (HP.out b hb)) (fun _ x=>x)) hW3).mono ?_
 rintro e w4 ⟨rfl,hW4,hK4⟩
 have hA4:=hA3.trans (hK4.mono (fun _ x=>.inl x))
 have hq4 : ∀ o,w4.cell? ⟨w.heap.size,o,none⟩ = (w.alloc (.cells [.int .i64 x0,.int .i64 x1,.int .i64 x2,y3_0,y3_1,y3_2,y3_3,y3_4,y3_5,y3_6,y4_0,y4_1,y4_2,y4_3,y4_4,y4_5,y4_6,y4_7,.slice a5 v5.length c5,y6_0,y6_1,y6_2,y6_3,y6_4,y6_5,y7_0,y7_1].toArray 71)).cell? ⟨w.heap.size,o,none⟩:=fun o=>(hK4.cell (a:=⟨w.heap.size,o,none⟩) (.inr rfl)).trans (hq3 o)
 clear hW3 hK4 hA3 hq3
 go_wp2_with fail
 refine (kC5 p (l ++ (enN x0).1 ++ (enN x1).1 ++ (enN x2).1 ++ (enR zC4 v3).1) (bad || (enN x0).2 || (enN x1).2 || (enN x2).2 || (enR zC4 v3).2) (fun b=>prot b\/b = w.heap.size) S [y4_0,y4_1,y4_2,y4_3,y4_4,y4_5,y4_6,y4_7] v4 _ (by have:=hl2.out; have:=zA3 x0; have:=zA3 x1; have:=zA3 x2; have:=zC8 zC4 v3; simp only [List.length_append]; omega) HS.out (h4.kept hA4.size (fun b hb=>hA4.block b (HP.out b hb)) (fun _ x=>x)) hW4).mono ?_
 rintro e w5 ⟨rfl,hW5,hK5⟩
 have hA5:=hA4.trans (hK5.mono (fun _ x=>.inl x))
 have hq5 : ∀ o,w5.cell? ⟨w.heap.size,o,none⟩ = (w.alloc (.cells [.int .i64 x0,.int .i64 x1,.int .i64 x2,y3_0,y3_1,y3_2,y3_3,y3_4,y3_5,y3_6,y4_0,y4_1,y4_2,y4_3,y4_4,y4_5,y4_6,y4_7,.slice a5 v5.length c5,y6_0,y6_1,y6_2,y6_3,y6_4,y6_5,y7_0,y7_1].toArray 71)).cell? ⟨w.heap.size,o,none⟩:=fun o=>(hK5.cell (a:=⟨w.heap.size,o,none⟩) (.inr rfl)).trans (hq4 o)
 clear hW4 hK5 hA4 hq4
 go_wp2_with fail
 refine (yG4 p (l ++ (enN x0).1 ++ (enN x1).1 ++ (enN x2).1 ++ (enR zC4 v3).1 ++ (enR zB3 v4).1) (bad || (enN x0).2 || (enN x1).2 || (enN x2).2 || (enR zC4 v3).2 || (enR zB3 v4).2) (fun b=>prot b\/b = w.heap.size) (v5.length:Int) _ (by have hh:=hl2.out; have:=zA3 x0; have:=zA3 x1; have:=zA3 x2; have:=zC8 zC4 v3; have:=zC8 zB3 v4; rw [xI4 zA4 v5] at hh; simp only [List.length_append]; omega) hW5).mono ?_
 rintro e w6 ⟨rfl,hW6,hK6⟩
 have hA6:=hA5.trans (hK6.mono (fun _ x=>.inl x))
 have hq6 : ∀ o,w6.cell? ⟨w.heap.size,o,none⟩ = (w.alloc (.cells [.int .i64 x0,.int .i64 x1,.int .i64 x2,y3_0,y3_1,y3_2,y3_3,y3_4,y3_5,y3_6,y4_0,y4_1,y4_2,y4_3,y4_4,y4_5,y4_6,y4_7,.slice a5 v5.length c5,y6_0,y6_1,y6_2,y6_3,y6_4,y6_5,y7_0,y7_1].toArray 71)).cell? ⟨w.heap.size,o,none⟩:=fun o=>(hK6.cell (a:=⟨w.heap.size,o,none⟩) (.inr rfl)).trans (hq5 o)
 clear hW5 hK6 hA5 hq5
 have hN5:=h5.1
 go_wp2
 go_loopw [4] (fun i wr=>∃ k : Nat,k<=v5.length/\i = .int .i64 k/\WR wr p ((l ++ (enN x0).1 ++ (enN x1).1 ++ (enN x2).1 ++ (enR zC4 v3).1 ++ (enR zB3 v4).1) ++ (enN (v5.length:Int)).1 ++ (v5.take k).flatMap fun v=>(enR zA4 v).1) ((bad || (enN x0).2 || (enN x1).2 || (enN x2).2 || (enR zC4 v3).2 || (enR zB3 v4).2) || (decide (64 < (v5.length:Int)) || (enN (v5.length:Int)).2) || (v5.take k).any fun v=>(enR zA4 v).2) (fun b=>prot b\/b = w.heap.size)/\Kp w wr prot/\∀ o,wr.cell? ⟨w.heap.size,o,none⟩ = (w.alloc (.cells [.int .i64 x0,.int .i64 x1,.int .i64 x2,y3_0,y3_1,y3_2,y3_3,y3_4,y3_5,y3_6,y4_0,y4_1,y4_2,y4_3,y4_4,y4_5,y4_6,y4_7,.slice a5 v5.length c5,y6_0,y6_1,y6_2,y6_3,y6_4,y6_5,y7_0,y7_1].toArray 71)).cell? ⟨w.heap.size,o,none⟩) (fun i _=>v5.length - (intOf i).toNat)
 case atStart=>exact ⟨0,Nat.zero_le _,rfl,by simpa using hW6,hA6,hq6⟩
 case round =>
  clear hW6 hA6 hq6
  obtain ⟨k,hk,rfl,hWk,hKk,hqk⟩:=hrel
  by_cases hlt : k < v5.length
  · obtain ⟨b,off,rfl,hSb,hes⟩:=h5.2 (by intro e; rw [e] at hlt; simp at hlt)
    obtain ⟨es,hrep0,hrg0⟩:=hes k hlt
    have hrep:=hrep0.kept (S':=S) hKk.size (fun b hb=>hKk.block b (HP.out b hb)) (fun _ x=>x)
    have hrg : World.rangeAt _ b (off + k * wd zA4) es:=zB1 hrg0 (hKk.block b (HP.out b hSb))
    have HLK : Hid (((l ++ (enN x0).1 ++ (enN x1).1 ++ (enN x2).1 ++ (enR zC4 v3).1 ++ (enR zB3 v4).1) ++ (enN (v5.length:Int)).1 ++ (v5.take k).flatMap fun v=>(enR zA4 v).1).length + szb zA4 v5[k]<=137438953472):=by
     have h3:=hl2.out
     have:=zA3 x0; have:=zA3 x1; have:=zA3 x2; have:=zC8 zC4 v3; have:=zC8 zB3 v4; have h4:=zS1 (fun v=>(enR zA4 v).1) (fun v=>szb zA4 v) (fun v=>zC8 zA4 v) (v5.take k)
     have h5:=zV6 (fun v=>szb zA4 v) v5 k hlt
     have h6:=zA3 (v5.length:Int)
     show _<=_
     rw [xI4 zA4 v5] at h3
     simp only [List.length_append]
     omega
    have HPB : Hid ((fun b=>prot b\/b = w.heap.size) b):=.inl (HP.out b hSb)
    clear hrep0 hrg0 hes
    obtain ⟨z0,z1,he,hv⟩:=zY2 hrep
    subst he
    have HV : Hid (v5[k] = (z0,z1)):=hv
    clear hv hrep
    rw [HV.out,yB6] at HLK
    have hgk:=hrg
    clear hrg
    have hc0 : World.cell? _ ⟨b,off + k * 2,none⟩ = some (.int .i64 z0):=hgk 0 _ rfl
    go_wp2_with fail
    refine (zE9 p ((l ++ (enN x0).1 ++ (enN x1).1 ++ (enN x2).1 ++ (enR zC4 v3).1 ++ (enR zB3 v4).1) ++ (enN (v5.length:Int)).1 ++ (v5.take k).flatMap fun v=>(enR zA4 v).1) ((bad || (enN x0).2 || (enN x1).2 || (enN x2).2 || (enR zC4 v3).2 || (enR zB3 v4).2) || (decide (64 < (v5.length:Int)) || (enN (v5.length:Int)).2) || (v5.take k).any fun v=>(enR zA4 v).2) (fun b=>prot b\/b = w.heap.size) z0 _ (by have:=HLK.out; omega) hWk).mono ?_
    rintro e w1z ⟨rfl,hW1z,hZ1z⟩
    have hq1z : ∀ o,w1z.cell? ⟨w.heap.size,o,none⟩ = (w.alloc (.cells [.int .i64 x0,.int .i64 x1,.int .i64 x2,y3_0,y3_1,y3_2,y3_3,y3_4,y3_5,y3_6,y4_0,y4_1,y4_2,y4_3,y4_4,y4_5,y4_6,y4_7,.slice (some ⟨b,off,none⟩) v5.length c5,y6_0,y6_1,y6_2,y6_3,y6_4,y6_5,y7_0,y7_1].toArray 71)).cell? ⟨w.heap.size,o,none⟩:=fun o=>(hZ1z.cell (a:=⟨w.heap.size,o,none⟩) (.inr rfl)).trans (hqk o)
    have hK1z:=hKk.trans (hZ1z.mono (fun _ x=>.inl x))
    have hg1z:=zB1 hgk (hZ1z.block b HPB.out)
    have ZK1z : Kp _ w1z (fun b=>prot b\/b = w.heap.size):=hZ1z
    clear hZ1z hqk hKk hWk hgk hc0
    have hc1 : World.cell? _ ⟨b,off + k * 2 + 1,none⟩ = some (.int .i64 z1):=hg1z 1 _ rfl
    go_wp2_with fail
    refine (zE9 p (((l ++ (enN x0).1 ++ (enN x1).1 ++ (enN x2).1 ++ (enR zC4 v3).1 ++ (enR zB3 v4).1) ++ (enN (v5.length:Int)).1 ++ (v5.take k).flatMap fun v=>(enR zA4 v).1) ++ (enN z0).1) (((bad || (enN x0).2 || (enN x1).2 || (enN x2).2 || (enR zC4 v3).2 || (enR zB3 v4).2) || (decide (64 < (v5.length:Int)) || (enN (v5.length:Int)).2) || (v5.take k).any fun v=>(enR zA4 v).2) || (enN z0).2) (fun b=>prot b\/b = w.heap.size) z1 _ (by have:=HLK.out; have:=zA3 z0; simp only [List.length_append] at *; omega) hW1z).mono ?_
    rintro e w2z ⟨rfl,hW2z,hZ2z⟩
    have hq2z : ∀ o,w2z.cell? ⟨w.heap.size,o,none⟩ = (w.alloc (.cells [.int .i64 x0,.int .i64 x1,.int .i64 x2,y3_0,y3_1,y3_2,y3_3,y3_4,y3_5,y3_6,y4_0,y4_1,y4_2,y4_3,y4_4,y4_5,y4_6,y4_7,.slice (some ⟨b,off,none⟩) v5.length c5,y6_0,y6_1,y6_2,y6_3,y6_4,y6_5,y7_0,y7_1].toArray 71)).cell? ⟨w.heap.size,o,none⟩:=fun o=>(hZ2z.cell (a:=⟨w.heap.size,o,none⟩) (.inr rfl)).trans (hq1z o)
    have hK2z:=hK1z.trans (hZ2z.mono (fun _ x=>.inl x))
    have hg2z:=zB1 hg1z (hZ2z.block b HPB.out)
    have ZK2z : Kp _ w2z (fun b=>prot b\/b = w.heap.size):=ZK1z.trans hZ2z
    clear hZ2z hq1z hK1z hW1z hg1z ZK1z hc1
    have hWx:=hW2z
    have hAx:=hK2z
    have hqx:=hq2z
    clear hW2z hK2z hq2z hg2z ZK2z
    have E1 : Hid ((v5.take (k + 1)).flatMap (fun v=>(enR zA4 v).1) = (v5.take k).flatMap (fun v=>(enR zA4 v).1) ++ (enR zA4 v5[k]).1):=by
     show _ = _
     rw [<- List.take_append_getElem hlt,List.flatMap_append]; simp
    have E2 : Hid ((v5.take (k + 1)).any (fun v=>(enR zA4 v).2) = ((v5.take k).any (fun v=>(enR zA4 v).2) || (enR zA4 v5[k]).2)):=by
     show _ = _
     rw [<- List.take_append_getElem hlt,List.any_append]; simp
    have HWX : Hid (WR _ _ _ _ _):=hWx
    clear hWx
    go_wp2
    refine ⟨⟨k + 1,by omega,by go_num,?_,hAx,hqx⟩,by simp [intOf]; omega⟩
    have hWx:=HWX.out
    rw [E1.out,E2.out,HV.out,yX8]
    simp only [List.append_assoc,Bool.or_assoc] at hWx ⊢
    exact hWx
  · have hkN : k = v5.length:=by omega
    subst hkN
    rw [List.take_of_length_le (Nat.le_refl _),List.append_assoc,Bool.or_assoc] at hWk
    have hW6 : WR wr p (l ++ (enN x0).1 ++ (enN x1).1 ++ (enN x2).1 ++ (enR zC4 v3).1 ++ (enR zB3 v4).1 ++ (enR (.lst zA4) v5).1) (bad || (enN x0).2 || (enN x1).2 || (enN x2).2 || (enR zC4 v3).2 || (enR zB3 v4).2 || (enR (.lst zA4) v5).2) (fun b=>prot b\/b = w.heap.size):=by rw [xR1,xR0]; exact hWk
    have hA6:=hKk
    have hq6:=hqk
    clear hWk hKk hqk hlt hk hN5
    go_wp2_with fail
    refine (kC2 p (l ++ (enN x0).1 ++ (enN x1).1 ++ (enN x2).1 ++ (enR zC4 v3).1 ++ (enR zB3 v4).1 ++ (enR (.lst zA4) v5).1) (bad || (enN x0).2 || (enN x1).2 || (enN x2).2 || (enR zC4 v3).2 || (enR zB3 v4).2 || (enR (.lst zA4) v5).2) (fun b=>prot b\/b = w.heap.size) S [y6_0,y6_1,y6_2,y6_3,y6_4,y6_5] v6 _ (by have:=hl2.out; have:=zA3 x0; have:=zA3 x1; have:=zA3 x2; have:=zC8 zC4 v3; have:=zC8 zB3 v4; have:=zC8 (.lst zA4) v5; simp only [List.length_append]; omega) HS.out (h6.kept hA6.size (fun b hb=>hA6.block b (HP.out b hb)) (fun _ x=>x)) hW6).mono ?_
    rintro e w7 ⟨rfl,hW7,hK7⟩
    have hA7:=hA6.trans (hK7.mono (fun _ x=>.inl x))
    have hq7 : ∀ o,w7.cell? ⟨w.heap.size,o,none⟩ = (w.alloc (.cells [.int .i64 x0,.int .i64 x1,.int .i64 x2,y3_0,y3_1,y3_2,y3_3,y3_4,y3_5,y3_6,y4_0,y4_1,y4_2,y4_3,y4_4,y4_5,y4_6,y4_7,.slice a5 v5.length c5,y6_0,y6_1,y6_2,y6_3,y6_4,y6_5,y7_0,y7_1].toArray 71)).cell? ⟨w.heap.size,o,none⟩:=fun o=>(hK7.cell (a:=⟨w.heap.size,o,none⟩) (.inr rfl)).trans (hq6 o)
    clear hW6 hK7 hA6 hq6
    go_wp2_with fail
    refine (xR7 p (l ++ (enN x0).1 ++ (enN x1).1 ++ (enN x2).1 ++ (enR zC4 v3).1 ++ (enR zB3 v4).1 ++ (enR (.lst zA4) v5).1 ++ (enR zC5 v6).1) (bad || (enN x0).2 || (enN x1).2 || (enN x2).2 || (enR zC4 v3).2 || (enR zB3 v4).2 || (enR (.lst zA4) v5).2 || (enR zC5 v6).2) (fun b=>prot b\/b = w.heap.size) S [y7_0,y7_1] v7 _ (by have:=hl2.out; have:=zA3 x0; have:=zA3 x1; have:=zA3 x2; have:=zC8 zC4 v3; have:=zC8 zB3 v4; have:=zC8 (.lst zA4) v5; have:=zC8 zC5 v6; simp only [List.length_append]; omega) HS.out (h7.kept hA7.size (fun b hb=>hA7.block b (HP.out b hb)) (fun _ x=>x)) hW7).mono ?_
    rintro e w8 ⟨rfl,hW8,hK8⟩
    have hA8:=hA7.trans (hK8.mono (fun _ x=>.inl x))
    have hq8 : ∀ o,w8.cell? ⟨w.heap.size,o,none⟩ = (w.alloc (.cells [.int .i64 x0,.int .i64 x1,.int .i64 x2,y3_0,y3_1,y3_2,y3_3,y3_4,y3_5,y3_6,y4_0,y4_1,y4_2,y4_3,y4_4,y4_5,y4_6,y4_7,.slice a5 v5.length c5,y6_0,y6_1,y6_2,y6_3,y6_4,y6_5,y7_0,y7_1].toArray 71)).cell? ⟨w.heap.size,o,none⟩:=fun o=>(hK8.cell (a:=⟨w.heap.size,o,none⟩) (.inr rfl)).trans (hq7 o)
    clear hW7 hK8 hA7 hq7
    have HW : Hid (WR _ _ _ _ _):=hW8
    clear hW8
    go_wp2
    go_end0
    have hWf:=HW.out
    have e1 : (l ++ (enN x0).1 ++ (enN x1).1 ++ (enN x2).1 ++ (enR zC4 v3).1 ++ (enR zB3 v4).1 ++ (enR (.lst zA4) v5).1 ++ (enR zC5 v6).1 ++ (enR zB4 v7).1) = l ++ (enR zD4 (x0,x1,x2,v3,v4,v5,v6,v7)).1:=by rw [xF8]; simp only [List.append_assoc]
    have e2 : (bad || (enN x0).2 || (enN x1).2 || (enN x2).2 || (enR zC4 v3).2 || (enR zB3 v4).2 || (enR (.lst zA4) v5).2 || (enR zC5 v6).2 || (enR zB4 v7).2) = (bad || (enR zD4 (x0,x1,x2,v3,v4,v5,v6,v7)).2):=by rw [xF8]; simp only [Bool.or_assoc]
    rw [e1,e2] at hWf
    exact ⟨rfl,hWf.mono (fun _ x=>.inl x),hA8⟩
end
end Go.Proofs.YtocoimjhglackaaGreat
