/- Vwb, Vpw -/
import Derived.Test.YtocoimjhglackaaGreatK17
set_option maxHeartbeats 8000000
set_option maxRecDepth 100000
namespace Go.Proofs.YtocoimjhglackaaGreat
section
open Go.RowKit
theorem kH1 (p:Nat) (l:List UInt8) (bad:Bool) (prot S:Nat->Prop) (cs:List Value) (v:Vl zC4) (w:World) (hl:l.length + 1194<=137438953472) (hS:∀ b,S b->prot b) (hr:Rep w S zC4 cs v) (h:WR w p l bad prot) :
    Calls Tryz.prog 186 #[.pointer (some ⟨p,0,none⟩),.agg cs.toArray] w fun e w'=>e = .returned (.tuple #[])/\WR w' p (l ++ (en zC4 v).1) (bad || (en zC4 v).2) prot/\Kp w w' prot:=by
 have hmf : ∀ (fn:Fn) (first cap:Array Value) (w:World),(Instr.makeFunc fn first cap).run Tryz.prog w = .ok (.func fn first cap) w:=fun _ _ _ _=>rfl
 obtain ⟨x0,x1,x2,x3,a4,c4,v4,x5,x6,rfl,rfl,h4⟩:=yT1 hr
 have hl2 : Hid (l.length + 1194<=137438953472):=hl
 have hW0 : WR (w.alloc (.cells [.int .i64 x0,.int .i64 x1,.int .i64 x2,.int .i64 x3,.slice a4 v4.length c4,.int .i64 x5,.bool x6].toArray 61)) p l bad (fun b=>prot b\/b = w.heap.size):=h.box _
 have hA0:=Kp.alloc w (.cells [.int .i64 x0,.int .i64 x1,.int .i64 x2,.int .i64 x3,.slice a4 v4.length c4,.int .i64 x5,.bool x6].toArray 61) prot h.2.1
 have HP : Hid (∀ b,S b->prot b):=hS
 have HS : Hid (∀ b,S b->(fun b=>prot b\/b = w.heap.size) b):=fun b hb=>.inl (hS b hb)
 clear h hr hS hl
 go_enter Tryz.func186,Tryz.ntmps186
 go_wp2_with fail
 refine (zC6 p l bad (fun b=>prot b\/b = w.heap.size) x0 _ (by have:=hl2.out; omega) hW0).mono ?_
 rintro e w1 ⟨rfl,hW1,hK1⟩
 have hA1:=hA0.trans (hK1.mono (fun _ x=>.inl x))
 have hq1 : ∀ o,w1.cell? ⟨w.heap.size,o,none⟩ = (w.alloc (.cells [.int .i64 x0,.int .i64 x1,.int .i64 x2,.int .i64 x3,.slice a4 v4.length c4,.int .i64 x5,.bool x6].toArray 61)).cell? ⟨w.heap.size,o,none⟩:=fun o=>hK1.cell (a:=⟨w.heap.size,o,none⟩) (.inr rfl)
 clear hW0 hK1 hA0
 go_wp2_with fail
 refine (zC6 p (l ++ (enN x0).1) (bad || (enN x0).2) (fun b=>prot b\/b = w.heap.size) x1 _ (by have:=hl2.out; have:=zA3 x0; simp only [List.length_append]; omega) hW1).mono ?_
 rintro e w2 ⟨rfl,hW2,hK2⟩
 have hA2:=hA1.trans (hK2.mono (fun _ x=>.inl x))
 have hq2 : ∀ o,w2.cell? ⟨w.heap.size,o,none⟩ = (w.alloc (.cells [.int .i64 x0,.int .i64 x1,.int .i64 x2,.int .i64 x3,.slice a4 v4.length c4,.int .i64 x5,.bool x6].toArray 61)).cell? ⟨w.heap.size,o,none⟩:=fun o=>(hK2.cell (a:=⟨w.heap.size,o,none⟩) (.inr rfl)).trans (hq1 o)
 clear hW1 hK2 hA1 hq1
 go_wp2_with fail
 refine (zC6 p (l ++ (enN x0).1 ++ (enN x1).1) (bad || (enN x0).2 || (enN x1).2) (fun b=>prot b\/b = w.heap.size) x2 _ (by have:=hl2.out; have:=zA3 x0; have:=zA3 x1; simp only [List.length_append]; omega) hW2).mono ?_
 rintro e w3 ⟨rfl,hW3,hK3⟩
 have hA3:=hA2.trans (hK3.mono (fun _ x=>.inl x))
 have hq3 : ∀ o,w3.cell? ⟨w.heap.size,o,none⟩ = (w.alloc (.cells [.int .i64 x0,.int .i64 x1,.int .i64 x2,.int .i64 x3,.slice a4 v4.length c4,.int .i64 x5,.bool x6].toArray 61)).cell? ⟨w.heap.size,o,none⟩:=fun o=>(hK3.cell (a:=⟨w.heap.size,o,none⟩) (.inr rfl)).trans (hq2 o)
 clear hW2 hK3 hA2 hq2
 go_wp2_with fail
 refine (zC6 p (l ++ (enN x0).1 ++ (enN x1).1 ++ (enN x2).1) (bad || (enN x0).2 || (enN x1).2 || (enN x2).2) (fun b=>prot b\/b = w.heap.size) x3 _ (by have:=hl2.out; have:=zA3 x0; have:=zA3 x1; have:=zA3 x2; simp only [List.length_append]; omega) hW3).mono ?_
 rintro e w4 ⟨rfl,hW4,hK4⟩
 have hA4:=hA3.trans (hK4.mono (fun _ x=>.inl x))
 have hq4 : ∀ o,w4.cell? ⟨w.heap.size,o,none⟩ = (w.alloc (.cells [.int .i64 x0,.int .i64 x1,.int .i64 x2,.int .i64 x3,.slice a4 v4.length c4,.int .i64 x5,.bool x6].toArray 61)).cell? ⟨w.heap.size,o,none⟩:=fun o=>(hK4.cell (a:=⟨w.heap.size,o,none⟩) (.inr rfl)).trans (hq3 o)
 clear hW3 hK4 hA3 hq3
 go_wp2_with fail
 refine (yP2 p (l ++ (enN x0).1 ++ (enN x1).1 ++ (enN x2).1 ++ (enN x3).1) (bad || (enN x0).2 || (enN x1).2 || (enN x2).2 || (enN x3).2) (fun b=>prot b\/b = w.heap.size) S a4 c4 v4 _ (by have:=hl2.out; have:=zA3 x0; have:=zA3 x1; have:=zA3 x2; have:=zA3 x3; simp only [List.length_append]; omega) HS.out (h4.kept hA4.size (fun b hb=>hA4.block b (HP.out b hb)) (fun _ x=>x)) hW4).mono ?_
 rintro e w5 ⟨rfl,hW5,hK5⟩
 have hA5:=hA4.trans (hK5.mono (fun _ x=>.inl x))
 have hq5 : ∀ o,w5.cell? ⟨w.heap.size,o,none⟩ = (w.alloc (.cells [.int .i64 x0,.int .i64 x1,.int .i64 x2,.int .i64 x3,.slice a4 v4.length c4,.int .i64 x5,.bool x6].toArray 61)).cell? ⟨w.heap.size,o,none⟩:=fun o=>(hK5.cell (a:=⟨w.heap.size,o,none⟩) (.inr rfl)).trans (hq4 o)
 clear hW4 hK5 hA4 hq4
 go_wp2_with fail
 refine (zC6 p (l ++ (enN x0).1 ++ (enN x1).1 ++ (enN x2).1 ++ (enN x3).1 ++ (en (.lst zA6) v4).1) (bad || (enN x0).2 || (enN x1).2 || (enN x2).2 || (enN x3).2 || (en (.lst zA6) v4).2) (fun b=>prot b\/b = w.heap.size) x5 _ (by have:=hl2.out; have:=zA3 x0; have:=zA3 x1; have:=zA3 x2; have:=zA3 x3; have:=zZ0 v4; simp only [List.length_append]; omega) hW5).mono ?_
 rintro e w6 ⟨rfl,hW6,hK6⟩
 have hA6:=hA5.trans (hK6.mono (fun _ x=>.inl x))
 have hq6 : ∀ o,w6.cell? ⟨w.heap.size,o,none⟩ = (w.alloc (.cells [.int .i64 x0,.int .i64 x1,.int .i64 x2,.int .i64 x3,.slice a4 v4.length c4,.int .i64 x5,.bool x6].toArray 61)).cell? ⟨w.heap.size,o,none⟩:=fun o=>(hK6.cell (a:=⟨w.heap.size,o,none⟩) (.inr rfl)).trans (hq5 o)
 clear hW5 hK6 hA5 hq5
 go_wp2_with fail
 refine (zX5 p (l ++ (enN x0).1 ++ (enN x1).1 ++ (enN x2).1 ++ (enN x3).1 ++ (en (.lst zA6) v4).1 ++ (enN x5).1) (bad || (enN x0).2 || (enN x1).2 || (enN x2).2 || (enN x3).2 || (en (.lst zA6) v4).2 || (enN x5).2) (fun b=>prot b\/b = w.heap.size) x6 _ (by have:=hl2.out; have:=zA3 x0; have:=zA3 x1; have:=zA3 x2; have:=zA3 x3; have:=zZ0 v4; have:=zA3 x5; simp only [List.length_append]; omega) hW6).mono ?_
 rintro e w7 ⟨rfl,hW7,hK7⟩
 have hA7:=hA6.trans (hK7.mono (fun _ x=>.inl x))
 have hq7 : ∀ o,w7.cell? ⟨w.heap.size,o,none⟩ = (w.alloc (.cells [.int .i64 x0,.int .i64 x1,.int .i64 x2,.int .i64 x3,.slice a4 v4.length c4,.int .i64 x5,.bool x6].toArray 61)).cell? ⟨w.heap.size,o,none⟩:=fun o=>(hK7.cell (a:=⟨w.heap.size,o,none⟩) (.inr rfl)).trans (hq6 o)
 clear hW6 hK7 hA6 hq6
 go_wp2
 go_end0
 have e1 : l ++ (enN x0).1 ++ (enN x1).1 ++ (enN x2).1 ++ (enN x3).1 ++ (en (.lst zA6) v4).1 ++ (enN x5).1 ++ (en .tru x6).1 = l ++ (en zC4 (x0,x1,x2,x3,v4,x5,x6)).1:=by rw [xQ8]; simp only [List.append_assoc]
 have e2 : (bad || (enN x0).2 || (enN x1).2 || (enN x2).2 || (enN x3).2 || (en (.lst zA6) v4).2 || (enN x5).2 || (en .tru x6).2) = (bad || (en zC4 (x0,x1,x2,x3,v4,x5,x6)).2):=by rw [xQ8]; simp only [Bool.or_assoc]
 rw [e1,e2] at hW7
 exact ⟨rfl,hW7.mono (fun _ x=>.inl x),hA7⟩
theorem kC3 (p:Nat) (l:List UInt8) (bad:Bool) (prot S:Nat->Prop) (cs:List Value) (v:Vl zB3) (w:World) (hl:l.length + 48<=137438953472) (hS:∀ b,S b->prot b) (hr:Rep w S zB3 cs v) (h:WR w p l bad prot) :
    Calls Tryz.prog 187 #[.pointer (some ⟨p,0,none⟩),.agg cs.toArray] w fun e w'=>e = .returned (.tuple #[])/\WR w' p (l ++ (en zB3 v).1) (bad || (en zB3 v).2) prot/\Kp w w' prot:=by
 have hmf : ∀ (fn:Fn) (first cap:Array Value) (w:World),(Instr.makeFunc fn first cap).run Tryz.prog w = .ok (.func fn first cap) w:=fun _ _ _ _=>rfl
 obtain ⟨x0,y1_0,y1_1,v1,x2,x3,x4,x5,x6,rfl,rfl,h1⟩:=yJ0 hr
 have hl2 : Hid (l.length + 48<=137438953472):=hl
 have hW0 : WR (w.alloc (.cells [.int .i64 x0,y1_0,y1_1,.bool x2,.bool x3,.int .i64 x4,.int .i64 x5,.int .i64 x6].toArray 65)) p l bad (fun b=>prot b\/b = w.heap.size):=h.box _
 have hA0:=Kp.alloc w (.cells [.int .i64 x0,y1_0,y1_1,.bool x2,.bool x3,.int .i64 x4,.int .i64 x5,.int .i64 x6].toArray 65) prot h.2.1
 have HP : Hid (∀ b,S b->prot b):=hS
 have HS : Hid (∀ b,S b->(fun b=>prot b\/b = w.heap.size) b):=fun b hb=>.inl (hS b hb)
 clear h hr hS hl
 go_enter Tryz.func187,Tryz.ntmps187
 go_wp2_with fail
 refine (zC6 p l bad (fun b=>prot b\/b = w.heap.size) x0 _ (by have:=hl2.out; omega) hW0).mono ?_
 rintro e w1 ⟨rfl,hW1,hK1⟩
 have hA1:=hA0.trans (hK1.mono (fun _ x=>.inl x))
 have hq1 : ∀ o,w1.cell? ⟨w.heap.size,o,none⟩ = (w.alloc (.cells [.int .i64 x0,y1_0,y1_1,.bool x2,.bool x3,.int .i64 x4,.int .i64 x5,.int .i64 x6].toArray 65)).cell? ⟨w.heap.size,o,none⟩:=fun o=>hK1.cell (a:=⟨w.heap.size,o,none⟩) (.inr rfl)
 clear hW0 hK1 hA0
 go_wp2_with fail
 refine (xU4 p (l ++ (enN x0).1) (bad || (enN x0).2) (fun b=>prot b\/b = w.heap.size) S [y1_0,y1_1] v1 _ (by have:=hl2.out; have:=zA3 x0; simp only [List.length_append]; omega) HS.out (h1.kept hA1.size (fun b hb=>hA1.block b (HP.out b hb)) (fun _ x=>x)) hW1).mono ?_
 rintro e w2 ⟨rfl,hW2,hK2⟩
 have hA2:=hA1.trans (hK2.mono (fun _ x=>.inl x))
 have hq2 : ∀ o,w2.cell? ⟨w.heap.size,o,none⟩ = (w.alloc (.cells [.int .i64 x0,y1_0,y1_1,.bool x2,.bool x3,.int .i64 x4,.int .i64 x5,.int .i64 x6].toArray 65)).cell? ⟨w.heap.size,o,none⟩:=fun o=>(hK2.cell (a:=⟨w.heap.size,o,none⟩) (.inr rfl)).trans (hq1 o)
 clear hW1 hK2 hA1 hq1
 go_wp2_with fail
 refine (zX5 p (l ++ (enN x0).1 ++ (en zA9 v1).1) (bad || (enN x0).2 || (en zA9 v1).2) (fun b=>prot b\/b = w.heap.size) x2 _ (by have:=hl2.out; have:=zA3 x0; have:=zQ0 v1; simp only [List.length_append]; omega) hW2).mono ?_
 rintro e w3 ⟨rfl,hW3,hK3⟩
 have hA3:=hA2.trans (hK3.mono (fun _ x=>.inl x))
 have hq3 : ∀ o,w3.cell? ⟨w.heap.size,o,none⟩ = (w.alloc (.cells [.int .i64 x0,y1_0,y1_1,.bool x2,.bool x3,.int .i64 x4,.int .i64 x5,.int .i64 x6].toArray 65)).cell? ⟨w.heap.size,o,none⟩:=fun o=>(hK3.cell (a:=⟨w.heap.size,o,none⟩) (.inr rfl)).trans (hq2 o)
 clear hW2 hK3 hA2 hq2
 go_wp2_with fail
 refine (zX5 p (l ++ (enN x0).1 ++ (en zA9 v1).1 ++ (en .tru x2).1) (bad || (enN x0).2 || (en zA9 v1).2 || (en .tru x2).2) (fun b=>prot b\/b = w.heap.size) x3 _ (by have:=hl2.out; have:=zA3 x0; have:=zQ0 v1; have:=zN5 x2; simp only [List.length_append]; omega) hW3).mono ?_
 rintro e w4 ⟨rfl,hW4,hK4⟩
 have hA4:=hA3.trans (hK4.mono (fun _ x=>.inl x))
 have hq4 : ∀ o,w4.cell? ⟨w.heap.size,o,none⟩ = (w.alloc (.cells [.int .i64 x0,y1_0,y1_1,.bool x2,.bool x3,.int .i64 x4,.int .i64 x5,.int .i64 x6].toArray 65)).cell? ⟨w.heap.size,o,none⟩:=fun o=>(hK4.cell (a:=⟨w.heap.size,o,none⟩) (.inr rfl)).trans (hq3 o)
 clear hW3 hK4 hA3 hq3
 go_wp2_with fail
 refine (zC6 p (l ++ (enN x0).1 ++ (en zA9 v1).1 ++ (en .tru x2).1 ++ (en .tru x3).1) (bad || (enN x0).2 || (en zA9 v1).2 || (en .tru x2).2 || (en .tru x3).2) (fun b=>prot b\/b = w.heap.size) x4 _ (by have:=hl2.out; have:=zA3 x0; have:=zQ0 v1; have:=zN5 x2; have:=zN5 x3; simp only [List.length_append]; omega) hW4).mono ?_
 rintro e w5 ⟨rfl,hW5,hK5⟩
 have hA5:=hA4.trans (hK5.mono (fun _ x=>.inl x))
 have hq5 : ∀ o,w5.cell? ⟨w.heap.size,o,none⟩ = (w.alloc (.cells [.int .i64 x0,y1_0,y1_1,.bool x2,.bool x3,.int .i64 x4,.int .i64 x5,.int .i64 x6].toArray 65)).cell? ⟨w.heap.size,o,none⟩:=fun o=>(hK5.cell (a:=⟨w.heap.size,o,none⟩) (.inr rfl)).trans (hq4 o)
 clear hW4 hK5 hA4 hq4
 go_wp2_with fail
 refine (zC6 p (l ++ (enN x0).1 ++ (en zA9 v1).1 ++ (en .tru x2).1 ++ (en .tru x3).1 ++ (enN x4).1) (bad || (enN x0).2 || (en zA9 v1).2 || (en .tru x2).2 || (en .tru x3).2 || (enN x4).2) (fun b=>prot b\/b = w.heap.size) x5 _ (by have:=hl2.out; have:=zA3 x0; have:=zQ0 v1; have:=zN5 x2; have:=zN5 x3; have:=zA3 x4; simp only [List.length_append]; omega) hW5).mono ?_
 rintro e w6 ⟨rfl,hW6,hK6⟩
 have hA6:=hA5.trans (hK6.mono (fun _ x=>.inl x))
 have hq6 : ∀ o,w6.cell? ⟨w.heap.size,o,none⟩ = (w.alloc (.cells [.int .i64 x0,y1_0,y1_1,.bool x2,.bool x3,.int .i64 x4,.int .i64 x5,.int .i64 x6].toArray 65)).cell? ⟨w.heap.size,o,none⟩:=fun o=>(hK6.cell (a:=⟨w.heap.size,o,none⟩) (.inr rfl)).trans (hq5 o)
 clear hW5 hK6 hA5 hq5
 go_wp2_with fail
 refine (zC6 p (l ++ (enN x0).1 ++ (en zA9 v1).1 ++ (en .tru x2).1 ++ (en .tru x3).1 ++ (enN x4).1 ++ (enN x5).1) (bad || (enN x0).2 || (en zA9 v1).2 || (en .tru x2).2 || (en .tru x3).2 || (enN x4).2 || (enN x5).2) (fun b=>prot b\/b = w.heap.size) x6 _ (by have:=hl2.out; have:=zA3 x0; have:=zQ0 v1; have:=zN5 x2; have:=zN5 x3; have:=zA3 x4; have:=zA3 x5; simp only [List.length_append]; omega) hW6).mono ?_
 rintro e w7 ⟨rfl,hW7,hK7⟩
 have hA7:=hA6.trans (hK7.mono (fun _ x=>.inl x))
 have hq7 : ∀ o,w7.cell? ⟨w.heap.size,o,none⟩ = (w.alloc (.cells [.int .i64 x0,y1_0,y1_1,.bool x2,.bool x3,.int .i64 x4,.int .i64 x5,.int .i64 x6].toArray 65)).cell? ⟨w.heap.size,o,none⟩:=fun o=>(hK7.cell (a:=⟨w.heap.size,o,none⟩) (.inr rfl)).trans (hq6 o)
 clear hW6 hK7 hA6 hq6
 go_wp2
 go_end0
 have e1 : l ++ (enN x0).1 ++ (en zA9 v1).1 ++ (en .tru x2).1 ++ (en .tru x3).1 ++ (enN x4).1 ++ (enN x5).1 ++ (enN x6).1 = l ++ (en zB3 (x0,v1,x2,x3,x4,x5,x6)).1:=by rw [xF3]; simp only [List.append_assoc]
 have e2 : (bad || (enN x0).2 || (en zA9 v1).2 || (en .tru x2).2 || (en .tru x3).2 || (enN x4).2 || (enN x5).2 || (enN x6).2) = (bad || (en zB3 (x0,v1,x2,x3,x4,x5,x6)).2):=by rw [xF3]; simp only [Bool.or_assoc]
 rw [e1,e2] at hW7
 exact ⟨rfl,hW7.mono (fun _ x=>.inl x),hA7⟩
theorem kC0 (p:Nat) (l:List UInt8) (bad:Bool) (prot S:Nat->Prop) (cs:List Value) (v:Vl zC5) (w:World) (hl:l.length + 4644<=137438953472) (hS:∀ b,S b->prot b) (hr:Rep w S zC5 cs v) (h:WR w p l bad prot) :
    Calls Tryz.prog 190 #[.pointer (some ⟨p,0,none⟩),.agg cs.toArray] w fun e w'=>e = .returned (.tuple #[])/\WR w' p (l ++ (en zC5 v).1) (bad || (en zC5 v).2) prot/\Kp w w' prot:=by
 have hmf : ∀ (fn:Fn) (first cap:Array Value) (w:World),(Instr.makeFunc fn first cap).run Tryz.prog w = .ok (.func fn first cap) w:=fun _ _ _ _=>rfl
 obtain ⟨x0,x1,x2,a3,c3,v3,a4,c4,v4,x5,rfl,rfl,h3,h4⟩:=yI9 hr
 have hl2 : Hid (l.length + 4644<=137438953472):=hl
 have hW0 : WR (w.alloc (.cells [.int .i64 x0,.int .i64 x1,.int .i64 x2,.slice a3 v3.length c3,.slice a4 v4.length c4,.bool x5].toArray 69)) p l bad (fun b=>prot b\/b = w.heap.size):=h.box _
 have hA0:=Kp.alloc w (.cells [.int .i64 x0,.int .i64 x1,.int .i64 x2,.slice a3 v3.length c3,.slice a4 v4.length c4,.bool x5].toArray 69) prot h.2.1
 have HP : Hid (∀ b,S b->prot b):=hS
 have HS : Hid (∀ b,S b->(fun b=>prot b\/b = w.heap.size) b):=fun b hb=>.inl (hS b hb)
 clear h hr hS hl
 go_enter Tryz.func190,Tryz.ntmps190
 go_wp2_with fail
 refine (zC6 p l bad (fun b=>prot b\/b = w.heap.size) x0 _ (by have:=hl2.out; omega) hW0).mono ?_
 rintro e w1 ⟨rfl,hW1,hK1⟩
 have hA1:=hA0.trans (hK1.mono (fun _ x=>.inl x))
 have hq1 : ∀ o,w1.cell? ⟨w.heap.size,o,none⟩ = (w.alloc (.cells [.int .i64 x0,.int .i64 x1,.int .i64 x2,.slice a3 v3.length c3,.slice a4 v4.length c4,.bool x5].toArray 69)).cell? ⟨w.heap.size,o,none⟩:=fun o=>hK1.cell (a:=⟨w.heap.size,o,none⟩) (.inr rfl)
 clear hW0 hK1 hA0
 go_wp2_with fail
 refine (zC6 p (l ++ (enN x0).1) (bad || (enN x0).2) (fun b=>prot b\/b = w.heap.size) x1 _ (by have:=hl2.out; have:=zA3 x0; simp only [List.length_append]; omega) hW1).mono ?_
 rintro e w2 ⟨rfl,hW2,hK2⟩
 have hA2:=hA1.trans (hK2.mono (fun _ x=>.inl x))
 have hq2 : ∀ o,w2.cell? ⟨w.heap.size,o,none⟩ = (w.alloc (.cells [.int .i64 x0,.int .i64 x1,.int .i64 x2,.slice a3 v3.length c3,.slice a4 v4.length c4,.bool x5].toArray 69)).cell? ⟨w.heap.size,o,none⟩:=fun o=>(hK2.cell (a:=⟨w.heap.size,o,none⟩) (.inr rfl)).trans (hq1 o)
 clear hW1 hK2 hA1 hq1
 go_wp2_with fail
 refine (zC6 p (l ++ (enN x0).1 ++ (enN x1).1) (bad || (enN x0).2 || (enN x1).2) (fun b=>prot b\/b = w.heap.size) x2 _ (by have:=hl2.out; have:=zA3 x0; have:=zA3 x1; simp only [List.length_append]; omega) hW2).mono ?_
 rintro e w3 ⟨rfl,hW3,hK3⟩
 have hA3:=hA2.trans (hK3.mono (fun _ x=>.inl x))
 have hq3 : ∀ o,w3.cell? ⟨w.heap.size,o,none⟩ = (w.alloc (.cells [.int .i64 x0,.int .i64 x1,.int .i64 x2,.slice a3 v3.length c3,.slice a4 v4.length c4,.bool x5].toArray 69)).cell? ⟨w.heap.size,o,none⟩:=fun o=>(hK3.cell (a:=⟨w.heap.size,o,none⟩) (.inr rfl)).trans (hq2 o)
 clear hW2 hK3 hA2 hq2
 go_wp2_with fail
 refine (zY7 p (l ++ (enN x0).1 ++ (enN x1).1 ++ (enN x2).1) (bad || (enN x0).2 || (enN x1).2 || (enN x2).2) (fun b=>prot b\/b = w.heap.size) S a3 c3 v3 _ (by have:=hl2.out; have:=zA3 x0; have:=zA3 x1; have:=zA3 x2; simp only [List.length_append]; omega) HS.out (h3.kept hA3.size (fun b hb=>hA3.block b (HP.out b hb)) (fun _ x=>x)) hW3).mono ?_
 rintro e w4 ⟨rfl,hW4,hK4⟩
 have hA4:=hA3.trans (hK4.mono (fun _ x=>.inl x))
 have hq4 : ∀ o,w4.cell? ⟨w.heap.size,o,none⟩ = (w.alloc (.cells [.int .i64 x0,.int .i64 x1,.int .i64 x2,.slice a3 v3.length c3,.slice a4 v4.length c4,.bool x5].toArray 69)).cell? ⟨w.heap.size,o,none⟩:=fun o=>(hK4.cell (a:=⟨w.heap.size,o,none⟩) (.inr rfl)).trans (hq3 o)
 clear hW3 hK4 hA3 hq3
 go_wp2_with fail
 refine (yP4 p (l ++ (enN x0).1 ++ (enN x1).1 ++ (enN x2).1 ++ (en (.lst .num) v3).1) (bad || (enN x0).2 || (enN x1).2 || (enN x2).2 || (en (.lst .num) v3).2) (fun b=>prot b\/b = w.heap.size) S a4 c4 v4 _ (by have:=hl2.out; have:=zA3 x0; have:=zA3 x1; have:=zA3 x2; have:=zY9 v3; simp only [List.length_append]; omega) HS.out (h4.kept hA4.size (fun b hb=>hA4.block b (HP.out b hb)) (fun _ x=>x)) hW4).mono ?_
 rintro e w5 ⟨rfl,hW5,hK5⟩
 have hA5:=hA4.trans (hK5.mono (fun _ x=>.inl x))
 have hq5 : ∀ o,w5.cell? ⟨w.heap.size,o,none⟩ = (w.alloc (.cells [.int .i64 x0,.int .i64 x1,.int .i64 x2,.slice a3 v3.length c3,.slice a4 v4.length c4,.bool x5].toArray 69)).cell? ⟨w.heap.size,o,none⟩:=fun o=>(hK5.cell (a:=⟨w.heap.size,o,none⟩) (.inr rfl)).trans (hq4 o)
 clear hW4 hK5 hA4 hq4
 go_wp2_with fail
 refine (zX5 p (l ++ (enN x0).1 ++ (enN x1).1 ++ (enN x2).1 ++ (en (.lst .num) v3).1 ++ (en (.lst zA7) v4).1) (bad || (enN x0).2 || (enN x1).2 || (enN x2).2 || (en (.lst .num) v3).2 || (en (.lst zA7) v4).2) (fun b=>prot b\/b = w.heap.size) x5 _ (by have:=hl2.out; have:=zA3 x0; have:=zA3 x1; have:=zA3 x2; have:=zY9 v3; have:=yP7 v4; simp only [List.length_append]; omega) hW5).mono ?_
 rintro e w6 ⟨rfl,hW6,hK6⟩
 have hA6:=hA5.trans (hK6.mono (fun _ x=>.inl x))
 have hq6 : ∀ o,w6.cell? ⟨w.heap.size,o,none⟩ = (w.alloc (.cells [.int .i64 x0,.int .i64 x1,.int .i64 x2,.slice a3 v3.length c3,.slice a4 v4.length c4,.bool x5].toArray 69)).cell? ⟨w.heap.size,o,none⟩:=fun o=>(hK6.cell (a:=⟨w.heap.size,o,none⟩) (.inr rfl)).trans (hq5 o)
 clear hW5 hK6 hA5 hq5
 go_wp2
 go_end0
 have e1 : l ++ (enN x0).1 ++ (enN x1).1 ++ (enN x2).1 ++ (en (.lst .num) v3).1 ++ (en (.lst zA7) v4).1 ++ (en .tru x5).1 = l ++ (en zC5 (x0,x1,x2,v3,v4,x5)).1:=by rw [xF2]; simp only [List.append_assoc]
 have e2 : (bad || (enN x0).2 || (enN x1).2 || (enN x2).2 || (en (.lst .num) v3).2 || (en (.lst zA7) v4).2 || (en .tru x5).2) = (bad || (en zC5 (x0,x1,x2,v3,v4,x5)).2):=by rw [xF2]; simp only [Bool.or_assoc]
 rw [e1,e2] at hW6
 exact ⟨rfl,hW6.mono (fun _ x=>.inl x),hA6⟩
theorem kI3 (p:Nat) (l:List UInt8) (bad:Bool) (prot S:Nat->Prop) (cs:List Value) (v:Vl zD4) (w:World) (hl:l.length + 7458<=137438953472) (hS:∀ b,S b->prot b) (hr:Rep w S zD4 cs v) (h:WR w p l bad prot) :
    Calls Tryz.prog 159 #[.pointer (some ⟨p,0,none⟩),.agg cs.toArray] w fun e w'=>e = .returned (.tuple #[])/\WR w' p (l ++ (en zD4 v).1) (bad || (en zD4 v).2) prot/\Kp w w' prot:=by
 have hmf : ∀ (fn:Fn) (first cap:Array Value) (w:World),(Instr.makeFunc fn first cap).run Tryz.prog w = .ok (.func fn first cap) w:=fun _ _ _ _=>rfl
 obtain ⟨x0,x1,x2,y3_0,y3_1,y3_2,y3_3,y3_4,y3_5,y3_6,v3,y4_0,y4_1,y4_2,y4_3,y4_4,y4_5,y4_6,y4_7,v4,a5,c5,v5,y6_0,y6_1,y6_2,y6_3,y6_4,y6_5,v6,y7_0,y7_1,v7,rfl,rfl,h3,h4,h5,h6,h7⟩:=yT2 hr
 have hl2 : Hid (l.length + 7458<=137438953472):=hl
 have hW0 : WR (w.alloc (.cells [.int .i64 x0,.int .i64 x1,.int .i64 x2,y3_0,y3_1,y3_2,y3_3,y3_4,y3_5,y3_6,y4_0,y4_1,y4_2,y4_3,y4_4,y4_5,y4_6,y4_7,.slice a5 v5.length c5,y6_0,y6_1,y6_2,y6_3,y6_4,y6_5,y7_0,y7_1].toArray 71)) p l bad (fun b=>prot b\/b = w.heap.size):=h.box _
 have hA0:=Kp.alloc w (.cells [.int .i64 x0,.int .i64 x1,.int .i64 x2,y3_0,y3_1,y3_2,y3_3,y3_4,y3_5,y3_6,y4_0,y4_1,y4_2,y4_3,y4_4,y4_5,y4_6,y4_7,.slice a5 v5.length c5,y6_0,y6_1,y6_2,y6_3,y6_4,y6_5,y7_0,y7_1].toArray 71) prot h.2.1
 have HP : Hid (∀ b,S b->prot b):=hS
 have HS : Hid (∀ b,S b->(fun b=>prot b\/b = w.heap.size) b):=fun b hb=>.inl (hS b hb)
 clear h hr hS hl
 go_enter Tryz.func159,Tryz.ntmps159
 go_wp2_with fail
 refine (zC6 p l bad (fun b=>prot b\/b = w.heap.size) x0 _ (by have:=hl2.out; omega) hW0).mono ?_
 rintro e w1 ⟨rfl,hW1,hK1⟩
 have hA1:=hA0.trans (hK1.mono (fun _ x=>.inl x))
 have hq1 : ∀ o,w1.cell? ⟨w.heap.size,o,none⟩ = (w.alloc (.cells [.int .i64 x0,.int .i64 x1,.int .i64 x2,y3_0,y3_1,y3_2,y3_3,y3_4,y3_5,y3_6,y4_0,y4_1,y4_2,y4_3,y4_4,y4_5,y4_6,y4_7,.slice a5 v5.length c5,y6_0,y6_1,y6_2,y6_3,y6_4,y6_5,y7_0,y7_1].toArray 71)).cell? ⟨w.heap.size,o,none⟩:=fun o=>hK1.cell (a:=⟨w.heap.size,o,none⟩) (.inr rfl)
 clear hW0 hK1 hA0
 go_wp2_with fail
 refine (zC6 p (l ++ (enN x0).1) (bad || (enN x0).2) (fun b=>prot b\/b = w.heap.size) x1 _ (by have:=hl2.out; have:=zA3 x0; simp only [List.length_append]; omega) hW1).mono ?_
 rintro e w2 ⟨rfl,hW2,hK2⟩
 have hA2:=hA1.trans (hK2.mono (fun _ x=>.inl x))
 have hq2 : ∀ o,w2.cell? ⟨w.heap.size,o,none⟩ = (w.alloc (.cells [.int .i64 x0,.int .i64 x1,.int .i64 x2,y3_0,y3_1,y3_2,y3_3,y3_4,y3_5,y3_6,y4_0,y4_1,y4_2,y4_3,y4_4,y4_5,y4_6,y4_7,.slice a5 v5.length c5,y6_0,y6_1,y6_2,y6_3,y6_4,y6_5,y7_0,y7_1].toArray 71)).cell? ⟨w.heap.size,o,none⟩:=fun o=>(hK2.cell (a:=⟨w.heap.size,o,none⟩) (.inr rfl)).trans (hq1 o)
 clear hW1 hK2 hA1 hq1
 go_wp2_with fail
 refine (zC6 p (l ++ (enN x0).1 ++ (enN x1).1) (bad || (enN x0).2 || (enN x1).2) (fun b=>prot b\/b = w.heap.size) x2 _ (by have:=hl2.out; have:=zA3 x0; have:=zA3 x1; simp only [List.length_append]; omega) hW2).mono ?_
 rintro e w3 ⟨rfl,hW3,hK3⟩
 have hA3:=hA2.trans (hK3.mono (fun _ x=>.inl x))
 have hq3 : ∀ o,w3.cell? ⟨w.heap.size,o,none⟩ = (w.alloc (.cells [.int .i64 x0,.int .i64 x1,.int .i64 x2,y3_0,y3_1,y3_2,y3_3,y3_4,y3_5,y3_6,y4_0,y4_1,y4_2,y4_3,y4_4,y4_5,y4_6,y4_7,.slice a5 v5.length c5,y6_0,y6_1,y6_2,y6_3,y6_4,y6_5,y7_0,y7_1].toArray 71)).cell? ⟨w.heap.size,o,none⟩:=fun o=>(hK3.cell (a:=⟨w.heap.size,o,none⟩) (.inr rfl)).trans (hq2 o)
 clear hW2 hK3 hA2 hq2
 go_wp2_with fail
 refine (kH1 p (l ++ (enN x0).1 ++ (enN x1).1 ++ (enN x2).1) (bad || (enN x0).2 || (enN x1).2 || (enN x2).2) (fun b=>prot b\/b = w.heap.size) S [y3_0,y3_1,y3_2,y3_3,y3_4,y3_5,y3_6] v3 _ (by have:=hl2.out; have:=zA3 x0; have:=zA3 x1; have:=zA3 x2; simp only [List.length_append]; omega) HS.out (h3.kept hA3.size (fun b hb=>hA3.block b (HP.out b hb)) (fun _ x=>x)) hW3).mono ?_
 rintro e w4 ⟨rfl,hW4,hK4⟩
 have hA4:=hA3.trans (hK4.mono (fun _ x=>.inl x))
 have hq4 : ∀ o,w4.cell? ⟨w.heap.size,o,none⟩ = (w.alloc (.cells [.int .i64 x0,.int .i64 x1,.int .i64 x2,y3_0,y3_1,y3_2,y3_3,y3_4,y3_5,y3_6,y4_0,y4_1,y4_2,y4_3,y4_4,y4_5,y4_6,y4_7,.slice a5 v5.length c5,y6_0,y6_1,y6_2,y6_3,y6_4,y6_5,y7_0,y7_1].toArray 71)).cell? ⟨w.heap.size,o,none⟩:=fun o=>(hK4.cell (a:=⟨w.heap.size,o,none⟩) (.inr rfl)).trans (hq3 o)
 clear hW3 hK4 hA3 hq3
 go_wp2_with fail
 refine (kC3 p (l ++ (enN x0).1 ++ (enN x1).1 ++ (enN x2).1 ++ (en zC4 v3).1) (bad || (enN x0).2 || (enN x1).2 || (enN x2).2 || (en zC4 v3).2) (fun b=>prot b\/b = w.heap.size) S [y4_0,y4_1,y4_2,y4_3,y4_4,y4_5,y4_6,y4_7] v4 _ (by have:=hl2.out; have:=zA3 x0; have:=zA3 x1; have:=zA3 x2; have:=yE8 v3; simp only [List.length_append]; omega) HS.out (h4.kept hA4.size (fun b hb=>hA4.block b (HP.out b hb)) (fun _ x=>x)) hW4).mono ?_
 rintro e w5 ⟨rfl,hW5,hK5⟩
 have hA5:=hA4.trans (hK5.mono (fun _ x=>.inl x))
 have hq5 : ∀ o,w5.cell? ⟨w.heap.size,o,none⟩ = (w.alloc (.cells [.int .i64 x0,.int .i64 x1,.int .i64 x2,y3_0,y3_1,y3_2,y3_3,y3_4,y3_5,y3_6,y4_0,y4_1,y4_2,y4_3,y4_4,y4_5,y4_6,y4_7,.slice a5 v5.length c5,y6_0,y6_1,y6_2,y6_3,y6_4,y6_5,y7_0,y7_1].toArray 71)).cell? ⟨w.heap.size,o,none⟩:=fun o=>(hK5.cell (a:=⟨w.heap.size,o,none⟩) (.inr rfl)).trans (hq4 o)
 clear hW4 hK5 hA4 hq4
 go_wp2_with fail
 refine (yJ7 p (l ++ (enN x0).1 ++ (enN x1).1 ++ (enN x2).1 ++ (en zC4 v3).1 ++ (en zB3 v4).1) (bad || (enN x0).2 || (enN x1).2 || (enN x2).2 || (en zC4 v3).2 || (en zB3 v4).2) (fun b=>prot b\/b = w.heap.size) S a5 c5 v5 _ (by have:=hl2.out; have:=zA3 x0; have:=zA3 x1; have:=zA3 x2; have:=yE8 v3; have:=yE7 v4; simp only [List.length_append]; omega) HS.out (h5.kept hA5.size (fun b hb=>hA5.block b (HP.out b hb)) (fun _ x=>x)) hW5).mono ?_
 rintro e w6 ⟨rfl,hW6,hK6⟩
 have hA6:=hA5.trans (hK6.mono (fun _ x=>.inl x))
 have hq6 : ∀ o,w6.cell? ⟨w.heap.size,o,none⟩ = (w.alloc (.cells [.int .i64 x0,.int .i64 x1,.int .i64 x2,y3_0,y3_1,y3_2,y3_3,y3_4,y3_5,y3_6,y4_0,y4_1,y4_2,y4_3,y4_4,y4_5,y4_6,y4_7,.slice a5 v5.length c5,y6_0,y6_1,y6_2,y6_3,y6_4,y6_5,y7_0,y7_1].toArray 71)).cell? ⟨w.heap.size,o,none⟩:=fun o=>(hK6.cell (a:=⟨w.heap.size,o,none⟩) (.inr rfl)).trans (hq5 o)
 clear hW5 hK6 hA5 hq5
 go_wp2_with fail
 refine (kC0 p (l ++ (enN x0).1 ++ (enN x1).1 ++ (enN x2).1 ++ (en zC4 v3).1 ++ (en zB3 v4).1 ++ (en (.lst zA4) v5).1) (bad || (enN x0).2 || (enN x1).2 || (enN x2).2 || (en zC4 v3).2 || (en zB3 v4).2 || (en (.lst zA4) v5).2) (fun b=>prot b\/b = w.heap.size) S [y6_0,y6_1,y6_2,y6_3,y6_4,y6_5] v6 _ (by have:=hl2.out; have:=zA3 x0; have:=zA3 x1; have:=zA3 x2; have:=yE8 v3; have:=yE7 v4; have:=zU9 v5; simp only [List.length_append]; omega) HS.out (h6.kept hA6.size (fun b hb=>hA6.block b (HP.out b hb)) (fun _ x=>x)) hW6).mono ?_
 rintro e w7 ⟨rfl,hW7,hK7⟩
 have hA7:=hA6.trans (hK7.mono (fun _ x=>.inl x))
 have hq7 : ∀ o,w7.cell? ⟨w.heap.size,o,none⟩ = (w.alloc (.cells [.int .i64 x0,.int .i64 x1,.int .i64 x2,y3_0,y3_1,y3_2,y3_3,y3_4,y3_5,y3_6,y4_0,y4_1,y4_2,y4_3,y4_4,y4_5,y4_6,y4_7,.slice a5 v5.length c5,y6_0,y6_1,y6_2,y6_3,y6_4,y6_5,y7_0,y7_1].toArray 71)).cell? ⟨w.heap.size,o,none⟩:=fun o=>(hK7.cell (a:=⟨w.heap.size,o,none⟩) (.inr rfl)).trans (hq6 o)
 clear hW6 hK7 hA6 hq6
 go_wp2_with fail
 refine (xR5 p (l ++ (enN x0).1 ++ (enN x1).1 ++ (enN x2).1 ++ (en zC4 v3).1 ++ (en zB3 v4).1 ++ (en (.lst zA4) v5).1 ++ (en zC5 v6).1) (bad || (enN x0).2 || (enN x1).2 || (enN x2).2 || (en zC4 v3).2 || (en zB3 v4).2 || (en (.lst zA4) v5).2 || (en zC5 v6).2) (fun b=>prot b\/b = w.heap.size) S [y7_0,y7_1] v7 _ (by have:=hl2.out; have:=zA3 x0; have:=zA3 x1; have:=zA3 x2; have:=yE8 v3; have:=yE7 v4; have:=zU9 v5; have:=xM5 v6; simp only [List.length_append]; omega) HS.out (h7.kept hA7.size (fun b hb=>hA7.block b (HP.out b hb)) (fun _ x=>x)) hW7).mono ?_
 rintro e w8 ⟨rfl,hW8,hK8⟩
 have hA8:=hA7.trans (hK8.mono (fun _ x=>.inl x))
 have hq8 : ∀ o,w8.cell? ⟨w.heap.size,o,none⟩ = (w.alloc (.cells [.int .i64 x0,.int .i64 x1,.int .i64 x2,y3_0,y3_1,y3_2,y3_3,y3_4,y3_5,y3_6,y4_0,y4_1,y4_2,y4_3,y4_4,y4_5,y4_6,y4_7,.slice a5 v5.length c5,y6_0,y6_1,y6_2,y6_3,y6_4,y6_5,y7_0,y7_1].toArray 71)).cell? ⟨w.heap.size,o,none⟩:=fun o=>(hK8.cell (a:=⟨w.heap.size,o,none⟩) (.inr rfl)).trans (hq7 o)
 clear hW7 hK8 hA7 hq7
 go_wp2
 go_end0
 have e1 : l ++ (enN x0).1 ++ (enN x1).1 ++ (enN x2).1 ++ (en zC4 v3).1 ++ (en zB3 v4).1 ++ (en (.lst zA4) v5).1 ++ (en zC5 v6).1 ++ (en zB4 v7).1 = l ++ (en zD4 (x0,x1,x2,v3,v4,v5,v6,v7)).1:=by rw [xQ9]; simp only [List.append_assoc]
 have e2 : (bad || (enN x0).2 || (enN x1).2 || (enN x2).2 || (en zC4 v3).2 || (en zB3 v4).2 || (en (.lst zA4) v5).2 || (en zC5 v6).2 || (en zB4 v7).2) = (bad || (en zD4 (x0,x1,x2,v3,v4,v5,v6,v7)).2):=by rw [xQ9]; simp only [Bool.or_assoc]
 rw [e1,e2] at hW8
 exact ⟨rfl,hW8.mono (fun _ x=>.inl x),hA8⟩
theorem xX2 (p:Nat) (l:List UInt8) (bad:Bool) (prot S:Nat->Prop) (cs:List Value) (v:Vl zA8) (w:World) (hl:l.length + 7470<=137438953472) (hS:∀ b,S b->prot b) (hr:Rep w S zA8 cs v) (h:WR w p l bad prot) :
    Calls Tryz.prog 124 #[.pointer (some ⟨p,0,none⟩),.agg cs.toArray] w fun e w'=>e = .returned (.tuple #[])/\WR w' p (l ++ (en zA8 v).1) (bad || (en zA8 v).2) prot/\Kp w w' prot:=by
 have hmf : ∀ (fn:Fn) (first cap:Array Value) (w:World),(Instr.makeFunc fn first cap).run Tryz.prog w = .ok (.func fn first cap) w:=fun _ _ _ _=>rfl
 obtain ⟨x0,x1,y2_0,y2_1,y2_2,y2_3,y2_4,y2_5,y2_6,y2_7,y2_8,y2_9,y2_10,y2_11,y2_12,y2_13,y2_14,y2_15,y2_16,y2_17,y2_18,y2_19,y2_20,y2_21,y2_22,y2_23,y2_24,y2_25,y2_26,v2,rfl,rfl,h2⟩:=yB9 hr
 have hl2 : Hid (l.length + 7470<=137438953472):=hl
 have hW0 : WR (w.alloc (.cells [.int .i64 x0,.int .i64 x1,y2_0,y2_1,y2_2,y2_3,y2_4,y2_5,y2_6,y2_7,y2_8,y2_9,y2_10,y2_11,y2_12,y2_13,y2_14,y2_15,y2_16,y2_17,y2_18,y2_19,y2_20,y2_21,y2_22,y2_23,y2_24,y2_25,y2_26].toArray 73)) p l bad (fun b=>prot b\/b = w.heap.size):=h.box _
 have hA0:=Kp.alloc w (.cells [.int .i64 x0,.int .i64 x1,y2_0,y2_1,y2_2,y2_3,y2_4,y2_5,y2_6,y2_7,y2_8,y2_9,y2_10,y2_11,y2_12,y2_13,y2_14,y2_15,y2_16,y2_17,y2_18,y2_19,y2_20,y2_21,y2_22,y2_23,y2_24,y2_25,y2_26].toArray 73) prot h.2.1
 have HP : Hid (∀ b,S b->prot b):=hS
 have HS : Hid (∀ b,S b->(fun b=>prot b\/b = w.heap.size) b):=fun b hb=>.inl (hS b hb)
 clear h hr hS hl
 go_enter Tryz.func124,Tryz.ntmps124
 go_wp2_with fail
 refine (zC6 p l bad (fun b=>prot b\/b = w.heap.size) x0 _ (by have:=hl2.out; omega) hW0).mono ?_
 rintro e w1 ⟨rfl,hW1,hK1⟩
 have hA1:=hA0.trans (hK1.mono (fun _ x=>.inl x))
 have hq1 : ∀ o,w1.cell? ⟨w.heap.size,o,none⟩ = (w.alloc (.cells [.int .i64 x0,.int .i64 x1,y2_0,y2_1,y2_2,y2_3,y2_4,y2_5,y2_6,y2_7,y2_8,y2_9,y2_10,y2_11,y2_12,y2_13,y2_14,y2_15,y2_16,y2_17,y2_18,y2_19,y2_20,y2_21,y2_22,y2_23,y2_24,y2_25,y2_26].toArray 73)).cell? ⟨w.heap.size,o,none⟩:=fun o=>hK1.cell (a:=⟨w.heap.size,o,none⟩) (.inr rfl)
 clear hW0 hK1 hA0
 go_wp2_with fail
 refine (zC6 p (l ++ (enN x0).1) (bad || (enN x0).2) (fun b=>prot b\/b = w.heap.size) x1 _ (by have:=hl2.out; have:=zA3 x0; simp only [List.length_append]; omega) hW1).mono ?_
 rintro e w2 ⟨rfl,hW2,hK2⟩
 have hA2:=hA1.trans (hK2.mono (fun _ x=>.inl x))
 have hq2 : ∀ o,w2.cell? ⟨w.heap.size,o,none⟩ = (w.alloc (.cells [.int .i64 x0,.int .i64 x1,y2_0,y2_1,y2_2,y2_3,y2_4,y2_5,y2_6,y2_7,y2_8,y2_9,y2_10,y2_11,y2_12,y2_13,y2_14,y2_15,y2_16,y2_17,y2_18,y2_19,y2_20,y2_21,y2_22,y2_23,y2_24,y2_25,y2_26].toArray 73)).cell? ⟨w.heap.size,o,none⟩:=fun o=>(hK2.cell (a:=⟨w.heap.size,o,none⟩) (.inr rfl)).trans (hq1 o)
 clear hW1 hK2 hA1 hq1
 have hrg : Hid (w2.rangeAt w.heap.size 2 [y2_0,y2_1,y2_2,y2_3,y2_4,y2_5,y2_6,y2_7,y2_8,y2_9,y2_10,y2_11,y2_12,y2_13,y2_14,y2_15,y2_16,y2_17,y2_18,y2_19,y2_20,y2_21,y2_22,y2_23,y2_24,y2_25,y2_26]):=by
  intro jj u hu
  rw [hq2 (2 + jj),cell_of_row _ _ _ _ 73 (0,0) (heap_alloc_new w _)]
  have : ([.int .i64 x0,.int .i64 x1,y2_0,y2_1,y2_2,y2_3,y2_4,y2_5,y2_6,y2_7,y2_8,y2_9,y2_10,y2_11,y2_12,y2_13,y2_14,y2_15,y2_16,y2_17,y2_18,y2_19,y2_20,y2_21,y2_22,y2_23,y2_24,y2_25,y2_26].drop 2)[jj]? = some u:=by
   rw [show [.int .i64 x0,.int .i64 x1,y2_0,y2_1,y2_2,y2_3,y2_4,y2_5,y2_6,y2_7,y2_8,y2_9,y2_10,y2_11,y2_12,y2_13,y2_14,y2_15,y2_16,y2_17,y2_18,y2_19,y2_20,y2_21,y2_22,y2_23,y2_24,y2_25,y2_26].drop 2 = [y2_0,y2_1,y2_2,y2_3,y2_4,y2_5,y2_6,y2_7,y2_8,y2_9,y2_10,y2_11,y2_12,y2_13,y2_14,y2_15,y2_16,y2_17,y2_18,y2_19,y2_20,y2_21,y2_22,y2_23,y2_24,y2_25,y2_26] ++ [] from rfl,List.getElem?_append_left (List.getElem?_eq_some_iff.1 hu).1]
   exact hu
  rw [List.getElem?_drop] at this
  simpa using this
 have hI : Hid ((Tryz.prog.info? 71).map (·.size) = some [y2_0,y2_1,y2_2,y2_3,y2_4,y2_5,y2_6,y2_7,y2_8,y2_9,y2_10,y2_11,y2_12,y2_13,y2_14,y2_15,y2_16,y2_17,y2_18,y2_19,y2_20,y2_21,y2_22,y2_23,y2_24,y2_25,y2_26].length):=by show _ = _; kernel_rfl
 go_wp2_with (refine wpList_load_mid rfl 71 (.tmp 13) rfl w.heap.size 2 rfl [y2_0,y2_1,y2_2,y2_3,y2_4,y2_5,y2_6,y2_7,y2_8,y2_9,y2_10,y2_11,y2_12,y2_13,y2_14,y2_15,y2_16,y2_17,y2_18,y2_19,y2_20,y2_21,y2_22,y2_23,y2_24,y2_25,y2_26] _ hrg.out Tryz.underlying71 rfl hI.out ?_)
 refine (kI3 p (l ++ (enN x0).1 ++ (enN x1).1) (bad || (enN x0).2 || (enN x1).2) (fun b=>prot b\/b = w.heap.size) S [y2_0,y2_1,y2_2,y2_3,y2_4,y2_5,y2_6,y2_7,y2_8,y2_9,y2_10,y2_11,y2_12,y2_13,y2_14,y2_15,y2_16,y2_17,y2_18,y2_19,y2_20,y2_21,y2_22,y2_23,y2_24,y2_25,y2_26] v2 _ (by have:=hl2.out; have:=zA3 x0; have:=zA3 x1; simp only [List.length_append]; omega) HS.out (h2.kept hA2.size (fun b hb=>hA2.block b (HP.out b hb)) (fun _ x=>x)) hW2).mono ?_
 rintro e w3 ⟨rfl,hW3,hK3⟩
 have hA3:=hA2.trans (hK3.mono (fun _ x=>.inl x))
 have hq3 : ∀ o,w3.cell? ⟨w.heap.size,o,none⟩ = (w.alloc (.cells [.int .i64 x0,.int .i64 x1,y2_0,y2_1,y2_2,y2_3,y2_4,y2_5,y2_6,y2_7,y2_8,y2_9,y2_10,y2_11,y2_12,y2_13,y2_14,y2_15,y2_16,y2_17,y2_18,y2_19,y2_20,y2_21,y2_22,y2_23,y2_24,y2_25,y2_26].toArray 73)).cell? ⟨w.heap.size,o,none⟩:=fun o=>(hK3.cell (a:=⟨w.heap.size,o,none⟩) (.inr rfl)).trans (hq2 o)
 clear hW2 hK3 hA2 hq2
 go_wp2
 go_end0
 have e1 : l ++ (enN x0).1 ++ (enN x1).1 ++ (en zD4 v2).1 = l ++ (en zA8 (x0,x1,v2)).1:=by rw [yU3]; simp only [List.append_assoc]
 have e2 : (bad || (enN x0).2 || (enN x1).2 || (en zD4 v2).2) = (bad || (en zA8 (x0,x1,v2)).2):=by rw [yU3]; simp only [Bool.or_assoc]
 rw [e1,e2] at hW3
 exact ⟨rfl,hW3.mono (fun _ x=>.inl x),hA3⟩
end
section
open Go.RowKit
theorem xR3 (p:Nat) (l:List UInt8) (bad:Bool) (prot:Nat->Prop) (w:World) (h:WR w p l bad prot) :
    Calls Tryz.prog 110 #[.pointer (some ⟨p,0,none⟩)] w fun e w'=>∃ v,e = .returned (.tuple #[v,.int .i64 (zK5 bad)])/\Own w' v (zD6 (l,bad))/\(∀ b,v.ownBlock = some b->¬ prot b)/\w' = w:=by
 obtain ⟨q1,q2,q3,v,q4,q5,q6,q7,q8,q9⟩:=h
 obtain ⟨a,c,hv,hbs⟩:=q8.form
 subst hv
 have H9 : Hid _:=q9
 clear q1 q2 q9 hbs
 cases bad with
 | true =>
  go_enter Tryz.func110,Tryz.ntmps110
  go_wp2
  go_ret2
  exact ⟨_,rfl,.inl ⟨rfl,rfl⟩,fun b hb=>by simp [Value.ownBlock] at hb,rfl⟩
 | false =>
  go_enter Tryz.func110,Tryz.ntmps110
  go_wp2
  go_ret2
  exact ⟨_,rfl,q8,fun b hb=>(H9.out b hb).2,rfl⟩
theorem yZ2 (w:World) (n:Nat) (hn:n = w.heap.size) : WR (w.alloc (.cells #[.slice none 0 0,.bool false] 165)) n [] false (fun b=>b < n):=by
 subst hn
 refine ⟨by omega,fun b hb=>by simp; omega,by simp,.slice none 0 0,?_,?_,?_,?_,.inl ⟨rfl,rfl⟩,fun r hr=>by simp [Value.ownBlock] at hr⟩
 · rw [World.cell?_alloc_at _ _ _ _ rfl]; rfl
 · rw [World.cell?_alloc_at _ _ _ _ rfl]; rfl
 · exact World.frozen?_alloc_at _ _ _ _ rfl
 · exact World.frozen?_alloc_at _ _ _ _ rfl
end
end Go.Proofs.YtocoimjhglackaaGreat
