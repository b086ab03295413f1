/- Vws -/
import Derived.Test.YtocoimjhglackaaGreatK17
set_option maxHeartbeats 8000000
set_option maxRecDepth 100000
namespace Go.Proofs.YtocoimjhglackaaGreat
section
open Go.RowKit
theorem yW1 (p:Nat) (l:List UInt8) (bad:Bool) (prot S:Nat->Prop) (cs:List Value) (v:Vl zA2) (w:World) (hl:l.length + 66334<=137438953472) (hS:∀ b,S b->prot b) (hr:Rep w S zA2 cs v) (h:WR w p l bad prot) :
    Calls Tryz.prog 109 #[.pointer (some ⟨p,0,none⟩),.agg cs.toArray] w fun e w'=>e = .returned (.tuple #[])/\WR w' p (l ++ (en zA2 v).1) (bad || (en zA2 v).2) prot/\Kp w w' prot:=by
 have hmf : ∀ (fn:Fn) (first cap:Array Value) (w:World),(Instr.makeFunc fn first cap).run Tryz.prog w = .ok (.func fn first cap) w:=fun _ _ _ _=>rfl
 obtain ⟨x0,x1,y2_0,y2_1,v2,a3,c3,v3,rfl,rfl,h2,h3⟩:=zR8 hr
 have hl2 : Hid (l.length + 66334<=137438953472):=hl
 have hW0 : WR (w.alloc (.cells [.int .i64 x0,.int .i64 x1,y2_0,y2_1,.slice a3 v3.length c3].toArray 36)) p l bad (fun b=>prot b\/b = w.heap.size):=h.box _
 have hA0:=Kp.alloc w (.cells [.int .i64 x0,.int .i64 x1,y2_0,y2_1,.slice a3 v3.length c3].toArray 36) prot h.2.1
 have HP : Hid (∀ b,S b->prot b):=hS
 have HS : Hid (∀ b,S b->(fun b=>prot b\/b = w.heap.size) b):=fun b hb=>.inl (hS b hb)
 clear h hr hS hl
 go_enter Tryz.func109,Tryz.ntmps109
 go_wp2_with fail
 refine (zC6 p l bad (fun b=>prot b\/b = w.heap.size) x0 _ (by have:=hl2.out; omega) hW0).mono ?_
 rintro e w1 ⟨rfl,hW1,hK1⟩
 have hA1:=hA0.trans (hK1.mono (fun _ x=>.inl x))
 have hq1 : ∀ o,w1.cell? ⟨w.heap.size,o,none⟩ = (w.alloc (.cells [.int .i64 x0,.int .i64 x1,y2_0,y2_1,.slice a3 v3.length c3].toArray 36)).cell? ⟨w.heap.size,o,none⟩:=fun o=>hK1.cell (a:=⟨w.heap.size,o,none⟩) (.inr rfl)
 clear hW0 hK1 hA0
 go_wp2_with fail
 refine (zC6 p (l ++ (enN x0).1) (bad || (enN x0).2) (fun b=>prot b\/b = w.heap.size) x1 _ (by have:=hl2.out; have:=zA3 x0; simp only [List.length_append]; omega) hW1).mono ?_
 rintro e w2 ⟨rfl,hW2,hK2⟩
 have hA2:=hA1.trans (hK2.mono (fun _ x=>.inl x))
 have hq2 : ∀ o,w2.cell? ⟨w.heap.size,o,none⟩ = (w.alloc (.cells [.int .i64 x0,.int .i64 x1,y2_0,y2_1,.slice a3 v3.length c3].toArray 36)).cell? ⟨w.heap.size,o,none⟩:=fun o=>(hK2.cell (a:=⟨w.heap.size,o,none⟩) (.inr rfl)).trans (hq1 o)
 clear hW1 hK2 hA1 hq1
 go_wp2_with fail
 refine (xR5 p (l ++ (enN x0).1 ++ (enN x1).1) (bad || (enN x0).2 || (enN x1).2) (fun b=>prot b\/b = w.heap.size) S [y2_0,y2_1] v2 _ (by have:=hl2.out; have:=zA3 x0; have:=zA3 x1; simp only [List.length_append]; omega) HS.out (h2.kept hA2.size (fun b hb=>hA2.block b (HP.out b hb)) (fun _ x=>x)) hW2).mono ?_
 rintro e w3 ⟨rfl,hW3,hK3⟩
 have hA3:=hA2.trans (hK3.mono (fun _ x=>.inl x))
 have hq3 : ∀ o,w3.cell? ⟨w.heap.size,o,none⟩ = (w.alloc (.cells [.int .i64 x0,.int .i64 x1,y2_0,y2_1,.slice a3 v3.length c3].toArray 36)).cell? ⟨w.heap.size,o,none⟩:=fun o=>(hK3.cell (a:=⟨w.heap.size,o,none⟩) (.inr rfl)).trans (hq2 o)
 clear hW2 hK3 hA2 hq2
 go_wp2_with fail
 refine (xY4 p (l ++ (enN x0).1 ++ (enN x1).1 ++ (en zB4 v2).1) (bad || (enN x0).2 || (enN x1).2 || (en zB4 v2).2) (fun b=>prot b\/b = w.heap.size) S a3 c3 v3 _ (by have:=hl2.out; have:=zA3 x0; have:=zA3 x1; have:=xM6 v2; simp only [List.length_append]; omega) HS.out (h3.2.kept hA3.size (fun b hb=>hA3.block b (HP.out b hb)) (fun _ x=>x)) hW3).mono ?_
 rintro e w4 ⟨rfl,hW4,hK4⟩
 have hA4:=hA3.trans (hK4.mono (fun _ x=>.inl x))
 have hq4 : ∀ o,w4.cell? ⟨w.heap.size,o,none⟩ = (w.alloc (.cells [.int .i64 x0,.int .i64 x1,y2_0,y2_1,.slice a3 v3.length c3].toArray 36)).cell? ⟨w.heap.size,o,none⟩:=fun o=>(hK4.cell (a:=⟨w.heap.size,o,none⟩) (.inr rfl)).trans (hq3 o)
 clear hW3 hK4 hA3 hq3
 go_wp2
 go_end0
 have e1 : l ++ (enN x0).1 ++ (enN x1).1 ++ (en zB4 v2).1 ++ (en .byt v3).1 = l ++ (en zA2 (x0,x1,v2,v3)).1:=by rw [zZ4]; simp only [List.append_assoc]
 have e2 : (bad || (enN x0).2 || (enN x1).2 || (en zB4 v2).2 || (en .byt v3).2) = (bad || (en zA2 (x0,x1,v2,v3)).2):=by rw [zZ4]; simp only [Bool.or_assoc]
 rw [e1,e2] at hW4
 exact ⟨rfl,hW4.mono (fun _ x=>.inl x),hA4⟩
end
end Go.Proofs.YtocoimjhglackaaGreat
