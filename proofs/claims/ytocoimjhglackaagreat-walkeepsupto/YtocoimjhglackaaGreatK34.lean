/- Von, Vrz -/
import Derived.Test.YtocoimjhglackaaGreatK33
set_option maxHeartbeats 8000000
set_option maxRecDepth 100000
namespace Go.Proofs.YtocoimjhglackaaGreat
section
open Go.RowKit
theorem yV1 (u:Nat) : 128 + (u:Int) % 128 = ((zH4 u).toNat : Int):=by rw [<- yQ7]; omega
theorem yE3 (p:Nat) (l:List UInt8) (bad:Bool) (prot:Nat->Prop) (n:Int) (w:World) (h0:-1099511627776<=n) (h1:n<=1099511627776) (hl:l.length<=137438953472) (h:WR w p l bad prot) :
    Calls Tryz.prog 107 #[.pointer (some ⟨p,0,none⟩),.int .i64 n] w fun e w'=>e = .returned (.tuple #[])/\WR w' p (l ++ enc n) bad prot/\Kp w w' prot:=by
 have f0 : 0<=zG0 n:=by unfold zG0; split <;> omega
 have f1 : zG0 n<=2199023255552:=by unfold zG0; split <;> omega
 obtain ⟨u0,hu0⟩:=Int.eq_ofNat_of_zero_le f0
 rw [hu0] at f1
 have HE2 : Hid (enc n = encU u0):=by show enc n = _; unfold enc; rw [hu0]; rfl
 clear f0
 by_cases hneg : n < 0
 · have HU : Hid (-2 * n - 1 = (u0:Int)):=by show _ = _; rw [<- hu0]; unfold zG0; rw [if_pos hneg]
   clear hu0
   go_enter Tryz.func107,Tryz.ntmps107
   go_wp2
   go_loopw [4] (fun t wr=>∃ u : Nat,∃ m : List UInt8,u<=u0/\t = .int .i64 u/\Hid (m ++ encU u = l ++ encU u0)/\WR wr p m bad prot/\Kp w wr prot) (fun t _=>(intOf t).toNat)
   case atStart=>exact ⟨u0,l,Nat.le_refl _,by rw [<- HU.out],rfl,h,Kp.refl _ _⟩
   case round =>
    obtain ⟨u,m,hu,rfl,hpre,hW,hK⟩:=hrel
    obtain ⟨q1,q2,q3,v,q4,q5,q6,q7,q8,q9⟩:=hW
    obtain ⟨a,c,hv,hbs⟩:=q8.form
    subst hv
    have H2 : Hid _:=q2
    have H9 : Hid _:=q9
    have H1 : Hid _:=q1
    clear q1 q2 q9 hbs
    have hml : Hid (m.length<=137438953482):=by
     have e:=congrArg List.length hpre.out
     rw [List.length_append,List.length_append] at e
     have:=zI5 u0 5 (by omega)
     show m.length<=_
     omega
    by_cases hub : u < 128
    · have hpu : Hid (encU u = [zI9 u]):=zF5 u hub
      go_wp2_with (at_builtin; refine zC3 _ rfl (.tmp 42) (.tmp 45) rfl _ m rfl (q8.alloc _) _ [zI9 u] rfl ?src ?len ?next)
      case src=>exact zK9 _ _ _ (yF0 u hub) _ rfl
      case len=>have:=hml.out; simp only [List.length_cons,List.length_nil]; omega
      case next =>
       intro v' w1 o1 s1
       obtain ⟨hW1,hK1,c1,d1⟩:=WR.store _ H1.out H2.out q3 q5 q6 q7 H9.out q4 o1 s1
       obtain ⟨a',c',hv',_⟩:=o1.form
       subst hv'
       rw [show (m ++ [zI9 u]).length = m.length + 1 from by simp] at hW1 hK1
       go_wp2
       go_end0
       refine ⟨rfl,?_,hK.trans hK1⟩
       have e : l ++ enc n = m ++ [zI9 u]:=by rw [HE2.out,<- hpre.out,hpu.out]
       rw [e]
       exact hW1
    · have hpu : Hid (encU u = zH4 u :: encU (u / 128)):=zL9 u hub
      go_wp2_with (at_builtin; refine zC3 _ rfl (.tmp 27) (.tmp 32) rfl _ m rfl (q8.alloc _) _ [zH4 u] rfl ?src ?len ?next)
      case src=>exact zK9 _ _ _ (yV1 u) _ rfl
      case len=>have:=hml.out; simp only [List.length_cons,List.length_nil]; omega
      case next =>
       intro v' w1 o1 s1
       obtain ⟨hW1,hK1,c1,d1⟩:=WR.store _ H1.out H2.out q3 q5 q6 q7 H9.out q4 o1 s1
       obtain ⟨a',c',hv',_⟩:=o1.form
       subst hv'
       rw [show (m ++ [zH4 u]).length = m.length + 1 from by simp] at hW1 hK1
       go_wp2
       refine ⟨⟨u / 128,m ++ [zH4 u],by omega,by go_num,?_,hW1,hK.trans hK1⟩,by simp [intOf]; omega⟩
       show m ++ [zH4 u] ++ encU (u / 128) = _
       rw [<- hpre.out,hpu.out,List.append_assoc]; rfl
 · have HU : Hid (2 * n = (u0:Int)):=by show _ = _; rw [<- hu0]; unfold zG0; rw [if_neg hneg]
   clear hu0
   go_enter Tryz.func107,Tryz.ntmps107
   go_wp2
   go_loopw [4] (fun t wr=>∃ u : Nat,∃ m : List UInt8,u<=u0/\t = .int .i64 u/\Hid (m ++ encU u = l ++ encU u0)/\WR wr p m bad prot/\Kp w wr prot) (fun t _=>(intOf t).toNat)
   case atStart=>exact ⟨u0,l,Nat.le_refl _,by rw [<- HU.out],rfl,h,Kp.refl _ _⟩
   case round =>
    obtain ⟨u,m,hu,rfl,hpre,hW,hK⟩:=hrel
    obtain ⟨q1,q2,q3,v,q4,q5,q6,q7,q8,q9⟩:=hW
    obtain ⟨a,c,hv,hbs⟩:=q8.form
    subst hv
    have H2 : Hid _:=q2
    have H9 : Hid _:=q9
    have H1 : Hid _:=q1
    clear q1 q2 q9 hbs
    have hml : Hid (m.length<=137438953482):=by
     have e:=congrArg List.length hpre.out
     rw [List.length_append,List.length_append] at e
     have:=zI5 u0 5 (by omega)
     show m.length<=_
     omega
    by_cases hub : u < 128
    · have hpu : Hid (encU u = [zI9 u]):=zF5 u hub
      go_wp2_with (at_builtin; refine zC3 _ rfl (.tmp 42) (.tmp 45) rfl _ m rfl (q8.alloc _) _ [zI9 u] rfl ?src ?len ?next)
      case src=>exact zK9 _ _ _ (yF0 u hub) _ rfl
      case len=>have:=hml.out; simp only [List.length_cons,List.length_nil]; omega
      case next =>
       intro v' w1 o1 s1
       obtain ⟨hW1,hK1,c1,d1⟩:=WR.store _ H1.out H2.out q3 q5 q6 q7 H9.out q4 o1 s1
       obtain ⟨a',c',hv',_⟩:=o1.form
       subst hv'
       rw [show (m ++ [zI9 u]).length = m.length + 1 from by simp] at hW1 hK1
       go_wp2
       go_end0
       refine ⟨rfl,?_,hK.trans hK1⟩
       have e : l ++ enc n = m ++ [zI9 u]:=by rw [HE2.out,<- hpre.out,hpu.out]
       rw [e]
       exact hW1
    · have hpu : Hid (encU u = zH4 u :: encU (u / 128)):=zL9 u hub
      go_wp2_with (at_builtin; refine zC3 _ rfl (.tmp 27) (.tmp 32) rfl _ m rfl (q8.alloc _) _ [zH4 u] rfl ?src ?len ?next)
      case src=>exact zK9 _ _ _ (yV1 u) _ rfl
      case len=>have:=hml.out; simp only [List.length_cons,List.length_nil]; omega
      case next =>
       intro v' w1 o1 s1
       obtain ⟨hW1,hK1,c1,d1⟩:=WR.store _ H1.out H2.out q3 q5 q6 q7 H9.out q4 o1 s1
       obtain ⟨a',c',hv',_⟩:=o1.form
       subst hv'
       rw [show (m ++ [zH4 u]).length = m.length + 1 from by simp] at hW1 hK1
       go_wp2
       refine ⟨⟨u / 128,m ++ [zH4 u],by omega,by go_num,?_,hW1,hK.trans hK1⟩,by simp [intOf]; omega⟩
       show m ++ [zH4 u] ++ encU (u / 128) = _
       rw [<- hpre.out,hpu.out,List.append_assoc]; rfl
theorem zE9 (p:Nat) (l:List UInt8) (bad:Bool) (prot:Nat->Prop) (n:Int) (w:World) (hl:l.length + 6<=137438953472) (h:WR w p l bad prot) :
    Calls Tryz.prog 107 #[.pointer (some ⟨p,0,none⟩),.int .i64 n] w fun e w'=>e = .returned (.tuple #[])/\WR w' p (l ++ (enN n).1) (bad || (enN n).2) prot/\Kp w w' prot:=by
 by_cases hn : -1099511627776<=n/\n<=1099511627776
 · rw [xF9 n hn.1 hn.2]
   simp only [Bool.or_false]
   exact yE3 p l bad prot n w hn.1 hn.2 (by omega) h
 · have e : enN n = ([],true):=by unfold enN; rw [if_neg hn]
   rw [e]
   simp only [Bool.or_true,List.append_nil]
   have HB : Hid _:=h.bad
   obtain ⟨h1,h2,h3,v,h4,h5,h6,h7,h8,h9⟩:=h
   clear h1 h2 h9 e h8
   by_cases hlo : n < -1099511627776
   · clear hn
     go_enter Tryz.func107,Tryz.ntmps107
     go_wp2
     (try simp only [Exit.inBlock,Exit.then]); refine bodyPost_ret (results_none rfl _ _ _) rfl ?_
     exact ⟨rfl,HB.out⟩
   · have hhi : 1099511627776 < n:=by omega
     clear hn
     go_enter Tryz.func107,Tryz.ntmps107
     go_wp2
     (try simp only [Exit.inBlock,Exit.then]); refine bodyPost_ret (results_none rfl _ _ _) rfl ?_
     exact ⟨rfl,HB.out⟩
theorem yK6 (p:Nat) (l:List UInt8) (bad:Bool) (prot:Nat->Prop) (b:Bool) (w:World) (hl:l.length + 6<=137438953472) (h:WR w p l bad prot) :
    Calls Tryz.prog 164 #[.pointer (some ⟨p,0,none⟩),.bool b] w fun e w'=>e = .returned (.tuple #[])/\WR w' p (l ++ (enR .tru b).1) (bad || (enR .tru b).2) prot/\Kp w w' prot:=by
 show Calls Tryz.prog 164 #[.pointer (some ⟨p,0,none⟩),.bool b] w fun e w'=>e = .returned (.tuple #[])/\WR w' p (l ++ ((enc (if b = true then 1 else 0),false)).1) (bad || ((enc (if b = true then 1 else 0),false)).2) prot/\Kp w w' prot
 simp only [Bool.or_false]
 cases b with
 | false =>
  simp only [Bool.false_eq_true,if_false]
  go_enter Tryz.func164,Tryz.ntmps164
  go_wp2_with fail
  refine (yE3 p l bad prot 0 w (by omega) (by omega) (by omega) h).mono ?_
  rintro e w' ⟨rfl,hW,hK⟩
  go_wp2
  go_end0
  exact ⟨rfl,hW,hK⟩
 | true =>
  simp only [if_true]
  go_enter Tryz.func164,Tryz.ntmps164
  go_wp2_with fail
  refine (yE3 p l bad prot 1 w (by omega) (by omega) (by omega) h).mono ?_
  rintro e w' ⟨rfl,hW,hK⟩
  go_wp2
  go_end0
  exact ⟨rfl,hW,hK⟩
theorem WR.mark {w:World} {p:Nat} {l:List UInt8} {bad:Bool} {prot:Nat->Prop} (h:WR w p l bad prot) (b:Bool) : WR (w.setCell ⟨p,1,none⟩ (.bool b)) p l b prot/\Kp w (w.setCell ⟨p,1,none⟩ (.bool b)) prot:=by
 obtain ⟨h1,h2,h3,v,h4,h5,h6,h7,h8,h9⟩:=h
 have hk : ∀ k,k ≠ p->(w.setCell ⟨p,1,none⟩ (.bool b)).heap[k]? = w.heap[k]?:=fun k hk=>Below.heap_setCell w ⟨p,1,none⟩ _ k hk
 refine ⟨⟨h1,fun b hb=>by have:=h2 b hb; simpa using this,by simpa using h3,v,?_,?_,?_,?_,h8.kept (fun k e=>hk k (h9 k e).1),h9⟩,⟨rfl,rfl,rfl,by simp,fun k x=>hk k (fun e=>h1 (e ▸ x))⟩⟩
 · rw [World.cell?_setCell_other w _ _ _ (by simp)]; exact h4
 · exact World.cell?_setCell_same w _ _ h5
 · rw [World.frozen?_setCell]; exact h6
 · rw [World.frozen?_setCell]; exact h7
theorem yG4 (p:Nat) (l:List UInt8) (bad:Bool) (prot:Nat->Prop) (n:Int) (w:World) (hl:l.length + 6<=137438953472) (h:WR w p l bad prot) :
    Calls Tryz.prog 136 #[.pointer (some ⟨p,0,none⟩),.int .i64 n] w fun e w'=>e = .returned (.tuple #[])/\WR w' p (l ++ (enN n).1) (bad || (decide (64 < n) || (enN n).2)) prot/\Kp w w' prot:=by
 have hM:=h.mark (bad || decide (64 < n))
 have HM : Hid _:=hM
 obtain ⟨h1,h2,h3,v,h4,h5,h6,h7,h8,h9⟩:=h
 clear h1 h2 h9 h8 hM
 cases bad with
 | true =>
  simp only [Bool.true_or] at HM ⊢
  go_enter Tryz.func136,Tryz.ntmps136
  go_wp2_with fail
  refine (zE9 p l true prot n _ hl HM.out.1).mono ?_
  rintro e w' ⟨rfl,hW,hK⟩
  simp only [Bool.true_or] at hW
  go_wp2
  go_end0
  exact ⟨rfl,hW,HM.out.2.trans hK⟩
 | false =>
  simp only [Bool.false_or] at HM ⊢
  go_enter Tryz.func136,Tryz.ntmps136
  go_wp2_with fail
  refine (zE9 p l (decide (64 < n)) prot n _ hl HM.out.1).mono ?_
  rintro e w' ⟨rfl,hW,hK⟩
  go_wp2
  go_end0
  exact ⟨rfl,hW,HM.out.2.trans hK⟩
end
section
open Go.RowKit
theorem xF5 (x0:Int) (x1:Int) : enR zA9 (x0,x1) = (((enN x0).1 ++ (enN x1).1),((enN x0).2 || (enN x1).2)):=rfl
theorem yZ9 (x0:Int) (x1:Int) : szb zA9 (x0,x1) = 6 + (6):=rfl
theorem yU7 (v0:List (Vl .num)) (v1:List (Vl .num)) : enR zB4 (v0,v1) = (((enR (.lst .num) v0).1 ++ (enR (.lst .num) v1).1),((enR (.lst .num) v0).2 || (enR (.lst .num) v1).2)):=rfl
theorem yS1 (v0:List (Vl .num)) (v1:List (Vl .num)) : szb zB4 (v0,v1) = szb (.lst .num) v0 + (szb (.lst .num) v1):=rfl
theorem yL0 (x0:Int) (x1:Int) (x2:Int) (x3:Int) (x4:Int) (x5:Int) (x6:Int) (v7:Vl zA9) (x8:Bool) (x9:Int) : enR zA7 (x0,x1,x2,x3,x4,x5,x6,v7,x8,x9) = (((enN x0).1 ++ ((enN x1).1 ++ ((enN x2).1 ++ ((enN x3).1 ++ ((enN x4).1 ++ ((enN x5).1 ++ ((enN x6).1 ++ ((enR zA9 v7).1 ++ ((enR .tru x8).1 ++ (enN x9).1))))))))),((enN x0).2 || ((enN x1).2 || ((enN x2).2 || ((enN x3).2 || ((enN x4).2 || ((enN x5).2 || ((enN x6).2 || ((enR zA9 v7).2 || ((enR .tru x8).2 || (enN x9).2)))))))))):=rfl
theorem yI0 (x0:Int) (x1:Int) (x2:Int) (x3:Int) (x4:Int) (x5:Int) (x6:Int) (v7:Vl zA9) (x8:Bool) (x9:Int) : szb zA7 (x0,x1,x2,x3,x4,x5,x6,v7,x8,x9) = 6 + (6 + (6 + (6 + (6 + (6 + (6 + (szb zA9 v7 + (6 + (6))))))))):=rfl
theorem yX8 (x0:Int) (x1:Int) : enR zA4 (x0,x1) = (((enN x0).1 ++ (enN x1).1),((enN x0).2 || (enN x1).2)):=rfl
theorem yB6 (x0:Int) (x1:Int) : szb zA4 (x0,x1) = 6 + (6):=rfl
theorem xF7 (x0:Int) (v1:Vl zA9) : enR zA6 (x0,v1) = (((enN x0).1 ++ (enR zA9 v1).1),((enN x0).2 || (enR zA9 v1).2)):=rfl
theorem yH8 (x0:Int) (v1:Vl zA9) : szb zA6 (x0,v1) = 6 + (szb zA9 v1):=rfl
theorem xF6 (x0:Int) (x1:Int) (x2:Int) (x3:Int) (v4:List (Vl zA6)) (x5:Int) (x6:Bool) : enR zC4 (x0,x1,x2,x3,v4,x5,x6) = (((enN x0).1 ++ ((enN x1).1 ++ ((enN x2).1 ++ ((enN x3).1 ++ ((enR (.lst zA6) v4).1 ++ ((enN x5).1 ++ (enR .tru x6).1)))))),((enN x0).2 || ((enN x1).2 || ((enN x2).2 || ((enN x3).2 || ((enR (.lst zA6) v4).2 || ((enN x5).2 || (enR .tru x6).2))))))):=rfl
theorem xA1 (x0:Int) (x1:Int) (x2:Int) (x3:Int) (v4:List (Vl zA6)) (x5:Int) (x6:Bool) : szb zC4 (x0,x1,x2,x3,v4,x5,x6) = 6 + (6 + (6 + (6 + (szb (.lst zA6) v4 + (6 + (6)))))):=rfl
theorem yU6 (x0:Int) (v1:Vl zA9) (x2:Bool) (x3:Bool) (x4:Int) (x5:Int) (x6:Int) : enR zB3 (x0,v1,x2,x3,x4,x5,x6) = (((enN x0).1 ++ ((enR zA9 v1).1 ++ ((enR .tru x2).1 ++ ((enR .tru x3).1 ++ ((enN x4).1 ++ ((enN x5).1 ++ (enN x6).1)))))),((enN x0).2 || ((enR zA9 v1).2 || ((enR .tru x2).2 || ((enR .tru x3).2 || ((enN x4).2 || ((enN x5).2 || (enN x6).2))))))):=rfl
theorem yS0 (x0:Int) (v1:Vl zA9) (x2:Bool) (x3:Bool) (x4:Int) (x5:Int) (x6:Int) : szb zB3 (x0,v1,x2,x3,x4,x5,x6) = 6 + (szb zA9 v1 + (6 + (6 + (6 + (6 + (6)))))):=rfl
theorem yU5 (x0:Int) (x1:Int) (x2:Int) (v3:List (Vl .num)) (v4:List (Vl zA7)) (x5:Bool) : enR zC5 (x0,x1,x2,v3,v4,x5) = (((enN x0).1 ++ ((enN x1).1 ++ ((enN x2).1 ++ ((enR (.lst .num) v3).1 ++ ((enR (.lst zA7) v4).1 ++ (enR .tru x5).1))))),((enN x0).2 || ((enN x1).2 || ((enN x2).2 || ((enR (.lst .num) v3).2 || ((enR (.lst zA7) v4).2 || (enR .tru x5).2)))))):=rfl
theorem yR9 (x0:Int) (x1:Int) (x2:Int) (v3:List (Vl .num)) (v4:List (Vl zA7)) (x5:Bool) : szb zC5 (x0,x1,x2,v3,v4,x5) = 6 + (6 + (6 + (szb (.lst .num) v3 + (szb (.lst zA7) v4 + (6))))):=rfl
theorem xF8 (x0:Int) (x1:Int) (x2:Int) (v3:Vl zC4) (v4:Vl zB3) (v5:List (Vl zA4)) (v6:Vl zC5) (v7:Vl zB4) : enR zD4 (x0,x1,x2,v3,v4,v5,v6,v7) = (((enN x0).1 ++ ((enN x1).1 ++ ((enN x2).1 ++ ((enR zC4 v3).1 ++ ((enR zB3 v4).1 ++ ((enR (.lst zA4) v5).1 ++ ((enR zC5 v6).1 ++ (enR zB4 v7).1))))))),((enN x0).2 || ((enN x1).2 || ((enN x2).2 || ((enR zC4 v3).2 || ((enR zB3 v4).2 || ((enR (.lst zA4) v5).2 || ((enR zC5 v6).2 || (enR zB4 v7).2)))))))):=rfl
theorem xA2 (x0:Int) (x1:Int) (x2:Int) (v3:Vl zC4) (v4:Vl zB3) (v5:List (Vl zA4)) (v6:Vl zC5) (v7:Vl zB4) : szb zD4 (x0,x1,x2,v3,v4,v5,v6,v7) = 6 + (6 + (6 + (szb zC4 v3 + (szb zB3 v4 + (szb (.lst zA4) v5 + (szb zC5 v6 + (szb zB4 v7))))))):=rfl
theorem yK9 (x0:Int) (x1:Int) (v2:Vl zD4) : enR zA8 (x0,x1,v2) = (((enN x0).1 ++ ((enN x1).1 ++ (enR zD4 v2).1)),((enN x0).2 || ((enN x1).2 || (enR zD4 v2).2))):=rfl
theorem yH9 (x0:Int) (x1:Int) (v2:Vl zD4) : szb zA8 (x0,x1,v2) = 6 + (6 + (szb zD4 v2)):=rfl
theorem zV0 (x0:Int) (x1:Int) (v2:Vl zB4) (v3:List UInt8) : enR zA2 (x0,x1,v2,v3) = (((enN x0).1 ++ ((enN x1).1 ++ ((enR zB4 v2).1 ++ (enR .byt v3).1))),((enN x0).2 || ((enN x1).2 || ((enR zB4 v2).2 || (enR .byt v3).2)))):=rfl
theorem zU2 (x0:Int) (x1:Int) (v2:Vl zB4) (v3:List UInt8) : szb zA2 (x0,x1,v2,v3) = 6 + (6 + (szb zB4 v2 + (szb .byt v3))):=rfl
end
end Go.Proofs.YtocoimjhglackaaGreat
