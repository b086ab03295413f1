/- Vrb -/
import Derived.Test.YtocoimjhglackaaGreatK13
set_option maxHeartbeats 8000000
set_option maxRecDepth 100000
namespace Go.Proofs.YtocoimjhglackaaGreat
section
open Go.RowKit
theorem kE6 (s:Option (List UInt8)) : de zC4 s = ((numV s,numV (numS s),numV (numS (numS s)),numV (numS (numS (numS s))),(de (.lst zA6) (numS (numS (numS (numS s))))).1,numV ((de (.lst zA6) (numS (numS (numS (numS s))))).2),decide (numV (numS ((de (.lst zA6) (numS (numS (numS (numS s))))).2)) = 1)),(truS (numS ((de (.lst zA6) (numS (numS (numS (numS s))))).2)))):=(de_c (de_n s) (de_c (de_n (numS s)) (de_c (de_n (numS (numS s))) (de_c (de_n (numS (numS (numS s)))) (de_c (de_e (.lst zA6) (numS (numS (numS (numS s))))) (de_c (de_n ((de (.lst zA6) (numS (numS (numS (numS s))))).2)) (de_t (numS ((de (.lst zA6) (numS (numS (numS (numS s))))).2)))))))))
theorem kH2 {D:Nat} (p:Nat) (s:Option (List UInt8)) (w:World) (h:RG D w p s) :
    Calls Tryz.prog 175 #[.pointer (some ⟨p,0,none⟩)] w fun e w'=>∃ cs : List Value,e = .returned (.agg cs.toArray)/\Rep w' (NB w w') zC4 cs (de zC4 s).1/\RG D w' p (de zC4 s).2/\RS w w' p:=by
 rw [kE6]
 have hmf : ∀ (fn:Fn) (first cap:Array Value) (w:World),(Instr.makeFunc fn first cap).run Tryz.prog w = .ok (.func fn first cap) w:=fun _ _ _ _=>rfl
 have hB0 : Below w.heap.size w (w.alloc (.cells #[.int .i64 0,.int .i64 0,.int .i64 0,.int .i64 0,.slice none 0 0,.int .i64 0,.bool false] 61)):=(Below.refl _ _).alloc (Nat.le_refl _) _
 have h0 : RG D (w.alloc (.cells #[.int .i64 0,.int .i64 0,.int .i64 0,.int .i64 0,.slice none 0 0,.int .i64 0,.bool false] 61)) p s:=h.ext hB0 h.1 h.2.1
 have s0 : RS w (w.alloc (.cells #[.int .i64 0,.int .i64 0,.int .i64 0,.int .i64 0,.slice none 0 0,.int .i64 0,.bool false] 61)) p:=(RS.refl _ _).alloc _
 have g0 : Hid ((w.alloc (.cells #[.int .i64 0,.int .i64 0,.int .i64 0,.int .i64 0,.slice none 0 0,.int .i64 0,.bool false] 61)).heap[w.heap.size]? = some (.cells #[.int .i64 0,.int .i64 0,.int .i64 0,.int .i64 0,.slice none 0 0,.int .i64 0,.bool false] 61 (0,0))):=heap_alloc_new w _
 have z0 : w.heap.size < (w.alloc (.cells #[.int .i64 0,.int .i64 0,.int .i64 0,.int .i64 0,.slice none 0 0,.int .i64 0,.bool false] 61)).heap.size:=by rw [World.size_alloc]; omega
 have hpq : Hid (p ≠ w.heap.size):=by have:=h.1; show p ≠ _; omega
 have hDq : Hid (p < w.heap.size/\D<=w.heap.size):=⟨h.1,h.2.1⟩
 clear h hB0
 go_enter Tryz.func175,Tryz.ntmps175
 go_wp2_with fail
 refine (zF2 p s _ h0).mono ?_
 rintro e w1 ⟨rfl,h1,t1⟩
 have s1:=s0.trans t1
 have g1 : Hid (w1.heap[w.heap.size]? = some (.cells #[.int .i64 0,.int .i64 0,.int .i64 0,.int .i64 0,.slice none 0 0,.int .i64 0,.bool false] 61 (0,0))):=(t1.block _ z0 hpq.out.symm).trans g0.out
 have z1 : w.heap.size < w1.heap.size:=Nat.lt_of_lt_of_le z0 t1.size
 clear h0 t1 s0 g0 z0
 go_wp2_with fail
 refine (zF2 p (numS s) _ h1).mono ?_
 rintro e w2 ⟨rfl,h2,t2⟩
 have s2:=s1.trans t2
 have g2 : Hid (w2.heap[w.heap.size]? = some (.cells #[.int .i64 0,.int .i64 0,.int .i64 0,.int .i64 0,.slice none 0 0,.int .i64 0,.bool false] 61 (0,0))):=(t2.block _ z1 hpq.out.symm).trans g1.out
 have z2 : w.heap.size < w2.heap.size:=Nat.lt_of_lt_of_le z1 t2.size
 clear h1 t2 s1 g1 z1
 go_wp2_with fail
 refine (zF2 p (numS (numS s)) _ h2).mono ?_
 rintro e w3 ⟨rfl,h3,t3⟩
 have s3:=s2.trans t3
 have g3 : Hid (w3.heap[w.heap.size]? = some (.cells #[.int .i64 0,.int .i64 0,.int .i64 0,.int .i64 0,.slice none 0 0,.int .i64 0,.bool false] 61 (0,0))):=(t3.block _ z2 hpq.out.symm).trans g2.out
 have z3 : w.heap.size < w3.heap.size:=Nat.lt_of_lt_of_le z2 t3.size
 clear h2 t3 s2 g2 z2
 go_wp2_with fail
 refine (zF2 p (numS (numS (numS s))) _ h3).mono ?_
 rintro e w4 ⟨rfl,h4,t4⟩
 have s4:=s3.trans t4
 have g4 : Hid (w4.heap[w.heap.size]? = some (.cells #[.int .i64 0,.int .i64 0,.int .i64 0,.int .i64 0,.slice none 0 0,.int .i64 0,.bool false] 61 (0,0))):=(t4.block _ z3 hpq.out.symm).trans g3.out
 have z4 : w.heap.size < w4.heap.size:=Nat.lt_of_lt_of_le z3 t4.size
 clear h3 t4 s3 g3 z3
 go_wp2_with fail
 refine (yP3 p (numS (numS (numS (numS s)))) _ h4).mono ?_
 rintro e w5 ⟨a4,c4,rfl,q4,h5,t5⟩
 have Q4:=zB9 (q4.keptN (lo':=w.heap.size + 1) (Nat.le_refl _) (fun _ _ _=>rfl) z4)
 clear q4
 have s5:=s4.trans t5
 have g5 : Hid (w5.heap[w.heap.size]? = some (.cells #[.int .i64 0,.int .i64 0,.int .i64 0,.int .i64 0,.slice none 0 0,.int .i64 0,.bool false] 61 (0,0))):=(t5.block _ z4 hpq.out.symm).trans g4.out
 have z5 : w.heap.size < w5.heap.size:=Nat.lt_of_lt_of_le z4 t5.size
 clear h4 t5 s4 g4 z4
 go_wp2_with fail
 refine (zF2 p ((de (.lst zA6) (numS (numS (numS (numS s))))).2) _ h5).mono ?_
 rintro e w6 ⟨rfl,h6,t6⟩
 replace Q4:=zB9 (Q4.out.keptN (lo':=w.heap.size + 1) t6.size (fun b h1 h2=>t6.block b h2 (by have:=hDq.out.1; omega)) (Nat.le_refl _))
 have s6:=s5.trans t6
 have g6 : Hid (w6.heap[w.heap.size]? = some (.cells #[.int .i64 0,.int .i64 0,.int .i64 0,.int .i64 0,.slice none 0 0,.int .i64 0,.bool false] 61 (0,0))):=(t6.block _ z5 hpq.out.symm).trans g5.out
 have z6 : w.heap.size < w6.heap.size:=Nat.lt_of_lt_of_le z5 t6.size
 clear h5 t6 s5 g5 z5
 go_wp2_with fail
 refine (zX6 p (numS ((de (.lst zA6) (numS (numS (numS (numS s))))).2)) _ h6).mono ?_
 rintro e w7 ⟨rfl,h7,t7⟩
 replace Q4:=zB9 (Q4.out.keptN (lo':=w.heap.size + 1) t7.size (fun b h1 h2=>t7.block b h2 (by have:=hDq.out.1; omega)) (Nat.le_refl _))
 have s7:=s6.trans t7
 have g7 : Hid (w7.heap[w.heap.size]? = some (.cells #[.int .i64 0,.int .i64 0,.int .i64 0,.int .i64 0,.slice none 0 0,.int .i64 0,.bool false] 61 (0,0))):=(t7.block _ z6 hpq.out.symm).trans g6.out
 have z7 : w.heap.size < w7.heap.size:=Nat.lt_of_lt_of_le z6 t7.size
 clear h6 t7 s6 g6 z6
 have I0 : Hid ((Tryz.prog.info? 61).map (·.size) = some (#[.int .i64 (numV s),.int .i64 (numV (numS s)),.int .i64 (numV (numS (numS s))),.int .i64 (numV (numS (numS (numS s)))),.slice a4 (de (.lst zA6) (numS (numS (numS (numS s))))).1.length c4,.int .i64 (numV ((de (.lst zA6) (numS (numS (numS (numS s))))).2)),.bool (decide (numV (numS ((de (.lst zA6) (numS (numS (numS (numS s))))).2)) = 1))] : Array Value).size):=by show _ = _; kernel_rfl
 have REP : Hid (Rep w7 (NBr (w.heap.size + 1) w7) zC4 [.int .i64 (numV s),.int .i64 (numV (numS s)),.int .i64 (numV (numS (numS s))),.int .i64 (numV (numS (numS (numS s)))),.slice a4 (de (.lst zA6) (numS (numS (numS (numS s))))).1.length c4,.int .i64 (numV ((de (.lst zA6) (numS (numS (numS (numS s))))).2)),.bool (decide (numV (numS ((de (.lst zA6) (numS (numS (numS (numS s))))).2)) = 1))] (numV s,numV (numS s),numV (numS (numS s)),numV (numS (numS (numS s))),(de (.lst zA6) (numS (numS (numS (numS s))))).1,numV ((de (.lst zA6) (numS (numS (numS (numS s))))).2),decide (numV (numS ((de (.lst zA6) (numS (numS (numS (numS s))))).2)) = 1))):=by
  exact xQ2 (numV s) (numV (numS s)) (numV (numS (numS s))) (numV (numS (numS (numS s)))) a4 c4 ((de (.lst zA6) (numS (numS (numS (numS s))))).1) (numV ((de (.lst zA6) (numS (numS (numS (numS s))))).2)) (decide (numV (numS ((de (.lst zA6) (numS (numS (numS (numS s))))).2)) = 1)) Q4.out
 have O0 : Hid ((#[.int .i64 (numV s),.int .i64 (numV (numS s)),.int .i64 (numV (numS (numS s))),.int .i64 (numV (numS (numS (numS s)))),.slice a4 (de (.lst zA6) (numS (numS (numS (numS s))))).1.length c4,.int .i64 (numV ((de (.lst zA6) (numS (numS (numS (numS s))))).2)),.bool (decide (numV (numS ((de (.lst zA6) (numS (numS (numS (numS s))))).2)) = 1))] : Array Value).all (·.oneCell') = true):=REP.out.all
 go_wp2_with (refine wpList_store_row rfl 61 (.tmp 2) (.tmp 19) rfl w.heap.size #[.int .i64 (numV s),.int .i64 (numV (numS s)),.int .i64 (numV (numS (numS s))),.int .i64 (numV (numS (numS (numS s)))),.slice a4 (de (.lst zA6) (numS (numS (numS (numS s))))).1.length c4,.int .i64 (numV ((de (.lst zA6) (numS (numS (numS (numS s))))).2)),.bool (decide (numV (numS ((de (.lst zA6) (numS (numS (numS (numS s))))).2)) = 1))] rfl rfl 61 #[.int .i64 0,.int .i64 0,.int .i64 0,.int .i64 0,.slice none 0 0,.int .i64 0,.bool false] g7.out I0.out rfl O0.out ?_)
 refine bodyPost_ret (v:=.agg #[.int .i64 (numV s),.int .i64 (numV (numS s)),.int .i64 (numV (numS (numS s))),.int .i64 (numV (numS (numS (numS s)))),.slice a4 (de (.lst zA6) (numS (numS (numS (numS s))))).1.length c4,.int .i64 (numV ((de (.lst zA6) (numS (numS (numS (numS s))))).2)),.bool (decide (numV (numS ((de (.lst zA6) (numS (numS (numS (numS s))))).2)) = 1))]) ?_ rfl ⟨[.int .i64 (numV s),.int .i64 (numV (numS s)),.int .i64 (numV (numS (numS s))),.int .i64 (numV (numS (numS (numS s)))),.slice a4 (de (.lst zA6) (numS (numS (numS (numS s))))).1.length c4,.int .i64 (numV ((de (.lst zA6) (numS (numS (numS (numS s))))).2)),.bool (decide (numV (numS ((de (.lst zA6) (numS (numS (numS (numS s))))).2)) = 1))],rfl,?_,?_,?_⟩
 · refine results_cell_row Tryz.results175 _ _ w.heap.size 61 _ (0,0) _ ?_ (setRow_heap w7 w.heap.size _ _ 61 _ g7.out) Tryz.underlying61 rfl I0.out
   rfl
 · exact REP.out.keptN (by simp [World.setRow]) (fun b h1 h2=>setRow_other _ _ _ _ (by omega)) (Nat.le_succ _)
 · exact h7.ext ⟨rfl,rfl,rfl,by simp [World.setRow],fun k hk=>setRow_other _ _ _ _ (by omega)⟩ hDq.out.1 hDq.out.2
 · exact s7.setRow (Nat.le_refl _) _
theorem xX9 (s:Option (List UInt8)) : de zB3 s = ((numV s,(de zA9 (numS s)).1,decide (numV ((de zA9 (numS s)).2) = 1),decide (numV (truS ((de zA9 (numS s)).2)) = 1),numV (truS (truS ((de zA9 (numS s)).2))),numV (numS (truS (truS ((de zA9 (numS s)).2)))),numV (numS (numS (truS (truS ((de zA9 (numS s)).2)))))),(numS (numS (numS (truS (truS ((de zA9 (numS s)).2))))))):=(de_c (de_n s) (de_c (de_e zA9 (numS s)) (de_c (de_t ((de zA9 (numS s)).2)) (de_c (de_t (truS ((de zA9 (numS s)).2))) (de_c (de_n (truS (truS ((de zA9 (numS s)).2)))) (de_c (de_n (numS (truS (truS ((de zA9 (numS s)).2))))) (de_n (numS (numS (truS (truS ((de zA9 (numS s)).2))))))))))))
theorem kC4 {D:Nat} (p:Nat) (s:Option (List UInt8)) (w:World) (h:RG D w p s) :
    Calls Tryz.prog 176 #[.pointer (some ⟨p,0,none⟩)] w fun e w'=>∃ cs : List Value,e = .returned (.agg cs.toArray)/\Rep w' (NB w w') zB3 cs (de zB3 s).1/\RG D w' p (de zB3 s).2/\RS w w' p:=by
 rw [xX9]
 have hmf : ∀ (fn:Fn) (first cap:Array Value) (w:World),(Instr.makeFunc fn first cap).run Tryz.prog w = .ok (.func fn first cap) w:=fun _ _ _ _=>rfl
 have hB0 : Below w.heap.size w (w.alloc (.cells #[.int .i64 0,.int .i64 0,.int .i64 0,.bool false,.bool false,.int .i64 0,.int .i64 0,.int .i64 0] 65)):=(Below.refl _ _).alloc (Nat.le_refl _) _
 have h0 : RG D (w.alloc (.cells #[.int .i64 0,.int .i64 0,.int .i64 0,.bool false,.bool false,.int .i64 0,.int .i64 0,.int .i64 0] 65)) p s:=h.ext hB0 h.1 h.2.1
 have s0 : RS w (w.alloc (.cells #[.int .i64 0,.int .i64 0,.int .i64 0,.bool false,.bool false,.int .i64 0,.int .i64 0,.int .i64 0] 65)) p:=(RS.refl _ _).alloc _
 have g0 : Hid ((w.alloc (.cells #[.int .i64 0,.int .i64 0,.int .i64 0,.bool false,.bool false,.int .i64 0,.int .i64 0,.int .i64 0] 65)).heap[w.heap.size]? = some (.cells #[.int .i64 0,.int .i64 0,.int .i64 0,.bool false,.bool false,.int .i64 0,.int .i64 0,.int .i64 0] 65 (0,0))):=heap_alloc_new w _
 have z0 : w.heap.size < (w.alloc (.cells #[.int .i64 0,.int .i64 0,.int .i64 0,.bool false,.bool false,.int .i64 0,.int .i64 0,.int .i64 0] 65)).heap.size:=by rw [World.size_alloc]; omega
 have hpq : Hid (p ≠ w.heap.size):=by have:=h.1; show p ≠ _; omega
 have hDq : Hid (p < w.heap.size/\D<=w.heap.size):=⟨h.1,h.2.1⟩
 clear h hB0
 go_enter Tryz.func176,Tryz.ntmps176
 go_wp2_with fail
 refine (zF2 p s _ h0).mono ?_
 rintro e w1 ⟨rfl,h1,t1⟩
 have s1:=s0.trans t1
 have g1 : Hid (w1.heap[w.heap.size]? = some (.cells #[.int .i64 0,.int .i64 0,.int .i64 0,.bool false,.bool false,.int .i64 0,.int .i64 0,.int .i64 0] 65 (0,0))):=(t1.block _ z0 hpq.out.symm).trans g0.out
 have z1 : w.heap.size < w1.heap.size:=Nat.lt_of_lt_of_le z0 t1.size
 clear h0 t1 s0 g0 z0
 go_wp2_with fail
 refine (xU5 p (numS s) _ h1).mono ?_
 rintro e w2 ⟨cs1,rfl,q1,h2,t2⟩
 obtain ⟨y1_0,y1_1,rfl⟩:=zF3 cs1 q1.len
 have Q1:=zB9 (q1.keptN (lo':=w.heap.size + 1) (Nat.le_refl _) (fun _ _ _=>rfl) z1)
 clear q1
 have s2:=s1.trans t2
 have g2 : Hid (w2.heap[w.heap.size]? = some (.cells #[.int .i64 0,.int .i64 0,.int .i64 0,.bool false,.bool false,.int .i64 0,.int .i64 0,.int .i64 0] 65 (0,0))):=(t2.block _ z1 hpq.out.symm).trans g1.out
 have z2 : w.heap.size < w2.heap.size:=Nat.lt_of_lt_of_le z1 t2.size
 clear h1 t2 s1 g1 z1
 go_wp2_with fail
 refine (zX6 p ((de zA9 (numS s)).2) _ h2).mono ?_
 rintro e w3 ⟨rfl,h3,t3⟩
 replace Q1:=zB9 (Q1.out.keptN (lo':=w.heap.size + 1) t3.size (fun b h1 h2=>t3.block b h2 (by have:=hDq.out.1; omega)) (Nat.le_refl _))
 have s3:=s2.trans t3
 have g3 : Hid (w3.heap[w.heap.size]? = some (.cells #[.int .i64 0,.int .i64 0,.int .i64 0,.bool false,.bool false,.int .i64 0,.int .i64 0,.int .i64 0] 65 (0,0))):=(t3.block _ z2 hpq.out.symm).trans g2.out
 have z3 : w.heap.size < w3.heap.size:=Nat.lt_of_lt_of_le z2 t3.size
 clear h2 t3 s2 g2 z2
 go_wp2_with fail
 refine (zX6 p (truS ((de zA9 (numS s)).2)) _ h3).mono ?_
 rintro e w4 ⟨rfl,h4,t4⟩
 replace Q1:=zB9 (Q1.out.keptN (lo':=w.heap.size + 1) t4.size (fun b h1 h2=>t4.block b h2 (by have:=hDq.out.1; omega)) (Nat.le_refl _))
 have s4:=s3.trans t4
 have g4 : Hid (w4.heap[w.heap.size]? = some (.cells #[.int .i64 0,.int .i64 0,.int .i64 0,.bool false,.bool false,.int .i64 0,.int .i64 0,.int .i64 0] 65 (0,0))):=(t4.block _ z3 hpq.out.symm).trans g3.out
 have z4 : w.heap.size < w4.heap.size:=Nat.lt_of_lt_of_le z3 t4.size
 clear h3 t4 s3 g3 z3
 go_wp2_with fail
 refine (zF2 p (truS (truS ((de zA9 (numS s)).2))) _ h4).mono ?_
 rintro e w5 ⟨rfl,h5,t5⟩
 replace Q1:=zB9 (Q1.out.keptN (lo':=w.heap.size + 1) t5.size (fun b h1 h2=>t5.block b h2 (by have:=hDq.out.1; omega)) (Nat.le_refl _))
 have s5:=s4.trans t5
 have g5 : Hid (w5.heap[w.heap.size]? = some (.cells #[.int .i64 0,.int .i64 0,.int .i64 0,.bool false,.bool false,.int .i64 0,.int .i64 0,.int .i64 0] 65 (0,0))):=(t5.block _ z4 hpq.out.symm).trans g4.out
 have z5 : w.heap.size < w5.heap.size:=Nat.lt_of_lt_of_le z4 t5.size
 clear h4 t5 s4 g4 z4
 go_wp2_with fail
 refine (zF2 p (numS (truS (truS ((de zA9 (numS s)).2)))) _ h5).mono ?_
 rintro e w6 ⟨rfl,h6,t6⟩
 replace Q1:=zB9 (Q1.out.keptN (lo':=w.heap.size + 1) t6.size (fun b h1 h2=>t6.block b h2 (by have:=hDq.out.1; omega)) (Nat.le_refl _))
 have s6:=s5.trans t6
 have g6 : Hid (w6.heap[w.heap.size]? = some (.cells #[.int .i64 0,.int .i64 0,.int .i64 0,.bool false,.bool false,.int .i64 0,.int .i64 0,.int .i64 0] 65 (0,0))):=(t6.block _ z5 hpq.out.symm).trans g5.out
 have z6 : w.heap.size < w6.heap.size:=Nat.lt_of_lt_of_le z5 t6.size
 clear h5 t6 s5 g5 z5
 go_wp2_with fail
 refine (zF2 p (numS (numS (truS (truS ((de zA9 (numS s)).2))))) _ h6).mono ?_
 rintro e w7 ⟨rfl,h7,t7⟩
 replace Q1:=zB9 (Q1.out.keptN (lo':=w.heap.size + 1) t7.size (fun b h1 h2=>t7.block b h2 (by have:=hDq.out.1; omega)) (Nat.le_refl _))
 have s7:=s6.trans t7
 have g7 : Hid (w7.heap[w.heap.size]? = some (.cells #[.int .i64 0,.int .i64 0,.int .i64 0,.bool false,.bool false,.int .i64 0,.int .i64 0,.int .i64 0] 65 (0,0))):=(t7.block _ z6 hpq.out.symm).trans g6.out
 have z7 : w.heap.size < w7.heap.size:=Nat.lt_of_lt_of_le z6 t7.size
 clear h6 t7 s6 g6 z6
 have I0 : Hid ((Tryz.prog.info? 65).map (·.size) = some (#[.int .i64 (numV s),y1_0,y1_1,.bool (decide (numV ((de zA9 (numS s)).2) = 1)),.bool (decide (numV (truS ((de zA9 (numS s)).2)) = 1)),.int .i64 (numV (truS (truS ((de zA9 (numS s)).2)))),.int .i64 (numV (numS (truS (truS ((de zA9 (numS s)).2))))),.int .i64 (numV (numS (numS (truS (truS ((de zA9 (numS s)).2))))))] : Array Value).size):=by show _ = _; kernel_rfl
 have REP : Hid (Rep w7 (NBr (w.heap.size + 1) w7) zB3 [.int .i64 (numV s),y1_0,y1_1,.bool (decide (numV ((de zA9 (numS s)).2) = 1)),.bool (decide (numV (truS ((de zA9 (numS s)).2)) = 1)),.int .i64 (numV (truS (truS ((de zA9 (numS s)).2)))),.int .i64 (numV (numS (truS (truS ((de zA9 (numS s)).2))))),.int .i64 (numV (numS (numS (truS (truS ((de zA9 (numS s)).2))))))] (numV s,(de zA9 (numS s)).1,decide (numV ((de zA9 (numS s)).2) = 1),decide (numV (truS ((de zA9 (numS s)).2)) = 1),numV (truS (truS ((de zA9 (numS s)).2))),numV (numS (truS (truS ((de zA9 (numS s)).2)))),numV (numS (numS (truS (truS ((de zA9 (numS s)).2))))))):=by
  exact xD8 (numV s) y1_0 y1_1 ((de zA9 (numS s)).1) (decide (numV ((de zA9 (numS s)).2) = 1)) (decide (numV (truS ((de zA9 (numS s)).2)) = 1)) (numV (truS (truS ((de zA9 (numS s)).2)))) (numV (numS (truS (truS ((de zA9 (numS s)).2))))) (numV (numS (numS (truS (truS ((de zA9 (numS s)).2)))))) Q1.out
 have O0 : Hid ((#[.int .i64 (numV s),y1_0,y1_1,.bool (decide (numV ((de zA9 (numS s)).2) = 1)),.bool (decide (numV (truS ((de zA9 (numS s)).2)) = 1)),.int .i64 (numV (truS (truS ((de zA9 (numS s)).2)))),.int .i64 (numV (numS (truS (truS ((de zA9 (numS s)).2))))),.int .i64 (numV (numS (numS (truS (truS ((de zA9 (numS s)).2))))))] : Array Value).all (·.oneCell') = true):=REP.out.all
 go_wp2_with (refine wpList_store_row rfl 65 (.tmp 2) (.tmp 17) rfl w.heap.size #[.int .i64 (numV s),y1_0,y1_1,.bool (decide (numV ((de zA9 (numS s)).2) = 1)),.bool (decide (numV (truS ((de zA9 (numS s)).2)) = 1)),.int .i64 (numV (truS (truS ((de zA9 (numS s)).2)))),.int .i64 (numV (numS (truS (truS ((de zA9 (numS s)).2))))),.int .i64 (numV (numS (numS (truS (truS ((de zA9 (numS s)).2))))))] rfl rfl 65 #[.int .i64 0,.int .i64 0,.int .i64 0,.bool false,.bool false,.int .i64 0,.int .i64 0,.int .i64 0] g7.out I0.out rfl O0.out ?_)
 refine bodyPost_ret (v:=.agg #[.int .i64 (numV s),y1_0,y1_1,.bool (decide (numV ((de zA9 (numS s)).2) = 1)),.bool (decide (numV (truS ((de zA9 (numS s)).2)) = 1)),.int .i64 (numV (truS (truS ((de zA9 (numS s)).2)))),.int .i64 (numV (numS (truS (truS ((de zA9 (numS s)).2))))),.int .i64 (numV (numS (numS (truS (truS ((de zA9 (numS s)).2))))))]) ?_ rfl ⟨[.int .i64 (numV s),y1_0,y1_1,.bool (decide (numV ((de zA9 (numS s)).2) = 1)),.bool (decide (numV (truS ((de zA9 (numS s)).2)) = 1)),.int .i64 (numV (truS (truS ((de zA9 (numS s)).2)))),.int .i64 (numV (numS (truS (truS ((de zA9 (numS s)).2))))),.int .i64 (numV (numS (numS (truS (truS ((de zA9 (numS s)).2))))))],rfl,?_,?_,?_⟩
 · refine results_cell_row Tryz.results176 _ _ w.heap.size 65 _ (0,0) _ ?_ (setRow_heap w7 w.heap.size _ _ 65 _ g7.out) Tryz.underlying65 rfl I0.out
   rfl
 · exact REP.out.keptN (by simp [World.setRow]) (fun b h1 h2=>setRow_other _ _ _ _ (by omega)) (Nat.le_succ _)
 · exact h7.ext ⟨rfl,rfl,rfl,by simp [World.setRow],fun k hk=>setRow_other _ _ _ _ (by omega)⟩ hDq.out.1 hDq.out.2
 · exact s7.setRow (Nat.le_refl _) _
theorem xX8 (s:Option (List UInt8)) : de zC5 s = ((numV s,numV (numS s),numV (numS (numS s)),(de (.lst .num) (numS (numS (numS s)))).1,(de (.lst zA7) ((de (.lst .num) (numS (numS (numS s)))).2)).1,decide (numV ((de (.lst zA7) ((de (.lst .num) (numS (numS (numS s)))).2)).2) = 1)),(truS ((de (.lst zA7) ((de (.lst .num) (numS (numS (numS s)))).2)).2))):=(de_c (de_n s) (de_c (de_n (numS s)) (de_c (de_n (numS (numS s))) (de_c (de_e (.lst .num) (numS (numS (numS s)))) (de_c (de_e (.lst zA7) ((de (.lst .num) (numS (numS (numS s)))).2)) (de_t ((de (.lst zA7) ((de (.lst .num) (numS (numS (numS s)))).2)).2)))))))
theorem kC1 {D:Nat} (p:Nat) (s:Option (List UInt8)) (w:World) (h:RG D w p s) :
    Calls Tryz.prog 179 #[.pointer (some ⟨p,0,none⟩)] w fun e w'=>∃ cs : List Value,e = .returned (.agg cs.toArray)/\Rep w' (NB w w') zC5 cs (de zC5 s).1/\RG D w' p (de zC5 s).2/\RS w w' p:=by
 rw [xX8]
 have hmf : ∀ (fn:Fn) (first cap:Array Value) (w:World),(Instr.makeFunc fn first cap).run Tryz.prog w = .ok (.func fn first cap) w:=fun _ _ _ _=>rfl
 have hB0 : Below w.heap.size w (w.alloc (.cells #[.int .i64 0,.int .i64 0,.int .i64 0,.slice none 0 0,.slice none 0 0,.bool false] 69)):=(Below.refl _ _).alloc (Nat.le_refl _) _
 have h0 : RG D (w.alloc (.cells #[.int .i64 0,.int .i64 0,.int .i64 0,.slice none 0 0,.slice none 0 0,.bool false] 69)) p s:=h.ext hB0 h.1 h.2.1
 have s0 : RS w (w.alloc (.cells #[.int .i64 0,.int .i64 0,.int .i64 0,.slice none 0 0,.slice none 0 0,.bool false] 69)) p:=(RS.refl _ _).alloc _
 have g0 : Hid ((w.alloc (.cells #[.int .i64 0,.int .i64 0,.int .i64 0,.slice none 0 0,.slice none 0 0,.bool false] 69)).heap[w.heap.size]? = some (.cells #[.int .i64 0,.int .i64 0,.int .i64 0,.slice none 0 0,.slice none 0 0,.bool false] 69 (0,0))):=heap_alloc_new w _
 have z0 : w.heap.size < (w.alloc (.cells #[.int .i64 0,.int .i64 0,.int .i64 0,.slice none 0 0,.slice none 0 0,.bool false] 69)).heap.size:=by rw [World.size_alloc]; omega
 have hpq : Hid (p ≠ w.heap.size):=by have:=h.1; show p ≠ _; omega
 have hDq : Hid (p < w.heap.size/\D<=w.heap.size):=⟨h.1,h.2.1⟩
 clear h hB0
 go_enter Tryz.func179,Tryz.ntmps179
 go_wp2_with fail
 refine (zF2 p s _ h0).mono ?_
 rintro e w1 ⟨rfl,h1,t1⟩
 have s1:=s0.trans t1
 have g1 : Hid (w1.heap[w.heap.size]? = some (.cells #[.int .i64 0,.int .i64 0,.int .i64 0,.slice none 0 0,.slice none 0 0,.bool false] 69 (0,0))):=(t1.block _ z0 hpq.out.symm).trans g0.out
 have z1 : w.heap.size < w1.heap.size:=Nat.lt_of_lt_of_le z0 t1.size
 clear h0 t1 s0 g0 z0
 go_wp2_with fail
 refine (zF2 p (numS s) _ h1).mono ?_
 rintro e w2 ⟨rfl,h2,t2⟩
 have s2:=s1.trans t2
 have g2 : Hid (w2.heap[w.heap.size]? = some (.cells #[.int .i64 0,.int .i64 0,.int .i64 0,.slice none 0 0,.slice none 0 0,.bool false] 69 (0,0))):=(t2.block _ z1 hpq.out.symm).trans g1.out
 have z2 : w.heap.size < w2.heap.size:=Nat.lt_of_lt_of_le z1 t2.size
 clear h1 t2 s1 g1 z1
 go_wp2_with fail
 refine (zF2 p (numS (numS s)) _ h2).mono ?_
 rintro e w3 ⟨rfl,h3,t3⟩
 have s3:=s2.trans t3
 have g3 : Hid (w3.heap[w.heap.size]? = some (.cells #[.int .i64 0,.int .i64 0,.int .i64 0,.slice none 0 0,.slice none 0 0,.bool false] 69 (0,0))):=(t3.block _ z2 hpq.out.symm).trans g2.out
 have z3 : w.heap.size < w3.heap.size:=Nat.lt_of_lt_of_le z2 t3.size
 clear h2 t3 s2 g2 z2
 go_wp2_with fail
 refine (zY8 p (numS (numS (numS s))) _ h3).mono ?_
 rintro e w4 ⟨a3,c3,rfl,q3,h4,t4⟩
 have Q3:=zB9 (q3.keptN (lo':=w.heap.size + 1) (Nat.le_refl _) (fun _ _ _=>rfl) z3)
 clear q3
 have s4:=s3.trans t4
 have g4 : Hid (w4.heap[w.heap.size]? = some (.cells #[.int .i64 0,.int .i64 0,.int .i64 0,.slice none 0 0,.slice none 0 0,.bool false] 69 (0,0))):=(t4.block _ z3 hpq.out.symm).trans g3.out
 have z4 : w.heap.size < w4.heap.size:=Nat.lt_of_lt_of_le z3 t4.size
 clear h3 t4 s3 g3 z3
 go_wp2_with fail
 refine (yP5 p ((de (.lst .num) (numS (numS (numS s)))).2) _ h4).mono ?_
 rintro e w5 ⟨a4,c4,rfl,q4,h5,t5⟩
 replace Q3:=zB9 (Q3.out.keptN (lo':=w.heap.size + 1) t5.size (fun b h1 h2=>t5.block b h2 (by have:=hDq.out.1; omega)) (Nat.le_refl _))
 have Q4:=zB9 (q4.keptN (lo':=w.heap.size + 1) (Nat.le_refl _) (fun _ _ _=>rfl) z4)
 clear q4
 have s5:=s4.trans t5
 have g5 : Hid (w5.heap[w.heap.size]? = some (.cells #[.int .i64 0,.int .i64 0,.int .i64 0,.slice none 0 0,.slice none 0 0,.bool false] 69 (0,0))):=(t5.block _ z4 hpq.out.symm).trans g4.out
 have z5 : w.heap.size < w5.heap.size:=Nat.lt_of_lt_of_le z4 t5.size
 clear h4 t5 s4 g4 z4
 go_wp2_with fail
 refine (zX6 p ((de (.lst zA7) ((de (.lst .num) (numS (numS (numS s)))).2)).2) _ h5).mono ?_
 rintro e w6 ⟨rfl,h6,t6⟩
 replace Q3:=zB9 (Q3.out.keptN (lo':=w.heap.size + 1) t6.size (fun b h1 h2=>t6.block b h2 (by have:=hDq.out.1; omega)) (Nat.le_refl _))
 replace Q4:=zB9 (Q4.out.keptN (lo':=w.heap.size + 1) t6.size (fun b h1 h2=>t6.block b h2 (by have:=hDq.out.1; omega)) (Nat.le_refl _))
 have s6:=s5.trans t6
 have g6 : Hid (w6.heap[w.heap.size]? = some (.cells #[.int .i64 0,.int .i64 0,.int .i64 0,.slice none 0 0,.slice none 0 0,.bool false] 69 (0,0))):=(t6.block _ z5 hpq.out.symm).trans g5.out
 have z6 : w.heap.size < w6.heap.size:=Nat.lt_of_lt_of_le z5 t6.size
 clear h5 t6 s5 g5 z5
 have I0 : Hid ((Tryz.prog.info? 69).map (·.size) = some (#[.int .i64 (numV s),.int .i64 (numV (numS s)),.int .i64 (numV (numS (numS s))),.slice a3 (de (.lst .num) (numS (numS (numS s)))).1.length c3,.slice a4 (de (.lst zA7) ((de (.lst .num) (numS (numS (numS s)))).2)).1.length c4,.bool (decide (numV ((de (.lst zA7) ((de (.lst .num) (numS (numS (numS s)))).2)).2) = 1))] : Array Value).size):=by show _ = _; kernel_rfl
 have REP : Hid (Rep w6 (NBr (w.heap.size + 1) w6) zC5 [.int .i64 (numV s),.int .i64 (numV (numS s)),.int .i64 (numV (numS (numS s))),.slice a3 (de (.lst .num) (numS (numS (numS s)))).1.length c3,.slice a4 (de (.lst zA7) ((de (.lst .num) (numS (numS (numS s)))).2)).1.length c4,.bool (decide (numV ((de (.lst zA7) ((de (.lst .num) (numS (numS (numS s)))).2)).2) = 1))] (numV s,numV (numS s),numV (numS (numS s)),(de (.lst .num) (numS (numS (numS s)))).1,(de (.lst zA7) ((de (.lst .num) (numS (numS (numS s)))).2)).1,decide (numV ((de (.lst zA7) ((de (.lst .num) (numS (numS (numS s)))).2)).2) = 1))):=by
  exact xD7 (numV s) (numV (numS s)) (numV (numS (numS s))) a3 c3 ((de (.lst .num) (numS (numS (numS s)))).1) a4 c4 ((de (.lst zA7) ((de (.lst .num) (numS (numS (numS s)))).2)).1) (decide (numV ((de (.lst zA7) ((de (.lst .num) (numS (numS (numS s)))).2)).2) = 1)) Q3.out Q4.out
 have O0 : Hid ((#[.int .i64 (numV s),.int .i64 (numV (numS s)),.int .i64 (numV (numS (numS s))),.slice a3 (de (.lst .num) (numS (numS (numS s)))).1.length c3,.slice a4 (de (.lst zA7) ((de (.lst .num) (numS (numS (numS s)))).2)).1.length c4,.bool (decide (numV ((de (.lst zA7) ((de (.lst .num) (numS (numS (numS s)))).2)).2) = 1))] : Array Value).all (·.oneCell') = true):=REP.out.all
 go_wp2_with (refine wpList_store_row rfl 69 (.tmp 2) (.tmp 19) rfl w.heap.size #[.int .i64 (numV s),.int .i64 (numV (numS s)),.int .i64 (numV (numS (numS s))),.slice a3 (de (.lst .num) (numS (numS (numS s)))).1.length c3,.slice a4 (de (.lst zA7) ((de (.lst .num) (numS (numS (numS s)))).2)).1.length c4,.bool (decide (numV ((de (.lst zA7) ((de (.lst .num) (numS (numS (numS s)))).2)).2) = 1))] rfl rfl 69 #[.int .i64 0,.int .i64 0,.int .i64 0,.slice none 0 0,.slice none 0 0,.bool false] g6.out I0.out rfl O0.out ?_)
 refine bodyPost_ret (v:=.agg #[.int .i64 (numV s),.int .i64 (numV (numS s)),.int .i64 (numV (numS (numS s))),.slice a3 (de (.lst .num) (numS (numS (numS s)))).1.length c3,.slice a4 (de (.lst zA7) ((de (.lst .num) (numS (numS (numS s)))).2)).1.length c4,.bool (decide (numV ((de (.lst zA7) ((de (.lst .num) (numS (numS (numS s)))).2)).2) = 1))]) ?_ rfl ⟨[.int .i64 (numV s),.int .i64 (numV (numS s)),.int .i64 (numV (numS (numS s))),.slice a3 (de (.lst .num) (numS (numS (numS s)))).1.length c3,.slice a4 (de (.lst zA7) ((de (.lst .num) (numS (numS (numS s)))).2)).1.length c4,.bool (decide (numV ((de (.lst zA7) ((de (.lst .num) (numS (numS (numS s)))).2)).2) = 1))],rfl,?_,?_,?_⟩
 · refine results_cell_row Tryz.results179 _ _ w.heap.size 69 _ (0,0) _ ?_ (setRow_heap w6 w.heap.size _ _ 69 _ g6.out) Tryz.underlying69 rfl I0.out
   rfl
 · exact REP.out.keptN (by simp [World.setRow]) (fun b h1 h2=>setRow_other _ _ _ _ (by omega)) (Nat.le_succ _)
 · exact h6.ext ⟨rfl,rfl,rfl,by simp [World.setRow],fun k hk=>setRow_other _ _ _ _ (by omega)⟩ hDq.out.1 hDq.out.2
 · exact s6.setRow (Nat.le_refl _) _
theorem kE7 (s:Option (List UInt8)) : de zD4 s = ((numV s,numV (numS s),numV (numS (numS s)),(de zC4 (numS (numS (numS s)))).1,(de zB3 ((de zC4 (numS (numS (numS s)))).2)).1,(de (.lst zA4) ((de zB3 ((de zC4 (numS (numS (numS s)))).2)).2)).1,(de zC5 ((de (.lst zA4) ((de zB3 ((de zC4 (numS (numS (numS s)))).2)).2)).2)).1,(de zB4 ((de zC5 ((de (.lst zA4) ((de zB3 ((de zC4 (numS (numS (numS s)))).2)).2)).2)).2)).1),((de zB4 ((de zC5 ((de (.lst zA4) ((de zB3 ((de zC4 (numS (numS (numS s)))).2)).2)).2)).2)).2)):=(de_c (de_n s) (de_c (de_n (numS s)) (de_c (de_n (numS (numS s))) (de_c (de_e zC4 (numS (numS (numS s)))) (de_c (de_e zB3 ((de zC4 (numS (numS (numS s)))).2)) (de_c (de_e (.lst zA4) ((de zB3 ((de zC4 (numS (numS (numS s)))).2)).2)) (de_c (de_e zC5 ((de (.lst zA4) ((de zB3 ((de zC4 (numS (numS (numS s)))).2)).2)).2)) (de_e zB4 ((de zC5 ((de (.lst zA4) ((de zB3 ((de zC4 (numS (numS (numS s)))).2)).2)).2)).2)))))))))
theorem kI4 {D:Nat} (p:Nat) (s:Option (List UInt8)) (w:World) (h:RG D w p s) :
    Calls Tryz.prog 146 #[.pointer (some ⟨p,0,none⟩)] w fun e w'=>∃ cs : List Value,e = .returned (.agg cs.toArray)/\Rep w' (NB w w') zD4 cs (de zD4 s).1/\RG D w' p (de zD4 s).2/\RS w w' p:=by
 rw [kE7]
 have hmf : ∀ (fn:Fn) (first cap:Array Value) (w:World),(Instr.makeFunc fn first cap).run Tryz.prog w = .ok (.func fn first cap) w:=fun _ _ _ _=>rfl
 have hB0 : Below w.heap.size w (w.alloc (.cells #[.int .i64 0,.int .i64 0,.int .i64 0,.int .i64 0,.int .i64 0,.int .i64 0,.int .i64 0,.slice none 0 0,.int .i64 0,.bool false,.int .i64 0,.int .i64 0,.int .i64 0,.bool false,.bool false,.int .i64 0,.int .i64 0,.int .i64 0,.slice none 0 0,.int .i64 0,.int .i64 0,.int .i64 0,.slice none 0 0,.slice none 0 0,.bool false,.slice none 0 0,.slice none 0 0] 71)):=(Below.refl _ _).alloc (Nat.le_refl _) _
 have h0 : RG D (w.alloc (.cells #[.int .i64 0,.int .i64 0,.int .i64 0,.int .i64 0,.int .i64 0,.int .i64 0,.int .i64 0,.slice none 0 0,.int .i64 0,.bool false,.int .i64 0,.int .i64 0,.int .i64 0,.bool false,.bool false,.int .i64 0,.int .i64 0,.int .i64 0,.slice none 0 0,.int .i64 0,.int .i64 0,.int .i64 0,.slice none 0 0,.slice none 0 0,.bool false,.slice none 0 0,.slice none 0 0] 71)) p s:=h.ext hB0 h.1 h.2.1
 have s0 : RS w (w.alloc (.cells #[.int .i64 0,.int .i64 0,.int .i64 0,.int .i64 0,.int .i64 0,.int .i64 0,.int .i64 0,.slice none 0 0,.int .i64 0,.bool false,.int .i64 0,.int .i64 0,.int .i64 0,.bool false,.bool false,.int .i64 0,.int .i64 0,.int .i64 0,.slice none 0 0,.int .i64 0,.int .i64 0,.int .i64 0,.slice none 0 0,.slice none 0 0,.bool false,.slice none 0 0,.slice none 0 0] 71)) p:=(RS.refl _ _).alloc _
 have g0 : Hid ((w.alloc (.cells #[.int .i64 0,.int .i64 0,.int .i64 0,.int .i64 0,.int .i64 0,.int .i64 0,.int .i64 0,.slice none 0 0,.int .i64 0,.bool false,.int .i64 0,.int .i64 0,.int .i64 0,.bool false,.bool false,.int .i64 0,.int .i64 0,.int .i64 0,.slice none 0 0,.int .i64 0,.int .i64 0,.int .i64 0,.slice none 0 0,.slice none 0 0,.bool false,.slice none 0 0,.slice none 0 0] 71)).heap[w.heap.size]? = some (.cells #[.int .i64 0,.int .i64 0,.int .i64 0,.int .i64 0,.int .i64 0,.int .i64 0,.int .i64 0,.slice none 0 0,.int .i64 0,.bool false,.int .i64 0,.int .i64 0,.int .i64 0,.bool false,.bool false,.int .i64 0,.int .i64 0,.int .i64 0,.slice none 0 0,.int .i64 0,.int .i64 0,.int .i64 0,.slice none 0 0,.slice none 0 0,.bool false,.slice none 0 0,.slice none 0 0] 71 (0,0))):=heap_alloc_new w _
 have z0 : w.heap.size < (w.alloc (.cells #[.int .i64 0,.int .i64 0,.int .i64 0,.int .i64 0,.int .i64 0,.int .i64 0,.int .i64 0,.slice none 0 0,.int .i64 0,.bool false,.int .i64 0,.int .i64 0,.int .i64 0,.bool false,.bool false,.int .i64 0,.int .i64 0,.int .i64 0,.slice none 0 0,.int .i64 0,.int .i64 0,.int .i64 0,.slice none 0 0,.slice none 0 0,.bool false,.slice none 0 0,.slice none 0 0] 71)).heap.size:=by rw [World.size_alloc]; omega
 have hpq : Hid (p ≠ w.heap.size):=by have:=h.1; show p ≠ _; omega
 have hDq : Hid (p < w.heap.size/\D<=w.heap.size):=⟨h.1,h.2.1⟩
 clear h hB0
 go_enter Tryz.func146,Tryz.ntmps146
 go_wp2_with fail
 refine (zF2 p s _ h0).mono ?_
 rintro e w1 ⟨rfl,h1,t1⟩
 have s1:=s0.trans t1
 have g1 : Hid (w1.heap[w.heap.size]? = some (.cells #[.int .i64 0,.int .i64 0,.int .i64 0,.int .i64 0,.int .i64 0,.int .i64 0,.int .i64 0,.slice none 0 0,.int .i64 0,.bool false,.int .i64 0,.int .i64 0,.int .i64 0,.bool false,.bool false,.int .i64 0,.int .i64 0,.int .i64 0,.slice none 0 0,.int .i64 0,.int .i64 0,.int .i64 0,.slice none 0 0,.slice none 0 0,.bool false,.slice none 0 0,.slice none 0 0] 71 (0,0))):=(t1.block _ z0 hpq.out.symm).trans g0.out
 have z1 : w.heap.size < w1.heap.size:=Nat.lt_of_lt_of_le z0 t1.size
 clear h0 t1 s0 g0 z0
 go_wp2_with fail
 refine (zF2 p (numS s) _ h1).mono ?_
 rintro e w2 ⟨rfl,h2,t2⟩
 have s2:=s1.trans t2
 have g2 : Hid (w2.heap[w.heap.size]? = some (.cells #[.int .i64 0,.int .i64 0,.int .i64 0,.int .i64 0,.int .i64 0,.int .i64 0,.int .i64 0,.slice none 0 0,.int .i64 0,.bool false,.int .i64 0,.int .i64 0,.int .i64 0,.bool false,.bool false,.int .i64 0,.int .i64 0,.int .i64 0,.slice none 0 0,.int .i64 0,.int .i64 0,.int .i64 0,.slice none 0 0,.slice none 0 0,.bool false,.slice none 0 0,.slice none 0 0] 71 (0,0))):=(t2.block _ z1 hpq.out.symm).trans g1.out
 have z2 : w.heap.size < w2.heap.size:=Nat.lt_of_lt_of_le z1 t2.size
 clear h1 t2 s1 g1 z1
 go_wp2_with fail
 refine (zF2 p (numS (numS s)) _ h2).mono ?_
 rintro e w3 ⟨rfl,h3,t3⟩
 have s3:=s2.trans t3
 have g3 : Hid (w3.heap[w.heap.size]? = some (.cells #[.int .i64 0,.int .i64 0,.int .i64 0,.int .i64 0,.int .i64 0,.int .i64 0,.int .i64 0,.slice none 0 0,.int .i64 0,.bool false,.int .i64 0,.int .i64 0,.int .i64 0,.bool false,.bool false,.int .i64 0,.int .i64 0,.int .i64 0,.slice none 0 0,.int .i64 0,.int .i64 0,.int .i64 0,.slice none 0 0,.slice none 0 0,.bool false,.slice none 0 0,.slice none 0 0] 71 (0,0))):=(t3.block _ z2 hpq.out.symm).trans g2.out
 have z3 : w.heap.size < w3.heap.size:=Nat.lt_of_lt_of_le z2 t3.size
 clear h2 t3 s2 g2 z2
 go_wp2_with fail
 refine (kH2 p (numS (numS (numS s))) _ h3).mono ?_
 rintro e w4 ⟨cs3,rfl,q3,h4,t4⟩
 obtain ⟨y3_0,y3_1,y3_2,y3_3,y3_4,y3_5,y3_6,rfl⟩:=yJ5 cs3 q3.len
 have Q3:=zB9 (q3.keptN (lo':=w.heap.size + 1) (Nat.le_refl _) (fun _ _ _=>rfl) z3)
 clear q3
 have s4:=s3.trans t4
 have g4 : Hid (w4.heap[w.heap.size]? = some (.cells #[.int .i64 0,.int .i64 0,.int .i64 0,.int .i64 0,.int .i64 0,.int .i64 0,.int .i64 0,.slice none 0 0,.int .i64 0,.bool false,.int .i64 0,.int .i64 0,.int .i64 0,.bool false,.bool false,.int .i64 0,.int .i64 0,.int .i64 0,.slice none 0 0,.int .i64 0,.int .i64 0,.int .i64 0,.slice none 0 0,.slice none 0 0,.bool false,.slice none 0 0,.slice none 0 0] 71 (0,0))):=(t4.block _ z3 hpq.out.symm).trans g3.out
 have z4 : w.heap.size < w4.heap.size:=Nat.lt_of_lt_of_le z3 t4.size
 clear h3 t4 s3 g3 z3
 go_wp2_with fail
 refine (kC4 p ((de zC4 (numS (numS (numS s)))).2) _ h4).mono ?_
 rintro e w5 ⟨cs4,rfl,q4,h5,t5⟩
 obtain ⟨y4_0,y4_1,y4_2,y4_3,y4_4,y4_5,y4_6,y4_7,rfl⟩:=yJ4 cs4 q4.len
 replace Q3:=zB9 (Q3.out.keptN (lo':=w.heap.size + 1) t5.size (fun b h1 h2=>t5.block b h2 (by have:=hDq.out.1; omega)) (Nat.le_refl _))
 have Q4:=zB9 (q4.keptN (lo':=w.heap.size + 1) (Nat.le_refl _) (fun _ _ _=>rfl) z4)
 clear q4
 have s5:=s4.trans t5
 have g5 : Hid (w5.heap[w.heap.size]? = some (.cells #[.int .i64 0,.int .i64 0,.int .i64 0,.int .i64 0,.int .i64 0,.int .i64 0,.int .i64 0,.slice none 0 0,.int .i64 0,.bool false,.int .i64 0,.int .i64 0,.int .i64 0,.bool false,.bool false,.int .i64 0,.int .i64 0,.int .i64 0,.slice none 0 0,.int .i64 0,.int .i64 0,.int .i64 0,.slice none 0 0,.slice none 0 0,.bool false,.slice none 0 0,.slice none 0 0] 71 (0,0))):=(t5.block _ z4 hpq.out.symm).trans g4.out
 have z5 : w.heap.size < w5.heap.size:=Nat.lt_of_lt_of_le z4 t5.size
 clear h4 t5 s4 g4 z4
 go_wp2_with fail
 refine (yJ8 p ((de zB3 ((de zC4 (numS (numS (numS s)))).2)).2) _ h5).mono ?_
 rintro e w6 ⟨a5,c5,rfl,q5,h6,t6⟩
 replace Q3:=zB9 (Q3.out.keptN (lo':=w.heap.size + 1) t6.size (fun b h1 h2=>t6.block b h2 (by have:=hDq.out.1; omega)) (Nat.le_refl _))
 replace Q4:=zB9 (Q4.out.keptN (lo':=w.heap.size + 1) t6.size (fun b h1 h2=>t6.block b h2 (by have:=hDq.out.1; omega)) (Nat.le_refl _))
 have Q5:=zB9 (q5.keptN (lo':=w.heap.size + 1) (Nat.le_refl _) (fun _ _ _=>rfl) z5)
 clear q5
 have s6:=s5.trans t6
 have g6 : Hid (w6.heap[w.heap.size]? = some (.cells #[.int .i64 0,.int .i64 0,.int .i64 0,.int .i64 0,.int .i64 0,.int .i64 0,.int .i64 0,.slice none 0 0,.int .i64 0,.bool false,.int .i64 0,.int .i64 0,.int .i64 0,.bool false,.bool false,.int .i64 0,.int .i64 0,.int .i64 0,.slice none 0 0,.int .i64 0,.int .i64 0,.int .i64 0,.slice none 0 0,.slice none 0 0,.bool false,.slice none 0 0,.slice none 0 0] 71 (0,0))):=(t6.block _ z5 hpq.out.symm).trans g5.out
 have z6 : w.heap.size < w6.heap.size:=Nat.lt_of_lt_of_le z5 t6.size
 clear h5 t6 s5 g5 z5
 go_wp2_with fail
 refine (kC1 p ((de (.lst zA4) ((de zB3 ((de zC4 (numS (numS (numS s)))).2)).2)).2) _ h6).mono ?_
 rintro e w7 ⟨cs6,rfl,q6,h7,t7⟩
 obtain ⟨y6_0,y6_1,y6_2,y6_3,y6_4,y6_5,rfl⟩:=yJ6 cs6 q6.len
 replace Q3:=zB9 (Q3.out.keptN (lo':=w.heap.size + 1) t7.size (fun b h1 h2=>t7.block b h2 (by have:=hDq.out.1; omega)) (Nat.le_refl _))
 replace Q4:=zB9 (Q4.out.keptN (lo':=w.heap.size + 1) t7.size (fun b h1 h2=>t7.block b h2 (by have:=hDq.out.1; omega)) (Nat.le_refl _))
 replace Q5:=zB9 (Q5.out.keptN (lo':=w.heap.size + 1) t7.size (fun b h1 h2=>t7.block b h2 (by have:=hDq.out.1; omega)) (Nat.le_refl _))
 have Q6:=zB9 (q6.keptN (lo':=w.heap.size + 1) (Nat.le_refl _) (fun _ _ _=>rfl) z6)
 clear q6
 have s7:=s6.trans t7
 have g7 : Hid (w7.heap[w.heap.size]? = some (.cells #[.int .i64 0,.int .i64 0,.int .i64 0,.int .i64 0,.int .i64 0,.int .i64 0,.int .i64 0,.slice none 0 0,.int .i64 0,.bool false,.int .i64 0,.int .i64 0,.int .i64 0,.bool false,.bool false,.int .i64 0,.int .i64 0,.int .i64 0,.slice none 0 0,.int .i64 0,.int .i64 0,.int .i64 0,.slice none 0 0,.slice none 0 0,.bool false,.slice none 0 0,.slice none 0 0] 71 (0,0))):=(t7.block _ z6 hpq.out.symm).trans g6.out
 have z7 : w.heap.size < w7.heap.size:=Nat.lt_of_lt_of_le z6 t7.size
 clear h6 t7 s6 g6 z6
 go_wp2_with fail
 refine (xR6 p ((de zC5 ((de (.lst zA4) ((de zB3 ((de zC4 (numS (numS (numS s)))).2)).2)).2)).2) _ h7).mono ?_
 rintro e w8 ⟨cs7,rfl,q7,h8,t8⟩
 obtain ⟨y7_0,y7_1,rfl⟩:=zF3 cs7 q7.len
 replace Q3:=zB9 (Q3.out.keptN (lo':=w.heap.size + 1) t8.size (fun b h1 h2=>t8.block b h2 (by have:=hDq.out.1; omega)) (Nat.le_refl _))
 replace Q4:=zB9 (Q4.out.keptN (lo':=w.heap.size + 1) t8.size (fun b h1 h2=>t8.block b h2 (by have:=hDq.out.1; omega)) (Nat.le_refl _))
 replace Q5:=zB9 (Q5.out.keptN (lo':=w.heap.size + 1) t8.size (fun b h1 h2=>t8.block b h2 (by have:=hDq.out.1; omega)) (Nat.le_refl _))
 replace Q6:=zB9 (Q6.out.keptN (lo':=w.heap.size + 1) t8.size (fun b h1 h2=>t8.block b h2 (by have:=hDq.out.1; omega)) (Nat.le_refl _))
 have Q7:=zB9 (q7.keptN (lo':=w.heap.size + 1) (Nat.le_refl _) (fun _ _ _=>rfl) z7)
 clear q7
 have s8:=s7.trans t8
 have g8 : Hid (w8.heap[w.heap.size]? = some (.cells #[.int .i64 0,.int .i64 0,.int .i64 0,.int .i64 0,.int .i64 0,.int .i64 0,.int .i64 0,.slice none 0 0,.int .i64 0,.bool false,.int .i64 0,.int .i64 0,.int .i64 0,.bool false,.bool false,.int .i64 0,.int .i64 0,.int .i64 0,.slice none 0 0,.int .i64 0,.int .i64 0,.int .i64 0,.slice none 0 0,.slice none 0 0,.bool false,.slice none 0 0,.slice none 0 0] 71 (0,0))):=(t8.block _ z7 hpq.out.symm).trans g7.out
 have z8 : w.heap.size < w8.heap.size:=Nat.lt_of_lt_of_le z7 t8.size
 clear h7 t8 s7 g7 z7
 have I0 : Hid ((Tryz.prog.info? 71).map (·.size) = some (#[.int .i64 (numV s),.int .i64 (numV (numS s)),.int .i64 (numV (numS (numS s))),y3_0,y3_1,y3_2,y3_3,y3_4,y3_5,y3_6,y4_0,y4_1,y4_2,y4_3,y4_4,y4_5,y4_6,y4_7,.slice a5 (de (.lst zA4) ((de zB3 ((de zC4 (numS (numS (numS s)))).2)).2)).1.length c5,y6_0,y6_1,y6_2,y6_3,y6_4,y6_5,y7_0,y7_1] : Array Value).size):=by show _ = _; kernel_rfl
 have REP : Hid (Rep w8 (NBr (w.heap.size + 1) w8) zD4 [.int .i64 (numV s),.int .i64 (numV (numS s)),.int .i64 (numV (numS (numS s))),y3_0,y3_1,y3_2,y3_3,y3_4,y3_5,y3_6,y4_0,y4_1,y4_2,y4_3,y4_4,y4_5,y4_6,y4_7,.slice a5 (de (.lst zA4) ((de zB3 ((de zC4 (numS (numS (numS s)))).2)).2)).1.length c5,y6_0,y6_1,y6_2,y6_3,y6_4,y6_5,y7_0,y7_1] (numV s,numV (numS s),numV (numS (numS s)),(de zC4 (numS (numS (numS s)))).1,(de zB3 ((de zC4 (numS (numS (numS s)))).2)).1,(de (.lst zA4) ((de zB3 ((de zC4 (numS (numS (numS s)))).2)).2)).1,(de zC5 ((de (.lst zA4) ((de zB3 ((de zC4 (numS (numS (numS s)))).2)).2)).2)).1,(de zB4 ((de zC5 ((de (.lst zA4) ((de zB3 ((de zC4 (numS (numS (numS s)))).2)).2)).2)).2)).1)):=by
  exact xQ3 (numV s) (numV (numS s)) (numV (numS (numS s))) y3_0 y3_1 y3_2 y3_3 y3_4 y3_5 y3_6 ((de zC4 (numS (numS (numS s)))).1) y4_0 y4_1 y4_2 y4_3 y4_4 y4_5 y4_6 y4_7 ((de zB3 ((de zC4 (numS (numS (numS s)))).2)).1) a5 c5 ((de (.lst zA4) ((de zB3 ((de zC4 (numS (numS (numS s)))).2)).2)).1) y6_0 y6_1 y6_2 y6_3 y6_4 y6_5 ((de zC5 ((de (.lst zA4) ((de zB3 ((de zC4 (numS (numS (numS s)))).2)).2)).2)).1) y7_0 y7_1 ((de zB4 ((de zC5 ((de (.lst zA4) ((de zB3 ((de zC4 (numS (numS (numS s)))).2)).2)).2)).2)).1) Q3.out Q4.out Q5.out Q6.out Q7.out
 have O0 : Hid ((#[.int .i64 (numV s),.int .i64 (numV (numS s)),.int .i64 (numV (numS (numS s))),y3_0,y3_1,y3_2,y3_3,y3_4,y3_5,y3_6,y4_0,y4_1,y4_2,y4_3,y4_4,y4_5,y4_6,y4_7,.slice a5 (de (.lst zA4) ((de zB3 ((de zC4 (numS (numS (numS s)))).2)).2)).1.length c5,y6_0,y6_1,y6_2,y6_3,y6_4,y6_5,y7_0,y7_1] : Array Value).all (·.oneCell') = true):=REP.out.all
 go_wp2_with (refine wpList_store_row rfl 71 (.tmp 2) (.tmp 21) rfl w.heap.size #[.int .i64 (numV s),.int .i64 (numV (numS s)),.int .i64 (numV (numS (numS s))),y3_0,y3_1,y3_2,y3_3,y3_4,y3_5,y3_6,y4_0,y4_1,y4_2,y4_3,y4_4,y4_5,y4_6,y4_7,.slice a5 (de (.lst zA4) ((de zB3 ((de zC4 (numS (numS (numS s)))).2)).2)).1.length c5,y6_0,y6_1,y6_2,y6_3,y6_4,y6_5,y7_0,y7_1] rfl rfl 71 #[.int .i64 0,.int .i64 0,.int .i64 0,.int .i64 0,.int .i64 0,.int .i64 0,.int .i64 0,.slice none 0 0,.int .i64 0,.bool false,.int .i64 0,.int .i64 0,.int .i64 0,.bool false,.bool false,.int .i64 0,.int .i64 0,.int .i64 0,.slice none 0 0,.int .i64 0,.int .i64 0,.int .i64 0,.slice none 0 0,.slice none 0 0,.bool false,.slice none 0 0,.slice none 0 0] g8.out I0.out rfl O0.out ?_)
 refine bodyPost_ret (v:=.agg #[.int .i64 (numV s),.int .i64 (numV (numS s)),.int .i64 (numV (numS (numS s))),y3_0,y3_1,y3_2,y3_3,y3_4,y3_5,y3_6,y4_0,y4_1,y4_2,y4_3,y4_4,y4_5,y4_6,y4_7,.slice a5 (de (.lst zA4) ((de zB3 ((de zC4 (numS (numS (numS s)))).2)).2)).1.length c5,y6_0,y6_1,y6_2,y6_3,y6_4,y6_5,y7_0,y7_1]) ?_ rfl ⟨[.int .i64 (numV s),.int .i64 (numV (numS s)),.int .i64 (numV (numS (numS s))),y3_0,y3_1,y3_2,y3_3,y3_4,y3_5,y3_6,y4_0,y4_1,y4_2,y4_3,y4_4,y4_5,y4_6,y4_7,.slice a5 (de (.lst zA4) ((de zB3 ((de zC4 (numS (numS (numS s)))).2)).2)).1.length c5,y6_0,y6_1,y6_2,y6_3,y6_4,y6_5,y7_0,y7_1],rfl,?_,?_,?_⟩
 · refine results_cell_row Tryz.results146 _ _ w.heap.size 71 _ (0,0) _ ?_ (setRow_heap w8 w.heap.size _ _ 71 _ g8.out) Tryz.underlying71 rfl I0.out
   rfl
 · exact REP.out.keptN (by simp [World.setRow]) (fun b h1 h2=>setRow_other _ _ _ _ (by omega)) (Nat.le_succ _)
 · exact h8.ext ⟨rfl,rfl,rfl,by simp [World.setRow],fun k hk=>setRow_other _ _ _ _ (by omega)⟩ hDq.out.1 hDq.out.2
 · exact s8.setRow (Nat.le_refl _) _
end
end Go.Proofs.YtocoimjhglackaaGreat
