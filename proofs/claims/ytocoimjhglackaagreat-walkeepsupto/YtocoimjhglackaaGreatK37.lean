/- Voc, Vpo, Vpoen, Ia, Ib, Ic, Id, Ie, Ig0, Jjob, Jcmd, Js, Igentry, Whf, Voy -/
import Derived.Test.YtocoimjhglackaaGreatK36
import Derived.Deep.RegionLaw
set_option maxHeartbeats 8000000
set_option maxRecDepth 100000
namespace Go.Proofs.YtocoimjhglackaaGreat
section
open Go.RowKit
theorem xX4 (p:Nat) (l:List UInt8) (bad:Bool) (prot S:Nat->Prop) (cs:List Value) (v:Vl zA8) (w:World) (hl:l.length + szb zA8 v<=137438953472) (hS:∀ b,S b->prot b) (hr:Rep w S zA8 cs v) (h:WR w p l bad prot) :
    Calls Tryz.prog 76 #[.pointer (some ⟨p,0,none⟩),.agg cs.toArray] w fun e w'=>e = .returned (.tuple #[])/\WR w' p (l ++ (enR zA8 v).1) (bad || (enR zA8 v).2) prot/\Kp w w' prot:=by
 obtain ⟨x0,x1,y2_0,y2_1,y2_2,y2_3,y2_4,y2_5,y2_6,y2_7,y2_8,y2_9,y2_10,y2_11,y2_12,y2_13,y2_14,y2_15,y2_16,y2_17,y2_18,y2_19,y2_20,y2_21,y2_22,y2_23,y2_24,y2_25,y2_26,v2,rfl,rfl,h2⟩:=yB9 hr
 rw [yH9] at hl
 have hl2 : Hid (l.length + (6 + (6 + (szb zD4 v2)))<=137438953472):=hl
 have hW0 : WR (w.alloc (.cells [.int .i64 x0,.int .i64 x1,y2_0,y2_1,y2_2,y2_3,y2_4,y2_5,y2_6,y2_7,y2_8,y2_9,y2_10,y2_11,y2_12,y2_13,y2_14,y2_15,y2_16,y2_17,y2_18,y2_19,y2_20,y2_21,y2_22,y2_23,y2_24,y2_25,y2_26].toArray 73)) p l bad (fun b=>prot b\/b = w.heap.size):=h.box _
 have hA0:=Kp.alloc w (.cells [.int .i64 x0,.int .i64 x1,y2_0,y2_1,y2_2,y2_3,y2_4,y2_5,y2_6,y2_7,y2_8,y2_9,y2_10,y2_11,y2_12,y2_13,y2_14,y2_15,y2_16,y2_17,y2_18,y2_19,y2_20,y2_21,y2_22,y2_23,y2_24,y2_25,y2_26].toArray 73) prot h.2.1
 have hq0 : ∀ o,(w.alloc (.cells [.int .i64 x0,.int .i64 x1,y2_0,y2_1,y2_2,y2_3,y2_4,y2_5,y2_6,y2_7,y2_8,y2_9,y2_10,y2_11,y2_12,y2_13,y2_14,y2_15,y2_16,y2_17,y2_18,y2_19,y2_20,y2_21,y2_22,y2_23,y2_24,y2_25,y2_26].toArray 73)).cell? ⟨w.heap.size,o,none⟩ = (w.alloc (.cells [.int .i64 x0,.int .i64 x1,y2_0,y2_1,y2_2,y2_3,y2_4,y2_5,y2_6,y2_7,y2_8,y2_9,y2_10,y2_11,y2_12,y2_13,y2_14,y2_15,y2_16,y2_17,y2_18,y2_19,y2_20,y2_21,y2_22,y2_23,y2_24,y2_25,y2_26].toArray 73)).cell? ⟨w.heap.size,o,none⟩:=fun _=>rfl
 have HP : Hid (∀ b,S b->prot b):=hS
 have HS : Hid (∀ b,S b->(fun b=>prot b\/b = w.heap.size) b):=fun b hb=>.inl (hS b hb)
 clear h hr hS hl hq0
 go_enter Tryz.func76,Tryz.ntmps76
 go_wp2_with fail
 refine (zE9 p l bad (fun b=>prot b\/b = w.heap.size) x0 _ (by have:=hl2.out; omega) hW0).mono ?_
 rintro e w1 ⟨rfl,hW1,hK1⟩
 have hA1:=hA0.trans (hK1.mono (fun _ x=>.inl x))
 have hq1 : ∀ o,w1.cell? ⟨w.heap.size,o,none⟩ = (w.alloc (.cells [.int .i64 x0,.int .i64 x1,y2_0,y2_1,y2_2,y2_3,y2_4,y2_5,y2_6,y2_7,y2_8,y2_9,y2_10,y2_11,y2_12,y2_13,y2_14,y2_15,y2_16,y2_17,y2_18,y2_19,y2_20,y2_21,y2_22,y2_23,y2_24,y2_25,y2_26].toArray 73)).cell? ⟨w.heap.size,o,none⟩:=fun o=>hK1.cell (a:=⟨w.heap.size,o,none⟩) (.inr rfl)
 clear hW0 hK1 hA0
 go_wp2_with fail
 refine (zE9 p (l ++ (enN x0).1) (bad || (enN x0).2) (fun b=>prot b\/b = w.heap.size) x1 _ (by have:=hl2.out; have:=zA3 x0; simp only [List.length_append]; omega) hW1).mono ?_
 rintro e w2 ⟨rfl,hW2,hK2⟩
 have hA2:=hA1.trans (hK2.mono (fun _ x=>.inl x))
 have hq2 : ∀ o,w2.cell? ⟨w.heap.size,o,none⟩ = (w.alloc (.cells [.int .i64 x0,.int .i64 x1,y2_0,y2_1,y2_2,y2_3,y2_4,y2_5,y2_6,y2_7,y2_8,y2_9,y2_10,y2_11,y2_12,y2_13,y2_14,y2_15,y2_16,y2_17,y2_18,y2_19,y2_20,y2_21,y2_22,y2_23,y2_24,y2_25,y2_26].toArray 73)).cell? ⟨w.heap.size,o,none⟩:=fun o=>(hK2.cell (a:=⟨w.heap.size,o,none⟩) (.inr rfl)).trans (hq1 o)
 clear hW1 hK2 hA1 hq1
 have hrg : Hid (World.rangeAt w2 w.heap.size 2 [y2_0,y2_1,y2_2,y2_3,y2_4,y2_5,y2_6,y2_7,y2_8,y2_9,y2_10,y2_11,y2_12,y2_13,y2_14,y2_15,y2_16,y2_17,y2_18,y2_19,y2_20,y2_21,y2_22,y2_23,y2_24,y2_25,y2_26]):=by
  intro jj u hu
  rw [hq2 (2 + jj),cell_of_row _ _ _ _ 73 (0,0) (heap_alloc_new w _)]
  have : ([.int .i64 x0,.int .i64 x1,y2_0,y2_1,y2_2,y2_3,y2_4,y2_5,y2_6,y2_7,y2_8,y2_9,y2_10,y2_11,y2_12,y2_13,y2_14,y2_15,y2_16,y2_17,y2_18,y2_19,y2_20,y2_21,y2_22,y2_23,y2_24,y2_25,y2_26].drop 2)[jj]? = some u:=by
   rw [show [.int .i64 x0,.int .i64 x1,y2_0,y2_1,y2_2,y2_3,y2_4,y2_5,y2_6,y2_7,y2_8,y2_9,y2_10,y2_11,y2_12,y2_13,y2_14,y2_15,y2_16,y2_17,y2_18,y2_19,y2_20,y2_21,y2_22,y2_23,y2_24,y2_25,y2_26].drop 2 = [y2_0,y2_1,y2_2,y2_3,y2_4,y2_5,y2_6,y2_7,y2_8,y2_9,y2_10,y2_11,y2_12,y2_13,y2_14,y2_15,y2_16,y2_17,y2_18,y2_19,y2_20,y2_21,y2_22,y2_23,y2_24,y2_25,y2_26] ++ [] from rfl,List.getElem?_append_left (List.getElem?_eq_some_iff.1 hu).1]
   exact hu
  rw [List.getElem?_drop] at this
  simpa using this
 have hI : Hid ((Tryz.prog.info? 71).map (·.size) = some [y2_0,y2_1,y2_2,y2_3,y2_4,y2_5,y2_6,y2_7,y2_8,y2_9,y2_10,y2_11,y2_12,y2_13,y2_14,y2_15,y2_16,y2_17,y2_18,y2_19,y2_20,y2_21,y2_22,y2_23,y2_24,y2_25,y2_26].length):=by show _ = _; kernel_rfl
 go_wp2_with (refine wpList_load_mid rfl 71 (.tmp 13) rfl w.heap.size 2 rfl [y2_0,y2_1,y2_2,y2_3,y2_4,y2_5,y2_6,y2_7,y2_8,y2_9,y2_10,y2_11,y2_12,y2_13,y2_14,y2_15,y2_16,y2_17,y2_18,y2_19,y2_20,y2_21,y2_22,y2_23,y2_24,y2_25,y2_26] _ hrg.out Tryz.underlying71 rfl hI.out ?_)
 refine (kI5 p (l ++ (enN x0).1 ++ (enN x1).1) (bad || (enN x0).2 || (enN x1).2) (fun b=>prot b\/b = w.heap.size) S [y2_0,y2_1,y2_2,y2_3,y2_4,y2_5,y2_6,y2_7,y2_8,y2_9,y2_10,y2_11,y2_12,y2_13,y2_14,y2_15,y2_16,y2_17,y2_18,y2_19,y2_20,y2_21,y2_22,y2_23,y2_24,y2_25,y2_26] v2 _ (by have:=hl2.out; have:=zA3 x0; have:=zA3 x1; simp only [List.length_append]; omega) HS.out (h2.kept hA2.size (fun b hb=>hA2.block b (HP.out b hb)) (fun _ x=>x)) hW2).mono ?_
 rintro e w3 ⟨rfl,hW3,hK3⟩
 have hA3:=hA2.trans (hK3.mono (fun _ x=>.inl x))
 have hq3 : ∀ o,w3.cell? ⟨w.heap.size,o,none⟩ = (w.alloc (.cells [.int .i64 x0,.int .i64 x1,y2_0,y2_1,y2_2,y2_3,y2_4,y2_5,y2_6,y2_7,y2_8,y2_9,y2_10,y2_11,y2_12,y2_13,y2_14,y2_15,y2_16,y2_17,y2_18,y2_19,y2_20,y2_21,y2_22,y2_23,y2_24,y2_25,y2_26].toArray 73)).cell? ⟨w.heap.size,o,none⟩:=fun o=>(hK3.cell (a:=⟨w.heap.size,o,none⟩) (.inr rfl)).trans (hq2 o)
 clear hW2 hK3 hA2 hq2
 have HW : Hid (WR _ _ _ _ _):=hW3
 clear hW3
 go_wp2
 go_end0
 have hWf:=HW.out
 have e1 : (l ++ (enN x0).1 ++ (enN x1).1 ++ (enR zD4 v2).1) = l ++ (enR zA8 (x0,x1,v2)).1:=by rw [yK9]; simp only [List.append_assoc]
 have e2 : (bad || (enN x0).2 || (enN x1).2 || (enR zD4 v2).2) = (bad || (enR zA8 (x0,x1,v2)).2):=by rw [yK9]; simp only [Bool.or_assoc]
 rw [e1,e2] at hWf
 exact ⟨rfl,hWf.mono (fun _ x=>.inl x),hA3⟩
end
section
open Go.RowKit
theorem xP2 (p:Nat) (l:List UInt8) (bad:Bool) (prot:Nat->Prop) (w:World) (h:WR w p l bad prot) :
    Calls Tryz.prog 77 #[.pointer (some ⟨p,0,none⟩)] w fun e w'=>∃ v,e = .returned (.tuple #[v,.int .i64 (zK5 bad)])/\Own w' v (zD6 (l,bad))/\(∀ b,v.ownBlock = some b->¬ prot b)/\w' = w:=by
 obtain ⟨q1,q2,q3,v,q4,q5,q6,q7,q8,q9⟩:=h
 obtain ⟨a,c,hv,hbs⟩:=q8.form
 subst hv
 have H9 : Hid _:=q9
 clear q1 q2 q9 hbs
 cases bad with
 | true =>
  go_enter Tryz.func77,Tryz.ntmps77
  go_wp2
  go_ret2
  exact ⟨_,rfl,.inl ⟨rfl,rfl⟩,fun b hb=>by simp [Value.ownBlock] at hb,rfl⟩
 | false =>
  go_enter Tryz.func77,Tryz.ntmps77
  go_wp2
  go_ret2
  exact ⟨_,rfl,q8,fun b hb=>(H9.out b hb).2,rfl⟩
theorem yZ3 (w:World) (n:Nat) (hn:n = w.heap.size) : WR (w.alloc (.cells #[.slice none 0 0,.bool false] 141)) n [] false (fun b=>b < n):=by
 subst hn
 refine ⟨by omega,fun b hb=>by simp; omega,by simp,.slice none 0 0,?_,?_,?_,?_,.inl ⟨rfl,rfl⟩,fun r hr=>by simp [Value.ownBlock] at hr⟩
 · rw [World.cell?_alloc_at _ _ _ _ rfl]; rfl
 · rw [World.cell?_alloc_at _ _ _ _ rfl]; rfl
 · exact World.frozen?_alloc_at _ _ _ _ rfl
 · exact World.frozen?_alloc_at _ _ _ _ rfl
end
section
open Go.RowKit
theorem yB0 : (Tryz.prog.info? 73).map (·.size) = some (wd zA8):=by kernel_rfl
theorem zI1 (cs:List Value) (v:Vl zA8) (w:World) (hz:szb zA8 v<=137438953472) (hr:Rep w (fun b=>b < w.heap.size) zA8 cs v) :
    Calls Tryz.prog 45 #[.agg cs.toArray] w fun e w'=>∃ val,e = .returned (.tuple #[val,.int .i64 (zK5 (en zA8 v).2)])/\Own w' val (zD6 (en zA8 v))/\(∀ b,val.ownBlock = some b->w.heap.size<=b)/\Below w.heap.size w w':=by
 have hsz : Hid ((Tryz.prog.info? 73).map (·.size) = some cs.toArray.size):=by show _ = _; rw [List.size_toArray,hr.len]; exact yB0
 have HG2 : Hid (((w.alloc (.cells cs.toArray 73)).alloc (.cells #[.slice none 0 0,.bool false] 141)).heap[w.heap.size]? = some (.cells cs.toArray 73 (0,0))):=by
  show _ = _
  rw [Below.heap_alloc _ _ _ (by rw [World.size_alloc]; omega)]; exact heap_alloc_new w _
 have hB0 : Below w.heap.size w ((w.alloc (.cells cs.toArray 73)).alloc (.cells #[.slice none 0 0,.bool false] 141)):=((Below.refl _ _).alloc (Nat.le_refl _) _).alloc (by rw [World.size_alloc]; omega) _
 have HR : Hid (Rep ((w.alloc (.cells cs.toArray 73)).alloc (.cells #[.slice none 0 0,.bool false] 141)) (fun b=>b < w.heap.size) zA8 cs v):=hr.kept hB0.size (fun b hb=>hB0.block b hb) (fun _ x=>x)
 have HB0 : Hid _:=hB0
 clear hr hB0
 go_enter Tryz.func45,Tryz.ntmps45
 go_wp2_with (refine wpList_load_row rfl 73 (.tmp 1) rfl w.heap.size rfl 73 cs.toArray (0,0) _ HG2.out Tryz.underlying73 rfl hsz.out ?_)
 refine (xX4 _ [] false (fun b=>b < w.heap.size + 1) (fun b=>b < w.heap.size) cs v _ (by rw [List.length_nil]; omega) (fun b hb=>by omega) HR.out (yZ3 _ _ (by rw [World.size_alloc]))).mono ?_
 rintro e w1 ⟨rfl,hW,hK⟩
 have hB : Below w.heap.size w w1:=HB0.out.trans (hK.below.mono (by omega))
 rw [List.nil_append,Bool.false_or] at hW
 clear hK HG2
 go_wp2_with fail
 refine (xP2 _ _ _ _ _ hW).mono ?_
 rintro e w2 ⟨val,rfl,hO,hN0,hw⟩
 subst hw
 have hN : ∀ b,val.ownBlock = some b->w.heap.size<=b:=fun b hb=>by have:=hN0 b hb; simp at this; omega
 have HO : Hid (Own w2 val (zD6 (enR zA8 v))):=hO
 clear hO hN0 hW
 go_wp2
 go_ret2
 have hO:=HO.out
 have hq:=xR2 zA8 v
 have hby : zD6 (enR zA8 v) = zD6 (en zA8 v):=by
  unfold zD6
  rw [hq.1]
  cases hb : (en zA8 v).2 with
  | true=>rfl
  | false=>simp only [Bool.false_eq_true,if_false]; exact hq.2 hb
 rw [hby] at hO
 exact ⟨_,by rw [<- hq.1]; rfl,hO,hN,hB⟩
end
section
open Go.RowKit
def RI (D:Nat) (w:World) (p:Nat) (l:List UInt8) (bad:Bool) : Prop :=
 p < w.heap.size/\D<=w.heap.size/\w.frozen? ⟨p,0,none⟩ = false/\w.frozen? ⟨p,1,none⟩ = false/\w.cell? ⟨p,1,none⟩ = some (.bool bad) /\
 ∃ a cap,w.cell? ⟨p,0,none⟩ = some (.slice a l.length cap)/\l.length<=cap/\Bs w a l/\(∀ x,a = some x->x.block ≠ p/\x.block < D)
def Rd (f:Fm) (l:List UInt8) (bad:Bool) (v:Vl f) (l':List UInt8) (bad':Bool) : Prop :=
 (en f v).2 = false/\(bad = false->∀ r,(de f (some l)).2 = some r->v = (de f (some l)).1/\l' = r/\bad' = false)
def OutI (D:Nat) (w:World) (p:Nat) (f:Fm) (l:List UInt8) (bad:Bool) (v:Vl f) (w':World) : Prop:=∃ l' bad',Rd f l bad v l' bad'/\RI D w' p l' bad'/\RS w w' p
def InO (D:Nat) (w:World) (p:Nat) (l:List UInt8) (bad:Bool) (n m:Int) (w':World) : Prop:=∃ bad',((-1099511627776<=n/\n<=1099511627776)->m = n/\bad' = bad)/\RI D w' p l bad'/\RS w w' p
end
section
open Go.RowKit
def kK1 (D:Nat) (w:World) (p:Nat) (l:List UInt8) (bad:Bool) (e:Ending) (w':World) : Prop:=∃ b : Bool,e = .returned (.bool b)/\OutI D w p .tru l bad b w'
def kJ9 (D:Nat) (w:World) (p:Nat) (l:List UInt8) (bad:Bool) (e:Ending) (w':World) : Prop :=
 ∃ (n:Nat) (l':List UInt8) (bad':Bool),e = .returned (.int .i64 (n:Int))/\n<=64/\(bad = false->∀ r,cntS 64 (some l) = some r->n = cntV 64 (some l)/\l' = r/\bad' = false)/\RI D w' p l' bad'/\RS w w' p
def BytO (D:Nat) (w:World) (p:Nat) (l:List UInt8) (bad:Bool) (e:Ending) (w':World) : Prop :=
 ∃ (a:Option Addr) (c:Nat) (v:List UInt8),e = .returned (.slice a v.length c)/\v.length<=c/\RepB w' (NB w w') a v/\OutI D w p .byt l bad v w'
def RdN (f:Fm) (k:Nat) (l:List UInt8) (bad:Bool) (vs:List (Vl f)) (l':List UInt8) (bad':Bool) : Prop :=
 vs.length = k/\(∀ v ∈ vs,(en f v).2 = false)/\(bad = false->∀ r,(deN (de f) k (some l)).2 = some r->vs = (deN (de f) k (some l)).1/\l' = r/\bad' = false)
end
section
open Go.RowKit
def RecO (D:Nat) (w:World) (p:Nat) (f:Fm) (l:List UInt8) (bad:Bool) (e:Ending) (w':World) : Prop:=∃ (cs:List Value) (v:Vl f),e = .returned (.agg cs.toArray)/\Rep w' (NB w w') f cs v/\OutI D w p f l bad v w'
def LstO (D:Nat) (w:World) (p:Nat) (f:Fm) (l:List UInt8) (bad:Bool) (e:Ending) (w':World) : Prop:=∃ (a:Option Addr) (c:Nat) (vs:List (Vl f)),e = .returned (.slice a vs.length c)/\RepL w' (NB w w') f a vs/\OutI D w p (.lst f) l bad vs w'
structure RQ (w w':World) (p q:Nat) : Prop where
 os : w'.os = w.os
 tape : w'.tape = w.tape
 output : w'.output = w.output
 size : w.heap.size<=w'.heap.size
 block : ∀ k,k < w.heap.size->k ≠ p->k ≠ q->w'.heap[k]? = w.heap[k]?
def kK0 (D:Nat) (w:World) (p q:Nat) (f:Fm) (E size k:Nat) (l1:List UInt8) (b1:Bool) (v:Value) (wr:World) : Prop :=
 ∃ (xs:List Value) (vs:List (Vl f)) (lk:List UInt8) (bk:Bool),wr.ownsRow w.heap.size E size v k xs/\RQ w wr p q/\RI D wr p lk bk/\RdN f k l1 b1 vs lk bk/\zE4 w wr f v xs vs
end
section
open Go.RowKit
def putL (C:List Value) (o:Nat) (vs:List Value) : List Value:=C.take o ++ vs ++ C.drop (o + vs.length)
structure Laid (w w':World) (b:Nat) (C':List Value) (t:TypeId) : Prop where
 os : w'.os = w.os
 tape : w'.tape = w.tape
 output : w'.output = w.output
 size : w'.heap.size = w.heap.size
 at_ : w'.heap[b]? = some (.cells C'.toArray t (0,0))
 block : ∀ k,k ≠ b->w'.heap[k]? = w.heap[k]?
def NX (lo q:Nat) (w:World) (b:Nat) : Prop:=lo<=b/\b ≠ q/\b < w.heap.size/\Uf w b
end
section
open Go.RowKit
end
section
open Go.RowKit
theorem xT8 {α:Type} (m:α->Nat) (b:Nat) (vs:List α) (h:∀ v ∈ vs,m v<=b) : (vs.map m).sum<=vs.length * b:=by
 induction vs with
 | nil=>simp
 | cons v vs ih =>
  have h1:=h v (by simp)
  have h2:=ih (fun x hx=>h x (by simp [hx]))
  rw [List.map_cons,List.sum_cons,List.length_cons,Nat.add_mul]
  omega
theorem xA0 (f:Fm) (v:Vl f) (h:(en f v).2 = false) : szb f v<=mx f:=by
 induction f with
 | num=>exact Nat.le_refl _
 | tru=>exact Nat.le_refl _
 | byt =>
  have h' : (if List.length (α:=UInt8) v<=65536 then (enc (List.length (α:=UInt8) v : Int) ++ v,false) else ([],true)).2 = false:=h
  show 6 + List.length (α:=UInt8) v<=65542
  split at h'
  · omega
  · cases h'
 | lst f ih =>
  have h' : (if List.length (α:=Vl f) v<=64 then (enc (List.length (α:=Vl f) v : Int) ++ List.flatMap (fun v=>(en f v).1) v,List.any v fun v=>(en f v).2) else ([],true)).2 = false:=h
  show 6 + (List.map (fun v=>szb f v) v).sum<=6 + 64 * mx f
  split at h'
  · next hl =>
    have h2:=xT8 (fun v=>szb f v) (mx f) v (fun x hx=>ih x (by
     have:=List.any_eq_false.1 h' x hx
     simpa using this))
    have h3 : List.length (α:=Vl f) v * mx f<=64 * mx f:=Nat.mul_le_mul_right _ hl
    omega
  · cases h'
 | cat a b iha ihb =>
  have h' : ((en a v.1).2 || (en b v.2).2) = false:=h
  rw [Bool.or_eq_false_iff] at h'
  show szb a v.1 + szb b v.2<=mx a + mx b
  have h1:=iha v.1 h'.1
  have h2:=ihb v.2 h'.2
  omega
end
section
open Go.RowKit
end
section
open Go.RowKit
end
section
open Go.RowKit
end
section
open Go.RowKit
theorem zH7 (v:Vl zA8) (h:(en zA8 v).2 = false) : szb zA8 v<=137438953472:=Nat.le_trans (xA0 zA8 v h) (Nat.le_of_ble_eq_true (by kernel_rfl))
end
section
open Go.RowKit Go.Maps
theorem yT4 {w:World} {S:Nat->Prop} {a:Option Addr} {l:List Int} (h:RepL w S .num a l) (hS:∀ k,S k->k < w.heap.size) (hne:l ≠ []) : ∃ b off,a = some ⟨b,off,none⟩/\b < w.heap.size/\∀ j (hj:j < l.length),w.cell? ⟨b,off + j,none⟩ = some (.int .i64 l[j]):=by
 obtain ⟨b,off,e,hb,hc⟩:=h.2 hne
 refine ⟨b,off,e,hS b hb,fun j hj=>?_⟩
 obtain ⟨es,h1,h2⟩:=hc j hj
 have h3 : es = [.int .i64 l[j]]:=h1
 have:=h2 0 (.int .i64 l[j]) (by rw [h3]; rfl)
 simpa [wd] using this
theorem zU5 (S:Nat->Prop) (a1 a2:Option Addr) (n c1 c2:Nat) (l:List Int) (w:World) (hn:n = l.length) (h1:RepL w S .num a1 l) (h2:RepL w S .num a2 l) (hS:∀ k,S k->k < w.heap.size) (hlb:l.length<=1048576) : Calls Tryz.prog 44 #[.slice a1 n c1,.slice a2 n c2] w fun e w'=>e = .returned (.bool true)/\∃ nq,w' = w.drewN nq:=by
 have HN:=zA0 hn
 have hnb : (n:Int)<=1048576:=by omega
 have H1:=zA0 (fun hne=>yT4 h1 hS hne)
 have H2:=zA0 (fun hne=>yT4 h2 hS hne)
 clear hn h1 h2 hS hlb
 go_enter Tryz.func44,Tryz.ntmps44
 go_wp2
 go_loopw [5] (fun i wr=>∃ k : Nat,k<=n/\i = .int .i64 k/\∃ nq,wr = w.drewN nq) (fun i _=>n - (intOf i).toNat)
 case atStart=>exact ⟨0,Nat.zero_le _,rfl,0,rfl⟩
 case round =>
  obtain ⟨k,hk,rfl,nq,rfl⟩:=hrel
  by_cases hlt : k < n
  · have hkl : k < l.length:=by rw [<- HN.out]; exact hlt
    have hne : l ≠ []:=by intro e; rw [e] at hkl; simp at hkl
    obtain ⟨b,off,rfl,hb,hc⟩:=H1.out hne
    obtain ⟨b',off',rfl,hb',hc'⟩:=H2.out hne
    have hcp:=hc k hkl
    have hcp':=hc' k hkl
    generalize l[k] = x at *
    clear hc hc' hne hkl
    go_wp2
    go_quiet (fail)
    go_wp2
    exact ⟨⟨k + 1,by omega,by go_num,_,rfl⟩,by simp [intOf]; omega⟩
  · go_wp2
    go_ret
    exact ⟨rfl,_,rfl⟩
theorem Okd.lens {s:Sd} (h:Okd s) : (snV s).2.2.1.1.length<=64/\(snV s).2.2.1.2.length<=64/\(snV s).2.2.2.length<=65536:=by
 unfold snV
 cases hs : s.sn with
 | none=>exact ⟨Nat.zero_le _,Nat.zero_le _,Nat.zero_le _⟩
 | some b=>exact xB2 (zY3 (h.sn b hs).1).1
theorem zL2 {w:World} {S:Nat->Prop} {cs:List Value} {v:Vl zB6} (h:Rep w S zB6 cs v) : ∃ av cv al cl ad cd ea ec,cs = [.int .i64 v.1.1,.int .i64 v.1.2,.int .i64 v.2.1.1,.int .i64 v.2.1.2.1,.slice av v.2.1.2.2.1.1.length cv,.slice al v.2.1.2.2.1.2.length cl,.slice ad v.2.1.2.2.2.length cd,.slice ea v.2.2.length ec]/\RepL w S .num av v.2.1.2.2.1.1/\RepL w S .num al v.2.1.2.2.1.2/\RepB w S ad v.2.1.2.2.2/\RepL w S zA8 ea v.2.2:=by
 obtain ⟨xs,ys,rfl,⟨x1,x2,rfl,h1,h2⟩,x3,x4,rfl,h3,h4⟩:=h
 rw [show x1 = _ from h1,show x2 = _ from h2]
 obtain ⟨av,cv,al,cl,ad,cd,rfl,k1,k2,_,k3⟩:=zH1 h3
 obtain ⟨ea,ec,rfl,h5,h6⟩:=h4
 exact ⟨av,cv,al,cl,ad,cd,ea,ec,rfl,k1,k2,k3,h5,h6⟩
theorem yO6 (ca cb:List Value) (s:Sd) (w:World) (h1:Rep w (fun k=>k < w.heap.size) zB6 ca (dec s)) (h2:Rep w (fun k=>k < w.heap.size) zB6 cb (dec s)) (hok:Okd s) (hlb:s.bs.length<=4194304) : Calls Tryz.prog 15 #[.agg ca.toArray,.agg cb.toArray] w fun e w'=>e = .returned (.bool true)/\Below w.heap.size w w':=by
 obtain ⟨av,cv,al,cl,ad,cd,ea,ec,rfl,a1,a2,a3,a4⟩:=zL2 h1
 obtain ⟨av',cv',al',cl',ad',cd',ea',ec',rfl,b1,b2,b3,b4⟩:=zL2 h2
 obtain ⟨m1,m2,m3⟩:=hok.lens
 have hml : (s.bs.map dE).length = s.bs.length:=by simp
 simp only [dec] at *
 rw [hml]
 have A1:=zA0 a1
 have A2:=zA0 a2
 have A3:=zA0 a3
 have A4:=zA0 a4
 have B1:=zA0 b1
 have B2:=zA0 b2
 have B3:=zA0 b3
 have B4:=zA0 b4
 have HOK:=zA0 hok
 clear h1 h2 a1 a2 a3 a4 b1 b2 b3 b4 hok
 generalize hsn : snV s = sn at *
 obtain ⟨bi,bt,⟨lv,ll⟩,ld⟩:=sn
 simp only at *
 have M1:=zA0 m1
 have M2:=zA0 m2
 obtain ⟨nv,hnv⟩ : ∃ x,x = lv.length:=⟨_,rfl⟩
 obtain ⟨nl,hnl⟩ : ∃ x,x = ll.length:=⟨_,rfl⟩
 obtain ⟨nd,hnd⟩ : ∃ x,x = ld.length:=⟨_,rfl⟩
 obtain ⟨len,hlen⟩ : ∃ x,x = s.bs.length:=⟨_,rfl⟩
 rw [<- hnv,<- hnl,<- hnd,<- hlen]
 rw [<- hlen] at hlb
 have HNV:=zA0 hnv
 have HNL:=zA0 hnl
 have HND:=zA0 hnd
 have HLEN:=zA0 hlen
 have HML:=zA0 hml
 clear hnv hnl hnd hlen hml m1 m2 m3 hsn
 generalize s.t = t at *
 generalize s.v = v at *
 obtain ⟨w0,hw0⟩ : ∃ w0,w0 = (w.alloc (.cells #[.int .i64 t,.int .i64 v,.int .i64 bi,.int .i64 bt,.slice av nv cv,.slice al nl cl,.slice ad nd cd,.slice ea len ec] 39)).alloc (.cells #[.int .i64 t,.int .i64 v,.int .i64 bi,.int .i64 bt,.slice av' nv cv',.slice al' nl cl',.slice ad' nd cd',.slice ea' len ec'] 39):=⟨_,rfl⟩
 have HB0 : Hid (Below w.heap.size w w0):=zA0 (by rw [hw0]; exact (zB5 w _).alloc (by simp) _)
 have HGA : Hid (w0.heap[w.heap.size]? = some (.cells #[.int .i64 t,.int .i64 v,.int .i64 bi,.int .i64 bt,.slice av nv cv,.slice al nl cl,.slice ad nd cd,.slice ea len ec] 39 (0,0))):=zA0 (by rw [hw0]; exact (Below.heap_alloc _ _ _ (by simp)).trans (heap_alloc_new w _))
 have HGB : Hid (w0.heap[w.heap.size + 1]? = some (.cells #[.int .i64 t,.int .i64 v,.int .i64 bi,.int .i64 bt,.slice av' nv cv',.slice al' nl cl',.slice ad' nd cd',.slice ea' len ec'] 39 (0,0))):=zA0 (by
  rw [hw0]
  have:=heap_alloc_new (w.alloc (.cells #[.int .i64 t,.int .i64 v,.int .i64 bi,.int .i64 bt,.slice av nv cv,.slice al nl cl,.slice ad nd cd,.slice ea len ec] 39)) (.cells #[.int .i64 t,.int .i64 v,.int .i64 bi,.int .i64 bt,.slice av' nv cv',.slice al' nl cl',.slice ad' nd cd',.slice ea' len ec'] 39)
  rwa [World.size_alloc] at this)
 have CF : Hid (∀ W : World,W.heap[w.heap.size]? = some (.cells #[.int .i64 t,.int .i64 v,.int .i64 bi,.int .i64 bt,.slice av nv cv,.slice al nl cl,.slice ad nd cd,.slice ea len ec] 39 (0,0))->W.heap[w.heap.size + 1]? = some (.cells #[.int .i64 t,.int .i64 v,.int .i64 bi,.int .i64 bt,.slice av' nv cv',.slice al' nl cl',.slice ad' nd cd',.slice ea' len ec'] 39 (0,0))->(W.cell? ⟨w.heap.size,0,none⟩ = some (.int .i64 t)/\W.cell? ⟨w.heap.size,1,none⟩ = some (.int .i64 v)/\W.cell? ⟨w.heap.size,2,none⟩ = some (.int .i64 bi)/\W.cell? ⟨w.heap.size,3,none⟩ = some (.int .i64 bt)/\W.cell? ⟨w.heap.size,4,none⟩ = some (.slice av nv cv)/\W.cell? ⟨w.heap.size,5,none⟩ = some (.slice al nl cl)/\W.cell? ⟨w.heap.size,6,none⟩ = some (.slice ad nd cd)/\W.cell? ⟨w.heap.size,7,none⟩ = some (.slice ea len ec))/\(W.cell? ⟨w.heap.size + 1,0,none⟩ = some (.int .i64 t)/\W.cell? ⟨w.heap.size + 1,1,none⟩ = some (.int .i64 v)/\W.cell? ⟨w.heap.size + 1,2,none⟩ = some (.int .i64 bi)/\W.cell? ⟨w.heap.size + 1,3,none⟩ = some (.int .i64 bt)/\W.cell? ⟨w.heap.size + 1,4,none⟩ = some (.slice av' nv cv')/\W.cell? ⟨w.heap.size + 1,5,none⟩ = some (.slice al' nl cl')/\W.cell? ⟨w.heap.size + 1,6,none⟩ = some (.slice ad' nd cd')/\W.cell? ⟨w.heap.size + 1,7,none⟩ = some (.slice ea' len ec'))):=zA0 (fun W g1 g2=>by
  refine ⟨⟨?_,?_,?_,?_,?_,?_,?_,?_⟩,?_,?_,?_,?_,?_,?_,?_,?_⟩ <;> first | (rw [cell_of_row _ _ _ _ 39 (0,0) g1]; rfl) | (rw [cell_of_row _ _ _ _ 39 (0,0) g2]; rfl))
 go_enter Tryz.func15,Tryz.ntmps15
 go_upto_region 1 with (fail)
 rw [<- hw0]
 clear hw0
 obtain ⟨⟨p0,p1,p2,p3,p4,p5,p6,p7⟩,q0,q1,q2,q3,q4,q5,q6,q7⟩:=CF.out w0 HGA.out HGB.out
 have la:=zA1 HGA.out
 have lb:=zA1 HGB.out
 have K0 : Hid (∀ {f:Fm} {a:Option Addr} {vs:List (Vl f)} (W:World),Below w.heap.size w W->RepL w (fun k=>k < w.heap.size) f a vs->RepL W (fun k=>k < W.heap.size) f a vs):=zA0 (fun W hb h=>h.kept hb.size (fun j hj=>hb.block j hj) (fun j hj=>Nat.lt_of_lt_of_le hj hb.size))
 go_wp2_with fail
 refine (zU5 (fun k=>k < w0.heap.size) av av' nv cv cv' lv w0 HNV.out (K0.out w0 HB0.out A1.out) (K0.out w0 HB0.out B1.out) (fun _ h=>h) (by have:=M1.out; omega)).mono ?_
 rintro e w1 ⟨rfl,m,rfl⟩
 go_wp2_with fail
 refine (zU5 (fun k=>k < w0.heap.size) al al' nl cl cl' ll (w0.drewN m) HNL.out (K0.out w0 HB0.out A2.out) (K0.out w0 HB0.out B2.out) (fun _ h=>h) (by have:=M2.out; omega)).mono ?_
 rintro e w1 ⟨rfl,m2,rfl⟩
 go_wp2_with fail
 have hkB : ∀ {a:Option Addr} {l:List UInt8},RepB w (fun k=>k < w.heap.size) a l->Bs w0 a l:=fun h=>h.1.grow HB0.out
 refine (zO5 ad ad' nd nd cd cd' ld ld _ HND.out HND.out ((hkB A3.out).drewN _) ((hkB B3.out).drewN _)).mono ?_
 rintro e w1 ⟨rfl,m3,rfl⟩
 rw [decide_eq_true (rfl:ld = ld)]
 clear hkB
 go_wp2_with fail
 clear p0 p1 p2 p3 p4 p5 p6 p7 q0 q1 q2 q3 q4 q5 q6 q7 la lb
 go_loopw [9] (fun i wr=>∃ k : Nat,k<=len/\i = .int .i64 k/\Hid (wr.heap[w.heap.size]? = some (.cells #[.int .i64 t,.int .i64 v,.int .i64 bi,.int .i64 bt,.slice av nv cv,.slice al nl cl,.slice ad nd cd,.slice ea len ec] 39 (0,0)))/\Hid (wr.heap[w.heap.size + 1]? = some (.cells #[.int .i64 t,.int .i64 v,.int .i64 bi,.int .i64 bt,.slice av' nv cv',.slice al' nl cl',.slice ad' nd cd',.slice ea' len ec'] 39 (0,0)))/\Hid (Below w.heap.size w wr)) (fun i _=>len - (intOf i).toNat)
 case atStart=>exact ⟨0,Nat.zero_le _,rfl,HGA,HGB,zA0 ⟨HB0.out.os,HB0.out.tape,HB0.out.output,HB0.out.size,HB0.out.block⟩⟩
 case round =>
  obtain ⟨k,hk,rfl,HA,HB,HBR⟩:=hrel
  obtain ⟨⟨_,_,_,_,_,_,_,p7⟩,_,_,_,_,_,_,_,q7⟩:=CF.out wr HA.out HB.out
  have la:=zA1 HA.out
  have lb:=zA1 HB.out
  by_cases hlt : k < len
  · have hkl : k < (s.bs.map dE).length:=by rw [HML.out,<- HLEN.out]; exact hlt
    obtain ⟨b1,o1,es1,rfl,hs1,hr1,hg1⟩:=Rep.load (K0.out wr HBR.out A4.out) hkl
    obtain ⟨b2,o2,es2,rfl,hs2,hr2,hg2⟩:=Rep.load (K0.out wr HBR.out B4.out) hkl
    obtain ⟨bo,hbo⟩ : ∃ bo,s.bs[k]? = some bo:=⟨_,List.getElem?_eq_getElem (by rw [<- HLEN.out]; exact hlt)⟩
    have hx : (s.bs.map dE)[k] = dE bo:=by
     have : (s.bs.map dE)[k]? = some (dE bo):=by rw [List.getElem?_map,hbo]; rfl
     rw [List.getElem?_eq_getElem hkl] at this
     exact Option.some.inj this
    rw [hx] at hr1 hr2
    have hen:=(zP4 (HOK.out.es k bo hbo).1).1
    have HEN:=zA0 hen
    have HBY : Hid (zD6 (en zA8 (dE bo)) = bo):=zA0 (by unfold zD6; rw [hen]; exact (zP4 (HOK.out.es k bo hbo).1).2.symm)
    have HBL : Hid (bo.length<=7470):=zA0 (zI3 (HOK.out.es k bo hbo).1)
    have HSZ:=zA0 (zH7 _ hen)
    obtain ⟨r1,he1,hel1⟩:=zD3 hr1
    obtain ⟨r2,he2,hel2⟩:=zD3 hr2
    have R1:=zA0 hr1
    have R2:=zA0 hr2
    have G1:=zA0 hg1
    have G2:=zA0 hg2
    have I1:=zA0 (zF6 hel1)
    have I2:=zA0 (zF6 hel2)
    have S2:=zA0 hs2
    clear hr1 hr2 hg1 hg2 he1 he2 hel1 hel2 hen hx hbo hkl r1 r2
    go_wp2_with (refine wpList_load_mid rfl 73 (.tmp 95) rfl b1 (o1 + k * 29) rfl es1 _ G1.out Tryz.underlying73 rfl I1.out ?_)
    refine (zI1 es1 (dE bo) wr HSZ.out R1.out).mono ?_
    rintro e w1 ⟨z1,rfl,ho1,hn1,hB1⟩
    have HA1:=zA0 ((hB1.block _ (zA1 HA.out)).trans HA.out)
    have HB1:=zA0 ((hB1.block _ (zA1 HB.out)).trans HB.out)
    have HBR1:=zA0 (HBR.out.trans (hB1.mono HBR.out.size))
    have G21 : Hid (w1.rangeAt b2 (o2 + k * 29) es2):=zA0 (zB1 G2.out (hB1.block b2 S2.out))
    have R21 : Hid (Rep w1 (fun q=>q < w1.heap.size) zA8 es2 (dE bo)):=zA0 (R2.out.kept hB1.size (fun j hj=>hB1.block j hj) (fun j hj=>Nat.lt_of_lt_of_le hj hB1.size))
    rw [HBY.out] at ho1
    obtain ⟨za1,zc1,hz1,hzb1⟩:=ho1.form
    subst hz1
    have BZ1:=zA0 (hzb1 (by have:=HBL.out; omega))
    obtain ⟨⟨_,_,_,_,_,_,_,p7'⟩,_,_,_,_,_,_,_,q7'⟩:=CF.out w1 HA1.out HB1.out
    have la1:=zA1 HA1.out
    have lb1:=zA1 HB1.out
    clear ho1 hn1 hB1 hzb1 p7 q7 la lb
    generalize hbn : bo.length = bn at BZ1 ⊢
    have HBN:=zA0 hbn.symm
    clear hbn
    generalize zK5 (en zA8 (dE bo)).2 = co
    go_wp2_with (refine wpList_load_mid rfl 73 (.tmp 104) rfl b2 (o2 + k * 29) rfl es2 _ G21.out Tryz.underlying73 rfl I2.out ?_)
    refine (zI1 es2 (dE bo) w1 HSZ.out R21.out).mono ?_
    rintro e w2 ⟨z2,rfl,ho2,hn2,hB2⟩
    have HA2:=zA0 ((hB2.block _ (zA1 HA1.out)).trans HA1.out)
    have HB2:=zA0 ((hB2.block _ (zA1 HB1.out)).trans HB1.out)
    have HBR2:=zA0 (HBR1.out.trans (hB2.mono HBR1.out.size))
    rw [HBY.out] at ho2
    obtain ⟨za2,zc2,hz2,hzb2⟩:=ho2.form
    subst hz2
    have HSM:=zA0 (zO5 za1 za2 bn bo.length zc1 zc2 bo bo w2 HBN.out rfl (BZ1.out.grow hB2) (hzb2 (by have:=HBL.out; omega)))
    clear ho2 hn2 hB2 hzb2 p7' q7' la1 lb1
    generalize zK5 (en zA8 (dE bo)).2 = co2
    generalize bo.length = bn2 at HSM ⊢
    go_wp2_with fail
    refine HSM.out.mono ?_
    rintro e w3 ⟨rfl,m4,rfl⟩
    rw [show decide True = true from rfl]
    go_wp2
    exact ⟨⟨k + 1,by omega,by go_num,HA2,HB2,zA0 ⟨HBR2.out.os,HBR2.out.tape,HBR2.out.output,HBR2.out.size,HBR2.out.block⟩⟩,by simp [intOf]; omega⟩
  · go_wp2
    go_ret
    exact ⟨rfl,HBR.out⟩
end
section
open Go.RowKit
theorem xY6 (p:Nat) (l:List UInt8) (bad:Bool) (prot S:Nat->Prop) (a:Option Addr) (c:Nat) (v:List UInt8) (w:World) (hl:l.length + szb .byt v<=137438953472) (hS:∀ b,S b->prot b) (hr:RepB w S a v) (h:WR w p l bad prot) :
    Calls Tryz.prog 120 #[.pointer (some ⟨p,0,none⟩),.slice a v.length c] w fun e w'=>e = .returned (.tuple #[])/\WR w' p (l ++ (enR .byt v).1) (bad || (enR .byt v).2) prot/\Kp w w' prot:=by
 have hl2 : Hid (l.length + (6 + v.length)<=137438953472):=hl
 have HSP : Hid (∀ b,S b->prot b):=hS
 have HNL : Hid ((enN (v.length:Int)).1.length<=6):=zA3 _
 have hM:=h.mark (bad || decide (65536 < (v.length:Int)))
 have HR1 : Hid (RepB (w.setCell ⟨p,1,none⟩ (.bool (bad || decide (65536 < (v.length:Int))))) S a v):=hr.keep hM.2 hS
 have HM : Hid _:=hM
 obtain ⟨h1,h2,h3,v0,h4,h5,h6,h7,h8,h9⟩:=h
 clear h1 h2 h9 h8 hM hl hS hr
 cases bad with
 | true =>
  simp only [Bool.true_or] at HM HR1
  go_enter Tryz.func120,Tryz.ntmps120
  go_wp2_with fail
  refine (zE9 p l true prot (v.length:Int) _ (by have:=hl2.out; omega) HM.out.1).mono ?_
  rintro e w1 ⟨rfl,hW1,hK1⟩
  have HR : Hid (RepB w1 S a v):=HR1.out.keep hK1 HSP.out
  obtain ⟨q1,q2,q3,v1,q4,q5,q6,q7,q8,q9⟩:=hW1
  obtain ⟨a1,c1,hv,hbs⟩:=q8.form
  subst hv
  have H2 : Hid _:=q2
  have H9 : Hid _:=q9
  have H1 : Hid _:=q1
  clear q1 q2 q9 hbs
  have hlb : Hid ((l ++ (enN (v.length:Int)).1).length + v.length<=211106232532992):=by
   show _<=_
   have:=HNL.out
   have:=hl2.out
   rw [List.length_append]; omega
  obtain ⟨m,hm⟩ : ∃ m,Hid (m = l ++ (enN (v.length:Int)).1):=⟨_,rfl⟩
  rw [<- hm.out] at q4 q8 hlb
  go_wp2_with (at_builtin; refine zC3 _ rfl (.tmp 24) (.tmp 25) rfl (.slice a1 m.length c1) m rfl q8 (.slice a v.length c) v rfl ?src ?len ?next)
  case src=>exact HR.out.1.src Tryz.underlying22 c
  case len=>exact hlb.out
  case next =>
   intro v' w2 o1 s1
   obtain ⟨hW2,hK2,k1,d1⟩:=WR.store0 H1.out H2.out q3 q5 q6 q7 (by rw [hm.out]; exact H9.out) q4 o1 s1
   obtain ⟨a',c',hv',_⟩:=o1.form
   subst hv'
   rw [List.length_append] at hW2 hK2
   have HW2 : Hid (WR _ _ _ _ _):=hW2
   clear hW2 o1 s1
   go_wp2
   go_end0
   refine ⟨rfl,?_,HM.out.2.trans (hK1.trans hK2)⟩
   have e : l ++ ((enN (v.length:Int)).1 ++ v) = m ++ v:=by rw [hm.out,List.append_assoc]
   show WR _ p (l ++ ((enN (v.length:Int)).1 ++ v)) (true || (decide (65536 < (v.length:Int)) || (enN (v.length:Int)).2)) prot
   rw [e]
   simpa using HW2.out
 | false =>
  simp only [Bool.false_or] at HM HR1
  go_enter Tryz.func120,Tryz.ntmps120
  go_wp2_with fail
  refine (zE9 p l (decide (65536 < (v.length:Int))) prot (v.length:Int) _ (by have:=hl2.out; omega) HM.out.1).mono ?_
  rintro e w1 ⟨rfl,hW1,hK1⟩
  have HR : Hid (RepB w1 S a v):=HR1.out.keep hK1 HSP.out
  obtain ⟨q1,q2,q3,v1,q4,q5,q6,q7,q8,q9⟩:=hW1
  obtain ⟨a1,c1,hv,hbs⟩:=q8.form
  subst hv
  have H2 : Hid _:=q2
  have H9 : Hid _:=q9
  have H1 : Hid _:=q1
  clear q1 q2 q9 hbs
  have hlb : Hid ((l ++ (enN (v.length:Int)).1).length + v.length<=211106232532992):=by
   show _<=_
   have:=HNL.out
   have:=hl2.out
   rw [List.length_append]; omega
  obtain ⟨m,hm⟩ : ∃ m,Hid (m = l ++ (enN (v.length:Int)).1):=⟨_,rfl⟩
  rw [<- hm.out] at q4 q8 hlb
  go_wp2_with (at_builtin; refine zC3 _ rfl (.tmp 24) (.tmp 25) rfl (.slice a1 m.length c1) m rfl q8 (.slice a v.length c) v rfl ?src ?len ?next)
  case src=>exact HR.out.1.src Tryz.underlying22 c
  case len=>exact hlb.out
  case next =>
   intro v' w2 o1 s1
   obtain ⟨hW2,hK2,k1,d1⟩:=WR.store0 H1.out H2.out q3 q5 q6 q7 (by rw [hm.out]; exact H9.out) q4 o1 s1
   obtain ⟨a',c',hv',_⟩:=o1.form
   subst hv'
   rw [List.length_append] at hW2 hK2
   have HW2 : Hid (WR _ _ _ _ _):=hW2
   clear hW2 o1 s1
   go_wp2
   go_end0
   refine ⟨rfl,?_,HM.out.2.trans (hK1.trans hK2)⟩
   have e : l ++ ((enN (v.length:Int)).1 ++ v) = m ++ v:=by rw [hm.out,List.append_assoc]
   show WR _ p (l ++ ((enN (v.length:Int)).1 ++ v)) (false || (decide (65536 < (v.length:Int)) || (enN (v.length:Int)).2)) prot
   rw [e]
   simpa using HW2.out
end
end Go.Proofs.YtocoimjhglackaaGreat
