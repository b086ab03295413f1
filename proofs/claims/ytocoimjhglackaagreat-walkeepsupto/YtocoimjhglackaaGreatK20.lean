/- Vpwsn, Vpwen, Wfa, Wfb -/
import Derived.Test.YtocoimjhglackaaGreatK18
import Derived.Test.YtocoimjhglackaaGreatK19
import Derived.Test.YtocoimjhglackaaGreatK11
import Derived.Test.YtocoimjhglackaaGreatK16
import Derived.Laws.IdiomStrings
import Derived.Laws.BytesArg
import Derived.JoinedCond
import Derived.Lib.AppendZeros
set_option maxHeartbeats 8000000
set_option maxRecDepth 100000
namespace Go.Proofs.YtocoimjhglackaaGreat
section
open Go.RowKit
theorem zT4 : (Tryz.prog.info? 36).map (·.size) = some (wd zA2):=by kernel_rfl
theorem zR5 (cs:List Value) (v:Vl zA2) (w:World) (hr:Rep w (fun b=>b < w.heap.size) zA2 cs v) :
    Calls Tryz.prog 79 #[.agg cs.toArray] w fun e w'=>∃ val,e = .returned (.tuple #[val,.int .i64 (zK5 (en zA2 v).2)])/\Own w' val (zD6 (en zA2 v))/\(∀ b,val.ownBlock = some b->w.heap.size<=b)/\Below w.heap.size w w':=by
 have hsz : Hid ((Tryz.prog.info? 36).map (·.size) = some cs.toArray.size):=by show _ = _; rw [List.size_toArray,hr.len]; exact zT4
 have HG2 : Hid (((w.alloc (.cells cs.toArray 36)).alloc (.cells #[.slice none 0 0,.bool false] 165)).heap[w.heap.size]? = some (.cells cs.toArray 36 (0,0))):=by
  show _ = _
  rw [Below.heap_alloc _ _ _ (by rw [World.size_alloc]; omega)]; exact heap_alloc_new w _
 have hB0 : Below w.heap.size w ((w.alloc (.cells cs.toArray 36)).alloc (.cells #[.slice none 0 0,.bool false] 165)):=((Below.refl _ _).alloc (Nat.le_refl _) _).alloc (by rw [World.size_alloc]; omega) _
 have HR : Hid (Rep ((w.alloc (.cells cs.toArray 36)).alloc (.cells #[.slice none 0 0,.bool false] 165)) (fun b=>b < w.heap.size) zA2 cs v):=hr.kept hB0.size (fun b hb=>hB0.block b hb) (fun _ x=>x)
 have HB0 : Hid _:=hB0
 clear hr hB0
 go_enter Tryz.func79,Tryz.ntmps79
 go_wp2_with (refine wpList_load_row rfl 36 (.tmp 1) rfl w.heap.size rfl 36 cs.toArray (0,0) _ HG2.out Tryz.underlying36 rfl hsz.out ?_)
 refine (yW1 _ [] false (fun b=>b < w.heap.size + 1) (fun b=>b < w.heap.size) cs v _ (by rw [List.length_nil]; omega) (fun b hb=>by omega) HR.out (yZ2 _ _ (by rw [World.size_alloc]))).mono ?_
 rintro e w1 ⟨rfl,hW,hK⟩
 have hB : Below w.heap.size w w1:=HB0.out.trans (hK.below.mono (by omega))
 rw [List.nil_append,Bool.false_or] at hW
 clear hK HG2
 go_wp2_with fail
 refine (xR3 _ _ _ _ _ hW).mono ?_
 rintro e w2 ⟨val,rfl,hO,hN0,hw⟩
 subst hw
 have hN : ∀ b,val.ownBlock = some b->w.heap.size<=b:=fun b hb=>by have:=hN0 b hb; simp at this; omega
 have HO : Hid (Own w2 val (zD6 (en zA2 v))):=hO
 clear hO hN0 hW
 go_wp2
 go_ret2
 have hO:=HO.out
 exact ⟨_,rfl,hO,hN,hB⟩
end
section
open Go.RowKit
theorem yA9 : (Tryz.prog.info? 73).map (·.size) = some (wd zA8):=by kernel_rfl
theorem yW9 (cs:List Value) (v:Vl zA8) (w:World) (hr:Rep w (fun b=>b < w.heap.size) zA8 cs v) :
    Calls Tryz.prog 88 #[.agg cs.toArray] w fun e w'=>∃ val,e = .returned (.tuple #[val,.int .i64 (zK5 (en zA8 v).2)])/\Own w' val (zD6 (en zA8 v))/\(∀ b,val.ownBlock = some b->w.heap.size<=b)/\Below w.heap.size w w':=by
 have hsz : Hid ((Tryz.prog.info? 73).map (·.size) = some cs.toArray.size):=by show _ = _; rw [List.size_toArray,hr.len]; exact yA9
 have HG2 : Hid (((w.alloc (.cells cs.toArray 73)).alloc (.cells #[.slice none 0 0,.bool false] 165)).heap[w.heap.size]? = some (.cells cs.toArray 73 (0,0))):=by
  show _ = _
  rw [Below.heap_alloc _ _ _ (by rw [World.size_alloc]; omega)]; exact heap_alloc_new w _
 have hB0 : Below w.heap.size w ((w.alloc (.cells cs.toArray 73)).alloc (.cells #[.slice none 0 0,.bool false] 165)):=((Below.refl _ _).alloc (Nat.le_refl _) _).alloc (by rw [World.size_alloc]; omega) _
 have HR : Hid (Rep ((w.alloc (.cells cs.toArray 73)).alloc (.cells #[.slice none 0 0,.bool false] 165)) (fun b=>b < w.heap.size) zA8 cs v):=hr.kept hB0.size (fun b hb=>hB0.block b hb) (fun _ x=>x)
 have HB0 : Hid _:=hB0
 clear hr hB0
 go_enter Tryz.func88,Tryz.ntmps88
 go_wp2_with (refine wpList_load_row rfl 73 (.tmp 1) rfl w.heap.size rfl 73 cs.toArray (0,0) _ HG2.out Tryz.underlying73 rfl hsz.out ?_)
 refine (xX2 _ [] false (fun b=>b < w.heap.size + 1) (fun b=>b < w.heap.size) cs v _ (by rw [List.length_nil]; omega) (fun b hb=>by omega) HR.out (yZ2 _ _ (by rw [World.size_alloc]))).mono ?_
 rintro e w1 ⟨rfl,hW,hK⟩
 have hB : Below w.heap.size w w1:=HB0.out.trans (hK.below.mono (by omega))
 rw [List.nil_append,Bool.false_or] at hW
 clear hK HG2
 go_wp2_with fail
 refine (xR3 _ _ _ _ _ hW).mono ?_
 rintro e w2 ⟨val,rfl,hO,hN0,hw⟩
 subst hw
 have hN : ∀ b,val.ownBlock = some b->w.heap.size<=b:=fun b hb=>by have:=hN0 b hb; simp at this; omega
 have HO : Hid (Own w2 val (zD6 (en zA8 v))):=hO
 clear hO hN0 hW
 go_wp2
 go_ret2
 have hO:=HO.out
 exact ⟨_,rfl,hO,hN,hB⟩
end
section
open Go.RowKit Go.Maps
def Dr (w w':World) : Prop:=∃ n,w' = w.drewN n
theorem Dr.refl (w:World) : Dr w w:=⟨0,rfl⟩
theorem Dr.dn {w w':World} (h:Dr w w') (n:Nat) : Dr w (w'.drewN n):=by
 obtain ⟨m,rfl⟩:=h
 exact ⟨_,World.drewN_drewN _ _ _⟩
def BodV (w:World) (S:Nat->Prop) (v:Value) (b:List UInt8) : Prop:=SlR w v b/\∀ k,v.ownBlock = some k->S k
theorem cor {w:World} {b j:Nat} {cs:Array Value} {t:TypeId} {fr:Nat × Nat} {v:Value} (h:w.heap[b]? = some (.cells cs t fr)) (hv:cs[j]? = some v) : w.cell? ⟨b,j,none⟩ = some v:=by rw [cell_of_row _ _ _ _ t fr h]; exact hv
def T22 (w:World) (g:Nat) : Prop:=∃ cur,w.heap[g]? = some (.cells cur 22 (0,0))
theorem T22.lt {w:World} {g:Nat} (h:T22 w g) : g < w.heap.size:=by obtain ⟨_,h⟩:=h; exact zA1 h
def RowB (w:World) (S:Nat->Prop) (v:Value) (bs:List (List UInt8)) : Prop:=∃ a cap,v = .slice a bs.length cap/\bs.length<=cap/\cap<=maxLen /\
 (bs ≠ []->∃ g off,a = some ⟨g,off,none⟩/\T22 w g/\S g/\∀ i (h:i < bs.length),∃ x,w.cell? ⟨g,off + i,none⟩ = some x/\BodV w S x bs[i])
def SnV (w:World) (S:Nat->Prop) (v:Value) : Option (List UInt8)->Prop
 | none=>v = .slice none 0 0
 | some b=>BodV w S v b
def zJ6 (w:World) (S:Nat->Prop) (cs:List Value) (s:Sd) : Prop:=∃ sv ev,cs = [.int .i64 s.t,.int .i64 s.v,sv,.int .i64 s.base,ev]/\SnV w S sv s.sn/\RowB w S ev s.bs
def zE7 (w:World) (S:Nat->Prop) (p o:Nat) (s:Sd) : Prop:=∃ cs,zJ6 w S cs s/\w.rangeAt p o cs
theorem BodV.kept {w w':World} {S S':Nat->Prop} {v:Value} {b:List UInt8} (h:BodV w S v b) (hb:∀ k,S k->w'.heap[k]? = w.heap[k]?) (hS:∀ k,S k->S' k) : BodV w' S' v b :=
 ⟨h.1.kept fun k hk=>hb k (h.2 k hk),fun k hk=>hS k (h.2 k hk)⟩
theorem RowB.kept {w w':World} {S S':Nat->Prop} {v:Value} {bs:List (List UInt8)} (h:RowB w S v bs) (_hs:w.heap.size<=w'.heap.size) (hb:∀ k,S k->w'.heap[k]? = w.heap[k]?) (hS:∀ k,S k->S' k) : RowB w' S' v bs:=by
 obtain ⟨a,cap,h1,h2,h3,h4⟩:=h
 refine ⟨a,cap,h1,h2,h3,fun hne=>?_⟩
 obtain ⟨g,off,e,h5,h6,h7⟩:=h4 hne
 refine ⟨g,off,e,h5.elim fun c hc=>⟨c,(hb g h6).trans hc⟩,hS g h6,fun i hi=>?_⟩
 obtain ⟨x,h8,h9⟩:=h7 i hi
 exact ⟨x,(World.cell?_of_block (a:=⟨g,off + i,none⟩) (hb g h6)).trans h8,h9.kept hb hS⟩
theorem SnV.kept {w w':World} {S S':Nat->Prop} {v:Value} {o:Option (List UInt8)} (h:SnV w S v o) (hb:∀ k,S k->w'.heap[k]? = w.heap[k]?) (hS:∀ k,S k->S' k) : SnV w' S' v o:=by
 cases o with
 | none=>exact h
 | some b=>exact BodV.kept h hb hS
theorem zJ6.kept {w w':World} {S S':Nat->Prop} {cs:List Value} {s:Sd} (h:zJ6 w S cs s) (hs:w.heap.size<=w'.heap.size) (hb:∀ k,S k->w'.heap[k]? = w.heap[k]?) (hS:∀ k,S k->S' k) : zJ6 w' S' cs s:=by
 obtain ⟨sv,ev,h1,h2,h3⟩:=h
 exact ⟨sv,ev,h1,h2.kept hb hS,h3.kept hs hb hS⟩
theorem zE7.kept {w w':World} {S S':Nat->Prop} {p o:Nat} {s:Sd} (h:zE7 w S p o s) (hs:w.heap.size<=w'.heap.size) (hb:∀ k,S k->w'.heap[k]? = w.heap[k]?) (hS:∀ k,S k->S' k) (hp:w'.heap[p]? = w.heap[p]?) : zE7 w' S' p o s:=by
 obtain ⟨cs,h1,h2⟩:=h
 exact ⟨cs,h1.kept hs hb hS,zB1 h2 hp⟩
theorem zE7.cells {w:World} {S:Nat->Prop} {p o:Nat} {s:Sd} (h:zE7 w S p o s) : ∃ sv ev,SnV w S sv s.sn/\RowB w S ev s.bs/\w.cell? ⟨p,o,none⟩ = some (.int .i64 s.t)/\w.cell? ⟨p,o + 1,none⟩ = some (.int .i64 s.v)/\w.cell? ⟨p,o + 2,none⟩ = some sv/\w.cell? ⟨p,o + 3,none⟩ = some (.int .i64 s.base)/\w.cell? ⟨p,o + 4,none⟩ = some ev:=by
 obtain ⟨cs,⟨sv,ev,rfl,h2,h3⟩,hr⟩:=h
 exact ⟨sv,ev,h2,h3,hr 0 _ rfl,hr 1 _ rfl,hr 2 _ rfl,hr 3 _ rfl,hr 4 _ rfl⟩
theorem SlR.bs {w:World} {v:Value} {l:List UInt8} (h:SlR w v l) (hl:l.length<=211106232532992) : ∃ a cap,v = .slice a l.length cap/\l.length<=cap/\Bs w a l:=by
 obtain ⟨a,cap,h1,h2,h3⟩:=h.form
 exact ⟨a,cap,h1,h2,h3 hl⟩
theorem SlR.blk {w:World} {a:Option Addr} {n cap:Nat} {l:List UInt8} (h:SlR w (.slice a n cap) l) : ∀ y,a = some y->y.block < w.heap.size:=by
 rintro y rfl
 rcases h with ⟨e,_⟩ | ⟨g,c,cur,e,hg,_⟩
 · cases e
 · cases e; exact zA1 hg
theorem zN6 (n:Int) (w:World) : Calls Tryz.prog 90 #[.int .i64 n] w fun e w'=>e = .returned (.bool (decide (okN n)))/\w' = w:=by
 by_cases h0 : 0<=n
 · by_cases h1 : n<=1099511627776
   · rw [decide_eq_true (⟨h0,h1⟩ : okN n)]
     go_enter Tryz.func90,Tryz.ntmps90
     go_wp2
     go_ret
     exact ⟨rfl,rfl⟩
   · rw [decide_eq_false (fun h:okN n=>h1 h.2)]
     go_enter Tryz.func90,Tryz.ntmps90
     go_wp2
     go_ret
     exact ⟨rfl,rfl⟩
 · rw [decide_eq_false (fun h:okN n=>h0 h.1)]
   go_enter Tryz.func90,Tryz.ntmps90
   go_wp2
   go_ret
   exact ⟨rfl,rfl⟩
theorem zF4 (t v:Int) (w:World) : Calls Tryz.prog 58 #[.agg #[.int .i64 t,.int .i64 v]] w fun e w'=>e = .returned (.bool (decide (okN t/\okN v)))/\Below w.heap.size w w':=by
 by_cases ht : okN t
 · by_cases hv : okN v
   · rw [decide_eq_true (⟨ht,hv⟩ : okN t/\okN v)]
     go_enter Tryz.func58,Tryz.ntmps58
     go_wp2_with (go_at_call 90; refine (zN6 _ _).mono ?_; rintro e w1 ⟨rfl,hw⟩; subst w1; first | rw [decide_eq_true ht] | rw [decide_eq_true hv])
     go_ret
     exact ⟨rfl,zB5 _ _⟩
   · rw [decide_eq_false (fun h:okN t/\okN v=>hv h.2)]
     go_enter Tryz.func58,Tryz.ntmps58
     go_wp2_with (go_at_call 90; refine (zN6 _ _).mono ?_; rintro e w1 ⟨rfl,hw⟩; subst w1; first | rw [decide_eq_true ht] | rw [decide_eq_false hv])
     go_ret
     exact ⟨rfl,zB5 _ _⟩
 · rw [decide_eq_false (fun h:okN t/\okN v=>ht h.1)]
   go_enter Tryz.func58,Tryz.ntmps58
   go_wp2_with (go_at_call 90; refine (zN6 _ _).mono ?_; rintro e w1 ⟨rfl,hw⟩; subst w1; rw [decide_eq_false ht])
   go_ret
   exact ⟨rfl,zB5 _ _⟩
theorem yE9 (S:Nat->Prop) (p o:Nat) (s:Sd) (w:World) (h:zE7 w S p o s) (hb:okN s.base) (hl:s.bs.length<=1099511627776) : Calls Tryz.prog 112 #[.pointer (some ⟨p,o,none⟩)] w fun e w'=>e = .returned (.int .i64 (s.base + s.bs.length))/\Dr w w':=by
 obtain ⟨sv,ev,_,h2,c0,c1,c2,c3,c4⟩:=h.cells
 obtain ⟨a,cap,rfl,_⟩:=h2
 obtain ⟨b1,b2⟩:=hb
 clear h c0 c1 c2
 go_enter Tryz.func112,Tryz.ntmps112
 go_wp2
 go_quiet (fail)
 go_wp2
 go_ret
 exact ⟨by simp,_,rfl⟩
theorem zN2 (S:Nat->Prop) (p o:Nat) (s:Sd) (n:Int) (w:World) (h:zE7 w S p o s) (hb:okN s.base) (hl:s.bs.length<=1099511627776) : Calls Tryz.prog 89 #[.pointer (some ⟨p,o,none⟩),.int .i64 n] w fun e w'=>e = .returned (.bool (decide (s.base < n/\n<=s.base + s.bs.length + 1)))/\Dr w w':=by
 have HB:=zA0 hb
 have HL:=zA0 hl
 have HS:=zA0 h
 obtain ⟨sv,ev,_,h2,c0,c1,c2,c3,c4⟩:=h.cells
 obtain ⟨b1,b2⟩:=hb
 clear h c0 c1 c2 c4 h2
 by_cases h0 : s.base < n
 · by_cases h1 : n<=s.base + s.bs.length + 1
   · rw [decide_eq_true (⟨h0,h1⟩ : s.base < n/\n<=s.base + s.bs.length + 1)]
     go_enter Tryz.func89,Tryz.ntmps89
     go_wp2_with (go_at_call 112; refine (yE9 S p o s _ HS.out HB.out HL.out).mono ?_; rintro e w1 ⟨rfl,nq,rfl⟩)
     go_ret
     exact ⟨rfl,_,rfl⟩
   · rw [decide_eq_false (fun h=>h1 h.2 : ¬ (s.base < n/\n<=s.base + s.bs.length + 1))]
     go_enter Tryz.func89,Tryz.ntmps89
     go_wp2_with (go_at_call 112; refine (yE9 S p o s _ HS.out HB.out HL.out).mono ?_; rintro e w1 ⟨rfl,nq,rfl⟩)
     go_ret
     exact ⟨by simp [h1],_,rfl⟩
 · rw [decide_eq_false (fun h=>h0 h.1 : ¬ (s.base < n/\n<=s.base + s.bs.length + 1))]
   go_enter Tryz.func89,Tryz.ntmps89
   go_wp2
   go_ret
   exact ⟨rfl,0,rfl⟩
def FrP (w:World) (kind place:Int) (l:List UInt8) (e:Ending) (w':World) : Prop:=∃ v',e = .returned v'/\Own w' v' (fr kind.toNat place.toNat l)/\Stp w w' none v'.ownBlock
theorem zS0 (kind place:Int) (a:Option Addr) (n cap:Nat) (l:List UInt8) (w:World) (hn:n = l.length) (h:Bs w a l) (hok:okF kind place n) :
    Calls Tryz.prog 113 #[.int .i64 kind,.int .i64 place,.slice a n cap] w fun e w'=>FrP w kind place l e w':=by
 have HF:=zA0 (xN1 kind place a n cap l w hn h hok)
 clear h hok hn
 go_enter Tryz.func113,Tryz.ntmps113
 go_wp2_with (go_at_call 141; refine HF.out.mono ?_; rintro e w1 ⟨v1,rfl,h1,h2⟩; obtain ⟨a1,c1,hv,_⟩:=h1.form; subst hv; have H1:=zA0 h1; have H2:=zA0 h2; clear h1 h2)
 go_ret
 exact ⟨_,rfl,H1.out,H2.out⟩
end
section
open Go.RowKit Go.Maps
theorem yG1 {w:World} {a:Option Addr} {l:List UInt8} (cap:Nat) (h:Bs w a l) (hn:a = none->l = []) : (convert 22 9 (.slice a l.length cap)).run Tryz.prog w = .ok (.string ⟨l.toArray⟩) w:=by
 cases a with
 | none =>
  rw [hn rfl]
  exact run_convert_bytes_nil w 22 5 Tryz.underlying22 Tryz.underlying5 0 cap 9 Tryz.underlying9
 | some a =>
  refine run_convert_bytes_back w 22 9 5 a cap l Tryz.underlying22 Tryz.underlying5 Tryz.underlying9 (fun j hj=>?_)
  obtain ⟨b,off,e,_,hc⟩:=h.2 (by intro e; rw [e] at hj; simp at hj)
  cases e
  rw [Addr.add_lit,hc j hj]
  simp [bat,bn,List.getD,hj]
theorem yX7 (a b:Option Addr) (ca cb:Nat) (l:List UInt8) (w:World) (ha:Bs w a l) (hb:Bs w b l) (hl:l ≠ []) : Calls Tryz.prog 193 #[.slice a l.length ca,.slice b l.length cb] w fun e w'=>e = .returned (.bool true)/\Dr w w':=by
 obtain ⟨_,_,rfl,_⟩:=ha.2 hl
 obtain ⟨_,_,rfl,_⟩:=hb.2 hl
 have c1 : ∀ n,_:=fun n=>yG1 (w:=w.drewN n) ca (ha.drewN n) (fun e=>by cases e)
 have c2 : ∀ n,_:=fun n=>yG1 (w:=w.drewN n) cb (hb.drewN n) (fun e=>by cases e)
 have d1:=yG1 (w:=w) ca ha (fun e=>by cases e)
 have d2:=yG1 (w:=w) cb hb (fun e=>by cases e)
 clear ha hb
 generalize l.length = n at *
 go_enter Tryz.func193,Tryz.ntmps193
 go_wp2
 first | go_quiet (fail) | skip
 first | go_wp2 | skip
 go_ret
 exact ⟨by simp,by first | exact Dr.refl _ | exact (Dr.refl _).dn _⟩
theorem xJ2 (b off n cap lo m:Nat) (x:Int) (hx:x = lo) (h1:lo<=n) (_h2:n<=cap) (h3:lo < cap) (hm:m = n - lo) (w:World) :
    (Instr.slice 22 (.slice (some ⟨b,off,none⟩) n cap) (some (.int .i64 x)) none none).run Tryz.prog w = .ok (.slice (some ⟨b,off + lo,none⟩) m (cap - lo)) w:=by
 subst hx; subst hm
 rw [run_slice_l (P:=Tryz.prog) w 22 _ n cap Tryz.elem22 .i64 lo (by omega) (by omega),Tryz.size5]
 simp only [Result.andThen_ok,sliced,Int.toNat_natCast]
 rw [if_neg (by omega)]
 simp [Addr.add_lit]
def z3 : List UInt8:=[0,0,0]
theorem yF4 (b off k cap bz cz:Nat) (x:List UInt8) (w:World) (hk:k = x.length + 3) (hcap:k<=cap) (hk2:k<=1048576) (h:Bs w (some ⟨b,off,none⟩) (x ++ z3)) (hz:Bs w (some ⟨bz,0,none⟩) z3) :
    Calls Tryz.prog 170 #[.slice (some ⟨b,off,none⟩) k cap,.slice (some ⟨bz,0,none⟩) 3 cz] w fun e w'=>e = .returned (.bool true)/\Dr w w':=by
 have e1:=xJ2 b off k cap x.length 3 ((k:Int) - 3) (by omega) (by omega) hcap (by omega) (by omega)
 have hp : Bs w (some ⟨b,off + x.length,none⟩) z3:=by
  have:=h.part x.length 3
  rw [List.drop_left] at this
  exact this
 have HQ:=zA0 hp
 have HZ:=zA0 hz
 have k1 : ((3:Int)<=(k:Int)):=by omega
 have k2 : (k:Int)<=1048576:=by omega
 generalize hq : off + x.length = q at *
 generalize hc : cap - x.length = c at *
 clear hq hc hk h hp hz
 go_enter Tryz.func170,Tryz.ntmps170
 go_wp2_with (go_at_call 193; refine (yX7 _ _ _ _ z3 _ HQ.out HZ.out (by simp [z3])).mono ?_; rintro e w1 ⟨rfl,nq,rfl⟩)
 go_ret
 exact ⟨rfl,_,rfl⟩
theorem xI3 (b off k cap bz cz:Nat) (x:List UInt8) (w:World) (hk:k = x.length + 3) (hcap:k<=cap) (hk2:k<=1048576) (h:Bs w (some ⟨b,off,none⟩) (x ++ z3)) (hz:Bs w (some ⟨bz,0,none⟩) z3) :
    Calls Tryz.prog 142 #[.slice (some ⟨b,off,none⟩) k cap,.slice (some ⟨bz,0,none⟩) 3 cz] w fun e w'=>e = .returned (.slice (some ⟨b,off,none⟩) x.length cap)/\Dr w w':=by
 have HS:=zA0 (yF4 b off k cap bz cz x w hk hcap hk2 h hz)
 have e1:=yD6 (some ⟨b,off,none⟩) k cap x.length ((k:Int) - 3) (by omega) (by omega)
 have k1 : (k:Int)<=1048576:=by omega
 clear h hz
 generalize hx : x.length = n at *
 clear hk hx hcap
 go_enter Tryz.func142,Tryz.ntmps142
 go_wp2_with (go_at_call 170; refine HS.out.mono ?_; rintro e w1 ⟨rfl,nq,rfl⟩)
 first | go_quiet (fail) | skip
 first | go_wp2 | skip
 go_ret
 exact ⟨rfl,by first | exact (Dr.refl _).dn _ | exact ((Dr.refl _).dn _).dn _⟩
theorem yF8 {t v:Int} (ht:okN t) (hv:okN v) : en zA2 (t,v,([],[]),[]) = (zE0 t v ++ z3,false):=by
 have e : en zA2 (t,v,([],[]),[]) = ((enN t).1 ++ ((enN v).1 ++ (en (.cat zB4 .byt) (([],[]),[])).1),(enN t).2 || ((enN v).2 || (en (.cat zB4 .byt) (([],[]),[])).2)):=rfl
 have e2 : en (.cat zB4 .byt) (([],[]),[]) = (z3,false):=by kernel_rfl
 rw [e,e2,zT1 ht,zT1 hv]
 simp [zE0]
def HbP (w:World) (t v:Int) (e:Ending) (w':World) : Prop:=∃ b cap,e = .returned (.slice (some ⟨b,0,none⟩) (zE0 t v).length cap)/\(zE0 t v).length<=cap/\Bs w' (some ⟨b,0,none⟩) (zE0 t v)/\w.heap.size<=b/\Below w.heap.size w w'
theorem xK6 (w:World) (S:Nat->Prop) (t v:Int) : Rep w S zA2 [.int .i64 t,.int .i64 v,.slice none 0 0,.slice none 0 0,.slice none 0 0] (t,v,([],[]),[]) :=
 zP9 t v (.slice none 0 0) (.slice none 0 0) zQ4 none 0 [] (yO1 w S) ⟨Nat.le_refl _,⟨by simp,fun h=>absurd rfl h⟩,fun h=>absurd rfl h⟩
theorem kG3 (w:World) : Bs (w.alloc (.cells #[.int .u8 0,.int .u8 0,.int .u8 0] 5 (3,4))) (some ⟨w.heap.size,0,none⟩) z3:=by
 refine ⟨by simp [z3],fun _=>⟨w.heap.size,0,rfl,by simp,fun j hj=>?_⟩⟩
 rw [Nat.zero_add,cell_of_row _ w.heap.size j _ 5 (3,4) (heap_alloc_new w _)]
 have hj3 : j = 0\/j = 1\/j = 2:=by simp [z3] at hj; omega
 rcases hj3 with rfl | rfl | rfl <;> rfl
theorem yO7 (t v:Int) (ht:okN t) (hv:okN v) (w:World) : Calls Tryz.prog 114 #[.agg #[.int .i64 t,.int .i64 v]] w (HbP w t v):=by
 have hcv:=fun w=>Go.Lib.run_convert_bytes_const (P:=Tryz.prog) w 22 5 #[.int .u8 0,.int .u8 0,.int .u8 0] 3 3 Tryz.underlying22 Tryz.underlying5
 have HT:=zA0 ht
 have HV:=zA0 hv
 clear ht hv
 go_enter Tryz.func114,Tryz.ntmps114
 go_wp2_with (go_at_call 79; refine (zR5 [.int .i64 t,.int .i64 v,.slice none 0 0,.slice none 0 0,.slice none 0 0] (t,v,([],[]),[]) _ (xK6 _ _ t v)).mono ?_; rintro e w1 ⟨val,rfl,ho,hn,hb⟩)
 have hen:=yF8 HT.out HV.out
 rw [hen] at ho
 have hl : (zD6 (zE0 t v ++ z3,false)).length = (zE0 t v).length + 3:=by simp [zD6,z3]
 obtain ⟨g,cap,rfl,hcap⟩:=Own.some ho (by simp [zD6,z3])
 have hm:=zH2 HT.out HV.out
 have hbs : Bs w1 (some ⟨g,0,none⟩) (zE0 t v ++ z3):=by
  obtain ⟨a,c,h1,h2⟩:=ho.form
  cases h1
  exact h2 (by rw [hl]; omega)
 rw [hl] at hcap
 rw [hl,hen]
 have HBS:=zA0 hbs
 have HN:=zA0 hn
 have HB:=zA0 hb
 have HCAP:=zA0 hcap
 have HM:=zA0 hm
 obtain ⟨k,hk⟩ : ∃ k,k = (zE0 t v).length + 3:=⟨_,rfl⟩
 rw [<- hk]
 have HK:=zA0 hk
 clear ho hn hb hen hcap hl hbs hm hk
 go_wp2_with (go_at_call 142; refine (xI3 g 0 k cap _ 3 (zE0 t v) _ HK.out (by have:=HK.out; have:=HCAP.out; omega) (by have:=HK.out; have:=HM.out; omega) (HBS.out.grow (zB5 w1 _)) (kG3 _)).mono ?_; rintro e w2 ⟨rfl,nq,rfl⟩)
 go_ret
 have h3:=(HBS.out.first (zE0 t v).length).grow (zB5 w1 (.cells #[.int .u8 0,.int .u8 0,.int .u8 0] 5 (3,4)))
 rw [List.take_left] at h3
 refine ⟨g,cap,rfl,by have:=HCAP.out; omega,h3.drewN _,?_,?_⟩
 · have:=HN.out g rfl; simp at this; omega
 · exact ((zB5 w _).trans (HB.out.mono (by simp))).trans (((zB5 w1 _).mono (by have:=HB.out.size; simp at this; omega)).trans (⟨rfl,rfl,rfl,Nat.le_refl _,fun _ _=>rfl⟩))
end
end Go.Proofs.YtocoimjhglackaaGreat
