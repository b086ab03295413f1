/- Wkb, Rgm, Wkc, Wlc, Wle -/
import Derived.Test.YtocoimjhglackaaGreatK45
set_option maxHeartbeats 8000000
set_option maxRecDepth 100000
namespace Go.Proofs.YtocoimjhglackaaGreat
section
open Go.RowKit Go.Maps
def Rb (wr:World) (F:Nat->Prop) (q b:Nat) (k:Nat) : Prop:=Sw wr F q k/\k ≠ b
structure Lw (w0 wr:World) (q p b:Nat) (M:Md) (cnt:Nat) (F:Nat->Prop) (m:Sd) (cs:List Value) : Prop where
 wal : WalR wr q p M cnt F m false
 good : Good M m
 blk : wr.heap[b]? = some (.cells cs.toArray 39 (0,0))
 rep : Rep wr (Rb wr F q b) zB6 cs (dec m)
 nb : ¬ F b/\b ≠ q
 bel : Below w0.heap.size w0 wr
 fa : ∀ k,F k->w0.heap.size<=k
 qa : w0.heap.size<=q
 ba : w0.heap.size<=b
structure Stp1 (R:Nat->Prop) (w0 wr w':World) (q p b:Nat) (cnt:Nat) (F:Nat->Prop) (m:Sd) (x:De) (M:Md) (cs':List Value) (m':Sd) (M':Md) (F':Nat->Prop) (y:Int) : Prop where
 wal : WalR w' q p M' (cnt + 4) F' m' false
 good : Good M' m'
 fr : Fr wr w' (Fq F q) (Fq F' q)
 rep : Rep w' (Rb w' F' q b) zB6 cs' (dec m')
 rep2 : Rep w' (fun k=>(R k\/wr.heap.size<=k)/\Sw w' F' q k) zB6 cs' (dec m')
 nb : ¬ F' b
 bk : w'.heap[b]? = wr.heap[b]?
 bel : Below w0.heap.size w0 w'
 fa : ∀ k,F' k->w0.heap.size<=k
 dsr : DsR w' q p cnt m x M m' y y F'
theorem Lw.new {w0 w1 w2:World} {p:Nat} {F1 F:Nat->Prop} {q:Nat} {cs:List Value} {w3:World} (hB1:Below w0.heap.size w0 w1) (hF1:∀ k,F1 k->w0.heap.size<=k) (hw:WalR w2 q p M0 4 F sd0 false) (hr:Rep w2 (Sw w2 F q) zB6 cs (dec sd0)) (hfr:Fr w1 w2 F1 F) (hq:w1.heap.size<=q) (h3:w3 = (w2.alloc (.cells Z39 39)).setRow w2.heap.size cs.toArray) : Lw w0 w3 q p w2.heap.size M0 4 F sd0 cs:=by
 have hB2 : Below w0.heap.size w0 w2:=hB1.trans (hfr.below hB1.size hF1)
 have hB23 : Below w2.heap.size w2 w3:=by rw [h3]; exact (zB5 w2 _).trans ⟨rfl,rfl,rfl,by simp [World.setRow],fun k hk=>setRow_other _ _ _ _ (by omega)⟩
 have hqa : w0.heap.size<=q:=Nat.le_trans hB1.size hq
 refine ⟨hw.below hB23,kE2,by rw [h3]; exact setRow_heap _ _ _ _ 39 _ (heap_alloc_new w2 _),?_,⟨fun e=>Nat.lt_irrefl _ (hw.dsk.flt _ e),fun e=>by have:=hw.lq; omega⟩,hB2.trans (hB23.mono hB2.size),hfr.above hB1.size hF1,hqa,hB2.size⟩
 exact hr.kept hB23.size (fun k hk=>hB23.block k hk.1) (fun k hk=>⟨⟨Nat.lt_of_lt_of_le hk.1 hB23.size,hk.2⟩,by have:=hk.1; omega⟩)
theorem Lw.put {w0 w3:World} {q p b:Nat} {M:Md} {cnt:Nat} {F:Nat->Prop} {m:Sd} {cs old:List Value} (hw:WalR w3 q p M cnt F m false) (hg:Good M m) (hb:w3.heap[b]? = some (.cells old.toArray 39 (0,0))) (hr:Rep w3 (Rb w3 F q b) zB6 cs (dec m)) (nb:¬ F b/\b ≠ q) (bel:Below w0.heap.size w0 w3) (fa:∀ k,F k->w0.heap.size<=k) (qa:w0.heap.size<=q) (ba:w0.heap.size<=b) {w4:World} (h4:w4 = w3.setRow b cs.toArray) : Lw w0 w4 q p b M cnt F m cs:=by
 subst h4
 have hB : Below w0.heap.size w3 (w3.setRow b cs.toArray):=⟨rfl,rfl,rfl,by simp [World.setRow],fun k hk=>setRow_other _ _ _ _ (by omega)⟩
 refine ⟨hw.row hb (by decide) nb.1 nb.2 _,hg,setRow_heap _ _ _ _ 39 _ hb,?_,nb,bel.trans hB,fa,qa,ba⟩
 exact hr.kept hB.size (fun k hk=>setRow_other _ _ _ _ hk.2) (fun k hk=>⟨⟨Nat.lt_of_lt_of_le hk.1.1 hB.size,hk.1.2⟩,hk.2⟩)
end
section
section Sc1
variable {P:Program} {ops:Array Oper} {Q:Exit->Act->World->Prop} {md:Region.Mode} {S:World->Prop} {L:Nat}
def kA0 (P:Program) (md:Region.Mode) (ops:Array Oper) (Q:Exit->Act->World->Prop) (S:World->Prop) (L:Nat) : Nat->Array Bool->Act->World->Prop
 | 0,listed,a,w=>Region.ready md ops listed = []/\Q .normal a w
 | fuel + 1,listed,a,w =>
  (Region.ready md ops listed = []->Q .normal a w) /\
  ∀ i ∈ Region.ready md ops listed,wpOp P ops Q i (fun a' w'=>((listed.setIfInBounds i true).getD L true = false->S w')/\kA0 P md ops Q S L fuel (listed.setIfInBounds i true) a' w') a w
end Sc1
end
section
open Go.RowKit Go.Maps
theorem xG2 {w:World} {S:Nat->Prop} {a:Option Addr} {vs:List De} (h:RepL w S zK6 a vs) {k:Nat} (hk:k < vs.length) : ∃ b off es,a = some ⟨b,off,none⟩/\S b/\Rep w S zK6 es vs[k]/\w.rangeAt b (off + k * 14) es:=by
 obtain ⟨b,off,e,hS,hes⟩:=h.2 (by intro e; rw [e] at hk; simp at hk)
 obtain ⟨es,h1,h2⟩:=hes k hk
 exact ⟨b,off,es,e,hS,h1,h2⟩
theorem xW2 {es:List Value} (h:es.length = 14) : (Tryz.prog.info? 54).map (·.size) = some es.length:=by rw [h]; kernel_rfl
theorem xC9 {M:Md} {m:Sd} (_h:Good M m) : opM M (cOf M.files lgN).length = M:=by unfold opM; rw [if_neg (by omega)]
end
section
open Go.RowKit Go.Maps
structure Lk (w0 wr:World) (q p b:Nat) (M:Md) (cnt:Nat) (F:Nat->Prop) (m:Sd) (cs:List Value) : Prop where
 wal : WalR wr q p M cnt F m false
 good : Gdd M m
 blk : wr.heap[b]? = some (.cells cs.toArray 39 (0,0))
 rep : Rep wr (Rb wr F q b) zB6 cs (dec m)
 nb : ¬ F b/\b ≠ q
 bel : Below w0.heap.size w0 wr
 fa : ∀ k,F k->w0.heap.size<=k
 qa : w0.heap.size<=q
 ba : w0.heap.size<=b
theorem Lw.lk {w0 wr:World} {q p b:Nat} {M:Md} {cnt:Nat} {F:Nat->Prop} {m:Sd} {cs:List Value} (h:Lw w0 wr q p b M cnt F m cs) : Lk w0 wr q p b M cnt F m cs:=⟨h.wal,h.good.gd,h.blk,h.rep,h.nb,h.bel,h.fa,h.qa,h.ba⟩
theorem Lk.below {w0 wr w':World} {q p b:Nat} {M:Md} {cnt:Nat} {F:Nat->Prop} {m:Sd} {cs:List Value} (h:Lk w0 wr q p b M cnt F m cs) (hb:Below wr.heap.size wr w') : Lk w0 w' q p b M cnt F m cs :=
 ⟨h.wal.below hb,h.good,(hb.block b (zA1 h.blk)).trans h.blk,h.rep.kept hb.size (fun k hk=>hb.block k hk.1.1) (fun _k hk=>⟨⟨Nat.lt_of_lt_of_le hk.1.1 hb.size,hk.1.2⟩,hk.2⟩),h.nb,h.bel.trans (hb.mono h.bel.size),h.fa,h.qa,h.ba⟩
theorem Lk.inp {w0 wr:World} {q p b:Nat} {M:Md} {cnt:Nat} {F:Nat->Prop} {m:Sd} {cs:List Value} (h:Lk w0 wr q p b M cnt F m cs) {f:Fm} {es:List Value} {v:Vl f} (hr:Rep w0 (fun k=>k < w0.heap.size) f es v) : Rep wr (Rb wr F q b) f es v :=
 hr.kept h.bel.size (fun k hk=>h.bel.block k hk) (fun k hk=>⟨⟨Nat.lt_of_lt_of_le hk h.bel.size,fun e=>by have:=h.fa k e; omega,by have:=h.qa; omega⟩,by have:=h.ba; omega⟩)
theorem Lk.lenS {w0 wr:World} {q p b:Nat} {M:Md} {cnt:Nat} {F:Nat->Prop} {m:Sd} {cs:List Value} (h:Lk w0 wr q p b M cnt F m cs) : cs.length = 8:=h.rep.len
theorem Lk.cnt {w0 wr:World} {q p b:Nat} {M:Md} {cnt cnt':Nat} {F:Nat->Prop} {m:Sd} {cs:List Value} (h:Lk w0 wr q p b M cnt F m cs) (h1:cnt<=cnt') (h2:cnt'<=4398046511104) : Lk w0 wr q p b M cnt' F m cs:=⟨h.wal.cnt h1 h2,h.good,h.blk,h.rep,h.nb,h.bel,h.fa,h.qa,h.ba⟩
theorem Lk.cut {w0 wr w':World} {q p b:Nat} {M:Md} {cnt:Nat} {F:Nat->Prop} {m:Sd} {cs:List Value} (h:Lk w0 wr q p b M cnt F m cs) (n:Int) (hd:Dsk w' p ⟨M.files,M.dur,M.done,n⟩ cnt F) (hf:Fr wr w' F F) : Lk w0 w' q p b ⟨M.files,M.dur,M.done,n⟩ cnt F m cs:=by
 obtain ⟨sv,ev,h1,h2,h3⟩:=h.wal.blk
 have hk : ∀ k,Sw wr F q k->w'.heap[k]? = wr.heap[k]?:=fun k hk=>hf.block k hk.1 hk.2.1
 have hS : ∀ k,Sw wr F q k->Sw w' F q k:=fun k hk=>⟨Nat.lt_of_lt_of_le hk.1 hf.size,hk.2⟩
 refine ⟨⟨⟨sv,ev,(hf.block q h.wal.lq h.wal.nq).trans h1,h2.kept hk hS,h3.kept hf.size hk hS⟩,hd,h.wal.nq,h.wal.okd,h.wal.len⟩,h.good.cut n,(hf.block b (zA1 h.blk) h.nb.1).trans h.blk,h.rep.kept hf.size (fun k hk=>hf.block k hk.1.1 hk.1.2.1) (fun k hk=>⟨hS k hk.1,hk.2⟩),h.nb,h.bel.trans (hf.below h.bel.size h.fa),h.fa,h.qa,h.ba⟩
structure Dn1 (w0 wr w':World) (q p b:Nat) (cnt:Nat) (F:Nat->Prop) (m:Sd) (x:De) (M:Md) (cs':List Value) (s':Sd) (F':Nat->Prop) (want got:Int) : Prop where
 fr : Fr wr w' (Fq F q) (Fq F' q)
 rep : Rep w' (fun k=>Sw w' F' q k/\k ≠ b) zB6 cs' (dec s')
 okd : Okd s'
 len : s'.bs.length<=2097152
 nb : ¬ F' b
 bk : w'.heap[b]? = wr.heap[b]?
 bel : Below w0.heap.size w0 w'
 fa : ∀ k,F' k->w0.heap.size<=k
 dsr : DsR w' q p cnt m x M s' want got F'
theorem Lk.does {w0 wr w':World} {q p b:Nat} {M:Md} {cnt:Nat} {F:Nat->Prop} {m:Sd} {cs:List Value} {x:De} {e:Ending} (h:Lk w0 wr q p b M cnt F m cs) (hd:DsP (Rb wr F q b) wr q p cnt F m x M e w') : ∃ cs' s' F' want got,e = .returned (.tuple #[.agg cs'.toArray,.int .i64 want,.int .i64 got])/\Dn1 w0 wr w' q p b cnt F m x M cs' s' F' want got:=by
 obtain ⟨cs',s',want,got,F',he,hfr,hrep,hok,hlen,hds⟩:=hd
 have hFa : ∀ k,Fq F q k->w0.heap.size<=k:=fun k hk=>by
  rcases hk with hk | hk
  · exact h.fa k hk
  · rw [hk]; exact h.qa
 have hbF : ¬ Fq F q b:=fun e=>by rcases e with e | e; exact h.nb.1 e; exact h.nb.2 e
 refine ⟨cs',s',F',want,got,he,hfr,?_,hok,hlen,fun e=>hfr.notF (zA1 h.blk) hbF (.inl e),hfr.block b (zA1 h.blk) hbF,h.bel.trans (hfr.below h.bel.size hFa),fun k hk=>hfr.above h.bel.size hFa k (.inl hk),hds⟩
 exact hrep.kept (Nat.le_refl _) (fun _ _=>rfl) (fun k hk=>⟨hk.2,by
  rcases hk.1 with h1 | h1
  · exact h1.2
  · have:=zA1 h.blk; omega⟩)
structure Tri (w0 W:World) (q p b b9 b12:Nat) (M:Md) (cnt:Nat) (F:Nat->Prop) (mX s2 m9:Sd) (cs c2 c9:List Value) : Prop where
 wal : WalR W q p M cnt F m9 false
 good : Good M m9
 k5 : W.heap[b]? = some (.cells cs.toArray 39 (0,0))
 r5 : Rep W (fun k=>k < W.heap.size) zB6 cs (dec mX)
 k9 : W.heap[b9]? = some (.cells c2.toArray 39 (0,0))
 r9 : Rep W (fun k=>k < W.heap.size) zB6 c2 (dec s2)
 k12 : W.heap[b12]? = some (.cells c9.toArray 39 (0,0))
 r12 : Rep W (Rb W F q b) zB6 c9 (dec m9)
 okX : Okd mX/\mX.bs.length<=4194304
 ok2 : Okd s2/\s2.bs.length<=4194304
 nb : ¬ F b/\b ≠ q
 bel : Below w0.heap.size w0 W
 fa : ∀ k,F k->w0.heap.size<=k
 qa : w0.heap.size<=q
 ba : w0.heap.size<=b
theorem Tri.below {w0 W W':World} {q p b b9 b12:Nat} {M:Md} {cnt:Nat} {F:Nat->Prop} {mX s2 m9:Sd} {cs c2 c9:List Value} (h:Tri w0 W q p b b9 b12 M cnt F mX s2 m9 cs c2 c9) (hb:Below W.heap.size W W') : Tri w0 W' q p b b9 b12 M cnt F mX s2 m9 cs c2 c9:=by
 have hk : ∀ k,k < W.heap.size->W'.heap[k]? = W.heap[k]?:=fun k hk=>hb.block k hk
 have hl : ∀ k,k < W.heap.size->k < W'.heap.size:=fun k hk=>Nat.lt_of_lt_of_le hk hb.size
 exact ⟨h.wal.below hb,h.good,(hk b (zA1 h.k5)).trans h.k5,h.r5.kept hb.size hk hl,(hk b9 (zA1 h.k9)).trans h.k9,h.r9.kept hb.size hk hl,(hk b12 (zA1 h.k12)).trans h.k12,h.r12.kept hb.size (fun k hk2=>hk k hk2.1.1) (fun k hk2=>⟨⟨hl k hk2.1.1,hk2.1.2⟩,hk2.2⟩),h.okX,h.ok2,h.nb,h.bel.trans (hb.mono h.bel.size),h.fa,h.qa,h.ba⟩
theorem Tri.fin {w0 W:World} {q p b b9 b12:Nat} {M:Md} {cnt:Nat} {F:Nat->Prop} {mX s2 m9:Sd} {cs c2 c9:List Value} (h:Tri w0 W q p b b9 b12 M cnt F mX s2 m9 cs c2 c9) {w4:World} (h4:w4 = W.setRow b c9.toArray) : Lk w0 w4 q p b M cnt F m9 c9:=(Lw.put h.wal h.good h.k5 h.r12 h.nb h.bel h.fa h.qa h.ba h4).lk
theorem Tri.l12 {w0 W:World} {q p b b9 b12:Nat} {M:Md} {cnt:Nat} {F:Nat->Prop} {mX s2 m9:Sd} {cs c2 c9:List Value} (h:Tri w0 W q p b b9 b12 M cnt F mX s2 m9 cs c2 c9) : Rep W (fun k=>k < W.heap.size) zB6 c9 (dec m9):=h.r12.kept (Nat.le_refl _) (fun _ _=>rfl) (fun _k hk=>hk.1.1)
theorem Left.open {pick:Int} {M:Md} {P:Sd->Prop} (h:Left pick M P) : ∃ m' k,rdF sd0 (cOf (zI6 pick M).files lgN) = some (m',k)/\Good (opM (zI6 pick M) k) m'/\P m':=by
 obtain ⟨h1,m',k,h2,h3⟩:=h
 exact ⟨m',k,h2,h1.open h2,h3⟩
end
section
open Go.RowKit Go.Maps
structure Pre (w0 W:World) (q p b b9:Nat) (M:Md) (cnt:Nat) (F:Nat->Prop) (mX s2:Sd) (cX c2:List Value) : Prop where
 dsk : Dsk W p M cnt F
 k5 : W.heap[b]? = some (.cells cX.toArray 39 (0,0))
 r5 : Rep W (fun k=>k < W.heap.size/\¬ F k) zB6 cX (dec mX)
 k9 : W.heap[b9]? = some (.cells c2.toArray 39 (0,0))
 r9 : Rep W (fun k=>k < W.heap.size/\¬ F k) zB6 c2 (dec s2)
 okX : Okd mX/\mX.bs.length<=4194304
 ok2 : Okd s2/\s2.bs.length<=4194304
 nb : ¬ F b
 n9 : ¬ F b9
 bel : Below w0.heap.size w0 W
 fa : ∀ k,F k->w0.heap.size<=k
 ba : w0.heap.size<=b
theorem Pre.tri {w0 W w7 w8 w9 wA:World} {q p b b9 q9:Nat} {M M7 M9:Md} {cnt c7 c9n:Nat} {F F7 F9:Nat->Prop} {mX s2 m9:Sd} {cX c2 c9:List Value} (h:Pre w0 W q p b b9 M cnt F mX s2 cX c2) (h7:Fr W w7 F F7) (hd7:Dsk w7 p M7 c7 F7) (hB8:Below w7.heap.size w7 w8) (g12:w8.heap[w7.heap.size]? = some (.cells Z39 39 (0,0))) (h9:Fr w8 w9 F7 F9) (hw9:WalR w9 q9 p M9 c9n F9 m9 false) (hr9:Rep w9 (fun k=>Sw w9 F9 q9 k/\w8.heap.size<=k) zB6 c9 (dec m9)) (hq9:w8.heap.size<=q9) (hg:Good M9 m9) (hA:wA = w9.setRow w7.heap.size c9.toArray) : Tri w0 wA q9 p b b9 w7.heap.size M9 c9n F9 mX s2 m9 cX c2 c9:=by
 have l12:=zA1 g12
 have n12 : ¬ F7 w7.heap.size:=fun e=>by have:=hd7.flt _ e; omega
 have g129 : w9.heap[w7.heap.size]? = some (.cells Z39 39 (0,0)):=(h9.block _ l12 n12).trans g12
 have nF9 : ¬ F9 w7.heap.size:=h9.notF l12 n12
 have hf:=(h7.trans (Fr.of_below hB8)).trans h9
 have s7:=h7.size
 have s9:=h9.size
 have hsA : wA.heap.size = w9.heap.size:=by rw [hA]; simp [World.setRow]
 have hkA : ∀ j,j ≠ w7.heap.size->wA.heap[j]? = w9.heap[j]?:=fun j hj=>by rw [hA]; exact setRow_other _ _ _ _ hj
 have hk : ∀ j,j < W.heap.size->¬ F j->wA.heap[j]? = W.heap[j]?:=fun j h1 h2=>(hkA j (by omega)).trans (hf.block j h1 h2)
 have lb:=zA1 h.k5
 have l9:=zA1 h.k9
 have sb:=h.bel.size
 have hle : W.heap.size<=wA.heap.size:=by rw [hsA]; exact hf.size
 have hBA : Below w0.heap.size w9 wA:=by rw [hA]; exact ⟨rfl,rfl,rfl,by simp [World.setRow],fun k hk=>setRow_other _ _ _ _ (by omega)⟩
 refine ⟨?_,hg,(hk b lb h.nb).trans h.k5,?_,(hk b9 l9 h.n9).trans h.k9,?_,?_,?_,h.okX,h.ok2,⟨hf.notF lb h.nb,by omega⟩,(h.bel.trans (hf.below sb h.fa)).trans hBA,fun k e=>hf.above sb h.fa k e,by omega,h.ba⟩
 · rw [hA]; exact hw9.row g129 (by decide) nF9 (by omega) _
 · exact h.r5.kept hle (fun k e=>hk k e.1 e.2) (fun k e=>Nat.lt_of_lt_of_le e.1 hle)
 · exact h.r9.kept hle (fun k e=>hk k e.1 e.2) (fun k e=>Nat.lt_of_lt_of_le e.1 hle)
 · rw [hA]; exact setRow_heap _ _ _ _ 39 _ g129
 · exact hr9.kept (by rw [hsA]; exact Nat.le_refl _) (fun k e=>hkA k (by have:=e.2; omega)) (fun k e=>⟨⟨by rw [hsA]; exact e.1.1,e.1.2⟩,by have:=e.2; omega⟩)
theorem yN9 {m:Sd} {t v:Int} {vs:List En} {k:Nat} (ha:accS m t v vs) (hm:Okd m) (hl:m.bs.length<=2097152) (hv:vs.length<=1048576) (hk:k<=vs.length) : Okd (skS m t v vs k)/\(skS m t v vs k).bs.length<=4194304:=by
 have hox : ∀ (j:Nat) (x:En),j < k->vs[j]? = some x->okX m vs j x:=fun j x _ hx=>ha.1 j x hx
 refine ⟨xP3 hm ha.2.1 ha.2.2 hox,?_⟩
 by_cases hk0 : k = 0
 · rw [hk0,yI3]; show m.bs.length<=_; omega
 · have h1:=(zX7 (m:=m) (t:=t) (v:=v) (vs:=vs) (k:=k) hm.base (by omega) hk hox).1
   have h2:=hox 0 _ (by omega) (List.getElem?_eq_getElem (by omega))
   have h3 : n0 vs<=m.base + m.bs.length + 1:=h2.2.2.2
   omega
theorem kB7 {m:Sd} {t v:Int} {vs:List En} {k:Nat} {cs xs:List Value} {x:En} {D:Nat->Prop} {w:World} (ha:accS m t v vs) (hm:Okd m) (hl:m.bs.length<=2097152) (hv:vs.length<=1048576) (hx:vs[k]? = some x) (hr:Rep w D zB6 cs (dec (skS m t v vs k))) (hxr:Rep w D zA8 xs x) (hD:∀ k,D k->k < w.heap.size) : Calls Tryz.prog 22 #[.agg cs.toArray,.agg xs.toArray] w (PuP D w (skS m t v vs (k + 1))):=by
 obtain ⟨hkl,_⟩:=List.getElem?_eq_some_iff.1 hx
 have hf:=yN9 (t:=t) (v:=v) (k:=k) ha hm hl hv (by omega)
 have hstp:=yD7 (t:=t) (v:=v) hm.base hx (fun j y _ hy=>ha.1 j y hy)
 obtain ⟨g1,g2⟩:=yK8 (ha.1 k x hx).1
 have:=xU8 D cs xs (skS m t v vs k) (en zA8 x).1 (eI x - m.base - 1).toNat w hr (by rw [g2]; exact hxr) hf.1 hstp.1 (by rw [g2,(zL1 m t v vs k).2.2.2]; exact hstp.2.1) hD hf.2
 rwa [hstp.2.2] at this
end
end Go.Proofs.YtocoimjhglackaaGreat
