/- Math, Mem, Sums, Apps -/
import Derived.WalkKit
import Derived.WalkSpells
import Derived.Test.YtocoimjhglackaaGreatProg
import Derived.WalkLawsBesides
import Derived.Deep.AppendSrc
import Derived.KernelRfl
import Derived.BigQuiet
import Derived.Deep.QuietTactic
import Derived.Deep.RegionWith
set_option maxHeartbeats 8000000
set_option maxRecDepth 100000
namespace Go.Proofs.YtocoimjhglackaaGreat
section
open Go.RowKit
def bn (l:List UInt8) (k:Nat) : Nat:=(l.getD k 0).toNat
theorem xZ1 (l:List UInt8) (k:Nat) : bn l k < 256:=(l.getD k 0).toNat_lt
def bat (l:List UInt8) (k:Nat) : Int:=(bn l k:Int)
theorem yC6 (l:List UInt8) (k:Nat) : 0<=bat l k:=by unfold bat; omega
theorem yC7 (l:List UInt8) (k:Nat) : bat l k<=255:=by unfold bat; have:=xZ1 l k; omega
def bitS (s:Nat) : Nat:=if s % 2 = 1 then (s / 2) ^^^ 2197175160 else s / 2
def itS : Nat->Nat->Nat
 | 0,s=>s
 | j + 1,s=>bitS (itS j s)
def xY7 (s b:Nat) : Nat:=itS 8 (s ^^^ b)
def yG3 (s:Nat) (l:List UInt8) : Nat:=l.foldl (fun s b=>xY7 s b.toNat) s
def crc (l:List UInt8) : Nat:=yG3 4294967295 l
theorem xZ3 (s:Nat) (h:s < 4294967296) : bitS s < 4294967296:=by
 unfold bitS
 split
 · exact Nat.xor_lt_two_pow (n:=32) (by omega) (by omega)
 · omega
theorem xQ4 (j s:Nat) (h:s < 4294967296) : itS j s < 4294967296:=by
 induction j with
 | zero=>exact h
 | succ j ih=>exact xZ3 _ ih
theorem yD0 (a b:Nat) (h:a < 4294967296) (g:b < 4294967296) : a ^^^ b < 4294967296:=Nat.xor_lt_two_pow (n:=32) (by omega) (by omega)
theorem xO5 (s b:Nat) (h:s < 4294967296) (g:b < 256) : xY7 s b < 4294967296:=xQ4 _ _ (yD0 _ _ h (by omega))
theorem yY1 (l:List UInt8) (s:Nat) (h:s < 4294967296) : yG3 s l < 4294967296:=by
 unfold yG3
 induction l generalizing s with
 | nil=>exact h
 | cons x r ih=>exact ih _ (xO5 _ _ h x.toNat_lt)
theorem xG4 (l:List UInt8) : crc l < 4294967296:=yY1 l _ (by omega)
theorem yH7 (l:List UInt8) (k:Nat) (h:k < l.length) : l.take (k + 1) = l.take k ++ [l.getD k 0]:=by
 rw [List.take_succ_eq_append_getElem h]; simp [List.getD,h]
theorem yG2 (l:List UInt8) (k:Nat) (h:k < l.length) : crc (l.take (k + 1)) = xY7 (crc (l.take k)) (bn l k):=by
 rw [yH7 l k h]; unfold crc yG3; rw [List.foldl_append]; rfl
theorem yZ1 (c:Nat) (l:List UInt8) (k:Nat) (h:c < 4294967296) : bits .xor .u32 (c:Int) (bat l k) = ((c ^^^ bn l k : Nat) : Int):=by
 have:=xZ1 l k
 unfold bat
 rw [u32_xor_nat _ _ h (by omega)]
theorem xH3 (c:Nat) (h:c < 4294967296) : bits .and .u32 (c:Int) 1 = ((c % 2 : Nat) : Int):=by
 have:=u32_and_nat c 1 h (by omega)
 rw [Nat.and_one_is_mod] at this
 exact this
theorem yV7 (c:Nat) (h:c < 4294967296) : bits .xor .u32 (c:Int) 2197175160 = ((c ^^^ 2197175160 : Nat) : Int):=by
 exact u32_xor_nat c 2197175160 h (by omega)
theorem xI8 (j x:Nat) (il:itS j x < 4294967296) (h:((itS j x:Int) % 2 == 1) = true) : Value.int .u32 (bits .xor .u32 ((itS j x:Int) / 2) 2197175160) = .int .u32 ((itS (j + 1) x : Nat) : Int):=by
 have h2 : itS j x % 2 = 1:=by have:=of_decide_eq_true h; omega
 have e : ((itS j x:Int) / 2) = ((itS j x / 2 : Nat) : Int):=by omega
 rw [e,yV7 _ (by omega)]
 simp [itS,bitS,h2]
theorem xA6 (j x:Nat) (h:((itS j x:Int) % 2 == 1) = false) : Value.int .u32 ((itS j x:Int) / 2) = .int .u32 ((itS (j + 1) x : Nat) : Int):=by
 have h2 : ¬ itS j x % 2 = 1:=by have:=of_decide_eq_false h; omega
 simp [itS,bitS,h2]
def hi (l:List UInt8) : Nat:=l.foldl (fun n b=>256 * n + b.toNat) 0
theorem yK4 (l:List UInt8) (k:Nat) (h:k < l.length) : hi (l.take (k + 1)) = 256 * hi (l.take k) + bn l k:=by
 rw [yH7 l k h]; unfold hi; rw [List.foldl_append]; rfl
theorem kE0 (l:List UInt8) : hi l < 256 ^ l.length:=by
 have : ∀ (l:List UInt8) (m:Nat),l.foldl (fun n b=>256 * n + b.toNat) m < (m + 1) * 256 ^ l.length:=by
  intro l
  induction l with
  | nil=>intro m; simp
  | cons x r ih =>
   intro m
   have h:=ih (256 * m + x.toNat)
   have hx:=x.toNat_lt
   refine Nat.lt_of_lt_of_le h ?_
   rw [List.length_cons,Nat.pow_succ,Nat.mul_comm (256 ^ r.length) 256,<- Nat.mul_assoc]
   exact Nat.mul_le_mul_right _ (by omega)
 have h:=this l 0
 simpa [hi] using h
theorem yF2 (l:List UInt8) (n:Nat) (h:l.length<=n) : hi l < 256 ^ n:=Nat.lt_of_lt_of_le (kE0 l) (Nat.pow_le_pow_right (by omega) h)
theorem kD9 (l:List UInt8) (h:l.length<=5) : hi l < 1099511627776:=yF2 l 5 h
theorem xQ6 (l:List UInt8) (h:l.length<=6) : hi l < 281474976710656:=yF2 l 6 h
theorem xZ2 (l:List UInt8) (p k:Nat) : bn (l.drop p) k = bn l (p + k):=by simp [bn,List.getD]
theorem yV4 (l:List UInt8) (p k:Nat) : bat (l.drop p) k = bat l (p + k):=by rw [bat,bat,xZ2]
theorem xV1 (n:Nat) (h:n < 1099511627776) (l:List UInt8) (k:Nat) : bits .or .i64 ((n:Int) * 256) (bat l k) = ((256 * n + bn l k : Nat) : Int):=by
 have b0:=yC6 l k
 have b1:=yC7 l k
 rw [bits_join .i64 62 (by decide) (fun n h0 h1=>by rw [IntKind.wrap_i64]; omega) 8 _ _ (by omega) (by omega) (by omega) b0 (by omega) (by omega)]
 unfold bat at *
 omega
def hb (n:Nat) : Nat->List UInt8
 | 0=>[]
 | s + 1=>UInt8.ofNat (n / 256 ^ s) :: hb n s
theorem zE1 (n s:Nat) : (hb n s).length = s:=by
 induction s with
 | zero=>rfl
 | succ s ih=>simp [hb,ih]
def nsum (l:List UInt8) : Nat:=4294967295 ^^^ crc l
theorem xD2 (l:List UInt8) : nsum l < 4294967296:=yD0 _ _ (by omega) (xG4 l)
theorem kH0 (c:Nat) (h:c < 4294967296) : bits .xor .u32 IntKind.u32.max (c:Int) = ((4294967295 ^^^ c : Nat) : Int):=by
 have:=u32_xor_nat 4294967295 c (by omega) h
 exact this
def lob (n:Nat) (i:Nat) : UInt8:=UInt8.ofNat (n / 256 ^ i)
def lo4 (n:Nat) : List UInt8:=[lob n 0,lob n 1,lob n 2,lob n 3]
end
section
open Go.RowKit
def vals (l:List UInt8) : List Value:=l.map fun b=>Value.int .u8 (b.toNat:Int)
theorem zC7 (l:List UInt8) : (vals l).length = l.length:=by simp [vals]
theorem zG6 (a b:List UInt8) : vals (a ++ b) = vals a ++ vals b:=by simp [vals]
theorem zO0 (l:List UInt8) (j:Nat) (h:j < l.length) : (vals l)[j]? = some (.int .u8 (bat l j)):=by
 simp [vals,bat,bn,h,List.getD]
theorem zQ5 (l:List UInt8) (j:Nat) (u:Value) (h:(vals l)[j]? = some u) : j < l.length/\u = .int .u8 (bat l j):=by
 have hj : j < l.length:=by have:=(List.getElem?_eq_some_iff.1 h).1; rwa [zC7] at this
 rw [zO0 l j hj] at h
 exact ⟨hj,(Option.some.inj h).symm⟩
theorem zN9 (l:List UInt8) : ∀ u ∈ vals l,u.oneCell' = true:=by
 intro u hu
 simp only [vals,List.mem_map] at hu
 obtain ⟨b,_,rfl⟩:=hu
 rfl
def Bs (w:World) (a:Option Addr) (l:List UInt8) : Prop :=
 l.length<=211106232532992/\(l ≠ []->∃ b off,a = some ⟨b,off,none⟩/\b < w.heap.size/\∀ j,j < l.length->w.cell? ⟨b,off + j,none⟩ = some (.int .u8 (bat l j)))
def Own (w:World) (v:Value) (l:List UInt8) : Prop :=
 (v = .slice none 0 0/\l = []) \/
 ∃ g cap cur,v = .slice (some ⟨g,0,none⟩) l.length cap/\w.heap[g]? = some (.cells cur 5 (0,0))/\l.length<=cap/\cap<=maxLen/\cur.size = cap/\cur.toList.take l.length = vals l
structure Stp (w w':World) (r r':Option Nat) : Prop where
 os : w'.os = w.os
 tape : w'.tape = w.tape
 output : w'.output = w.output
 size : w.heap.size<=w'.heap.size
 block : ∀ k,k < w.heap.size->some k ≠ r->w'.heap[k]? = w.heap[k]?
 row : r' = r\/∃ k,r' = some k/\w.heap.size<=k
theorem Stp.refl (w:World) (r:Option Nat) : Stp w w r r:=⟨rfl,rfl,rfl,Nat.le_refl _,fun _ _ _=>rfl,.inl rfl⟩
theorem Stp.trans {a b c:World} {r r1 r2:Option Nat} (h:Stp a b r r1) (k:Stp b c r1 r2) : Stp a c r r2:=by
 refine ⟨k.os.trans h.os,k.tape.trans h.tape,k.output.trans h.output,Nat.le_trans h.size k.size,fun i hi hr=>?_,?_⟩
 · refine (k.block i (Nat.lt_of_lt_of_le hi h.size) ?_).trans (h.block i hi hr)
   rcases h.row with e | ⟨n,e,hn⟩
   · rw [e]; exact hr
   · rw [e]; intro e2; have:=Option.some.inj e2; omega
 · rcases k.row with e | ⟨n,e,hn⟩
   · rw [e]; exact h.row
   · exact .inr ⟨n,e,Nat.le_trans h.size hn⟩
theorem Stp.alloc {a w:World} {r r1:Option Nat} (h:Stp a w r r1) (o:Obj) : Stp a (w.alloc o) r r1 :=
 h.trans ⟨rfl,rfl,rfl,by simp,fun k hk _=>Below.heap_alloc w o k hk,.inl rfl⟩
theorem Stp.drewN {a w:World} {r r1:Option Nat} (h:Stp a w r r1) (n:Nat) : Stp a (w.drewN n) r r1:=⟨h.os,h.tape,h.output,h.size,h.block,h.row⟩
theorem Stp.below {w w':World} {r r':Option Nat} (h:Stp w w' r r') (B:Nat) (hB:B<=w.heap.size) (hr:∀ k,r = some k->B<=k) : Below B w w' :=
 ⟨h.os,h.tape,h.output,h.size,fun k hk=>h.block k (by omega) (fun e=>by have:=hr k e.symm; omega)⟩
theorem Stp.belowN {w w':World} {r':Option Nat} (h:Stp w w' none r') : Below w.heap.size w w':=h.below _ (Nat.le_refl _) (fun k hk=>by cases hk)
theorem Own.kept {w w':World} {v:Value} {l:List UInt8} (h:Own w v l) (hb:∀ k,v.ownBlock = some k->w'.heap[k]? = w.heap[k]?) : Own w' v l:=by
 rcases h with h | ⟨g,cap,cur,rfl,hg,rest⟩
 · exact .inl h
 · exact .inr ⟨g,cap,cur,rfl,by rw [hb g rfl]; exact hg,rest⟩
theorem Own.lt {w:World} {v:Value} {l:List UInt8} (h:Own w v l) : ∀ k,v.ownBlock = some k->k < w.heap.size:=by
 intro k hk
 rcases h with ⟨rfl,_⟩ | ⟨g,cap,cur,rfl,hg,rest⟩
 · simp [Value.ownBlock] at hk
 · simp [Value.ownBlock] at hk
   subst hk
   exact (Array.getElem?_eq_some_iff.1 hg).1
theorem Own.alloc {w:World} {v:Value} {l:List UInt8} (h:Own w v l) (o:Obj) : Own (w.alloc o) v l:=h.kept fun k hk=>Below.heap_alloc w o k (h.lt k hk)
theorem Own.below {w w':World} {v:Value} {l:List UInt8} (h:Own w v l) (hb:Below w.heap.size w w') : Own w' v l:=h.kept fun k hk=>hb.block k (h.lt k hk)
theorem Own.form {w:World} {v:Value} {l:List UInt8} (h:Own w v l) : ∃ a cap,v = .slice a l.length cap/\(l.length<=211106232532992->Bs w a l):=by
 rcases h with ⟨rfl,rfl⟩ | ⟨g,cap,cur,rfl,hg,h1,h2,h3,h4⟩
 · exact ⟨none,0,rfl,fun _=>⟨by simp,fun h=>absurd rfl h⟩⟩
 · refine ⟨_,cap,rfl,fun hl=>⟨hl,fun _=>⟨g,0,rfl,(Array.getElem?_eq_some_iff.1 hg).1,fun j hj=>?_⟩⟩⟩
   rw [Nat.zero_add,cell_of_row w g j cur 5 (0,0) hg]
   have:=zO0 l j hj
   rw [<- h4,List.getElem?_take,if_pos hj] at this
   simpa using this
theorem Bs.below {w w':World} {a:Option Addr} {l:List UInt8} (h:Bs w a l) {B:Nat} (hb:Below B w w') (ha:∀ x,a = some x->x.block < B) : Bs w' a l:=by
 refine ⟨h.1,fun hne=>?_⟩
 obtain ⟨b,off,rfl,hlt,hc⟩:=h.2 hne
 have hB:=ha _ rfl
 exact ⟨b,off,rfl,Nat.lt_of_lt_of_le hlt hb.size,fun j hj=>(hb.cell (p:=⟨b,off + j,none⟩) hB).trans (hc j hj)⟩
theorem Bs.grow {w w':World} {a:Option Addr} {l:List UInt8} (h:Bs w a l) (hb:Below w.heap.size w w') : Bs w' a l:=by
 refine ⟨h.1,fun hne=>?_⟩
 obtain ⟨b,off,rfl,hlt,hc⟩:=h.2 hne
 exact ⟨b,off,rfl,Nat.lt_of_lt_of_le hlt hb.size,fun j hj=>(hb.cell (p:=⟨b,off + j,none⟩) hlt).trans (hc j hj)⟩
theorem Bs.drew {w:World} {a:Option Addr} {l:List UInt8} (h:Bs w a l) : Bs w.drew a l:=h.grow ((Below.refl _ _).drew)
theorem Bs.alloc {w:World} {a:Option Addr} {l:List UInt8} (h:Bs w a l) (o:Obj) : Bs (w.alloc o) a l:=h.grow ((Below.refl _ _).alloc (Nat.le_refl _) o)
theorem Bs.src {P:Program} {w:World} {a:Option Addr} {l:List UInt8} (h:Bs w a l) (hk:P.underlying 22 = some (.slice 5)) (cap:Nat) : Src P 1 22 (.slice a l.length cap) l.length (vals l) w:=by
 by_cases hne : l = []
 · subst hne
   cases a with
   | none=>exact Src.ofNil w hk cap
   | some a=>exact Src.ofSlice w hk a 0 cap [] rfl (by intro j u hu; simp at hu) (by intro u hu; simp at hu)
 · obtain ⟨b,off,rfl,hlt,hc⟩:=h.2 hne
   refine Src.ofSlice w hk _ _ cap (vals l) (by simp [vals]) (fun j u hu=>?_) (zN9 l)
   obtain ⟨hj,rfl⟩:=zQ5 l j u hu
   have:=hc j hj
   rw [<- this,Addr.add_lit]
theorem xE9 {need old:Nat} (h:old < need) (hb:need<=211106232532992) : Builtin.nextslicecap need old<=281474976710656:=by
 unfold Builtin.nextslicecap
 split
 · omega
 · split
   · omega
   · rw [growBy_four]
     repeat' split
     all_goals omega
theorem zU3 {P:Program} {i:TypeInfo} (ty:TypeId) (hk:P.underlying 22 = some (.slice 5)) (hi:P.info? 5 = some i) (hz:i.zero = some (.int .u8 0)) (hs1:i.size = 1) (hb1:i.bytes = 1)
    (w:World) (v:Value) (l:List UInt8) (hown:Own w v l) (x:Value) (news:List UInt8) (hs:Src P 1 22 x news.length (vals news) w) (hlen:l.length + news.length<=211106232532992) :
    ∃ v' w',(Builtin.append_ #[22,22] ty #[v,x]).run P w = .ok v' w'/\Own w' v' (l ++ news)/\Stp w w' v.ownBlock v'.ownBlock:=by
 have hs' : Src P i.size 22 x news.length (vals news) w:=by rw [hs1]; exact hs
 have grown : ∀ (base:Option Addr) (cap:Nat),l.length<=cap->cap < l.length + news.length->(Builtin.firstCells i.size l.length (.slice base l.length cap)).run P w.drew = .ok (vals l).toArray w.drew ->
     ∃ v' w',(Builtin.append_ #[22,22] ty #[.slice base l.length cap,x]).run P w = .ok v' w'/\Own w' v' (l ++ news)/\∀ r,Stp w w' r v'.ownBlock:=by
  intro base cap hc1 hc2 hold
  have hr:=run_append_grow_src w 22 22 ty 5 i (.int .u8 0) hk hi hz base l.length cap (vals l) hold x news.length (vals news) hs' hc2 (by omega) (by rw [hb1,Nat.mul_one]; exact xE9 (by omega) (by omega))
  have hge:=grownCap_ge w (l.length + news.length) cap 5
  have hm : grownCap w (l.length + news.length) cap 5<=maxLen:=grownCap_le_maxLen w _ cap 5 (by unfold maxLen; omega)
  refine ⟨_,_,hr,.inr ⟨w.heap.size,_,_,by rw [List.length_append],heap_alloc_new w.drew _,by rw [List.length_append]; exact hge,hm,?_,?_⟩,fun r=>⟨rfl,rfl,rfl,by simp,fun k hk _=>Below.heap_alloc w.drew _ k hk,.inr ⟨w.heap.size,rfl,Nat.le_refl _⟩⟩⟩
  · simp only [Array.size_append,List.size_toArray,size_zeroCells,List.length_append,zC7]
    simp [Value.cells]
    omega
  · rw [zG6]
    simp only [Array.toList_append]
    have : (l ++ news).length = (vals l ++ vals news).length:=by simp [zC7]
    rw [this]
    exact List.take_left
 rcases hown with ⟨rfl,rfl⟩ | ⟨g,cap,cur,rfl,hg,h1,h2,h3,h4⟩
 · by_cases hn : news = []
   · subst hn
     refine ⟨.slice none 0 0,w,?_,.inl ⟨rfl,rfl⟩,Stp.refl _ _⟩
     have hc:=hs'.cells
     have hlen0:=hs'.len
     simp only [vals,List.map_nil,List.length_nil] at hc hlen0
     simp [Builtin.append_,run_underlying hk,sizeOf,typeInfo,hi,hlen0,hc]
   · have hp : 0 < news.length:=List.length_pos_iff.2 hn
     obtain ⟨v',w',a,b,c⟩:=grown none 0 (Nat.le_refl _) (by simpa using hp) (by exact run_firstCells_none w.drew i.size 0 0 0)
     exact ⟨v',w',a,b,c _⟩
 · by_cases hroom : l.length + news.length<=cap
   · have hst:=run_storeCells_at P g (l.length * i.size) 5 (vals news) 0 cur w hg (by rw [hs1,zC7]; omega) (zN9 news)
     simp only [Nat.add_zero] at hst
     have hr : (Builtin.append_ #[22,22] ty #[.slice (some ⟨g,0,none⟩) l.length cap,x]).run P w = .ok (.slice (some ⟨g,0,none⟩) (l.length + news.length) cap)
         (w.setRow g (cur.toList.take (l.length * i.size) ++ vals news ++ cur.toList.drop (l.length * i.size + (vals news).length)).toArray):=by
      simp [Builtin.append_,run_underlying hk,sizeOf,typeInfo,hi,hs'.len,hroom,hs'.cells,Addr.add_lit,hst]
     refine ⟨_,_,hr,.inr ⟨g,cap,_,by rw [List.length_append],setRow_heap w g cur _ 5 _ hg,by rw [List.length_append]; exact hroom,h2,?_,?_⟩,⟨rfl,rfl,rfl,by simp,fun k _ hk=>setRow_other w g k _ (fun e=>hk (by simp [Value.ownBlock,e])),.inl rfl⟩⟩
     · simp only [List.size_toArray,List.length_append,List.length_take,List.length_drop,Array.length_toList,zC7,hs1]
       omega
     · rw [hs1,Nat.mul_one,h4,zG6]
       have : (l ++ news).length = (vals l ++ vals news).length:=by simp [zC7]
       rw [this]
       exact List.take_left
   · have hold : ∀ j u,(vals l)[j]? = some u->w.drew.cell? ((⟨g,0,none⟩ : Addr).add j) = some u:=by
       intro j u hu
       obtain ⟨hj,rfl⟩:=zQ5 l j u hu
       have hadd : (⟨g,0,none⟩ : Addr).add j = ⟨g,j,none⟩:=by unfold Addr.add; split <;> simp_all
       rw [hadd,cell_of_row w.drew g j cur 5 (0,0) hg]
       have:=zO0 l j hj
       rw [<- h4,List.getElem?_take,if_pos hj] at this
       simpa using this
     obtain ⟨v',w',a,b,c⟩:=grown (some ⟨g,0,none⟩) cap h1 (by omega) (run_firstCells_some w.drew i.size l.length _ _ _ (vals l) (by rw [hs1,zC7]; omega) hold)
     exact ⟨v',w',a,b,c _⟩
theorem Tryz.info5 : (Tryz.prog.info? 5).map (fun i=>(i.zero,i.size,i.bytes)) = some (some (.int .u8 0),1,1):=by kernel_rfl
theorem zC3 {ops:Array Oper} {rest:List Oper} {o:Oper} {a:Act} {Q:Exit->Act->World->Prop} (w:World) (hgd:o.guard = none) (s x:Operand)
    (ho:o.op = .call { callee:=.builtin .append,args:=#[s,x],argTypes:=#[22,22] })
    (v:Value) (l:List UInt8) (hs:a.eval s = v) (hown:Own w v l) (xv:Value) (news:List UInt8) (hx:a.eval x = xv) (hsrc:Src Tryz.prog 1 22 xv news.length (vals news) w) (hlen:l.length + news.length<=211106232532992)
    (h:∀ v' w',Own w' v' (l ++ news)->Stp w w' v.ownBlock v'.ownBlock->wpList Tryz.prog ops Q rest (a.put o.dst v') w') : wpList Tryz.prog ops Q (o :: rest) a w:=by
 refine wpList_plain hgd fun K hK=>?_
 obtain ⟨i,hi,hz0,hz1,hz2⟩:=info_parts Tryz.info5
 obtain ⟨v',w',hr,h2,h3⟩:=zU3 (P:=Tryz.prog) o.type Tryz.underlying22 hi hz0 hz1 hz2 w v l hown xv news hsrc hlen
 unfold Oper.wp execOp
 simp only [ho,resolve,invoke,builtin,Sem.run_bind,Sem.run_pure,Result.andThen_ok,List.map_toArray,List.map_cons,List.map_nil,hs,hx,hr]
 exact hK _ _ (h v' w' h2 h3)
end
section
open Go.RowKit
theorem xA3 (a:Option Addr) (n cap:Nat) (l:List UInt8) (w:World) (hn:n = l.length) (h:Bs w a l) :
    Calls Tryz.prog 127 #[.slice a n cap] w fun e w'=>e = .returned (.int .u32 ((nsum l:Nat) : Int))/\w' = w:=by
 obtain ⟨hlen,hne⟩:=h
 go_enter Tryz.func127,Tryz.ntmps127
 go_wp2
 go_loop [3,9] (fun s i=>∃ k : Nat,k<=n/\i = .int .i64 k/\s = .int .u32 ((crc (l.take k) : Nat) : Int)) (fun _ i=>n - (intOf i).toNat)
 case atStart=>exact ⟨0,Nat.zero_le _,rfl,rfl⟩
 case round =>
  obtain ⟨k,hk,rfl,rfl⟩:=hrel
  have b0:=yC6 l k
  have b1:=yC7 l k
  have c1:=xG4 (l.take k)
  by_cases hlt : k < n
  · obtain ⟨b,off,rfl,hb,hc⟩:=hne (by intro e; simp [e] at hn; omega)
    subst hn
    have hx:=yZ1 (crc (l.take k)) l k c1
    have HS : Hid (crc (l.take (k + 1)) = itS 8 (crc (l.take k) ^^^ bn l k)):=yG2 l k hlt
    have hxl : crc (l.take k) ^^^ bn l k < 4294967296:=yD0 _ _ c1 (by have:=xZ1 l k; omega)
    go_wp2
    generalize crc (l.take k) ^^^ bn l k = x at *
    go_loop [3,17] (fun s i=>∃ j : Nat,j<=8/\i = .int .i64 j/\s = .int .u32 ((itS j x:Nat) : Int)) (fun _ i=>8 - (intOf i).toNat)
    case atStart=>exact ⟨0,Nat.zero_le _,rfl,rfl⟩
    case round =>
     obtain ⟨j,hj,rfl,rfl⟩:=hrel
     have il:=xQ4 j x hxl
     have ha:=xH3 (itS j x) il
     by_cases hjl : j < 8
     · go_wp2
       · exact ⟨⟨j + 1,by omega,by go_num,xI8 j x il ‹_›⟩,by simp [intOf]; omega⟩
       · exact ⟨⟨j + 1,by omega,by go_num,xA6 j x ‹_›⟩,by simp [intOf]; omega⟩
     · have hj8 : j = 8:=by omega
       subst hj8
       go_wp2
       exact ⟨⟨k + 1,by omega,by go_num,by rw [HS.out]⟩,by simp [intOf]; omega⟩
  · have hkn : k = l.length:=by omega
    subst hkn
    have hnot:=kH0 (crc l) (xG4 l)
    go_wp2
    go_ret
    exact ⟨rfl,rfl⟩
theorem zN0 (a:Option Addr) (n cap:Nat) (l:List UInt8) (w:World) (hn:n = l.length) (h6:n<=6) (h:Bs w a l) :
    Calls Tryz.prog 126 #[.slice a n cap] w fun e w'=>e = .returned (.int .i64 ((hi l:Nat) : Int))/\w' = w:=by
 obtain ⟨hlen,hne⟩:=h
 go_enter Tryz.func126,Tryz.ntmps126
 go_wp2
 go_loop [3,8] (fun s i=>∃ k : Nat,k<=n/\i = .int .i64 k/\s = .int .i64 ((hi (l.take k) : Nat) : Int)) (fun _ i=>n - (intOf i).toNat)
 case atStart=>exact ⟨0,Nat.zero_le _,rfl,rfl⟩
 case round =>
  obtain ⟨k,hk,rfl,rfl⟩:=hrel
  have b0:=yC6 l k
  have b1:=yC7 l k
  by_cases hlt : k < n
  · obtain ⟨b,off,rfl,hb,hc⟩:=hne (by intro e; simp [e] at hn; omega)
    subst hn
    have c1:=kD9 (l.take k) (by rw [List.length_take]; omega)
    have hor:=xV1 (hi (l.take k)) c1 l k
    have HS : Hid (hi (l.take (k + 1)) = 256 * hi (l.take k) + bn l k):=yK4 l k hlt
    go_wp2
    exact ⟨⟨k + 1,by omega,by go_num,by rw [HS.out]; go_num⟩,by simp [intOf]; omega⟩
  · have hkn : k = l.length:=by omega
    subst hkn
    go_wp2
    go_ret
    exact ⟨rfl,rfl⟩
theorem yS4 (l1 l2:List UInt8) (hl:l1.length = l2.length) (h:∀ j,j < l1.length->bat l1 j = bat l2 j) : l1 = l2:=by
 apply List.ext_getElem hl
 intro i h1 h2
 have:=h i h1
 simp [bat,bn,List.getD,h1,h2] at this
 exact UInt8.toNat.inj (by omega)
theorem zO5 (a1 a2:Option Addr) (n1 n2 c1 c2:Nat) (l1 l2:List UInt8) (w:World) (hn1:n1 = l1.length) (hn2:n2 = l2.length) (h1:Bs w a1 l1) (h2:Bs w a2 l2) :
    Calls Tryz.prog 18 #[.slice a1 n1 c1,.slice a2 n2 c2] w fun e w'=>e = .returned (.bool (decide (l1 = l2)))/\∃ nq,w' = w.drewN nq:=by
 obtain ⟨hlen1,hne1⟩:=h1
 obtain ⟨hlen2,hne2⟩:=h2
 have H1 : Hid (l1.length = n1):=hn1.symm
 have H2 : Hid (l2.length = n2):=hn2.symm
 rw [<- hn1] at hlen1
 rw [<- hn2] at hlen2
 clear hn1 hn2
 by_cases hnn : n1 = n2
 · subst hnn
   go_enter Tryz.func18,Tryz.ntmps18
   go_wp2
   go_loopw [5] (fun i wr=>∃ k : Nat,k<=n1/\i = .int .i64 k/\Hid (∀ j,j < k->bat l1 j = bat l2 j)/\∃ nq,wr = w.drewN nq) (fun i _=>n1 - (intOf i).toNat)
   case atStart=>exact ⟨0,Nat.zero_le _,rfl,fun j hj=>absurd hj (by omega),0,rfl⟩
   case round =>
    obtain ⟨k,hk,rfl,hsame,nq,rfl⟩:=hrel
    by_cases hlt : k < n1
    · obtain ⟨b,off,rfl,hb,hc⟩:=hne1 (by intro e; have:=H1.out; simp [e] at this; omega)
      obtain ⟨b',off',rfl,hb',hc'⟩:=hne2 (by intro e; have:=H2.out; simp [e] at this; omega)
      have hcp:=hc k (by have:=H1.out; omega)
      have hcp':=hc' k (by have:=H2.out; omega)
      go_wp2
      go_quiet (fail)
      go_wp2
      · rename_i hdiff
        go_ret
        refine ⟨?_,_,by simp only [World.drewN_drewN]; rfl⟩
        have : l1 ≠ l2:=fun e=>by subst e; simp at hdiff
        simp [this]
      · rename_i heq
        have heq' : bat l1 k = bat l2 k:=by simpa using heq
        refine ⟨⟨k + 1,by omega,by go_num,fun j hj=>?_,_,rfl⟩,by simp [intOf]; omega⟩
        by_cases hjk : j = k
        · rw [hjk]; exact heq'
        · exact hsame.out j (by omega)
    · go_wp2
      go_ret
      refine ⟨?_,_,rfl⟩
      have : l1 = l2:=yS4 l1 l2 (by rw [H1.out,H2.out]) (fun j hj=>hsame.out j (by have:=H1.out; omega))
      simp [this]
 · have hnb : ((n1:Int) != (n2:Int)) = true:=by rw [bne_iff_ne]; omega
   go_enter Tryz.func18,Tryz.ntmps18
   go_wp2
   go_ret
   refine ⟨?_,0,rfl⟩
   have : l1 ≠ l2:=fun e=>hnn (by rw [<- H1.out,<- H2.out,e])
   simp [this]
theorem zK4 (n i:Nat) : ((lob n i).toNat : Int) = (n:Int) / 2 ^ (8 * i) % 256:=by
 have h : (lob n i).toNat = n / 2 ^ (8 * i) % 256:=by
  unfold lob
  rw [show (256:Nat) = 2 ^ 8 from rfl,<- Nat.pow_mul]
  simp
 rw [h]
 simp
theorem xG9 (n j:Nat) (h:j < 4) : bat (lo4 n) j = (n:Int) / 2 ^ (8 * j) % 256:=by
 have hj : j = 0\/j = 1\/j = 2\/j = 3:=by omega
 rw [<- zK4]
 rcases hj with rfl | rfl | rfl | rfl <;> rfl
theorem kD2 (l:List UInt8) (n:Nat) (e:l = lo4 n) (k:Nat) (hk:k < 4) : bat l k = (n:Int) / 2 ^ (8 * k) % 256:=by rw [e]; exact xG9 n k hk
theorem kD1 (l:List UInt8) (n:Nat) (hl:l.length = 4) (h:∀ j,j < 4->bat l j = (n:Int) / 2 ^ (8 * j) % 256) : l = lo4 n :=
 yS4 l (lo4 n) (by rw [hl]; rfl) (fun j hj=>by rw [h j (by omega),xG9 n j (by omega)])
theorem yA8 (a1 a2:Option Addr) (n1 c1 c2:Nat) (l1 l2:List UInt8) (w:World) (hn1:n1 = l1.length) (hn2:l2.length = 4) (h1:Bs w a1 l1) (h2:Bs w a2 l2) :
    Calls Tryz.prog 95 #[.slice a1 n1 c1,.slice a2 4 c2] w fun e w'=>e = .returned (.bool (decide (l2 = lo4 (nsum l1))))/\w' = w:=by
 subst hn1
 have hs:=xD2 l1
 obtain ⟨b,off,rfl,hb,hc⟩:=h2.2 (by intro e; simp [e] at hn2)
 have hc0:=hc 0 (by omega)
 have hc1:=hc 1 (by omega)
 have hc2:=hc 2 (by omega)
 have hc3:=hc 3 (by omega)
 have B : ∀ j,0<=bat l2 j/\bat l2 j<=255:=fun j=>⟨yC6 l2 j,yC7 l2 j⟩
 have HC : Hid (∀ j,j < 4->w.cell? ⟨b,off + j,none⟩ = some (.int .u8 (bat l2 j))):=fun j hj=>hc j (by omega)
 have HN : Hid (l2.length = 4):=hn2
 clear hc hn2 h2 hc0 hc1 hc2 hc3
 go_enter Tryz.func95,Tryz.ntmps95
 go_wp2_with fail
 refine (xA3 a1 _ c1 l1 w rfl h1).mono ?_
 rintro e w' ⟨rfl,hw⟩
 subst hw
 clear h1
 go_wp2
 go_loop [12] (fun i=>∃ k : Nat,k<=4/\i = .int .i64 k/\Hid (∀ j,j < k->bat l2 j = (nsum l1:Int) / 2 ^ (8 * j) % 256)) (fun i=>4 - (intOf i).toNat)
 case atStart=>exact ⟨0,Nat.zero_le _,rfl,fun j hj=>absurd hj (by omega)⟩
 case round =>
  obtain ⟨k,hk,rfl,hsame⟩:=hrel
  by_cases hlt : k < 4
  · have hcp:=HC.out k hlt
    go_wp2
    · rename_i _ hdiff _
      go_ret
      refine ⟨?_,rfl⟩
      have : l2 ≠ lo4 (nsum l1):=fun e=>by
       have h2:=kD2 l2 _ e k hlt
       rw [h2] at hdiff; simp at hdiff
      simp [this]
    · rename_i _ _ heq
      have heq' : bat l2 k = (nsum l1:Int) / 2 ^ (8 * k) % 256:=by simpa using heq
      refine ⟨⟨k + 1,by omega,by go_num,fun j hj=>?_⟩,by simp [intOf]; omega⟩
      by_cases hjk : j = k
      · rw [hjk]; exact heq'
      · exact hsame.out j (by omega)
  · go_wp2
    go_ret
    refine ⟨?_,rfl⟩
    have : l2 = lo4 (nsum l1):=kD1 l2 _ HN.out (fun j hj=>hsame.out j (by omega))
    simp [this]
end
section
open Go.RowKit
theorem zK9 (w:World) (b:UInt8) (x:Int) (hx:x = (b.toNat:Int)) (cs:Array Value) (hcs:cs = #[.int .u8 x]) : Src Tryz.prog 1 22 (.slice (some ⟨w.heap.size,0,none⟩) 1 1) 1 (vals [b]) (w.alloc (.cells cs 5)):=by
 subst hx; subst hcs
 refine Src.ofSlice _ Tryz.underlying22 _ 1 1 (vals [b]) rfl (fun j u hu=>?_) (zN9 _)
 match j,hu with
 | 0,hu=>simp [vals] at hu; subst hu; simp [Addr.add]
theorem xW5 (n s:Nat) : ((UInt8.ofNat (n / 256 ^ s)).toNat : Int) = (n:Int) / 2 ^ (8 * s) % 256:=zK4 n s
theorem zJ5 (v:Value) (l:List UInt8) (n size:Int) (w:World) (hn:0<=n) (hs0:0<=size) (hs6:size<=6) (hl:l.length<=281474976710) (hown:Own w v l) :
    Calls Tryz.prog 168 #[v,.int .i64 n,.int .i64 size] w fun e w'=>∃ v',e = .returned v'/\Own w' v' (l ++ hb n.toNat size.toNat)/\Stp w w' v.ownBlock v'.ownBlock:=by
 obtain ⟨p,rfl⟩:=Int.eq_ofNat_of_zero_le hn
 obtain ⟨q,rfl⟩:=Int.eq_ofNat_of_zero_le hs0
 go_enter Tryz.func168,Tryz.ntmps168
 go_wp2
 go_loopw [0,7] (fun v' i wr=>∃ k : Nat,∃ pre : List UInt8,k<=q/\i = .int .i64 ((k:Int) - 1)/\Hid (pre.length = q - k)/\Hid (pre ++ hb p k = hb p q)/\Own wr v' (l ++ pre)/\Stp w wr v.ownBlock v'.ownBlock) (fun _ i _=>(intOf i + 1).toNat)
 case atStart=>exact ⟨q,[],Nat.le_refl _,rfl,by show 0 = q - q; omega,rfl,by rw [List.append_nil]; exact hown,Stp.refl _ _⟩
 case round =>
  obtain ⟨k,pre,hk,rfl,hpl,hpre,hown',hstp⟩:=hrel
  by_cases hlt : 0 < k
  · obtain ⟨m,rfl⟩ : ∃ m,k = m + 1:=⟨k - 1,by omega⟩
    go_wp2_with (at_builtin; refine zC3 _ rfl (.tmp 14) (.tmp 20) rfl _ (l ++ pre) rfl (hown'.alloc _) _ [UInt8.ofNat (p / 256 ^ m)] rfl ?src ?len ?k)
    case src=>exact zK9 _ _ _ (xW5 p m).symm _ rfl
    case len=>have:=hpl.out; simp only [List.length_append,List.length_cons,List.length_nil]; omega
    case k =>
     intro v' w1 hown1 hst1
     go_wp2
     refine ⟨⟨m,pre ++ [UInt8.ofNat (p / 256 ^ m)],by omega,by go_num,?_,?_,by exact hown1,?_⟩,by simp [intOf]⟩
     · have:=hpl.out; show (pre ++ [_]).length = q - m; simp only [List.length_append,List.length_cons,List.length_nil]; omega
     · have:=hpre.out; show pre ++ [_] ++ hb p m = hb p q; rw [<- this,List.append_assoc]; rfl
     · exact (hstp.alloc _).trans hst1
  · have hk0 : k = 0:=by omega
    subst hk0
    have hfin:=hpre.out
    go_wp2
    go_ret
    refine ⟨_,rfl,?_,hstp⟩
    have : hb p q = pre:=by rw [<- hfin]; simp [hb]
    simpa [this] using hown'
theorem zM2 (a:Option Addr) (n cap:Nat) (l:List UInt8) (w:World) (hn:n = l.length) (h:Bs w a l) :
    Calls Tryz.prog 96 #[.slice a n cap] w fun e w'=>∃ v',e = .returned v'/\Own w' v' l/\Stp w w' none v'.ownBlock:=by
 subst hn
 go_enter Tryz.func96,Tryz.ntmps96
 go_wp2_with (at_builtin; refine zC3 _ rfl (.const (.slice none 0 0)) (.tmp 3) rfl _ [] rfl (.inl ⟨rfl,rfl⟩) _ l rfl (h.src Tryz.underlying22 cap) ?len ?k)
 case len=>have:=h.1; simp only [List.length_nil]; omega
 case k =>
  intro v' w1 hown1 hst1
  go_wp2
  go_ret
  exact ⟨_,rfl,by simpa using hown1,hst1⟩
theorem xJ1 (w:World) (b0 b1 b2 b3:UInt8) (x0 x1 x2 x3:Int) (h0:x0 = (b0.toNat:Int)) (h1:x1 = (b1.toNat:Int)) (h2:x2 = (b2.toNat:Int)) (h3:x3 = (b3.toNat:Int)) (cs:Array Value) (hcs:cs = #[.int .u8 x0,.int .u8 x1,.int .u8 x2,.int .u8 x3]) :
    Src Tryz.prog 1 22 (.slice (some ⟨w.heap.size,0,none⟩) 4 4) 4 (vals [b0,b1,b2,b3]) (w.alloc (.cells cs 5)):=by
 subst h0; subst h1; subst h2; subst h3; subst hcs
 refine Src.ofSlice _ Tryz.underlying22 _ 4 4 (vals [b0,b1,b2,b3]) rfl (fun j u hu=>?_) (zN9 _)
 match j,hu with
 | 0,hu=>simp [vals] at hu; subst hu; simp [Addr.add]
 | 1,hu=>simp [vals] at hu; subst hu; simp [Addr.add]
 | 2,hu=>simp [vals] at hu; subst hu; simp [Addr.add]
 | 3,hu=>simp [vals] at hu; subst hu; simp [Addr.add]
theorem kD0 (n:Nat) : (n:Int) % 256 = ((lob n 0).toNat : Int):=by have:=zK4 n 0; simpa using this.symm
theorem kC9 (n:Nat) : (n:Int) / 256 % 256 = ((lob n 1).toNat : Int):=by have:=zK4 n 1; simpa using this.symm
theorem kC8 (n:Nat) : (n:Int) / 65536 % 256 = ((lob n 2).toNat : Int):=by have:=zK4 n 2; simpa using this.symm
theorem kC7 (n:Nat) (h:n < 4294967296) : (n:Int) / 16777216 = ((lob n 3).toNat : Int):=by
 have:=zK4 n 3
 have e : (n:Int) / 16777216 = (n:Int) / 16777216 % 256:=by omega
 rw [e]; simpa using this.symm
theorem yG6 (v:Value) (l:List UInt8) (w:World) (hl:l.length<=281474976710) (hown:Own w v l) :
    Calls Tryz.prog 169 #[v] w fun e w'=>∃ v',e = .returned v'/\Own w' v' (l ++ lo4 (nsum l))/\Stp w w' v.ownBlock v'.ownBlock:=by
 obtain ⟨a,cap,rfl,hbs⟩:=hown.form
 have hs:=xD2 l
 go_enter Tryz.func169,Tryz.ntmps169
 go_wp2_with fail
 refine (xA3 a _ cap l w rfl (hbs (by omega))).mono ?_
 rintro e w' ⟨rfl,hw⟩
 subst hw
 go_wp2_with (at_builtin; refine zC3 _ rfl (.tmp 6) (.tmp 18) rfl _ l rfl (hown.alloc _) _ (lo4 (nsum l)) rfl ?src ?len ?k)
 case src=>exact xJ1 _ _ _ _ _ _ _ _ _ (kD0 _) (kC9 _) (kC8 _) (kC7 _ hs) _ rfl
 case len=>simp [lo4]; omega
 case k =>
  intro v' w1 hown1 hst1
  go_wp2
  go_ret
  exact ⟨_,rfl,hown1,((Stp.refl _ _).alloc _).trans hst1⟩
theorem Bs.drewN {w:World} {a:Option Addr} {l:List UInt8} (h:Bs w a l) (n:Nat) : Bs (w.drewN n) a l:=h
theorem Bs.part {w:World} {b off:Nat} {l:List UInt8} (h:Bs w (some ⟨b,off,none⟩) l) (p q:Nat) : Bs w (some ⟨b,off + p,none⟩) ((l.drop p).take q):=by
 refine ⟨?_,fun hne=>?_⟩
 · have:=h.1; simp only [List.length_take,List.length_drop]; omega
 · obtain ⟨b',off',e,hb,hc⟩:=h.2 (by rintro rfl; simp at hne)
   cases e
   refine ⟨b,off + p,rfl,hb,fun j hj=>?_⟩
   simp only [List.length_take,List.length_drop] at hj
   have:=hc (p + j) (by omega)
   rw [Nat.add_assoc,this]
   congr 2
   have hj2 : p + j < l.length:=by omega
   have hj3 : j < l.length - p:=by omega
   simp [bat,bn,List.getD,hj2,hj3,show j < q by omega]
theorem Bs.first {w:World} {b off:Nat} {l:List UInt8} (h:Bs w (some ⟨b,off,none⟩) l) (q:Nat) : Bs w (some ⟨b,off,none⟩) (l.take q):=by
 have:=h.part 0 q
 simpa using this
theorem yI7 (a:Option Addr) (n cap:Nat) (l:List UInt8) (w:World) (hn:n = l.length) (h11:11<=n) (hcap:n<=cap) (h:Bs w a l) :
    Calls Tryz.prog 94 #[.slice a n cap] w fun e w'=>e = .returned (.tuple #[.int .i64 ((hi (l.take 4) : Nat) : Int),.int .i64 ((hi ((l.drop 4).take 1) : Nat) : Int),.int .i64 ((hi ((l.drop 5).take 6) : Nat) : Int)])/\∃ nq,w' = w.drewN nq:=by
 obtain ⟨b,off,rfl,hb,hc⟩:=h.2 (by intro e; simp [e] at hn; omega)
 have hl11 : 11<=l.length:=by omega
 have h4 : (l.take 4).length = 4:=by simp; omega
 have h1 : ((l.drop 4).take 1).length = 1:=by simp; omega
 have h6 : ((l.drop 5).take 6).length = 6:=by simp; omega
 have k4 : (4:Int)<=(cap:Int):=by omega
 have k5 : (5:Int)<=(cap:Int):=by omega
 have k11 : (11:Int)<=(cap:Int):=by omega
 have n4 : ¬ cap = 4:=by omega
 have n5 : ¬ cap = 5:=by omega
 have H4 : Hid _:=h4
 have H1 : Hid _:=h1
 have H6 : Hid _:=h6
 clear h4 h1 h6 hn hc
 go_enter Tryz.func94,Tryz.ntmps94
 go_wp2
 go_quiet (first
  | (go_at_call 126; refine Calls.quiet_of_same (zN0 _ _ _ (l.take 4) _ ?_ ?_ ?_); exact H4.out.symm; omega; exact (h.first 4).drewN _)
  | (go_at_call 126; refine Calls.quiet_of_same (zN0 _ _ _ ((l.drop 4).take 1) _ ?_ ?_ ?_); exact H1.out.symm; omega; exact (h.part 4 1).drewN _)
  | (go_at_call 126; refine Calls.quiet_of_same (zN0 _ _ _ ((l.drop 5).take 6) _ ?_ ?_ ?_); exact H6.out.symm; omega; exact (h.part 5 6).drewN _))
 go_wp2
 go_ret3
 exact ⟨rfl,_,rfl⟩
end
end Go.Proofs.YtocoimjhglackaaGreat
