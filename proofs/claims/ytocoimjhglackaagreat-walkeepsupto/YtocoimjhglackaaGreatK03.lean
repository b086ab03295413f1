/- Vmat, Vrep, Vwn -/
import Derived.Test.YtocoimjhglackaaGreatK02
import Derived.Deep.MidRow
set_option maxHeartbeats 8000000
set_option maxRecDepth 100000
namespace Go.Proofs.YtocoimjhglackaaGreat
section
open Go.RowKit
theorem zQ1 (u:Nat) (h:u < 128) : (zI9 u).toNat = u:=by unfold zI9; simp; omega
theorem yA0 (u:Nat) : (zH4 u).toNat = u % 128 + 128:=by unfold zH4; rw [UInt8.toNat_ofNat']; omega
theorem xN8 (k i acc u:Nat) (r:List UInt8) (hu:u < 128 ^ (k + 1)) (hz:0 < u\/i = 0) (hm:acc + u * 128 ^ i<=2199023255552) : decA (k + 1) i acc (encU u ++ r) = some (acc + u * 128 ^ i,r):=by
 induction k generalizing i acc u with
 | zero =>
  have hu' : u < 128:=by simpa using hu
  rw [zF5 u hu',List.singleton_append,decA,zQ1 u hu',if_neg (by omega),Nat.mod_eq_of_lt hu',if_neg (by omega)]
 | succ k ih =>
  by_cases hs : u < 128
  · rw [zF5 u hs,List.singleton_append,decA,zQ1 u hs,if_neg (by omega),Nat.mod_eq_of_lt hs,if_neg (by omega)]
  · have hd : u / 128 < 128 ^ (k + 1):=by rw [Nat.pow_succ] at hu; omega
    have hp : u * 128 ^ i = u % 128 * 128 ^ i + u / 128 * 128 ^ (i + 1):=by
     conv=>lhs; rw [<- Nat.mod_add_div u 128]
     rw [Nat.add_mul,Nat.pow_succ,Nat.mul_comm 128 (u / 128),Nat.mul_assoc,Nat.mul_comm (128 ^ i) 128]
    rw [zL9 u hs,List.cons_append,decA,yA0,if_pos (by omega),show (u % 128 + 128) % 128 = u % 128 by omega,ih (i + 1) _ (u / 128) hd (.inl (by omega)) (by rw [hp] at hm; omega),hp]
    simp only [Nat.add_assoc]
theorem xN9 (k i acc:Nat) (l r:List UInt8) (x:Nat) (h:decA k i acc l = some (x,r)) : ∃ u,l = encU u ++ r/\x = acc + u * 128 ^ i/\(0 < u\/i = 0)/\x<=2199023255552:=by
 induction k generalizing i acc l with
 | zero=>simp [decA] at h
 | succ k ih =>
  cases l with
  | nil=>simp [decA] at h
  | cons b t =>
   have hb256 : b.toNat < 256:=b.toNat_lt
   rw [decA] at h
   by_cases hb : 128<=b.toNat
   · rw [if_pos hb] at h
     obtain ⟨u,rfl,hx,hz,hm⟩:=ih _ _ _ h
     have hu : 0 < u:=by omega
     refine ⟨b.toNat % 128 + 128 * u,?_,?_,.inl (by omega),hm⟩
     · rw [zL9 (b.toNat % 128 + 128 * u) (by omega),List.cons_append,show (b.toNat % 128 + 128 * u) / 128 = u by omega]
       congr 1
       apply UInt8.toNat_inj.1
       rw [yA0]; omega
     · rw [hx,Nat.add_mul,Nat.pow_succ,Nat.mul_comm 128 u,Nat.mul_assoc,Nat.mul_comm (128 ^ i) 128,Nat.add_assoc]
   · rw [if_neg hb] at h
     by_cases hx : 2199023255552 < acc + b.toNat % 128 * 128 ^ i\/(b.toNat = 0/\0 < i)
     · rw [if_pos hx] at h; cases h
     · rw [if_neg hx] at h
       cases h
       rw [Nat.mod_eq_of_lt (by omega)] at hx ⊢
       refine ⟨b.toNat,?_,rfl,by omega,by omega⟩
       rw [zF5 _ (by omega),List.singleton_append]
       congr 1
       apply UInt8.toNat_inj.1
       rw [zQ1 _ (by omega)]
theorem yM9 (n:Int) : zE8 (zG0 n).toNat = n:=by
 unfold zG0
 split
 · unfold zE8; rw [if_pos (by omega)]; omega
 · unfold zE8; rw [if_neg (by omega)]; omega
theorem yQ3 (u:Nat) : zG0 (zE8 u) = u:=by
 unfold zE8
 split
 · unfold zG0; rw [if_pos (by omega)]; omega
 · unfold zG0; rw [if_neg (by omega)]; omega
theorem zY5 (n:Int) (r:List UInt8) (h0:-1099511627776<=n) (h1:n<=1099511627776) : numV (some (enc n ++ r)) = n/\numS (some (enc n ++ r)) = some r:=by
 have hf : (zG0 n).toNat<=2199023255552:=by unfold zG0; split <;> omega
 have hd : decA 6 0 0 (enc n ++ r) = some ((zG0 n).toNat,r):=by
  unfold enc
  have:=xN8 5 0 0 (zG0 n).toNat r (by omega) (.inr rfl) (by omega)
  simpa using this
 exact ⟨by simp only [numV,Option.bind_some,hd,yM9],by simp [numS,hd]⟩
theorem yP1 (l r:List UInt8) (h:numS (some l) = some r) : -1099511627776<=numV (some l)/\numV (some l)<=1099511627776/\l = enc (numV (some l)) ++ r:=by
 unfold numS at h
 cases hd : decA 6 0 0 l with
 | none=>simp [hd] at h
 | some x =>
  obtain ⟨u,r'⟩:=x
  simp [hd] at h
  subst h
  obtain ⟨u',hl,hu,_,hm⟩:=xN9 6 0 0 l r' u hd
  have e : u' = u:=by simpa using hu.symm
  subst e
  have hv : numV (some l) = zE8 u':=by simp [numV,hd]
  rw [hv]
  refine ⟨?_,?_,?_⟩
  · unfold zE8; split <;> omega
  · unfold zE8; split <;> omega
  · unfold enc; rw [yQ3,Int.toNat_natCast]; exact hl
inductive Fm where
 | num | tru | byt
 | lst (f:Fm)
 | cat (a b:Fm)
@[reducible] def Vl : Fm->Type
 | .num=>Int
 | .tru=>Bool
 | .byt=>List UInt8
 | .lst f=>List (Vl f)
 | .cat a b=>Vl a × Vl b
def enN (n:Int) : List UInt8 × Bool:=if -1099511627776<=n/\n<=1099511627776 then (enc n,false) else ([],true)
def en : (f:Fm)->Vl f->List UInt8 × Bool
 | .num,n=>enN n
 | .tru,b=>(enc (if b = true then 1 else 0),false)
 | .byt,l=>if l.length<=65536 then (enc (l.length:Int) ++ l,false) else ([],true)
 | .lst f,vs=>if vs.length<=64 then (enc (vs.length:Int) ++ vs.flatMap fun v=>(en f v).1,vs.any fun v=>(en f v).2) else ([],true)
 | .cat a b,v=>((en a v.1).1 ++ (en b v.2).1,(en a v.1).2 || (en b v.2).2)
def bytV (s:Option (List UInt8)) : List UInt8:=match cntS 65536 s with
 | none=>[]
 | some l=>if l.length < cntV 65536 s then [] else l.take (cntV 65536 s)
def bytT (s:Option (List UInt8)) : Option (List UInt8):=(cntS 65536 s).bind fun l=>if l.length < cntV 65536 s then none else some (l.drop (cntV 65536 s))
def deN {α:Type} (g:Option (List UInt8)->α × Option (List UInt8)) : Nat->Option (List UInt8)->List α × Option (List UInt8)
 | 0,s=>([],s)
 | k + 1,s=>((deN g k s).1 ++ [(g (deN g k s).2).1],(g (deN g k s).2).2)
def de : (f:Fm)->Option (List UInt8)->Vl f × Option (List UInt8)
 | .num,s=>(numV s,numS s)
 | .tru,s=>(decide (numV s = 1),truS s)
 | .byt,s=>(bytV s,bytT s)
 | .lst f,s=>if (deN (de f) (cntV 64 s) (cntS 64 s)).2 = none then ([],none) else deN (de f) (cntV 64 s) (cntS 64 s)
 | .cat a b,s=>(((de a s).1,(de b (de a s).2).1),(de b (de a s).2).2)
theorem xG7 (m:Int) : cntS m none = none:=by unfold cntS; split <;> rfl
theorem xY3 (m:Int) : cntV m none = 0:=by unfold cntV; split <;> rfl
theorem yV0 {α:Type} (g:Option (List UInt8)->α × Option (List UInt8)) (hg:(g none).2 = none) (k d:Nat) (s:Option (List UInt8)) (h:(deN g k s).2 = none) : (deN g (k + d) s).2 = none:=by
 induction d with
 | zero=>exact h
 | succ d ih=>show (g (deN g (k + d) s).2).2 = none; rw [ih,hg]
theorem yG0 (f:Fm) : (de f none).2 = none:=by
 induction f with
 | num=>rfl
 | tru=>show truS none = none; unfold truS; split <;> rfl
 | byt=>show bytT none = none; unfold bytT; rw [xG7]; rfl
 | lst f ih =>
  show (if (deN (de f) (cntV 64 none) (cntS 64 none)).2 = none then _ else _ : List (Vl f) × Option (List UInt8)).2 = none
  rw [xY3,xG7,if_pos (show (deN (de f) 0 none).2 = none from rfl)]
 | cat a b iha ihb=>show (de b (de a none).2).2 = none; rw [iha]; exact ihb
theorem kE8 (f:Fm) (ih:∀ (v:Vl f) (r:List UInt8),(en f v).2 = false->de f (some ((en f v).1 ++ r)) = (v,some r)) (vs:List (Vl f)) (hb:vs.any (fun v=>(en f v).2) = false) (r:List UInt8) :
    deN (de f) vs.length (some (vs.flatMap (fun v=>(en f v).1) ++ r)) = (vs,some r):=by
 have key : ∀ (k:Nat),k<=vs.length->deN (de f) k (some (vs.flatMap (fun v=>(en f v).1) ++ r)) = (vs.take k,some ((vs.drop k).flatMap (fun v=>(en f v).1) ++ r)):=by
  intro k hk
  induction k with
  | zero=>simp [deN]
  | succ k ihk =>
   have hlt : k < vs.length:=by omega
   have hb2 : (en f vs[k]).2 = false:=by
    have:=List.any_eq_false.1 hb vs[k] (List.getElem_mem hlt)
    simpa using this
   rw [deN,ihk (by omega)]
   simp only
   rw [List.drop_eq_getElem_cons hlt,List.flatMap_cons,List.append_assoc,ih _ _ hb2]
   rw [<- List.take_append_getElem hlt]
 have:=key vs.length (Nat.le_refl _)
 simpa using this
theorem xY0 (f:Fm) (v:Vl f) (r:List UInt8) (h:(en f v).2 = false) : de f (some ((en f v).1 ++ r)) = (v,some r):=by
 induction f generalizing r with
 | num =>
  have h' : (enN v).2 = false:=h
  show de .num (some ((enN v).1 ++ r)) = _
  unfold enN at h' ⊢
  by_cases hv : -1099511627776<=v/\v<=1099511627776
  · rw [if_pos hv]
    have:=zY5 v r hv.1 hv.2
    show (numV _,numS _) = _
    rw [this.1,this.2]
  · rw [if_neg hv] at h'; cases h'
 | tru =>
  show de .tru (some (enc (if v = true then 1 else 0) ++ r)) = _
  show (decide (numV _ = 1),truS _) = _
  unfold truS
  cases v with
  | false =>
   have:=zY5 0 r (by omega) (by omega)
   simp [this.1,this.2]
  | true =>
   have:=zY5 1 r (by omega) (by omega)
   simp [this.1,this.2]
 | byt =>
  have h' : (if (v:List UInt8).length<=65536 then (enc ((v:List UInt8).length : Int) ++ v,false) else ([],true) : List UInt8 × Bool).2 = false:=h
  show de .byt (some ((if (v:List UInt8).length<=65536 then (enc ((v:List UInt8).length : Int) ++ v,false) else ([],true) : List UInt8 × Bool).1 ++ r)) = _
  by_cases hv : (v:List UInt8).length<=65536
  · rw [if_pos hv]
    have hn:=zY5 ((v:List UInt8).length : Int) (v ++ r) (by omega) (by omega)
    have hs : cntS 65536 (some (enc ((v:List UInt8).length : Int) ++ v ++ r)) = some (v ++ r):=by unfold cntS; rw [List.append_assoc,hn.1,if_neg (by omega),hn.2]
    have hc : cntV 65536 (some (enc ((v:List UInt8).length : Int) ++ v ++ r)) = (v:List UInt8).length:=by unfold cntV; rw [List.append_assoc,hn.1,if_neg (by omega)]; omega
    show (bytV _,bytT _) = _
    unfold bytV bytT
    simp only [hs,hc,Option.bind_some]
    rw [if_neg (by rw [List.length_append]; omega),if_neg (by rw [List.length_append]; omega),List.take_left,List.drop_left]
  · rw [if_neg hv] at h'; cases h'
 | lst f ih =>
  have h' : (if (v:List (Vl f)).length<=64 then (enc ((v:List (Vl f)).length : Int) ++ (v:List (Vl f)).flatMap fun v=>(en f v).1,(v:List (Vl f)).any fun v=>(en f v).2) else ([],true) : List UInt8 × Bool).2 = false:=h
  show de (.lst f) (some ((if (v:List (Vl f)).length<=64 then (enc ((v:List (Vl f)).length : Int) ++ (v:List (Vl f)).flatMap fun v=>(en f v).1,(v:List (Vl f)).any fun v=>(en f v).2) else ([],true) : List UInt8 × Bool).1 ++ r)) = _
  by_cases hv : (v:List (Vl f)).length<=64
  · rw [if_pos hv] at h' ⊢
    simp only at h' ⊢
    have hn:=zY5 ((v:List (Vl f)).length : Int) ((v:List (Vl f)).flatMap (fun v=>(en f v).1) ++ r) (by omega) (by omega)
    rw [List.append_assoc]
    have hs : cntS 64 (some (enc ((v:List (Vl f)).length : Int) ++ ((v:List (Vl f)).flatMap (fun v=>(en f v).1) ++ r))) = some ((v:List (Vl f)).flatMap (fun v=>(en f v).1) ++ r):=by unfold cntS; rw [hn.1,if_neg (by omega),hn.2]
    have hc : cntV 64 (some (enc ((v:List (Vl f)).length : Int) ++ ((v:List (Vl f)).flatMap (fun v=>(en f v).1) ++ r))) = (v:List (Vl f)).length:=by unfold cntV; rw [hn.1,if_neg (by omega)]; omega
    rw [de,hs,hc,kE8 f (fun v r h=>ih v r h) v h' r,if_neg (by simp)]
  · rw [if_neg hv] at h'; cases h'
 | cat a b iha ihb =>
  have h' : ((en a v.1).2 || (en b v.2).2) = false:=h
  rw [Bool.or_eq_false_iff] at h'
  show de (.cat a b) (some (((en a v.1).1 ++ (en b v.2).1) ++ r)) = _
  rw [de,List.append_assoc,iha v.1 _ h'.1]
  simp only
  rw [ihb v.2 r h'.2]
theorem xY2 (f:Fm) (hn:(de f none).2 = none) (ih:∀ (l r:List UInt8),(de f (some l)).2 = some r->(en f (de f (some l)).1).2 = false/\l = (en f (de f (some l)).1).1 ++ r) (k:Nat) (l r:List UInt8) (h:(deN (de f) k (some l)).2 = some r) :
    (deN (de f) k (some l)).1.length = k/\(deN (de f) k (some l)).1.any (fun v=>(en f v).2) = false/\l = (deN (de f) k (some l)).1.flatMap (fun v=>(en f v).1) ++ r:=by
 induction k generalizing r with
 | zero=>simp only [deN] at h ⊢; cases h; simp
 | succ k ihk =>
  rw [deN] at h ⊢
  simp only at h ⊢
  cases hm : (deN (de f) k (some l)).2 with
  | none=>rw [hm,hn] at h; cases h
  | some m =>
   rw [hm] at h
   obtain ⟨h1,h2,h3⟩:=ihk m hm
   obtain ⟨h4,h5⟩:=ih m r h
   refine ⟨by simp [h1],?_,?_⟩
   · rw [List.any_append,h2]; simp [h4]
   · rw [List.flatMap_append,List.append_assoc]
     simp only [List.flatMap_cons,List.flatMap_nil,List.append_nil]
     rw [<- h5]; exact h3
theorem xG6 (m:Int) (l r:List UInt8) (h:cntS m (some l) = some r) : (cntV m (some l) : Int)<=m/\l = enc (cntV m (some l) : Int) ++ r:=by
 unfold cntS at h
 unfold cntV
 by_cases hv : numV (some l) < 0\/m < numV (some l)
 · rw [if_pos hv] at h; cases h
 · rw [if_neg hv] at h ⊢
   obtain ⟨_,_,e⟩:=yP1 l r h
   rw [Int.toNat_of_nonneg (by omega)]
   exact ⟨by omega,e⟩
theorem xX6 (f:Fm) (l r:List UInt8) (h:(de f (some l)).2 = some r) : (en f (de f (some l)).1).2 = false/\l = (en f (de f (some l)).1).1 ++ r:=by
 induction f generalizing l r with
 | num =>
  obtain ⟨h0,h1,h2⟩:=yP1 l r h
  show (enN (numV (some l))).2 = false/\l = (enN (numV (some l))).1 ++ r
  unfold enN
  rw [if_pos ⟨h0,h1⟩]
  exact ⟨rfl,h2⟩
 | tru =>
  have h' : truS (some l) = some r:=h
  refine ⟨rfl,?_⟩
  show l = enc (if decide (numV (some l) = 1) = true then 1 else 0) ++ r
  unfold truS at h'
  by_cases hv : numV (some l) = 0\/numV (some l) = 1
  · rw [if_pos hv] at h'
    obtain ⟨_,_,h2⟩:=yP1 l r h'
    rcases hv with hv | hv
    · rw [hv] at h2 ⊢; simpa using h2
    · rw [hv] at h2 ⊢; simpa using h2
  · rw [if_neg hv] at h'; cases h'
 | byt =>
  have h' : bytT (some l) = some r:=h
  show (if (bytV (some l)).length<=65536 then (enc ((bytV (some l)).length : Int) ++ bytV (some l),false) else ([],true) : List UInt8 × Bool).2 = false/\l = (if (bytV (some l)).length<=65536 then (enc ((bytV (some l)).length : Int) ++ bytV (some l),false) else ([],true) : List UInt8 × Bool).1 ++ r
  unfold bytT at h'
  cases hc : cntS 65536 (some l) with
  | none=>simp [hc] at h'
  | some m =>
   rw [hc] at h'
   simp only [Option.bind_some] at h'
   by_cases hl : m.length < cntV 65536 (some l)
   · rw [if_pos hl] at h'; cases h'
   · rw [if_neg hl] at h'
     cases h'
     obtain ⟨h1,h2⟩:=xG6 65536 l m hc
     have hb : bytV (some l) = m.take (cntV 65536 (some l)):=by unfold bytV; rw [hc]; simp only; rw [if_neg hl]
     have hbl : (bytV (some l)).length = cntV 65536 (some l):=by rw [hb,List.length_take]; omega
     rw [hbl,if_pos (by omega),hb]
     refine ⟨rfl,?_⟩
     simp only [List.append_assoc,List.take_append_drop]
     exact h2
 | lst f ih =>
  cases hc : cntS 64 (some l) with
  | none =>
   exfalso
   have h' : (if (deN (de f) (cntV 64 (some l)) (cntS 64 (some l))).2 = none then ([],none) else deN (de f) (cntV 64 (some l)) (cntS 64 (some l)) : List (Vl f) × Option (List UInt8)).2 = some r:=h
   rw [hc] at h'
   have : (deN (de f) (cntV 64 (some l)) none).2 = none:=by
    have:=yV0 (de f) (yG0 f) 0 (cntV 64 (some l)) none rfl
    rwa [Nat.zero_add] at this
   rw [if_pos this] at h'; cases h'
  | some m =>
   by_cases hn : (deN (de f) (cntV 64 (some l)) (some m)).2 = none
   · exfalso
     have h' : (if (deN (de f) (cntV 64 (some l)) (cntS 64 (some l))).2 = none then ([],none) else deN (de f) (cntV 64 (some l)) (cntS 64 (some l)) : List (Vl f) × Option (List UInt8)).2 = some r:=h
     rw [hc,if_pos hn] at h'; cases h'
   · have e : de (.lst f) (some l) = deN (de f) (cntV 64 (some l)) (some m):=by rw [de,hc,if_neg hn]
     rw [e] at h ⊢
     obtain ⟨h1,h2⟩:=xG6 64 l m hc
     obtain ⟨h3,h4,h5⟩:=xY2 f (yG0 f) (fun l r h=>ih l r h) _ m r h
     generalize deN (de f) (cntV 64 (some l)) (some m) = R at *
     show (if R.1.length<=64 then (enc (R.1.length:Int) ++ R.1.flatMap fun v=>(en f v).1,R.1.any fun v=>(en f v).2) else ([],true) : List UInt8 × Bool).2 = false/\l = (if R.1.length<=64 then (enc (R.1.length:Int) ++ R.1.flatMap fun v=>(en f v).1,R.1.any fun v=>(en f v).2) else ([],true) : List UInt8 × Bool).1 ++ r
     rw [h3,if_pos (by omega)]
     refine ⟨h4,?_⟩
     rw [List.append_assoc,<- h5]
     exact h2
 | cat a b iha ihb =>
  have h' : (de b (de a (some l)).2).2 = some r:=h
  show ((en a (de a (some l)).1).2 || (en b (de b (de a (some l)).2).1).2) = false/\l = ((en a (de a (some l)).1).1 ++ (en b (de b (de a (some l)).2).1).1) ++ r
  cases hm : (de a (some l)).2 with
  | none=>rw [hm,yG0] at h'; cases h'
  | some m =>
   rw [hm] at h'
   obtain ⟨h1,h2⟩:=iha l m hm
   obtain ⟨h3,h4⟩:=ihb m r h'
   refine ⟨by rw [h1,h3]; rfl,?_⟩
   rw [List.append_assoc,<- h4]
   exact h2
end
section
open Go.RowKit
def wd : Fm->Nat
 | .num | .tru | .byt | .lst _=>1
 | .cat a b=>wd a + wd b
def Rep (w:World) (S:Nat->Prop) : (f:Fm)->List Value->Vl f->Prop
 | .num,cs,n=>cs = [.int .i64 n]
 | .tru,cs,b=>cs = [.bool b]
 | .byt,cs,l=>∃ a cap,cs = [.slice a l.length cap]/\l.length<=cap/\Bs w a l/\(l ≠ []->∀ x,a = some x->S x.block)
 | .lst f,cs,vs=>∃ a cap,cs = [.slice a vs.length cap]/\vs.length<=9223372036854775807 /\
     (vs ≠ []->∃ b off,a = some ⟨b,off,none⟩/\S b/\∀ i (h:i < vs.length),∃ es,Rep w S f es vs[i]/\w.rangeAt b (off + i * wd f) es)
 | .cat f g,cs,v=>∃ xs ys,cs = xs ++ ys/\Rep w S f xs v.1/\Rep w S g ys v.2
def RepL (w:World) (S:Nat->Prop) (f:Fm) (a:Option Addr) (vs:List (Vl f)) : Prop :=
 vs.length<=9223372036854775807/\(vs ≠ []->∃ b off,a = some ⟨b,off,none⟩/\S b/\∀ i (h:i < vs.length),∃ es,Rep w S f es vs[i]/\w.rangeAt b (off + i * wd f) es)
def RepB (w:World) (S:Nat->Prop) (a:Option Addr) (l:List UInt8) : Prop:=Bs w a l/\(l ≠ []->∀ x,a = some x->S x.block)
theorem Rep.len {w:World} {S:Nat->Prop} {f:Fm} {cs:List Value} {v:Vl f} (h:Rep w S f cs v) : cs.length = wd f:=by
 induction f generalizing cs with
 | num=>rw [show cs = _ from h]; rfl
 | tru=>rw [show cs = _ from h]; rfl
 | byt=>obtain ⟨a,cap,rfl,_⟩:=h; rfl
 | lst f _=>obtain ⟨a,cap,rfl,_⟩:=h; rfl
 | cat f g ihf ihg =>
  obtain ⟨xs,ys,rfl,h1,h2⟩:=h
  rw [List.length_append,ihf h1,ihg h2]; rfl
theorem zB1 {w w':World} {b o:Nat} {cs:List Value} (h:w.rangeAt b o cs) (hb:w'.heap[b]? = w.heap[b]?) : w'.rangeAt b o cs :=
 fun j v hv=>(World.cell?_of_block (a:=⟨b,o + j,none⟩) hb).trans (h j v hv)
theorem RepB.kept {w w':World} {S S':Nat->Prop} {a:Option Addr} {l:List UInt8} (h:RepB w S a l) (hs:w.heap.size<=w'.heap.size) (hb:∀ b,S b->w'.heap[b]? = w.heap[b]?) (hm:∀ b,S b->S' b) : RepB w' S' a l:=by
 refine ⟨⟨h.1.1,fun hne=>?_⟩,fun hne x hx=>hm _ (h.2 hne x hx)⟩
 obtain ⟨b,off,rfl,hlt,hc⟩:=h.1.2 hne
 have:=h.2 hne _ rfl
 exact ⟨b,off,rfl,Nat.lt_of_lt_of_le hlt hs,fun j hj=>(World.cell?_of_block (a:=⟨b,off + j,none⟩) (hb b this)).trans (hc j hj)⟩
theorem Rep.kept {w w':World} {S S':Nat->Prop} {f:Fm} {cs:List Value} {v:Vl f} (h:Rep w S f cs v) (hs:w.heap.size<=w'.heap.size) (hb:∀ b,S b->w'.heap[b]? = w.heap[b]?) (hm:∀ b,S b->S' b) : Rep w' S' f cs v:=by
 induction f generalizing cs with
 | num=>exact h
 | tru=>exact h
 | byt =>
  obtain ⟨a,cap,rfl,hc,h1,h2⟩:=h
  have:=RepB.kept (S':=S') ⟨h1,h2⟩ hs hb hm
  exact ⟨a,cap,rfl,hc,this.1,this.2⟩
 | lst f ih =>
  obtain ⟨a,cap,rfl,hc,h1⟩:=h
  refine ⟨a,cap,rfl,hc,fun hne=>?_⟩
  obtain ⟨b,off,rfl,hS,he⟩:=h1 hne
  refine ⟨b,off,rfl,hm b hS,fun i hi=>?_⟩
  obtain ⟨es,h3,h4⟩:=he i hi
  exact ⟨es,ih h3,zB1 h4 (hb b hS)⟩
 | cat f g ihf ihg =>
  obtain ⟨xs,ys,rfl,h1,h2⟩:=h
  exact ⟨xs,ys,rfl,ihf h1,ihg h2⟩
theorem RepL.kept {w w':World} {S S':Nat->Prop} {f:Fm} {a:Option Addr} {vs:List (Vl f)} (h:RepL w S f a vs) (hs:w.heap.size<=w'.heap.size) (hb:∀ b,S b->w'.heap[b]? = w.heap[b]?) (hm:∀ b,S b->S' b) : RepL w' S' f a vs:=by
 refine ⟨h.1,fun hne=>?_⟩
 obtain ⟨b,off,rfl,hS,he⟩:=h.2 hne
 refine ⟨b,off,rfl,hm b hS,fun i hi=>?_⟩
 obtain ⟨es,h3,h4⟩:=he i hi
 exact ⟨es,h3.kept hs hb hm,zB1 h4 (hb b hS)⟩
theorem RepB.keep {w w':World} {S prot:Nat->Prop} {a:Option Addr} {l:List UInt8} (h:RepB w S a l) (hk:Kp w w' prot) (hS:∀ b,S b->prot b) : RepB w' S a l:=h.kept hk.size (fun b hb=>hk.block b (hS b hb)) (fun _ x=>x)
theorem Rep.one {w:World} {S:Nat->Prop} {f:Fm} {cs:List Value} {v:Vl f} (h:Rep w S f cs v) : ∀ c ∈ cs,c.oneCell' = true:=by
 induction f generalizing cs with
 | num=>rw [show cs = _ from h]; intro c hc; simp at hc; subst hc; rfl
 | tru=>rw [show cs = _ from h]; intro c hc; simp at hc; subst hc; rfl
 | byt=>obtain ⟨a,cap,rfl,_⟩:=h; intro c hc; simp at hc; subst hc; rfl
 | lst f _=>obtain ⟨a,cap,rfl,_⟩:=h; intro c hc; simp at hc; subst hc; rfl
 | cat f g ihf ihg =>
  obtain ⟨xs,ys,rfl,h1,h2⟩:=h
  intro c hc
  rcases List.mem_append.1 hc with hc | hc
  · exact ihf h1 c hc
  · exact ihg h2 c hc
theorem Rep.all {w:World} {S:Nat->Prop} {f:Fm} {cs:List Value} {v:Vl f} (h:Rep w S f cs v) : cs.toArray.all (·.oneCell') = true:=by
 rw [Array.all_eq_true_iff_forall_mem]
 intro c hc
 exact h.one c (by simpa using hc)
def mx : Fm->Nat
 | .num | .tru=>6
 | .byt=>65542
 | .lst f=>6 + 64 * mx f
 | .cat a b=>mx a + mx b
theorem zA3 (n:Int) : (enN n).1.length<=6:=by
 unfold enN
 split
 · next h=>exact zD5 n h.1 h.2
 · simp
theorem zH9 {α:Type} (g:α->List UInt8) (m:Nat) (h:∀ v,(g v).length<=m) (vs:List α) : (vs.flatMap g).length<=vs.length * m:=by
 induction vs with
 | nil=>simp
 | cons v vs ih=>rw [List.flatMap_cons,List.length_append,List.length_cons,Nat.add_mul]; have:=h v; omega
theorem zH3 (f:Fm) (v:Vl f) : (en f v).1.length<=mx f:=by
 induction f with
 | num=>exact zA3 v
 | tru =>
  show (enc (if v = true then 1 else 0)).length<=6
  split
  · exact zD5 _ (by omega) (by omega)
  · exact zD5 _ (by omega) (by omega)
 | byt =>
  show (if (v:List UInt8).length<=65536 then (enc ((v:List UInt8).length : Int) ++ v,false) else ([],true) : List UInt8 × Bool).1.length<=65542
  split
  · next h =>
    rw [List.length_append]
    have:=zD5 ((v:List UInt8).length : Int) (by omega) (by omega)
    omega
  · simp
 | lst f ih =>
  show (if (v:List (Vl f)).length<=64 then (enc ((v:List (Vl f)).length : Int) ++ (v:List (Vl f)).flatMap fun v=>(en f v).1,(v:List (Vl f)).any fun v=>(en f v).2) else ([],true) : List UInt8 × Bool).1.length<=6 + 64 * mx f
  split
  · next h =>
    rw [List.length_append]
    have h1:=zD5 ((v:List (Vl f)).length : Int) (by omega) (by omega)
    have h2:=zH9 (fun v=>(en f v).1) (mx f) (fun v=>ih v) v
    have h3 : (v:List (Vl f)).length * mx f<=64 * mx f:=Nat.mul_le_mul_right _ h
    omega
  · simp
 | cat a b iha ihb =>
  show ((en a v.1).1 ++ (en b v.2).1).length<=mx a + mx b
  rw [List.length_append]
  have:=iha v.1
  have:=ihb v.2
  omega
end
section
open Go.RowKit
theorem WR.bad {w:World} {p:Nat} {l:List UInt8} {bad:Bool} {prot:Nat->Prop} (h:WR w p l bad prot) : WR (w.setCell ⟨p,1,none⟩ (.bool true)) p l true prot/\Kp w (w.setCell ⟨p,1,none⟩ (.bool true)) prot:=by
 obtain ⟨h1,h2,h3,v,h4,h5,h6,h7,h8,h9⟩:=h
 have hk : ∀ k,k ≠ p->(w.setCell ⟨p,1,none⟩ (.bool true)).heap[k]? = w.heap[k]?:=fun k hk=>Below.heap_setCell w ⟨p,1,none⟩ _ k hk
 refine ⟨⟨h1,fun b hb=>by have:=h2 b hb; simpa using this,by simpa using h3,v,?_,?_,?_,?_,h8.kept (fun k e=>hk k (h9 k e).1),h9⟩,⟨rfl,rfl,rfl,by simp,fun k x=>hk k (fun e=>h1 (e ▸ x))⟩⟩
 · rw [World.cell?_setCell_other w _ _ _ (by simp)]; exact h4
 · exact World.cell?_setCell_same w _ _ h5
 · rw [World.frozen?_setCell]; exact h6
 · rw [World.frozen?_setCell]; exact h7
theorem WR.grow {w w':World} {p:Nat} {l:List UInt8} {bad:Bool} {prot:Nat->Prop} (h:WR w p l bad prot) (hb:Below w.heap.size w w') : WR w' p l bad prot:=by
 obtain ⟨h1,h2,h3,v,h4,h5,h6,h7,h8,h9⟩:=h
 have e:=hb.block p h3
 exact ⟨h1,fun b x=>Nat.lt_of_lt_of_le (h2 b x) hb.size,Nat.lt_of_lt_of_le h3 hb.size,v,(World.cell?_of_block (a:=⟨p,0,none⟩) e).trans h4,(World.cell?_of_block (a:=⟨p,1,none⟩) e).trans h5,
  (World.frozen?_of_block (a:=⟨p,0,none⟩) e).trans h6,(World.frozen?_of_block (a:=⟨p,1,none⟩) e).trans h7,h8.below hb,h9⟩
theorem yF1 {w w':World} (hb:Below w.heap.size w w') (prot:Nat->Prop) (h:∀ b,prot b->b < w.heap.size) : Kp w w' prot:=⟨hb.os,hb.tape,hb.output,hb.size,fun k hk=>hb.block k (h k hk)⟩
theorem zC6 (p:Nat) (l:List UInt8) (bad:Bool) (prot:Nat->Prop) (n:Int) (w:World) (hl:l.length + 6<=137438953472) (h:WR w p l bad prot) :
    Calls Tryz.prog 138 #[.pointer (some ⟨p,0,none⟩),.int .i64 n] w fun e w'=>e = .returned (.tuple #[])/\WR w' p (l ++ (enN n).1) (bad || (enN n).2) prot/\Kp w w' prot:=by
 by_cases hn : -1099511627776<=n/\n<=1099511627776
 · have e : enN n = (enc n,false):=by unfold enN; rw [if_pos hn]
   rw [e]
   simp only [Bool.or_false]
   exact zY4 p l bad prot n w hn.1 hn.2 (by omega) h
 · have e : enN n = ([],true):=by unfold enN; rw [if_neg hn]
   rw [e]
   simp only [Bool.or_true,List.append_nil]
   have hb:=h.bad
   obtain ⟨h1,h2,h3,v,h4,h5,h6,h7,h8,h9⟩:=h
   have H2 : Hid _:=h2
   have H9 : Hid _:=h9
   have H1 : Hid _:=h1
   have HB : Hid _:=hb
   clear h1 h2 h9 hb e h8
   by_cases hlo : n < -1099511627776
   · clear hn
     go_enter Tryz.func138,Tryz.ntmps138
     go_wp2
     (try simp only [Exit.inBlock,Exit.then]); refine bodyPost_ret (results_none rfl _ _ _) rfl ?_
     exact ⟨rfl,HB.out⟩
   · have hhi : 1099511627776 < n:=by omega
     clear hn
     go_enter Tryz.func138,Tryz.ntmps138
     go_wp2
     (try simp only [Exit.inBlock,Exit.then]); refine bodyPost_ret (results_none rfl _ _ _) rfl ?_
     exact ⟨rfl,HB.out⟩
theorem zX5 (p:Nat) (l:List UInt8) (bad:Bool) (prot:Nat->Prop) (b:Bool) (w:World) (hl:l.length + 6<=137438953472) (h:WR w p l bad prot) :
    Calls Tryz.prog 203 #[.pointer (some ⟨p,0,none⟩),.bool b] w fun e w'=>e = .returned (.tuple #[])/\WR w' p (l ++ (en .tru b).1) (bad || (en .tru b).2) prot/\Kp w w' prot:=by
 show Calls Tryz.prog 203 #[.pointer (some ⟨p,0,none⟩),.bool b] w fun e w'=>e = .returned (.tuple #[])/\WR w' p (l ++ ((enc (if b = true then 1 else 0),false)).1) (bad || ((enc (if b = true then 1 else 0),false)).2) prot/\Kp w w' prot
 simp only [Bool.or_false]
 cases b with
 | false =>
  simp only [Bool.false_eq_true,if_false]
  go_enter Tryz.func203,Tryz.ntmps203
  go_wp2_with fail
  refine (zY4 p l bad prot 0 w (by omega) (by omega) (by omega) h).mono ?_
  rintro e w' ⟨rfl,hW,hK⟩
  go_wp2
  go_end0
  exact ⟨rfl,hW,hK⟩
 | true =>
  simp only [if_true]
  go_enter Tryz.func203,Tryz.ntmps203
  go_wp2_with fail
  refine (zY4 p l bad prot 1 w (by omega) (by omega) (by omega) h).mono ?_
  rintro e w' ⟨rfl,hW,hK⟩
  go_wp2
  (try simp only [Exit.inBlock,Exit.then]); refine bodyPost_ret (results_none rfl _ _ _) rfl ?_
  exact ⟨rfl,hW,hK⟩
theorem WR.store0 {w w1:World} {p:Nat} {l':List UInt8} {bad:Bool} {prot:Nat->Prop} {v v':Value} (h1:¬ prot p) (h2:∀ b,prot b->b < w.heap.size) (h3:p < w.heap.size)
    (h5:w.cell? ⟨p,1,none⟩ = some (.bool bad)) (h6:w.frozen? ⟨p,0,none⟩ = false) (h7:w.frozen? ⟨p,1,none⟩ = false) (h9:∀ r,v.ownBlock = some r->r ≠ p/\¬ prot r) (h4:w.cell? ⟨p,0,none⟩ = some v)
    (o1:Own w1 v' l') (s1:Stp w w1 v.ownBlock v'.ownBlock) : WR (w1.setCell ⟨p,0,none⟩ v') p l' bad prot/\Kp w (w1.setCell ⟨p,0,none⟩ v') prot/\w1.cell? ⟨p,0,none⟩ = some v/\w1.frozen? ⟨p,0,none⟩ = false:=by
 have hv : ∀ r,v'.ownBlock = some r->r ≠ p/\¬ prot r:=by
  intro r hr
  rcases s1.row with e | ⟨k,e,hk⟩
  · exact h9 r (by rw [<- e]; exact hr)
  · rw [hr] at e; cases e
    exact ⟨by omega,fun x=>by have:=h2 r x; omega⟩
 have hp:=s1.block p h3 (fun e=>(h9 p e.symm).1 rfl)
 have c0 : w1.cell? ⟨p,0,none⟩ = some v:=(World.cell?_of_block hp).trans h4
 have hsz:=s1.size
 have hk : ∀ k,k ≠ p->(w1.setCell ⟨p,0,none⟩ v').heap[k]? = w1.heap[k]?:=fun k hk=>Below.heap_setCell w1 ⟨p,0,none⟩ v' k hk
 refine ⟨⟨h1,fun b hb=>by have:=h2 b hb; simp; omega,by simp; omega,v',?_,?_,?_,?_,o1.kept (fun k e=>hk k (hv k e).1),hv⟩,⟨s1.os,s1.tape,s1.output,by simp; omega,fun k x=>?_⟩,c0,(World.frozen?_of_block hp).trans h6⟩
 · exact World.cell?_setCell_same w1 _ _ c0
 · rw [World.cell?_setCell_other w1 _ _ _ (by simp)]; exact (World.cell?_of_block hp).trans h5
 · rw [World.frozen?_setCell]; exact (World.frozen?_of_block hp).trans h6
 · rw [World.frozen?_setCell]; exact (World.frozen?_of_block hp).trans h7
 · rw [hk k (fun e=>h1 (e ▸ x))]
   exact s1.block k (h2 k x) (fun e=>(h9 k e.symm).2 x)
theorem xY4 (p:Nat) (l:List UInt8) (bad:Bool) (prot S:Nat->Prop) (a:Option Addr) (c:Nat) (v:List UInt8) (w:World) (hl:l.length + 65542<=137438953472) (hS:∀ b,S b->prot b) (hr:RepB w S a v) (h:WR w p l bad prot) :
    Calls Tryz.prog 140 #[.pointer (some ⟨p,0,none⟩),.slice a v.length c] w fun e w'=>e = .returned (.tuple #[])/\WR w' p (l ++ (en .byt v).1) (bad || (en .byt v).2) prot/\Kp w w' prot:=by
 have hl2 : l.length + 65542<=137438953472:=hl
 by_cases hbig : v.length<=65536
 · have e0 : en .byt v = (enc (v.length:Int) ++ v,false):=by show (if _ then _ else _) = _; rw [if_pos hbig]
   rw [e0]
   simp only [Bool.or_false]
   have e1 : Hid (enN (v.length:Int) = (enc (v.length:Int),false)):=by show _ = _; unfold enN; rw [if_pos (by omega)]
   have HEL : Hid ((enc (v.length:Int)).length<=6):=zD5 _ (by omega) (by omega)
   have HSP : Hid (∀ b,S b->prot b):=hS
   clear hl e0 hS
   go_enter Tryz.func140,Tryz.ntmps140
   go_wp2_with fail
   refine (zC6 p l bad prot (v.length:Int) w (by omega) h).mono ?_
   rintro e w1 ⟨rfl,hW1,hK1⟩
   rw [e1.out] at hW1
   simp only [Bool.or_false] at hW1
   have HR : Hid (RepB w1 S a v):=hr.keep hK1 HSP.out
   obtain ⟨q1,q2,q3,v1,q4,q5,q6,q7,q8,q9⟩:=hW1
   obtain ⟨a1,c1,hv,hbs⟩:=q8.form
   subst hv
   have H2 : Hid _:=q2
   have H9 : Hid _:=q9
   have H1 : Hid _:=q1
   clear q1 q2 q9 hbs hr
   have hlb : Hid ((l ++ enc (v.length:Int)).length + v.length<=211106232532992):=by
    show _<=_
    have:=HEL.out
    rw [List.length_append]; omega
   obtain ⟨m,hm⟩ : ∃ m,Hid (m = l ++ enc (v.length:Int)):=⟨_,rfl⟩
   rw [<- hm.out] at q4 q8 hlb
   go_wp2_with (at_builtin; refine zC3 _ rfl (.tmp 18) (.tmp 19) rfl (.slice a1 m.length c1) m rfl q8 (.slice a v.length c) v rfl ?src ?len ?next)
   case src=>exact HR.out.1.src Tryz.underlying22 c
   case len=>exact hlb.out
   case next =>
    intro v' w2 o1 s1
    obtain ⟨hW2,hK2,k1,d1⟩:=WR.store0 H1.out H2.out q3 q5 q6 q7 (by rw [hm.out]; exact H9.out) q4 o1 s1
    obtain ⟨a',c',hv',_⟩:=o1.form
    subst hv'
    rw [List.length_append] at hW2 hK2
    have HW2 : Hid (WR _ _ _ _ _):=hW2
    clear hW2 o1 s1
    go_wp2
    go_end0
    refine ⟨rfl,?_,hK1.trans hK2⟩
    have e : l ++ (enc (v.length:Int) ++ v) = m ++ v:=by rw [hm.out,List.append_assoc]
    rw [e]
    exact HW2.out
 · have e0 : en .byt v = ([],true):=by show (if _ then _ else _) = _; rw [if_neg hbig]
   rw [e0]
   simp only [Bool.or_true,List.append_nil]
   have HB : Hid _:=h.bad
   obtain ⟨h1,h2,h3,v,h4,h5,h6,h7,h8,h9⟩:=h
   clear h1 h2 h9 h8 hr hl hl2 e0
   go_enter Tryz.func140,Tryz.ntmps140
   go_wp2
   (try simp only [Exit.inBlock,Exit.then]); refine bodyPost_ret (results_none rfl _ _ _) rfl ?_
   exact ⟨rfl,HB.out⟩
end
end Go.Proofs.YtocoimjhglackaaGreat
