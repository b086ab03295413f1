/- Wpur, Dnm, Dmem -/
import Derived.Test.YtocoimjhglackaaGreatK04
import Derived.LoopTactic
import Derived.RegionTactic
import Derived.ChangeAlike
import Derived.RowKit
import Derived.Lib.Strings
import Derived.Maps.OwnSet
import Derived.StringKeys
set_option maxHeartbeats 8000000
set_option maxRecDepth 100000
namespace Go.Proofs.YtocoimjhglackaaGreat
section
open Go.RowKit
abbrev En:=Vl zA8
abbrev Sn:=Vl zA2
def zV1 : Fm:=.cat .num .num
def dE (b:List UInt8) : En:=(de zA8 (some b)).1
abbrev okE (b:List UInt8) : Prop:=(de zA8 (some b)).2 = some []
def dS (b:List UInt8) : Sn:=(de zA2 (some b)).1
abbrev okS (b:List UInt8) : Prop:=(de zA2 (some b)).2 = some []
def dH (b:List UInt8) : Int × Int:=(de zV1 (some b)).1
abbrev okN (n:Int) : Prop:=0<=n/\n<=1099511627776
abbrev okH (b:List UInt8) : Prop:=(de zV1 (some b)).2 = some []/\okN (dH b).1/\okN (dH b).2
def zE0 (t v:Int) : List UInt8:=enc t ++ enc v
def eI (x:En) : Int:=x.1
def sI (x:Sn) : Int:=x.1
structure Sd where
 t : Int
 v : Int
 sn : Option (List UInt8)
 base : Int
 bs : List (List UInt8)
def sd0 : Sd:=⟨0,0,none,0,[]⟩
def yA7 (s:Sd) (place:Int) (b:List UInt8) : Option Sd:=if okH b/\place = 0 then some ⟨(dH b).1,(dH b).2,s.sn,s.base,s.bs⟩ else none
def zR0 (s:Sd) (place:Int) (b:List UInt8) : Option Sd:=if okE b/\place = eI (dE b)/\s.base < eI (dE b)/\eI (dE b)<=s.base + s.bs.length + 1 then some ⟨s.t,s.v,s.sn,s.base,s.bs.take (eI (dE b) - s.base - 1).toNat ++ [b]⟩ else none
def yA6 (s:Sd) (place:Int) (b:List UInt8) : Option Sd:=if okS b/\place = sI (dS b) then some ⟨s.t,s.v,some b,sI (dS b),[]⟩ else none
def zH6 (s:Sd) (kind place:Int) (b:List UInt8) : Option Sd:=if kind = 1 then yA7 s place b else if kind = 2 then zR0 s place b else if kind = 3 then yA6 s place b else none
def rdA : Nat->Sd->List UInt8->Option (Sd × Nat)
 | 0,s,_=>some (s,0)
 | k + 1,s,l=>if (unf l).err ≠ 0 then none else if (unf l).used = 0 then some (s,0)
  else (zH6 s (unf l).kind (unf l).place (unf l).body).bind fun s'=>(rdA k s' (l.drop (unf l).used.toNat)).map fun r=>(r.1,(unf l).used.toNat + r.2)
def rdF (s:Sd) (l:List UInt8) : Option (Sd × Nat):=rdA (l.length + 1) s l
theorem zJ8 (l:List UInt8) : (unf l).err ≠ 0\/((unf l).err = 0/\(unf l).used = 0)\/∃ k p b x,l = fr k p b ++ x/\k<=255/\p<=1099511627776/\b.length<=1048576:=by
 unfold unf
 by_cases h1 : l.length < 11
 · rw [if_pos h1]; exact .inr (.inl ⟨rfl,rfl⟩)
 · rw [if_neg h1]
   by_cases h2 : 1048576 < uN l\/1099511627776 < uP l
   · rw [if_pos h2]; exact .inl (by decide)
   · rw [if_neg h2]
     by_cases h3 : l.length < 11 + uN l + 4
     · rw [if_pos h3]; exact .inr (.inl ⟨rfl,rfl⟩)
     · rw [if_neg h3]
       by_cases h4 : (l.drop (11 + uN l)).take 4 ≠ lo4 (nsum (l.take (11 + uN l)))
       · rw [if_pos h4]; exact .inl (by decide)
       · have h5:=(kH5 l (by omega)).2 (Classical.byContradiction h4)
         refine .inr (.inr ⟨uK l,uP l,(l.drop 11).take (uN l),l.drop (11 + uN l + 4),?_,?_,by omega,?_⟩)
         · rw [h5,List.take_append_drop]
         · have:=kA6 l; omega
         · rw [List.length_take]; omega
theorem xC5 (n:Nat) (s:Sd) (k p:Nat) (b x:List UInt8) (hk:k<=255) (hp:p<=1099511627776) (hb:b.length<=1048576) : rdA (n + 1) s (fr k p b ++ x) = (zH6 s k p b).bind fun s'=>(rdA n s' x).map fun r=>(r.1,b.length + 15 + r.2):=by
 have hd : (fr k p b ++ x).drop (b.length + 15) = x:=zM0 _ _ _ (zC0 k p b)
 rw [rdA,xP1 k p b x hk hp hb]
 simp only [ne_eq,not_true_eq_false,if_false,Int.toNat_natCast,hd]
 rw [if_neg (by omega)]
theorem xL0 (l:List UInt8) : ∀ (n m:Nat) (s:Sd),l.length < n->l.length < m->rdA n s l = rdA m s l:=by
 induction hl : l.length using Nat.strongRecOn generalizing l with
 | ind N ih =>
  intro n m s hn hm
  obtain ⟨n,rfl⟩ : ∃ q,n = q + 1:=⟨n - 1,by omega⟩
  obtain ⟨m,rfl⟩ : ∃ q,m = q + 1:=⟨m - 1,by omega⟩
  rcases zJ8 l with h | ⟨h,h'⟩ | ⟨k,p,b,x,rfl,h1,h2,h3⟩
  · rw [rdA,rdA,if_pos h,if_pos h]
  · simp [rdA,h,h']
  · rw [xC5 n s k p b x h1 h2 h3,xC5 m s k p b x h1 h2 h3]
    rw [List.length_append,zC0] at hl
    congr 1
    funext s'
    rw [ih x.length (by omega) x rfl n m s' (by omega) (by omega)]
theorem zK2 (s:Sd) (k p:Nat) (b x:List UInt8) (hk:k<=255) (hp:p<=1099511627776) (hb:b.length<=1048576) : rdF s (fr k p b ++ x) = (zH6 s k p b).bind fun s'=>(rdF s' x).map fun r=>(r.1,b.length + 15 + r.2):=by
 unfold rdF
 rw [xC5 _ s k p b x hk hp hb]
 congr 1
 funext s'
 rw [xL0 x _ (x.length + 1) s' (by rw [List.length_append,zC0]; omega) (by omega)]
theorem zY1 {s:Sd} {l:List UInt8} (h:(unf l).err ≠ 0) : rdF s l = none:=by unfold rdF; rw [rdA,if_pos h]
theorem zJ1 {s:Sd} {l:List UInt8} (h:(unf l).err = 0) (h':(unf l).used = 0) : rdF s l = some (s,0):=by unfold rdF; rw [rdA,if_neg (by simp [h]),if_pos h']
theorem zP8 (s:Sd) : rdF s [] = some (s,0):=zJ1 (by rfl) (by rfl)
theorem xK9 {s:Sd} {l:List UInt8} (h:(unf l).err = 0) (h':(unf l).used ≠ 0) : 15<=(unf l).used/\(unf l).used<=l.length/\0<=(unf l).kind/\0<=(unf l).place/\(unf l).place<=1099511627776/\(unf l).body.length<=1048576/\rdF s l = (zH6 s (unf l).kind (unf l).place (unf l).body).bind fun s'=>(rdF s' (l.drop (unf l).used.toNat)).map fun r=>(r.1,(unf l).used.toNat + r.2):=by
 rcases zJ8 l with g | ⟨_,g⟩ | ⟨k,p,b,x,rfl,h1,h2,h3⟩
 · exact absurd h g
 · exact absurd g h'
 · have hd : (fr k p b ++ x).drop (b.length + 15) = x:=zM0 _ _ _ (zC0 k p b)
   rw [zK2 s k p b x h1 h2 h3,xP1 k p b x h1 h2 h3]
   simp only [Int.toNat_natCast,hd,List.length_append,zC0]
   exact ⟨by omega,by omega,by omega,by omega,by omega,h3,trivial⟩
theorem zT0 : ∀ (a:List UInt8) (s s1:Sd) (b:List UInt8),rdF s a = some (s1,a.length)->rdF s (a ++ b) = (rdF s1 b).map fun r=>(r.1,a.length + r.2):=by
 intro a
 induction hl : a.length using Nat.strongRecOn generalizing a with
 | ind N ih =>
  intro s s1 b h
  subst hl
  rcases zJ8 a with g | ⟨g,g'⟩ | ⟨k,p,c,x,rfl,h1,h2,h3⟩
  · rw [zY1 g] at h; cases h
  · rw [zJ1 g g'] at h
    injection h with h
    injection h with e1 e2
    have : a = []:=List.length_eq_zero_iff.1 e2.symm
    subst this e1
    simp
  · rw [zK2 s k p c x h1 h2 h3] at h
    rw [List.append_assoc,zK2 s k p c (x ++ b) h1 h2 h3]
    cases ht : zH6 s k p c with
    | none=>rw [ht] at h; cases h
    | some s' =>
     rw [ht] at h
     simp only [Option.bind_some] at h ⊢
     cases hx : rdF s' x with
     | none=>rw [hx] at h; cases h
     | some r =>
      rw [hx] at h
      simp only [Option.map_some] at h
      injection h with h
      injection h with e1 e2
      rw [List.length_append,zC0] at e2
      have hr : r = (s1,x.length):=Prod.ext e1 (by simp only; omega)
      rw [ih x.length (by rw [List.length_append,zC0]; omega) x rfl s' s1 b (by rw [hx,hr])]
      rw [Option.map_map]
      congr 1
      funext r
      simp only [Function.comp,List.length_append,zC0,Nat.add_assoc]
theorem xP6 : ∀ (l:List UInt8) (s s1:Sd) (n:Nat),rdF s l = some (s1,n)->n<=l.length/\rdF s (l.take n) = some (s1,n):=by
 intro l
 induction hl : l.length using Nat.strongRecOn generalizing l with
 | ind N ih =>
  intro s s1 n h
  subst hl
  rcases zJ8 l with g | ⟨g,g'⟩ | ⟨k,p,c,x,rfl,h1,h2,h3⟩
  · rw [zY1 g] at h; cases h
  · rw [zJ1 g g'] at h
    cases h
    exact ⟨Nat.zero_le _,by rw [List.take_zero,zP8]⟩
  · rw [zK2 s k p c x h1 h2 h3] at h
    cases ht : zH6 s k p c with
    | none=>rw [ht] at h; cases h
    | some s' =>
     rw [ht] at h
     simp only [Option.bind_some] at h
     cases hx : rdF s' x with
     | none=>rw [hx] at h; cases h
     | some r =>
      rw [hx] at h
      obtain ⟨r1,r2⟩:=r
      simp only [Option.map_some] at h
      injection h with h
      injection h with e1 e2
      subst e1 e2
      obtain ⟨i1,i2⟩:=ih x.length (by rw [List.length_append,zC0]; omega) x rfl s' r1 r2 hx
      refine ⟨by rw [List.length_append,zC0]; omega,?_⟩
      rw [List.take_append,zC0,List.take_of_length_le (by rw [zC0]; omega),show c.length + 15 + r2 - (c.length + 15) = r2 by omega,zK2 s k p c _ h1 h2 h3,ht]
      simp only [Option.bind_some,i2,Option.map_some]
structure Okd (s:Sd) : Prop where
 t : okN s.t
 v : okN s.v
 no : s.sn = none->s.base = 0
 sn : ∀ b,s.sn = some b->okS b/\s.base = sI (dS b)
 base : okN s.base
 es : ∀ (i:Nat) (b:List UInt8),s.bs[i]? = some b->okE b/\eI (dE b) = s.base + 1 + i
theorem okd0 : Okd sd0:=⟨by decide,by decide,fun _=>rfl,fun b h=>(by cases h),by decide,fun i b h=>(by simp [sd0] at h)⟩
theorem yP0 (n:Int) (h:(enN n).2 = false) : -1099511627776<=n/\n<=1099511627776:=by
 unfold enN at h
 by_cases g : -1099511627776<=n/\n<=1099511627776
 · exact g
 · rw [if_neg g] at h; cases h
theorem zP4 {b:List UInt8} (h:okE b) : (en zA8 (dE b)).2 = false/\b = (en zA8 (dE b)).1:=by
 have:=xX6 zA8 b [] h
 rw [List.append_nil] at this
 exact this
theorem zY3 {b:List UInt8} (h:okS b) : (en zA2 (dS b)).2 = false/\b = (en zA2 (dS b)).1:=by
 have:=xX6 zA2 b [] h
 rw [List.append_nil] at this
 exact this
theorem zI3 {b:List UInt8} (h:okE b) : b.length<=7470:=by rw [(zP4 h).2]; exact xE4 _
theorem yO9 {b:List UInt8} (h:okS b) : b.length<=66334:=by rw [(zY3 h).2]; exact zU8 _
theorem xP8 {b:List UInt8} (h:okS b) : b ≠ []:=by
 rintro rfl
 revert h
 show ¬ (de zA2 (some [])).2 = some []
 rw [show (de zA2 (some [])).2 = none from by kernel_rfl]
 exact fun h=>by cases h
theorem yK8 {x:En} (h:(en zA8 x).2 = false) : okE (en zA8 x).1/\dE (en zA8 x).1 = x:=by
 have:=xY0 zA8 x [] h
 rw [List.append_nil] at this
 unfold dE
 show (de zA8 (some (en zA8 x).1)).2 = some []/\_
 rw [this]
 exact ⟨rfl,rfl⟩
theorem yU1 {x:Sn} (h:(en zA2 x).2 = false) : okS (en zA2 x).1/\dS (en zA2 x).1 = x:=by
 have:=xY0 zA2 x [] h
 rw [List.append_nil] at this
 unfold dS
 show (de zA2 (some (en zA2 x).1)).2 = some []/\_
 rw [this]
 exact ⟨rfl,rfl⟩
theorem xG0 {x:En} (h:(en zA8 x).2 = false) : eI x<=1099511627776:=by
 have h1 : ((enN x.1).2 || (en (.cat .num zD4) x.2).2) = false:=h
 rw [Bool.or_eq_false_iff] at h1
 exact (yP0 x.1 h1.1).2
theorem xJ5 {x:Sn} (h:(en zA2 x).2 = false) : sI x<=1099511627776:=by
 have h1 : ((enN x.1).2 || (en (.cat .num (.cat zB4 .byt)) x.2).2) = false:=h
 rw [Bool.or_eq_false_iff] at h1
 exact (yP0 x.1 h1.1).2
theorem zT1 {n:Int} (h:okN n) : enN n = (enc n,false):=by unfold enN; rw [if_pos ⟨by have:=h.1; omega,h.2⟩]
theorem yT3 {t v:Int} (ht:okN t) (hv:okN v) : okH (zE0 t v)/\dH (zE0 t v) = (t,v):=by
 have e : en zV1 (t,v) = (zE0 t v,false):=by
  show ((enN t).1 ++ (enN v).1,(enN t).2 || (enN v).2) = _
  rw [zT1 ht,zT1 hv]; rfl
 have:=xY0 zV1 (t,v) [] (by rw [e])
 rw [e,List.append_nil] at this
 simp only at this
 have h2 : dH (zE0 t v) = (t,v):=by unfold dH; rw [this]
 exact ⟨⟨by rw [this],by rw [h2]; exact ht,by rw [h2]; exact hv⟩,h2⟩
theorem xP9 {b:List UInt8} (h:okH b) : b = zE0 (dH b).1 (dH b).2:=by
 have:=(xX6 zV1 b [] h.1).2
 rw [List.append_nil] at this
 have e : en zV1 (dH b) = (zE0 (dH b).1 (dH b).2,false):=by
  show ((enN (dH b).1).1 ++ (enN (dH b).2).1,(enN (dH b).1).2 || (enN (dH b).2).2) = _
  rw [zT1 h.2.1,zT1 h.2.2]; rfl
 have e2 : (en zV1 (de zV1 (some b)).1).1 = zE0 (dH b).1 (dH b).2:=congrArg Prod.fst e
 rw [e2] at this
 exact this
theorem zH2 {t v:Int} (ht:okN t) (hv:okN v) : (zE0 t v).length<=12:=by
 unfold zE0
 rw [List.length_append]
 have:=zD5 t (by have:=ht.1; omega) ht.2
 have:=zD5 v (by have:=hv.1; omega) hv.2
 omega
theorem zV5 {s s':Sd} {kind place:Int} {b:List UInt8} (h:Okd s) (hp:0<=place) (e:zH6 s kind place b = some s') : Okd s':=by
 unfold zH6 at e
 split at e
 · unfold yA7 at e
   split at e
   · rename_i g
     cases e
     exact ⟨g.1.2.1,g.1.2.2,h.no,h.sn,h.base,h.es⟩
   · cases e
 · split at e
   · unfold zR0 at e
     split at e
     · rename_i g
       cases e
       obtain ⟨g1,g2,g3,g4⟩:=g
       refine ⟨h.t,h.v,h.no,h.sn,h.base,fun i c hi=>?_⟩
       simp only at hi ⊢
       have hlen : (s.bs.take (eI (dE b) - s.base - 1).toNat).length = (eI (dE b) - s.base - 1).toNat:=by rw [List.length_take]; omega
       by_cases hlt : i < (eI (dE b) - s.base - 1).toNat
       · rw [List.getElem?_append_left (by omega),List.getElem?_take,if_pos hlt] at hi
         exact h.es i c hi
       · rw [List.getElem?_append_right (by omega),hlen] at hi
         have hi0 : i - (eI (dE b) - s.base - 1).toNat = 0:=by
          have:=(List.getElem?_eq_some_iff.1 hi).1
          simp at this; omega
         rw [hi0] at hi
         simp at hi
         subst hi
         exact ⟨g1,by omega⟩
     · cases e
   · split at e
     · unfold yA6 at e
       split at e
       · rename_i g
         cases e
         refine ⟨h.t,h.v,fun hn=>(by cases hn),fun c hc=>?_,⟨by show 0<=sI (dS b); omega,?_⟩,fun i c hi=>(by simp at hi)⟩
         · cases hc; exact ⟨g.1,rfl⟩
         · exact xJ5 (zY3 g.1).1
       · cases e
     · cases e
def frE : Int->List (List UInt8)->List UInt8
 | _,[]=>[]
 | n,b :: r=>fr 2 n.toNat b ++ frE (n + 1) r
def frS (s:Sd) : List UInt8:=match s.sn with
 | none=>[]
 | some b=>fr 3 s.base.toNat b
def zC9 (s:Sd) : List UInt8:=fr 1 0 (zE0 s.t s.v) ++ frS s ++ frE (s.base + 1) s.bs
theorem yU0 (b:List UInt8) : ∀ (l:List (List UInt8)) (n:Int),frE n (l ++ [b]) = frE n l ++ fr 2 (n + l.length).toNat b:=by
 intro l
 induction l with
 | nil=>intro n; simp [frE]
 | cons a l ih =>
  intro n
  rw [List.cons_append,frE,ih,frE,List.append_assoc,List.length_cons]
  congr 3
  omega
def putB (s:Sd) (n:Int) (bs:List (List UInt8)) : Sd:=if bs = [] then s else ⟨s.t,s.v,s.sn,s.base,s.bs.take (n - s.base - 1).toNat ++ bs⟩
theorem zO6 (s:Sd) (n:Int) : putB s n [] = s:=if_pos rfl
def Cont (s:Sd) (n:Int) (bs:List (List UInt8)) : Prop:=(bs ≠ []->s.base < n/\n<=s.base + s.bs.length + 1)/\∀ (i:Nat) (b:List UInt8),bs[i]? = some b->okE b/\eI (dE b) = n + i
theorem yZ8 {s:Sd} {n:Int} {b:List UInt8} (h0:okE b) (h1:eI (dE b) = n) (h2:s.base < n) (h3:n<=s.base + s.bs.length + 1) : zH6 s 2 n b = some (putB s n [b]):=by
 unfold zH6 zR0 putB
 rw [if_neg (by decide),if_pos rfl,if_pos ⟨h0,h1.symm,by omega,by omega⟩,if_neg (by simp),h1]
theorem Cont.tail {s:Sd} {n:Int} {b:List UInt8} {r:List (List UInt8)} (_hb:okN s.base) (h:Cont s n (b :: r)) : Cont (putB s n [b]) (n + 1) r/\putB (putB s n [b]) (n + 1) r = putB s n (b :: r):=by
 obtain ⟨h1,h2⟩:=h
 obtain ⟨g1,g2⟩:=h1 (by simp)
 have e1 : putB s n [b] = ⟨s.t,s.v,s.sn,s.base,s.bs.take (n - s.base - 1).toNat ++ [b]⟩:=if_neg (by simp)
 have hl : (s.bs.take (n - s.base - 1).toNat).length = (n - s.base - 1).toNat:=by rw [List.length_take]; omega
 have hlN : (n - s.base - 1).toNat<=s.bs.length:=by omega
 refine ⟨⟨fun _=>?_,fun i c hi=>?_⟩,?_⟩
 · rw [e1]
   simp only [List.length_append,List.length_take,List.length_singleton]
   omega
 · have:=h2 (i + 1) c (by simpa using hi)
   exact ⟨this.1,by omega⟩
 · rw [e1]
   unfold putB
   by_cases hr : r = []
   · subst hr
     rw [if_pos rfl,if_neg (by simp)]
   · rw [if_neg hr,if_neg (by simp)]
     simp only
     congr 1
     rw [List.take_of_length_le (by rw [List.length_append,hl]; simp; omega),List.append_assoc]
     rfl
theorem xL4 {b:List UInt8} {n:Int} (h:okE b) (h1:eI (dE b) = n) : n<=1099511627776:=by rw [<- h1]; exact xG0 (zP4 h).1
theorem xC4 (x:List UInt8) : ∀ (bs:List (List UInt8)) (s:Sd) (n:Int),okN s.base->Cont s n bs->rdF s (frE n bs ++ x) = (rdF (putB s n bs) x).map fun r=>(r.1,(frE n bs).length + r.2):=by
 intro bs
 induction bs with
 | nil =>
  intro s n hb h
  rw [zO6]
  simp [frE]
 | cons b r ih =>
  intro s n hb h
  obtain ⟨h1,h2⟩:=h.1 (by simp)
  have h3:=h.2 0 b rfl
  simp only [Int.natCast_zero,Int.add_zero] at h3
  have hn:=xL4 h3.1 h3.2
  have hlen:=zI3 h3.1
  rw [frE,List.append_assoc,zK2 s 2 n.toNat b _ (by omega) (by omega) (by omega)]
  have hb0:=hb.1
  rw [show ((n.toNat:Nat) : Int) = n by omega,show ((2:Nat) : Int) = 2 from rfl,yZ8 h3.1 h3.2 h1 h2]
  obtain ⟨c1,c2⟩:=h.tail hb
  have hbb : okN (putB s n [b]).base:=by unfold putB; rw [if_neg (by simp)]; exact hb
  rw [Option.bind_some,ih (putB s n [b]) (n + 1) hbb c1,c2,Option.map_map]
  congr 1
  funext q
  simp only [Function.comp,List.length_append,zC0,Nat.add_assoc]
theorem xK8 : ∀ (bs:List (List UInt8)) (s:Sd) (n:Int) (c:Nat),okN s.base->Cont s n bs->∃ j,j<=bs.length/\rdF s ((frE n bs).take c) = some (putB s n (bs.take j),(frE n (bs.take j)).length)/\(frE n (bs.take j)).length<=c:=by
 intro bs
 induction bs with
 | nil =>
  intro s n c hb h
  refine ⟨0,Nat.le_refl _,?_,Nat.zero_le _⟩
  rw [frE,List.take_nil,zP8]
  simp [zO6,frE]
 | cons b r ih =>
  intro s n c hb h
  obtain ⟨h1,h2⟩:=h.1 (by simp)
  have h3:=h.2 0 b rfl
  simp only [Int.natCast_zero,Int.add_zero] at h3
  have hn:=xL4 h3.1 h3.2
  have hlen:=zI3 h3.1
  have hb0:=hb.1
  by_cases hc : c < b.length + 15
  · refine ⟨0,Nat.zero_le _,?_,Nat.zero_le _⟩
    rw [frE,List.take_append_of_le_length (by rw [zC0]; omega)]
    have:=yR5 2 n.toNat b c (by omega) (by omega) hc
    rw [zJ1 (by rw [this]) (by rw [this])]
    simp [zO6,frE]
  · obtain ⟨c1,c2⟩:=h.tail hb
    have hbb : okN (putB s n [b]).base:=by unfold putB; rw [if_neg (by simp)]; exact hb
    obtain ⟨j,j1,j2,j3⟩:=ih (putB s n [b]) (n + 1) (c - (b.length + 15)) hbb c1
    refine ⟨j + 1,by simpa using j1,?_,?_⟩
    · rw [frE,List.take_append,zC0,List.take_of_length_le (by rw [zC0]; omega),zK2 s 2 n.toNat b _ (by omega) (by omega) (by omega),show ((n.toNat:Nat) : Int) = n by omega,show ((2:Nat) : Int) = 2 from rfl,yZ8 h3.1 h3.2 h1 h2,Option.bind_some,j2,Option.map_some]
      have c3 : putB (putB s n [b]) (n + 1) (r.take j) = putB s n ((b :: r).take (j + 1)):=by
       rw [List.take_succ_cons]
       refine (Cont.tail hb ⟨fun _=>⟨h1,h2⟩,fun i q hi=>h.2 i q ?_⟩).2
       cases i with
       | zero=>exact hi
       | succ i =>
        simp only [List.getElem?_cons_succ,List.getElem?_take] at hi ⊢
        split at hi
        · exact hi
        · cases hi
      rw [c3,List.take_succ_cons,frE,List.length_append,zC0]
    · rw [List.take_succ_cons,frE,List.length_append,zC0]
      omega
def yB1 (t v:Int) (n:Int) (bs:List (List UInt8)) : List UInt8:=fr 1 0 (zE0 t v) ++ frE n bs
def setH (s:Sd) (t v:Int) : Sd:=⟨t,v,s.sn,s.base,s.bs⟩
theorem yL5 {s:Sd} {n:Int} {bs:List (List UInt8)} (h:Cont s n bs) (t v:Int) : Cont (setH s t v) n bs:=h
theorem yN2 {s:Sd} {t v:Int} (ht:okN t) (hv:okN v) : zH6 s 1 0 (zE0 t v) = some (setH s t v):=by
 obtain ⟨h1,h2⟩:=yT3 ht hv
 unfold zH6 yA7
 rw [if_pos rfl,if_pos ⟨h1,rfl⟩,h2]; rfl
theorem yS8 {s:Sd} {t v n:Int} {bs:List (List UInt8)} (ht:okN t) (hv:okN v) (hb:okN s.base) (h:Cont s n bs) : rdF s (yB1 t v n bs) = some (putB (setH s t v) n bs,(yB1 t v n bs).length):=by
 have hl:=zH2 ht hv
 have hE:=xC4 [] bs (setH s t v) n hb (yL5 h t v)
 rw [List.append_nil,zP8] at hE
 unfold yB1
 rw [zK2 s 1 0 _ _ (by omega) (by omega) (by omega),show ((1:Nat) : Int) = 1 from rfl,show ((0:Nat) : Int) = 0 from rfl,yN2 ht hv,Option.bind_some,hE]
 simp only [Option.map_some,List.length_append,zC0,Nat.add_zero]
theorem xC3 {s:Sd} {t v n:Int} {bs:List (List UInt8)} (ht:okN t) (hv:okN v) (hb:okN s.base) (h:Cont s n bs) (c:Nat) :
    rdF s ((yB1 t v n bs).take c) = some (s,0)\/∃ j k,j<=bs.length/\rdF s ((yB1 t v n bs).take c) = some (putB (setH s t v) n (bs.take j),k):=by
 have hl:=zH2 ht hv
 unfold yB1
 by_cases hc : c < (zE0 t v).length + 15
 · refine .inl ?_
   rw [List.take_append_of_le_length (by rw [zC0]; omega)]
   have:=yR5 1 0 (zE0 t v) c (by omega) (by omega) hc
   exact zJ1 (by rw [this]) (by rw [this])
 · obtain ⟨j,j1,j2,j3⟩:=xK8 bs (setH s t v) n (c - ((zE0 t v).length + 15)) hb (yL5 h t v)
   refine .inr ⟨j,(zE0 t v).length + 15 + (frE n (bs.take j)).length,j1,?_⟩
   rw [List.take_append,zC0,List.take_of_length_le (by rw [zC0]; omega),zK2 s 1 0 _ _ (by omega) (by omega) (by omega),show ((1:Nat) : Int) = 1 from rfl,show ((0:Nat) : Int) = 0 from rfl,yN2 ht hv,Option.bind_some,j2,Option.map_some]
theorem xT3 {s:Sd} {b:List UInt8} {n:Int} (h:okS b) (e:n = sI (dS b)) : zH6 s 3 n b = some ⟨s.t,s.v,some b,n,[]⟩:=by
 unfold zH6 yA6
 rw [if_neg (by decide),if_neg (by decide),if_pos rfl,if_pos ⟨h,e⟩,e]
theorem Okd.cont {s:Sd} (h:Okd s) : Cont ⟨s.t,s.v,s.sn,s.base,[]⟩ (s.base + 1) s.bs:=⟨fun _=>⟨by show s.base < _; omega,by show _<=s.base + ((0:Nat) : Int) + 1; omega⟩,h.es⟩
theorem xL2 {s:Sd} : putB ⟨s.t,s.v,s.sn,s.base,[]⟩ (s.base + 1) s.bs = s:=by
 unfold putB
 split
 · rename_i e
   cases s; simp only at e; rw [e]
 · simp
theorem zK1 {s:Sd} (h:Okd s) : rdF sd0 (zC9 s) = some (s,(zC9 s).length):=by
 have hl:=zH2 h.t h.v
 have hE:=xC4 [] s.bs ⟨s.t,s.v,s.sn,s.base,[]⟩ (s.base + 1) h.base h.cont
 rw [List.append_nil,zP8,xL2] at hE
 have h0:=h.base
 unfold zC9
 rw [List.append_assoc,zK2 sd0 1 0 _ _ (by omega) (by omega) (by omega),show ((1:Nat) : Int) = 1 from rfl,show ((0:Nat) : Int) = 0 from rfl,yN2 h.t h.v,Option.bind_some]
 cases hs : s.sn with
 | none =>
  have hb:=h.no hs
  have e : setH sd0 s.t s.v = ⟨s.t,s.v,s.sn,s.base,[]⟩:=by unfold setH; rw [hs,hb]; rfl
  unfold frS
  rw [hs,List.nil_append,e,hE]
  simp [zC0]
 | some b =>
  obtain ⟨h1,h2⟩:=h.sn b hs
  have hlb:=yO9 h1
  unfold frS
  rw [hs]
  simp only
  rw [zK2 _ 3 s.base.toNat b _ (by omega) (by omega) (by omega),show ((s.base.toNat:Nat) : Int) = s.base by omega,show ((3:Nat) : Int) = 3 from rfl,xT3 h1 h2,Option.bind_some]
  have e : (⟨(setH sd0 s.t s.v).t,(setH sd0 s.t s.v).v,some b,s.base,[]⟩ : Sd) = ⟨s.t,s.v,s.sn,s.base,[]⟩:=by rw [hs]; rfl
  rw [e,hE]
  simp [zC0,Nat.add_assoc]
theorem xC6 {s:Sd} {n:Int} {bs:List (List UInt8)} (h:Okd s) (hc:Cont s n bs) : Okd (putB s n bs):=by
 unfold putB
 split
 · exact h
 · rename_i hne
   obtain ⟨h1,h2⟩:=hc.1 hne
   refine ⟨h.t,h.v,h.no,h.sn,h.base,fun i b hi=>?_⟩
   simp only at hi ⊢
   have hlen : (s.bs.take (n - s.base - 1).toNat).length = (n - s.base - 1).toNat:=by rw [List.length_take]; omega
   by_cases hlt : i < (n - s.base - 1).toNat
   · rw [List.getElem?_append_left (by omega),List.getElem?_take,if_pos hlt] at hi
     exact h.es i b hi
   · rw [List.getElem?_append_right (by omega),hlen] at hi
     have:=hc.2 _ b hi
     exact ⟨this.1,by omega⟩
theorem xC2 : ∀ (l:List UInt8) (s s1:Sd) (n:Nat),Okd s->rdF s l = some (s1,n)->Okd s1:=by
 intro l
 induction hl : l.length using Nat.strongRecOn generalizing l with
 | ind N ih =>
  intro s s1 n hs h
  subst hl
  rcases zJ8 l with g | ⟨g,g'⟩ | ⟨k,p,c,x,rfl,h1,h2,h3⟩
  · rw [zY1 g] at h; cases h
  · rw [zJ1 g g'] at h
    cases h
    exact hs
  · rw [zK2 s k p c x h1 h2 h3] at h
    cases ht : zH6 s k p c with
    | none=>rw [ht] at h; cases h
    | some s' =>
     rw [ht] at h
     simp only [Option.bind_some] at h
     cases hx : rdF s' x with
     | none=>rw [hx] at h; cases h
     | some r =>
      rw [hx] at h
      obtain ⟨r1,r2⟩:=r
      simp only [Option.map_some] at h
      injection h with h
      injection h with e1 e2
      subst e1
      exact ih x.length (by rw [List.length_append,zC0]; omega) x rfl s' r1 r2 (zV5 hs (by omega) ht) hx
end
section
open Go.RowKit
theorem hidN {p:Prop} (h:p) : Hid p:=h
def nbI (n:Int) : Bool:=decide ((97<=n/\n<=122)\/(48<=n/\n<=57)\/n = 46\/n = 45)
theorem zU6 (n:Int) (w:World) (h0:0<=n) (h1:n < 256) : Calls Tryz.prog 78 #[.int .u8 n] w fun e w'=>e = .returned (.bool (nbI n))/\w' = w:=by
 by_cases a : 97<=n
 · by_cases b : n<=122
   · have e : nbI n = true:=by unfold nbI; simp; omega
     rw [e]
     go_enter Tryz.func78,Tryz.ntmps78
     go_wp2
     go_ret
     exact ⟨rfl,rfl⟩
   · have e : nbI n = false:=by unfold nbI; simp; omega
     rw [e]
     have p : (n == 46) = false:=by simp; omega
     have q : (n == 45) = false:=by simp; omega
     have r : decide (n<=57) = false:=by simp; omega
     go_enter Tryz.func78,Tryz.ntmps78
     go_wp2
     go_ret
     exact ⟨rfl,rfl⟩
 · by_cases c : 48<=n
   · by_cases d : n<=57
     · have e : nbI n = true:=by unfold nbI; simp; omega
       rw [e]
       go_enter Tryz.func78,Tryz.ntmps78
       go_wp2
       go_ret
       exact ⟨rfl,rfl⟩
     · have e : nbI n = false:=by unfold nbI; simp; omega
       rw [e]
       have p : (n == 46) = false:=by simp; omega
       have q : (n == 45) = false:=by simp; omega
       go_enter Tryz.func78,Tryz.ntmps78
       go_wp2
       go_ret
       exact ⟨rfl,rfl⟩
   · by_cases d : n = 46
     · subst d
       go_enter Tryz.func78,Tryz.ntmps78
       go_wp2
       go_ret
       exact ⟨rfl,rfl⟩
     · by_cases f : n = 45
       · subst f
         go_enter Tryz.func78,Tryz.ntmps78
         go_wp2
         go_ret
         exact ⟨rfl,rfl⟩
       · have e : nbI n = false:=by unfold nbI; simp; omega
         rw [e]
         have p : (n == 46) = false:=by simp; omega
         have q : (n == 45) = false:=by simp; omega
         go_enter Tryz.func78,Tryz.ntmps78
         go_wp2
         go_ret
         exact ⟨rfl,rfl⟩
def zE6 (l:List UInt8) : Bool:=decide (1<=l.length/\l.length<=32) && l.all fun x=>nbI (x.toNat:Int)
theorem xL9 {l:List UInt8} (h:∀ x ∈ l,nbI (x.toNat:Int) = true) (h1:1<=l.length) (h2:l.length<=32) : zE6 l = true:=by
 unfold zE6
 simp only [Bool.and_eq_true,decide_eq_true_eq,List.all_eq_true]
 exact ⟨⟨h1,h2⟩,h⟩
theorem xL8 {l:List UInt8} {k:Nat} {x:UInt8} (hk:l[k]? = some x) (h:nbI (x.toNat:Int) = false) : zE6 l = false:=by
 unfold zE6
 rw [Bool.and_eq_false_iff]
 right
 rw [List.all_eq_false]
 exact ⟨x,List.mem_of_getElem? hk,by simp [h]⟩
theorem zO9 (s:ByteArray) (w:World) : Calls Tryz.prog 47 #[.string s] w fun e w'=>e = .returned (.bool (zE6 s.data.toList))/\w' = w:=by
 have hlen : s.data.toList.length = s.size:=rfl
 by_cases a : s.size < 1
 · have e : zE6 s.data.toList = false:=by unfold zE6; rw [hlen]; simp; omega
   rw [e]
   go_enter Tryz.func47,Tryz.ntmps47
   go_wp2
   go_ret
   exact ⟨rfl,rfl⟩
 · by_cases b : 32 < s.size
   · have e : zE6 s.data.toList = false:=by unfold zE6; rw [hlen]; simp; omega
     rw [e]
     go_enter Tryz.func47,Tryz.ntmps47
     go_wp2
     go_ret
     exact ⟨rfl,rfl⟩
   · have b2 : s.size<=32:=by omega
     have a2 : 1<=s.size:=by omega
     have HL:=hidN hlen
     clear hlen
     go_enter Tryz.func47,Tryz.ntmps47
     go_wp2_with fail
     go_loopw [14] (fun i wr=>wr = w/\∃ k : Nat,k<=s.size/\i = .int .i64 (k:Int)/\Hid (∀ j x,j < k->s.data.toList[j]? = some x->nbI (x.toNat:Int) = true)) (fun i _=>s.size - (intOf i).toNat)
     case atStart=>exact ⟨rfl,0,Nat.zero_le _,rfl,fun j x hj=>by omega⟩
     case round =>
      obtain ⟨rfl,k,hk,rfl,HK⟩:=hrel
      by_cases hlt : k < s.size
      · have hiz : (k:Int) < (s.size:Int):=by omega
        obtain ⟨x,hx⟩ : ∃ x : UInt8,s[k] = x:=⟨_,rfl⟩
        have HX : Hid (s.data.toList[k]? = some x):=by show _ = _; rw [<- hx]; rw [Array.getElem?_toList]; exact Array.getElem?_eq_getElem hlt
        have hx256 : (x.toNat:Int) < 256:=by have:=x.toNat_lt; omega
        cases hb : nbI (x.toNat:Int) with
        | true =>
         have HB:=hidN hb
         clear hb
         go_wp2_with fail
         refine (zU6 (x.toNat:Int) _ (by omega) hx256).mono ?_
         rintro e w1 ⟨rfl,hw⟩
         subst hw
         rw [HB.out]
         go_wp2
         refine ⟨⟨trivial,k + 1,by omega,by go_num,fun j y hj hy=>?_⟩,by simp [intOf]; omega⟩
         by_cases hjk : j < k
         · exact HK.out j y hjk hy
         · have : j = k:=by omega
           subst this
           rw [HX.out] at hy
           cases hy
           exact HB.out
        | false =>
         have HB:=hidN hb
         clear hb
         have HE : Hid (zE6 s.data.toList = false):=xL8 HX.out HB.out
         go_wp2_with fail
         refine (zU6 (x.toNat:Int) _ (by omega) hx256).mono ?_
         rintro e w1 ⟨rfl,hw⟩
         subst hw
         rw [HB.out]
         go_wp2
         go_ret
         exact ⟨by rw [HE.out]; rfl,rfl⟩
      · have hge : s.size<=k:=by omega
        have HE : Hid (zE6 s.data.toList = true):=xL9 (fun x hx=>by
         obtain ⟨j,hj⟩:=List.getElem?_of_mem hx
         have hjl:=(List.getElem?_eq_some_iff.1 hj).1
         rw [HL.out] at hjl
         exact HK.out j x (by omega) hj) (by rw [HL.out]; exact a2) (by rw [HL.out]; exact b2)
        go_wp2
        go_ret
        exact ⟨by rw [HE.out]; rfl,rfl⟩
end
section
open Go.RowKit Go.Maps
def RV (v:Value) : Option (DataW Value × List MemPlace):=some (.held v,[])
theorem law9 : Keyed Tryz.prog 9:=string_keyed Tryz.underlying9
def MapR (w:World) (b n:Nat) (D:DataW Value) : Prop:=w.ownsMap Tryz.prog 9 RV b n D
def kOf (s:ByteArray) : Lit:=.string s.data.toList
theorem yC4 (s:ByteArray) (h:s.size<=maxLen) : keyOf Tryz.prog 9 (.string s) = some (kOf s):=Go.WideMaps.keyOf_string_mk Tryz.underlying9 h
def DskB (w:World) (p bF bD:Nat) (dn:Value) (left:Int) : Prop:=w.heap[p]? = some (.cells #[.map (some bF),.map (some bD),dn,.int .i64 left] 83 (0,0))
theorem DskB.c0 {w:World} {p bF bD:Nat} {dn:Value} {left:Int} (h:DskB w p bF bD dn left) : w.cell? ⟨p,0,none⟩ = some (.map (some bF)):=by rw [cell_of_row w p 0 _ 83 (0,0) h]; rfl
theorem DskB.c1 {w:World} {p bF bD:Nat} {dn:Value} {left:Int} (h:DskB w p bF bD dn left) : w.cell? ⟨p,1,none⟩ = some (.map (some bD)):=by rw [cell_of_row w p 1 _ 83 (0,0) h]; rfl
theorem DskB.c2 {w:World} {p bF bD:Nat} {dn:Value} {left:Int} (h:DskB w p bF bD dn left) : w.cell? ⟨p,2,none⟩ = some dn:=by rw [cell_of_row w p 2 _ 83 (0,0) h]; rfl
theorem DskB.c3 {w:World} {p bF bD:Nat} {dn:Value} {left:Int} (h:DskB w p bF bD dn left) : w.cell? ⟨p,3,none⟩ = some (.int .i64 left):=by rw [cell_of_row w p 3 _ 83 (0,0) h]; rfl
theorem DskB.lt {w:World} {p bF bD:Nat} {dn:Value} {left:Int} (h:DskB w p bF bD dn left) : p < w.heap.size:=(Array.getElem?_eq_some_iff.1 h).1
theorem DskB.fr {w:World} {p bF bD:Nat} {dn:Value} {left:Int} (h:DskB w p bF bD dn left) (o:Nat) : w.frozen? ⟨p,o,none⟩ = false:=by
 have h' : w.heap[p]? = _:=h
 simp [World.frozen?,h']
theorem zZ1 (p bF bD:Nat) (dn:Value) (left:Int) (w:World) (h:DskB w p bF bD dn left) : Calls Tryz.prog 32 #[.pointer (some ⟨p,0,none⟩)] w fun e w'=>e = .returned (.bool (decide (left = 0)))/\w' = w:=by
 have c3:=h.c3
 have hp:=h.lt
 clear h
 by_cases hl : left = 0
 · subst hl
   go_enter Tryz.func32,Tryz.ntmps32
   go_wp2
   go_ret
   exact ⟨rfl,rfl⟩
 · have e : decide (left = 0) = false:=by simp [hl]
   have e2 : (left == 0) = false:=by simp [hl]
   rw [e]
   go_enter Tryz.func32,Tryz.ntmps32
   go_wp2
   go_ret
   exact ⟨rfl,rfl⟩
theorem yL1 {w:World} {p bF bD:Nat} {dn:Value} {left:Int} (h:DskB w p bF bD dn left) (n:Int) : DskB (w.setCell ⟨p,3,none⟩ (.int .i64 n)) p bF bD dn n:=by
 have h' : w.heap[p]? = _:=h
 show _ = _
 rw [heap_setCell_same w p 3 _ 83 _ h']
 rfl
theorem kF1 (p:Nat) (n:Int) (w:World) (h:n < 0\/1099511627776 < n) : Calls Tryz.prog 21 #[.pointer (some ⟨p,0,none⟩),.int .i64 n] w fun e w'=>e = .returned (.int .i64 1)/\w' = w:=by
 rcases h with h | h
 · go_enter Tryz.func21,Tryz.ntmps21
   go_wp2
   go_ret
   exact ⟨rfl,rfl⟩
 · have h2 : ¬ n < 0:=by omega
   go_enter Tryz.func21,Tryz.ntmps21
   go_wp2
   go_ret
   exact ⟨rfl,rfl⟩
theorem kF0 (p bF bD:Nat) (dn:Value) (left n:Int) (w:World) (hd:DskB w p bF bD dn left) (h0:0<=n) (h1:n<=1099511627776) : Calls Tryz.prog 21 #[.pointer (some ⟨p,0,none⟩),.int .i64 n] w fun e w'=>e = .returned (.int .i64 0)/\w' = w.setCell ⟨p,3,none⟩ (.int .i64 n):=by
 have c3:=hd.c3
 have f3:=hd.fr 3
 have hp:=hd.lt
 clear hd
 go_enter Tryz.func21,Tryz.ntmps21
 go_wp2
 go_ret
 exact ⟨rfl,rfl⟩
theorem zJ2 (p bF bD:Nat) (dn:Value) (left:Int) (w:World) (hd:DskB w p bF bD dn left) (hb:left<=1099511627776) : Calls Tryz.prog 35 #[.pointer (some ⟨p,0,none⟩)] w fun e w'=>e = .returned (.tuple #[])/\w' = (if 0 < left then w.setCell ⟨p,3,none⟩ (.int .i64 (left - 1)) else w):=by
 have c3:=hd.c3
 have f3:=hd.fr 3
 have hp:=hd.lt
 clear hd
 by_cases hl : 0 < left
 · rw [if_pos hl]
   go_enter Tryz.func35,Tryz.ntmps35
   go_wp2
   go_end0
   exact ⟨rfl,rfl⟩
 · rw [if_neg hl]
   go_enter Tryz.func35,Tryz.ntmps35
   go_wp2
   go_end0
   exact ⟨rfl,rfl⟩
theorem xE7 (p bF bD n:Nat) (D:DataW Value) (dn:Value) (left:Int) (s:ByteArray) (w:World) (hd:DskB w p bF bD dn left) (hm:MapR w bF n D) (hs:s.size<=maxLen) : Calls Tryz.prog 55 #[.pointer (some ⟨p,0,none⟩),.string s] w fun e w'=>e = .returned (.bool (Maps.has D (kOf s)))/\w' = w:=by
 have c0:=hd.c0
 have hp:=hd.lt
 obtain ⟨v,ps,hrun,hv⟩:=World.ownsMap.look_ok (t:=80) (e:=22) hm law9 Tryz.underlying80 (z:=.slice none 0 0) (Tryz.zeroValue22 w) (zd:=.held (.slice none 0 0)) (zp:=[]) rfl (yC4 s hs)
 clear hd hm hv
 go_enter Tryz.func55,Tryz.ntmps55
 go_wp2
 go_ret
 exact ⟨rfl,rfl⟩
end
end Go.Proofs.YtocoimjhglackaaGreat
