/- Fram, Unfr, Read, Ufr, Torn, Decm, Wnum, Wzer, Putz, Rnum, Rzer, Getz -/
import Derived.Test.YtocoimjhglackaaGreatK00
set_option maxHeartbeats 8000000
set_option maxRecDepth 100000
namespace Go.Proofs.YtocoimjhglackaaGreat
section
open Go.RowKit
def fr0 (k p:Nat) (b:List UInt8) : List UInt8:=hb b.length 4 ++ (hb k 1 ++ (hb p 6 ++ b))
def fr (k p:Nat) (b:List UInt8) : List UInt8:=fr0 k p b ++ lo4 (nsum (fr0 k p b))
theorem zP1 (k p:Nat) (b:List UInt8) : (fr0 k p b).length = b.length + 11:=by simp only [fr0,List.length_append,zE1]; omega
theorem zC0 (k p:Nat) (b:List UInt8) : (fr k p b).length = b.length + 15:=by simp only [fr,List.length_append,zP1]; rfl
theorem made (n:Nat) (h:n<=1048576) : ∃ cs : Array Value,cs.size = n + 15/\∀ w : World,(Instr.makeSlice 22 (.int .i64 0) (.int .i64 (11 + (n:Int) + 4))).run Tryz.prog w = .ok (.slice (some ⟨w.heap.size,0,none⟩) 0 (n + 15)) (w.alloc (.cells cs 5)):=by
 obtain ⟨i,hi,hz0,hz1,hz2⟩:=info_parts Tryz.info5
 refine ⟨madeCells (Value.int .u8 0).cells ((11 + (n:Int) + 4).toNat * i.size),?_,fun w=>?_⟩
 · rw [size_madeCells,hz1]; omega
 · have:=run_make (P:=Tryz.prog) w 22 5 i (.int .u8 0) Tryz.underlying22 hi hz0 .i64 .i64 0 (11 + (n:Int) + 4) (by omega) (by omega) (by rw [hz2]; omega) (by omega)
   rw [this]
   have e : (11 + (n:Int) + 4).toNat = n + 15:=by omega
   rw [e]; rfl
theorem xL3 (w:World) (cs:Array Value) (n:Nat) (h:n<=1048576) (hs:cs.size = n + 15) : Own (w.alloc (.cells cs 5)) (.slice (some ⟨w.heap.size,0,none⟩) 0 (n + 15)) [] :=
 .inr ⟨w.heap.size,n + 15,cs,rfl,heap_alloc_new w _,by simp,by unfold maxLen; omega,hs,by simp [vals]⟩
def okF (kind place:Int) (n:Nat) : Prop:=0<=kind/\kind<=255/\0<=place/\place<=1099511627776/\n<=1048576
theorem xN1 (kind place:Int) (a:Option Addr) (n cap:Nat) (l:List UInt8) (w:World) (hn:n = l.length) (h:Bs w a l) (hok:okF kind place n) :
    Calls Tryz.prog 141 #[.int .i64 kind,.int .i64 place,.slice a n cap] w fun e w'=>∃ v',e = .returned (.tuple #[v',.int .i64 0])/\Own w' v' (fr kind.toNat place.toNat l)/\Stp w w' none v'.ownBlock:=by
 obtain ⟨k0,k1,p0,p1,n1⟩:=hok
 obtain ⟨cs,hcs,hmk⟩:=made n n1
 have HN : Hid (n = l.length):=hn
 clear hn
 go_enter Tryz.func141,Tryz.ntmps141
 have st0 : Stp w (w.alloc (.cells cs 5)) none (some w.heap.size):=⟨rfl,rfl,rfl,by simp,fun k hk _=>Below.heap_alloc w _ k hk,.inr ⟨_,rfl,Nat.le_refl _⟩⟩
 go_wp2_with fail
 refine (zJ5 _ [] _ _ _ (by omega) (by omega) (by omega) (by simp) (xL3 w cs n n1 hcs)).mono ?_
 rintro e w1 ⟨v1,rfl,o1,s1⟩
 have st1:=st0.trans s1
 rw [Int.toNat_natCast] at o1
 go_wp2_with fail
 refine (zJ5 v1 _ _ _ _ k0 (by omega) (by omega) (by simp [zE1]) o1).mono ?_
 rintro e w2 ⟨v2,rfl,o2,s2⟩
 have st2:=st1.trans s2
 go_wp2_with fail
 refine (zJ5 v2 _ _ _ _ p0 (by omega) (by omega) (by simp [zE1]) o2).mono ?_
 rintro e w3 ⟨v3,rfl,o3,s3⟩
 have st3:=st2.trans s3
 have hbs : Bs w3 a l:=h.grow (st3.below _ (Nat.le_refl _) (fun k hk=>by cases hk))
 have hsrc:=hbs.src (P:=Tryz.prog) Tryz.underlying22 cap
 rw [<- HN.out] at hsrc
 go_wp2_with (at_builtin; refine zC3 _ rfl (.tmp 43) (.tmp 44) rfl _ _ rfl o3 _ l rfl ?src ?len ?k)
 case src=>rw [<- HN.out]; exact hsrc
 case len=>have:=HN.out; simp only [List.length_append,zE1,List.length_nil]; omega
 case k =>
  intro v4 w4 o4 s4
  have st4:=st3.trans s4
  have hfr : hb n 4 ++ (hb kind.toNat 1 ++ (hb place.toNat 6 ++ l)) = fr0 kind.toNat place.toNat l:=by rw [HN.out]; rfl
  rw [hfr] at o4
  clear hfr
  go_wp2_with fail
  refine (yG6 v4 _ _ (by rw [zP1,<- HN.out]; omega) o4).mono ?_
  rintro e w5 ⟨v5,rfl,o5,s5⟩
  have st5:=st4.trans s5
  go_wp2
  go_ret2
  exact ⟨v5,rfl,o5,st5⟩
end
section
open Go.RowKit
structure Five where
 kind : Int
 place : Int
 body : List UInt8
 used : Int
 err : Int
def uK (l:List UInt8) : Nat:=hi ((l.drop 4).take 1)
def uP (l:List UInt8) : Nat:=hi ((l.drop 5).take 6)
def uN (l:List UInt8) : Nat:=hi (l.take 4)
def unf (l:List UInt8) : Five :=
 if l.length < 11 then ⟨0,0,[],0,0⟩
 else if 1048576 < uN l\/1099511627776 < uP l then ⟨0,0,[],0,10⟩
 else if l.length < 11 + uN l + 4 then ⟨0,0,[],0,0⟩
 else if (l.drop (11 + uN l)).take 4 ≠ lo4 (nsum (l.take (11 + uN l))) then ⟨0,0,[],0,10⟩
 else ⟨uK l,uP l,(l.drop 11).take (uN l),((11 + uN l + 4 : Nat) : Int),0⟩
def kF6 (w w':World) (e:Ending) (r:Five) : Prop :=
 ∃ v,e = .returned (.tuple #[.int .i64 r.kind,.int .i64 r.place,v,.int .i64 r.used,.int .i64 r.err])/\Own w' v r.body/\Stp w w' none v.ownBlock
theorem zQ8 (w:World) (x:Int) (n:Nat) : kF6 w (w.drewN n) (.returned (.tuple #[.int .i64 0,.int .i64 0,.slice none 0 0,.int .i64 0,.int .i64 x])) ⟨0,0,[],0,x⟩ :=
 ⟨_,rfl,.inl ⟨rfl,rfl⟩,(Stp.refl _ _).drewN n⟩
theorem zS9 (a:Option Addr) (n cap:Nat) (l:List UInt8) (w:World) (hn:n = l.length) (h11:11<=n) (hcap:n<=cap) (h:Bs w a l) :
    Calls Tryz.prog 94 #[.slice a n cap] w fun e w'=>e = .returned (.tuple #[.int .i64 ((uN l:Nat) : Int),.int .i64 ((uK l:Nat) : Int),.int .i64 ((uP l:Nat) : Int)])/\∃ nq,w' = w.drewN nq :=
 yI7 a n cap l w hn h11 hcap h
theorem kG7 (l:List UInt8) : uN l < 281474976710656:=xQ6 _ (by simp; omega)
theorem kG6 (l:List UInt8) : uP l < 281474976710656:=xQ6 _ (by simp; omega)
theorem kA6 (l:List UInt8) : uK l < 256:=yF2 _ 1 (by simp; omega)
theorem Tryz.elem22 : Tryz.prog.underlying 22 = some (.slice (Tryz.prog.elem 22)):=by kernel_rfl
theorem Tryz.size5 (w:World) : (sizeOf (Tryz.prog.elem 22)).run Tryz.prog w = .ok 1 w:=by
 obtain ⟨i,hi,hz0,hz1,hz2⟩:=info_parts Tryz.info5
 have e : Tryz.prog.elem 22 = 5:=by kernel_rfl
 rw [e]
 simp [sizeOf,typeInfo,hi,hz1]
theorem yS2 (b off n cap lo hi' m:Nat) (x y:Int) (hx:x = lo) (hy:y = hi') (h1:lo<=hi') (h2:hi'<=cap) (h3:lo < cap) (hm:m = hi' - lo) (w:World) :
    (Instr.slice 22 (.slice (some ⟨b,off,none⟩) n cap) (some (.int .i64 x)) (some (.int .i64 y)) none).run Tryz.prog w = .ok (.slice (some ⟨b,off + lo,none⟩) m (cap - lo)) w:=by
 subst hx; subst hy; subst hm
 rw [run_slice_lh (P:=Tryz.prog) w 22 _ n cap Tryz.elem22 .i64 .i64 lo hi' (by omega) (by omega) (by omega),Tryz.size5]
 simp only [Result.andThen_ok,sliced,Int.toNat_natCast]
 rw [if_neg (by omega)]
 simp [Addr.add_lit]
theorem yD6 (a:Option Addr) (n cap hi':Nat) (y:Int) (hy:y = hi') (h2:hi'<=cap) (w:World) :
    (Instr.slice 22 (.slice a n cap) none (some (.int .i64 y)) none).run Tryz.prog w = .ok (.slice a hi' cap) w:=by
 subst hy
 rw [run_slice_h (P:=Tryz.prog) w 22 _ n cap Tryz.elem22 .i64 hi' (by omega) (by omega),Tryz.size5]
 simp only [Result.andThen_ok,sliced,Int.toNat_natCast]
 cases a with
 | none=>simp
 | some a=>simp; cases a; simp [Addr.add]
theorem yM8 (a:Option Addr) (n cap:Nat) (l:List UInt8) (w:World) (hn:n = l.length) (hcap:n<=cap) (h:Bs w a l) :
    Calls Tryz.prog 61 #[.slice a n cap] w fun e w'=>kF6 w w' e (unf l):=by
 have hlen:=h.1
 rw [<- hn] at hlen
 by_cases h11 : n < 11
 · have HU : Hid (unf l = ⟨0,0,[],0,0⟩):=by show unf l = _; unfold unf; rw [if_pos (by omega)]
   clear hn h
   go_enter Tryz.func61,Tryz.ntmps61
   go_wp2
   refine bodyPost_ret (v:=.tuple #[.int .i64 0,.int .i64 0,.slice none 0 0,.int .i64 0,.int .i64 0]) (by simp [results,Tryz.results61,go_sem]) rfl ?_
   rw [HU.out]
   exact zQ8 w 0 0
 · have HN : Hid (n = l.length):=hn
   obtain ⟨b,off,rfl,hb,hc⟩:=h.2 (by intro e; simp [e] at hn; omega)
   have hNlt:=kG7 l
   have hPlt:=kG6 l
   have hKlt:=kA6 l
   by_cases hbig : 1048576 < uN l\/1099511627776 < uP l
   · have HU : Hid (unf l = ⟨0,0,[],0,10⟩):=by show unf l = _; unfold unf; rw [if_neg (by omega),if_pos hbig]
     clear hn hc
     go_enter Tryz.func61,Tryz.ntmps61
     go_wp2_with fail
     refine (zS9 _ n cap l _ HN.out (by omega) hcap h).mono ?_
     rintro e w1 ⟨rfl,nq,rfl⟩
     by_cases hb1 : 1048576 < uN l
     · go_wp2
       refine bodyPost_ret (v:=.tuple #[.int .i64 0,.int .i64 0,.slice none 0 0,.int .i64 0,.int .i64 10]) (by simp [results,Tryz.results61,go_sem]) rfl ?_
       rw [HU.out]
       exact zQ8 w 10 nq
     · have hb2 : 1099511627776 < uP l:=by omega
       go_wp2
       refine bodyPost_ret (v:=.tuple #[.int .i64 0,.int .i64 0,.slice none 0 0,.int .i64 0,.int .i64 10]) (by simp [results,Tryz.results61,go_sem]) rfl ?_
       rw [HU.out]
       exact zQ8 w 10 nq
   · have hN1 : uN l<=1048576:=by omega
     have hP1 : uP l<=1099511627776:=by omega
     by_cases hsh : n < 11 + uN l + 4
     · have HU : Hid (unf l = ⟨0,0,[],0,0⟩):=by show unf l = _; unfold unf; rw [if_neg (by omega),if_neg hbig,if_pos (by omega)]
       clear hn hc hbig
       go_enter Tryz.func61,Tryz.ntmps61
       go_wp2_with fail
       refine (zS9 _ n cap l _ HN.out (by omega) hcap h).mono ?_
       rintro e w1 ⟨rfl,nq,rfl⟩
       go_wp2
       refine bodyPost_ret (v:=.tuple #[.int .i64 0,.int .i64 0,.slice none 0 0,.int .i64 0,.int .i64 0]) (by simp [results,Tryz.results61,go_sem]) rfl ?_
       rw [HU.out]
       exact zQ8 w 0 nq
     · have HL4 : Hid (((l.drop (11 + uN l)).take 4).length = 4):=by show _ = _; simp only [List.length_take,List.length_drop]; omega
       have HL1 : Hid (11 + uN l = (l.take (11 + uN l)).length):=by show _ = _; simp only [List.length_take]; omega
       have HUd : Hid (unf l = if (l.drop (11 + uN l)).take 4 ≠ lo4 (nsum (l.take (11 + uN l))) then ⟨0,0,[],0,10⟩ else ⟨uK l,uP l,(l.drop 11).take (uN l),((11 + uN l + 4 : Nat) : Int),0⟩):=by
        show unf l = _; conv=>lhs; unfold unf
        rw [if_neg (by omega),if_neg hbig,if_neg (by omega)]
       have HB3 : Hid (uN l = ((l.drop 11).take (uN l)).length):=by show _ = _; simp only [List.length_take,List.length_drop]; omega
       clear hn hc hbig
       go_enter Tryz.func61,Tryz.ntmps61
       go_wp2_with fail
       refine (zS9 _ n cap l _ HN.out (by omega) hcap h).mono ?_
       rintro e w1 ⟨rfl,n0,hw⟩
       have HW : Hid (w1 = w.drewN n0):=hw
       have h1 : Bs w1 (some ⟨b,off,none⟩) l:=by rw [hw]; exact h.drewN _
       clear hw h
       have e1:=yD6 (some ⟨b,off,none⟩) n cap (11 + uN l) (11 + (uN l:Int)) (by omega) (by omega)
       have e2:=yS2 b off n cap (11 + uN l) (11 + uN l + 4) 4 (11 + (uN l:Int)) (11 + (uN l:Int) + 4) (by omega) (by omega) (by omega) (by omega) (by omega) (by omega)
       have e3:=yS2 b off n cap 11 (11 + uN l) (uN l) 11 (11 + (uN l:Int)) (by omega) (by omega) (by omega) (by omega) (by omega) (by omega)
       go_wp2
       go_quiet ((go_at_call 95; refine Calls.quiet_of_same (yA8 _ _ _ _ _ (l.take (11 + uN l)) ((l.drop (11 + uN l)).take 4) _ ?_ ?_ ?_ ?_); exact HL1.out; exact HL4.out; exact ((h1.first (11 + uN l)).drewN _); exact ((h1.part (11 + uN l) 4).drewN _)))
       have hst : Stp w (w1.drewN nq) none none:=by rw [HW.out]; exact ((Stp.refl _ _).drewN _).drewN _
       have h2 : Bs (w1.drewN nq) (some ⟨b,off,none⟩) l:=h1.drewN _
       generalize w1.drewN nq = w2 at *
       clear h1 HW
       generalize hdd : decide ((l.drop (11 + uN l)).take 4 = lo4 (nsum (l.take (11 + uN l)))) = d at *
       have HD : Hid (decide ((l.drop (11 + uN l)).take 4 = lo4 (nsum (l.take (11 + uN l)))) = d):=hdd
       clear hdd
       cases d with
       | false =>
        go_wp2
        refine bodyPost_ret (v:=.tuple #[.int .i64 0,.int .i64 0,.slice none 0 0,.int .i64 0,.int .i64 10]) (by simp [results,Tryz.results61,go_sem]) rfl ?_
        rw [HUd.out,if_pos (of_decide_eq_false HD.out)]
        exact ⟨_,rfl,.inl ⟨rfl,rfl⟩,hst⟩
       | true =>
        go_wp2_with fail
        refine (zM2 _ _ _ ((l.drop 11).take (uN l)) _ HB3.out (h2.part 11 (uN l))).mono ?_
        rintro e w3 ⟨v3,rfl,o3,s3⟩
        go_wp2
        refine bodyPost_ret (v:=.tuple #[.int .i64 (uK l),.int .i64 (uP l),v3,.int .i64 (11 + (uN l:Int) + 4),.int .i64 0]) (by simp [results,Tryz.results61,go_sem]) rfl ?_
        rw [HUd.out,if_neg (not_not_intro (of_decide_eq_true HD.out))]
        exact ⟨v3,by go_num,o3,hst.trans s3⟩
end
section
open Go.RowKit
theorem xM7 (l:List UInt8) (m:Nat) : l.foldl (fun n b=>256 * n + b.toNat) m = m * 256 ^ l.length + hi l:=by
 induction l generalizing m with
 | nil=>simp [hi]
 | cons x r ih =>
  have e : hi (x :: r) = r.foldl (fun n b=>256 * n + b.toNat) (256 * 0 + x.toNat):=rfl
  rw [e,List.foldl_cons,ih,ih,List.length_cons,Nat.pow_succ]
  have : (256 * m + x.toNat) * 256 ^ r.length = m * (256 ^ r.length * 256) + x.toNat * 256 ^ r.length:=by
   rw [Nat.add_mul,Nat.mul_comm 256 m,Nat.mul_assoc,Nat.mul_comm 256]
  rw [this,Nat.mul_zero,Nat.zero_add,Nat.add_assoc]
theorem xE6 (x:UInt8) (r:List UInt8) : hi (x :: r) = x.toNat * 256 ^ r.length + hi r:=by
 have e : hi (x :: r) = r.foldl (fun n b=>256 * n + b.toNat) (256 * 0 + x.toNat):=rfl
 rw [e,xM7]; simp
theorem kE1 (x k m j:Nat) (h:j<=k) : hb (x * 256 ^ k + m) j = hb m j:=by
 induction j with
 | zero=>rfl
 | succ j ih =>
  rw [hb,hb,ih (by omega)]
  congr 1
  have e : x * 256 ^ k = 256 ^ j * (256 * (x * 256 ^ (k - j - 1))):=by
   have hk : 256 ^ k = 256 ^ j * (256 * 256 ^ (k - j - 1)):=by
    conv=>lhs; rw [show k = j + 1 + (k - j - 1) by omega,Nat.pow_add,Nat.pow_succ,Nat.mul_assoc]
   rw [hk,Nat.mul_left_comm]
   congr 1
   rw [Nat.mul_left_comm]
  rw [e,Nat.mul_add_div (Nat.pow_pos (by omega))]
  apply UInt8.toNat.inj
  simp
theorem xW4 (l:List UInt8) : hb (hi l) l.length = l:=by
 induction l with
 | nil=>rfl
 | cons x r ih =>
  rw [List.length_cons,hb,xE6,kE1 _ _ _ _ (Nat.le_refl _),ih]
  congr 1
  have hlt:=kE0 r
  have : (x.toNat * 256 ^ r.length + hi r) / 256 ^ r.length = x.toNat:=by
   rw [Nat.mul_comm,Nat.mul_add_div (Nat.pow_pos (by omega)),Nat.div_eq_of_lt hlt]; rfl
  rw [this]; simp
theorem yR8 (l:List UInt8) (a b c:Nat) (h:c = a + b) : l.take a ++ (l.drop a).take b = l.take c:=by rw [h,List.take_add]
theorem yU8 (l:List UInt8) (p q a b c:Nat) (hq:q = p + a) (h:c = a + b) : (l.drop p).take a ++ (l.drop q).take b = (l.drop p).take c:=by
 rw [h,hq,List.take_add,List.drop_drop]
theorem kE3 (l:List UInt8) (h:11 + uN l<=l.length) : fr0 (uK l) (uP l) ((l.drop 11).take (uN l)) = l.take (11 + uN l):=by
 have hl : ((l.drop 11).take (uN l)).length = uN l:=by simp only [List.length_take,List.length_drop]; omega
 unfold fr0
 rw [hl]
 have e4 : hb (uN l) 4 = l.take 4:=by
  have:=xW4 (l.take 4)
  rw [List.length_take,Nat.min_eq_left (by omega)] at this; exact this
 have e1 : hb (uK l) 1 = (l.drop 4).take 1:=by
  have:=xW4 ((l.drop 4).take 1)
  rw [List.length_take,List.length_drop,Nat.min_eq_left (by omega)] at this; exact this
 have e6 : hb (uP l) 6 = (l.drop 5).take 6:=by
  have:=xW4 ((l.drop 5).take 6)
  rw [List.length_take,List.length_drop,Nat.min_eq_left (by omega)] at this; exact this
 rw [e4,e1,e6,yU8 l 5 11 6 (uN l) (6 + uN l) (by omega) (by omega),yU8 l 4 5 1 (6 + uN l) (7 + uN l) (by omega) (by omega),yR8 l 4 (7 + uN l) (11 + uN l) (by omega)]
theorem kH5 (l:List UInt8) (h:11 + uN l + 4<=l.length) : fr (uK l) (uP l) ((l.drop 11).take (uN l)) = l.take (11 + uN l + 4) ↔ (l.drop (11 + uN l)).take 4 = lo4 (nsum (l.take (11 + uN l))):=by
 unfold fr
 rw [kE3 l (by omega),<- yR8 l (11 + uN l) 4 (11 + uN l + 4) rfl,List.append_cancel_left_eq]
 exact eq_comm
end
section
open Go.RowKit
theorem kH4 (n s:Nat) : hi (hb n s) = n % 256 ^ s:=by
 induction s with
 | zero=>simp [hb,hi,Nat.mod_one]
 | succ s ih =>
  rw [hb,xE6,ih,zE1,Nat.pow_succ,Nat.mod_mul]
  have : (UInt8.ofNat (n / 256 ^ s)).toNat = n / 256 ^ s % 256:=by simp
  rw [this,Nat.mul_comm,Nat.add_comm]
theorem yF3 (n s:Nat) (h:n < 256 ^ s) : hi (hb n s) = n:=by rw [kH4,Nat.mod_eq_of_lt h]
theorem zO2 (a b:List UInt8) (n:Nat) (h:a.length = n) : (a ++ b).take n = a:=by rw [<- h]; exact List.take_left
theorem zM0 (a b:List UInt8) (n:Nat) (h:a.length = n) : (a ++ b).drop n = b:=by rw [<- h]; exact List.drop_left
theorem zZ6 (a b:List UInt8) (n m:Nat) (h:a.length = n) : (a ++ b).drop (n + m) = b.drop m:=by rw [<- List.drop_drop,zM0 a b n h]
theorem yF7 (k p:Nat) (b x:List UInt8) : fr k p b ++ x = hb b.length 4 ++ (hb k 1 ++ (hb p 6 ++ (b ++ (lo4 (nsum (fr0 k p b)) ++ x)))):=by
 unfold fr
 have : fr0 k p b = hb b.length 4 ++ (hb k 1 ++ (hb p 6 ++ b)):=rfl
 generalize nsum (fr0 k p b) = s
 rw [this]
 simp only [List.append_assoc]
theorem kA5 (k p:Nat) (b x:List UInt8) (h:b.length<=1048576) : uN (fr k p b ++ x) = b.length:=by
 unfold uN
 rw [yF7,zO2 _ _ 4 (zE1 _ _),yF3 _ _ (by omega)]
theorem kG8 (k p:Nat) (b x:List UInt8) (h:k<=255) : uK (fr k p b ++ x) = k:=by
 unfold uK
 rw [yF7,zM0 _ _ 4 (zE1 _ _),zO2 _ _ 1 (zE1 _ _),yF3 _ _ (by omega)]
theorem kA4 (k p:Nat) (b x:List UInt8) (h:p<=1099511627776) : uP (fr k p b ++ x) = p:=by
 unfold uP
 rw [yF7,show (5:Nat) = 4 + 1 from rfl,zZ6 _ _ 4 1 (zE1 _ _),zM0 _ _ 1 (zE1 _ _),zO2 _ _ 6 (zE1 _ _),yF3 _ _ (by omega)]
theorem xZ0 (k p:Nat) (b x:List UInt8) : ((fr k p b ++ x).drop 11).take b.length = b:=by
 rw [yF7,show (11:Nat) = 4 + (1 + 6) from rfl,zZ6 _ _ 4 _ (zE1 _ _),zZ6 _ _ 1 6 (zE1 _ _),zM0 _ _ 6 (zE1 _ _),zO2 _ _ _ rfl]
theorem xT2 (k p:Nat) (b x:List UInt8) : (fr k p b ++ x).take (11 + b.length) = fr0 k p b:=by
 unfold fr
 rw [List.append_assoc,zO2 _ _ _ (by rw [zP1]; omega)]
theorem kA7 (k p:Nat) (b x:List UInt8) : ((fr k p b ++ x).drop (11 + b.length)).take 4 = lo4 (nsum (fr0 k p b)):=by
 unfold fr
 rw [List.append_assoc,zM0 _ _ _ (by rw [zP1]; omega),zO2 _ _ 4 rfl]
theorem xP1 (k p:Nat) (b x:List UInt8) (hk:k<=255) (hp:p<=1099511627776) (hb:b.length<=1048576) : unf (fr k p b ++ x) = ⟨k,p,b,((b.length + 15 : Nat) : Int),0⟩:=by
 have hl : (fr k p b ++ x).length = b.length + 15 + x.length:=by rw [List.length_append,zC0]
 unfold unf
 rw [kA5 k p b x hb,kG8 k p b x hk,kA4 k p b x hp,xZ0,xT2,kA7]
 rw [if_neg (by omega),if_neg (by omega),if_neg (by omega),if_neg (by simp)]
 congr 2
 omega
end
section
open Go.RowKit
theorem take_take (l:List UInt8) (a b:Nat) (h:a<=b) : (l.take b).take a = l.take a:=by rw [List.take_take,Nat.min_eq_left h]
theorem drop_take (l:List UInt8) (p a b:Nat) (h:p + a<=b) : ((l.take b).drop p).take a = (l.drop p).take a:=by
 rw [List.drop_take,List.take_take,Nat.min_eq_left (by omega)]
theorem yR5 (k p:Nat) (b:List UInt8) (c:Nat) (hp:p<=1099511627776) (hb:b.length<=1048576) (hc:c < b.length + 15) : unf ((fr k p b).take c) = ⟨0,0,[],0,0⟩:=by
 have hl : ((fr k p b).take c).length = c:=by rw [List.length_take,zC0]; omega
 unfold unf
 by_cases h11 : c < 11
 · rw [if_pos (by omega)]
 have e:=zC0 k p b
 have hN : uN ((fr k p b).take c) = b.length:=by
  have:=kA5 k p b [] hb
  rw [List.append_nil] at this
  rw [<- this]
  unfold uN
  rw [take_take _ _ _ (by omega)]
 have hP : uP ((fr k p b).take c) = p:=by
  have:=kA4 k p b [] hp
  rw [List.append_nil] at this
  refine Eq.trans ?_ this
  unfold uP
  rw [drop_take _ _ _ _ (by omega)]
 rw [hN,hP,if_neg (by omega),if_neg (by omega),if_pos (by omega)]
end
section
open Go.RowKit
def decA : Nat->Nat->Nat->List UInt8->Option (Nat × List UInt8)
 | 0,_,_,_=>none
 | _ + 1,_,_,[]=>none
 | k + 1,i,acc,b :: r =>
  if 128<=b.toNat then decA k (i + 1) (acc + b.toNat % 128 * 128 ^ i) r
  else if 2199023255552 < acc + b.toNat % 128 * 128 ^ i\/(b.toNat = 0/\0 < i) then none
  else some (acc + b.toNat % 128 * 128 ^ i,r)
def zE8 (u:Nat) : Int:=if u % 2 = 1 then -(((u:Int) + 1) / 2) else (u:Int) / 2
def numS (s:Option (List UInt8)) : Option (List UInt8):=s.bind fun l=>(decA 6 0 0 l).map (·.2)
def numV (s:Option (List UInt8)) : Int:=match s.bind fun l=>decA 6 0 0 l with
 | none=>0
 | some x=>zE8 x.1
theorem yL3 (k i acc:Nat) (b:UInt8) (r:List UInt8) (hb:128<=b.toNat) : decA (k + 1) i acc (b :: r) = decA k (i + 1) (acc + b.toNat % 128 * 128 ^ i) r:=by rw [decA,if_pos hb]
theorem xC7 (i:Nat) : 128 ^ i = 2 ^ (7 * i):=by rw [show (128:Nat) = 2 ^ 7 from rfl,<- Nat.pow_mul]
end
section
open Go.RowKit
def zI9 (u:Nat) : UInt8:=UInt8.ofNat u
def zH4 (u:Nat) : UInt8:=UInt8.ofNat (u % 128 + 128)
theorem yF0 (u:Nat) (h:u < 128) : (u:Int) = ((zI9 u).toNat : Int):=by unfold zI9; simp; omega
theorem yQ7 (u:Nat) : (u:Int) % 128 + 128 = ((zH4 u).toNat : Int):=by unfold zH4; rw [UInt8.toNat_ofNat']; omega
def encF : Nat->Nat->List UInt8
 | 0,u=>[zI9 u]
 | k + 1,u=>if u < 128 then [zI9 u] else zH4 u :: encF k (u / 128)
def encU (u:Nat) : List UInt8:=encF u u
theorem xF1 (k u:Nat) (h:u<=k) : encF (k + 1) u = encF k u:=by
 induction k generalizing u with
 | zero =>
  have : u = 0:=by omega
  subst this; rfl
 | succ k ih =>
  rw [encF]
  conv=>rhs; rw [encF]
  by_cases hu : u < 128
  · rw [if_pos hu,if_pos hu]
  · rw [if_neg hu,if_neg hu,ih (u / 128) (by omega)]
theorem xX5 (d u:Nat) : encF (u + d) u = encF u u:=by
 induction d with
 | zero=>rfl
 | succ d ih=>rw [<- ih]; exact xF1 (u + d) u (by omega)
def zG0 (n:Int) : Int:=if n < 0 then -2 * n - 1 else 2 * n
def enc (n:Int) : List UInt8:=encU (zG0 n).toNat
theorem zF5 (u:Nat) (h:u < 128) : encU u = [zI9 u]:=by
 unfold encU
 cases u with
 | zero=>rfl
 | succ u=>rw [encF,if_pos h]
theorem zL9 (u:Nat) (h:¬ u < 128) : encU u = zH4 u :: encU (u / 128):=by
 unfold encU
 cases u with
 | zero=>exact absurd (by omega) h
 | succ u =>
  rw [encF,if_neg h]
  have:=xX5 (u - (u + 1) / 128) ((u + 1) / 128)
  rw [show (u + 1) / 128 + (u - (u + 1) / 128) = u by omega] at this
  rw [this]
theorem zI5 (u k:Nat) (h:u < 128 ^ (k + 1)) : (encU u).length<=k + 1:=by
 induction k generalizing u with
 | zero=>rw [zF5 u (by simpa using h)]; simp
 | succ k ih =>
  by_cases hu : u < 128
  · rw [zF5 u hu]; simp
  · rw [zL9 u hu,List.length_cons]
    have:=ih (u / 128) (by rw [Nat.pow_succ] at h; omega)
    omega
theorem zD5 (n:Int) (h0:-1099511627776<=n) (h1:n<=1099511627776) : (enc n).length<=6:=by
 unfold enc
 exact zI5 _ 5 (by unfold zG0; split <;> omega)
def WR (w:World) (p:Nat) (l:List UInt8) (bad:Bool) (prot:Nat->Prop) : Prop :=
 (¬ prot p)/\(∀ b,prot b->b < w.heap.size)/\p < w.heap.size/\∃ v,w.cell? ⟨p,0,none⟩ = some v/\w.cell? ⟨p,1,none⟩ = some (.bool bad)/\w.frozen? ⟨p,0,none⟩ = false/\w.frozen? ⟨p,1,none⟩ = false /\
  Own w v l/\(∀ r,v.ownBlock = some r->r ≠ p/\¬ prot r)
structure Kp (w w':World) (prot:Nat->Prop) : Prop where
 os : w'.os = w.os
 tape : w'.tape = w.tape
 output : w'.output = w.output
 size : w.heap.size<=w'.heap.size
 block : ∀ k,prot k->w'.heap[k]? = w.heap[k]?
theorem Kp.refl (w:World) (prot:Nat->Prop) : Kp w w prot:=⟨rfl,rfl,rfl,Nat.le_refl _,fun _ _=>rfl⟩
theorem Kp.trans {a b c:World} {prot:Nat->Prop} (h:Kp a b prot) (k:Kp b c prot) : Kp a c prot :=
 ⟨k.os.trans h.os,k.tape.trans h.tape,k.output.trans h.output,Nat.le_trans h.size k.size,fun i hi=>(k.block i hi).trans (h.block i hi)⟩
theorem Kp.mono {a b:World} {prot prot':Nat->Prop} (h:Kp a b prot) (hp:∀ k,prot' k->prot k) : Kp a b prot':=⟨h.os,h.tape,h.output,h.size,fun k hk=>h.block k (hp k hk)⟩
theorem Kp.alloc (w:World) (o:Obj) (prot:Nat->Prop) (h:∀ b,prot b->b < w.heap.size) : Kp w (w.alloc o) prot:=⟨rfl,rfl,rfl,by simp,fun k hk=>Below.heap_alloc w o k (h k hk)⟩
theorem Kp.cell {w w':World} {prot:Nat->Prop} (h:Kp w w' prot) {a:Addr} (ha:prot a.block) : w'.cell? a = w.cell? a:=World.cell?_of_block (h.block _ ha)
theorem WR.mono {w:World} {p:Nat} {l:List UInt8} {bad:Bool} {prot prot':Nat->Prop} (h:WR w p l bad prot) (hp:∀ k,prot' k->prot k) : WR w p l bad prot':=by
 obtain ⟨h1,h2,h3,v,h4,h5,h6,h7,h8,h9⟩:=h
 exact ⟨fun x=>h1 (hp _ x),fun b hb=>h2 b (hp b hb),h3,v,h4,h5,h6,h7,h8,fun r hr=>⟨(h9 r hr).1,fun x=>(h9 r hr).2 (hp _ x)⟩⟩
theorem WR.box {w:World} {p:Nat} {l:List UInt8} {bad:Bool} {prot:Nat->Prop} (h:WR w p l bad prot) (o:Obj) : WR (w.alloc o) p l bad (fun b=>prot b\/b = w.heap.size):=by
 obtain ⟨h1,h2,h3,v,h4,h5,h6,h7,h8,h9⟩:=h
 refine ⟨fun x=>?_,fun b hb=>?_,by simp; omega,v,?_,?_,?_,?_,h8.alloc o,fun r hr=>⟨(h9 r hr).1,fun x=>?_⟩⟩
 · rcases x with x | x
   · exact h1 x
   · omega
 · rcases hb with hb | hb
   · have:=h2 b hb; simp; omega
   · simp; omega
 · rw [World.cell?_alloc_past _ _ _ h3]; exact h4
 · rw [World.cell?_alloc_past _ _ _ h3]; exact h5
 · rw [World.frozen?_alloc_past _ _ _ h3]; exact h6
 · rw [World.frozen?_alloc_past _ _ _ h3]; exact h7
 · rcases x with x | x
   · exact (h9 r hr).2 x
   · have:=h8.lt r hr; omega
theorem WR.store {w w1:World} {p:Nat} {l':List UInt8} {bad:Bool} {prot:Nat->Prop} {v v':Value} (o:Obj) (h1:¬ prot p) (h2:∀ b,prot b->b < w.heap.size) (h3:p < w.heap.size)
    (h5:w.cell? ⟨p,1,none⟩ = some (.bool bad)) (h6:w.frozen? ⟨p,0,none⟩ = false) (h7:w.frozen? ⟨p,1,none⟩ = false) (h9:∀ r,v.ownBlock = some r->r ≠ p/\¬ prot r) (h4:w.cell? ⟨p,0,none⟩ = some v)
    (o1:Own w1 v' l') (s1:Stp (w.alloc o) w1 v.ownBlock v'.ownBlock) : WR (w1.setCell ⟨p,0,none⟩ v') p l' bad prot/\Kp w (w1.setCell ⟨p,0,none⟩ v') prot/\w1.cell? ⟨p,0,none⟩ = some v/\w1.frozen? ⟨p,0,none⟩ = false:=by
 have hv : ∀ r,v'.ownBlock = some r->r ≠ p/\¬ prot r:=by
  intro r hr
  rcases s1.row with e | ⟨k,e,hk⟩
  · exact h9 r (by rw [<- e]; exact hr)
  · rw [hr] at e; cases e
    simp at hk
    exact ⟨by omega,fun x=>by have:=h2 r x; omega⟩
 have hold : ∀ k,k < w.heap.size->some k ≠ v.ownBlock->w1.heap[k]? = w.heap[k]?:=fun k hk hne=>(s1.block k (by simp; omega) hne).trans (Below.heap_alloc w o k hk)
 have hp:=hold p h3 (fun e=>(h9 p e.symm).1 rfl)
 have c0 : w1.cell? ⟨p,0,none⟩ = some v:=(World.cell?_of_block hp).trans h4
 have hsz : w.heap.size<=w1.heap.size:=by have:=s1.size; rw [World.size_alloc] at this; omega
 have hk : ∀ k,k ≠ p->(w1.setCell ⟨p,0,none⟩ v').heap[k]? = w1.heap[k]?:=fun k hk=>Below.heap_setCell w1 ⟨p,0,none⟩ v' k hk
 refine ⟨⟨h1,fun b hb=>by have:=h2 b hb; simp; omega,by simp; omega,v',?_,?_,?_,?_,o1.kept (fun k e=>hk k (hv k e).1),hv⟩,⟨s1.os,s1.tape,s1.output,by simp; omega,fun k x=>?_⟩,c0,(World.frozen?_of_block hp).trans h6⟩
 · exact World.cell?_setCell_same w1 _ _ c0
 · rw [World.cell?_setCell_other w1 _ _ _ (by simp)]; exact (World.cell?_of_block hp).trans h5
 · rw [World.frozen?_setCell]; exact (World.frozen?_of_block hp).trans h6
 · rw [World.frozen?_setCell]; exact (World.frozen?_of_block hp).trans h7
 · rw [hk k (fun e=>h1 (e ▸ x))]
   exact hold k (h2 k x) (fun e=>(h9 k e.symm).2 x)
theorem zH8 (n:Int) (w:World) (h0:-1099511627776<=n) (h1:n<=1099511627776) : Calls Tryz.prog 166 #[.int .i64 n] w fun e w'=>e = .returned (.int .i64 (zG0 n))/\w' = w:=by
 by_cases h : n < 0
 · have H : Hid (zG0 n = -2 * n - 1):=by show zG0 n = _; unfold zG0; rw [if_pos h]
   go_enter Tryz.func166,Tryz.ntmps166
   go_wp2
   go_ret
   exact ⟨by rw [H.out]; rfl,rfl⟩
 · have H : Hid (zG0 n = 2 * n):=by show zG0 n = _; unfold zG0; rw [if_neg h]
   go_enter Tryz.func166,Tryz.ntmps166
   go_wp2
   go_ret
   exact ⟨by rw [H.out]; rfl,rfl⟩
theorem zY4 (p:Nat) (l:List UInt8) (bad:Bool) (prot:Nat->Prop) (n:Int) (w:World) (h0:-1099511627776<=n) (h1:n<=1099511627776) (hl:l.length<=137438953472) (h:WR w p l bad prot) :
    Calls Tryz.prog 138 #[.pointer (some ⟨p,0,none⟩),.int .i64 n] w fun e w'=>e = .returned (.tuple #[])/\WR w' p (l ++ enc n) bad prot/\Kp w w' prot:=by
 have HE : Hid (enc n = encU (zG0 n).toNat):=rfl
 have f0 : 0<=zG0 n:=by unfold zG0; split <;> omega
 have f1 : zG0 n<=2199023255552:=by unfold zG0; split <;> omega
 go_enter Tryz.func138,Tryz.ntmps138
 go_wp2_with fail
 refine (zH8 n w h0 h1).mono ?_
 rintro e w' ⟨rfl,hw⟩
 subst hw
 obtain ⟨u0,hu0⟩:=Int.eq_ofNat_of_zero_le f0
 rw [hu0] at f1
 rw [hu0]
 have HE2 : Hid (enc n = encU u0):=by show enc n = _; rw [HE.out,hu0]; rfl
 clear HE hu0 f0
 go_wp2
 go_loopw [4] (fun t wr=>∃ u : Nat,∃ m : List UInt8,u<=u0/\t = .int .i64 u/\Hid (m ++ encU u = l ++ encU u0)/\WR wr p m bad prot/\Kp w' wr prot) (fun t _=>(intOf t).toNat)
 case atStart=>exact ⟨u0,l,Nat.le_refl _,rfl,rfl,h,Kp.refl _ _⟩
 case round =>
  obtain ⟨u,m,hu,rfl,hpre,hW,hK⟩:=hrel
  obtain ⟨q1,q2,q3,v,q4,q5,q6,q7,q8,q9⟩:=hW
  obtain ⟨a,c,hv,hbs⟩:=q8.form
  subst hv
  have H2 : Hid _:=q2
  have H9 : Hid _:=q9
  have H1 : Hid _:=q1
  clear q1 q2 q9 hbs
  have hml : Hid (m.length<=137438953482):=by
   have e:=congrArg List.length hpre.out
   rw [List.length_append,List.length_append] at e
   have:=zI5 u0 5 (by omega)
   show m.length<=_
   omega
  by_cases hub : u < 128
  · have hpu : Hid (encU u = [zI9 u]):=zF5 u hub
    go_wp2_with (at_builtin; refine zC3 _ rfl (.tmp 37) (.tmp 40) rfl _ m rfl (q8.alloc _) _ [zI9 u] rfl ?src ?len ?next)
    case src=>exact zK9 _ _ _ (yF0 u hub) _ rfl
    case len=>have:=hml.out; simp only [List.length_cons,List.length_nil]; omega
    case next =>
     intro v' w1 o1 s1
     obtain ⟨hW1,hK1,c1,d1⟩:=WR.store _ H1.out H2.out q3 q5 q6 q7 H9.out q4 o1 s1
     obtain ⟨a',c',hv',_⟩:=o1.form
     subst hv'
     rw [show (m ++ [zI9 u]).length = m.length + 1 from by simp] at hW1 hK1
     go_wp2
     go_end0
     refine ⟨rfl,?_,hK.trans hK1⟩
     have e : l ++ enc n = m ++ [zI9 u]:=by rw [HE2.out,<- hpre.out,hpu.out]
     rw [e]
     exact hW1
  · have hpu : Hid (encU u = zH4 u :: encU (u / 128)):=zL9 u hub
    go_wp2_with (at_builtin; refine zC3 _ rfl (.tmp 22) (.tmp 27) rfl _ m rfl (q8.alloc _) _ [zH4 u] rfl ?src ?len ?next)
    case src=>exact zK9 _ _ _ (yQ7 u) _ rfl
    case len=>have:=hml.out; simp only [List.length_cons,List.length_nil]; omega
    case next =>
     intro v' w1 o1 s1
     obtain ⟨hW1,hK1,c1,d1⟩:=WR.store _ H1.out H2.out q3 q5 q6 q7 H9.out q4 o1 s1
     obtain ⟨a',c',hv',_⟩:=o1.form
     subst hv'
     rw [show (m ++ [zH4 u]).length = m.length + 1 from by simp] at hW1 hK1
     go_wp2
     refine ⟨⟨u / 128,m ++ [zH4 u],by omega,by go_num,?_,hW1,hK.trans hK1⟩,by simp [intOf]; omega⟩
     show m ++ [zH4 u] ++ encU (u / 128) = _
     rw [<- hpre.out,hpu.out,List.append_assoc]; rfl
end
section
open Go.RowKit
def zs (k:Nat) : List UInt8:=List.replicate k 0
end
section
open Go.RowKit
theorem Kp.below {w w':World} {B:Nat} (h:Kp w w' (fun b=>b < B)) : Below B w w':=⟨h.os,h.tape,h.output,h.size,h.block⟩
def kJ6 (cs:Array Value) (l:List UInt8) : Prop:=∀ (w:World) (p:Nat),WR w p [] false (fun b=>b < p) ->
 Calls Tryz.prog 159 #[.pointer (some ⟨p,0,none⟩),.agg cs] w fun e w'=>e = .returned (.tuple #[])/\WR w' p l false (fun b=>b < p)/\Kp w w' (fun b=>b < p)
def Zcmd : Array Value:=#[.int .i64 0,.int .i64 0,.int .i64 0,.int .i64 0,.int .i64 0,.int .i64 0,.int .i64 0,.slice none 0 0,.int .i64 0,.bool false,.int .i64 0,.int .i64 0,.int .i64 0,.bool false,.bool false,.int .i64 0,.int .i64 0,.int .i64 0,.slice none 0 0,.int .i64 0,.int .i64 0,.int .i64 0,.slice none 0 0,.slice none 0 0,.bool false,.slice none 0 0,.slice none 0 0]
end
section
open Go.RowKit
def RD (w:World) (p b k:Nat) : Prop :=
 p < w.heap.size/\b ≠ p/\b < w.heap.size/\∃ a cap,w.cell? ⟨p,0,none⟩ = some (.slice a k cap)/\w.cell? ⟨p,1,none⟩ = some (.bool false)/\w.frozen? ⟨p,0,none⟩ = false/\w.frozen? ⟨p,1,none⟩ = false /\
  k<=cap/\k<=1000/\(0 < k->∃ off,a = some ⟨b,off,none⟩/\∀ j,j < k->w.cell? ⟨b,off + j,none⟩ = some (.int .u8 0))
structure RS (w w':World) (p:Nat) : Prop where
 os : w'.os = w.os
 tape : w'.tape = w.tape
 output : w'.output = w.output
 size : w.heap.size<=w'.heap.size
 block : ∀ k,k < w.heap.size->k ≠ p->w'.heap[k]? = w.heap[k]?
theorem RS.refl (w:World) (p:Nat) : RS w w p:=⟨rfl,rfl,rfl,Nat.le_refl _,fun _ _ _=>rfl⟩
theorem RS.trans {a b c:World} {p:Nat} (h:RS a b p) (k:RS b c p) : RS a c p :=
 ⟨k.os.trans h.os,k.tape.trans h.tape,k.output.trans h.output,Nat.le_trans h.size k.size,fun i hi hp=>(k.block i (Nat.lt_of_lt_of_le hi h.size) hp).trans (h.block i hi hp)⟩
theorem RS.alloc {a w:World} {p:Nat} (h:RS a w p) (o:Obj) : RS a (w.alloc o) p:=h.trans ⟨rfl,rfl,rfl,by simp,fun k hk _=>Below.heap_alloc w o k hk⟩
theorem RS.setRow {a w:World} {p g:Nat} (h:RS a w p) (hg:a.heap.size<=g) (cs:Array Value) : RS a (w.setRow g cs) p :=
 ⟨h.os,h.tape,h.output,by simp [World.setRow]; exact h.size,fun k hk hp=>(setRow_other w g k cs (by omega)).trans (h.block k hk hp)⟩
end
section
open Go.RowKit
end
section
open Go.RowKit
theorem zA5 {ops:Array Oper} {rest:List Oper} {o:Oper} {a:Act} {w:World} {Q:Exit->Act->World->Prop} (hgd:o.guard = none) (ty:TypeId) (x y:Operand) (ho:o.op = .store ty x y)
    (g:Nat) (cells:Array Value) (hx:a.eval x = .pointer (some ⟨g,0,none⟩)) (hy:a.eval y = .agg cells)
    (t:TypeId) (old:Array Value) (hg:w.heap[g]? = some (.cells old t (0,0))) (hi:(Tryz.prog.info? ty).map (·.size) = some cells.size)
    (hold:old.size = cells.size) (h1:cells.all (·.oneCell') = true)
    (h:∀ w2,Hid (w2 = w.setRow g cells)->wpList Tryz.prog ops Q rest (a.put o.dst undef) w2) : wpList Tryz.prog ops Q (o :: rest) a w :=
 wpList_store_row hgd ty x y ho g cells hx hy t old hg hi hold h1 (h _ rfl)
end
end Go.Proofs.YtocoimjhglackaaGreat
