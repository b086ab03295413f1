/- Rgen -/
import Derived.Test.YtocoimjhglackaaGreatK01
set_option maxHeartbeats 8000000
set_option maxRecDepth 100000
namespace Go.Proofs.YtocoimjhglackaaGreat
section
open Go.RowKit
def RG (D:Nat) (w:World) (p:Nat) (s:Option (List UInt8)) : Prop :=
 p < w.heap.size/\D<=w.heap.size/\w.frozen? ⟨p,0,none⟩ = false/\w.frozen? ⟨p,1,none⟩ = false /\
 match s with
 | none=>w.cell? ⟨p,0,none⟩ = some (.slice none 0 0)/\w.cell? ⟨p,1,none⟩ = some (.bool true)
 | some l=>∃ a cap,w.cell? ⟨p,0,none⟩ = some (.slice a l.length cap)/\w.cell? ⟨p,1,none⟩ = some (.bool false)/\l.length<=cap/\Bs w a l/\(∀ x,a = some x->x.block ≠ p/\x.block < D)
theorem zL0 (a:Option Addr) (n cap u:Nat) (x:Int) (hx:x = (u:Int)) (hu:u<=n) (w:World) :
    (Instr.slice 22 (.slice a n cap) (some (.int .i64 x)) none none).run Tryz.prog w = .ok (.slice (if cap = u then a else a.map (·.add u)) (n - u) (cap - u)) w:=by
 subst hx
 rw [run_slice_l (P:=Tryz.prog) w 22 a n cap Tryz.elem22 .i64 u (by omega) (by omega),Tryz.size5]
 simp [sliced]
theorem xY9 {w:World} {a:Option Addr} {l:List UInt8} {cap u:Nat} (h:Bs w a l) (hu:u<=l.length) (hc:l.length<=cap) : Bs w (if cap = u then a else a.map (·.add u)) (l.drop u):=by
 refine ⟨by have:=h.1; rw [List.length_drop]; omega,fun hne=>?_⟩
 have hp : 0 < (l.drop u).length:=List.length_pos_iff.2 hne
 rw [List.length_drop] at hp
 obtain ⟨b,off,rfl,hlt,hcl⟩:=h.2 (by intro e; rw [e] at hp; simp at hp)
 rw [if_neg (by omega)]
 refine ⟨b,off + u,by simp [Addr.add_lit],hlt,fun j hj=>?_⟩
 rw [List.length_drop] at hj
 rw [Nat.add_assoc,hcl (u + j) (by omega),yV4]
theorem Bs.rs {w w':World} {p:Nat} {a:Option Addr} {l:List UInt8} (h:Bs w a l) (hs:RS w w' p) (hne:∀ x,a = some x->x.block ≠ p) : Bs w' a l:=by
 refine ⟨h.1,fun hn=>?_⟩
 obtain ⟨b,off,rfl,hlt,hc⟩:=h.2 hn
 exact ⟨b,off,rfl,Nat.lt_of_lt_of_le hlt hs.size,fun j hj=>(World.cell?_of_block (a:=⟨b,off + j,none⟩) (hs.block b hlt (hne _ rfl))).trans (hc j hj)⟩
theorem zF8 {D:Nat} (p:Nat) (w:World) (v:Value) (t:Value) (hp:p < w.heap.size) (hD:D<=w.heap.size) (h0:w.cell? ⟨p,0,none⟩ = some v) (h1:w.cell? ⟨p,1,none⟩ = some t) (f0:w.frozen? ⟨p,0,none⟩ = false) (f1:w.frozen? ⟨p,1,none⟩ = false) :
    Calls Tryz.prog 172 #[.pointer (some ⟨p,0,none⟩)] w fun e w'=>e = .returned (.tuple #[])/\RG D w' p none/\RS w w' p:=by
 go_enter Tryz.func172,Tryz.ntmps172
 go_wp2
 go_end0
 have e1 : (w.setCell ⟨p,0,none⟩ (.slice none 0 0)).cell? ⟨p,1,none⟩ = some t:=by rw [World.cell?_setCell_other w _ _ _ (by simp)]; exact h1
 refine ⟨rfl,⟨by simpa using hp,by simpa using hD,by rw [World.frozen?_setCell,World.frozen?_setCell]; exact f0,by rw [World.frozen?_setCell,World.frozen?_setCell]; exact f1,?_,?_⟩,⟨rfl,rfl,rfl,by simp,fun k _ hk=>?_⟩⟩
 · rw [World.cell?_setCell_other _ _ _ _ (by simp)]; exact World.cell?_setCell_same w _ _ h0
 · exact World.cell?_setCell_same _ _ _ e1
 · rw [Below.heap_setCell _ ⟨p,1,none⟩ _ k hk,Below.heap_setCell _ ⟨p,0,none⟩ _ k hk]
theorem xP7 (l:List UInt8) (k acc:Nat) (hk:k < 6) (ha:acc < 128 ^ k) : bits .or .i64 (acc:Int) (wrap64 (bat l k % 128 * 2 ^ (7 * k))) = ((acc + bn l k % 128 * 128 ^ k : Nat) : Int):=by
 have hp : (128:Nat) ^ k<=128 ^ 5:=Nat.pow_le_pow_right (by omega) (by omega)
 have hp2 : (128:Nat) ^ 5 = 34359738368:=by decide
 have hg : bn l k % 128 < 128:=Nat.mod_lt _ (by omega)
 have hm : bn l k % 128 * 128 ^ k<=127 * 128 ^ k:=Nat.mul_le_mul_right _ (by omega)
 have e : (bat l k % 128 * 2 ^ (7 * k)) = ((bn l k % 128 * 128 ^ k : Nat) : Int):=by
  unfold bat
  rw [xC7]
  simp
 rw [e]
 have ew : wrap64 ((bn l k % 128 * 128 ^ k : Nat) : Int) = ((bn l k % 128 * 128 ^ k : Nat) : Int):=by
  unfold wrap64; omega
 rw [ew,(bits_nat .i64 62 (by decide) (fun n h0 h1=>by rw [IntKind.wrap_i64]; omega) acc (bn l k % 128 * 128 ^ k) (by omega) (by omega)).2]
 have:=Nat.two_pow_add_eq_or_of_lt (i:=7 * k) (b:=acc) (by rw [<- xC7]; exact ha) (bn l k % 128)
 rw [xC7,Nat.mul_comm (bn l k % 128),Nat.or_comm,<- this,Nat.add_comm]
theorem zO1 (u:Nat) (w:World) (h:u<=2199023255552) : Calls Tryz.prog 171 #[.int .i64 (u:Int)] w fun e w'=>e = .returned (.int .i64 (zE8 u))/\w' = w:=by
 by_cases h2 : u % 2 = 1
 · have hb : ((u:Int) % 2 == 1) = true:=by simp; omega
   have HE : Hid (zE8 u = -(((u:Int) + 1) / 2)):=by show zE8 u = _; unfold zE8; rw [if_pos h2]
   have hh : wrap64 (-((u:Int) + 1).tdiv 2) = -(((u:Int) + 1) / 2):=by
    rw [Int.tdiv_eq_ediv_of_nonneg (by omega)]
    unfold wrap64; omega
   go_enter Tryz.func171,Tryz.ntmps171
   go_wp2
   go_ret
   exact ⟨by rw [HE.out,<- hh]; rfl,rfl⟩
 · have hb : ((u:Int) % 2 == 1) = false:=by simp; omega
   have HE : Hid (zE8 u = (u:Int) / 2):=by show zE8 u = _; unfold zE8; rw [if_neg h2]
   go_enter Tryz.func171,Tryz.ntmps171
   go_wp2
   go_ret
   exact ⟨by rw [HE.out]; rfl,rfl⟩
theorem RG.next {D:Nat} {w:World} {p u cap:Nat} {a:Option Addr} {l:List UInt8} (h:RG D w p (some l)) (c0:w.cell? ⟨p,0,none⟩ = some (.slice a l.length cap)) (hcap:l.length<=cap) (hbs:Bs w a l) (hne:∀ x,a = some x->x.block ≠ p/\x.block < D) (hu:u<=l.length) (v:Value)
    (hv:v = .slice (if cap = u then a else a.map (·.add u)) (l.length - u) (cap - u)) : RG D (w.setCell ⟨p,0,none⟩ v) p (some (l.drop u))/\RS w (w.setCell ⟨p,0,none⟩ v) p:=by
 obtain ⟨h1,hD,f0,f1,_,_,_,c1,_,_,_⟩:=h
 have hs : RS w (w.setCell ⟨p,0,none⟩ v) p:=⟨rfl,rfl,rfl,by simp,fun j _ hp=>Below.heap_setCell w ⟨p,0,none⟩ v j hp⟩
 have hne2 : ∀ x,(if cap = u then a else a.map (·.add u)) = some x->x.block ≠ p/\x.block < D:=by
  intro x hx
  split at hx
  · exact hne x hx
  · cases a with
    | none=>simp at hx
    | some y =>
     simp at hx
     have hy:=hne y rfl
     rw [<- hx]
     unfold Addr.add
     split <;> exact hy
 refine ⟨⟨by simpa using h1,by simpa using hD,by rw [World.frozen?_setCell]; exact f0,by rw [World.frozen?_setCell]; exact f1,_,cap - u,?_,?_,by rw [List.length_drop]; omega,(xY9 hbs hu hcap).rs hs (fun x hx=>(hne2 x hx).1),hne2⟩,hs⟩
 · rw [List.length_drop,<- hv]; exact World.cell?_setCell_same w _ _ c0
 · rw [World.cell?_setCell_other w _ _ _ (by simp)]; exact c1
theorem yK5 (l:List UInt8) (k:Nat) (h:k < l.length) : l.drop k = l.getD k 0 :: l.drop (k + 1):=by
 rw [List.drop_eq_getElem_cons h]; simp [List.getD,h]
theorem xL5 {D:Nat} (p:Nat) (l:List UInt8) (w:World) (h:RG D w p (some l)) :
    Calls Tryz.prog 143 #[.pointer (some ⟨p,0,none⟩)] w fun e w'=>e = .returned (.int .i64 (numV (some l)))/\RG D w' p (numS (some l))/\RS w w' p:=by
 have H:=h
 obtain ⟨h1,hD,f0,f1,a,cap,c0,c1,hcap,hbs,hne⟩:=h
 have hlen:=hbs.1
 have HN : Hid (∀ x,a = some x->x.block ≠ p/\x.block < D):=hne
 have HF : Hid (zG0 1099511627776 = 2199023255552):=rfl
 clear hne
 by_cases h6 : l.length<=6
 ·
  go_enter Tryz.func143,Tryz.ntmps143
  go_wp2
  go_loop [3,12] (fun u i=>∃ k acc : Nat,k<=l.length/\i = .int .i64 k/\u = .int .i64 acc/\Hid (acc < 128 ^ k)/\Hid (decA 6 0 0 l = decA (6 - k) k acc (l.drop k))) (fun _ i=>l.length - (intOf i).toNat)
  case atStart=>exact ⟨0,0,Nat.zero_le _,rfl,rfl,(by show 0 < 128 ^ 0; decide),rfl⟩
  case round =>
   obtain ⟨k,acc,hk,rfl,rfl,ha,hd⟩:=hrel
   by_cases hlt : k < l.length
   · obtain ⟨b,off,rfl,hb,hc⟩:=hbs.2 (by intro e; simp [e] at hlt)
     have hk6 : k < 6:=by omega
     have hkl : k < l.length:=by omega
     have hck:=hc k hkl
     have b0:=yC6 l k
     have b1:=yC7 l k
     have hor:=xP7 l k acc hk6 ha.out
     have hacc : acc + bn l k % 128 * 128 ^ k < 128 ^ (k + 1):=by
      have h1 : bn l k % 128 * 128 ^ k<=127 * 128 ^ k:=Nat.mul_le_mul_right _ (by have:=Nat.mod_lt (bn l k) (show 128 > 0 by omega); omega)
      have:=ha.out
      rw [Nat.pow_succ]; omega
     have hp6 : 128 ^ (k + 1)<=128 ^ 6:=Nat.pow_le_pow_right (by omega) (by omega)
     have hp62 : (128:Nat) ^ 6 = 4398046511104:=by decide
     have hdk : Hid (decA 6 0 0 l = decA (5 - k + 1) k acc (l.getD k 0 :: l.drop (k + 1))):=by
      show _ = _
      rw [hd.out,yK5 l k hkl,show 6 - k = 5 - k + 1 by omega]
     obtain ⟨A,hA⟩ : ∃ A,A = acc + bn l k % 128 * 128 ^ k:=⟨_,rfl⟩
     rw [<- hA] at hor hacc
     have HAcc : Hid (A < 128 ^ (k + 1)):=hacc
     have hA42 : A < 4398046511104:=by omega
     have HAe : Hid (A = acc + (l.getD k 0).toNat % 128 * 128 ^ k):=hA
     clear hA hacc hp6 hp62
     by_cases hbig : 128<=bat l k
     · have hd2 : Hid (decA 6 0 0 l = decA (6 - (k + 1)) (k + 1) A (l.drop (k + 1))):=by
         show _ = _
         rw [hdk.out,yL3 _ _ _ _ _ (by unfold bat bn at hbig; omega),HAe.out,show 6 - (k + 1) = 5 - k by omega]
       go_wp2
       exact ⟨⟨k + 1,A,by omega,by go_num,rfl,HAcc,hd2⟩,by simp [intOf]; omega⟩
     · have hsm : bat l k<=127:=by omega
       have hdsm : Hid (decA 6 0 0 l = if 2199023255552 < A\/(bn l k = 0/\0 < k) then none else some (A,l.drop (k + 1))):=by
        show _ = _
        rw [hdk.out,decA,if_neg (by unfold bat bn at hbig; omega),<- HAe.out]; rfl
       by_cases hov : 2199023255552 < A
       · have hno : Hid (numS (some l) = none/\numV (some l) = 0):=by
           have : decA 6 0 0 l = none:=by rw [hdsm.out,if_pos (.inl hov)]
           exact ⟨by simp [numS,this],by simp [numV,this]⟩
         go_wp2_with fail
         refine (zH8 1099511627776 w (by omega) (by omega)).mono ?_
         rintro e w1 ⟨rfl,hw⟩
         subst hw
         rw [HF.out]
         go_wp2_with fail
         refine (zF8 p w1 _ _ h1 hD c0 c1 f0 f1).mono ?_
         rintro e w2 ⟨rfl,r1,r2⟩
         go_wp2
         go_ret
         exact ⟨by rw [hno.out.2]; rfl,by rw [hno.out.1]; exact r1,r2⟩
       · have hovf : ¬ ((2199023255552:Int) < (A:Int)):=by omega
         by_cases hz : bat l k = 0/\0 < k
         · have hno : Hid (numS (some l) = none/\numV (some l) = 0):=by
             have : decA 6 0 0 l = none:=by rw [hdsm.out,if_pos (.inr ⟨by unfold bat at hz; omega,hz.2⟩)]
             exact ⟨by simp [numS,this],by simp [numV,this]⟩
           have hzb : (bat l k == 0) = true:=by simp [hz.1]
           have hkp : (0:Int) < (k:Int):=by omega
           have hz2:=hz.2
           clear hz
           go_wp2_with fail
           refine (zH8 1099511627776 w (by omega) (by omega)).mono ?_
           rintro e w1 ⟨rfl,hw⟩
           subst hw
           rw [HF.out]
           go_wp2_with fail
           refine (zF8 p w1 _ _ h1 hD c0 c1 f0 f1).mono ?_
           rintro e w2 ⟨rfl,r1,r2⟩
           go_wp2
           go_ret
           exact ⟨by rw [hno.out.2]; rfl,by rw [hno.out.1]; exact r1,r2⟩
         · have hyes : Hid (numS (some l) = some (l.drop (k + 1))/\numV (some l) = zE8 A):=by
             have : decA 6 0 0 l = some (A,l.drop (k + 1)):=by rw [hdsm.out,if_neg]; rintro (h | h); exact hov h; exact hz ⟨by unfold bat; omega,h.2⟩
             exact ⟨by simp [numS,this],by simp [numV,this]⟩
           obtain ⟨a3,HA3,hsl⟩ : ∃ a3,Hid (a3 = if cap = k + 1 then some ⟨b,off,none⟩ else (some (⟨b,off,none⟩ : Addr)).map (·.add (k + 1)))/\∀ w,(Instr.slice 22 (.slice (some ⟨b,off,none⟩) l.length cap) (some (.int .i64 ((k:Int) + 1))) none none).run Tryz.prog w = .ok (.slice a3 (l.length - (k + 1)) (cap - (k + 1))) w :=
            ⟨_,rfl,zL0 (some ⟨b,off,none⟩) l.length cap (k + 1) _ (by omega) (by omega)⟩
           have hnx:=RG.next H c0 hcap hbs HN.out (u:=k + 1) (by omega) (.slice a3 (l.length - (k + 1)) (cap - (k + 1))) (by rw [HA3.out])
           have HX : Hid _:=hnx
           clear hnx
           by_cases hzb : bat l k = 0
           · have hk0 : k = 0:=by omega
             have hzbb : (bat l k == 0) = true:=by simp [hzb]
             have hkn : ¬ ((0:Int) < (k:Int)):=by omega
             clear hz hzb hk0
             go_wp2_with fail
             refine (zH8 1099511627776 w (by omega) (by omega)).mono ?_
             rintro e w1 ⟨rfl,hw⟩
             subst hw
             rw [HF.out]
             go_wp2_with fail
             refine (zO1 A _ (by omega)).mono ?_
             rintro e w2 ⟨rfl,hw⟩
             subst hw
             go_wp2
             go_ret
             exact ⟨by rw [hyes.out.2]; rfl,by rw [hyes.out.1]; exact HX.out.1,HX.out.2⟩
           · have hzbb : (bat l k == 0) = false:=by simp [hzb]
             clear hz hzb
             go_wp2_with fail
             refine (zH8 1099511627776 w (by omega) (by omega)).mono ?_
             rintro e w1 ⟨rfl,hw⟩
             subst hw
             rw [HF.out]
             go_wp2_with fail
             refine (zO1 A _ (by omega)).mono ?_
             rintro e w2 ⟨rfl,hw⟩
             subst hw
             go_wp2
             go_ret
             exact ⟨by rw [hyes.out.2]; rfl,by rw [hyes.out.1]; exact HX.out.1,HX.out.2⟩
   · have hno : Hid (numS (some l) = none/\numV (some l) = 0):=by
       have : decA 6 0 0 l = none:=by
        rw [hd.out]
        by_cases h6k : k = 6
        · subst h6k; rfl
        · rw [List.drop_of_length_le (by omega),show 6 - k = 5 - k + 1 by omega,decA]
       exact ⟨by simp [numS,this],by simp [numV,this]⟩
     go_wp2_with fail
     refine (zF8 p w _ _ h1 hD c0 c1 f0 f1).mono ?_
     rintro e w2 ⟨rfl,r1,r2⟩
     go_wp2
     go_ret
     exact ⟨by rw [hno.out.2]; rfl,by rw [hno.out.1]; exact r1,r2⟩
 ·
  go_enter Tryz.func143,Tryz.ntmps143
  go_wp2
  go_loop [3,12] (fun u i=>∃ k acc : Nat,k<=6/\i = .int .i64 k/\u = .int .i64 acc/\Hid (acc < 128 ^ k)/\Hid (decA 6 0 0 l = decA (6 - k) k acc (l.drop k))) (fun _ i=>6 - (intOf i).toNat)
  case atStart=>exact ⟨0,0,Nat.zero_le _,rfl,rfl,(by show 0 < 128 ^ 0; decide),rfl⟩
  case round =>
   obtain ⟨k,acc,hk,rfl,rfl,ha,hd⟩:=hrel
   by_cases hlt : k < 6
   · obtain ⟨b,off,rfl,hb,hc⟩:=hbs.2 (by intro e; simp [e] at h6)
     have hk6 : k < 6:=by omega
     have hkl : k < l.length:=by omega
     have hck:=hc k hkl
     have b0:=yC6 l k
     have b1:=yC7 l k
     have hor:=xP7 l k acc hk6 ha.out
     have hacc : acc + bn l k % 128 * 128 ^ k < 128 ^ (k + 1):=by
      have h1 : bn l k % 128 * 128 ^ k<=127 * 128 ^ k:=Nat.mul_le_mul_right _ (by have:=Nat.mod_lt (bn l k) (show 128 > 0 by omega); omega)
      have:=ha.out
      rw [Nat.pow_succ]; omega
     have hp6 : 128 ^ (k + 1)<=128 ^ 6:=Nat.pow_le_pow_right (by omega) (by omega)
     have hp62 : (128:Nat) ^ 6 = 4398046511104:=by decide
     have hdk : Hid (decA 6 0 0 l = decA (5 - k + 1) k acc (l.getD k 0 :: l.drop (k + 1))):=by
      show _ = _
      rw [hd.out,yK5 l k hkl,show 6 - k = 5 - k + 1 by omega]
     obtain ⟨A,hA⟩ : ∃ A,A = acc + bn l k % 128 * 128 ^ k:=⟨_,rfl⟩
     rw [<- hA] at hor hacc
     have HAcc : Hid (A < 128 ^ (k + 1)):=hacc
     have hA42 : A < 4398046511104:=by omega
     have HAe : Hid (A = acc + (l.getD k 0).toNat % 128 * 128 ^ k):=hA
     clear hA hacc hp6 hp62
     by_cases hbig : 128<=bat l k
     · have hd2 : Hid (decA 6 0 0 l = decA (6 - (k + 1)) (k + 1) A (l.drop (k + 1))):=by
         show _ = _
         rw [hdk.out,yL3 _ _ _ _ _ (by unfold bat bn at hbig; omega),HAe.out,show 6 - (k + 1) = 5 - k by omega]
       go_wp2
       exact ⟨⟨k + 1,A,by omega,by go_num,rfl,HAcc,hd2⟩,by simp [intOf]; omega⟩
     · have hsm : bat l k<=127:=by omega
       have hdsm : Hid (decA 6 0 0 l = if 2199023255552 < A\/(bn l k = 0/\0 < k) then none else some (A,l.drop (k + 1))):=by
        show _ = _
        rw [hdk.out,decA,if_neg (by unfold bat bn at hbig; omega),<- HAe.out]; rfl
       by_cases hov : 2199023255552 < A
       · have hno : Hid (numS (some l) = none/\numV (some l) = 0):=by
           have : decA 6 0 0 l = none:=by rw [hdsm.out,if_pos (.inl hov)]
           exact ⟨by simp [numS,this],by simp [numV,this]⟩
         go_wp2_with fail
         refine (zH8 1099511627776 w (by omega) (by omega)).mono ?_
         rintro e w1 ⟨rfl,hw⟩
         subst hw
         rw [HF.out]
         go_wp2_with fail
         refine (zF8 p w1 _ _ h1 hD c0 c1 f0 f1).mono ?_
         rintro e w2 ⟨rfl,r1,r2⟩
         go_wp2
         go_ret
         exact ⟨by rw [hno.out.2]; rfl,by rw [hno.out.1]; exact r1,r2⟩
       · have hovf : ¬ ((2199023255552:Int) < (A:Int)):=by omega
         by_cases hz : bat l k = 0/\0 < k
         · have hno : Hid (numS (some l) = none/\numV (some l) = 0):=by
             have : decA 6 0 0 l = none:=by rw [hdsm.out,if_pos (.inr ⟨by unfold bat at hz; omega,hz.2⟩)]
             exact ⟨by simp [numS,this],by simp [numV,this]⟩
           have hzb : (bat l k == 0) = true:=by simp [hz.1]
           have hkp : (0:Int) < (k:Int):=by omega
           have hz2:=hz.2
           clear hz
           go_wp2_with fail
           refine (zH8 1099511627776 w (by omega) (by omega)).mono ?_
           rintro e w1 ⟨rfl,hw⟩
           subst hw
           rw [HF.out]
           go_wp2_with fail
           refine (zF8 p w1 _ _ h1 hD c0 c1 f0 f1).mono ?_
           rintro e w2 ⟨rfl,r1,r2⟩
           go_wp2
           go_ret
           exact ⟨by rw [hno.out.2]; rfl,by rw [hno.out.1]; exact r1,r2⟩
         · have hyes : Hid (numS (some l) = some (l.drop (k + 1))/\numV (some l) = zE8 A):=by
             have : decA 6 0 0 l = some (A,l.drop (k + 1)):=by rw [hdsm.out,if_neg]; rintro (h | h); exact hov h; exact hz ⟨by unfold bat; omega,h.2⟩
             exact ⟨by simp [numS,this],by simp [numV,this]⟩
           obtain ⟨a3,HA3,hsl⟩ : ∃ a3,Hid (a3 = if cap = k + 1 then some ⟨b,off,none⟩ else (some (⟨b,off,none⟩ : Addr)).map (·.add (k + 1)))/\∀ w,(Instr.slice 22 (.slice (some ⟨b,off,none⟩) l.length cap) (some (.int .i64 ((k:Int) + 1))) none none).run Tryz.prog w = .ok (.slice a3 (l.length - (k + 1)) (cap - (k + 1))) w :=
            ⟨_,rfl,zL0 (some ⟨b,off,none⟩) l.length cap (k + 1) _ (by omega) (by omega)⟩
           have hnx:=RG.next H c0 hcap hbs HN.out (u:=k + 1) (by omega) (.slice a3 (l.length - (k + 1)) (cap - (k + 1))) (by rw [HA3.out])
           have HX : Hid _:=hnx
           clear hnx
           by_cases hzb : bat l k = 0
           · have hk0 : k = 0:=by omega
             have hzbb : (bat l k == 0) = true:=by simp [hzb]
             have hkn : ¬ ((0:Int) < (k:Int)):=by omega
             clear hz hzb hk0
             go_wp2_with fail
             refine (zH8 1099511627776 w (by omega) (by omega)).mono ?_
             rintro e w1 ⟨rfl,hw⟩
             subst hw
             rw [HF.out]
             go_wp2_with fail
             refine (zO1 A _ (by omega)).mono ?_
             rintro e w2 ⟨rfl,hw⟩
             subst hw
             go_wp2
             go_ret
             exact ⟨by rw [hyes.out.2]; rfl,by rw [hyes.out.1]; exact HX.out.1,HX.out.2⟩
           · have hzbb : (bat l k == 0) = false:=by simp [hzb]
             clear hz hzb
             go_wp2_with fail
             refine (zH8 1099511627776 w (by omega) (by omega)).mono ?_
             rintro e w1 ⟨rfl,hw⟩
             subst hw
             rw [HF.out]
             go_wp2_with fail
             refine (zO1 A _ (by omega)).mono ?_
             rintro e w2 ⟨rfl,hw⟩
             subst hw
             go_wp2
             go_ret
             exact ⟨by rw [hyes.out.2]; rfl,by rw [hyes.out.1]; exact HX.out.1,HX.out.2⟩
   · have hno : Hid (numS (some l) = none/\numV (some l) = 0):=by
       have : decA 6 0 0 l = none:=by
        rw [hd.out]
        by_cases h6k : k = 6
        · subst h6k; rfl
        · rw [List.drop_of_length_le (by omega),show 6 - k = 5 - k + 1 by omega,decA]
       exact ⟨by simp [numS,this],by simp [numV,this]⟩
     go_wp2_with fail
     refine (zF8 p w _ _ h1 hD c0 c1 f0 f1).mono ?_
     rintro e w2 ⟨rfl,r1,r2⟩
     go_wp2
     go_ret
     exact ⟨by rw [hno.out.2]; rfl,by rw [hno.out.1]; exact r1,r2⟩
theorem xL6 {D:Nat} (p:Nat) (w:World) (h:RG D w p none) : Calls Tryz.prog 143 #[.pointer (some ⟨p,0,none⟩)] w fun e w'=>e = .returned (.int .i64 0)/\RG D w' p none/\RS w w' p:=by
 obtain ⟨h1,hD,f0,f1,c0,c1⟩:=h
 go_enter Tryz.func143,Tryz.ntmps143
 go_wp2
 refine wp_loop_rounds 1 ?_
 rw [rounds_succ]
 go_wp2_with fail
 refine (zF8 p w _ _ h1 hD c0 c1 f0 f1).mono ?_
 rintro e w2 ⟨rfl,r1,r2⟩
 go_wp2
 go_ret
 exact ⟨rfl,r1,r2⟩
theorem zF2 {D:Nat} (p:Nat) (s:Option (List UInt8)) (w:World) (h:RG D w p s) : Calls Tryz.prog 143 #[.pointer (some ⟨p,0,none⟩)] w fun e w'=>e = .returned (.int .i64 (numV s))/\RG D w' p (numS s)/\RS w w' p:=by
 cases s with
 | none=>exact xL6 p w h
 | some l=>exact xL5 p l w h
def truS (s:Option (List UInt8)) : Option (List UInt8):=if numV s = 0\/numV s = 1 then numS s else none
def cntS (m:Int) (s:Option (List UInt8)) : Option (List UInt8):=if numV s < 0\/m < numV s then none else numS s
def cntV (m:Int) (s:Option (List UInt8)) : Nat:=if numV s < 0\/m < numV s then 0 else (numV s).toNat
theorem RG.cells {D:Nat} {w:World} {p:Nat} {s:Option (List UInt8)} (h:RG D w p s) : ∃ v b,w.cell? ⟨p,0,none⟩ = some v/\w.cell? ⟨p,1,none⟩ = some (.bool b)/\p < w.heap.size/\D<=w.heap.size/\w.frozen? ⟨p,0,none⟩ = false/\w.frozen? ⟨p,1,none⟩ = false:=by
 obtain ⟨h1,hD,f0,f1,h⟩:=h
 cases s with
 | none=>exact ⟨_,_,h.1,h.2,h1,hD,f0,f1⟩
 | some l=>obtain ⟨a,cap,c0,c1,_⟩:=h; exact ⟨_,_,c0,c1,h1,hD,f0,f1⟩
theorem zZ9 {D:Nat} (p:Nat) (s:Option (List UInt8)) (most:Int) (w:World) (hm0:0<=most) (hm1:most<=65536) (h:RG D w p s) : Calls Tryz.prog 174 #[.pointer (some ⟨p,0,none⟩),.int .i64 most] w fun e w'=>e = .returned (.int .i64 (cntV most s:Int))/\RG D w' p (cntS most s)/\RS w w' p/\(cntV most s:Int)<=most:=by
 have HS : Hid (cntS most s = if numV s < 0\/most < numV s then none else numS s):=rfl
 have HV : Hid (cntV most s = if numV s < 0\/most < numV s then 0 else (numV s).toNat):=rfl
 go_enter Tryz.func174,Tryz.ntmps174
 go_wp2_with fail
 refine (zF2 p s w h).mono ?_
 rintro e w1 ⟨rfl,r1,s1⟩
 generalize numV s = V at *
 obtain ⟨cv,cb,c0,c1,hp,hD,f0,f1⟩:=r1.cells
 by_cases hneg : V < 0
 · have e1:=HS.out
   have e2:=HV.out
   rw [if_pos (.inl hneg)] at e1 e2
   have E1 : Hid _:=e1
   have E2 : Hid _:=e2
   clear e1 e2 HS HV
   go_wp2_with fail
   refine (zF8 p w1 _ _ hp hD c0 c1 f0 f1).mono ?_
   rintro e w2 ⟨rfl,r2,s2⟩
   go_wp2
   go_ret
   exact ⟨by rw [E2.out]; rfl,by rw [E1.out]; exact r2,s1.trans s2,by rw [E2.out]; omega⟩
 · by_cases hbig : most < V
   · have e1:=HS.out
     have e2:=HV.out
     rw [if_pos (.inr hbig)] at e1 e2
     have E1 : Hid _:=e1
     have E2 : Hid _:=e2
     clear e1 e2 HS HV
     go_wp2_with fail
     refine (zF8 p w1 _ _ hp hD c0 c1 f0 f1).mono ?_
     rintro e w2 ⟨rfl,r2,s2⟩
     go_wp2
     go_ret
     exact ⟨by rw [E2.out]; rfl,by rw [E1.out]; exact r2,s1.trans s2,by rw [E2.out]; omega⟩
   · have e1:=HS.out
     have e2:=HV.out
     rw [if_neg (by omega)] at e1 e2
     have E1 : Hid _:=e1
     have E2 : Hid _:=e2
     clear e1 e2 HS HV
     go_wp2
     go_ret
     exact ⟨by rw [E2.out,Int.toNat_of_nonneg (by omega)]; rfl,by rw [E1.out]; exact r1,s1,by rw [E2.out]; omega⟩
end
end Go.Proofs.YtocoimjhglackaaGreat
