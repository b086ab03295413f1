/- Ia, Ib -/
import Derived.Test.YtocoimjhglackaaGreatQ36
set_option maxHeartbeats 8000000
set_option maxRecDepth 100000
namespace Go.Proofs.YtocoimjhglackaaGreat
section
open Go.RowKit
theorem hidI {p : Prop} (h : p) : Hid p := h
def RI (D : Nat) (w : World) (p : Nat) (l : List UInt8) (bad : Bool) : Prop :=
 p < w.heap.size /\ D <= w.heap.size /\ w.frozen? ⟨p, 0, none⟩ = false /\ w.frozen? ⟨p, 1, none⟩ = false /\ w.cell? ⟨p, 1, none⟩ = some (.bool bad) /\
 ∃ a cap, w.cell? ⟨p, 0, none⟩ = some (.slice a l.length cap) /\ l.length <= cap /\ Bs w a l /\ (∀ x, a = some x -> x.block ≠ p /\ x.block < D)
theorem RI.ext {D B : Nat} {w w' : World} {p : Nat} {l : List UInt8} {bad : Bool} (h : RI D w p l bad) (hb : Below B w w') (hp : p < B) (hD : D <= B) : RI D w' p l bad := by
 obtain ⟨h1, h2, f0, f1, c1, a, cap, c0, hc, hbs, hne⟩ := h
 have hbk := hb.block p hp
 refine ⟨Nat.lt_of_lt_of_le h1 hb.size, Nat.le_trans h2 hb.size, ?_, ?_, (World.cell?_of_block (a := ⟨p, 1, none⟩) hbk).trans c1, a, cap, (World.cell?_of_block (a := ⟨p, 0, none⟩) hbk).trans c0, hc, hbs.below hb (fun x hx => Nat.lt_of_lt_of_le (hne x hx).2 hD), hne⟩
 · unfold World.frozen? at f0 ⊢; rw [hbk]; exact f0
 · unfold World.frozen? at f1 ⊢; rw [hbk]; exact f1
theorem RI.toBad {D : Nat} {w : World} {p : Nat} {l : List UInt8} {bad : Bool} (h : RI D w p l bad) (b' : Bool) : RI D (w.setCell ⟨p, 1, none⟩ (.bool b')) p l b' /\ RS w (w.setCell ⟨p, 1, none⟩ (.bool b')) p := by
 obtain ⟨h1, h2, f0, f1, c1, a, cap, c0, hc, hbs, hne⟩ := h
 have hs : RS w (w.setCell ⟨p, 1, none⟩ (.bool b')) p := ⟨rfl, rfl, rfl, by simp, fun j _ hp => Below.heap_setCell w ⟨p, 1, none⟩ _ j hp⟩
 refine ⟨⟨by simpa using h1, by simpa using h2, by rw [World.frozen?_setCell]; exact f0, by rw [World.frozen?_setCell]; exact f1, World.cell?_setCell_same w _ _ c1, a, cap, ?_, hc, hbs.rs hs (fun x hx => (hne x hx).1), hne⟩, hs⟩
 rw [World.cell?_setCell_other w _ _ _ (by simp)]; exact c0
theorem RI.toNil {D : Nat} {w : World} {p : Nat} {l : List UInt8} {bad : Bool} (h : RI D w p l bad) : RI D (w.setCell ⟨p, 0, none⟩ (.slice none 0 0)) p [] bad /\ RS w (w.setCell ⟨p, 0, none⟩ (.slice none 0 0)) p := by
 obtain ⟨h1, h2, f0, f1, c1, a, cap, c0, hc, hbs, hne⟩ := h
 have hs : RS w (w.setCell ⟨p, 0, none⟩ (.slice none 0 0)) p := ⟨rfl, rfl, rfl, by simp, fun j _ hp => Below.heap_setCell w ⟨p, 0, none⟩ _ j hp⟩
 refine ⟨⟨by simpa using h1, by simpa using h2, by rw [World.frozen?_setCell]; exact f0, by rw [World.frozen?_setCell]; exact f1, ?_, none, 0, World.cell?_setCell_same w _ _ c0, Nat.le_refl _, ⟨by simp, fun h => absurd rfl h⟩, fun x hx => by cases hx⟩, hs⟩
 rw [World.cell?_setCell_other w _ _ _ (by simp)]; exact c1
theorem RI.next {D : Nat} {w : World} {p u cap : Nat} {a : Option Addr} {l : List UInt8} {bad : Bool} (h : RI D w p l bad) (c0 : w.cell? ⟨p, 0, none⟩ = some (.slice a l.length cap)) (hu : u <= l.length) (v : Value)
    (hv : v = .slice (if cap = u then a else a.map (·.add u)) (l.length - u) (cap - u)) : RI D (w.setCell ⟨p, 0, none⟩ v) p (l.drop u) bad /\ RS w (w.setCell ⟨p, 0, none⟩ v) p := by
 obtain ⟨h1, hD, f0, f1, c1, a', cap', c0', hcap, hbs, hne⟩ := h
 rw [c0] at c0'
 cases c0'
 have hs : RS w (w.setCell ⟨p, 0, none⟩ v) p := ⟨rfl, rfl, rfl, by simp, fun j _ hp => Below.heap_setCell w ⟨p, 0, none⟩ v j hp⟩
 have hne2 : ∀ x, (if cap = u then a else a.map (·.add u)) = some x -> x.block ≠ p /\ x.block < D := by
  intro x hx
  split at hx
  · exact hne x hx
  · cases a with
    | none => simp at hx
    | some y =>
     simp at hx
     have hy := hne y rfl
     rw [<- hx]
     unfold Addr.add
     split <;> exact hy
 refine ⟨⟨by simpa using h1, by simpa using hD, by rw [World.frozen?_setCell]; exact f0, by rw [World.frozen?_setCell]; exact f1, ?_, _, cap - u, ?_, by rw [List.length_drop]; omega, (xF7 hbs hu hcap).rs hs (fun x hx => (hne2 x hx).1), hne2⟩, hs⟩
 · rw [World.cell?_setCell_other w _ _ _ (by simp)]; exact c1
 · rw [List.length_drop, <- hv]; exact World.cell?_setCell_same w _ _ c0
def Rd (f : Fm) (l : List UInt8) (bad : Bool) (v : Vl f) (l' : List UInt8) (bad' : Bool) : Prop :=
 (en f v).2 = false /\ (bad = false -> ∀ r, (de f (some l)).2 = some r -> v = (de f (some l)).1 /\ l' = r /\ bad' = false)
def OutI (D : Nat) (w : World) (p : Nat) (f : Fm) (l : List UInt8) (bad : Bool) (v : Vl f) (w' : World) : Prop := ∃ l' bad', Rd f l bad v l' bad' /\ RI D w' p l' bad' /\ RS w w' p
def InO (D : Nat) (w : World) (p : Nat) (l : List UInt8) (bad : Bool) (n m : Int) (w' : World) : Prop := ∃ bad', ((-1099511627776 <= n /\ n <= 1099511627776) -> m = n /\ bad' = bad) /\ RI D w' p l bad' /\ RS w w' p
theorem in_i {D : Nat} (p : Nat) (l : List UInt8) (bad : Bool) (n : Int) (w : World) (h : RI D w p l bad) : Calls Tryz.prog 128 #[.pointer (some ⟨p, 0, none⟩), .int .i64 n] w fun e w' =>
    ∃ (m : Int), e = .returned (.int .i64 m) /\ (-1099511627776 <= m /\ m <= 1099511627776) /\ InO D w p l bad n m w' := by
 have HT := hidI (h.toBad true)
 have HH := hidI h
 obtain ⟨h1, hD, f0, f1, c1, a, cap, c0, hcap, hbs, hne⟩ := h
 clear hbs hne hcap
 by_cases ha : n < -1099511627776
 · go_enter Tryz.func128, Tryz.ntmps128
   go_wp2
   go_ret
   exact ⟨0, rfl, by omega, true, fun h => by omega, HT.out.1, HT.out.2⟩
 · by_cases hb : 1099511627776 < n
   · go_enter Tryz.func128, Tryz.ntmps128
     go_wp2
     go_ret
     exact ⟨0, rfl, by omega, true, fun h => by omega, HT.out.1, HT.out.2⟩
   · go_enter Tryz.func128, Tryz.ntmps128
     go_wp2
     go_ret
     exact ⟨n, rfl, by omega, bad, fun h => ⟨rfl, rfl⟩, HH.out, RS.refl _ _⟩
theorem yB7 (l : List UInt8) (bad bad' : Bool) (m : Int) (l' : List UInt8) (h : -1099511627776 <= m /\ m <= 1099511627776) (hp : bad = false -> ∀ r, numS (some l) = some r -> m = numV (some l) /\ l' = r /\ bad' = false) : Rd .num l bad m l' bad' := by
 refine ⟨?_, hp⟩
 show (enN m).2 = false
 rw [yU7 m h.1 h.2]
theorem xW7 (l : List UInt8) (k acc A : Nat) (_hk : k < 6) (hA : A = acc + bn l k % 128 * 128 ^ k) (hb : A < 4398046511104) : wrap64 ((acc : Int) + wrap64 (bat l k % 128 * 2 ^ (7 * k))) = (A : Int) := by
 have e : (bat l k % 128 * 2 ^ (7 * k)) = ((bn l k % 128 * 128 ^ k : Nat) : Int) := by
  unfold bat
  rw [yS7]
  simp
 rw [e]
 unfold wrap64
 omega
theorem yZ5 (A : Nat) (h : A % 2 = 1) : zE3 A = -(((A : Int) + 1) / 2) := by unfold zE3; rw [if_pos h]
theorem yR4 (A : Nat) (h : ¬ A % 2 = 1) : zE3 A = (A : Int) / 2 := by unfold zE3; rw [if_neg h]
theorem zF5 {D : Nat} (p : Nat) (l : List UInt8) (bad : Bool) (w : World) (h : RI D w p l bad) : Calls Tryz.prog 103 #[.pointer (some ⟨p, 0, none⟩)] w fun e w' =>
    ∃ (m : Int), e = .returned (.int .i64 m) /\ (-1099511627776 <= m /\ m <= 1099511627776) /\ OutI D w p .num l bad m w' := by
 have HH := hidI h
 obtain ⟨h1, hD, f0, f1, c1, a, cap, c0, hcap, hbs, hne⟩ := h
 have hlen := hbs.1
 clear hne
 go_enter Tryz.func103, Tryz.ntmps103
 go_wp2
 go_loop [3, 4] (fun u i => ∃ k acc : Nat, k <= l.length /\ k <= 6 /\ i = .int .i64 k /\ u = .int .i64 acc /\ Hid (acc < 128 ^ k) /\ Hid (decA 6 0 0 l = decA (6 - k) k acc (l.drop k))) (fun _ i => 6 - (intOf i).toNat)
 case atStart => exact ⟨0, 0, Nat.zero_le _, by omega, rfl, rfl, (by show 0 < 128 ^ 0; decide), rfl⟩
 case round =>
  obtain ⟨k, acc, hk, hk6, rfl, rfl, ha, hd⟩ := hrel
  by_cases hlt : k < l.length
  · by_cases h6 : k < 6
    · obtain ⟨b, off, rfl, hb, hc⟩ := hbs.2 (by intro e; simp [e] at hlt)
      have hck := hc k hlt
      have b0 := zO8 l k
      have b1 := zO9 l k
      have hacc : acc + bn l k % 128 * 128 ^ k < 128 ^ (k + 1) := by
       have h1 : bn l k % 128 * 128 ^ k <= 127 * 128 ^ k := Nat.mul_le_mul_right _ (by have := Nat.mod_lt (bn l k) (show 128 > 0 by omega); omega)
       have := ha.out
       rw [Nat.pow_succ]; omega
      have hp6 : 128 ^ (k + 1) <= 128 ^ 6 := Nat.pow_le_pow_right (by omega) (by omega)
      have hp62 : (128 : Nat) ^ 6 = 4398046511104 := by decide
      have hdk : Hid (decA 6 0 0 l = decA (5 - k + 1) k acc (l.getD k 0 :: l.drop (k + 1))) := by
       show _ = _
       rw [hd.out, zZ7 l k hlt, show 6 - k = 5 - k + 1 by omega]
      obtain ⟨A, hA⟩ : ∃ A, A = acc + bn l k % 128 * 128 ^ k := ⟨_, rfl⟩
      rw [<- hA] at hacc
      have HAcc : Hid (A < 128 ^ (k + 1)) := hacc
      have hA42 : A < 4398046511104 := by omega
      have hor := xW7 l k acc A h6 hA hA42
      have HAe : Hid (A = acc + (l.getD k 0).toNat % 128 * 128 ^ k) := hA
      clear hA hacc hp6 hp62
      by_cases hbig : 128 <= bat l k
      · have hd2 : Hid (decA 6 0 0 l = decA (6 - (k + 1)) (k + 1) A (l.drop (k + 1))) := by
          show _ = _
          rw [hdk.out, yA4 _ _ _ _ _ (by unfold bat bn at hbig; omega), HAe.out, show 6 - (k + 1) = 5 - k by omega]
        have HOR := hidI hor
        go_wp2
        exact ⟨⟨k + 1, A, by omega, by omega, by go_num, by first | rfl | rw [HOR.out], HAcc, hd2⟩, by simp [intOf]; omega⟩
      · have hsm : bat l k <= 127 := by omega
        have hdsm : Hid (decA 6 0 0 l = if 2199023255552 < A \/ (bn l k = 0 /\ 0 < k) then none else some (A, l.drop (k + 1))) := by
         show _ = _
         rw [hdk.out, decA, if_neg (by unfold bat bn at hbig; omega), <- HAe.out]; rfl
        have HD : Hid (∀ r, numS (some l) = some r -> r = l.drop (k + 1) /\ numV (some l) = zE3 A /\ A <= 2199023255552 /\ ¬ (bat l k = 0 /\ 0 < k)) := by
         intro r hr
         by_cases hq : 2199023255552 < A \/ (bn l k = 0 /\ 0 < k)
         · have : decA 6 0 0 l = none := by rw [hdsm.out, if_pos hq]
           simp [numS, this] at hr
         · have : decA 6 0 0 l = some (A, l.drop (k + 1)) := by rw [hdsm.out, if_neg hq]
           simp [numS, this] at hr
           refine ⟨hr.symm, by simp [numV, this], by omega, fun hz => hq (.inr ⟨by have := hz.1; unfold bat at this; omega, hz.2⟩)⟩
        clear hdk hdsm hc hlen
        by_cases hA2 : A % 2 = 1
        · cases bad with
          | true =>
           obtain ⟨a3, HA3, hsl⟩ : ∃ a3, Hid (a3 = if cap = k + 1 then some ⟨b, off, none⟩ else (some (⟨b, off, none⟩ : Addr)).map (·.add (k + 1))) /\ ∀ w, (Instr.slice 22 (.slice (some ⟨b, off, none⟩) l.length cap) (some (.int .i64 ((k : Int) + 1))) none none).run Tryz.prog w = .ok (.slice a3 (l.length - (k + 1)) (cap - (k + 1))) w :=
            ⟨_, rfl, zD1 (some ⟨b, off, none⟩) l.length cap (k + 1) _ (by omega) (by omega)⟩
           have hnx := HH.out.next c0 (u := k + 1) (by omega) (.slice a3 (l.length - (k + 1)) (cap - (k + 1))) (by rw [HA3.out])
           have hny := hnx.1.toBad true
           have HX := hidI hny.1
           have HY := hidI (hnx.2.trans hny.2)
           clear hnx hny
           have hpar : ((A : Int) % 2 == 1) = true := by simp; omega
           have hneg : wrap64 (-((A : Int) + 1).tdiv 2) = -(((A : Int) + 1) / 2) := by
            rw [Int.tdiv_eq_ediv_of_nonneg (by omega)]
            unfold wrap64; omega
           go_wp2_with fail
           refine (in_i p _ true _ _ HX.out).mono ?_
           rintro e w2 ⟨m, rfl, hm, ⟨bad2, him, hri, hrs⟩⟩
           have HF := hidI (show OutI D w p .num l true m w2 from ⟨_, bad2, yB7 l true bad2 m _ hm (fun h => by cases h), hri, HY.out.trans hrs⟩)
           clear him hri hrs
           go_wp2
           go_ret
           exact ⟨m, rfl, hm, HF.out⟩
          | false =>
           by_cases hk0 : 0 < k
           · by_cases hz : bat l k = 0
             · have hkp : (0 : Int) < (k : Int) := by omega
               have hzb : (bat l k == 0) = true := by simp [hz]
               have HZ := hidI hz
               clear hz
               obtain ⟨a3, HA3, hsl⟩ : ∃ a3, Hid (a3 = if cap = k + 1 then some ⟨b, off, none⟩ else (some (⟨b, off, none⟩ : Addr)).map (·.add (k + 1))) /\ ∀ w, (Instr.slice 22 (.slice (some ⟨b, off, none⟩) l.length cap) (some (.int .i64 ((k : Int) + 1))) none none).run Tryz.prog w = .ok (.slice a3 (l.length - (k + 1)) (cap - (k + 1))) w :=
                ⟨_, rfl, zD1 (some ⟨b, off, none⟩) l.length cap (k + 1) _ (by omega) (by omega)⟩
               have hnx := HH.out.next c0 (u := k + 1) (by omega) (.slice a3 (l.length - (k + 1)) (cap - (k + 1))) (by rw [HA3.out])
               have hny := hnx.1.toBad true
               have HX := hidI hny.1
               have HY := hidI (hnx.2.trans hny.2)
               clear hnx hny
               have hpar : ((A : Int) % 2 == 1) = true := by simp; omega
               have hneg : wrap64 (-((A : Int) + 1).tdiv 2) = -(((A : Int) + 1) / 2) := by
                rw [Int.tdiv_eq_ediv_of_nonneg (by omega)]
                unfold wrap64; omega
               go_wp2_with fail
               refine (in_i p _ true _ _ HX.out).mono ?_
               rintro e w2 ⟨m, rfl, hm, ⟨bad2, him, hri, hrs⟩⟩
               have HF := hidI (show OutI D w p .num l false m w2 from ⟨_, bad2, yB7 l false bad2 m _ hm (fun _ r hr => absurd ⟨HZ.out, by omega⟩ (HD.out r hr).2.2.2), hri, HY.out.trans hrs⟩)
               clear him hri hrs
               go_wp2
               go_ret
               exact ⟨m, rfl, hm, HF.out⟩
             · have hkp : (0 : Int) < (k : Int) := by omega
               have hzb : (bat l k == 0) = false := by simp [hz]
               clear hz
               obtain ⟨a3, HA3, hsl⟩ : ∃ a3, Hid (a3 = if cap = k + 1 then some ⟨b, off, none⟩ else (some (⟨b, off, none⟩ : Addr)).map (·.add (k + 1))) /\ ∀ w, (Instr.slice 22 (.slice (some ⟨b, off, none⟩) l.length cap) (some (.int .i64 ((k : Int) + 1))) none none).run Tryz.prog w = .ok (.slice a3 (l.length - (k + 1)) (cap - (k + 1))) w :=
                ⟨_, rfl, zD1 (some ⟨b, off, none⟩) l.length cap (k + 1) _ (by omega) (by omega)⟩
               have hnx := HH.out.next c0 (u := k + 1) (by omega) (.slice a3 (l.length - (k + 1)) (cap - (k + 1))) (by rw [HA3.out])
               have hny := hnx.1.toBad false
               have HX := hidI hny.1
               have HY := hidI (hnx.2.trans hny.2)
               clear hnx hny
               have hpar : ((A : Int) % 2 == 1) = true := by simp; omega
               have hneg : wrap64 (-((A : Int) + 1).tdiv 2) = -(((A : Int) + 1) / 2) := by
                rw [Int.tdiv_eq_ediv_of_nonneg (by omega)]
                unfold wrap64; omega
               go_wp2_with fail
               refine (in_i p _ false _ _ HX.out).mono ?_
               rintro e w2 ⟨m, rfl, hm, ⟨bad2, him, hri, hrs⟩⟩
               have HF := hidI (show OutI D w p .num l false m w2 from ⟨_, bad2, yB7 l false bad2 m _ hm (fun _ r hr => by
                   have hnn := HD.out r hr
                   have hu := yZ5 A hA2
                   have hle := hnn.2.2.1
                   have hmm := him (by omega)
                   exact ⟨by rw [hmm.1, hnn.2.1, hu], hnn.1.symm, hmm.2⟩), hri, HY.out.trans hrs⟩)
               clear him hri hrs
               go_wp2
               go_ret
               exact ⟨m, rfl, hm, HF.out⟩
           · have hkn : ¬ ((0 : Int) < (k : Int)) := by omega
             obtain ⟨a3, HA3, hsl⟩ : ∃ a3, Hid (a3 = if cap = k + 1 then some ⟨b, off, none⟩ else (some (⟨b, off, none⟩ : Addr)).map (·.add (k + 1))) /\ ∀ w, (Instr.slice 22 (.slice (some ⟨b, off, none⟩) l.length cap) (some (.int .i64 ((k : Int) + 1))) none none).run Tryz.prog w = .ok (.slice a3 (l.length - (k + 1)) (cap - (k + 1))) w :=
              ⟨_, rfl, zD1 (some ⟨b, off, none⟩) l.length cap (k + 1) _ (by omega) (by omega)⟩
             have hnx := HH.out.next c0 (u := k + 1) (by omega) (.slice a3 (l.length - (k + 1)) (cap - (k + 1))) (by rw [HA3.out])
             have hny := hnx.1.toBad false
             have HX := hidI hny.1
             have HY := hidI (hnx.2.trans hny.2)
             clear hnx hny
             have hpar : ((A : Int) % 2 == 1) = true := by simp; omega
             have hneg : wrap64 (-((A : Int) + 1).tdiv 2) = -(((A : Int) + 1) / 2) := by
              rw [Int.tdiv_eq_ediv_of_nonneg (by omega)]
              unfold wrap64; omega
             go_wp2_with fail
             refine (in_i p _ false _ _ HX.out).mono ?_
             rintro e w2 ⟨m, rfl, hm, ⟨bad2, him, hri, hrs⟩⟩
             have HF := hidI (show OutI D w p .num l false m w2 from ⟨_, bad2, yB7 l false bad2 m _ hm (fun _ r hr => by
                 have hnn := HD.out r hr
                 have hu := yZ5 A hA2
                 have hle := hnn.2.2.1
                 have hmm := him (by omega)
                 exact ⟨by rw [hmm.1, hnn.2.1, hu], hnn.1.symm, hmm.2⟩), hri, HY.out.trans hrs⟩)
             clear him hri hrs
             go_wp2
             go_ret
             exact ⟨m, rfl, hm, HF.out⟩
        · cases bad with
          | true =>
           obtain ⟨a3, HA3, hsl⟩ : ∃ a3, Hid (a3 = if cap = k + 1 then some ⟨b, off, none⟩ else (some (⟨b, off, none⟩ : Addr)).map (·.add (k + 1))) /\ ∀ w, (Instr.slice 22 (.slice (some ⟨b, off, none⟩) l.length cap) (some (.int .i64 ((k : Int) + 1))) none none).run Tryz.prog w = .ok (.slice a3 (l.length - (k + 1)) (cap - (k + 1))) w :=
            ⟨_, rfl, zD1 (some ⟨b, off, none⟩) l.length cap (k + 1) _ (by omega) (by omega)⟩
           have hnx := HH.out.next c0 (u := k + 1) (by omega) (.slice a3 (l.length - (k + 1)) (cap - (k + 1))) (by rw [HA3.out])
           have hny := hnx.1.toBad true
           have HX := hidI hny.1
           have HY := hidI (hnx.2.trans hny.2)
           clear hnx hny
           have hpar : ((A : Int) % 2 == 1) = false := by simp; omega
           go_wp2_with fail
           refine (in_i p _ true _ _ HX.out).mono ?_
           rintro e w2 ⟨m, rfl, hm, ⟨bad2, him, hri, hrs⟩⟩
           have HF := hidI (show OutI D w p .num l true m w2 from ⟨_, bad2, yB7 l true bad2 m _ hm (fun h => by cases h), hri, HY.out.trans hrs⟩)
           clear him hri hrs
           go_wp2
           go_ret
           exact ⟨m, rfl, hm, HF.out⟩
          | false =>
           by_cases hk0 : 0 < k
           · by_cases hz : bat l k = 0
             · have hkp : (0 : Int) < (k : Int) := by omega
               have hzb : (bat l k == 0) = true := by simp [hz]
               have HZ := hidI hz
               clear hz
               obtain ⟨a3, HA3, hsl⟩ : ∃ a3, Hid (a3 = if cap = k + 1 then some ⟨b, off, none⟩ else (some (⟨b, off, none⟩ : Addr)).map (·.add (k + 1))) /\ ∀ w, (Instr.slice 22 (.slice (some ⟨b, off, none⟩) l.length cap) (some (.int .i64 ((k : Int) + 1))) none none).run Tryz.prog w = .ok (.slice a3 (l.length - (k + 1)) (cap - (k + 1))) w :=
                ⟨_, rfl, zD1 (some ⟨b, off, none⟩) l.length cap (k + 1) _ (by omega) (by omega)⟩
               have hnx := HH.out.next c0 (u := k + 1) (by omega) (.slice a3 (l.length - (k + 1)) (cap - (k + 1))) (by rw [HA3.out])
               have hny := hnx.1.toBad true
               have HX := hidI hny.1
               have HY := hidI (hnx.2.trans hny.2)
               clear hnx hny
               have hpar : ((A : Int) % 2 == 1) = false := by simp; omega
               go_wp2_with fail
               refine (in_i p _ true _ _ HX.out).mono ?_
               rintro e w2 ⟨m, rfl, hm, ⟨bad2, him, hri, hrs⟩⟩
               have HF := hidI (show OutI D w p .num l false m w2 from ⟨_, bad2, yB7 l false bad2 m _ hm (fun _ r hr => absurd ⟨HZ.out, by omega⟩ (HD.out r hr).2.2.2), hri, HY.out.trans hrs⟩)
               clear him hri hrs
               go_wp2
               go_ret
               exact ⟨m, rfl, hm, HF.out⟩
             · have hkp : (0 : Int) < (k : Int) := by omega
               have hzb : (bat l k == 0) = false := by simp [hz]
               clear hz
               obtain ⟨a3, HA3, hsl⟩ : ∃ a3, Hid (a3 = if cap = k + 1 then some ⟨b, off, none⟩ else (some (⟨b, off, none⟩ : Addr)).map (·.add (k + 1))) /\ ∀ w, (Instr.slice 22 (.slice (some ⟨b, off, none⟩) l.length cap) (some (.int .i64 ((k : Int) + 1))) none none).run Tryz.prog w = .ok (.slice a3 (l.length - (k + 1)) (cap - (k + 1))) w :=
                ⟨_, rfl, zD1 (some ⟨b, off, none⟩) l.length cap (k + 1) _ (by omega) (by omega)⟩
               have hnx := HH.out.next c0 (u := k + 1) (by omega) (.slice a3 (l.length - (k + 1)) (cap - (k + 1))) (by rw [HA3.out])
               have hny := hnx.1.toBad false
               have HX := hidI hny.1
               have HY := hidI (hnx.2.trans hny.2)
               clear hnx hny
               have hpar : ((A : Int) % 2 == 1) = false := by simp; omega
               go_wp2_with fail
               refine (in_i p _ false _ _ HX.out).mono ?_
               rintro e w2 ⟨m, rfl, hm, ⟨bad2, him, hri, hrs⟩⟩
               have HF := hidI (show OutI D w p .num l false m w2 from ⟨_, bad2, yB7 l false bad2 m _ hm (fun _ r hr => by
                   have hnn := HD.out r hr
                   have hu := yR4 A hA2
                   have hle := hnn.2.2.1
                   have hmm := him (by omega)
                   exact ⟨by rw [hmm.1, hnn.2.1, hu], hnn.1.symm, hmm.2⟩), hri, HY.out.trans hrs⟩)
               clear him hri hrs
               go_wp2
               go_ret
               exact ⟨m, rfl, hm, HF.out⟩
           · have hkn : ¬ ((0 : Int) < (k : Int)) := by omega
             obtain ⟨a3, HA3, hsl⟩ : ∃ a3, Hid (a3 = if cap = k + 1 then some ⟨b, off, none⟩ else (some (⟨b, off, none⟩ : Addr)).map (·.add (k + 1))) /\ ∀ w, (Instr.slice 22 (.slice (some ⟨b, off, none⟩) l.length cap) (some (.int .i64 ((k : Int) + 1))) none none).run Tryz.prog w = .ok (.slice a3 (l.length - (k + 1)) (cap - (k + 1))) w :=
              ⟨_, rfl, zD1 (some ⟨b, off, none⟩) l.length cap (k + 1) _ (by omega) (by omega)⟩
             have hnx := HH.out.next c0 (u := k + 1) (by omega) (.slice a3 (l.length - (k + 1)) (cap - (k + 1))) (by rw [HA3.out])
             have hny := hnx.1.toBad false
             have HX := hidI hny.1
             have HY := hidI (hnx.2.trans hny.2)
             clear hnx hny
             have hpar : ((A : Int) % 2 == 1) = false := by simp; omega
             go_wp2_with fail
             refine (in_i p _ false _ _ HX.out).mono ?_
             rintro e w2 ⟨m, rfl, hm, ⟨bad2, him, hri, hrs⟩⟩
             have HF := hidI (show OutI D w p .num l false m w2 from ⟨_, bad2, yB7 l false bad2 m _ hm (fun _ r hr => by
                 have hnn := HD.out r hr
                 have hu := yR4 A hA2
                 have hle := hnn.2.2.1
                 have hmm := him (by omega)
                 exact ⟨by rw [hmm.1, hnn.2.1, hu], hnn.1.symm, hmm.2⟩), hri, HY.out.trans hrs⟩)
             clear him hri hrs
             go_wp2
             go_ret
             exact ⟨m, rfl, hm, HF.out⟩
    · have hno : Hid (numS (some l) = none) := by
        have : decA 6 0 0 l = none := by rw [hd.out, show 6 - k = 0 by omega]; rfl
        simp [Hid, numS, this]
      have hk : k = 6 := by omega
      have HT := hidI (HH.out.toBad true)
      have HN := hidI (HT.out.1.toNil)
      go_wp2
      go_ret
      exact ⟨0, rfl, by omega, [], true, yB7 l bad true 0 [] (by omega) (fun _ r hr => by rw [hno.out] at hr; cases hr), HN.out.1, HT.out.2.trans HN.out.2⟩
  · have hkl : k = l.length := by omega
    have hno : Hid (numS (some l) = none) := by
     have : decA 6 0 0 l = none := by rw [hd.out, hkl, List.drop_length]; cases (6 - l.length) <;> rfl
     simp [Hid, numS, this]
    have HT := hidI (HH.out.toBad true)
    have HN := hidI (HT.out.1.toNil)
    clear hkl
    go_wp2
    go_ret
    exact ⟨0, rfl, by omega, [], true, yB7 l bad true 0 [] (by omega) (fun _ r hr => by rw [hno.out] at hr; cases hr), HN.out.1, HT.out.2.trans HN.out.2⟩
end
section
open Go.RowKit
theorem Rd.cat {a b : Fm} {l l1 l2 : List UInt8} {bad b1 b2 : Bool} {x : Vl a} {y : Vl b} (h1 : Rd a l bad x l1 b1) (h2 : Rd b l1 b1 y l2 b2) : Rd (.cat a b) l bad (x, y) l2 b2 := by
 refine ⟨by show ((en a x).2 || (en b y).2) = false; rw [h1.1, h2.1]; rfl, fun hb r hr => ?_⟩
 have hr' : (de b (de a (some l)).2).2 = some r := hr
 cases hs : (de a (some l)).2 with
 | none => rw [hs, zP7] at hr'; cases hr'
 | some r1 =>
  obtain ⟨e1, e2, e3⟩ := h1.2 hb r1 hs
  rw [hs] at hr'
  subst e2
  obtain ⟨f1, f2, f3⟩ := h2.2 e3 r hr'
  refine ⟨?_, f2, f3⟩
  show (x, y) = ((de a (some l)).1, (de b (de a (some l)).2).1)
  rw [hs, <- e1, <- f1]
theorem xG6 {l l1 : List UInt8} {bad b1 b' : Bool} {m : Int} (h : Rd .num l bad m l1 b1) (hb' : b1 = false -> (m = 0 \/ m = 1) -> b' = false) : Rd .tru l bad (decide (m = 1)) l1 b' := by
 refine ⟨rfl, fun hb r hr => ?_⟩
 have hr' : truS (some l) = some r := hr
 unfold truS at hr'
 split at hr'
 · next hq =>
   obtain ⟨e1, e2, e3⟩ := h.2 hb r hr'
   have e1' : m = numV (some l) := e1
   exact ⟨by show decide (m = 1) = decide (numV (some l) = 1); rw [e1'], e2, hb' e3 (by rw [e1']; exact hq)⟩
 · cases hr'
def kG8 (D : Nat) (w : World) (p : Nat) (l : List UInt8) (bad : Bool) (e : Ending) (w' : World) : Prop := ∃ b : Bool, e = .returned (.bool b) /\ OutI D w p .tru l bad b w'
def kC7 (D : Nat) (w : World) (p : Nat) (l : List UInt8) (bad : Bool) (e : Ending) (w' : World) : Prop :=
 ∃ (n : Nat) (l' : List UInt8) (bad' : Bool), e = .returned (.int .i64 (n : Int)) /\ n <= 64 /\ (bad = false -> ∀ r, cntS 64 (some l) = some r -> n = cntV 64 (some l) /\ l' = r /\ bad' = false) /\ RI D w' p l' bad' /\ RS w w' p
def BytO (D : Nat) (w : World) (p : Nat) (l : List UInt8) (bad : Bool) (e : Ending) (w' : World) : Prop :=
 ∃ (a : Option Addr) (c : Nat) (v : List UInt8), e = .returned (.slice a v.length c) /\ v.length <= c /\ RepB w' (NB w w') a v /\ OutI D w p .byt l bad v w'
theorem yK4 {D : Nat} (p : Nat) (l : List UInt8) (bad : Bool) (w : World) (h : RI D w p l bad) : Calls Tryz.prog 161 #[.pointer (some ⟨p, 0, none⟩)] w fun e w' => kG8 D w p l bad e w' := by
 go_enter Tryz.func161, Tryz.ntmps161
 go_wp2_with fail
 refine (zF5 p l bad w h).mono ?_
 rintro e w1 ⟨m, rfl, hm, l1, b1, rd1, ri1, rs1⟩
 have HT := hidI (ri1.toBad true)
 have HF := hidI (ri1.toBad false)
 have RD := hidI rd1
 have RR := hidI rs1
 obtain ⟨h1, hD, f0, f1, c1, a, cap, c0, hcap, hbs, hne⟩ := ri1
 clear hbs hne hcap rd1 rs1
 cases b1 with
 | true =>
  by_cases hm1 : m = 1
  · subst hm1
    go_wp2
    go_ret
    exact ⟨true, rfl, l1, true, xG6 RD.out (fun h => by cases h), HT.out.1, RR.out.trans HT.out.2⟩
  · have hb2 : (m == 1) = false := by simp; omega
    go_wp2
    go_ret
    refine ⟨false, rfl, l1, true, ?_, HT.out.1, RR.out.trans HT.out.2⟩
    have := xG6 (b' := true) RD.out (fun h => by cases h)
    rwa [show decide (m = 1) = false by simp; omega] at this
 | false =>
  by_cases hm1 : m = 1
  · subst hm1
    go_wp2
    go_ret
    exact ⟨true, rfl, l1, false, xG6 RD.out (fun _ _ => rfl), HF.out.1, RR.out.trans HF.out.2⟩
  · by_cases hm0 : m = 0
    · subst hm0
      go_wp2
      go_ret
      exact ⟨false, rfl, l1, false, xG6 RD.out (fun _ _ => rfl), HF.out.1, RR.out.trans HF.out.2⟩
    · have hb2 : (m == 1) = false := by simp; omega
      have hb0 : (m != 0) = true := by rw [bne_iff_ne]; omega
      have hb1 : (m != 1) = true := by rw [bne_iff_ne]; omega
      go_wp2
      go_ret
      refine ⟨false, rfl, l1, true, ?_, HT.out.1, RR.out.trans HT.out.2⟩
      have := xG6 (b' := true) RD.out (fun _ h => by omega)
      rwa [show decide (m = 1) = false by simp; omega] at this
theorem yH0 {D : Nat} (p : Nat) (l : List UInt8) (bad : Bool) (w : World) (h : RI D w p l bad) : Calls Tryz.prog 131 #[.pointer (some ⟨p, 0, none⟩)] w fun e w' => kC7 D w p l bad e w' := by
 go_enter Tryz.func131, Tryz.ntmps131
 go_wp2_with fail
 refine (zF5 p l bad w h).mono ?_
 rintro e w1 ⟨m, rfl, hm, l1, b1, rd1, ri1, rs1⟩
 have HT := hidI (ri1.toBad true)
 have HR := hidI ri1
 have RR := hidI rs1
 have HP : Hid (bad = false -> ∀ r, cntS 64 (some l) = some r -> 0 <= m /\ m <= 64 /\ m.toNat = cntV 64 (some l) /\ l1 = r /\ b1 = false) := by
  intro hb r hr
  unfold cntS at hr
  split at hr
  · cases hr
  · next hq =>
    obtain ⟨e1, e2, e3⟩ := rd1.2 hb r hr
    have e1' : m = numV (some l) := e1
    refine ⟨by omega, by omega, ?_, e2, e3⟩
    unfold cntV
    rw [if_neg hq, e1']
 obtain ⟨h1, hD, f0, f1, c1, a, cap, c0, hcap, hbs, hne⟩ := ri1
 clear hbs hne hcap rd1 rs1
 by_cases hlo : m < 0
 · go_wp2
   go_ret
   exact ⟨0, l1, true, rfl, by omega, fun hb r hr => absurd (HP.out hb r hr).1 (by omega), HT.out.1, RR.out.trans HT.out.2⟩
 · by_cases hhi : 64 < m
   · go_wp2
     go_ret
     exact ⟨0, l1, true, rfl, by omega, fun hb r hr => absurd (HP.out hb r hr).2.1 (by omega), HT.out.1, RR.out.trans HT.out.2⟩
   · obtain ⟨n, hn⟩ : ∃ n : Nat, m = (n : Int) := ⟨m.toNat, by omega⟩
     subst hn
     go_wp2
     go_ret
     exact ⟨n, l1, b1, rfl, by omega, fun hb r hr => ⟨by have := (HP.out hb r hr).2.2.1; omega, (HP.out hb r hr).2.2.2⟩, HR.out, RR.out⟩
theorem xM4 {l l1 l2 : List UInt8} {bad b1 b2 : Bool} {m : Int} {v : List UInt8} (h : Rd .num l bad m l1 b1) (hv : v.length <= 65536) (ho : b1 = false -> 0 <= m -> m <= 65536 -> m <= (l1.length : Int) -> v = l1.take m.toNat /\ l2 = l1.drop m.toNat /\ b2 = false) : Rd .byt l bad v l2 b2 := by
 refine ⟨by show (if v.length <= 65536 then (enc (v.length : Int) ++ v, false) else ([], true)).2 = false; rw [if_pos hv], fun hb r hr => ?_⟩
 have hr' : bytT (some l) = some r := hr
 show v = bytV (some l) /\ l2 = r /\ b2 = false
 unfold bytT at hr'
 unfold bytV
 cases hc : cntS 65536 (some l) with
 | none => rw [hc] at hr'; cases hr'
 | some q =>
  rw [hc] at hr'
  have hc2 := hc
  unfold cntS at hc2
  split at hc2
  · cases hc2
  · next hq =>
    obtain ⟨e1, e2, e3⟩ := h.2 hb q hc2
    have e1' : m = numV (some l) := e1
    subst e2
    have hcv : cntV 65536 (some l) = m.toNat := by unfold cntV; rw [if_neg hq, e1']
    have hr2 : (if l1.length < cntV 65536 (some l) then none else some (l1.drop (cntV 65536 (some l)))) = some r := hr'
    rw [hcv] at hr2
    split at hr2
    · cases hr2
    · next hlt =>
      obtain ⟨g1, g2, g3⟩ := ho e3 (by omega) (by omega) (by omega)
      refine ⟨?_, ?_, g3⟩
      · show v = if l1.length < cntV 65536 (some l) then [] else l1.take (cntV 65536 (some l))
        rw [hcv, if_neg hlt]; exact g1
      · rw [g2]; exact Option.some.inj hr2
theorem xV8 {D : Nat} (p : Nat) (l : List UInt8) (bad : Bool) (w : World) (h : RI D w p l bad) : Calls Tryz.prog 106 #[.pointer (some ⟨p, 0, none⟩)] w fun e w' => BytO D w p l bad e w' := by
 have HPW := hidI h.1
 go_enter Tryz.func106, Tryz.ntmps106
 go_wp2_with fail
 refine (zF5 p l bad w h).mono ?_
 rintro e w1 ⟨m, rfl, hm, l1, b1, rd1, ri1, rs1⟩
 have HT := hidI (ri1.toBad true)
 have HR := hidI ri1
 have RD := hidI rd1
 have RR := hidI rs1
 obtain ⟨h1, hD, f0, f1, c1, a, cap, c0, hcap, hbs, hne⟩ := ri1
 have hll := hbs.1
 have HBS := hidI hbs
 clear hbs hne rd1 rs1
 by_cases hlo : m < 0
 · go_wp2
   go_ret
   exact ⟨none, 0, [], rfl, Nat.le_refl _, ⟨⟨by simp, fun h => absurd rfl h⟩, fun h => absurd rfl h⟩, l1, true, xM4 RD.out (by simp) (fun _ h => by omega), HT.out.1, RR.out.trans HT.out.2⟩
 · by_cases hhi : 65536 < m
   · go_wp2
     go_ret
     exact ⟨none, 0, [], rfl, Nat.le_refl _, ⟨⟨by simp, fun h => absurd rfl h⟩, fun h => absurd rfl h⟩, l1, true, xM4 RD.out (by simp) (fun _ _ h => by omega), HT.out.1, RR.out.trans HT.out.2⟩
   · by_cases hle : (l1.length : Int) < m
     · go_wp2
       go_ret
       exact ⟨none, 0, [], rfl, Nat.le_refl _, ⟨⟨by simp, fun h => absurd rfl h⟩, fun h => absurd rfl h⟩, l1, true, xM4 RD.out (by simp) (fun _ _ _ h => by omega), HT.out.1, RR.out.trans HT.out.2⟩
     · obtain ⟨n, hn⟩ : ∃ n : Nat, m = (n : Int) := ⟨m.toNat, by omega⟩
       subst hn
       have hsl := zX6 a l1.length cap n (by omega)
       have HNT : Hid ((l1.take n).length = n) := by show _ = _; rw [List.length_take]; omega
       have HSRC0 := (HBS.out.firstAny n).src (P := Tryz.prog) Tryz.underlying22 cap
       rw [HNT.out] at HSRC0
       have HSRC : Hid (Src Tryz.prog 1 22 (.slice a n cap) (l1.take n).length (vals (l1.take n)) w1) := by show Src _ _ _ _ _ _ _; rw [HNT.out]; exact HSRC0
       clear HSRC0
       go_upto_region 6 with fail
       go_wp2_with (at_builtin; refine zB6 _ rfl (.tmp 25) (.tmp 31) rfl (.slice none 0 0) [] rfl (.inl ⟨rfl, rfl⟩) (.slice a n cap) (l1.take n) rfl HSRC.out ?len ?next)
       case len => rw [HNT.out]; simp; omega
       case next =>
        intro v2 w2 o2 s2
        have B2 : Below w1.heap.size w1 w2 := s2.belowN
        have r2 := HR.out.ext B2 h1 hD
        have e0 : w2.cell? ⟨p, 0, none⟩ = some (.slice a l1.length cap) := (B2.cell (p := ⟨p, 0, none⟩) h1).trans c0
        have k0 := r2.2.2.1
        have hp2 := r2.1
        obtain ⟨a3, HA3, hsl3⟩ : ∃ a3, Hid (a3 = if cap = n then a else a.map (·.add n)) /\ ∀ w, (Instr.slice 22 (.slice a l1.length cap) (some (.int .i64 (n : Int))) none none).run Tryz.prog w = .ok (.slice a3 (l1.length - n) (cap - n)) w :=
         ⟨_, rfl, zD1 a l1.length cap n _ rfl (by omega)⟩
        have HX := hidI (r2.next e0 (u := n) (by omega) (.slice a3 (l1.length - n) (cap - n)) (by rw [HA3.out]))
        have s12 : RS w w2 p := RR.out.ext (B2.mono RR.out.size)
        obtain ⟨a2, c2, hv2, hbsn⟩ := o2.form
        subst hv2
        have BYT : Hid ((l1.take n).length <= c2 /\ RepB w2 (NB w w2) a2 (l1.take n)) := by
         refine ⟨o2.cap, hbsn (by rw [HNT.out]; omega), fun hne x hx => ?_⟩
         have hob : (Value.slice a2 (l1.take n).length c2).ownBlock = some x.block := by rw [hx]; rfl
         refine ⟨?_, o2.lt _ hob, o2.uf _ hob⟩
         rcases s2.row with e | ⟨q, e, hq⟩
         · rw [hob] at e; cases e
         · rw [hob] at e; cases e; exact Nat.le_trans RR.out.size hq
        have HRS := hidI s12
        clear r2 o2 s2 hsl hbsn s12 B2
        rw [HNT.out]
        go_wp2
        go_ret
        refine ⟨a2, c2, l1.take n, by rw [HNT.out]; rfl, BYT.out.1, ?_, l1.drop n, b1, xM4 RD.out (by rw [HNT.out]; omega) (fun hb _ _ _ => ⟨rfl, rfl, hb⟩), HX.out.1, HRS.out.trans HX.out.2⟩
        exact BYT.out.2.keptN (by simp) (fun b h1 h2 => Below.heap_setCell w2 ⟨p, 0, none⟩ _ b (by have := HPW.out; show b ≠ p; omega)) (Nat.le_refl _)
def RdN (f : Fm) (k : Nat) (l : List UInt8) (bad : Bool) (vs : List (Vl f)) (l' : List UInt8) (bad' : Bool) : Prop :=
 vs.length = k /\ (∀ v ∈ vs, (en f v).2 = false) /\ (bad = false -> ∀ r, (deN (de f) k (some l)).2 = some r -> vs = (deN (de f) k (some l)).1 /\ l' = r /\ bad' = false)
theorem RdN.zero (f : Fm) (l : List UInt8) (bad : Bool) : RdN f 0 l bad [] l bad := by
 refine ⟨rfl, fun v hv => (by cases hv), fun hb r hr => ?_⟩
 have : some l = some r := hr
 exact ⟨rfl, Option.some.inj this, hb⟩
theorem RdN.more {f : Fm} {k : Nat} {l l1 l2 : List UInt8} {bad b1 b2 : Bool} {vs : List (Vl f)} {x : Vl f} (h : RdN f k l bad vs l1 b1) (hx : Rd f l1 b1 x l2 b2) : RdN f (k + 1) l bad (vs ++ [x]) l2 b2 := by
 refine ⟨by rw [List.length_append, h.1]; rfl, fun v hv => ?_, fun hb r hr => ?_⟩
 · rcases List.mem_append.1 hv with q | q
   · exact h.2.1 v q
   · simp at q; subst q; exact hx.1
 · have hr' : (de f (deN (de f) k (some l)).2).2 = some r := hr
   cases hs : (deN (de f) k (some l)).2 with
   | none => rw [hs, zP7] at hr'; cases hr'
   | some r1 =>
    obtain ⟨e1, e2, e3⟩ := h.2.2 hb r1 hs
    rw [hs] at hr'
    subst e2
    obtain ⟨g1, g2, g3⟩ := hx.2 e3 r hr'
    refine ⟨?_, g2, g3⟩
    show vs ++ [x] = (deN (de f) k (some l)).1 ++ [(de f (deN (de f) k (some l)).2).1]
    rw [hs, <- e1, <- g1]
theorem RdN.lst {f : Fm} {n : Nat} {l l1 l2 : List UInt8} {bad b1 b2 : Bool} {vs : List (Vl f)} (hn : n <= 64) (hc : bad = false -> ∀ r, cntS 64 (some l) = some r -> n = cntV 64 (some l) /\ l1 = r /\ b1 = false) (h : RdN f n l1 b1 vs l2 b2) : Rd (.lst f) l bad vs l2 b2 := by
 have hl : vs.length <= 64 := by rw [h.1]; exact hn
 refine ⟨?_, fun hb r hr => ?_⟩
 · show (if vs.length <= 64 then (enc (vs.length : Int) ++ vs.flatMap fun v => (en f v).1, vs.any fun v => (en f v).2) else ([], true)).2 = false
   rw [if_pos hl]
   show (vs.any fun v => (en f v).2) = false
   rw [List.any_eq_false]
   intro v hv
   rw [h.2.1 v hv]
   decide
 · show vs = (de (.lst f) (some l)).1 /\ l2 = r /\ b2 = false
   rw [de] at hr ⊢
   split at hr
   · cases hr
   · next hq =>
     rw [if_neg hq]
     cases hs : cntS 64 (some l) with
     | none =>
      exfalso
      apply hq
      rw [hs]
      have := yG6 (de f) (zP7 f) 0 (cntV 64 (some l)) none rfl
      rwa [Nat.zero_add] at this
     | some q =>
      obtain ⟨e1, e2, e3⟩ := hc hb q hs
      rw [hs] at hr
      subst e2
      rw [<- e1] at hr ⊢
      exact h.2.2 e3 r hr
end
end Go.Proofs.YtocoimjhglackaaGreat
