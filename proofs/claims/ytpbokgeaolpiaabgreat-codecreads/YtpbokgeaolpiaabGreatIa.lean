/- The document's reader: what its numbers, truths, counts and bytes do, whatever is left to read and whether or not it is bad already. -/
import Derived.Test.YtpbokgeaolpiaabGreatVapp
import Derived.Test.YtpbokgeaolpiaabGreatVref
namespace Go.Proofs.YtpbokgeaolpiaabGreat
open Go.RowKit

theorem hidI {p : Prop} (h : p) : Hid p := h
/- the document's reader at block p: the bytes that are left, and whether it is bad -/
def RI (D : Nat) (w : World) (p : Nat) (l : List UInt8) (bad : Bool) : Prop :=
  p < w.heap.size ∧ D ≤ w.heap.size ∧ w.frozen? ⟨p, 0, none⟩ = false ∧ w.frozen? ⟨p, 1, none⟩ = false ∧ w.cell? ⟨p, 1, none⟩ = some (.bool bad) ∧
  ∃ a cap, w.cell? ⟨p, 0, none⟩ = some (.slice a l.length cap) ∧ l.length ≤ cap ∧ Bs w a l ∧ (∀ x, a = some x → x.block ≠ p ∧ x.block < D)
theorem RI.ext {D B : Nat} {w w' : World} {p : Nat} {l : List UInt8} {bad : Bool} (h : RI D w p l bad) (hb : Below B w w') (hp : p < B) (hD : D ≤ B) : RI D w' p l bad := by
  obtain ⟨h1, h2, f0, f1, c1, a, cap, c0, hc, hbs, hne⟩ := h
  have hbk := hb.block p hp
  refine ⟨Nat.lt_of_lt_of_le h1 hb.size, Nat.le_trans h2 hb.size, ?_, ?_, (World.cell?_of_block (a := ⟨p, 1, none⟩) hbk).trans c1, a, cap, (World.cell?_of_block (a := ⟨p, 0, none⟩) hbk).trans c0, hc, hbs.below hb (fun x hx => Nat.lt_of_lt_of_le (hne x hx).2 hD), hne⟩
  · unfold World.frozen? at f0 ⊢; rw [hbk]; exact f0
  · unfold World.frozen? at f1 ⊢; rw [hbk]; exact f1
theorem RI.toBad {D : Nat} {w : World} {p : Nat} {l : List UInt8} {bad : Bool} (h : RI D w p l bad) (b' : Bool) : RI D (w.setCell ⟨p, 1, none⟩ (.bool b')) p l b' ∧ RS w (w.setCell ⟨p, 1, none⟩ (.bool b')) p := by
  obtain ⟨h1, h2, f0, f1, c1, a, cap, c0, hc, hbs, hne⟩ := h
  have hs : RS w (w.setCell ⟨p, 1, none⟩ (.bool b')) p := ⟨rfl, rfl, rfl, by simp, fun j _ hp => Below.heap_setCell w ⟨p, 1, none⟩ _ j hp⟩
  refine ⟨⟨by simpa using h1, by simpa using h2, by rw [World.frozen?_setCell]; exact f0, by rw [World.frozen?_setCell]; exact f1, World.cell?_setCell_same w _ _ c1, a, cap, ?_, hc, hbs.rs hs (fun x hx => (hne x hx).1), hne⟩, hs⟩
  rw [World.cell?_setCell_other w _ _ _ (by simp)]; exact c0
theorem RI.toNil {D : Nat} {w : World} {p : Nat} {l : List UInt8} {bad : Bool} (h : RI D w p l bad) : RI D (w.setCell ⟨p, 0, none⟩ (.slice none 0 0)) p [] bad ∧ RS w (w.setCell ⟨p, 0, none⟩ (.slice none 0 0)) p := by
  obtain ⟨h1, h2, f0, f1, c1, a, cap, c0, hc, hbs, hne⟩ := h
  have hs : RS w (w.setCell ⟨p, 0, none⟩ (.slice none 0 0)) p := ⟨rfl, rfl, rfl, by simp, fun j _ hp => Below.heap_setCell w ⟨p, 0, none⟩ _ j hp⟩
  refine ⟨⟨by simpa using h1, by simpa using h2, by rw [World.frozen?_setCell]; exact f0, by rw [World.frozen?_setCell]; exact f1, ?_, none, 0, World.cell?_setCell_same w _ _ c0, Nat.le_refl _, ⟨by simp, fun h => absurd rfl h⟩, fun x hx => by cases hx⟩, hs⟩
  rw [World.cell?_setCell_other w _ _ _ (by simp)]; exact c1
theorem RI.next {D : Nat} {w : World} {p u cap : Nat} {a : Option Addr} {l : List UInt8} {bad : Bool} (h : RI D w p l bad) (c0 : w.cell? ⟨p, 0, none⟩ = some (.slice a l.length cap)) (hu : u ≤ l.length) (v : Value)
    (hv : v = .slice (if cap = u then a else a.map (·.add u)) (l.length - u) (cap - u)) : RI D (w.setCell ⟨p, 0, none⟩ v) p (l.drop u) bad ∧ RS w (w.setCell ⟨p, 0, none⟩ v) p := by
  obtain ⟨h1, hD, f0, f1, c1, a', cap', c0', hcap, hbs, hne⟩ := h
  rw [c0] at c0'
  cases c0'
  have hs : RS w (w.setCell ⟨p, 0, none⟩ v) p := ⟨rfl, rfl, rfl, by simp, fun j _ hp => Below.heap_setCell w ⟨p, 0, none⟩ v j hp⟩
  have hne2 : ∀ x, (if cap = u then a else a.map (·.add u)) = some x → x.block ≠ p ∧ x.block < D := by
    intro x hx
    split at hx
    · exact hne x hx
    · cases a with
      | none => simp at hx
      | some y =>
        simp at hx
        have hy := hne y rfl
        rw [← hx]
        unfold Addr.add
        split <;> exact hy
  refine ⟨⟨by simpa using h1, by simpa using hD, by rw [World.frozen?_setCell]; exact f0, by rw [World.frozen?_setCell]; exact f1, ?_, _, cap - u, ?_, by rw [List.length_drop]; omega, (bs_from hbs hu hcap).rs hs (fun x hx => (hne2 x hx).1), hne2⟩, hs⟩
  · rw [World.cell?_setCell_other w _ _ _ (by simp)]; exact c1
  · rw [List.length_drop, ← hv]; exact World.cell?_setCell_same w _ _ c0

/- what was read is one that may be written; and if all was well, it is what the bytes say -/
def Rd (f : Fm) (l : List UInt8) (bad : Bool) (v : Vl f) (l' : List UInt8) (bad' : Bool) : Prop :=
  (en f v).2 = false ∧ (bad = false → ∀ r, (de f (some l)).2 = some r → v = (de f (some l)).1 ∧ l' = r ∧ bad' = false)
/- what a step of the reader leaves -/
def OutI (D : Nat) (w : World) (p : Nat) (f : Fm) (l : List UInt8) (bad : Bool) (v : Vl f) (w' : World) : Prop := ∃ l' bad', Rd f l bad v l' bad' ∧ RI D w' p l' bad' ∧ RS w w' p
def InO (D : Nat) (w : World) (p : Nat) (l : List UInt8) (bad : Bool) (n m : Int) (w' : World) : Prop := ∃ bad', ((-1099511627776 ≤ n ∧ n ≤ 1099511627776) → m = n ∧ bad' = bad) ∧ RI D w' p l bad' ∧ RS w w' p

set_option maxHeartbeats 400000 in
theorem in_i {D : Nat} (p : Nat) (l : List UInt8) (bad : Bool) (n : Int) (w : World) (h : RI D w p l bad) : Calls Tryz.prog 122 #[.pointer (some ⟨p, 0, none⟩), .int .i64 n] w fun e w' =>
    ∃ (m : Int), e = .returned (.int .i64 m) ∧ (-1099511627776 ≤ m ∧ m ≤ 1099511627776) ∧ InO D w p l bad n m w' := by
  have HT := hidI (h.toBad true)
  have HH := hidI h
  obtain ⟨h1, hD, f0, f1, c1, a, cap, c0, hcap, hbs, hne⟩ := h
  clear hbs hne hcap
  by_cases ha : n < -1099511627776
  · go_enter Tryz.func122, Tryz.ntmps122
    go_wp2
    go_ret
    exact ⟨0, rfl, by omega, true, fun h => by omega, HT.out.1, HT.out.2⟩
  · by_cases hb : 1099511627776 < n
    · go_enter Tryz.func122, Tryz.ntmps122
      go_wp2
      go_ret
      exact ⟨0, rfl, by omega, true, fun h => by omega, HT.out.1, HT.out.2⟩
    · go_enter Tryz.func122, Tryz.ntmps122
      go_wp2
      go_ret
      exact ⟨n, rfl, by omega, bad, fun h => ⟨rfl, rfl⟩, HH.out, RS.refl _ _⟩

theorem Rn_of (l : List UInt8) (bad bad' : Bool) (m : Int) (l' : List UInt8) (h : -1099511627776 ≤ m ∧ m ≤ 1099511627776) (hp : bad = false → ∀ r, numS (some l) = some r → m = numV (some l) ∧ l' = r ∧ bad' = false) : Rd .num l bad m l' bad' := by
  refine ⟨?_, hp⟩
  show (enN m).2 = false
  rw [enN_ok m h.1 h.2]

theorem add_grp (l : List UInt8) (k acc A : Nat) (_hk : k < 6) (hA : A = acc + bn l k % 128 * 128 ^ k) (hb : A < 4398046511104) : wrap64 ((acc : Int) + wrap64 (bat l k % 128 * 2 ^ (7 * k))) = (A : Int) := by
  have e : (bat l k % 128 * 2 ^ (7 * k)) = ((bn l k % 128 * 128 ^ k : Nat) : Int) := by
    unfold bat
    rw [pow128]
    simp
  rw [e]
  unfold wrap64
  omega
theorem unf_odd (A : Nat) (h : A % 2 = 1) : unfoldN A = -(((A : Int) + 1) / 2) := by unfold unfoldN; rw [if_pos h]
theorem unf_even (A : Nat) (h : ¬ A % 2 = 1) : unfoldN A = (A : Int) / 2 := by unfold unfoldN; rw [if_neg h]

set_option maxHeartbeats 2000000 in
set_option maxRecDepth 100000 in
theorem num_i {D : Nat} (p : Nat) (l : List UInt8) (bad : Bool) (w : World) (h : RI D w p l bad) : Calls Tryz.prog 57 #[.pointer (some ⟨p, 0, none⟩)] w fun e w' =>
    ∃ (m : Int), e = .returned (.int .i64 m) ∧ (-1099511627776 ≤ m ∧ m ≤ 1099511627776) ∧ OutI D w p .num l bad m w' := by
  have HH := hidI h
  obtain ⟨h1, hD, f0, f1, c1, a, cap, c0, hcap, hbs, hne⟩ := h
  have hlen := hbs.1
  clear hne
  go_enter Tryz.func57, Tryz.ntmps57
  go_wp2
  go_loop [3, 4] (fun u i => ∃ k acc : Nat, k ≤ l.length ∧ k ≤ 6 ∧ i = .int .i64 k ∧ u = .int .i64 acc ∧ Hid (acc < 128 ^ k) ∧ Hid (decA 6 0 0 l = decA (6 - k) k acc (l.drop k))) (fun _ i => 6 - (intOf i).toNat)
  case atStart => exact ⟨0, 0, Nat.zero_le _, by omega, rfl, rfl, (by show 0 < 128 ^ 0; decide), rfl⟩
  case round =>
    obtain ⟨k, acc, hk, hk6, rfl, rfl, ha, hd⟩ := hrel
    by_cases hlt : k < l.length
    · by_cases h6 : k < 6
      · obtain ⟨b, off, rfl, hb, hc⟩ := hbs.2 (by intro e; simp [e] at hlt)
        have hck := hc k hlt
        have b0 := bat_lo l k
        have b1 := bat_hi l k
        have hacc : acc + bn l k % 128 * 128 ^ k < 128 ^ (k + 1) := by
          have h1 : bn l k % 128 * 128 ^ k ≤ 127 * 128 ^ k := Nat.mul_le_mul_right _ (by have := Nat.mod_lt (bn l k) (show 128 > 0 by omega); omega)
          have := ha.out
          rw [Nat.pow_succ]; omega
        have hp6 : 128 ^ (k + 1) ≤ 128 ^ 6 := Nat.pow_le_pow_right (by omega) (by omega)
        have hp62 : (128 : Nat) ^ 6 = 4398046511104 := by decide
        have hdk : Hid (decA 6 0 0 l = decA (5 - k + 1) k acc (l.getD k 0 :: l.drop (k + 1))) := by
          show _ = _
          rw [hd.out, getD_drop l k hlt, show 6 - k = 5 - k + 1 by omega]
        obtain ⟨A, hA⟩ : ∃ A, A = acc + bn l k % 128 * 128 ^ k := ⟨_, rfl⟩
        rw [← hA] at hacc
        have HAcc : Hid (A < 128 ^ (k + 1)) := hacc
        have hA42 : A < 4398046511104 := by omega
        have hor := add_grp l k acc A h6 hA hA42
        have HAe : Hid (A = acc + (l.getD k 0).toNat % 128 * 128 ^ k) := hA
        clear hA hacc hp6 hp62
        by_cases hbig : 128 ≤ bat l k
        · have hd2 : Hid (decA 6 0 0 l = decA (6 - (k + 1)) (k + 1) A (l.drop (k + 1))) := by
            show _ = _
            rw [hdk.out, decA_step _ _ _ _ _ (by unfold bat bn at hbig; omega), HAe.out, show 6 - (k + 1) = 5 - k by omega]
          have HOR := hidI hor
          go_wp2
          exact ⟨⟨k + 1, A, by omega, by omega, by go_num, by first | rfl | rw [HOR.out], HAcc, hd2⟩, by simp [intOf]; omega⟩
        · have hsm : bat l k ≤ 127 := by omega
          have hdsm : Hid (decA 6 0 0 l = if 2199023255552 < A ∨ (bn l k = 0 ∧ 0 < k) then none else some (A, l.drop (k + 1))) := by
            show _ = _
            rw [hdk.out, decA, if_neg (by unfold bat bn at hbig; omega), ← HAe.out]; rfl
          have HD : Hid (∀ r, numS (some l) = some r → r = l.drop (k + 1) ∧ numV (some l) = unfoldN A ∧ A ≤ 2199023255552 ∧ ¬ (bat l k = 0 ∧ 0 < k)) := by
            intro r hr
            by_cases hq : 2199023255552 < A ∨ (bn l k = 0 ∧ 0 < k)
            · have : decA 6 0 0 l = none := by rw [hdsm.out, if_pos hq]
              simp [numS, this] at hr
            · have : decA 6 0 0 l = some (A, l.drop (k + 1)) := by rw [hdsm.out, if_neg hq]
              simp [numS, this] at hr
              refine ⟨hr.symm, by simp [numV, this], by omega, fun hz => hq (.inr ⟨by have := hz.1; unfold bat at this; omega, hz.2⟩)⟩
          clear hdk hdsm hc hlen
          by_cases hA2 : A % 2 = 1
          · cases bad with
            | true =>
              obtain ⟨a3, HA3, hsl⟩ : ∃ a3, Hid (a3 = if cap = k + 1 then some ⟨b, off, none⟩ else (some (⟨b, off, none⟩ : Addr)).map (·.add (k + 1))) ∧ ∀ w, (Instr.slice 22 (.slice (some ⟨b, off, none⟩) l.length cap) (some (.int .i64 ((k : Int) + 1))) none none).run Tryz.prog w = .ok (.slice a3 (l.length - (k + 1)) (cap - (k + 1))) w :=
                ⟨_, rfl, sliceAny_lo (some ⟨b, off, none⟩) l.length cap (k + 1) _ (by omega) (by omega)⟩
              have hnx := HH.out.next c0 (u := k + 1) (by omega) (.slice a3 (l.length - (k + 1)) (cap - (k + 1))) (by rw [HA3.out])
              have hny := hnx.1.toBad true
              have HX := hidI hny.1
              have HY := hidI (hnx.2.trans hny.2)
              clear hnx hny
              have hpar : ((A : Int) % 2 == 1) = true := by simp; omega
              have hneg : wrap64 (-((A : Int) + 1).tdiv 2) = -(((A : Int) + 1) / 2) := by
                rw [Int.tdiv_eq_ediv_of_nonneg (by omega)]
                unfold wrap64; omega
              go_wp2_with fail
              refine (in_i p _ true _ _ HX.out).mono ?_
              rintro e w2 ⟨m, rfl, hm, ⟨bad2, him, hri, hrs⟩⟩
              have HF := hidI (show OutI D w p .num l true m w2 from ⟨_, bad2, Rn_of l true bad2 m _ hm (fun h => by cases h), hri, HY.out.trans hrs⟩)
              clear him hri hrs
              go_wp2
              go_ret
              exact ⟨m, rfl, hm, HF.out⟩
            | false =>
              by_cases hk0 : 0 < k
              · by_cases hz : bat l k = 0
                · have hkp : (0 : Int) < (k : Int) := by omega
                  have hzb : (bat l k == 0) = true := by simp [hz]
                  have HZ := hidI hz
                  clear hz
                  obtain ⟨a3, HA3, hsl⟩ : ∃ a3, Hid (a3 = if cap = k + 1 then some ⟨b, off, none⟩ else (some (⟨b, off, none⟩ : Addr)).map (·.add (k + 1))) ∧ ∀ w, (Instr.slice 22 (.slice (some ⟨b, off, none⟩) l.length cap) (some (.int .i64 ((k : Int) + 1))) none none).run Tryz.prog w = .ok (.slice a3 (l.length - (k + 1)) (cap - (k + 1))) w :=
                    ⟨_, rfl, sliceAny_lo (some ⟨b, off, none⟩) l.length cap (k + 1) _ (by omega) (by omega)⟩
                  have hnx := HH.out.next c0 (u := k + 1) (by omega) (.slice a3 (l.length - (k + 1)) (cap - (k + 1))) (by rw [HA3.out])
                  have hny := hnx.1.toBad true
                  have HX := hidI hny.1
                  have HY := hidI (hnx.2.trans hny.2)
                  clear hnx hny
                  have hpar : ((A : Int) % 2 == 1) = true := by simp; omega
                  have hneg : wrap64 (-((A : Int) + 1).tdiv 2) = -(((A : Int) + 1) / 2) := by
                    rw [Int.tdiv_eq_ediv_of_nonneg (by omega)]
                    unfold wrap64; omega
                  go_wp2_with fail
                  refine (in_i p _ true _ _ HX.out).mono ?_
                  rintro e w2 ⟨m, rfl, hm, ⟨bad2, him, hri, hrs⟩⟩
                  have HF := hidI (show OutI D w p .num l false m w2 from ⟨_, bad2, Rn_of l false bad2 m _ hm (fun _ r hr => absurd ⟨HZ.out, by omega⟩ (HD.out r hr).2.2.2), hri, HY.out.trans hrs⟩)
                  clear him hri hrs
                  go_wp2
                  go_ret
                  exact ⟨m, rfl, hm, HF.out⟩
                · have hkp : (0 : Int) < (k : Int) := by omega
                  have hzb : (bat l k == 0) = false := by simp [hz]
                  clear hz
                  obtain ⟨a3, HA3, hsl⟩ : ∃ a3, Hid (a3 = if cap = k + 1 then some ⟨b, off, none⟩ else (some (⟨b, off, none⟩ : Addr)).map (·.add (k + 1))) ∧ ∀ w, (Instr.slice 22 (.slice (some ⟨b, off, none⟩) l.length cap) (some (.int .i64 ((k : Int) + 1))) none none).run Tryz.prog w = .ok (.slice a3 (l.length - (k + 1)) (cap - (k + 1))) w :=
                    ⟨_, rfl, sliceAny_lo (some ⟨b, off, none⟩) l.length cap (k + 1) _ (by omega) (by omega)⟩
                  have hnx := HH.out.next c0 (u := k + 1) (by omega) (.slice a3 (l.length - (k + 1)) (cap - (k + 1))) (by rw [HA3.out])
                  have hny := hnx.1.toBad false
                  have HX := hidI hny.1
                  have HY := hidI (hnx.2.trans hny.2)
                  clear hnx hny
                  have hpar : ((A : Int) % 2 == 1) = true := by simp; omega
                  have hneg : wrap64 (-((A : Int) + 1).tdiv 2) = -(((A : Int) + 1) / 2) := by
                    rw [Int.tdiv_eq_ediv_of_nonneg (by omega)]
                    unfold wrap64; omega
                  go_wp2_with fail
                  refine (in_i p _ false _ _ HX.out).mono ?_
                  rintro e w2 ⟨m, rfl, hm, ⟨bad2, him, hri, hrs⟩⟩
                  have HF := hidI (show OutI D w p .num l false m w2 from ⟨_, bad2, Rn_of l false bad2 m _ hm (fun _ r hr => by
                      have hnn := HD.out r hr
                      have hu := unf_odd A hA2
                      have hle := hnn.2.2.1
                      have hmm := him (by omega)
                      exact ⟨by rw [hmm.1, hnn.2.1, hu], hnn.1.symm, hmm.2⟩), hri, HY.out.trans hrs⟩)
                  clear him hri hrs
                  go_wp2
                  go_ret
                  exact ⟨m, rfl, hm, HF.out⟩
              · have hkn : ¬ ((0 : Int) < (k : Int)) := by omega
                obtain ⟨a3, HA3, hsl⟩ : ∃ a3, Hid (a3 = if cap = k + 1 then some ⟨b, off, none⟩ else (some (⟨b, off, none⟩ : Addr)).map (·.add (k + 1))) ∧ ∀ w, (Instr.slice 22 (.slice (some ⟨b, off, none⟩) l.length cap) (some (.int .i64 ((k : Int) + 1))) none none).run Tryz.prog w = .ok (.slice a3 (l.length - (k + 1)) (cap - (k + 1))) w :=
                  ⟨_, rfl, sliceAny_lo (some ⟨b, off, none⟩) l.length cap (k + 1) _ (by omega) (by omega)⟩
                have hnx := HH.out.next c0 (u := k + 1) (by omega) (.slice a3 (l.length - (k + 1)) (cap - (k + 1))) (by rw [HA3.out])
                have hny := hnx.1.toBad false
                have HX := hidI hny.1
                have HY := hidI (hnx.2.trans hny.2)
                clear hnx hny
                have hpar : ((A : Int) % 2 == 1) = true := by simp; omega
                have hneg : wrap64 (-((A : Int) + 1).tdiv 2) = -(((A : Int) + 1) / 2) := by
                  rw [Int.tdiv_eq_ediv_of_nonneg (by omega)]
                  unfold wrap64; omega
                go_wp2_with fail
                refine (in_i p _ false _ _ HX.out).mono ?_
                rintro e w2 ⟨m, rfl, hm, ⟨bad2, him, hri, hrs⟩⟩
                have HF := hidI (show OutI D w p .num l false m w2 from ⟨_, bad2, Rn_of l false bad2 m _ hm (fun _ r hr => by
                    have hnn := HD.out r hr
                    have hu := unf_odd A hA2
                    have hle := hnn.2.2.1
                    have hmm := him (by omega)
                    exact ⟨by rw [hmm.1, hnn.2.1, hu], hnn.1.symm, hmm.2⟩), hri, HY.out.trans hrs⟩)
                clear him hri hrs
                go_wp2
                go_ret
                exact ⟨m, rfl, hm, HF.out⟩
          · cases bad with
            | true =>
              obtain ⟨a3, HA3, hsl⟩ : ∃ a3, Hid (a3 = if cap = k + 1 then some ⟨b, off, none⟩ else (some (⟨b, off, none⟩ : Addr)).map (·.add (k + 1))) ∧ ∀ w, (Instr.slice 22 (.slice (some ⟨b, off, none⟩) l.length cap) (some (.int .i64 ((k : Int) + 1))) none none).run Tryz.prog w = .ok (.slice a3 (l.length - (k + 1)) (cap - (k + 1))) w :=
                ⟨_, rfl, sliceAny_lo (some ⟨b, off, none⟩) l.length cap (k + 1) _ (by omega) (by omega)⟩
              have hnx := HH.out.next c0 (u := k + 1) (by omega) (.slice a3 (l.length - (k + 1)) (cap - (k + 1))) (by rw [HA3.out])
              have hny := hnx.1.toBad true
              have HX := hidI hny.1
              have HY := hidI (hnx.2.trans hny.2)
              clear hnx hny
              have hpar : ((A : Int) % 2 == 1) = false := by simp; omega
              go_wp2_with fail
              refine (in_i p _ true _ _ HX.out).mono ?_
              rintro e w2 ⟨m, rfl, hm, ⟨bad2, him, hri, hrs⟩⟩
              have HF := hidI (show OutI D w p .num l true m w2 from ⟨_, bad2, Rn_of l true bad2 m _ hm (fun h => by cases h), hri, HY.out.trans hrs⟩)
              clear him hri hrs
              go_wp2
              go_ret
              exact ⟨m, rfl, hm, HF.out⟩
            | false =>
              by_cases hk0 : 0 < k
              · by_cases hz : bat l k = 0
                · have hkp : (0 : Int) < (k : Int) := by omega
                  have hzb : (bat l k == 0) = true := by simp [hz]
                  have HZ := hidI hz
                  clear hz
                  obtain ⟨a3, HA3, hsl⟩ : ∃ a3, Hid (a3 = if cap = k + 1 then some ⟨b, off, none⟩ else (some (⟨b, off, none⟩ : Addr)).map (·.add (k + 1))) ∧ ∀ w, (Instr.slice 22 (.slice (some ⟨b, off, none⟩) l.length cap) (some (.int .i64 ((k : Int) + 1))) none none).run Tryz.prog w = .ok (.slice a3 (l.length - (k + 1)) (cap - (k + 1))) w :=
                    ⟨_, rfl, sliceAny_lo (some ⟨b, off, none⟩) l.length cap (k + 1) _ (by omega) (by omega)⟩
                  have hnx := HH.out.next c0 (u := k + 1) (by omega) (.slice a3 (l.length - (k + 1)) (cap - (k + 1))) (by rw [HA3.out])
                  have hny := hnx.1.toBad true
                  have HX := hidI hny.1
                  have HY := hidI (hnx.2.trans hny.2)
                  clear hnx hny
                  have hpar : ((A : Int) % 2 == 1) = false := by simp; omega
                  go_wp2_with fail
                  refine (in_i p _ true _ _ HX.out).mono ?_
                  rintro e w2 ⟨m, rfl, hm, ⟨bad2, him, hri, hrs⟩⟩
                  have HF := hidI (show OutI D w p .num l false m w2 from ⟨_, bad2, Rn_of l false bad2 m _ hm (fun _ r hr => absurd ⟨HZ.out, by omega⟩ (HD.out r hr).2.2.2), hri, HY.out.trans hrs⟩)
                  clear him hri hrs
                  go_wp2
                  go_ret
                  exact ⟨m, rfl, hm, HF.out⟩
                · have hkp : (0 : Int) < (k : Int) := by omega
                  have hzb : (bat l k == 0) = false := by simp [hz]
                  clear hz
                  obtain ⟨a3, HA3, hsl⟩ : ∃ a3, Hid (a3 = if cap = k + 1 then some ⟨b, off, none⟩ else (some (⟨b, off, none⟩ : Addr)).map (·.add (k + 1))) ∧ ∀ w, (Instr.slice 22 (.slice (some ⟨b, off, none⟩) l.length cap) (some (.int .i64 ((k : Int) + 1))) none none).run Tryz.prog w = .ok (.slice a3 (l.length - (k + 1)) (cap - (k + 1))) w :=
                    ⟨_, rfl, sliceAny_lo (some ⟨b, off, none⟩) l.length cap (k + 1) _ (by omega) (by omega)⟩
                  have hnx := HH.out.next c0 (u := k + 1) (by omega) (.slice a3 (l.length - (k + 1)) (cap - (k + 1))) (by rw [HA3.out])
                  have hny := hnx.1.toBad false
                  have HX := hidI hny.1
                  have HY := hidI (hnx.2.trans hny.2)
                  clear hnx hny
                  have hpar : ((A : Int) % 2 == 1) = false := by simp; omega
                  go_wp2_with fail
                  refine (in_i p _ false _ _ HX.out).mono ?_
                  rintro e w2 ⟨m, rfl, hm, ⟨bad2, him, hri, hrs⟩⟩
                  have HF := hidI (show OutI D w p .num l false m w2 from ⟨_, bad2, Rn_of l false bad2 m _ hm (fun _ r hr => by
                      have hnn := HD.out r hr
                      have hu := unf_even A hA2
                      have hle := hnn.2.2.1
                      have hmm := him (by omega)
                      exact ⟨by rw [hmm.1, hnn.2.1, hu], hnn.1.symm, hmm.2⟩), hri, HY.out.trans hrs⟩)
                  clear him hri hrs
                  go_wp2
                  go_ret
                  exact ⟨m, rfl, hm, HF.out⟩
              · have hkn : ¬ ((0 : Int) < (k : Int)) := by omega
                obtain ⟨a3, HA3, hsl⟩ : ∃ a3, Hid (a3 = if cap = k + 1 then some ⟨b, off, none⟩ else (some (⟨b, off, none⟩ : Addr)).map (·.add (k + 1))) ∧ ∀ w, (Instr.slice 22 (.slice (some ⟨b, off, none⟩) l.length cap) (some (.int .i64 ((k : Int) + 1))) none none).run Tryz.prog w = .ok (.slice a3 (l.length - (k + 1)) (cap - (k + 1))) w :=
                  ⟨_, rfl, sliceAny_lo (some ⟨b, off, none⟩) l.length cap (k + 1) _ (by omega) (by omega)⟩
                have hnx := HH.out.next c0 (u := k + 1) (by omega) (.slice a3 (l.length - (k + 1)) (cap - (k + 1))) (by rw [HA3.out])
                have hny := hnx.1.toBad false
                have HX := hidI hny.1
                have HY := hidI (hnx.2.trans hny.2)
                clear hnx hny
                have hpar : ((A : Int) % 2 == 1) = false := by simp; omega
                go_wp2_with fail
                refine (in_i p _ false _ _ HX.out).mono ?_
                rintro e w2 ⟨m, rfl, hm, ⟨bad2, him, hri, hrs⟩⟩
                have HF := hidI (show OutI D w p .num l false m w2 from ⟨_, bad2, Rn_of l false bad2 m _ hm (fun _ r hr => by
                    have hnn := HD.out r hr
                    have hu := unf_even A hA2
                    have hle := hnn.2.2.1
                    have hmm := him (by omega)
                    exact ⟨by rw [hmm.1, hnn.2.1, hu], hnn.1.symm, hmm.2⟩), hri, HY.out.trans hrs⟩)
                clear him hri hrs
                go_wp2
                go_ret
                exact ⟨m, rfl, hm, HF.out⟩
      · have hno : Hid (numS (some l) = none) := by
          have : decA 6 0 0 l = none := by rw [hd.out, show 6 - k = 0 by omega]; rfl
          simp [Hid, numS, this]
        have hk : k = 6 := by omega
        have HT := hidI (HH.out.toBad true)
        have HN := hidI (HT.out.1.toNil)
        go_wp2
        go_ret
        exact ⟨0, rfl, by omega, [], true, Rn_of l bad true 0 [] (by omega) (fun _ r hr => by rw [hno.out] at hr; cases hr), HN.out.1, HT.out.2.trans HN.out.2⟩
    · have hkl : k = l.length := by omega
      have hno : Hid (numS (some l) = none) := by
        have : decA 6 0 0 l = none := by rw [hd.out, hkl, List.drop_length]; cases (6 - l.length) <;> rfl
        simp [Hid, numS, this]
      have HT := hidI (HH.out.toBad true)
      have HN := hidI (HT.out.1.toNil)
      clear hkl
      go_wp2
      go_ret
      exact ⟨0, rfl, by omega, [], true, Rn_of l bad true 0 [] (by omega) (fun _ r hr => by rw [hno.out] at hr; cases hr), HN.out.1, HT.out.2.trans HN.out.2⟩

end Go.Proofs.YtpbokgeaolpiaabGreat
