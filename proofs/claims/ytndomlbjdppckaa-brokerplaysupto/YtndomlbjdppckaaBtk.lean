/- Tick. -/
import Derived.Test.YtndomlbjdppckaaBdq
namespace Go.Proofs.Ytndomlbjdppckaa
open Go.RowKit
variable {D : Nat}

def tk1 (x : Itm) : Itm := if x.tk = true then (if x.tc + 1 = 12 then nk { x with tc := x.tc + 1 } else { x with tc := x.tc + 1 }) else if 0 < x.dl then { x with dl := x.dl - 1 } else x
def tkP (z : Nat × Itm) : Nat × Itm := (z.1, tk1 z.2)
def tkK (L : List (Nat × Itm)) (k : Nat) : List (Nat × Itm) := (L.take k).map tkP ++ L.drop k
theorem tkK_length (L : List (Nat × Itm)) (k : Nat) : (tkK L k).length = L.length := by simp [tkK]; omega
theorem tkK_zero (L : List (Nat × Itm)) : tkK L 0 = L := by simp [tkK]
theorem tkK_all (L : List (Nat × Itm)) : tkK L L.length = L.map tkP := by simp [tkK]
theorem tkK_get {L : List (Nat × Itm)} {k : Nat} {z : Nat × Itm} (h : L[k]? = some z) : (tkK L k)[k]? = some z := by
  have hk := (List.getElem?_eq_some_iff.1 h).1
  unfold tkK
  rw [List.getElem?_append_right (by simp; omega)]
  simp only [List.length_map, List.length_take, List.getElem?_drop]
  rw [show k + (k - min k L.length) = k by omega]; exact h
theorem tkK_succ {L : List (Nat × Itm)} {k b : Nat} {x : Itm} (h : L[k]? = some (b, x)) : tkK L (k + 1) = (tkK L k).set k (b, tk1 x) := by
  have hk := (List.getElem?_eq_some_iff.1 h).1
  unfold tkK
  rw [take_succ_get h, List.map_append, List.set_append_right _ _ (by simp; omega)]
  have e : k - ((L.take k).map tkP).length = 0 := by simp; omega
  rw [e, List.append_assoc]
  congr 1
  have h2 : L.drop k = (b, x) :: L.drop (k + 1) := by
    rw [List.drop_eq_getElem_cons hk]
    congr 1
    exact (List.getElem?_eq_some_iff.1 h).2
  rw [h2]; rfl

theorem Bk.setc {w : World} {pB N : Nat} {L : List (Nat × Itm)} (h : Bk D w pB L N) {i b : Nat} {x y : Itm} (hi : L[i]? = some (b, x)) (hx : fr x = false) (hy : fr y = false) (j : Nat) (u : Value) (e : (itC x).setIfInBounds j u = itC y) : Bk D (w.setCell ⟨b, j, none⟩ u) pB (L.set i (b, y)) N := by
  obtain ⟨v, pH, M, n, r, hL, hH, hM, hn⟩ := h.ex
  exact ⟨v, pH, M, n, r, hL.setc hi j u e, hH.setc (hL.its _ (List.mem_of_getElem? hi)) j u, hM.other hL.nd hi hx hy, hn⟩
theorem Bk.item {w : World} {pB N : Nat} {L : List (Nat × Itm)} (h : Bk D w pB L N) {z : Nat × Itm} (hz : z ∈ L) : ItR w z.1 z.2 := by
  obtain ⟨v, pH, M, n, r, hL, _⟩ := h.ex
  exact hL.its z hz

/- an item whose time is over is pushed -/
set_option maxHeartbeats 1000000 in
theorem Bk.free {w : World} {pB N : Nat} {L : List (Nat × Itm)} (h : Bk D w pB L N) {i b : Nat} {x : Itm} (hi : L[i]? = some (b, x)) (htk : x.tk = false) (hdl : x.dl ≠ 0) (hN : N < 8796093022207) : ∃ pH, w.cell? ⟨pB, 1, none⟩ = some (ptr pH) ∧
    (Calls Try.prog 35 #[ptr pH, ptr b] (w.setCell ⟨b, 5, none⟩ (.int .i64 0)) fun e w' => e = .returned (.tuple #[]) ∧ Bk D w' pB (L.set i (b, { x with dl := 0 })) (N + 1) ∧ FrT D TP w w') := by
  obtain ⟨v, pH, M, n, r, hL, hH, hM, hn⟩ := h.ex
  have hx := hL.its _ (List.mem_of_getElem? hi)
  have hfx : fr x = false := by simp [fr, hdl]
  have L1 := hL.setc hi 5 (.int .i64 0) (y := { x with dl := 0 }) rfl
  have F1 := hL.frt (T := TP) (by decide) (FrT.refl _ _ _) hi 5 (.int .i64 0)
  have H1 := hH.setc hx 5 (.int .i64 0)
  have K1 : ∀ a ∈ M, Kn (w.setCell ⟨b, 5, none⟩ (.int .i64 0)) a := fun a ha => by
    have h1 := (hM.sub a ha)
    refine ItR.kept (hL.its _ h1.1) (Below.heap_setCell w ⟨b, 5, none⟩ _ a.p (fun e => ?_))
    have := hM.mem hL.nd hi ha e
    rw [this, hfx] at h1; cases h1.2
  refine ⟨pH, hL.cells.2.1, (hpush_any pH n M r b { x with dl := 0 } _ H1 (L1.its _ (List.mem_of_getElem? (get_set hi))) K1 (by omega)).mono ?_⟩
  rintro e w1 ⟨rfl, r', hh, hns⟩
  have F2 := hns
  exact ⟨rfl, ⟨v, pH, _, n + 1, r', L1.keepT F2 (by decide) (by decide) (by decide), hh, hM.push hL.nd hi hfx (by simp [fr, htk]) n, by omega⟩, F1.trans (F2.mono (by decide))⟩

set_option maxHeartbeats 8000000 in
set_option maxRecDepth 100000 in
theorem tick_any (pB N : Nat) (L : List (Nat × Itm)) (w : World) (hB : Bk D w pB L N) (hIv : Iv L) (hN : N + L.length < 8796093022207) :
    Calls Try.prog 17 #[.pointer (some ⟨pB, 0, none⟩)] w fun e w' => e = .returned (.tuple #[]) ∧ Bk D w' pB (L.map tkP) (N + L.length) ∧ FrT D TP w w' := by
  have HB0 : Hid (Bk D w pB (tkK L 0) (N + 0)) := hidOf (by rw [tkK_zero]; exact hB)
  obtain ⟨v, pH, M, n, r, hL, hH, hM, hn⟩ := hB.ex
  obtain ⟨c0, -, -, -⟩ := hL.cells
  obtain ⟨a, cap, rfl, hlm⟩ := hL.slice
  unfold maxLen at hlm
  have HROW := hidOf hL.row
  have HIV := hidOf hIv
  clear hB hL hH hM hn hIv
  go_enter Try.func17, Try.ntmps17
  go_wp2
  go_loopw [9] (fun i wr => ∃ k : Nat, k ≤ L.length ∧ i = .int .i64 (k : Int) ∧ Hid (Bk D wr pB (tkK L k) (N + k)) ∧ Hid (FrT D TP w wr)) (fun i _ => L.length - (intOf i).toNat)
  case atStart => exact ⟨0, Nat.zero_le _, rfl, HB0, hidOf (FrT.refl _ _ _)⟩
  case round =>
    obtain ⟨k, hk, rfl, HB, HF⟩ := hrel
    by_cases hlt : k < L.length
    · have hltz : (k : Int) < (L.length : Int) := by omega
      obtain ⟨⟨b, x⟩, hx⟩ : ∃ x, L[k]? = some x := ⟨L[k], List.getElem?_eq_getElem hlt⟩
      obtain ⟨g, cap', hv, hgl, hcc⟩ := row_at (own_keepT HROW.out HF.out (by decide)) k hlt
      have a0 := hcc _ (ptrs_get hx)
      obtain ⟨rfl, rfl⟩ : a = some ⟨g, 0, none⟩ ∧ cap = cap' := by cases hv; exact ⟨rfl, rfl⟩
      simp only [ptr] at a0
      have hxk := tkK_get hx
      have hiv := HIV.out _ (List.mem_of_getElem? hx)
      simp only at hiv
      have HIT := hidOf (HB.out.item (List.mem_of_getElem? hxk))
      have HDB : Hid (D ≤ b) := hidOf (by obtain ⟨v2, pH3, M2, n2, r2, hL2, _⟩ := HB.out.ex; exact hL2.li _ (List.mem_of_getElem? hxk))
      obtain ⟨-, -, -, -, -, x5, x6, -, x8⟩ := ItR.cells HIT.out
      have zx := ItR.frozen HIT.out
      have hbl := ItR.lt HIT.out
      simp only at x5 x6 x8 zx hbl
      have HS := hidOf (tkK_succ hx)
      have HXK := hidOf hxk
      clear hv hcc hx hxk
      cases htk : x.tk with
      | true =>
        rw [htk] at x6
        obtain ⟨hd0, ht0, ht12⟩ := hiv.had htk
        have hfx : fr x = false := by simp [fr, htk]
        have HT := hidOf (HB.out.setc HXK.out hfx (y := { x with tc := x.tc + 1 }) (by simp [fr, htk]) 8 (.int .i64 (x.tc + 1)) rfl)
        have HFT := hidOf (FrT.set (T := TP) HF.out HIT.out (by decide) HDB.out 8 (.int .i64 (x.tc + 1)))
        by_cases h12 : x.tc + 1 = 12
        · have h12b : (x.tc + 1 == 12) = true := by simp [h12]
          have HE : Hid (tk1 x = nk { x with tc := x.tc + 1 }) := hidOf (by unfold tk1; rw [if_pos htk, if_pos h12])
          have HP := hidOf (putBack_any pB k b (N + k) { x with tc := x.tc + 1 } _ _ HT.out (get_set HXK.out) htk hd0 (by omega))
          clear htk hiv hfx hd0 h12
          go_wp2_with (go_at_call 34; refine HP.out.mono ?_; rintro e w2 ⟨rfl, h2, h3⟩; have HR := hidOf (And.intro h2 h3); clear h2 h3)
          go_roundw
          case rel => exact ⟨k + 1, by omega, by go_num, hidOf (by rw [HS.out, HE.out]; have h4 := HR.out.1; rw [set_set] at h4; exact h4), hidOf (HFT.out.trans HR.out.2)⟩
          case measure => simp [intOf]; omega
        · have h12b : (x.tc + 1 == 12) = false := by simp [h12]
          have HE : Hid (tk1 x = { x with tc := x.tc + 1 }) := hidOf (by unfold tk1; rw [if_pos htk, if_neg h12])
          clear htk hiv hfx hd0 h12
          go_wp2
          go_roundw
          case rel => exact ⟨k + 1, by omega, by go_num, hidOf (by rw [HS.out, HE.out]; exact HT.out.mono (by omega)), HFT⟩
          case measure => simp [intOf]; omega
      | false =>
        rw [htk] at x6
        by_cases hd : 0 < x.dl
        · have hd6 := hiv.d6
          by_cases h1 : x.dl - 1 = 0
          · have h1b : (x.dl - 1 == 0) = true := by simp [h1]
            have HE : Hid (tk1 x = { x with dl := 0 }) := hidOf (by unfold tk1; rw [if_neg (by simp [htk]), if_pos hd, h1])
            obtain ⟨pH2, c1, hP⟩ := HB.out.free HXK.out htk (by omega) (by omega)
            have hz1 : x.dl - 1 = 0 := h1
            have HP := hidOf hP
            have hx1 : x.dl = 1 := by omega
            have hpne : pB ≠ b := by
              obtain ⟨v2, pH3, M2, n2, r2, hL2, _⟩ := HB.out.ex
              intro e
              have h5 := hL2.blk
              have h6 : wr.heap[b]? = some (.cells (itC x) 65 (0, 0)) := HIT.out
              rw [e, h6] at h5; cases h5
            have hbne : b ≠ pB := fun e => hpne e.symm
            simp only [ptr] at c1 HP
            rw [hx1] at x5
            have h11 : ((1 : Int) - 1 == 0) = true := rfl
            clear htk hiv hd hd6 h1 h1b hz1 hx1 hP
            go_wp2_with (go_at_call 35; refine HP.out.mono ?_; rintro e w2 ⟨rfl, h2, h3⟩; have HR := hidOf (And.intro h2 h3); clear h2 h3)
            go_roundw
            case rel => exact ⟨k + 1, by omega, by go_num, hidOf (by rw [HS.out, HE.out]; exact HR.out.1), hidOf (HF.out.trans HR.out.2)⟩
            case measure => simp [intOf]; omega
          · have h1b : (x.dl - 1 == 0) = false := by simp [h1]
            have HE : Hid (tk1 x = { x with dl := x.dl - 1 }) := hidOf (by unfold tk1; rw [if_neg (by simp [htk]), if_pos hd])
            have HT := hidOf (HB.out.setc HXK.out (by simp [fr, htk]; omega) (y := { x with dl := x.dl - 1 }) (by simp [fr]; intro _; omega) 5 (.int .i64 (x.dl - 1)) rfl)
            have HFT := hidOf (FrT.set (T := TP) HF.out HIT.out (by decide) HDB.out 5 (.int .i64 (x.dl - 1)))
            clear htk hiv h1
            go_wp2
            go_roundw
            case rel => exact ⟨k + 1, by omega, by go_num, hidOf (by rw [HS.out, HE.out]; exact HT.out.mono (by omega)), HFT⟩
            case measure => simp [intOf]; omega
        · have HE : Hid (tk1 x = x) := hidOf (by unfold tk1; rw [if_neg (by simp [htk]), if_neg hd])
          have HT : Hid (Bk D wr pB (tkK L (k + 1)) (N + (k + 1))) := hidOf (by
            rw [HS.out, HE.out]
            have : (tkK L k).set k (b, x) = tkK L k := by
              apply List.ext_getElem?
              intro j
              by_cases e : k = j
              · subst e
                rw [List.getElem?_set_self (List.getElem?_eq_some_iff.1 HXK.out).1, HXK.out]
              · rw [List.getElem?_set_ne e]
            rw [this]; exact HB.out.mono (by omega))
          clear htk hiv
          go_wp2
          go_roundw
          case rel => exact ⟨k + 1, by omega, by go_num, HT, HF⟩
          case measure => simp [intOf]; omega
    · obtain rfl : k = L.length := by omega
      have hltz : ¬ (L.length : Int) < (L.length : Int) := by omega
      go_wp2
      go_end0
      exact ⟨rfl, by have := HB.out; rw [tkK_all] at this; exact this, HF.out⟩

end Go.Proofs.Ytndomlbjdppckaa
