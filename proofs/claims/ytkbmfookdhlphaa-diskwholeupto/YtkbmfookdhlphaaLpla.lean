/- DiskPlays, walked. -/
import Derived.Test.YtkbmfookdhlphaaRli
namespace Go.Proofs.Ytkbmfookdhlphaa
open Go.RowKit Go.Maps Go.Sort

theorem list_st (p cnt : Nat) (M : Md) (F : Nat → Prop) (w : World) (h : Dsk w p M cnt F) : Calls Try.prog 22 #[.pointer (some ⟨p, 0, none⟩)] w fun e w' => ∃ v ks, e = .returned v ∧ Srt M.files ks ∧ w'.ownsRow w.heap.size 9 1 v ks.length (ks.map encStr) ∧ Below w.heap.size w w' := by
  obtain ⟨⟨bF, bD, DF, DD, dn, G, hd, rfl⟩, hM⟩ := h
  exact list_any p cnt bF bD M DF DD dn G w hd
theorem rd_of {M : Md} (h : OkM M) {s : Nm} {d : List UInt8} (hs : M.files s = some d) : rdE s M = 0 ∧ rdD s M = d ∧ d.length ≤ 1048576 := by
  have hy : (M.files s).isSome = true := by rw [hs]; rfl
  have hn := h.files.2 s hy
  have hc : cOf M.files s = d := by unfold cOf; rw [hs]; rfl
  refine ⟨by unfold rdE; rw [if_pos hn, if_pos hy], by unfold rdD; rw [if_pos hn, hc], ?_⟩
  rw [← hc]
  exact h.files.1 s
set_option maxHeartbeats 4000000 in
set_option maxRecDepth 100000 in
theorem alike_any (w0 w : World) (p q k0 : Nat) (M : Md) (h : Tw2 w0 w p q M M k0) (hk0 : k0 + 1 ≤ 2199023255552) : Calls Try.prog 13 #[.pointer (some ⟨p, 0, none⟩), .pointer (some ⟨q, 0, none⟩)] w fun e w' => e = .returned (.bool true) ∧ Below w.heap.size w w' := by
  obtain ⟨F, R, h⟩ := h
  obtain ⟨a, cap, l, dn, G, hR, rfl⟩ := id h.r
  have HN : Hid (M.done.length ≤ 4398046511104) := hidOf (by have := h.k.n; omega)
  have HRK := hidOf h.k
  have HD := hidOf h.d
  have HR := hidOf hR
  clear h hR
  go_enter Try.func13, Try.ntmps13
  go_wp2_with (first
    | (go_at_call 33; refine (rfiles_any q M a cap l dn G _ HR.out HRK.out.rk HRK.out.ok HN.out).mono ?_; rintro e w1 ⟨a', l', c', rfl, hfl, _, hb⟩; have hl64 : l'.length ≤ 64 := hfl.lst.few (HRK.out.rk.files HRK.out.ok); have HFL := hidOf hfl; have HB1 := hidOf hb; clear hfl hb)
    | (go_at_call 22; refine (list_st p k0 M F _ (HD.out.below HB1.out)).mono ?_; rintro e w2 ⟨v1, ks, rfl, hsr, hrow, hb2⟩; have HSR := hidOf hsr; have HROW := hidOf hrow; have HB2 := hidOf (HB1.out.trans (hb2.mono HB1.out.size)); have HFL2 := hidOf (hb2); clear hsr hrow hb2)
    | (go_at_call 35; refine (rlist_any q M a cap l dn G _ (HR.out.grow HB2.out) HRK.out.rk HRK.out.ok HN.out).mono ?_; rintro e w3 ⟨v2, ks2, rfl, hsr, hrow, hb3⟩; rw [hsr.uniq HSR.out] at hrow; have HROW2 := hidOf hrow; have HROW1 := hidOf (row_grow HROW.out hb3); have HB3 := hidOf (HB2.out.trans (hb3.mono HB2.out.size)); have HFL3 := hidOf (HFL2.out.trans (hb3.mono HFL2.out.size)); have hkl : ks.length ≤ 64 := (HRK.out.rk.files HRK.out.ok) _ ⟨ks, HSR.out, rfl⟩; clear hsr hrow hb3 HROW)
    | (go_at_call 34; refine (names_any v1 v2 _ _ ks _ HROW1.out HROW2.out (by omega)).mono ?_; rintro e w4 ⟨rfl, nq, hw⟩; have hb4 : Below w3.heap.size w3 w4 := (by rw [hw]; exact ⟨rfl, rfl, rfl, Nat.le_refl _, fun _ _ => rfl⟩); have HB4 := hidOf (HB3.out.trans (hb4.mono HB3.out.size)); have HFL4 := hidOf (HFL3.out.trans (hb4.mono HFL3.out.size)); clear hw hb4))
  go_loopw [6] (fun i wr => ∃ k : Nat, k ≤ l'.length ∧ i = .int .i64 (k : Int) ∧ Hid (Below w1.heap.size w1 wr) ∧ Hid (Below w.heap.size w wr)) (fun i _ => l'.length - (intOf i).toNat)
  case atStart => exact ⟨0, Nat.zero_le _, rfl, HFL4, HB4⟩
  case round =>
    obtain ⟨k, hk, rfl, HB, HW⟩ := hrel
    by_cases hlt : k < l'.length
    · have hltz : (k : Int) < (l'.length : Int) := by omega
      obtain ⟨f, hf⟩ : ∃ f, l'[k]? = some f := ⟨_, List.getElem?_eq_getElem hlt⟩
      obtain ⟨b, off, hab, hbl, c0, c1⟩ := HFL.out.fls.at HB.out hf
      subst hab
      have hfm := List.mem_of_getElem? hf
      obtain ⟨r1, r2, hdl⟩ := rd_of HRK.out.ok (HFL.out.lst.to f hfm)
      have HE := hidOf r1
      have HDD := hidOf r2
      have HFB := hidOf ((HFL.out.bs f hfm).1.grow HB.out)
      have hbw : b < wr.heap.size := Nat.lt_of_lt_of_le hbl HB.out.size
      clear hf hfm hbl r1 r2
      obtain ⟨nm, fa, fc, d⟩ := f
      simp only at c0 c1 hdl
      go_wp2_with (first
        | (go_at_call 23; refine (cread_any p k0 M F _ (HD.out.below HW.out) nm).mono ?_; rintro e w3 ⟨z, he, hz, _, hb3⟩; rw [show rdE nm.data.toList M = 0 from HE.out] at he; rw [show rdD nm.data.toList M = d from HDD.out] at hz; subst he; obtain ⟨za, zc, hq, _⟩ := hz.form; subst hq; have HZ := hidOf hz; have HFB3 := hidOf (HFB.out.grow hb3); have HB3 := hidOf (HB.out.trans (hb3.mono HB.out.size)); have HW3 := hidOf (HW.out.trans (hb3.mono HW.out.size)); have d0 := (hb3.cell (p := ⟨b, _, none⟩) hbw).trans c0; have d1 := (hb3.cell (p := ⟨b, _, none⟩) hbw).trans c1; have hbw3 : b < w3.heap.size := Nat.lt_of_lt_of_le hbw hb3.size; clear hz hb3 c0 c1 hbw)
        | (go_at_call 24; have hS := same_any za fa d.length d.length zc fc d d _ rfl rfl ((HZ.out.bs (by omega)).1) HFB3.out; rw [show decide (d = d) = true by simp] at hS; refine hS.mono ?_; rintro e w5 ⟨rfl, nq, hw⟩; have hb5 : Below w3.heap.size w3 w5 := (by rw [hw]; exact ⟨rfl, rfl, rfl, Nat.le_refl _, fun _ _ => rfl⟩); have HB5 := hidOf (HB3.out.trans (hb5.mono HB3.out.size)); have HW5 := hidOf (HW3.out.trans (hb5.mono HW3.out.size)); clear hS hw hb5))
      go_roundw
      case rel => exact ⟨k + 1, by omega, by go_num, HB5, HW5⟩
      case measure => simp [intOf]; omega
    · have hltz : ¬ (k : Int) < (l'.length : Int) := by omega
      go_wp2
      go_ret
      exact ⟨rfl, HW.out⟩

set_option maxHeartbeats 4000000 in
set_option maxRecDepth 100000 in
theorem lawPlays (a : Option Addr) (cap : Nat) (L : List Stp1) (w : World) (hO : Stps w a L) (hN : NmL L) (hL : L.length ≤ 1954687338268) : Calls Try.prog 3 #[.slice a L.length cap] w fun e w' => e = .returned (.bool true) ∧ Below w.heap.size w w' := by
  have HO := hidOf hO
  have HN := hidOf hN
  clear hO hN
  go_enter Try.func3, Try.ntmps3
  go_wp2_with (first
    | (go_at_call 9; refine (new_st _).mono ?_; rintro e w1 ⟨F, rfl, h1, h2, h3⟩; have H1 := hidOf (tw2_new h1 h2 h3); clear h1 h2 h3)
    | (go_at_call 10; refine (rnew_any _).mono ?_; rintro e w2 ⟨rfl, hw⟩; rw [← hw] at H1; clear hw)
    | (go_at_call 11; refine (known_any _).mono ?_; rintro e w3 ⟨rfl, hb⟩; have H2 := hidOf (H1.out.below hb); clear hb))
  go_loopw [5] (fun i wr => ∃ (k : Nat) (M : Md), i = .int .i64 (k : Int) ∧ k ≤ L.length ∧ Hid (Tw2 w wr (w.heap.size + 1 + 1) (w1.heap.size) M M k)) (fun i _ => L.length - (intOf i).toNat)
  case atStart => exact ⟨0, _, rfl, Nat.zero_le _, H2⟩
  case round =>
    obtain ⟨k, M, rfl, hk, H⟩ := hrel
    by_cases hlt : k < L.length
    · have hltz : (k : Int) < (L.length : Int) := by omega
      obtain ⟨b, off, hab, hbl, c0, c1, c2, c3, c4, hB, hnn⟩ := HO.out.at H.out.bel k hlt
      subst hab
      have HC := hidOf (does_t H.out (by omega) (ot L k) hB (HN.out k hlt).1 (HN.out k hlt).2)
      obtain ⟨x, hx⟩ : ∃ x, x = ot L k := ⟨_, rfl⟩
      rw [← hx] at c0 c1 c2 c3 c4 HC
      clear hx hB hnn
      obtain ⟨kd, nm, to, ad, cp, d, xn⟩ := x
      simp only at c0 c1 c2 c3 c4
      have hbw : b < wr.heap.size := Nat.lt_of_lt_of_le hbl H.out.bel.size
      clear hbl
      go_wp2_with (first
        | (go_at_call 12; refine HC.out.mono ?_; rintro e w4 ⟨bb, M', N', rfl, ht, hm, _⟩; obtain ⟨hm1, hm2⟩ := hm rfl; subst hm2; rw [← hm1] at ht; have HT := hidOf ht; clear ht hm hm1)
        | (go_at_call 13; refine (alike_any _ _ _ _ _ _ HT.out (by omega)).mono ?_; rintro e w5 ⟨rfl, hb5⟩; have HT5 := hidOf (HT.out.below hb5); clear hb5))
      go_roundw
      case rel => exact ⟨k + 1, M', by go_num, by omega, HT5⟩
      case measure => simp [intOf]; omega
    · have hltz : ¬ (k : Int) < (L.length : Int) := by omega
      go_wp2
      go_ret
      exact ⟨rfl, H.out.bel⟩
end Go.Proofs.Ytkbmfookdhlphaa
