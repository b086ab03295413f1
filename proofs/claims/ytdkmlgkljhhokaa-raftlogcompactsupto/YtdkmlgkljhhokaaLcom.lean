/- RaftlogCompacts, walked. -/
import Derived.Test.YtdkmlgkljhhokaaLpla
namespace Go.Proofs.Ytdkmlgkljhhokaa
open Go.RowKit

theorem endT_app (B : List En) : ∀ (A : List En) (t : Int), endT t (A ++ B) = endT (endT t A) B
  | [], _ => rfl
  | x :: A, _ => endT_app B A x.tm
theorem comp_facts {M : Lg} {i : Int} (h1 : M.bi ≤ i) (h2 : i ≤ lastI M) : compE M i = 0 ∧ (compM M i).bi = i ∧ (compM M i).bt = termT M i ∧ lastI (compM M i) = lastI M ∧ lastT (compM M i) = lastT M ∧ (∀ m, sliceM (compM M i) (i + 1) m = sliceM M (i + 1) m) ∧ termE M i = 0 ∧ termE (compM M i) (i - 1) = 23 := by
  refine ⟨by unfold compE; rw [if_neg (by omega)], ?_⟩
  have hE : termE M i = 0 := by unfold termE; rw [if_neg (by omega), if_neg (by omega)]
  by_cases e : i ≤ M.bi
  · have e2 : i = M.bi := by omega
    have hc : compM M i = M := by unfold compM; rw [if_pos (Or.inr e)]
    rw [hc]
    refine ⟨e2.symm, ?_, rfl, rfl, fun _ => rfl, hE, by unfold termE; rw [if_pos (by omega)]⟩
    unfold termT
    rw [if_neg (by omega), if_neg (by omega), if_pos e2]
  · have hc : compM M i = ⟨i, termT M i, M.L.drop (i - M.bi).toNat⟩ := by unfold compM; rw [if_neg (by omega)]
    rw [hc]
    have hl : lastI ⟨i, termT M i, M.L.drop (i - M.bi).toNat⟩ = lastI M := by
      unfold lastI at h2 ⊢
      simp only [List.length_drop]
      omega
    refine ⟨rfl, rfl, hl, ?_, fun m => ?_, hE, by unfold termE; rw [if_pos (by show i - 1 < i; omega)]⟩
    · show endT (termT M i) (M.L.drop (i - M.bi).toNat) = endT M.bt M.L
      rw [← endT_take h1 h2, ← endT_app, List.take_append_drop]
    · unfold sliceM
      rw [hl]
      by_cases hq : lastI M < i + 1 ∨ m < 1
      · rw [if_pos (Or.inr hq), if_pos (Or.inr hq)]
      · rw [if_neg (by show ¬(i + 1 ≤ i ∨ _); omega), if_neg (by omega)]
        show ((M.L.drop (i - M.bi).toNat).drop (i + 1 - i - 1).toNat).take m.toNat = _
        rw [show (i + 1 - i - 1).toNat = 0 by omega, List.drop_zero, show (i + 1 - M.bi - 1).toNat = (i - M.bi).toNat by congr 1; omega]
theorem OwR.code {w0 w w' : World} {p q : Nat} {M N : Lg} {v u s : Value} {S : List En} (ho : OwR w0 w s S) (h : TwR w0 w p q M N v u) (hc : Chg w w' (Sp p v)) (hn : ∀ k, s.ownBlock = some k → ¬ Sp p v k) : OwR w0 w' s S := by
  have hk : Kp w0 w w' := hc.kp h.w0le (fun k hk e => by
    rcases e with e | e
    · rw [e]; exact ⟨h.c.lo, _, 72, (0, 0), h.c.blk, .inr (.inl rfl)⟩
    · obtain ⟨a, cur, hb⟩ := h.c.own.blk e; exact ⟨a, cur, 51, (0, 0), hb, .inl rfl⟩)
  refine ho.kept hk (fun b e => hc.block b ?_ (hn b e))
  obtain ⟨_, cur, hb⟩ := ho.blk e
  exact heap_lt hb
set_option maxHeartbeats 8000000 in
set_option maxRecDepth 100000 in
theorem lawCompacts (a : Option Addr) (cap : Nat) (L : List Dee) (iz : Int) (w : World) (hO : Dees w a L) (hL : wt L ≤ 1048576) (hiz : i64 iz) : Calls Try.prog 5 #[.slice a L.length cap, .int .i64 iz] w fun e w' => e = .returned (.bool true) ∧ Below w.heap.size w w' := by
  have HO := hidOf hO
  have HL := hidOf hL
  have HLV := hidOf lives_any
  have HTW := hidOf (tw_new w (i := 0) (t := 0) (by decide))
  clear hO hL
  go_enter Try.func5, Try.ntmps5
  go_wp2_with (first
    | (go_at_call 9; refine (new_yes 0 0 w (by decide)).mono ?_; rintro e w1 ⟨rfl, hw1⟩; rw [← hw1] at HTW; have HW1 := hidOf hw1; clear hw1)
    | (go_at_call 10; refine (rnew_yes 0 0 w1 (by decide)).mono ?_; rintro e w2 ⟨rfl, hw2⟩; rw [← hw2] at HTW; clear hw2))
  obtain ⟨q, hq⟩ : ∃ q, q = w1.heap.size := ⟨_, rfl⟩
  rw [← hq] at HTW
  rw [← hq]
  clear hq HW1
  go_loopw [7] (fun i wr => ∃ (k : Nat) (M : Lg), i = .int .i64 (k : Int) ∧ k ≤ L.length ∧ Hid (TwL w wr w.heap.size q M ∧ M.L.length ≤ pre L k)) (fun i _ => L.length - (intOf i).toNat)
  case atStart => exact ⟨0, _, rfl, Nat.zero_le _, hidOf ⟨HTW.out, Nat.zero_le _⟩⟩
  case round =>
    obtain ⟨j, M, rfl, hk, H⟩ := hrel
    have hJ : j ≤ 1048576 := by
      have h1 := pre_len L
      have := HL.out
      omega
    by_cases hlt : j < L.length
    · have hltz : (j : Int) < (L.length : Int) := by omega
      obtain ⟨b, off, hab, hbl, c0, c1, c2, c3, c4, hB⟩ := HO.out.at H.out.1.bel j hlt
      subst hab
      have HC := hidOf (does_t H.out.1 hlt hB HL.out H.out.2)
      obtain ⟨x, hx⟩ : ∃ x, x = dt L j := ⟨_, rfl⟩
      rw [← hx] at c0 c1 c2 c3 c4 HC
      have hbw : b < wr.heap.size := Nat.lt_of_lt_of_le hbl H.out.1.bel.size
      clear hx hB hbl
      obtain ⟨kd, ix, tm, op, xa, xc, D⟩ := x
      simp only at c0 c1 c2 c3 c4
      simp only at HC
      generalize D.length = dn at *
      go_wp2_with (go_at_call 11; refine HC.out.mono ?_; rintro e w4 ⟨rfl, ht, hm⟩; generalize nxL _ M = M2 at ht hm; have HT := hidOf ht; have HM := hidOf hm; clear ht hm HC)
      go_roundw
      case rel => exact ⟨j + 1, M2, by go_num, by omega, hidOf ⟨HT.out, HM.out⟩⟩
      case measure => simp [intOf]; omega
    · have hltz : ¬ (j : Int) < (L.length : Int) := by omega
      obtain ⟨v, u, ht⟩ := H.out.1
      have HT := hidOf ht
      have HWF := hidOf ht.c.wf
      have HLN := hidOf ht.c.len
      have hb0 := ht.c.wf.b0
      have hb1 := ht.c.wf.b1
      clear ht H
      obtain ⟨bi, HBI⟩ : ∃ b, Hid (b = M.bi) := ⟨_, hidOf rfl⟩
      rw [← HBI.out] at hb0 hb1
      have hl := HWF.out.lastI_le
      obtain ⟨li, HLI⟩ : ∃ b, Hid (b = lastI M) := ⟨_, hidOf rfl⟩
      obtain ⟨lt, HLT⟩ : ∃ b, Hid (b = lastT M) := ⟨_, hidOf rfl⟩
      rw [← HLI.out, ← HBI.out] at hl
      have HPK := hidOf (fun w' => pick_any iz (li - bi + 1) w' hiz (by omega))
      have hc := pickZ_range iz (show 0 < li - bi + 1 by omega)
      generalize pickZ iz (li - bi + 1) = c at *
      obtain ⟨f0, f1, f2, f3, f4, f5, f6, f7⟩ := comp_facts (M := M) (i := bi + c) (by rw [← HBI.out]; omega) (by rw [← HLI.out]; omega)
      rw [← HLI.out] at f3
      rw [← HLT.out] at f4
      obtain ⟨S, HS⟩ : ∃ b, Hid (b = sliceM M (bi + c + 1) 1073741824) := ⟨_, hidOf rfl⟩
      have HSL : Hid (S.length ≤ 67108864) := hidOf (by have := sliceM_len M (bi + c + 1) 1073741824; have := HLN.out; rw [HS.out]; omega)
      have f5 := f5 1073741824
      rw [← HS.out] at f5
      have F0 := hidOf f0
      have F1 := hidOf f1
      have F2 := hidOf f2
      have F3 := hidOf f3
      have F4 := hidOf f4
      have F5 := hidOf f5
      have F6 := hidOf f6
      have F7 := hidOf f7
      clear f0 f1 f2 f3 f4 f5 f6 f7 hiz
      obtain ⟨tt, HTT⟩ : ∃ b, Hid (b = termT M (bi + c)) := ⟨_, hidOf rfl⟩
      rw [← HTT.out] at F2
      obtain ⟨M3, HM3⟩ : ∃ b, Hid (b = compM M (bi + c)) := ⟨_, hidOf rfl⟩
      rw [← HM3.out] at F1 F2 F3 F4 F5 F7
      have HTE : Hid (∀ w' , LgR w w' 72 w.heap.size M v → Calls Try.prog 17 #[.pointer (some ⟨w.heap.size, 0, none⟩), .int .i64 (bi + c)] w' fun e w2 => e = .returned (.tuple #[.int .i64 tt, .int .i64 0]) ∧ Dr w' w2) := hidOf (fun w' hw => by have := term_any hw (bi + c); rw [F6.out, ← HTT.out] at this; exact this)
      go_wp2_with (first
        | (go_at_call 21; refine (base_any HT.out.c).mono ?_; rintro e w5 ⟨he, hd⟩; rw [← HBI.out] at he; subst he; have HT5 := hidOf (HT.out.below hd.bel); clear hd HT)
        | (go_at_call 16; refine (last_any HT5.out.c).mono ?_; rintro e w6 ⟨he, hd⟩; rw [← HLI.out, ← HLT.out] at he; subst he; have HT6 := hidOf (HT5.out.below hd.bel); clear hd HT5)
        | (go_at_call 15; refine (HPK.out _).mono ?_; rintro e w7 ⟨rfl, hw7⟩; subst w7)
        | (go_at_call 19; refine (slice_any HT6.out.c (bi + c + 1) 1073741824).mono ?_; rintro e w8 ⟨s8, rfl, o8, b8, n8⟩; rw [← HS.out] at o8; have HT8 := hidOf (HT6.out.below b8); have HN8 := hidOf (fun k hk => HT6.out.notP (n8 k hk)); have HO8 := hidOf o8; clear o8 b8 n8 HT6)
        | (go_at_call 17; refine (HTE.out _ HT8.out.c).mono ?_; rintro e w9 ⟨rfl, hd⟩; have HT9 := hidOf (HT8.out.below hd.bel); have HO9 := hidOf (HO8.out.below HT8.out.w0le hd.bel); clear hd HT8 HO8)
        | (go_at_call 22; refine (compact_any HT9.out.c (bi + c)).mono ?_; rintro e w10 ⟨v10, he, l10, g10, n10⟩; rw [F0.out] at he; subst he; rw [← HM3.out] at l10; have HT10 := hidOf (HT9.out.code l10 g10 n10); have HO10 := hidOf (HO9.out.code HT9.out g10 HN8.out); clear l10 g10 n10 HT9 HO9)
        | (go_at_call 21; refine (base_any HT10.out.c).mono ?_; rintro e w11 ⟨he, hd⟩; rw [F1.out, F2.out] at he; subst he; have HT11 := hidOf (HT10.out.below hd.bel); have HO11 := hidOf (HO10.out.below HT10.out.w0le hd.bel); clear hd HT10 HO10)
        | (go_at_call 16; refine (last_any HT11.out.c).mono ?_; rintro e w12 ⟨he, hd⟩; rw [F3.out, F4.out] at he; subst he; have HT12 := hidOf (HT11.out.below hd.bel); have HO12 := hidOf (HO11.out.below HT11.out.w0le hd.bel); clear hd HT11 HO11)
        | (go_at_call 19; refine (slice_any HT12.out.c (bi + c + 1) 1073741824).mono ?_; rintro e w13 ⟨s13, rfl, o13, b13, _⟩; rw [F5.out] at o13; have HT13 := hidOf (HT12.out.below b13); have HO13 := hidOf (HO12.out.below HT12.out.w0le b13); have HP13 := hidOf o13; clear o13 b13 HT12 HO12)
        | (go_at_call 20; have hS := entries_any w w13 HT13.out.w0le s13 s8 S S HP13.out.es HO13.out.es ⟨HSL.out, HSL.out⟩; rw [show decide (S = S) = true by simp] at hS; refine hS.mono ?_; rintro e w14 ⟨rfl, b14⟩; have HT14 := hidOf (HT13.out.below b14); clear b14 hS HT13 HO13 HP13)
        | (go_at_call 17; refine (term_any HT14.out.c (bi + c - 1)).mono ?_; rintro e w15 ⟨he, hd⟩; rw [F7.out] at he; generalize termT M3 (bi + c - 1) = t15 at he; subst he; have HT15 := hidOf (HT14.out.below hd.bel); clear hd HT14)
        | (go_at_call 13; refine (HLV.out _).mono ?_; rintro e w16 ⟨rfl, hb⟩; have HB := hidOf (HT15.out.bel.trans (hb.mono HT15.out.bel.size)); clear hb))
      go_ret
      exact ⟨by simp, HB.out⟩
end Go.Proofs.Ytdkmlgkljhhokaa
