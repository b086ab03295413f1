/- Slice, Newer, mayCome, New. -/
import Derived.Test.YtdkmlgkljhhokaaLgm
namespace Go.Proofs.Ytdkmlgkljhhokaa
open Go.RowKit

theorem EsR.sub {w0 w : World} {a : Option Addr} {n cap : Nat} {L : List En} (h : EsR w0 w (.slice a n cap) L) {j m : Nat} (hj : j < L.length) (hm : j + m ≤ L.length) : ∃ b off, a = some ⟨b, off, none⟩ ∧ n = L.length ∧ j < cap ∧ j + m ≤ cap ∧ EsR w0 w (.slice (some ⟨b, off + j * 29, none⟩) m (cap - j)) ((L.drop j).take m) := by
  rcases h with ⟨_, rfl⟩ | ⟨b, off, cap', C, e, h2, h3⟩
  · simp at hj
  · cases e
    refine ⟨b, off, rfl, rfl, by omega, by omega, .inr ⟨b, off + j * 29, cap - j, fun i => C (j + i), ?_, ?_, fun i e hi => ?_⟩⟩
    · rw [List.length_take, List.length_drop, Nat.min_eq_left (by omega)]
    · rw [List.length_take, List.length_drop]; omega
    · have hi' : L[j + i]? = some e := by
        rw [List.getElem?_take] at hi
        split at hi
        · rw [List.getElem?_drop] at hi; exact hi
        · cases hi
      obtain ⟨g1, g2⟩ := h3 (j + i) e hi'
      refine ⟨g1, ?_⟩
      rw [show off + j * 29 + i * 29 = off + (j + i) * 29 by rw [Nat.add_mul]; omega]
      exact g2
section
variable {w0 w : World} {p : Nat} {M : Lg} {v : Value}
def SlP (w0 w : World) (L : List En) (e : Ending) (w' : World) : Prop := ∃ v', e = .returned v' ∧ OwR w0 w' v' L ∧ Below w.heap.size w w' ∧ ∀ k, v'.ownBlock = some k → w.heap.size ≤ k
theorem SlP.mk {w0 w w' : World} {L : List En} {v' : Value} (h1 : OwR w0 w' v' L) (h2 : Below w.heap.size w w') (h3 : ∀ k, v'.ownBlock = some k → w.heap.size ≤ k) : SlP w0 w L (.returned v') w' := ⟨v', rfl, h1, h2, h3⟩
set_option maxHeartbeats 4000000 in
theorem slice_any (h : LgR w0 w 72 p M v) (f most : Int) : Calls Try.prog 19 #[.pointer (some ⟨p, 0, none⟩), .int .i64 f, .int .i64 most] w (SlP w0 w (sliceM M f most)) := by
  have HL := hidOf (last_any h)
  obtain ⟨c0, c1, c2, hp, _⟩ := h.cells
  obtain ⟨va, vc, hv⟩ := h.form
  by_cases hno : f ≤ M.bi ∨ lastI M < f ∨ most < 1
  · have HE : Hid (sliceM M f most = []) := hidOf (if_pos hno)
    rw [HE.out]
    have hno' : (f ≤ M.bi) ∨ (¬ f ≤ M.bi ∧ lastI M < f) ∨ (¬ f ≤ M.bi ∧ ¬ lastI M < f ∧ most < 1) := by omega
    clear hno HE
    generalize lastI M = li at *
    generalize lastT M = lt at *
    rcases hno' with h1 | ⟨h1, h2⟩ | ⟨h1, h2, h3⟩
    all_goals
      clear h hv
      go_enter Try.func19, Try.ntmps19
      go_wp2_with (go_at_call 16; refine HL.out.mono ?_; rintro e w1 ⟨rfl, nq, rfl⟩)
      go_ret
      exact SlP.mk (OwR.nil _ _) (by first | exact bdrewN _ _ | exact Below.refl _ _) (fun k hk => by cases hk)
  · have hn1 : ¬ f ≤ M.bi := by omega
    have hn2 : ¬ lastI M < f := by omega
    have hn3 : ¬ most < 1 := by omega
    obtain ⟨j, hj⟩ : ∃ j : Nat, f = M.bi + 1 + j := ⟨(f - M.bi - 1).toNat, by omega⟩
    subst hj
    have hjl : j < M.L.length := by unfold lastI at hn2; omega
    obtain ⟨m, hm⟩ : ∃ m : Nat, (m : Int) = min most ((M.L.length - j : Nat) : Int) := ⟨(min most ((M.L.length - j : Nat) : Int)).toNat, by omega⟩
    have HE : Hid (sliceM M (M.bi + 1 + j) most = (M.L.drop j).take m) := by
      refine hidOf ?_
      unfold sliceM
      rw [if_neg hno, show (M.bi + 1 + (j : Int) - M.bi - 1).toNat = j by omega]
      by_cases hc : most.toNat ≤ M.L.length - j
      · rw [show m = most.toNat by omega]
      · rw [List.take_of_length_le (by simp; omega), List.take_of_length_le (by simp; omega)]
    rw [HE.out]
    obtain ⟨b, off, hb, hn, hc1, hc2, hsub⟩ := (hv ▸ h.own.es).sub (m := m) hjl (by omega)
    subst hb
    have HSUB : Hid (∀ w', Below w.heap.size w w' → EsR w0 w' (.slice (some ⟨b, off + j * 29, none⟩) m (vc - j)) ((M.L.drop j).take m)) := hidOf (fun w' hb => hsub.below h.w0le hb)
    have hblt : b < w.heap.size := by
      rcases h.own.cases with ⟨_, e⟩ | ⟨b', off', cap', e, ho⟩
      · rw [e] at hjl; simp at hjl
      · rw [hv] at e; cases e; exact ho.lt
    have HP : Hid (∀ w', Dr w w' → Calls Try.prog 34 #[.pointer (some ⟨p, 0, none⟩), .int .i64 (M.bi + 1 + j)] w' fun e w2 => e = .returned (.int .i64 (j : Int)) ∧ Dr w' w2) := hidOf (fun w' hd => by
      have := place_any (h.below hd.bel) (M.bi + 1 + j) (by have := h.wf.b0; have := h.wf.lastI_le; omega)
      rw [show M.bi + 1 + (j : Int) - M.bi - 1 = (j : Int) by omega] at this
      exact this)
    have HW0 := hidOf h.w0le
    have hl3 := h.len
    have hmm : m ≤ M.L.length - j := by omega
    have HTL : Hid (((M.L.drop j).take m).length ≤ 67108864) := by
      refine hidOf ?_
      rw [List.length_take]; omega
    have hAB : (most = (m : Int) ∧ (m : Int) ≤ ((M.L.length - j : Nat) : Int)) ∨ (m = M.L.length - j ∧ ((M.L.length - j : Nat) : Int) < most) := by omega
    have hne : ¬ vc = j := by omega
    have hjm : j ≤ M.L.length := by omega
    rw [hv] at c2
    clear hno hn HE hsub hv h hm
    generalize (M.L.drop j).take m = SL at *
    generalize hML : M.L.length = ml at *
    generalize lastI M = li at *
    generalize lastT M = lt at *
    obtain ⟨bi, bt, L⟩ := M
    dsimp only at *
    clear hML
    generalize hI : bi + 1 + (j : Int) = I at *
    clear hI
    rcases hAB with ⟨rfl, hle⟩ | ⟨rfl, hle⟩
    all_goals
      go_enter Try.func19, Try.ntmps19
      go_wp2_with (go_at_call 16; refine HL.out.mono ?_; rintro e w1 ⟨rfl, nq, rfl⟩)
      go_region_held3 (fun w' => w'.cell? ⟨p, 2, none⟩ = some (.slice (some ⟨b, off, none⟩) ml vc)) (go_keep) (first | (go_at_call 34; refine (HP.out _ (((Dr.refl w).dn _).d)).mono ?_; rintro e w1 ⟨rfl, nq2, rfl⟩))
      go_wp2_with (go_at_call 38; refine (copyEntries_any w0 (w.drewN _) HW0.out _ SL (HSUB.out (w.drewN _) (bdrewN _ _)) HTL.out).mono ?_; rintro e w3 ⟨v3, rfl, o1, o2, o3⟩; have O1 := hidOf o1; have O2 := hidOf o2; have O3 := hidOf o3; clear o1 o2 o3)
      go_ret
      exact SlP.mk O1.out ((bdrewN _ _).trans O2.out) O3.out
end
end Go.Proofs.Ytdkmlgkljhhokaa
