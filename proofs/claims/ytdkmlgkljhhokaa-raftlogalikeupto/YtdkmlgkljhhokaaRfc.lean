/- The document's log: Compact. -/
import Derived.Test.YtdkmlgkljhhokaaRfq
namespace Go.Proofs.Ytdkmlgkljhhokaa
open Go.RowKit

theorem drop_take {L : List En} {k g : Nat} {e : En} (h : L[k]? = some e) : (L.take (k + 1)).drop g = if g ≤ k then (L.take k).drop g ++ [e] else (L.take k).drop g := by
  obtain ⟨hl, rfl⟩ := List.getElem?_eq_some_iff.1 h
  rw [List.take_succ_eq_append_getElem hl]
  split
  · rw [List.drop_append_of_le_length (by rw [List.length_take]; omega)]
  · rw [List.drop_eq_nil_of_le (by rw [List.length_append, List.length_take]; simp; omega), List.drop_eq_nil_of_le (by rw [List.length_take]; omega)]
theorem LgR.set39 {w0 w : World} {p : Nat} {x0 x1 x2 v' : Value} {a b : Int} {L : List En} (hb : w.heap[p]? = some (.cells #[x0, x1, x2] 69 (0, 0))) (hlo : w0.heap.size ≤ p) (ho : OwR w0 w v' L) (hw : Wf ⟨a, b, L⟩) (hl : L.length ≤ 33554432) : LgR w0 (((w.setCell ⟨p, 0, none⟩ (.int .i64 a)).setCell ⟨p, 1, none⟩ (.int .i64 b)).setCell ⟨p, 2, none⟩ v') 69 p ⟨a, b, L⟩ v' := by
  have h1 := heap_setCell_same w p 0 _ 69 (.int .i64 a) hb
  have h2 := heap_setCell_same _ p 1 _ 69 (.int .i64 b) h1
  have h3 := heap_setCell_same _ p 2 _ 69 v' h2
  exact ⟨by simpa using h3, hlo, ((ho.setp hb (.inr rfl) hlo 0 _).setp h1 (.inr rfl) hlo 1 _).setp h2 (.inr rfl) hlo 2 _, hw, hl⟩
theorem chg_q (w : World) (p k : Nat) (u : Value) : Chg w (w.setCell ⟨p, k, none⟩ u) (fun k => k = p) := ⟨rfl, rfl, rfl, by simp, fun i _ hn => Below.heap_setCell w ⟨p, k, none⟩ u i hn⟩
section
variable {w0 w : World} {q : Nat} {M : Lg} {v : Value}
def RcP (w0 w : World) (q : Nat) (v : Value) (E : Int) (M' : Lg) (e : Ending) (w' : World) : Prop := ∃ v', e = .returned (.int .i64 E) ∧ LgR w0 w' 69 q M' v' ∧ Chg w w' (fun k => k = q) ∧ Nx w v v'
theorem RcP.mk {w' : World} {E : Int} {M' : Lg} {v' : Value} (h1 : LgR w0 w' 69 q M' v') (h2 : Chg w w' (fun k => k = q)) (h3 : Nx w v v') : RcP w0 w q v E M' (.returned (.int .i64 E)) w' := ⟨v', rfl, h1, h2, h3⟩
set_option maxHeartbeats 8000000 in
set_option maxRecDepth 100000 in
theorem rcompact_any (h : LgR w0 w 69 q M v) (i : Int) : Calls Try.prog 27 #[.pointer (some ⟨q, 0, none⟩), .int .i64 i] w (RcP w0 w q v (compE M i) (compM M i)) := by
  have HL := hidOf (rlast_any h)
  have HT := hidOf (rterm_any h i)
  have H := hidOf h
  obtain ⟨c0, c1, c2, hp, hfz⟩ := h.cells
  obtain ⟨va, vc, hv⟩ := h.form
  subst hv
  have hw0 := h.w0le
  by_cases h1 : lastI M < i
  · have HE : Hid (compE M i = 3 ∧ compM M i = M) := hidOf ⟨if_pos h1, if_pos (.inl h1)⟩
    rw [HE.out.1, HE.out.2]
    generalize lastI M = li at *
    generalize lastT M = lt at *
    clear h HE
    go_enter Try.func27, Try.ntmps27
    go_wp2_with (go_at_call 32; refine HL.out.mono ?_; rintro e w1 ⟨rfl, hw1⟩; subst w1)
    go_ret
    exact RcP.mk H.out (Chg.bel (Below.refl _ _)) (Nx.refl _ _)
  · by_cases h2 : i ≤ M.bi
    · have HE : Hid (compE M i = 0 ∧ compM M i = M) := hidOf ⟨if_neg h1, if_pos (.inr h2)⟩
      rw [HE.out.1, HE.out.2]
      generalize lastI M = li at *
      generalize lastT M = lt at *
      clear h HE
      go_enter Try.func27, Try.ntmps27
      go_wp2_with (go_at_call 32; refine HL.out.mono ?_; rintro e w1 ⟨rfl, hw1⟩; subst w1)
      go_ret
      exact RcP.mk H.out (Chg.bel (Below.refl _ _)) (Nx.refl _ _)
    · obtain ⟨g, hg⟩ : ∃ g : Nat, i = M.bi + g := ⟨(i - M.bi).toNat, by omega⟩
      subst hg
      have HWF := hidOf (h.wf.comp (M.bi + g))
      have HE : Hid (compE M (M.bi + g) = 0 ∧ compM M (M.bi + g) = ⟨M.bi + g, termT M (M.bi + g), M.L.drop g⟩) := hidOf ⟨if_neg h1, by unfold compM; rw [if_neg (by omega), show (M.bi + (g : Int) - M.bi).toNat = g by omega]⟩
      rw [HE.out.2] at HWF
      rw [HE.out.1, HE.out.2]
      have hml := h.len
      clear h HE
      generalize hI : M.bi + (g : Int) = I at *
      have HI := hidOf hI
      generalize termT M I = tt at *
      generalize termE M I = te at *
      generalize lastI M = li at *
      generalize lastT M = lt at *
      clear hI
      go_enter Try.func27, Try.ntmps27
      go_wp2_with (first | (go_at_call 32; refine HL.out.mono ?_; rintro e w1 ⟨rfl, hw1⟩; subst w1) | (go_at_call 28; refine HT.out.mono ?_; rintro e w2 ⟨rfl, hw2⟩; subst w2))
      go_loopw [9, 10] (fun ov jv wr => ∃ (j : Nat) (oa : Option Addr) (on oc : Nat), j ≤ M.L.length ∧ jv = .int .i64 (j : Int) ∧ ov = .slice oa on oc ∧ Hid (OwR w0 wr (.slice oa on oc) ((M.L.take j).drop g) ∧ (∀ x, (Value.slice oa on oc).ownBlock = some x → w.heap.size ≤ x)) ∧ Hid (Below w.heap.size w wr)) (fun _ jv _ => M.L.length - (intOf jv).toNat)
      case atStart => exact ⟨0, none, 0, 0, Nat.zero_le _, rfl, rfl, hidOf ⟨by rw [List.take_zero, List.drop_nil]; exact OwR.nil _ _, fun x hx => by cases hx⟩, hidOf (Below.refl _ _)⟩
      case round =>
        obtain ⟨j, oa, on, oc, hj, rfl, rfl, HO, HB⟩ := hrel
        have HLr := hidOf (H.out.below HB.out)
        obtain ⟨y0, y1, y2, hpr, yf⟩ := HLr.out.cells
        have hwr0 := HLr.out.w0le
        by_cases hjl : j < M.L.length
        · have hjz : (j : Int) < (M.L.length : Int) := by omega
          obtain ⟨x, hxj⟩ : ∃ x, M.L[j]? = some x := ⟨_, List.getElem?_eq_getElem hjl⟩
          obtain ⟨b2, off2, cap2, cc, hv2, hb2, z0, _, hE2, hR2⟩ := HLr.out.own.es.at hxj
          cases hv2
          have hxi := (H.out.wf.at hxj).1
          have HTM := hidOf (drop_take (g := g) hxj)
          have HE2 := hidOf hE2
          have HR2 := hidOf hR2
          clear hxj hE2 hR2
          by_cases hjk : g ≤ j
          · have hlt2 : I < x.ix := by rw [hxi, ← HI.out]; omega
            have HT2 : Hid ((M.L.take (j + 1)).drop g = (M.L.take j).drop g ++ [x]) := hidOf (by rw [HTM.out, if_pos hjk])
            have HLK : Hid (((M.L.take j).drop g).length + 1 ≤ 67108864) := hidOf (by rw [List.length_drop, List.length_take]; omega)
            clear HTM hxi hjk
            obtain ⟨ix2, tm2, op2, id2⟩ := x
            dsimp only at z0 hlt2
            go_wp2_with (first
              | (refine wpList_load_mid rfl 51 (.tmp 56) rfl b2 (off2 + j * 29) rfl cc _ HR2.out Try.underlying51 rfl (en_info HE2.out) ?_)
              | (refine wpList_bs1 rfl (.tmp 57) rfl cc HE2.out.len rfl ?_)
              | (at_builtin; refine wpList_app _ rfl (.tmp 50) (.tmp 58) rfl w0 (Nat.le_trans hwr0 (by simp)) (.slice oa on oc) _ _ _ rfl (HO.out.1.below hwr0 (below1 wr _)) rfl (es_box HE2.out hwr0) (by have := HLK.out; simpa using this) ?_; intro v3 w3 a1 a2 a3; rw [← HT2.out] at a1; have A1 := hidOf a1; have HB3 := hidOf (HB.out.trans (((below1 wr (.cells cc.toArray 51)).mono HB.out.size).trans (a2.below (Nat.le_trans HB.out.size (by simp)) HO.out.2))); have HN3 := hidOf (show ∀ x, v3.ownBlock = some x → w.heap.size ≤ x from fun x hx => (by rcases a3 with e | e; exact HO.out.2 x (e ▸ hx); (rw [e] at hx; have h5 := Option.some.inj hx; have h6 := HB.out.size; simp at h5; omega))); obtain ⟨oa3, on3, oc3, hv3⟩ : ∃ a n c, v3 = Value.slice a n c := (by obtain ⟨a, c, h⟩ := a1.es.form; exact ⟨a, _, c, h⟩); subst hv3; clear a1 a2 a3))
            go_roundw
            case rel => exact ⟨j + 1, oa3, on3, oc3, by omega, by go_num, rfl, hidOf ⟨A1.out, HN3.out⟩, HB3⟩
            case measure => simp [intOf]; omega
          · have hlt2 : ¬ I < x.ix := by rw [hxi, ← HI.out]; omega
            have HT2 : Hid ((M.L.take (j + 1)).drop g = (M.L.take j).drop g) := hidOf (by rw [HTM.out, if_neg hjk])
            clear HTM hxi hjk
            obtain ⟨ix2, tm2, op2, id2⟩ := x
            dsimp only at z0 hlt2
            go_wp2
            go_roundw
            case rel => exact ⟨j + 1, oa, on, oc, by omega, by go_num, rfl, hidOf ⟨by rw [HT2.out]; exact HO.out.1, HO.out.2⟩, HB⟩
            case measure => simp [intOf]; omega
        · have hjz : ¬ (j : Int) < (M.L.length : Int) := by omega
          have HTE2 : Hid ((M.L.take j).drop g = M.L.drop g) := hidOf (by rw [List.take_of_length_le (by omega)])
          rw [HTE2.out] at HO
          have HLD : Hid ((M.L.drop g).length ≤ 33554432) := hidOf (by rw [List.length_drop]; omega)
          go_wp2
          go_ret
          exact RcP.mk (LgR.set39 HLr.out.blk H.out.lo HO.out.1 HWF.out HLD.out) ((((Chg.bel HB.out).trans (chg_q _ q 0 _) (fun _ e => .inl e)).trans (chg_q _ q 1 _) (fun _ e => .inl e)).trans (chg_q _ q 2 _) (fun _ e => .inl e)) (fun x hx => .inr (HO.out.2 x hx))
end
end Go.Proofs.Ytdkmlgkljhhokaa
