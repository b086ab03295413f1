/- The document's log: come, Slice. -/
import Derived.Test.YtdkmlgkljhhokaaRfa
namespace Go.Proofs.Ytdkmlgkljhhokaa
open Go.RowKit

def comeB (i t : Int) (D : List En) : Bool := isN i && isN t && mayB i t D
theorem bx0 {w : World} {b : Nat} {c : List Value} {u : Value} (h : Bx w b c) (hc : c.toArray[0]? = some u) : w.cell? ⟨b, 0, none⟩ = some u := by rw [cell_of_row _ _ _ _ 51 (0, 0) h.blk]; exact hc
theorem bx1 {w : World} {b : Nat} {c : List Value} {u : Value} (h : Bx w b c) (hc : c.toArray[1]? = some u) : w.cell? ⟨b, 1, none⟩ = some u := by rw [cell_of_row _ _ _ _ 51 (0, 0) h.blk]; exact hc
set_option maxHeartbeats 4000000 in
set_option maxRecDepth 100000 in
theorem come_any (w0 w : World) (v : Value) (D : List En) (i t : Int) (h : EsR w0 w v D) (hl : D.length ≤ 67108864) : Calls Try.prog 39 #[.int .i64 i, .int .i64 t, v] w fun e w' => e = .returned (.bool (comeB i t D)) ∧ Below w.heap.size w w' := by
  obtain ⟨va, vc, rfl⟩ := h.form
  have H := hidOf h
  clear h
  by_cases hr : (0 ≤ i ∧ i ≤ 1099511627776) ∧ 0 ≤ t ∧ t ≤ 1099511627776
  · obtain ⟨⟨i0, i1⟩, t0, t1⟩ := hr
    have HC : Hid (comeB i t D = mayB i t D) := hidOf (by unfold comeB isN; simp [i0, i1, t0, t1])
    rw [HC.out]
    clear HC
    go_enter Try.func39, Try.ntmps39
    go_wp2
    go_loopw [0, 1, 7] (fun iv tv kv wr => ∃ (k : Nat) (i' t' : Int), k ≤ D.length ∧ kv = .int .i64 (k : Int) ∧ iv = .int .i64 i' ∧ tv = .int .i64 t' ∧ (0 ≤ i' ∧ i' ≤ 1099511627776) ∧ Hid (mayB i t D = mayB i' t' (D.drop k)) ∧ Hid (Below w.heap.size w wr)) (fun _ _ kv _ => D.length - (intOf kv).toNat)
    case atStart => exact ⟨0, i, t, Nat.zero_le _, rfl, rfl, rfl, ⟨i0, i1⟩, hidOf rfl, hidOf (Below.refl _ _)⟩
    case round =>
      obtain ⟨k, i', t', hk, rfl, rfl, rfl, ⟨j0, j1⟩, HK, HB⟩ := hrel
      by_cases hlt : k < D.length
      · have hltz : (k : Int) < (D.length : Int) := by omega
        obtain ⟨e, he⟩ : ∃ e, D[k]? = some e := ⟨_, List.getElem?_eq_getElem hlt⟩
        obtain ⟨b, off, cap, c, hv, hb, d0, d1, hE, hR⟩ := H.out.at he
        cases hv
        have HE := hidOf hE
        have HR := hidOf (range_of hR (HB.out.block _ hb))
        have hbw : b < wr.heap.size := Nat.lt_of_lt_of_le hb HB.out.size
        have HD : Hid (mayB i t D = (decide (e.ix = i' + 1) && decide (e.ix ≤ 1099511627776) && decide (t' ≤ e.tm) && decide (e.tm ≤ 1099511627776) && mayB e.ix e.tm (D.drop (k + 1)))) := hidOf (by rw [HK.out, drop_at he]; rfl)
        have HQ := hidOf (en_q hE)
        clear he hE hR d0 d1 hb
        obtain ⟨ix, tm, op, id⟩ := e
        dsimp only at HD HQ
        by_cases h1 : ix = i' + 1
        · subst h1
          by_cases h2 : i' + 1 ≤ 1099511627776
          · by_cases h3 : t' ≤ tm
            · by_cases h4 : tm ≤ 1099511627776
              · have HF : Hid (mayB i t D = mayB (i' + 1) tm (D.drop (k + 1))) := hidOf (by rw [HD.out]; simp [h2, h3, h4])
                clear HD
                go_wp2_with (first
                  | (refine wpList_load_mid rfl 51 (.tmp 31) rfl b (off + k * 29) rfl c _ HR.out Try.underlying51 rfl (en_info HE.out) ?_)
                  | (refine wpList_store_rowF rfl 51 (.tmp 8) (.tmp 32) rfl wr.heap.size c.toArray rfl rfl 51 Zc.toArray (box_new wr) (by simpa using en_info HE.out) (by have := HE.out.len; simp [Zc, this]) (all_oneCell_toArray HE.out.one) ?_; intro w2 hw2; have hq := box_set hw2.out; have HB2 := hidOf (HB.out.trans (hq.1.mono HB.out.size)); have x0 := bx0 hq.2 HQ.out.1; have x1 := bx1 hq.2 HQ.out.2.1; have xl := heap_lt hq.2.blk; clear hq hw2))
                go_roundw
                case rel => exact ⟨k + 1, i' + 1, tm, by omega, by go_num, rfl, rfl, by omega, HF, HB2⟩
                case measure => simp [intOf]; omega
              · have HF : Hid (mayB i t D = false) := hidOf (by rw [HD.out]; simp [h4])
                clear HD
                go_wp2_with (first
                  | (refine wpList_load_mid rfl 51 (.tmp 31) rfl b (off + k * 29) rfl c _ HR.out Try.underlying51 rfl (en_info HE.out) ?_)
                  | (refine wpList_store_rowF rfl 51 (.tmp 8) (.tmp 32) rfl wr.heap.size c.toArray rfl rfl 51 Zc.toArray (box_new wr) (by simpa using en_info HE.out) (by have := HE.out.len; simp [Zc, this]) (all_oneCell_toArray HE.out.one) ?_; intro w2 hw2; have hq := box_set hw2.out; have HB2 := hidOf (HB.out.trans (hq.1.mono HB.out.size)); have x0 := bx0 hq.2 HQ.out.1; have x1 := bx1 hq.2 HQ.out.2.1; have xl := heap_lt hq.2.blk; clear hq hw2))
                go_ret
                exact ⟨by rw [HF.out]; rfl, HB2.out⟩
            · have HF : Hid (mayB i t D = false) := hidOf (by rw [HD.out]; simp [h3])
              clear HD
              go_wp2_with (first
                | (refine wpList_load_mid rfl 51 (.tmp 31) rfl b (off + k * 29) rfl c _ HR.out Try.underlying51 rfl (en_info HE.out) ?_)
                | (refine wpList_store_rowF rfl 51 (.tmp 8) (.tmp 32) rfl wr.heap.size c.toArray rfl rfl 51 Zc.toArray (box_new wr) (by simpa using en_info HE.out) (by have := HE.out.len; simp [Zc, this]) (all_oneCell_toArray HE.out.one) ?_; intro w2 hw2; have hq := box_set hw2.out; have HB2 := hidOf (HB.out.trans (hq.1.mono HB.out.size)); have x0 := bx0 hq.2 HQ.out.1; have x1 := bx1 hq.2 HQ.out.2.1; have xl := heap_lt hq.2.blk; clear hq hw2))
              go_ret
              exact ⟨by rw [HF.out]; rfl, HB2.out⟩
          · have HF : Hid (mayB i t D = false) := hidOf (by rw [HD.out]; simp [h2])
            clear HD
            go_wp2_with (first
              | (refine wpList_load_mid rfl 51 (.tmp 31) rfl b (off + k * 29) rfl c _ HR.out Try.underlying51 rfl (en_info HE.out) ?_)
              | (refine wpList_store_rowF rfl 51 (.tmp 8) (.tmp 32) rfl wr.heap.size c.toArray rfl rfl 51 Zc.toArray (box_new wr) (by simpa using en_info HE.out) (by have := HE.out.len; simp [Zc, this]) (all_oneCell_toArray HE.out.one) ?_; intro w2 hw2; have hq := box_set hw2.out; have HB2 := hidOf (HB.out.trans (hq.1.mono HB.out.size)); have x0 := bx0 hq.2 HQ.out.1; have x1 := bx1 hq.2 HQ.out.2.1; have xl := heap_lt hq.2.blk; clear hq hw2))
            go_ret
            exact ⟨by rw [HF.out]; rfl, HB2.out⟩
        · have hb1 : (ix == i' + 1) = false := beq_false_of_ne h1
          have hb2 : (ix != i' + 1) = true := bne_iff_ne.2 h1
          have HF : Hid (mayB i t D = false) := hidOf (by rw [HD.out]; simp [h1])
          clear HD
          go_wp2_with (first
            | (refine wpList_load_mid rfl 51 (.tmp 31) rfl b (off + k * 29) rfl c _ HR.out Try.underlying51 rfl (en_info HE.out) ?_)
            | (refine wpList_store_rowF rfl 51 (.tmp 8) (.tmp 32) rfl wr.heap.size c.toArray rfl rfl 51 Zc.toArray (box_new wr) (by simpa using en_info HE.out) (by have := HE.out.len; simp [Zc, this]) (all_oneCell_toArray HE.out.one) ?_; intro w2 hw2; have hq := box_set hw2.out; have HB2 := hidOf (HB.out.trans (hq.1.mono HB.out.size)); have x0 := bx0 hq.2 HQ.out.1; have x1 := bx1 hq.2 HQ.out.2.1; have xl := heap_lt hq.2.blk; clear hq hw2))
          go_ret
          exact ⟨by rw [HF.out]; rfl, HB2.out⟩
      · have hltz : ¬ (k : Int) < (D.length : Int) := by omega
        have HF : Hid (mayB i t D = true) := hidOf (by rw [HK.out, List.drop_eq_nil_of_le (by omega)]; rfl)
        go_wp2
        go_ret
        exact ⟨by rw [HF.out]; rfl, HB.out⟩
  · have HC : Hid (comeB i t D = false) := hidOf (by
      unfold comeB isN
      apply Classical.byContradiction
      intro hn
      simp only [Bool.not_eq_false, Bool.and_eq_true, decide_eq_true_eq] at hn
      omega)
    rw [HC.out]
    have hc : i < 0 ∨ (¬ i < 0 ∧ 1099511627776 < i) ∨ (¬ i < 0 ∧ ¬ 1099511627776 < i ∧ t < 0) ∨ (¬ i < 0 ∧ ¬ 1099511627776 < i ∧ ¬ t < 0 ∧ 1099511627776 < t) := by omega
    clear hr HC
    rcases hc with h1 | ⟨h1, h2⟩ | ⟨h1, h2, h3⟩ | ⟨h1, h2, h3, h4⟩
    all_goals
      go_enter Try.func39, Try.ntmps39
      go_wp2
      go_ret
      exact ⟨rfl, Below.refl _ _⟩
/- one entry more, copied out of a list -/
theorem es_box {w0 w : World} {c : List Value} {e : En} (h : EnR w0 w c e) (h0 : w0.heap.size ≤ w.heap.size) : EsR w0 (w.alloc (.cells c.toArray 51)) (.slice (some ⟨w.heap.size, 0, none⟩) 1 1) [e] := es_one w0 w c e h h0
/- the document's Slice, step by step -/
def slG (M : Lg) (f most : Int) (k : Nat) : List En := if f ≤ M.bi then [] else ((M.L.take k).drop (f - M.bi - 1).toNat).take most.toNat
theorem slG_end (M : Lg) (f most : Int) : slG M f most M.L.length = sliceM M f most := by
  unfold slG sliceM lastI
  rw [List.take_length]
  by_cases h1 : f ≤ M.bi
  · rw [if_pos h1, if_pos (.inl h1)]
  · rw [if_neg h1]
    split
    · rename_i h
      rcases h with h | h | h
      · exact absurd h h1
      · rw [List.drop_eq_nil_of_le (by omega)]; simp
      · rw [show most.toNat = 0 by omega, List.take_zero]
    · rfl
theorem slG_step {M : Lg} {f most : Int} {k : Nat} {e : En} (h : M.L[k]? = some e) : slG M f most (k + 1) = if (M.bi + 1 ≤ f ∧ f ≤ M.bi + ((k + 1 : Nat) : Int)) ∧ ((slG M f most k).length : Int) < most then slG M f most k ++ [e] else slG M f most k := by
  obtain ⟨hl, rfl⟩ := List.getElem?_eq_some_iff.1 h
  unfold slG
  by_cases h1 : f ≤ M.bi
  · simp only [if_pos h1]
    rw [if_neg (by omega)]
  · simp only [if_neg h1]
    rw [List.take_succ_eq_append_getElem hl]
    by_cases h2 : f ≤ M.bi + ((k + 1 : Nat) : Int)
    · have hs : (f - M.bi - 1).toNat ≤ (M.L.take k).length := by rw [List.length_take]; omega
      rw [List.drop_append_of_le_length hs]
      generalize (M.L.take k).drop (f - M.bi - 1).toNat = A
      by_cases h3 : A.length < most.toNat
      · rw [List.take_of_length_le (l := A ++ [M.L[k]]) (by simp; omega), List.take_of_length_le (l := A) (by omega), if_pos ⟨by omega, by omega⟩]
      · rw [List.take_append_of_le_length (by omega), if_neg (by rw [List.length_take]; omega)]
    · rw [if_neg (by omega), List.drop_eq_nil_of_le (by rw [List.length_append, List.length_take]; simp; omega), List.drop_eq_nil_of_le (by rw [List.length_take]; omega)]
theorem slG_len (M : Lg) (f most : Int) (k : Nat) : (slG M f most k).length ≤ k := by
  unfold slG
  split
  · simp
  · rw [List.length_take, List.length_drop, List.length_take]; omega
section
variable {w0 w : World} {q : Nat} {M : Lg} {v : Value}
set_option maxHeartbeats 4000000 in
set_option maxRecDepth 100000 in
theorem rslice_any (h : LgR w0 w 69 q M v) (f most : Int) : Calls Try.prog 29 #[.pointer (some ⟨q, 0, none⟩), .int .i64 f, .int .i64 most] w (SlP w0 w (sliceM M f most)) := by
  have H := hidOf h
  obtain ⟨va, vc, hv⟩ := h.form
  subst hv
  have hl := h.len
  have hw0 := h.w0le
  have HSE := hidOf (slG_end M f most)
  rw [← HSE.out]
  clear h
  go_enter Try.func29, Try.ntmps29
  go_wp2
  go_loopw [7, 8, 9] (fun ov tv kv wr => ∃ (k : Nat) (oa : Option Addr) (on oc : Nat) (tb : Bool), k ≤ M.L.length ∧ kv = .int .i64 (k : Int) ∧ ov = .slice oa on oc ∧ tv = .bool tb ∧ Hid (on = (slG M f most k).length ∧ OwR w0 wr (.slice oa on oc) (slG M f most k) ∧ (tb = true ↔ M.bi + 1 ≤ f ∧ f ≤ M.bi + (k : Int)) ∧ (∀ x, (Value.slice oa on oc).ownBlock = some x → w.heap.size ≤ x)) ∧ Hid (Below w.heap.size w wr)) (fun _ _ kv _ => M.L.length - (intOf kv).toNat)
  case atStart => exact ⟨0, none, 0, 0, false, Nat.zero_le _, rfl, rfl, rfl, hidOf ⟨by unfold slG; split <;> simp, by (have e : slG M f most 0 = [] := by unfold slG; split <;> simp); rw [e]; exact OwR.nil _ _, by simp; omega, fun x hx => by cases hx⟩, hidOf (Below.refl _ _)⟩
  case round =>
    obtain ⟨k, oa, on, oc, tb, hk, rfl, rfl, rfl, HO, HB⟩ := hrel
    have HR := hidOf (H.out.below HB.out)
    obtain ⟨c0, c1, c2, hp, _⟩ := HR.out.cells
    by_cases hlt : k < M.L.length
    · have hltz : (k : Int) < (M.L.length : Int) := by omega
      obtain ⟨e, he⟩ : ∃ e, M.L[k]? = some e := ⟨_, List.getElem?_eq_getElem hlt⟩
      obtain ⟨b, off, cap, c, hv, hb, d0, d1, hE, hRg⟩ := HR.out.own.es.at he
      cases hv
      have hw0r : w0.heap.size ≤ wr.heap.size := HR.out.w0le
      have HE := hidOf hE
      have HRG := hidOf hRg
      have hix := (H.out.wf.at he).1
      have HST := hidOf (slG_step (f := f) (most := most) he)
      have hon : on ≤ k := by have := slG_len M f most k; have := HO.out.1; omega
      clear he hE hRg d1
      obtain ⟨tb2, htb2⟩ : ∃ tb2, tb2 = (tb || (e.ix == f)) := ⟨_, rfl⟩
      have HT2 : Hid (tb2 = true ↔ M.bi + 1 ≤ f ∧ f ≤ M.bi + ((k + 1 : Nat) : Int)) := hidOf (by
        rw [htb2, Bool.or_eq_true, HO.out.2.2.1, beq_iff_eq]
        constructor
        · rintro (h | h)
          · omega
          · omega
        · intro h
          by_cases e2 : f ≤ M.bi + (k : Int)
          · exact .inl (by omega)
          · exact .inr (by omega))
      obtain ⟨ix, tm, op, id⟩ := e
      dsimp only at d0 hix htb2
      clear hix
      cases hgo : (tb2 && decide ((on : Int) < most)) with
      | true =>
        rw [Bool.and_eq_true, decide_eq_true_eq] at hgo
        obtain ⟨g1, g2⟩ := hgo
        have HS2 : Hid (slG M f most (k + 1) = slG M f most k ++ [⟨ix, tm, op, id⟩]) := hidOf (by rw [HST.out, if_pos ⟨HT2.out.1 g1, by rw [← HO.out.1]; exact g2⟩])
        rw [g1] at htb2 HT2
        cases tb with
        | true =>
          clear htb2
          go_wp2_with (first
            | (refine wpList_load_mid rfl 51 (.tmp 45) rfl b (off + k * 29) rfl c _ HRG.out Try.underlying51 rfl (en_info HE.out) ?_)
            | (refine wpList_bs1 rfl (.tmp 46) rfl c HE.out.len rfl ?_)
            | (at_builtin; refine wpList_app _ rfl (.tmp 39) (.tmp 47) rfl w0 (Nat.le_trans hw0r (by simp)) (.slice oa on oc) _ _ _ rfl (HO.out.2.1.below hw0r (below1 wr _)) rfl (es_box HE.out hw0r) (by have := HO.out.1; simp; omega) ?_; intro v3 w3 a1 a2 a3; rw [← HS2.out] at a1; have A1 := hidOf a1; have HB3 := hidOf (HB.out.trans (((below1 wr (.cells c.toArray 51)).mono HB.out.size).trans (a2.below (Nat.le_trans HB.out.size (by simp)) HO.out.2.2.2))); have HN3 := hidOf (show ∀ x, v3.ownBlock = some x → w.heap.size ≤ x from fun x hx => (by rcases a3 with e | e; exact HO.out.2.2.2 x (e ▸ hx); (rw [e] at hx; have h5 := Option.some.inj hx; have h6 := HB.out.size; simp at h5; omega))); obtain ⟨oa3, oc3, hv3⟩ := a1.es.form; subst hv3; clear a1 a2 a3))
          go_roundw
          case rel => exact ⟨k + 1, oa3, _, oc3, true, by omega, by go_num, rfl, rfl, hidOf ⟨rfl, A1.out, HT2.out, HN3.out⟩, HB3⟩
          case measure => simp [intOf]; omega
        | false =>
          have hif : ix = f := by simpa using htb2.symm
          subst hif
          clear htb2
          go_wp2_with (first
            | (refine wpList_load_mid rfl 51 (.tmp 45) rfl b (off + k * 29) rfl c _ HRG.out Try.underlying51 rfl (en_info HE.out) ?_)
            | (refine wpList_bs1 rfl (.tmp 46) rfl c HE.out.len rfl ?_)
            | (at_builtin; refine wpList_app _ rfl (.tmp 39) (.tmp 47) rfl w0 (Nat.le_trans hw0r (by simp)) (.slice oa on oc) _ _ _ rfl (HO.out.2.1.below hw0r (below1 wr _)) rfl (es_box HE.out hw0r) (by have := HO.out.1; simp; omega) ?_; intro v3 w3 a1 a2 a3; rw [← HS2.out] at a1; have A1 := hidOf a1; have HB3 := hidOf (HB.out.trans (((below1 wr (.cells c.toArray 51)).mono HB.out.size).trans (a2.below (Nat.le_trans HB.out.size (by simp)) HO.out.2.2.2))); have HN3 := hidOf (show ∀ x, v3.ownBlock = some x → w.heap.size ≤ x from fun x hx => (by rcases a3 with e | e; exact HO.out.2.2.2 x (e ▸ hx); (rw [e] at hx; have h5 := Option.some.inj hx; have h6 := HB.out.size; simp at h5; omega))); obtain ⟨oa3, oc3, hv3⟩ := a1.es.form; subst hv3; clear a1 a2 a3))
          go_roundw
          case rel => exact ⟨k + 1, oa3, _, oc3, true, by omega, by go_num, rfl, rfl, hidOf ⟨rfl, A1.out, HT2.out, HN3.out⟩, HB3⟩
          case measure => simp [intOf]; omega
      | false =>
        have HS2 : Hid (slG M f most (k + 1) = slG M f most k) := hidOf (by
          rw [HST.out, if_neg]
          rintro ⟨q1, q2⟩
          rw [← HO.out.1] at q2
          rw [HT2.out.2 q1, decide_eq_true q2] at hgo
          cases hgo)
        cases tb with
        | true =>
          have ht2 : tb2 = true := by rw [htb2]; rfl
          have hm : ¬ (on : Int) < most := by rw [ht2] at hgo; simpa using hgo
          rw [ht2] at HT2
          clear htb2 ht2 hgo
          go_wp2
          go_roundw
          case rel => exact ⟨k + 1, oa, on, oc, true, by omega, by go_num, rfl, rfl, hidOf ⟨by rw [HS2.out]; exact HO.out.1, by rw [HS2.out]; exact HO.out.2.1, HT2.out, HO.out.2.2.2⟩, HB⟩
          case measure => simp [intOf]; omega
        | false =>
          by_cases hif : ix = f
          · subst hif
            have ht2 : tb2 = true := by rw [htb2]; simp
            have hm : ¬ (on : Int) < most := by rw [ht2] at hgo; simpa using hgo
            rw [ht2] at HT2
            clear htb2 ht2 hgo
            go_wp2
            go_roundw
            case rel => exact ⟨k + 1, oa, on, oc, true, by omega, by go_num, rfl, rfl, hidOf ⟨by rw [HS2.out]; exact HO.out.1, by rw [HS2.out]; exact HO.out.2.1, HT2.out, HO.out.2.2.2⟩, HB⟩
            case measure => simp [intOf]; omega
          · have hbf : (ix == f) = false := beq_false_of_ne hif
            have ht2 : tb2 = false := by rw [htb2, hbf]; rfl
            rw [ht2] at HT2
            clear htb2 ht2 hgo
            go_wp2
            go_roundw
            case rel => exact ⟨k + 1, oa, on, oc, false, by omega, by go_num, rfl, rfl, hidOf ⟨by rw [HS2.out]; exact HO.out.1, by rw [HS2.out]; exact HO.out.2.1, HT2.out, HO.out.2.2.2⟩, HB⟩
            case measure => simp [intOf]; omega
    · have hltz : ¬ (k : Int) < (M.L.length : Int) := by omega
      have hke : k = M.L.length := by omega
      go_wp2
      go_ret
      exact SlP.mk (hke ▸ HO.out.2.1) HB.out HO.out.2.2.2
end
end Go.Proofs.Ytdkmlgkljhhokaa
