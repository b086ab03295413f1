/- A list of entries of one's own: an entry is read, or written; and copies of lists of entries. -/
import Derived.Test.YtdkmlgkljhhokaaCpy
namespace Go.Proofs.Ytdkmlgkljhhokaa
open Go.RowKit

def Ow1 (w0 w : World) (b off cap : Nat) (L : List En) : Prop := ∃ C cur, L.length ≤ cap ∧ EsA w0 w b off L C ∧ w0.heap.size ≤ b ∧ w.heap[b]? = some (.cells cur 51 (0, 0)) ∧ off + cap * 29 ≤ cur.size
theorem OwR.cases {w0 w : World} {v : Value} {L : List En} (h : OwR w0 w v L) : (v = .slice none 0 0 ∧ L = []) ∨ ∃ b off cap, v = .slice (some ⟨b, off, none⟩) L.length cap ∧ Ow1 w0 w b off cap L := by
  rcases h with h | ⟨b, off, cap, C, cur, h1, h2, h3, h4, h5, h6⟩
  · exact .inl h
  · exact .inr ⟨b, off, cap, h1, C, cur, h2, h3, h4, h5, h6⟩
theorem Ow1.ow {w0 w : World} {b off cap : Nat} {L : List En} (h : Ow1 w0 w b off cap L) : OwR w0 w (.slice (some ⟨b, off, none⟩) L.length cap) L := by
  obtain ⟨C, cur, h2, h3, h4, h5, h6⟩ := h
  exact .inr ⟨b, off, cap, C, cur, rfl, h2, h3, h4, h5, h6⟩
theorem Ow1.lt {w0 w : World} {b off cap : Nat} {L : List En} (h : Ow1 w0 w b off cap L) : b < w.heap.size := by
  obtain ⟨C, cur, h2, h3, h4, h5, h6⟩ := h
  exact heap_lt h5
theorem Ow1.below {w0 w w' : World} {b off cap : Nat} {L : List En} (h : Ow1 w0 w b off cap L) (h0 : w0.heap.size ≤ w.heap.size) (hb : Below w.heap.size w w') : Ow1 w0 w' b off cap L := by
  obtain ⟨C, cur, h2, h3, h4, h5, h6⟩ := h
  exact ⟨C, cur, h2, h3.kept (Kp.bel h0 hb) (fun _ => hb.block b (heap_lt h5)), h4, (hb.block b (heap_lt h5)).trans h5, h6⟩
theorem Ow1.at {w0 w : World} {b off cap : Nat} {L : List En} (h : Ow1 w0 w b off cap L) {j : Nat} {e : En} (hj : L[j]? = some e) : ∃ c, EnR w0 w c e ∧ w.rangeAt b (off + j * 29) c ∧ w.there b (off + j * 29) 29 ∧ b < w.heap.size := by
  obtain ⟨C, cur, h2, h3, h4, h5, h6⟩ := h
  have hl := (List.getElem?_eq_some_iff.1 hj).1
  refine ⟨C j, (h3 j e hj).1, (h3 j e hj).2, there_row h5 ?_, heap_lt h5⟩
  have : (j + 1) * 29 ≤ cap * 29 := Nat.mul_le_mul_right _ (by omega)
  omega
theorem Ow1.setS {w0 w : World} {b off cap : Nat} {L : List En} (h : Ow1 w0 w b off cap L) (h0 : w0.heap.size ≤ w.heap.size) {j : Nat} (hj : j < L.length) {c : List Value} {e : En} (hc : EnR w0 w c e) : Ow1 w0 (w.setCells b (off + j * 29) c) b off cap (L.set j e) ∧ Kp w0 w (w.setCells b (off + j * 29) c) := by
  obtain ⟨C, cur, h2, h3, h4, h5, h6⟩ := h
  have hk : Kp w0 w (w.setCells b (off + j * 29) c) := (chg_setCells w b _ c).kp h0 (fun k _ e => by subst e; exact ⟨h4, cur, 51, (0, 0), h5, .inl rfl⟩)
  obtain ⟨cur', g1, g2⟩ := setCells_heap (b := b) (t := 51) c (off + j * 29) w cur h5
  have hth : w.there b (off + j * 29) c.length := there_row h5 (by
    rw [hc.len]
    have : (j + 1) * 29 ≤ cap * 29 := Nat.mul_le_mul_right _ (by omega)
    omega)
  refine ⟨⟨fun i => if i = j then c else C i, cur', by rw [List.length_set]; exact h2, fun i x hi => ?_, h4, g1, by omega⟩, hk⟩
  by_cases e : i = j
  · subst e
    rw [List.getElem?_set_self hj] at hi
    cases hi
    dsimp only
    rw [if_pos rfl]
    exact ⟨hc.kp hk, World.rangeAt_setCells_same w b _ c hth⟩
  · rw [List.getElem?_set_ne (fun e2 => e e2.symm)] at hi
    dsimp only
    rw [if_neg e]
    refine ⟨(h3 i x hi).1.kp hk, World.rangeAt_setCells_apart (h3 i x hi).2 _ _ _ (.inr ?_)⟩
    rw [(h3 i x hi).1.len, hc.len]
    rcases Nat.lt_or_gt_of_ne e with e | e
    · left
      have : (i + 1) * 29 ≤ j * 29 := Nat.mul_le_mul_right _ e
      omega
    · right
      have : (j + 1) * 29 ≤ i * 29 := Nat.mul_le_mul_right _ e
      omega
theorem en_info {w0 w : World} {c : List Value} {e : En} (h : EnR w0 w c e) : (Try.prog.info? 51).map (·.size) = some c.length := by rw [h.len]; exact Zc_i
theorem set_self {L : List En} {j : Nat} {e : En} (h : L[j]? = some e) : L.set j e = L := by
  obtain ⟨hl, rfl⟩ := List.getElem?_eq_some_iff.1 h
  exact List.set_getElem_self hl

set_option maxHeartbeats 4000000 in
set_option maxRecDepth 100000 in
theorem copyEntries_any (w0 w : World) (h0 : w0.heap.size ≤ w.heap.size) (v : Value) (D : List En) (h : EsR w0 w v D) (hl : D.length ≤ 67108864) : Calls Try.prog 38 #[v] w fun e w' => ∃ v', e = .returned v' ∧ OwR w0 w' v' D ∧ Below w.heap.size w w' ∧ ∀ k, v'.ownBlock = some k → w.heap.size ≤ k := by
  have H := hidOf (cl44 w0 w h0 v D h hl)
  clear h
  go_enter Try.func38, Try.ntmps38
  go_wp2_with (go_at_call 44; refine H.out.mono ?_; rintro e w1 ⟨v', rfl, h1, h2, h3⟩; have H1 := hidOf h1; have H2 := hidOf h2; have H3 := hidOf h3; obtain ⟨va, vc, hv⟩ := h1.es.form; subst hv; clear h1 h2 h3)
  go_loopw [9] (fun i wr => ∃ k : Nat, k ≤ D.length ∧ i = .int .i64 (k : Int) ∧ Hid (OwR w0 wr (.slice va D.length vc) D ∧ Below w.heap.size w wr)) (fun i _ => D.length - (intOf i).toNat)
  case atStart => exact ⟨0, Nat.zero_le _, rfl, hidOf ⟨H1.out, H2.out⟩⟩
  case round =>
    obtain ⟨k, hk, rfl, HK⟩ := hrel
    by_cases hlt : k < D.length
    · have hltz : (k : Int) < (D.length : Int) := by omega
      obtain ⟨e, he⟩ : ∃ e, D[k]? = some e := ⟨_, List.getElem?_eq_getElem hlt⟩
      rcases HK.out.1.cases with ⟨_, e2⟩ | ⟨b, off, cap, hv, how⟩
      · rw [e2] at hlt; simp at hlt
      cases hv
      obtain ⟨c, hc, hr, ht, hb⟩ := how.at he
      have HC := hidOf hc
      have HR := hidOf hr
      have HT := hidOf ht
      have HOW := hidOf how
      have HE := hidOf he
      have hw0 : w0.heap.size ≤ wr.heap.size := Nat.le_trans h0 HK.out.2.size
      have HB : Hid (w.heap.size ≤ b) := hidOf (H3.out b rfl)
      clear hc hr ht how he
      go_wp2_with (first
        | (refine wpList_load_mid rfl 51 (.tmp 16) rfl b (off + k * 29) rfl c _ HR.out Try.underlying51 rfl (en_info HC.out) ?_)
        | (go_at_call 33; refine (copyEntry_any w0 _ hw0 c e HC.out).mono ?_; rintro en w2 ⟨c', rfl, hc', hb2⟩; have HC2 := hidOf hc'; have HB2 := hidOf hb2; have HOW2 := hidOf (HOW.out.below hw0 hb2); have hw2 : w0.heap.size ≤ w2.heap.size := Nat.le_trans hw0 hb2.size; have hb3 : b < w2.heap.size := Nat.lt_of_lt_of_le hb hb2.size; clear hc' hb2)
        | (refine wpList_store_mid rfl 51 (.tmp 19) (.tmp 18) rfl b (off + k * 29) c'.toArray rfl rfl (by obtain ⟨_, _, _, ht, _⟩ := HOW2.out.at HE.out; simpa [HC2.out.len] using ht) (by simpa using en_info HC2.out) (all_oneCell_toArray HC2.out.one) ?_))
      go_roundw
      case rel =>
        refine ⟨k + 1, by omega, by go_num, hidOf ⟨?_, ?_⟩⟩
        · have := (HOW2.out.setS hw2 hlt HC2.out).1
          rw [set_self HE.out] at this
          simpa using this.ow
        · have hch := chg_setCells w2 b (off + k * 29) c'
          have := (HK.out.2.trans (HB2.out.mono HK.out.2.size)).trans (hch.below (B := w.heap.size) (Nat.le_trans HK.out.2.size HB2.out.size) (fun k e => by subst e; exact HB.out))
          simpa using this
      case measure => simp [intOf]; omega
    · have hltz : ¬ (k : Int) < (D.length : Int) := by omega
      go_wp2
      go_ret
      exact ⟨_, rfl, HK.out.1, HK.out.2, H3.out⟩
end Go.Proofs.Ytdkmlgkljhhokaa
