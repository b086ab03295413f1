/- The walk of the statement on Frame: it returns true and changes nothing that was there. -/
import Derived.Test.YtpbokgeaolpiaaaKnow
import Derived.Test.YtpbokgeaolpiaaaRefF
namespace Go.Proofs.Ytpbokgeaolpiaaa
open Go.RowKit

/- all blocks but one are as they were; that one is a row of so many bytes -/
def But (w w' : World) (g cap : Nat) : Prop :=
  w'.os = w.os ∧ w'.tape = w.tape ∧ w'.output = w.output ∧ w'.heap.size = w.heap.size ∧ (∀ k, k ≠ g → w'.heap[k]? = w.heap[k]?) ∧ ∃ cur, w'.heap[g]? = some (.cells cur 5 (0, 0)) ∧ cur.size = cap
theorem heap_setCell_same (w : World) (g k : Nat) (v : Value) (cur : Array Value) (t : TypeId) (f : Nat × Nat) (h : w.heap[g]? = some (.cells cur t f)) : (w.setCell ⟨g, k, none⟩ v).heap[g]? = some (.cells (cur.setIfInBounds k v) t f) := by
  simp [World.setCell, Array.getElem?_modify, h]
theorem But.store {w w' : World} {g cap : Nat} (h : But w w' g cap) (k : Nat) (v : Value) : But w (w'.setCell ⟨g, k, none⟩ v) g cap := by
  obtain ⟨h1, h2, h3, h4, h5, cur, h6, h7⟩ := h
  refine ⟨h1, h2, h3, by simpa using h4, fun j hj => ?_, cur.setIfInBounds k v, heap_setCell_same w' g k v cur 5 (0, 0) h6, by simpa using h7⟩
  rw [Below.heap_setCell w' ⟨g, k, none⟩ v j hj]; exact h5 j hj
theorem But.cell {w w' : World} {g cap : Nat} (h : But w w' g cap) (k : Nat) (hk : k < cap) : (∃ v, w'.cell? ⟨g, k, none⟩ = some v) ∧ w'.frozen? ⟨g, k, none⟩ = false := by
  obtain ⟨h1, h2, h3, h4, h5, cur, h6, h7⟩ := h
  refine ⟨⟨cur[k]'(by omega), ?_⟩, ?_⟩
  · rw [cell_of_row w' g k cur 5 (0, 0) h6]; simp [show k < cur.size by omega]
  · simp [World.frozen?, h6]
theorem But.refl {w : World} {g cap : Nat} {cur : Array Value} (h : w.heap[g]? = some (.cells cur 5 (0, 0))) (hc : cur.size = cap) : But w w g cap := ⟨rfl, rfl, rfl, rfl, fun _ _ => rfl, cur, h, hc⟩
theorem But.own {w w' : World} {g cap : Nat} (h : But w w' g cap) {v : Value} {l : List UInt8} (ho : Own w v l) (hv : v.ownBlock ≠ some g) : Own w' v l := ho.kept fun k hk => h.2.2.2.2.1 k (fun e => hv (by rw [← e]; exact hk))
theorem But.below {w0 w w' : World} {g cap B : Nat} (h : But w w' g cap) (hb : Below B w0 w) (hg : B ≤ g) : Below B w0 w' :=
  ⟨h.1.trans hb.os, h.2.1.trans hb.tape, h.2.2.1.trans hb.output, by rw [h.2.2.2.1]; exact hb.size, fun k hk => (h.2.2.2.2.1 k (by omega)).trans (hb.block k hk)⟩
theorem own_row {w : World} {v : Value} {l : List UInt8} (h : Own w v l) (hl : l ≠ []) : ∃ g cap cur, v = .slice (some ⟨g, 0, none⟩) l.length cap ∧ l.length ≤ cap ∧ w.heap[g]? = some (.cells cur 5 (0, 0)) ∧ cur.size = cap := by
  rcases h with ⟨_, h⟩ | ⟨g, c, cur, h, hg, hc, _, hs, _⟩
  · exact absurd h hl
  · exact ⟨g, c, cur, h, hc, hg, hs⟩

set_option maxHeartbeats 800000 in
theorem lawFrames (w : World) (kind : Int) (_wk : (Lit.int .i64 kind).wf = true) (place : Int) (_wp : (Lit.int .i64 place).wf = true) (a : Option Addr) (n cap : Nat) (l : List UInt8) (hn : n = l.length) (_hcap : n ≤ cap) (h : Bs w a l)
    (a2 : Option Addr) (n2 cap2 : Nat) (x : List UInt8) (hn2 : n2 = x.length) (_hcap2 : n2 ≤ cap2) (h2 : Bs w a2 x) (hx : n2 ≤ 140737488351232) :
    Calls Try.prog 3 #[.int .i64 kind, .int .i64 place, .slice a n cap, .slice a2 n2 cap2] w fun e w' => e = .returned (.bool true) ∧ Below w.heap.size w w' := by
  have HN : Hid (n = l.length) := hn
  have HN2 : Hid (n2 = x.length) := hn2
  have hlen := h.1
  rw [← hn] at hlen
  clear hn hn2
  by_cases hok : okF kind place n
  · have HL : Hid ((fr kind.toNat place.toNat l).length = n + 15) := by show _ = _; rw [fr_length, ← HN.out]
    have HL2 : Hid ((fr kind.toNat place.toNat l ++ x).length = n + 15 + n2) := by show _ = _; rw [List.length_append, HL.out, ← HN2.out]
    have hok2 := hok
    obtain ⟨k0, k1, p0, p1, n1⟩ := hok2
    have HU : Hid (unf (fr kind.toNat place.toNat l ++ x) = ⟨kind, place, l, (n : Int) + 15, 0⟩) := by
      show _ = _
      rw [unf_fr _ _ _ _ (by omega) (by omega) (by rw [← HN.out]; omega), Int.toNat_of_nonneg k0, Int.toNat_of_nonneg p0, ← HN.out]; rfl
    go_enter Try.func3, Try.ntmps3
    go_wp2_with fail
    refine (frame_ok kind place a n cap l w HN.out h hok).mono ?_
    rintro e w1 ⟨v1, rfl, o1, s1⟩
    have B1 := s1.belowN
    go_wp2_with fail
    refine (refFrame_ok kind place a n cap l w1 HN.out (h.grow B1) hok).mono ?_
    rintro e w2 ⟨v2, rfl, o2, s2⟩
    have B2 := B1.trans (s2.belowN.mono B1.size)
    have o12 := o1.below s2.belowN
    obtain ⟨g1, c1, cur1, hv1, hc1, -, -⟩ := own_row o12 (by intro e; have := HL.out; rw [e] at this; simp at this)
    rw [HL.out] at hv1 hc1
    subst hv1
    obtain ⟨g2, c2, cur2, hv2, hc2, -, -⟩ := own_row o2 (by intro e; have := HL.out; rw [e] at this; simp at this)
    rw [HL.out] at hv2 hc2
    subst hv2
    have hg1 : w.heap.size ≤ g1 := by
      rcases s1.row with e | ⟨k, e, hk⟩
      · cases e
      · cases e; exact hk
    obtain ⟨_, _, e1, hb1⟩ := o12.form
    rw [HL.out] at e1 hb1
    cases e1
    obtain ⟨_, _, e2, hb2⟩ := o2.form
    rw [HL.out] at e2 hb2
    cases e2
    have hb1' := hb1 (by omega)
    have hb2' := hb2 (by omega)
    clear s1 s2 o1 hb1 hb2
    go_wp2_with fail
    refine (same_any _ _ _ _ c1 c2 _ _ w2 HL.out.symm HL.out.symm hb1' hb2').mono ?_
    rintro e w3 ⟨rfl, n3, hw3⟩
    rw [decide_eq_true rfl]
    have B3 : Below w.heap.size w w3 := by rw [hw3]; exact B2.trans ⟨rfl, rfl, rfl, Nat.le_refl _, fun _ _ => rfl⟩
    have o3 : Own w3 (.slice (some ⟨g1, 0, none⟩) (n + 15) c1) (fr kind.toNat place.toNat l) := by rw [hw3]; exact o12.drewN n3
    clear hw3 o12 o2 hb1' hb2' B1 B2
    go_wp2_with fail
    refine (known_any w3).mono ?_
    rintro e w4 ⟨rfl, L4⟩
    have B4 := B3.trans (L4.mono B3.size)
    have o4 := o3.below L4
    clear o3 L4 B3
    have hsrc := (h2.grow B4).src (P := Try.prog) Try.underlying22 cap2
    go_wp2_with (at_builtin; refine wpList_append_b _ rfl (.tmp 51) (.tmp 52) rfl _ _ rfl o4 _ x rfl ?src ?len ?next)
    case src => rw [← HN2.out]; rw [← HN2.out] at hsrc; exact hsrc
    case len => rw [HL.out, ← HN2.out]; omega
    case next =>
      intro v5 w5 o5 s5
      obtain ⟨g5, c5, cur5, hv5, hc5, hrow5, hcs5⟩ := own_row o5 (by intro e; have := HL2.out; rw [e] at this; simp at this; omega)
      rw [HL2.out] at hv5 hc5
      subst hv5
      have hg5 : w.heap.size ≤ g5 := by
        rcases s5.row with e | ⟨k, e, hk⟩
        · cases e; exact hg1
        · cases e; exact Nat.le_trans B4.size hk
      have B5 : Below w.heap.size w w5 := B4.trans (s5.below _ B4.size (fun k hk => by cases hk; exact hg1))
      obtain ⟨_, _, e5, hb5⟩ := o5.form
      rw [HL2.out] at e5 hb5
      cases e5
      have hb5' := hb5 (by omega)
      have hlt5 := o5.lt g5 rfl
      clear s5 B4 o4 hsrc hb5
      have HR : Hid (w5.heap[g5]? = some (.cells cur5 5 (0, 0)) ∧ cur5.size = c5) := ⟨hrow5, hcs5⟩
      clear hrow5 hcs5
      go_wp2_with fail
      refine (unframe_any _ _ c5 _ w5 HL2.out.symm hc5 hb5').mono ?_
      rintro e w6 ⟨v6, he, o6, s6⟩
      rw [HU.out] at he o6
      subst he
      have L6 := s6.belowN
      have B6 := B5.trans (L6.mono B5.size)
      have hne6 : Hid (v6.ownBlock ≠ some g5) := by
        intro e
        rcases s6.row with e2 | ⟨k, e2, hk⟩
        · rw [e2] at e; cases e
        · rw [e2] at e; cases e; omega
      have hB0 : But w6 w6 g5 c5 := But.refl ((L6.block g5 hlt5).trans HR.out.1) HR.out.2
      obtain ⟨a6, c6, hv6, _⟩ := o6.form
      rw [← HN.out] at hv6
      subst hv6
      clear s6 L6 HR o5 hb5'
      go_wp2
      go_loopw [19] (fun i wr => ∃ k : Nat, k ≤ n + 15 + n2 ∧ i = .int .i64 k ∧ But w6 wr g5 c5) (fun i _ => n + 15 + n2 - (intOf i).toNat)
      case atStart => exact ⟨0, Nat.zero_le _, rfl, hB0⟩
      case round =>
        obtain ⟨k, hk, rfl, hBk⟩ := hrel
        by_cases hlt : k < n + 15 + n2
        · obtain ⟨⟨vk, hck⟩, hfk⟩ := hBk.cell k (by omega)
          go_wp2
          exact ⟨⟨k + 1, by omega, by go_num, hBk.store k _⟩, by simp [intOf]; omega⟩
        · have hbd : Bs wr a l := h.grow (hBk.below B6 hg5)
          have o7 := hBk.own o6 hne6.out
          obtain ⟨_, _, e7, hb7⟩ := o7.form
          rw [← HN.out] at e7 hb7
          cases e7
          have B7 := hBk.below B6 hg5
          have hb7' := hb7 (by omega)
          clear hb7 o7
          go_wp2_with fail
          refine (same_any _ _ _ _ _ _ l l wr HN.out HN.out hb7' hbd).mono ?_
          rintro e w8 ⟨rfl, n8, hw8⟩
          rw [decide_eq_true rfl]
          have B8 : Below w.heap.size w w8 := by rw [hw8]; exact B7.trans ⟨rfl, rfl, rfl, Nat.le_refl _, fun _ _ => rfl⟩
          clear hw8
          go_wp2
          go_ret
          exact ⟨rfl, B8⟩
  · go_enter Try.func3, Try.ntmps3
    go_wp2_with fail
    refine (frame_no kind place a n cap w hlen hok).mono ?_
    rintro e w1 ⟨rfl, hw⟩
    subst hw
    go_wp2_with fail
    refine (refFrame_no kind place a n cap w1 hlen hok).mono ?_
    rintro e w2 ⟨rfl, hw⟩
    subst hw
    go_wp2_with fail
    refine (same_any _ _ _ _ _ _ [] [] w2 rfl rfl ⟨by simp, fun h => absurd rfl h⟩ ⟨by simp, fun h => absurd rfl h⟩).mono ?_
    rintro e w3 ⟨rfl, n3, hw3⟩
    rw [decide_eq_true rfl]
    have B3 : Below w2.heap.size w2 w3 := by rw [hw3]; exact ⟨rfl, rfl, rfl, Nat.le_refl _, fun _ _ => rfl⟩
    clear hw3
    go_wp2_with fail
    refine (known_any w3).mono ?_
    rintro e w4 ⟨rfl, L4⟩
    go_wp2
    go_ret
    exact ⟨rfl, B3.trans (L4.mono B3.size)⟩
end Go.Proofs.Ytpbokgeaolpiaaa
