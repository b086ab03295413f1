/- The walk of the statement on cut frames: it returns true and changes nothing that was there. -/
import Derived.Test.YtpbokgeaolpiaaaKnow
import Derived.Test.YtpbokgeaolpiaaaTorn
namespace Go.Proofs.Ytpbokgeaolpiaaa
open Go.RowKit

set_option maxHeartbeats 800000 in
theorem lawTorn (w : World) (kind : Int) (_wk : (Lit.int .i64 kind).wf = true) (place : Int) (_wp : (Lit.int .i64 place).wf = true) (a : Option Addr) (n cap : Nat) (l : List UInt8) (hn : n = l.length) (_hcap : n ≤ cap) (h : Bs w a l) (at_ : Int) (_wa : (Lit.int .i64 at_).wf = true) :
    Calls Try.prog 5 #[.int .i64 kind, .int .i64 place, .slice a n cap, .int .i64 at_] w fun e w' => e = .returned (.bool true) ∧ Below w.heap.size w w' := by
  have HN : Hid (n = l.length) := hn
  have hlen := h.1
  rw [← hn] at hlen
  clear hn
  by_cases hok : okF kind place n
  · have HL : Hid ((fr kind.toNat place.toNat l).length = n + 15) := by show _ = _; rw [fr_length, ← HN.out]
    have hok2 := hok
    obtain ⟨k0, k1, p0, p1, n1⟩ := hok2
    have hp15 : (0 : Int) < (n : Int) + 15 := by omega
    have t1 := Int.tmod_lt_of_pos at_ hp15
    have t2 := Int.lt_tmod_of_pos at_ hp15
    have HC : Hid (∀ c : Nat, c < n + 15 → unf ((fr kind.toNat place.toNat l).take c) = ⟨0, 0, [], 0, 0⟩) := fun c hc => unf_part _ _ _ _ (by omega) (by rw [← HN.out]; omega) (by rw [← HN.out]; omega)
    go_enter Try.func5, Try.ntmps5
    go_wp2_with fail
    refine (frame_ok kind place a n cap l w HN.out h hok).mono ?_
    rintro e w1 ⟨v1, rfl, o1, s1⟩
    have B1 := s1.belowN
    go_wp2_with fail
    refine (known_any w1).mono ?_
    rintro e w2 ⟨rfl, L2⟩
    have B2 := B1.trans (L2.mono B1.size)
    have o2 := o1.below L2
    obtain ⟨g1, c1, hv1, hc1'⟩ := o2.some (by intro e; have := HL.out; rw [e] at this; simp at this)
    rw [HL.out] at hv1 hc1'
    subst hv1
    obtain ⟨a1, c1', e1, hb1⟩ := o2.form
    rw [HL.out] at e1 hb1
    cases e1
    have hbs : Hid (Bs w2 (some ⟨g1, 0, none⟩) (fr kind.toNat place.toNat l)) := hb1 (by omega)
    clear o1 s1 B1 L2 o2 hb1 h
    go_wp2_with fail
    · obtain ⟨c, hc⟩ : ∃ c, c = (at_.tmod ((n : Int) + 15) + ((n : Int) + 15)).toNat := ⟨_, rfl⟩
      have hlt : c < n + 15 := by omega
      rw [← hc]
      clear hc
      refine (unframe_any _ c c1 ((fr kind.toNat place.toNat l).take c) w2 (by rw [List.length_take, HL.out]; omega) (by omega) (hbs.out.first c)).mono ?_
      rintro e w3 ⟨v3, he, o3, s3⟩
      rw [HC.out c hlt] at he o3
      subst he
      have B3 := B2.trans (s3.belowN.mono B2.size)
      obtain ⟨a3, c3, hv3, _⟩ := o3.form
      subst hv3
      clear o3 s3
      go_wp2
      go_ret
      exact ⟨rfl, B3⟩
    · obtain ⟨c, hc⟩ : ∃ c, c = (at_.tmod ((n : Int) + 15)).toNat := ⟨_, rfl⟩
      have hlt : c < n + 15 := by omega
      rw [← hc]
      clear hc
      refine (unframe_any _ c c1 ((fr kind.toNat place.toNat l).take c) w2 (by rw [List.length_take, HL.out]; omega) (by omega) (hbs.out.first c)).mono ?_
      rintro e w3 ⟨v3, he, o3, s3⟩
      rw [HC.out c hlt] at he o3
      subst he
      have B3 := B2.trans (s3.belowN.mono B2.size)
      obtain ⟨a3, c3, hv3, _⟩ := o3.form
      subst hv3
      clear o3 s3
      go_wp2
      go_ret
      exact ⟨rfl, B3⟩
  · go_enter Try.func5, Try.ntmps5
    go_wp2_with fail
    refine (frame_no kind place a n cap w hlen hok).mono ?_
    rintro e w1 ⟨rfl, hw⟩
    subst hw
    go_wp2_with fail
    refine (known_any w1).mono ?_
    rintro e w2 ⟨rfl, L2⟩
    go_wp2
    go_ret
    exact ⟨rfl, L2⟩
end Go.Proofs.Ytpbokgeaolpiaaa
