/- May, reached, Majority, Single, of the code. -/
import Derived.Test.YteaohmlbioooaaaCapp
import Derived.Deep.QuietTactic
import Derived.BigQuiet
namespace Go.Proofs.Yteaohmlbioooaaa
open Go.RowKit

/- servers that come in: both lists lie in memory -/
structure Cf (w : World) (av al : Option Addr) (V L : List Int) : Prop where
  v : Ints w av V
  l : Ints w al L
theorem Cf.grow {w w' : World} {av al : Option Addr} {V L : List Int} (h : Cf w av al V L) (hb : Below w.heap.size w w') : Cf w' av al V L := ⟨h.v.grow hb, h.l.grow hb⟩
/- what a call that has its servers in block k sees in the world wk -/
structure Cs (w wk : World) (k : Nat) (av al : Option Addr) (V L : List Int) (cv cl : Nat) : Prop where
  cf : Cf wk av al V L
  bx : Bx wk k (.slice av V.length cv) (.slice al L.length cl)
  bel : Below w.heap.size w wk
theorem Cs.grow {w wk w' : World} {k : Nat} {av al : Option Addr} {V L : List Int} {cv cl : Nat} (h : Cs w wk k av al V L cv cl) (hb : Below wk.heap.size wk w') : Cs w w' k av al V L cv cl :=
  ⟨h.cf.grow hb, h.bx.grow hb, below_then h.bel hb⟩
theorem Cs.drew {w wk : World} {k : Nat} {av al : Option Addr} {V L : List Int} {cv cl : Nat} (h : Cs w wk k av al V L cv cl) : Cs w wk.drew k av al V L cv cl := h.grow ⟨rfl, rfl, rfl, Nat.le_refl _, fun _ _ => rfl⟩
theorem Cs.begin {w : World} {av al : Option Addr} {V L : List Int} (cv cl : Nat) (h : Cf w av al V L) : Cs w (w.alloc (.cells #[.slice av V.length cv, .slice al L.length cl] 24)) w.heap.size av al V L cv cl :=
  ⟨h.grow (below1 w _), bx_new w _ _, below1 w _⟩

set_option maxHeartbeats 1000000 in
theorem may_any (w : World) (av al : Option Addr) (V L : List Int) (cv cl : Nat) (h : Cf w av al V L) : Calls Try.prog 12 #[.agg #[.slice av V.length cv, .slice al L.length cl]] w fun e w' => e = .returned (.bool (mayB V L)) ∧ Below w.heap.size w w' := by
  have H0 := hidOf (Cs.begin cv cl h)
  have hR1 := fun o : Obj => rises_any (w.alloc o) av V cv (h.v.grow (below1 w o))
  have hR2 := fun o : Obj => rises_any (w.alloc o) al L cl (h.l.grow (below1 w o))
  have HR1 := hidOf hR1
  have HR2 := hidOf hR2
  have hlen := h.v.len
  clear hR1 hR2 h
  cases e0 : V.isEmpty with
  | true =>
    have hv0 : V = [] := List.isEmpty_iff.1 e0
    have em : mayB V L = false := by rw [mayB, e0]; rfl
    rw [em]
    subst hv0
    clear em HR1 HR2 e0 hlen
    go_enter Try.func12, Try.ntmps12
    go_wp2_with (fail)
    go_ret
    exact ⟨rfl, H0.out.bel⟩
  | false =>
    have hv0 : V ≠ [] := fun e => by rw [e] at e0; cases e0
    have hv1 : (((V.length : Nat) : Int) == 0) = false := by
      have := List.length_pos_iff.2 hv0
      rw [beq_eq_false_iff_ne]; omega
    have hv2 := List.length_pos_iff.2 hv0
    cases e1 : risF 0 V with
    | false =>
      have em : mayB V L = false := by rw [mayB, e0, e1]; rfl
      rw [em]
      rw [e1] at HR1
      clear em HR2 e0 e1 hv0
      go_enter Try.func12, Try.ntmps12
      go_wp2_with (go_at_call 35; refine (HR1.out _).mono ?_; rintro e w1 ⟨rfl, rfl⟩)
      go_ret
      exact ⟨rfl, H0.out.bel⟩
    | true =>
      rw [e1] at HR1
      cases e2 : risF 0 L with
      | false =>
        have em : mayB V L = false := by rw [mayB, e0, e1, e2]; rfl
        rw [em]
        rw [e2] at HR2
        clear em e0 e1 e2 hv0
        go_enter Try.func12, Try.ntmps12
        go_wp2_with (first
          | (go_at_call 35; refine (HR1.out _).mono ?_; rintro e w1 ⟨rfl, rfl⟩; clear HR1)
          | (go_at_call 35; refine (HR2.out _).mono ?_; rintro e w1 ⟨rfl, rfl⟩))
        go_ret
        exact ⟨rfl, H0.out.bel⟩
      | true =>
        rw [e2] at HR2
        have EM : Hid (mayB V L = !(List.range 5).any (isOne V L)) := hidOf (by rw [mayB, e0, e1, e2]; rfl)
        clear e0 e1 e2 hv0
        go_enter Try.func12, Try.ntmps12
        go_wp2_with (first
          | (go_at_call 35; refine (HR1.out _).mono ?_; rintro e w1 ⟨rfl, rfl⟩; clear HR1)
          | (go_at_call 35; refine (HR2.out _).mono ?_; rintro e w1 ⟨rfl, rfl⟩))
        go_loopw [20] (fun i wr => ∃ k : Nat, i = .int .i64 (k : Int) ∧ k ≤ 5 ∧ Hid (Cs w wr w.heap.size av al V L cv cl) ∧ Hid ((List.range k).any (isOne V L) = false)) (fun i _ => 5 - (intOf i).toNat)
        case atStart => exact ⟨0, rfl, Nat.zero_le _, H0, hidOf rfl⟩
        case round =>
          obtain ⟨k, rfl, hk, HC, HA⟩ := hrel
          by_cases hlt : k < 5
          · have hltz : (k : Int) < 5 := by omega
            have c0 := HC.out.bx.c0
            have c1 := HC.out.bx.c1
            have lt0 := HC.out.bx.lt
            have HV := hidOf (voter_any wr av al V L cv cl ((k : Int) + 1) HC.out.cf.v)
            have ES : Hid ((List.range (k + 1)).any (isOne V L) = (V.contains ((k : Int) + 1) && L.contains ((k : Int) + 1))) := hidOf (by rw [List.range_succ, List.any_append, HA.out]; simp [isOne])
            cases e3 : V.contains ((k : Int) + 1) with
            | false =>
              rw [e3] at HV ES
              clear e3
              go_wp2_with (go_at_call 16; refine HV.out.mono ?_; rintro e w2 ⟨rfl, hb⟩; have H2 := hidOf (HC.out.grow hb); clear hb)
              go_roundw
              case rel => exact ⟨k + 1, by go_num, by omega, H2, hidOf (ES.out.trans rfl)⟩
              case measure => simp [intOf]; omega
            | true =>
              rw [e3] at HV ES
              clear e3
              cases e4 : L.contains ((k : Int) + 1) with
              | false =>
                rw [e4] at ES
                go_wp2_with (first
                  | (go_at_call 16; refine HV.out.mono ?_; rintro e w2 ⟨rfl, hb⟩; have H2 := hidOf (HC.out.grow hb); clear hb c0 c1 lt0; have c0 := H2.out.bx.c0; have c1 := H2.out.bx.c1; have lt0 := H2.out.bx.lt; have hLL := learner_any w2 av al V L cv cl ((k : Int) + 1) H2.out.cf.l; rw [e4] at hLL; have HL := hidOf hLL; clear hLL e4)
                  | (go_at_call 36; refine HL.out.mono ?_; rintro e w3 ⟨rfl, hb⟩; have H3 := hidOf (H2.out.grow hb); clear hb))
                go_roundw
                case rel => exact ⟨k + 1, by go_num, by omega, H3, hidOf (ES.out.trans rfl)⟩
                case measure => simp [intOf]; omega
              | true =>
                rw [e4] at ES
                go_wp2_with (first
                  | (go_at_call 16; refine HV.out.mono ?_; rintro e w2 ⟨rfl, hb⟩; have H2 := hidOf (HC.out.grow hb); clear hb c0 c1 lt0; have c0 := H2.out.bx.c0; have c1 := H2.out.bx.c1; have lt0 := H2.out.bx.lt; have hLL := learner_any w2 av al V L cv cl ((k : Int) + 1) H2.out.cf.l; rw [e4] at hLL; have HL := hidOf hLL; clear hLL e4)
                  | (go_at_call 36; refine HL.out.mono ?_; rintro e w3 ⟨rfl, hb⟩; have H3 := hidOf (H2.out.grow hb); clear hb))
                go_ret
                refine ⟨?_, H3.out.bel⟩
                have : (List.range 5).any (isOne V L) = true := by
                  rw [List.any_eq_true]
                  have h2 : (List.range (k + 1)).any (isOne V L) = true := ES.out
                  obtain ⟨x, h3, h4⟩ := List.any_eq_true.1 h2
                  exact ⟨x, by simp only [List.mem_range] at h3 ⊢; omega, h4⟩
                rw [EM.out, this]; rfl
          · obtain rfl : k = 5 := by omega
            have hltz : ¬ ((5 : Nat) : Int) < 5 := by omega
            go_wp2
            go_ret
            refine ⟨?_, HC.out.bel⟩
            rw [EM.out, HA.out]; rfl

set_option maxHeartbeats 400000 in
theorem reached_any (w : World) (a : Option Addr) (M : List Int) (cap : Nat) (s : Int) (h : Ints w a M) : Calls Try.prog 42 #[.slice a M.length cap, .int .i64 s] w fun e w' => e = .returned (.int .i64 (rea M s)) ∧ w' = w := by
  have hl := h.len
  by_cases h1 : s < 1
  · have e : rea M s = 0 := by unfold rea; rw [if_pos (Or.inl h1)]
    rw [e]
    go_enter Try.func42, Try.ntmps42
    go_wp2
    go_ret
    exact ⟨rfl, rfl⟩
  · by_cases h2 : (M.length : Int) < s
    · have e : rea M s = 0 := by unfold rea; rw [if_pos (Or.inr h2)]
      rw [e]
      go_enter Try.func42, Try.ntmps42
      go_wp2
      go_ret
      exact ⟨rfl, rfl⟩
    · have e : rea M s = max (nth M (s - 1).toNat) 0 := by unfold rea; rw [if_neg (by omega)]
      rw [e]
      obtain ⟨j, hj⟩ : ∃ j : Nat, s = (j : Int) + 1 := ⟨(s - 1).toNat, by omega⟩
      subst hj
      have hjl : j < M.length := by omega
      have hjz : (j : Int) < (M.length : Int) := by omega
      rw [show ((j : Int) + 1 - 1).toNat = j by omega]
      obtain ⟨b, off, rfl, hb, hc⟩ := h.at hjl
      have c0 := hc j hjl
      generalize nth M j = x at c0 ⊢
      have hs1 : (j : Int) + 1 - 1 = j := by omega
      clear hc e h
      go_enter Try.func42, Try.ntmps42
      go_wp2
      go_ret
      exact ⟨by simp [Int.max_def], rfl⟩
end Go.Proofs.Yteaohmlbioooaaa
