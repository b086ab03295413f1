/- ConfAgrees, walked. -/
import Derived.Test.YteaohmlbioooaaaCliv
import Derived.Test.YteaohmlbioooaaaCopn
import Derived.Deep.Cut
namespace Go.Proofs.Yteaohmlbioooaaa
open Go.RowKit

/- two lists of the call's own, in rows of their own -/
structure TwoR (w : World) (D : Nat) (u v : Value) (h m : List Int) : Prop where
  r1 : Row w D u h
  r2 : Row w D v m
  ne : ∀ b, u.ownBlock = some b → v.ownBlock ≠ some b
theorem TwoR.grow {w w' : World} {D : Nat} {u v : Value} {h m : List Int} (t : TwoR w D u v h m) (hb : Below w.heap.size w w') : TwoR w' D u v h m := ⟨t.r1.grow hb, t.r2.grow hb, t.ne⟩
theorem TwoR.swap {w : World} {D : Nat} {u v : Value} {h m : List Int} (t : TwoR w D u v h m) : TwoR w D v u m h := ⟨t.r2, t.r1, fun b h1 h2 => t.ne b h2 h1⟩
theorem TwoR.left {w w' : World} {D : Nat} {u v u' : Value} {h m h' : List Int} (t : TwoR w D u v h m) (hr : Row w' D u' h') (hg : w.grownBy w' u.ownBlock) (ho : u'.ownBlock = u.ownBlock ∨ u'.ownBlock = some w.heap.size) : TwoR w' D u' v h' m := by
  refine ⟨hr, t.r2.keep hg (fun k hk e => t.ne k e hk), fun b h1 h2 => ?_⟩
  rcases ho with e | e
  · rw [e] at h1; exact t.ne b h1 h2
  · rw [e] at h1
    have := (t.r2.block h2).2
    have := Option.some.inj h1
    omega
theorem TwoR.below {w w' : World} {D : Nat} {u v : Value} {h m : List Int} (t : TwoR w D u v h m) (hg : w.grownBy w' u.ownBlock) (hD : D ≤ w.heap.size) : Below D w w' := grown_below t.r1 hg hD
theorem ag_has {V M : List Int} (h : ¬ agr V M = 0) : majB V (geL M (agr V M) M.length) = true := by
  have a := agr_is V M
  have hp : 0 < agr V M := by have := a.pos; omega
  rw [maj_geL V M hp, decide_eq_true_eq]
  rcases a.has with z | z
  · exact absurd z h
  · exact z
theorem ag_more (V M : List Int) : majB V (geL M (agr V M + 1) M.length) = false := by
  have a := agr_is V M
  have hp : 0 < agr V M + 1 := by have := a.pos; omega
  rw [maj_geL V M hp]
  exact decide_eq_false (a.most _ (by omega))
theorem geL_yes {M : List Int} {t : Int} {k : Nat} (h : t ≤ nth M k) : geL M t (k + 1) = geL M t k ++ [(k : Int) + 1] := by rw [geL_succ, if_pos h]
theorem geL_no {M : List Int} {t : Int} {k : Nat} (h : ¬ t ≤ nth M k) : geL M t (k + 1) = geL M t k := by rw [geL_succ, if_neg h, List.append_nil]
set_option maxHeartbeats 8000000 in
theorem lawAgrees (w : World) (av al : Option Addr) (V L : List Int) (cv cl : Nat) (hV : Ints w av V) (hL : Ints w al L) (_bV : V.length ≤ 17592186043904) (_bL : L.length ≤ 17592186043904) (_kV : V.length ≤ cv) (_kL : L.length ≤ cl) (_wV : Wf V) (_wL : Wf L) (am : Option Addr) (M : List Int) (cm : Nat) (hM : Ints w am M) (bM : M.length ≤ 17592186043904) (_kM : M.length ≤ cm) (_wM : Wf M) : Calls Try.prog 8 #[.agg #[.slice av V.length cv, .slice al L.length cl], .slice am M.length cm] w fun e w' => e = .returned (.bool true) ∧ Below w.heap.size w w' := by
  have H0 := hidOf (Cs.begin cv cl ⟨hV, hL⟩)
  have HM0 := hidOf (hM.grow (below1 w (.cells #[.slice av V.length cv, .slice al L.length cl] 24)))
  have hA := agreed_any _ av al V L cv cl am M cm H0.out.cf HM0.out
  have HHAS := hidOf (@ag_has V M)
  have HMORE := hidOf (ag_more V M)
  have hpos : 0 ≤ agr V M := (agr_is V M).pos
  generalize agr V M = n at hA HHAS HMORE hpos
  have HA := hidOf hA
  clear hV hL hM hA
  go_enter Try.func8, Try.ntmps8
  go_wp2_with (go_at_call 21; refine HA.out.mono ?_; rintro e w1 ⟨rfl, hb⟩; have H1 := hidOf (H0.out.grow hb); have HM1 := hidOf (HM0.out.grow hb); clear hb)
  go_loopw [6, 7, 8] (fun uu vv i wr => ∃ (k : Nat) (u v : Value), u = uu ∧ v = vv ∧ i = .int .i64 ((k : Int) + 1) ∧ k ≤ M.length ∧ Hid (TwoR wr w1.heap.size u v (geL M n k) (geL M (n + 1) k)) ∧ Hid (Below w1.heap.size w1 wr)) (fun _ _ i _ => M.length + 1 - (intOf i).toNat)
  case atStart => exact ⟨0, _, _, rfl, rfl, rfl, Nat.zero_le _, hidOf ⟨Row.nil _ _, Row.nil _ _, fun b h => by cases h⟩, hidOf (Below.refl _ _)⟩
  case round =>
    obtain ⟨k, u, v, rfl, rfl, rfl, hk, HT, HB⟩ := hrel
    by_cases hlt : k < M.length
    · have hltz : (k : Int) + 1 ≤ (M.length : Int) := by omega
      have hs1 : (k : Int) + 1 - 1 = (k : Int) := by omega
      have hkz : (k : Int) < (M.length : Int) := by omega
      obtain ⟨b, off, rfl, _, hc⟩ := (HM1.out.grow HB.out).at hlt
      have c0 := hc k hlt
      obtain ⟨x, hx⟩ : ∃ x, x = nth M k := ⟨_, rfl⟩
      rw [← hx] at c0
      have HX := hidOf hx
      have hD : Hid (w1.heap.size ≤ wr.heap.size) := hidOf HB.out.size
      have hl1 := geL_length M n k
      have hl2 := geL_length M (n + 1) k
      clear hc hx
      by_cases h1 : n ≤ x
      · have HG1 := hidOf (geL_yes (M := M) (t := n) (k := k) (by rw [← HX.out]; exact h1))
        have HL1 : Hid ((geL M n k).length + [((k : Int) + 1)].length ≤ 17592186044416) := hidOf (by simp; omega)
        have HT0 := hidOf (HT.out.grow (below1 wr (.cells #[.int .i64 ((k : Int) + 1)] 3)))
        have hD0 : Hid (w1.heap.size ≤ (wr.alloc (.cells #[.int .i64 ((k : Int) + 1)] 3)).heap.size) := hidOf (by rw [World.size_alloc]; exact Nat.le_succ_of_le hD.out)
        go_upto_region 8 with fail
        go_wp2_with (at_builtin; refine wpList_app (wr.alloc (.cells #[.int .i64 ((k : Int) + 1)] 3)) rfl (.tmp 25) (.tmp 27) rfl w1.heap.size u (geL M n k) rfl HT0.out.r1 (some ⟨wr.heap.size, 0, none⟩) 1 [((k : Int) + 1)] rfl (ints_one wr _) HL1.out hD0.out ?next1)
        case next1 =>
          intro u2 w2 hr2 hg2 ho2
          rw [← HG1.out] at hr2
          have HT2 := hidOf (HT0.out.left hr2 hg2 (by rw [World.size_alloc]; exact ho2))
          have HB2 := hidOf (HB.out.trans (((below1 wr (.cells #[.int .i64 ((k : Int) + 1)] 3)).mono hD.out).trans (HT0.out.below hg2 hD0.out)))
          obtain ⟨b2, off2, e2, _, hc2⟩ := (HM1.out.grow HB2.out).at hlt
          cases e2
          have c1 := hc2 k hlt
          rw [← HX.out] at c1
          clear hr2 hg2 ho2 hc2
          by_cases h2 : n < x
          · have HG2 := hidOf (geL_yes (M := M) (t := n + 1) (k := k) (by rw [← HX.out]; omega))
            have HL2 : Hid ((geL M (n + 1) k).length + [((k : Int) + 1)].length ≤ 17592186044416) := hidOf (by simp; omega)
            have hD2 : Hid (w1.heap.size ≤ w2.heap.size) := hidOf HB2.out.size
            have HT3 := hidOf (HT2.out.grow (below1 w2 (.cells #[.int .i64 ((k : Int) + 1)] 3)))
            have hD3 : Hid (w1.heap.size ≤ (w2.alloc (.cells #[.int .i64 ((k : Int) + 1)] 3)).heap.size) := hidOf (by rw [World.size_alloc]; exact Nat.le_succ_of_le hD2.out)
            go_wp2_with (at_builtin; refine wpList_app (w2.alloc (.cells #[.int .i64 ((k : Int) + 1)] 3)) rfl (.tmp 36) (.tmp 38) rfl w1.heap.size v (geL M (n + 1) k) rfl HT3.out.r2 (some ⟨w2.heap.size, 0, none⟩) 1 [((k : Int) + 1)] rfl (ints_one w2 _) HL2.out hD3.out ?next2)
            case next2 =>
              intro v4 w4 hr4 hg4 ho4
              rw [← HG2.out] at hr4
              have HT4 := hidOf (HT3.out.swap.left hr4 hg4 (by rw [World.size_alloc]; exact ho4)).swap
              have HB4 := hidOf (HB2.out.trans (((below1 w2 (.cells #[.int .i64 ((k : Int) + 1)] 3)).mono hD2.out).trans (HT3.out.swap.below hg4 hD3.out)))
              clear hr4 hg4 ho4
              go_wp2
              go_roundw
              case rel => exact ⟨k + 1, _, _, rfl, rfl, by go_num, by omega, HT4, HB4⟩
              case measure => simp [intOf]; omega
          · have HG2 := hidOf (geL_no (M := M) (t := n + 1) (k := k) (by rw [← HX.out]; omega))
            go_wp2
            go_roundw
            case rel => exact ⟨k + 1, _, _, rfl, rfl, by go_num, by omega, hidOf (by rw [HG2.out]; exact HT2.out), HB2⟩
            case measure => simp [intOf]; omega
      · have HG1 := hidOf (geL_no (M := M) (t := n) (k := k) (by rw [← HX.out]; exact h1))
        have HG2 := hidOf (geL_no (M := M) (t := n + 1) (k := k) (by rw [← HX.out]; omega))
        have h2 : ¬ n < x := by omega
        go_wp2
        go_roundw
        case rel => exact ⟨k + 1, _, _, rfl, rfl, by go_num, by omega, hidOf (by rw [HG1.out, HG2.out]; exact HT.out), HB⟩
        case measure => simp [intOf]; omega
    · obtain rfl : k = M.length := by omega
      have hltz : ¬ (M.length : Int) + 1 ≤ (M.length : Int) := by omega
      obtain ⟨a1, k1, rfl, hi1, _, _, _⟩ := HT.out.r1.slice
      obtain ⟨a2, k2, rfl, hi2, _, _, _⟩ := HT.out.r2.slice
      have HC := hidOf (H1.out.grow HB.out)
      have HI1 := hidOf hi1
      have HI2 := hidOf hi2
      have c0 := HC.out.bx.c0
      have c1 := HC.out.bx.c1
      have lt0 := HC.out.bx.lt
      clear hi1 hi2
      by_cases hn : n = 0
      · have hnb : (n == 0) = true := by rw [beq_iff_eq]; exact hn
        have hm2 := majority_any wr av al V L cv cl a2 (geL M (n + 1) M.length) k2 HC.out.cf HI2.out
        rw [HMORE.out] at hm2
        have HM2 := hidOf hm2
        clear hm2 hn
        go_wp2_with (first
          | (go_at_call 19; refine HM2.out.mono ?_; rintro e w3 ⟨rfl, hb⟩; have H3 := hidOf (HC.out.grow hb); clear hb c0 c1 lt0)
          | (go_at_call 18; refine (lives_any _).mono ?_; rintro e wl ⟨rfl, hb⟩; have HBL := hidOf hb; clear hb))
        go_ret
        exact ⟨rfl, below_then H3.out.bel HBL.out⟩
      · have hnb : (n == 0) = false := by rw [beq_eq_false_iff_ne]; exact hn
        have hm1 := majority_any wr av al V L cv cl a1 (geL M n M.length) k1 HC.out.cf HI1.out
        rw [HHAS.out hn] at hm1
        have HM1' := hidOf hm1
        clear hm1 hn
        go_wp2_with (first
          | (go_at_call 19; refine HM1'.out.mono ?_; rintro e w2 ⟨rfl, hb⟩; have H2 := hidOf (HC.out.grow hb); have hm2 := majority_any w2 av al V L cv cl a2 (geL M (n + 1) M.length) k2 H2.out.cf (HI2.out.grow hb); rw [HMORE.out] at hm2; have HM2 := hidOf hm2; clear hb hm2 c0 c1 lt0 HM1'; have c0 := H2.out.bx.c0; have c1 := H2.out.bx.c1; have lt0 := H2.out.bx.lt)
          | (go_at_call 19; refine HM2.out.mono ?_; rintro e w3 ⟨rfl, hb⟩; have H3 := hidOf (H2.out.grow hb); clear hb c0 c1 lt0)
          | (go_at_call 18; refine (lives_any _).mono ?_; rintro e wl ⟨rfl, hb⟩; have HBL := hidOf hb; clear hb))
        go_ret
        exact ⟨rfl, below_then H3.out.bel HBL.out⟩
end Go.Proofs.Yteaohmlbioooaaa
