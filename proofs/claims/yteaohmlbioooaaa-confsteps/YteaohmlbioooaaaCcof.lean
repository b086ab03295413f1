/- Agreed, with, without, of the code. -/
import Derived.Test.YteaohmlbioooaaaCcoe
namespace Go.Proofs.Yteaohmlbioooaaa
open Go.RowKit

theorem Cs.at_ {w wr : World} {o : Obj} {k : Nat} {av al : Option Addr} {V L : List Int} {cv cl : Nat} (h : Cs w (w.alloc o) k av al V L cv cl) (hb : Below (w.heap.size + 1) (w.alloc o) wr) : Cs w wr k av al V L cv cl :=
  h.grow (by rw [World.size_alloc]; exact hb)
set_option maxHeartbeats 1000000 in
theorem agreed_any (w : World) (av al : Option Addr) (V L : List Int) (cv cl : Nat) (am : Option Addr) (M : List Int) (cm : Nat) (h : Cf w av al V L) (hm : Ints w am M) : Calls Try.prog 21 #[.agg #[.slice av V.length cv, .slice al L.length cl], .slice am M.length cm] w fun e w' => e = .returned (.int .i64 (agr V M)) ∧ Below w.heap.size w w' := by
  have H0 := hidOf (Cs.begin cv cl h)
  have HM0 := hidOf (hm.grow (below1 w (.cells #[.slice av V.length cv, .slice al L.length cl] 24)))
  have hlen := h.v.len
  clear h hm
  by_cases e0 : V = []
  · have e : agr V M = 0 := by unfold agr; rw [if_pos e0]
    rw [e]
    subst e0
    clear e hlen
    go_enter Try.func21, Try.ntmps21
    go_wp2_with (fail)
    go_ret
    exact ⟨rfl, H0.out.bel⟩
  · have hp := List.length_pos_iff.2 e0
    have hv1 : (((V.length : Nat) : Int) == 0) = false := by rw [beq_eq_false_iff_ne]; omega
    have EA : Hid (agr V M = nth (srt (V.map (rea M))) ((V.length - 1) / 2)) := hidOf (by unfold agr; rw [if_neg e0])
    clear e0
    go_enter Try.func21, Try.ntmps21
    go_wp2_with (fail)
    go_loopw [5, 14] (fun vv i wr => ∃ (k : Nat) (v : Value), v = vv ∧ i = .int .i64 (k : Int) ∧ k ≤ V.length ∧ Hid (Row wr (w.heap.size + 1) v ((V.take k).map (rea M))) ∧ Hid (Below (w.heap.size + 1) (w.alloc (.cells #[.slice av V.length cv, .slice al L.length cl] 24)) wr)) (fun _ i _ => V.length - (intOf i).toNat)
    case atStart => exact ⟨0, _, rfl, rfl, Nat.zero_le _, hidOf (by rw [List.take_zero]; exact Row.nil _ _), hidOf (Below.refl _ _)⟩
    case round =>
      obtain ⟨k, v, rfl, rfl, hk, HR, HB⟩ := hrel
      have HC := hidOf (H0.out.at_ HB.out)
      have HM := hidOf (HM0.out.grow (by rw [World.size_alloc]; exact HB.out))
      have c0 := HC.out.bx.c0
      have lt0 := HC.out.bx.lt
      by_cases hlt : k < V.length
      · have hltz : (k : Int) < (V.length : Int) := by omega
        obtain ⟨b, off, rfl, hbl, hc⟩ := HC.out.cf.v.at hlt
        have c2 := hc k hlt
        have HT := hidOf (take_nth hlt)
        generalize nth V k = x at c2 HT
        clear hc
        have HRE := hidOf (reached_any wr am M cm x HM.out)
        have HL : Hid (((V.take k).map (rea M)).length + 1 ≤ 17592186044416) := hidOf (by simp; omega)
        have HT2 : Hid ((V.take (k + 1)).map (rea M) = (V.take k).map (rea M) ++ [rea M x]) := hidOf (by rw [HT.out, List.map_append]; rfl)
        have hr0 := HR.out
        generalize (V.take k).map (rea M) = q at hr0 HL HT2
        have HR0 := hidOf hr0
        clear hr0
        generalize rea M x = y at HRE HT2
        have HD0 : Hid (w.heap.size + 1 ≤ wr.heap.size) := hidOf lt0
        have HD : Hid (w.heap.size + 1 ≤ (wr.alloc (.cells #[.int .i64 y] 3)).heap.size) := hidOf (by rw [World.size_alloc]; exact Nat.le_succ_of_le lt0)
        clear HT
        go_wp2_with (first
          | (go_at_call 42; refine HRE.out.mono ?_; rintro e w2 ⟨rfl, hw2⟩; subst w2)
          | (at_builtin; refine wpList_app (wr.alloc (.cells #[.int .i64 y] 3)) rfl (.tmp 17) (.tmp 25) rfl (w.heap.size + 1) v q rfl (HR0.out.grow (below1 wr _)) (some ⟨wr.heap.size, 0, none⟩) 1 [y] rfl (ints_one wr y) HL.out HD.out ?next))
        case next =>
          intro v' w3 hr hg _
          have HB3 := hidOf (HB.out.trans (((below1 wr (.cells #[.int .i64 y] 3)).mono HD0.out).trans (grown_below (HR0.out.grow (below1 wr _)) hg HD.out)))
          have HR3 := hidOf hr
          clear hr hg
          go_wp2
          go_roundw
          case rel => exact ⟨k + 1, _, rfl, by go_num, by omega, hidOf (by rw [HT2.out]; exact HR3.out), HB3⟩
          case measure => simp [intOf]; omega
      · obtain rfl : k = V.length := by omega
        have hltz : ¬ (V.length : Int) < (V.length : Int) := by omega
        have hr := HR.out
        rw [List.take_length] at hr
        have hll : (V.map (rea M)).length = V.length := List.length_map _
        generalize V.map (rea M) = l at hr hll EA
        obtain ⟨a, cap, hv, hi, _, _, _⟩ := hr.slice
        rw [hll] at hv
        subst hv
        have hs := sorted_any wr a l cap hi
        rw [hll] at hs
        have HS := hidOf hs
        have hq : ((V.length : Int) - 1) / 2 = (((V.length - 1) / 2 : Nat) : Int) := by omega
        have hq2 : (V.length - 1) / 2 < V.length := by omega
        generalize (V.length - 1) / 2 = j at hq hq2 EA
        have hqz : (j : Int) < (V.length : Int) := by omega
        have HLL := hidOf hll
        clear hs hr hi hll HR
        go_wp2_with (go_at_call 32; refine HS.out.mono ?_; rintro e w4 ⟨v2, rfl, hr2, hb2⟩; obtain ⟨a2, cap2, hv2, hi2, _, _, _⟩ := hr2.slice; rw [srt_length, HLL.out] at hv2; subst hv2; obtain ⟨b2, off2, rfl, _, hc2⟩ := hi2.at (k := j) (by rw [srt_length, HLL.out]; exact hq2); have c4 := hc2 j (by rw [srt_length, HLL.out]; exact hq2); rw [← EA.out] at c4; have HB4 := hidOf hb2; clear hc2 hi2 hr2 hb2)
        go_ret
        exact ⟨rfl, below_then HC.out.bel HB4.out⟩

set_option maxHeartbeats 1000000 in
theorem with_any (w : World) (a : Option Addr) (l : List Int) (cap : Nat) (s : Int) (h : Ints w a l) (hl : l.length + 1 ≤ 17592186044416) : Calls Try.prog 44 #[.slice a l.length cap, .int .i64 s] w fun e w' => ∃ v, e = .returned v ∧ Row w' w.heap.size v (wth l s) ∧ Below w.heap.size w w' := by
  have HI := hidOf h
  clear h
  go_enter Try.func44, Try.ntmps44
  go_wp2_with (first
    | (go_at_call 43; refine (clone_any w a l cap HI.out).mono ?_; rintro e w1 ⟨v, rfl, hr, hb⟩; have HR := hidOf hr; have HB := hidOf hb; have HD : Hid (w.heap.size ≤ (w1.alloc (.cells #[.int .i64 s] 3)).heap.size) := hidOf (by rw [World.size_alloc]; exact Nat.le_succ_of_le hb.size); clear hr hb)
    | (at_builtin; refine wpList_app (w1.alloc (.cells #[.int .i64 s] 3)) rfl (.tmp 6) (.tmp 8) rfl w.heap.size v l rfl (HR.out.grow (below1 w1 _)) (some ⟨w1.heap.size, 0, none⟩) 1 [s] rfl (ints_one w1 s) hl HD.out ?next))
  case next =>
    intro v' w2 hr hg _
    have HB2 := hidOf (HB.out.trans (((below1 w1 (.cells #[.int .i64 s] 3)).mono HB.out.size).trans (grown_below (HR.out.grow (below1 w1 _)) hg HD.out)))
    obtain ⟨a2, cap2, hv2, hi, _, _, _⟩ := hr.slice
    have hs := sorted_any w2 a2 _ cap2 hi
    rw [show (l ++ [s]).length = l.length + 1 from by simp] at hs hv2
    subst hv2
    have HS := hidOf hs
    clear hr hg hi hs
    go_wp2_with (go_at_call 32; refine HS.out.mono ?_; rintro e w4 ⟨v2, rfl, hr2, hb2⟩; have HR2 := hidOf hr2; have HB4 := hidOf hb2; clear hr2 hb2)
    go_ret
    exact ⟨v2, rfl, HR2.out.down HB2.out.size, below_then HB2.out HB4.out⟩

theorem wto_take {l : List Int} (s : Int) {k : Nat} (h : k < l.length) : wto (l.take (k + 1)) s = wto (l.take k) s ++ if nth l k = s then [] else [nth l k] := by
  rw [take_nth h]
  unfold wto
  rw [List.filter_append]
  by_cases e : nth l k = s
  · rw [if_pos e]; simp [e]
  · rw [if_neg e]; simp [e]
theorem wto_len1 (l : List Int) (s : Int) {k n : Nat} (h : k < l.length) (hl : l.length ≤ n) : (wto (l.take k) s).length + 1 ≤ n := by
  have h1 : (wto (l.take k) s).length ≤ (l.take k).length := List.length_filter_le _ _
  have h2 : (l.take k).length ≤ k := by simp; omega
  omega
theorem wto_len (l : List Int) (s : Int) : (wto l s).length ≤ l.length := List.length_filter_le _ _
set_option maxHeartbeats 1000000 in
theorem without_any (w : World) (a : Option Addr) (l : List Int) (cap : Nat) (s : Int) (h : Ints w a l) : Calls Try.prog 46 #[.slice a l.length cap, .int .i64 s] w fun e w' => ∃ v, e = .returned v ∧ Row w' w.heap.size v (wto l s) ∧ Below w.heap.size w w' := by
  have HI := hidOf h
  have hlen := h.len
  clear h
  go_enter Try.func46, Try.ntmps46
  go_wp2
  go_loopw [5, 9] (fun vv i wr => ∃ (k : Nat) (v : Value), v = vv ∧ i = .int .i64 (k : Int) ∧ k ≤ l.length ∧ Hid (Row wr w.heap.size v (wto (l.take k) s)) ∧ Hid (Below w.heap.size w wr)) (fun _ i _ => l.length - (intOf i).toNat)
  case atStart => exact ⟨0, _, rfl, rfl, Nat.zero_le _, hidOf (by rw [List.take_zero]; exact Row.nil _ _), hidOf (Below.refl _ _)⟩
  case round =>
    obtain ⟨k, v, rfl, rfl, hk, HR, HB⟩ := hrel
    by_cases hlt : k < l.length
    · have hltz : (k : Int) < (l.length : Int) := by omega
      obtain ⟨b, off, rfl, hbl, hc⟩ := (HI.out.grow HB.out).at hlt
      have c2 := hc k hlt
      have HT := hidOf (wto_take s hlt)
      generalize nth l k = x at c2 HT
      clear hc
      have HD0 : Hid (w.heap.size ≤ wr.heap.size) := hidOf HB.out.size
      have HD : Hid (w.heap.size ≤ (wr.alloc (.cells #[.int .i64 x] 3)).heap.size) := hidOf (by rw [World.size_alloc]; exact Nat.le_succ_of_le HB.out.size)
      by_cases e : x = s
      · have hT := HT.out
        rw [if_pos e, List.append_nil] at hT
        have HT2 := hidOf hT
        have eb : (x == s) = true := by rw [beq_iff_eq]; exact e
        clear hT HT e
        go_wp2
        go_roundw
        case rel => exact ⟨k + 1, _, rfl, by go_num, by omega, hidOf (by rw [HT2.out]; exact HR.out), HB⟩
        case measure => simp [intOf]; omega
      · have hT := HT.out
        rw [if_neg e] at hT
        have HT2 := hidOf hT
        have eb : (x == s) = false := by rw [beq_eq_false_iff_ne]; exact e
        have HL : Hid ((wto (l.take k) s).length + 1 ≤ 17592186044416) := hidOf (wto_len1 l s hlt hlen)
        clear hT HT e
        go_wp2_with (at_builtin; refine wpList_app (wr.alloc (.cells #[.int .i64 x] 3)) rfl (.tmp 18) (.tmp 23) rfl w.heap.size v (wto (l.take k) s) rfl (HR.out.grow (below1 wr _)) (some ⟨wr.heap.size, 0, none⟩) 1 [x] rfl (ints_one wr x) HL.out HD.out ?next)
        case next =>
          intro v' w3 hr hg _
          have HB3 := hidOf (HB.out.trans (((below1 wr (.cells #[.int .i64 x] 3)).mono HD0.out).trans (grown_below (HR.out.grow (below1 wr _)) hg HD.out)))
          have HR3 := hidOf hr
          clear hr hg
          go_wp2
          go_roundw
          case rel => exact ⟨k + 1, _, rfl, by go_num, by omega, hidOf (by rw [HT2.out]; exact HR3.out), HB3⟩
          case measure => simp [intOf]; omega
    · obtain rfl : k = l.length := by omega
      have hltz : ¬ (l.length : Int) < (l.length : Int) := by omega
      have hr := HR.out
      rw [List.take_length] at hr
      go_wp2
      go_ret
      exact ⟨v, rfl, hr, HB.out⟩
end Go.Proofs.Yteaohmlbioooaaa
