/- SpecSum, walked. -/
import Derived.Test.YtnkdchajgpkmpaaSopn
import Derived.Test.YtnkdchajgpkmpaaSlif
import Derived.Test.YtnkdchajgpkmpaaLord
import Derived.Deep.RegionHeld3
namespace Go.Proofs.Ytnkdchajgpkmpaa
open Go.RowKit

def sumC : List Rs → Int
  | [] => 0
  | r :: l => r.c + sumC l
def sumM : List Rs → Int
  | [] => 0
  | r :: l => r.m + sumM l
def okR (r : Rs) : Prop := (0 ≤ r.c ∧ r.c ≤ 1152921504606846976) ∧ (0 ≤ r.m ∧ r.m ≤ 1152921504606846976)
def Good (l : List Rs) : Prop := (∀ r ∈ l, okR r) ∧ sumC l ≤ 1152921504606846976 ∧ sumM l ≤ 1152921504606846976
theorem sumC_append (l k : List Rs) : sumC (l ++ k) = sumC l + sumC k := by
  induction l with
  | nil => simp [sumC]
  | cons r l ih => simp only [List.cons_append, sumC, ih]; omega
theorem sumM_append (l k : List Rs) : sumM (l ++ k) = sumM l + sumM k := by
  induction l with
  | nil => simp [sumM]
  | cons r l ih => simp only [List.cons_append, sumM, ih]; omega
theorem sums_pos {l : List Rs} (h : ∀ r ∈ l, okR r) : 0 ≤ sumC l ∧ 0 ≤ sumM l := by
  induction l with
  | nil => simp [sumC, sumM]
  | cons r l ih =>
    have h1 := h r (by simp)
    have h2 := ih (fun r hr => h r (by simp [hr]))
    unfold okR at h1
    simp only [sumC, sumM]
    omega
theorem good_parts {l k : List Rs} (h : Good (l ++ k)) : Good l ∧ Good k := by
  obtain ⟨h1, h2, h3⟩ := h
  have a1 : ∀ r ∈ l, okR r := fun r hr => h1 r (by simp [hr])
  have a2 : ∀ r ∈ k, okR r := fun r hr => h1 r (by simp [hr])
  have p1 := sums_pos a1
  have p2 := sums_pos a2
  rw [sumC_append] at h2
  rw [sumM_append] at h3
  exact ⟨⟨a1, by omega, by omega⟩, a2, by omega, by omega⟩
theorem good_end {l : List Rs} (r : Rs) (h : Good l) : addB (sumC l) (sumM l) r.c r.m = true ↔ Good (l ++ [r]) := by
  have p := sums_pos h.1
  rw [addB_iff]
  constructor
  · intro hh
    refine ⟨fun x hx => ?_, by rw [sumC_append]; simp only [sumC]; omega, by rw [sumM_append]; simp only [sumM]; omega⟩
    rcases List.mem_append.1 hx with hx | hx
    · exact h.1 x hx
    · rw [List.mem_singleton.1 hx]; exact hh.2.1
  · intro hh
    have hr := hh.1 r (by simp)
    have h2 := hh.2
    rw [sumC_append, sumM_append] at h2
    simp only [sumC, sumM] at h2
    have := h.2
    unfold okR at hr
    omega
theorem good_head {l : List Rs} (r : Rs) (h : Good l) : addB (sumC l) (sumM l) r.c r.m = true ↔ Good (r :: l) := by
  have p := sums_pos h.1
  rw [addB_iff]
  constructor
  · intro hh
    refine ⟨fun x hx => ?_, by simp only [sumC]; omega, by simp only [sumM]; omega⟩
    rcases List.mem_cons.1 hx with hx | hx
    · rw [hx]; exact hh.2.1
    · exact h.1 x hx
  · intro hh
    have hr := hh.1 r (by simp)
    have h2 := hh.2
    simp only [sumC, sumM] at h2
    have := h.2
    unfold okR at hr
    omega
theorem rt_eq {L : List Rs} {k : Nat} (h : k < L.length) : rt L k = L[k] := by simp [rt, h]
/- what stands behind the sums: while all went well they are those of l, a part of L -/
def Sm (L l : List Rs) (d : Bool) (c m : Int) : Prop := (d = true → Good l ∧ c = sumC l ∧ m = sumM l) ∧ (d = false → ¬ Good L)
theorem sm_end {L : List Rs} {k : Nat} {c m : Int} (hk : k < L.length) (h : Sm L (L.take k) true c m) : Sm L (L.take (k + 1)) (addB c m (rt L k).c (rt L k).m) (addC c m (rt L k).c (rt L k).m) (addM c m (rt L k).c (rt L k).m) := by
  obtain ⟨hg, rfl, rfl⟩ := h.1 rfl
  have e : L.take (k + 1) = L.take k ++ [rt L k] := by rw [rt_eq hk, List.take_succ_eq_append_getElem hk]
  have i := good_end (rt L k) hg
  refine ⟨fun hd => ?_, fun hd hL => ?_⟩
  · rw [addC_of hd, addM_of hd, e, sumC_append, sumM_append]
    exact ⟨i.1 hd, by simp [sumC], by simp [sumM]⟩
  · have : Good (L.take (k + 1)) := by rw [← List.take_append_drop (k + 1) L] at hL; exact (good_parts hL).1
    rw [e] at this
    rw [i.2 this] at hd
    cases hd
theorem sm_head {L : List Rs} {k : Nat} {c m : Int} (hk : k < L.length) (h : Sm L (L.drop (k + 1)) true c m) : Sm L (L.drop k) (addB c m (rt L k).c (rt L k).m) (addC c m (rt L k).c (rt L k).m) (addM c m (rt L k).c (rt L k).m) := by
  obtain ⟨hg, rfl, rfl⟩ := h.1 rfl
  have e : L.drop k = rt L k :: L.drop (k + 1) := by rw [rt_eq hk, List.drop_eq_getElem_cons hk]
  have i := good_head (rt L k) hg
  refine ⟨fun hd => ?_, fun hd hL => ?_⟩
  · rw [addC_of hd, addM_of hd, e]
    exact ⟨i.1 hd, by simp only [sumC]; omega, by simp only [sumM]; omega⟩
  · have : Good (L.drop k) := by rw [← List.take_append_drop k L] at hL; exact (good_parts hL).2
    rw [e] at this
    rw [i.2 this] at hd
    cases hd
theorem sm_start (L : List Rs) (l : List Rs) (h : l = []) : Sm L l true 0 0 := by
  subst h
  exact ⟨fun _ => ⟨⟨fun r hr => (by cases hr), by simp [sumC], by simp [sumM]⟩, rfl, rfl⟩, fun h => (by cases h)⟩
theorem sm_same {L : List Rs} {d d' : Bool} {c m c' m' : Int} (h : Sm L L d c m) (h' : Sm L L d' c' m') : d = d' ∧ (d = true → c = c' ∧ m = m') := by
  cases d <;> cases d'
  · exact ⟨rfl, fun h => by cases h⟩
  · exact absurd (h'.1 rfl).1 (h.2 rfl)
  · exact absurd (h.1 rfl).1 (h'.2 rfl)
  · obtain ⟨_, rfl, rfl⟩ := h.1 rfl
    obtain ⟨_, rfl, rfl⟩ := h'.1 rfl
    exact ⟨rfl, fun _ => ⟨rfl, rfl⟩⟩
theorem sm_no {L l : List Rs} {c m : Int} (h : Sm L l false c m) (l' : List Rs) : Sm L l' false c m := ⟨fun h => (by cases h), h.2⟩

structure SwS (w wk : World) (k : Nat) (c m : Int) : Prop where
  a : Pr wk k c m
  bel : Below w.heap.size w wk
theorem SwS.grow {w wk w' : World} {k : Nat} {c m : Int} (h : SwS w wk k c m) (hb : Below wk.heap.size wk w') : SwS w w' k c m := ⟨h.a.grow hb, h.bel.trans (hb.mono h.bel.size)⟩
theorem SwS.set {w wk : World} {k : Nat} {c m : Int} (h : SwS w wk k c m) (hk : w.heap.size ≤ k) (c' m' : Int) : SwS w ((wk.setCell ⟨k, 0, none⟩ (.int .i64 c')).setCell ⟨k, 1, none⟩ (.int .i64 m')) k c' m' :=
  ⟨h.a.set c' m', (h.bel.setCell hk _).setCell hk _⟩

theorem SwS.other {w wk : World} {k : Nat} {c m : Int} (h : SwS w wk k c m) {j : Nat} (hne : k ≠ j) (hj : w.heap.size ≤ j) (u v : Int) : SwS w ((wk.setCell ⟨j, 0, none⟩ (.int .i64 u)).setCell ⟨j, 1, none⟩ (.int .i64 v)) k c m :=
  ⟨(heap_setCell_other _ _ _ _ hne).trans ((heap_setCell_other _ _ _ _ hne).trans h.a), (h.bel.setCell hj _).setCell hj _⟩
set_option maxHeartbeats 8000000 in
set_option maxRecDepth 100000 in
theorem lawSum (a : Option Addr) (cap : Nat) (L : List Rs) (w : World) (hg : Rss w a L) (hlm : L.length ≤ maxLen) :
    Calls Try.prog 6 #[.slice a L.length cap] w fun e w' => e = .returned (.bool true) ∧ Below w.heap.size w w' := by
  unfold maxLen at hlm
  have HG := hidOf hg
  clear hg
  have H0 : Hid (SwS w (w.alloc (.cells #[.int .i64 0, .int .i64 0] 26)) w.heap.size 0 0) := hidOf ⟨pr_new w 0 0, below1 w _⟩
  go_enter Try.func6, Try.ntmps6
  go_wp2
  go_loopw [4, 5] (fun p i wr => ∃ (k : Nat) (d : Bool) (c m : Int), k ≤ L.length ∧ i = .int .i64 (k : Int) ∧ p = .bool d ∧ Hid (Sm L (L.take k) d c m ∧ SwS w wr w.heap.size c m)) (fun _ i _ => L.length - (intOf i).toNat)
  case atStart => exact ⟨0, true, 0, 0, Nat.zero_le _, rfl, rfl, hidOf ⟨sm_start L _ (by simp), H0.out⟩⟩
  case round =>
    obtain ⟨k, d, c, m, hk, rfl, rfl, H⟩ := hrel
    clear H0
    by_cases hdk : d = true ∧ k < L.length
    · obtain ⟨rfl, hlt⟩ := hdk
      have hltz : (k : Int) < (L.length : Int) := by omega
      obtain ⟨b, off, hab, hbl, g0, g1⟩ := HG.out.at H.out.2.bel k hlt
      subst hab
      have HS := hidOf (sm_end hlt H.out.1)
      have HC := hidOf (fun w => add_any c m (rt L k).c (rt L k).m w)
      generalize addB c m (rt L k).c (rt L k).m = d2 at *
      generalize addC c m (rt L k).c (rt L k).m = c2 at *
      generalize addM c m (rt L k).c (rt L k).m = m2 at *
      have a0 := H.out.2.a.c0
      have a1 := H.out.2.a.c1
      have la := H.out.2.a.lt
      have lw := H.out.2.bel.size
      have lb : b < wr.heap.size := Nat.lt_of_lt_of_le hbl lw
      go_wp2
      go_region_with (first
        | (go_at_call 13; refine (HC.out _).mono ?_; rintro e w1 ⟨rfl, hb⟩; have H1 := hidOf ((H.out.2.grow (Below.refl _ _).drew).grow hb); clear hb a0 a1 la lb; have f0 := H1.out.a.fr; have a0 := H1.out.a.c0; have a1 := H1.out.a.c1; have la := H1.out.a.lt))
      all_goals
        go_wp2
        exact ⟨⟨k + 1, d2, c2, m2, by omega, by go_num, rfl, hidOf ⟨HS.out, H1.out.set (Nat.le_refl _) _ _⟩⟩, by simp [intOf]; omega⟩
    · have E : Hid (Sm L L d c m ∧ SwS w wr w.heap.size c m) := by
        cases d with
        | false => exact hidOf ⟨sm_no H.out.1 L, H.out.2⟩
        | true =>
          have hkl : k = L.length := by
            by_cases h : k < L.length
            · exact absurd ⟨rfl, h⟩ hdk
            · omega
          have := H.out
          rw [hkl, List.take_length] at this
          exact hidOf this
      have HX : Hid (d = true → ¬ (k < L.length)) := hidOf fun e h => hdk ⟨e, h⟩
      clear H hdk
      obtain ⟨wA, hwA⟩ : ∃ x, x = wr := ⟨_, rfl⟩
      subst hwA
      have E2 : Hid (SwS w (wA.alloc (.cells #[.int .i64 0, .int .i64 0] 26)) w.heap.size c m ∧ SwS w (wA.alloc (.cells #[.int .i64 0, .int .i64 0] 26)) wA.heap.size 0 0) := hidOf ⟨E.out.2.grow (below1 _ _), pr_new wA 0 0, (E.out.2.grow (below1 _ _)).bel⟩
      have E3 := hidOf E.out.1
      have lA := E.out.2.bel.size
      have lsA : w.heap.size < wA.heap.size := E.out.2.a.lt
      clear E
      by_cases hlt : k < L.length
      · have hltz : (k : Int) < (L.length : Int) := by omega
        have hd : d = false := by
          cases d with
          | false => rfl
          | true => exact absurd hlt (HX.out rfl)
        subst hd
        clear HX
        go_wp2
        go_loopw [7, 8] (fun q i wr => ∃ (n : Nat) (d2 : Bool) (c2 m2 : Int), n ≤ L.length ∧ i = .int .i64 ((n : Int) - 1) ∧ q = .bool d2 ∧ Hid (Sm L (L.drop n) d2 c2 m2 ∧ SwS w wr w.heap.size c m ∧ SwS w wr wA.heap.size c2 m2)) (fun _ i _ => (intOf i + 1).toNat)
        case atStart => exact ⟨L.length, true, 0, 0, Nat.le_refl _, rfl, rfl, hidOf ⟨sm_start L _ (by simp), E2.out⟩⟩
        case round =>
          obtain ⟨n, d2, c2, m2, hn, rfl, rfl, H⟩ := hrel
          clear E2
          by_cases hdn : d2 = true ∧ 0 < n
          · obtain ⟨rfl, hpos⟩ := hdn
            obtain ⟨j, rfl⟩ : ∃ j, n = j + 1 := ⟨n - 1, by omega⟩
            have hjl : j < L.length := by omega
            have hj1 : ((j + 1 : Nat) : Int) - 1 = (j : Int) := by omega
            have hj2 : (j : Int) < (L.length : Int) := by omega
            rw [hj1]
            obtain ⟨b, off, hab, hbl, g0, g1⟩ := HG.out.at H.out.2.1.bel j hjl
            subst hab
            have HS := hidOf (sm_head hjl H.out.1)
            have HC := hidOf (fun w => add_any c2 m2 (rt L j).c (rt L j).m w)
            generalize addB c2 m2 (rt L j).c (rt L j).m = d3 at *
            generalize addC c2 m2 (rt L j).c (rt L j).m = c3 at *
            generalize addM c2 m2 (rt L j).c (rt L j).m = m3 at *
            have a0 := H.out.2.2.a.c0
            have a1 := H.out.2.2.a.c1
            have la := H.out.2.2.a.lt
            have lb : b < wr.heap.size := Nat.lt_of_lt_of_le hbl H.out.2.1.bel.size
            clear hj1
            go_wp2
            go_region_with (first
              | (go_at_call 13; refine (HC.out _).mono ?_; rintro e w1 ⟨rfl, hb⟩; have H1 := hidOf ((H.out.2.2.grow (Below.refl _ _).drew).grow hb); have H2 := hidOf ((H.out.2.1.grow (Below.refl _ _).drew).grow hb); clear hb a0 a1 la lb; have f0 := H1.out.a.fr; have a0 := H1.out.a.c0; have a1 := H1.out.a.c1; have la := H1.out.a.lt))
            all_goals
              go_wp2
              exact ⟨⟨j, d3, c3, m3, by omega, rfl, rfl, hidOf ⟨HS.out, H2.out.other (by omega) lA _ _, H1.out.set lA _ _⟩⟩, by simp [intOf]⟩
          · have F : Hid (Sm L L d2 c2 m2) := by
              cases d2 with
              | false => exact hidOf (sm_no H.out.1 L)
              | true =>
                have hn0 : n = 0 := by
                  by_cases h : 0 < n
                  · exact absurd ⟨rfl, h⟩ hdn
                  · omega
                have := H.out.1
                rw [hn0, List.drop_zero] at this
                exact hidOf this
            have HX : Hid (d2 = true → ¬ (0 < n)) := hidOf fun e h => hdn ⟨e, h⟩
            have HSame := hidOf (sm_same E3.out F.out)
            have hdd := HSame.out.1
            subst hdd
            clear hdn
            have a0 := H.out.2.1.a.c0
            have a1 := H.out.2.1.a.c1
            have la := H.out.2.1.a.lt
            have b0 := H.out.2.2.a.c0
            have b1 := H.out.2.2.a.c1
            have lb := H.out.2.2.a.lt
            by_cases hn0 : 0 < n
            · have hnz : (0 : Int) ≤ (n : Int) - 1 := by omega
              go_wp2_with (go_at_call 12; refine (lives_any _).mono ?_; rintro e w5 ⟨rfl, hb⟩; have B5 := hidOf (H.out.2.1.bel.trans (hb.mono H.out.2.1.bel.size)); clear hb)
              go_ret
              exact ⟨rfl, B5.out⟩
            · have hnz : ¬ (0 : Int) ≤ (n : Int) - 1 := by omega
              go_wp2_with (go_at_call 12; refine (lives_any _).mono ?_; rintro e w5 ⟨rfl, hb⟩; have B5 := hidOf (H.out.2.1.bel.trans (hb.mono H.out.2.1.bel.size)); clear hb)
              go_ret
              exact ⟨rfl, B5.out⟩
      · have hltz : ¬ (k : Int) < (L.length : Int) := by omega
        clear HX
        go_wp2
        go_loopw [7, 8] (fun q i wr => ∃ (n : Nat) (d2 : Bool) (c2 m2 : Int), n ≤ L.length ∧ i = .int .i64 ((n : Int) - 1) ∧ q = .bool d2 ∧ Hid (Sm L (L.drop n) d2 c2 m2 ∧ SwS w wr w.heap.size c m ∧ SwS w wr wA.heap.size c2 m2)) (fun _ i _ => (intOf i + 1).toNat)
        case atStart => exact ⟨L.length, true, 0, 0, Nat.le_refl _, rfl, rfl, hidOf ⟨sm_start L _ (by simp), E2.out⟩⟩
        case round =>
          obtain ⟨n, d2, c2, m2, hn, rfl, rfl, H⟩ := hrel
          clear E2
          by_cases hdn : d2 = true ∧ 0 < n
          · obtain ⟨rfl, hpos⟩ := hdn
            obtain ⟨j, rfl⟩ : ∃ j, n = j + 1 := ⟨n - 1, by omega⟩
            have hjl : j < L.length := by omega
            have hj1 : ((j + 1 : Nat) : Int) - 1 = (j : Int) := by omega
            have hj2 : (j : Int) < (L.length : Int) := by omega
            rw [hj1]
            obtain ⟨b, off, hab, hbl, g0, g1⟩ := HG.out.at H.out.2.1.bel j hjl
            subst hab
            have HS := hidOf (sm_head hjl H.out.1)
            have HC := hidOf (fun w => add_any c2 m2 (rt L j).c (rt L j).m w)
            generalize addB c2 m2 (rt L j).c (rt L j).m = d3 at *
            generalize addC c2 m2 (rt L j).c (rt L j).m = c3 at *
            generalize addM c2 m2 (rt L j).c (rt L j).m = m3 at *
            have a0 := H.out.2.2.a.c0
            have a1 := H.out.2.2.a.c1
            have la := H.out.2.2.a.lt
            have lb : b < wr.heap.size := Nat.lt_of_lt_of_le hbl H.out.2.1.bel.size
            clear hj1
            go_wp2
            go_region_with (first
              | (go_at_call 13; refine (HC.out _).mono ?_; rintro e w1 ⟨rfl, hb⟩; have H1 := hidOf ((H.out.2.2.grow (Below.refl _ _).drew).grow hb); have H2 := hidOf ((H.out.2.1.grow (Below.refl _ _).drew).grow hb); clear hb a0 a1 la lb; have f0 := H1.out.a.fr; have a0 := H1.out.a.c0; have a1 := H1.out.a.c1; have la := H1.out.a.lt))
            all_goals
              go_wp2
              exact ⟨⟨j, d3, c3, m3, by omega, rfl, rfl, hidOf ⟨HS.out, H2.out.other (by omega) lA _ _, H1.out.set lA _ _⟩⟩, by simp [intOf]⟩
          · have F : Hid (Sm L L d2 c2 m2) := by
              cases d2 with
              | false => exact hidOf (sm_no H.out.1 L)
              | true =>
                have hn0 : n = 0 := by
                  by_cases h : 0 < n
                  · exact absurd ⟨rfl, h⟩ hdn
                  · omega
                have := H.out.1
                rw [hn0, List.drop_zero] at this
                exact hidOf this
            have HX : Hid (d2 = true → ¬ (0 < n)) := hidOf fun e h => hdn ⟨e, h⟩
            have HSame := hidOf (sm_same E3.out F.out)
            have hdd := HSame.out.1
            subst hdd
            clear hdn
            have a0 := H.out.2.1.a.c0
            have a1 := H.out.2.1.a.c1
            have la := H.out.2.1.a.lt
            have b0 := H.out.2.2.a.c0
            have b1 := H.out.2.2.a.c1
            have lb := H.out.2.2.a.lt
            cases d
            · by_cases hn0 : 0 < n
              · have hnz : (0 : Int) ≤ (n : Int) - 1 := by omega
                go_wp2_with (go_at_call 12; refine (lives_any _).mono ?_; rintro e w5 ⟨rfl, hb⟩; have B5 := hidOf (H.out.2.1.bel.trans (hb.mono H.out.2.1.bel.size)); clear hb)
                go_ret
                exact ⟨rfl, B5.out⟩
              · have hnz : ¬ (0 : Int) ≤ (n : Int) - 1 := by omega
                go_wp2_with (go_at_call 12; refine (lives_any _).mono ?_; rintro e w5 ⟨rfl, hb⟩; have B5 := hidOf (H.out.2.1.bel.trans (hb.mono H.out.2.1.bel.size)); clear hb)
                go_ret
                exact ⟨rfl, B5.out⟩
            · obtain ⟨rfl, rfl⟩ := HSame.out.2 rfl
              have hn0 : ¬ 0 < n := HX.out rfl
              have hnz : ¬ (0 : Int) ≤ (n : Int) - 1 := by omega
              go_wp2_with (go_at_call 12; refine (lives_any _).mono ?_; rintro e w5 ⟨rfl, hb⟩; have B5 := hidOf (H.out.2.1.bel.trans (hb.mono H.out.2.1.bel.size)); clear hb)
              go_ret
              exact ⟨rfl, B5.out⟩
end Go.Proofs.Ytnkdchajgpkmpaa
