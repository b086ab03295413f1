/- slices.DeleteFunc at the items, with the closures of Ack and Update. -/
import Derived.Test.YtndomlbjdppckaaBdb
namespace Go.Proofs.Ytndomlbjdppckaa
open Go.RowKit
variable {D : Nat}
set_option maxHeartbeats 4000000 in
set_option maxRecDepth 100000 in
theorem idx33_any (q : Nat) (v : Value) (L : List (Nat × Itm)) (P : Nat × Itm → Bool) (K : Nat) (w : World) (hr : w.ownsRow 0 55 1 v L.length (ptrs L)) (hF : FI P L K)
    (hP : ∀ (W : World) (x : Nat × Itm), Below w.heap.size w W → x ∈ L → Calls Try.prog 33 #[.pointer (some ⟨x.1, 0, none⟩), .pointer (some ⟨q, 0, none⟩)] W fun e W' => e = .returned (.bool (P x)) ∧ Below W.heap.size W W') :
    Calls Try.prog 36 #[v, .func (.func 33) #[] #[.pointer (some ⟨q, 0, none⟩)]] w fun e w' => e = .returned (.int .i64 (if K < L.length then (K : Int) else -1)) ∧ Below w.heap.size w w' := by
  have hlm : L.length ≤ maxLen := by
    rcases hr.2 with ⟨rfl, e⟩ | ⟨g, cap, cur, rfl, _, _, h1, h2, _⟩
    · rw [e]; exact Nat.zero_le _
    · exact Nat.le_trans h1 h2
  unfold maxLen at hlm
  obtain ⟨a, cap, rfl⟩ : ∃ a cap, v = .slice a L.length cap := by
    rcases hr.2 with ⟨rfl, e⟩ | ⟨g, cap, cur, rfl, _⟩
    · exact ⟨none, 0, by rw [e]⟩
    · exact ⟨_, cap, rfl⟩
  have HR := hidOf hr
  have HF := hidOf hF
  have HP := hidOf hP
  have hKl := hF.le
  clear hr hF hP
  go_enter Try.func36, Try.ntmps36
  go_wp2
  go_loopw [8] (fun i wr => ∃ (k : Nat), i = .int .i64 (k : Int) ∧ k ≤ K ∧ Hid (Below w.heap.size w wr)) (fun i _ => K + 1 - (intOf i).toNat)
  case atStart => exact ⟨0, rfl, Nat.zero_le _, hidOf (Below.refl _ _)⟩
  case round =>
    obtain ⟨k, rfl, hk, HB⟩ := hrel
    by_cases hlt : k < L.length
    · have hltz : (k : Int) < (L.length : Int) := by omega
      obtain ⟨x, hx⟩ : ∃ x, L[k]? = some x := ⟨L[k], List.getElem?_eq_getElem hlt⟩
      have hRr := own_keepT (D := 0) (T := []) HR.out (FrT.of_below HB.out) (by simp)
      obtain ⟨g, cap', hv, hgl, hcc⟩ := row_at hRr k hlt
      have a0 := hcc _ (ptrs_get hx)
      have HC := hidOf (HP.out wr x HB.out (List.mem_of_getElem? hx))
      have HX := hidOf hx
      obtain ⟨rfl, rfl⟩ : a = some ⟨g, 0, none⟩ ∧ cap = cap' := by cases hv; exact ⟨rfl, rfl⟩
      simp only [ptr] at a0
      clear hRr hv hcc hx
      by_cases hkN : k = K
      · subst hkN
        have hkk : P x = true := HF.out.hit x HX.out
        rw [hkk] at HC
        clear hkk
        go_wp2_with (go_at_call 33; refine HC.out.mono ?_; rintro e w2 ⟨rfl, hb2⟩)
        go_ret
        (try rw [if_pos hlt])
        exact ⟨rfl, HB.out.trans (hb2.mono HB.out.size)⟩
      · have hkk : P x = false := HF.out.miss k x (by omega) HX.out
        rw [hkk] at HC
        clear hkk
        go_wp2_with (go_at_call 33; refine HC.out.mono ?_; rintro e w2 ⟨rfl, hb2⟩)
        go_roundw
        case rel => exact ⟨k + 1, by go_num, by omega, hidOf (HB.out.trans (hb2.mono HB.out.size))⟩
        case measure => simp [intOf]; omega
    · have hltz : ¬ (k : Int) < (L.length : Int) := by omega
      go_wp2
      go_ret
      (try rw [if_neg (by omega)])
      exact ⟨rfl, HB.out⟩

set_option maxHeartbeats 4000000 in
set_option maxRecDepth 100000 in
theorem del33_any (q : Nat) (v : Value) (L : List (Nat × Itm)) (P : Nat × Itm → Bool) (w : World) (hr : w.ownsRow 0 55 1 v L.length (ptrs L))
    (hP : ∀ (W : World) (x : Nat × Itm), RSo w W v.ownBlock → x ∈ L → Calls Try.prog 33 #[.pointer (some ⟨x.1, 0, none⟩), .pointer (some ⟨q, 0, none⟩)] W fun e W' => e = .returned (.bool (P x)) ∧ Below W.heap.size W W') :
    Calls Try.prog 25 #[v, .func (.func 33) #[] #[.pointer (some ⟨q, 0, none⟩)]] w fun e w' => ∃ v', e = .returned v' ∧ w'.ownsRow 0 55 1 v' (L.filter (fun x => !P x)).length (ptrs (L.filter (fun x => !P x))) ∧ v'.ownBlock = v.ownBlock ∧ RSo w w' v.ownBlock := by
  obtain ⟨K, hF⟩ := FI.ex P L
  have HIX := hidOf (idx33_any q v L P K w hr hF (fun W x hW hx => hP W x (RSo.of_below hW) hx))
  have hKl := hF.le
  by_cases hK : K < L.length
  · simp only [if_pos hK] at HIX
    obtain ⟨g, cap, rfl, hR⟩ := rowV_of hr (by omega)
    have hlm : L.length ≤ maxLen := by have := hR.lec; have := hR.capm; rw [ptrs_length] at *; omega
    unfold maxLen at hlm
    have hcl : L.length ≤ cap := by have := hR.lec; rw [ptrs_length] at this; exact this
    have HKI := hidOf (KI.start hK hF)
    have HR := hidOf hR
    have HP := hidOf hP
    have hne1 : ((K : Int) == -1) = false := beq_eq_false_iff_ne.2 (by omega)
    clear hR hr hF hP
    go_enter Try.func25, Try.ntmps25
    go_wp2_with (go_at_call 36; refine HIX.out.mono ?_; rintro e w1 ⟨rfl, hb1⟩; have HB1 := hidOf hb1; clear hb1)
    go_loopw [5, 6] (fun si sj wr => ∃ (i j : Nat) (C : List Value), si = .int .i64 (i : Int) ∧ sj = .int .i64 (j : Int) ∧ i < j ∧ j ≤ L.length ∧ Hid (KI P L j i C ∧ RowV wr g cap C ∧ RSo w wr (some g))) (fun _ sj _ => L.length - (intOf sj).toNat)
    case atStart => exact ⟨K, K + 1, ptrs L, rfl, by go_num, by omega, by omega, hidOf ⟨HKI.out, HR.out.kept (HB1.out.block g HR.out.lt), RSo.of_below HB1.out⟩⟩
    case round =>
      obtain ⟨i, j, C, rfl, rfl, hij, hjl, H⟩ := hrel
      have hClen : C.length = L.length := H.out.1.len
      have HCL := hidOf hClen
      clear hClen
      by_cases hlt : j < L.length
      · have hltz : (j : Int) < (L.length : Int) := by omega
        have hiz : (i : Int) < (L.length : Int) := by omega
        obtain ⟨x, hx⟩ : ∃ x, L[j]? = some x := ⟨L[j], List.getElem?_eq_getElem hlt⟩
        have a0 : wr.cell? ⟨g, j, none⟩ = some (.pointer (some ⟨x.1, 0, none⟩)) := H.out.2.1.cell j _ ((H.out.1.high j (Nat.le_refl _)).trans (ptrs_get hx))
        have HC := hidOf (HP.out wr x H.out.2.2 (List.mem_of_getElem? hx))
        have HX := hidOf hx
        have hgl : g < wr.heap.size := H.out.2.1.lt
        clear hx
        cases hkk : P x with
        | true =>
          have HKK := hidOf hkk
          rw [hkk] at HC
          clear hkk
          go_wp2_with (go_at_call 33; refine HC.out.mono ?_; rintro e w2 ⟨rfl, hb2⟩; have HB2 := hidOf hb2; clear hb2)
          go_roundw
          case rel => exact ⟨i, j + 1, C, rfl, by go_num, by omega, by omega, hidOf ⟨H.out.1.drop HX.out HKK.out, H.out.2.1.kept (HB2.out.block g hgl), H.out.2.2.trans (RSo.of_below HB2.out)⟩⟩
          case measure => simp [intOf]; omega
        | false =>
          have HKK := hidOf hkk
          rw [hkk] at HC
          clear hkk
          go_wp2_with (go_at_call 33; refine HC.out.mono ?_; rintro e w2 ⟨rfl, hb2⟩; have hr2 : RowV w2 g cap C := H.out.2.1.kept (hb2.block g hgl); obtain ⟨old, i0⟩ := hr2.some i (by rw [HCL.out]; omega); have zg : ∀ y, w2.frozen? ⟨g, y, none⟩ = false := (fun y => hr2.frozen y); have HR2 := hidOf hr2; have HB2 := hidOf hb2; clear hb2 hr2)
          go_roundw
          case rel => exact ⟨i + 1, j + 1, C.set i (ptr x.1), by go_num, by go_num, by omega, by omega, hidOf ⟨H.out.1.keep HX.out HKK.out, HR2.out.set i (by rw [HCL.out]; omega) x.1, (H.out.2.2.trans (RSo.of_below HB2.out)).set i _⟩⟩
          case measure => simp [intOf]; omega
      · obtain rfl : j = L.length := by omega
        have hltz : ¬ (L.length : Int) < (L.length : Int) := by omega
        have hiz : (i : Int) ≤ (L.length : Int) := by omega
        have hic : (i : Int) ≤ (cap : Int) := by omega
        obtain ⟨w3, hcl3, hr3, hs3⟩ := run_clear1 wr g cap i (L.length - i) C H.out.2.1 (by rw [HCL.out]; omega) (by omega)
        obtain ⟨d1, d2⟩ := H.out.1.done
        rw [d1] at hr3
        have HR3 := hidOf hr3
        have HS3 := hidOf hs3
        have HD := hidOf d2
        clear hr3 hs3 d1 d2
        go_wp2
        go_ret
        refine ⟨_, rfl, ?_, rfl, H.out.2.2.trans HS3.out⟩
        have h9 := HR3.out.own
        rw [ptrs_length, ← HD.out] at h9
        rw [← HD.out]
        exact h9
  · simp only [if_neg hK] at HIX
    have e : L.filter (fun x => !P x) = L := List.filter_eq_self.2 fun a ha => by
      obtain ⟨x, hx⟩ := List.mem_iff_getElem?.1 ha
      have hxl := (List.getElem?_eq_some_iff.1 hx).1
      rw [hF.miss x a (by omega) hx]; rfl
    rw [e]
    have HR := hidOf hr
    have hlm : L.length ≤ maxLen := by
      rcases hr.2 with ⟨rfl, e⟩ | ⟨g, cap, cur, rfl, _, _, h1, h2, _⟩
      · rw [e]; exact Nat.zero_le _
      · exact Nat.le_trans h1 h2
    clear hr hF hP e
    go_enter Try.func25, Try.ntmps25
    go_wp2_with (go_at_call 36; refine HIX.out.mono ?_; rintro e w1 ⟨rfl, hb1⟩; have HB1 := hidOf hb1; clear hb1)
    go_ret
    exact ⟨v, rfl, own_keepT (D := 0) (T := []) HR.out (FrT.of_below HB1.out) (by simp), rfl, RSo.of_below HB1.out⟩
set_option maxHeartbeats 4000000 in
set_option maxRecDepth 100000 in
theorem idx26_any (q : Nat) (v : Value) (L : List (Nat × Itm)) (P : Nat × Itm → Bool) (K : Nat) (w : World) (hr : w.ownsRow 0 55 1 v L.length (ptrs L)) (hF : FI P L K)
    (hP : ∀ (W : World) (x : Nat × Itm), Below w.heap.size w W → x ∈ L → Calls Try.prog 26 #[.pointer (some ⟨x.1, 0, none⟩), .pointer (some ⟨q, 0, none⟩)] W fun e W' => e = .returned (.bool (P x)) ∧ Below W.heap.size W W') :
    Calls Try.prog 36 #[v, .func (.func 26) #[] #[.pointer (some ⟨q, 0, none⟩)]] w fun e w' => e = .returned (.int .i64 (if K < L.length then (K : Int) else -1)) ∧ Below w.heap.size w w' := by
  have hlm : L.length ≤ maxLen := by
    rcases hr.2 with ⟨rfl, e⟩ | ⟨g, cap, cur, rfl, _, _, h1, h2, _⟩
    · rw [e]; exact Nat.zero_le _
    · exact Nat.le_trans h1 h2
  unfold maxLen at hlm
  obtain ⟨a, cap, rfl⟩ : ∃ a cap, v = .slice a L.length cap := by
    rcases hr.2 with ⟨rfl, e⟩ | ⟨g, cap, cur, rfl, _⟩
    · exact ⟨none, 0, by rw [e]⟩
    · exact ⟨_, cap, rfl⟩
  have HR := hidOf hr
  have HF := hidOf hF
  have HP := hidOf hP
  have hKl := hF.le
  clear hr hF hP
  go_enter Try.func36, Try.ntmps36
  go_wp2
  go_loopw [8] (fun i wr => ∃ (k : Nat), i = .int .i64 (k : Int) ∧ k ≤ K ∧ Hid (Below w.heap.size w wr)) (fun i _ => K + 1 - (intOf i).toNat)
  case atStart => exact ⟨0, rfl, Nat.zero_le _, hidOf (Below.refl _ _)⟩
  case round =>
    obtain ⟨k, rfl, hk, HB⟩ := hrel
    by_cases hlt : k < L.length
    · have hltz : (k : Int) < (L.length : Int) := by omega
      obtain ⟨x, hx⟩ : ∃ x, L[k]? = some x := ⟨L[k], List.getElem?_eq_getElem hlt⟩
      have hRr := own_keepT (D := 0) (T := []) HR.out (FrT.of_below HB.out) (by simp)
      obtain ⟨g, cap', hv, hgl, hcc⟩ := row_at hRr k hlt
      have a0 := hcc _ (ptrs_get hx)
      have HC := hidOf (HP.out wr x HB.out (List.mem_of_getElem? hx))
      have HX := hidOf hx
      obtain ⟨rfl, rfl⟩ : a = some ⟨g, 0, none⟩ ∧ cap = cap' := by cases hv; exact ⟨rfl, rfl⟩
      simp only [ptr] at a0
      clear hRr hv hcc hx
      by_cases hkN : k = K
      · subst hkN
        have hkk : P x = true := HF.out.hit x HX.out
        rw [hkk] at HC
        clear hkk
        go_wp2_with (go_at_call 26; refine HC.out.mono ?_; rintro e w2 ⟨rfl, hb2⟩)
        go_ret
        (try rw [if_pos hlt])
        exact ⟨rfl, HB.out.trans (hb2.mono HB.out.size)⟩
      · have hkk : P x = false := HF.out.miss k x (by omega) HX.out
        rw [hkk] at HC
        clear hkk
        go_wp2_with (go_at_call 26; refine HC.out.mono ?_; rintro e w2 ⟨rfl, hb2⟩)
        go_roundw
        case rel => exact ⟨k + 1, by go_num, by omega, hidOf (HB.out.trans (hb2.mono HB.out.size))⟩
        case measure => simp [intOf]; omega
    · have hltz : ¬ (k : Int) < (L.length : Int) := by omega
      go_wp2
      go_ret
      (try rw [if_neg (by omega)])
      exact ⟨rfl, HB.out⟩

set_option maxHeartbeats 4000000 in
set_option maxRecDepth 100000 in
theorem del26_any (q : Nat) (v : Value) (L : List (Nat × Itm)) (P : Nat × Itm → Bool) (w : World) (hr : w.ownsRow 0 55 1 v L.length (ptrs L))
    (hP : ∀ (W : World) (x : Nat × Itm), RSo w W v.ownBlock → x ∈ L → Calls Try.prog 26 #[.pointer (some ⟨x.1, 0, none⟩), .pointer (some ⟨q, 0, none⟩)] W fun e W' => e = .returned (.bool (P x)) ∧ Below W.heap.size W W') :
    Calls Try.prog 25 #[v, .func (.func 26) #[] #[.pointer (some ⟨q, 0, none⟩)]] w fun e w' => ∃ v', e = .returned v' ∧ w'.ownsRow 0 55 1 v' (L.filter (fun x => !P x)).length (ptrs (L.filter (fun x => !P x))) ∧ v'.ownBlock = v.ownBlock ∧ RSo w w' v.ownBlock := by
  obtain ⟨K, hF⟩ := FI.ex P L
  have HIX := hidOf (idx26_any q v L P K w hr hF (fun W x hW hx => hP W x (RSo.of_below hW) hx))
  have hKl := hF.le
  by_cases hK : K < L.length
  · simp only [if_pos hK] at HIX
    obtain ⟨g, cap, rfl, hR⟩ := rowV_of hr (by omega)
    have hlm : L.length ≤ maxLen := by have := hR.lec; have := hR.capm; rw [ptrs_length] at *; omega
    unfold maxLen at hlm
    have hcl : L.length ≤ cap := by have := hR.lec; rw [ptrs_length] at this; exact this
    have HKI := hidOf (KI.start hK hF)
    have HR := hidOf hR
    have HP := hidOf hP
    have hne1 : ((K : Int) == -1) = false := beq_eq_false_iff_ne.2 (by omega)
    clear hR hr hF hP
    go_enter Try.func25, Try.ntmps25
    go_wp2_with (go_at_call 36; refine HIX.out.mono ?_; rintro e w1 ⟨rfl, hb1⟩; have HB1 := hidOf hb1; clear hb1)
    go_loopw [5, 6] (fun si sj wr => ∃ (i j : Nat) (C : List Value), si = .int .i64 (i : Int) ∧ sj = .int .i64 (j : Int) ∧ i < j ∧ j ≤ L.length ∧ Hid (KI P L j i C ∧ RowV wr g cap C ∧ RSo w wr (some g))) (fun _ sj _ => L.length - (intOf sj).toNat)
    case atStart => exact ⟨K, K + 1, ptrs L, rfl, by go_num, by omega, by omega, hidOf ⟨HKI.out, HR.out.kept (HB1.out.block g HR.out.lt), RSo.of_below HB1.out⟩⟩
    case round =>
      obtain ⟨i, j, C, rfl, rfl, hij, hjl, H⟩ := hrel
      have hClen : C.length = L.length := H.out.1.len
      have HCL := hidOf hClen
      clear hClen
      by_cases hlt : j < L.length
      · have hltz : (j : Int) < (L.length : Int) := by omega
        have hiz : (i : Int) < (L.length : Int) := by omega
        obtain ⟨x, hx⟩ : ∃ x, L[j]? = some x := ⟨L[j], List.getElem?_eq_getElem hlt⟩
        have a0 : wr.cell? ⟨g, j, none⟩ = some (.pointer (some ⟨x.1, 0, none⟩)) := H.out.2.1.cell j _ ((H.out.1.high j (Nat.le_refl _)).trans (ptrs_get hx))
        have HC := hidOf (HP.out wr x H.out.2.2 (List.mem_of_getElem? hx))
        have HX := hidOf hx
        have hgl : g < wr.heap.size := H.out.2.1.lt
        clear hx
        cases hkk : P x with
        | true =>
          have HKK := hidOf hkk
          rw [hkk] at HC
          clear hkk
          go_wp2_with (go_at_call 26; refine HC.out.mono ?_; rintro e w2 ⟨rfl, hb2⟩; have HB2 := hidOf hb2; clear hb2)
          go_roundw
          case rel => exact ⟨i, j + 1, C, rfl, by go_num, by omega, by omega, hidOf ⟨H.out.1.drop HX.out HKK.out, H.out.2.1.kept (HB2.out.block g hgl), H.out.2.2.trans (RSo.of_below HB2.out)⟩⟩
          case measure => simp [intOf]; omega
        | false =>
          have HKK := hidOf hkk
          rw [hkk] at HC
          clear hkk
          go_wp2_with (go_at_call 26; refine HC.out.mono ?_; rintro e w2 ⟨rfl, hb2⟩; have hr2 : RowV w2 g cap C := H.out.2.1.kept (hb2.block g hgl); obtain ⟨old, i0⟩ := hr2.some i (by rw [HCL.out]; omega); have zg : ∀ y, w2.frozen? ⟨g, y, none⟩ = false := (fun y => hr2.frozen y); have HR2 := hidOf hr2; have HB2 := hidOf hb2; clear hb2 hr2)
          go_roundw
          case rel => exact ⟨i + 1, j + 1, C.set i (ptr x.1), by go_num, by go_num, by omega, by omega, hidOf ⟨H.out.1.keep HX.out HKK.out, HR2.out.set i (by rw [HCL.out]; omega) x.1, (H.out.2.2.trans (RSo.of_below HB2.out)).set i _⟩⟩
          case measure => simp [intOf]; omega
      · obtain rfl : j = L.length := by omega
        have hltz : ¬ (L.length : Int) < (L.length : Int) := by omega
        have hiz : (i : Int) ≤ (L.length : Int) := by omega
        have hic : (i : Int) ≤ (cap : Int) := by omega
        obtain ⟨w3, hcl3, hr3, hs3⟩ := run_clear1 wr g cap i (L.length - i) C H.out.2.1 (by rw [HCL.out]; omega) (by omega)
        obtain ⟨d1, d2⟩ := H.out.1.done
        rw [d1] at hr3
        have HR3 := hidOf hr3
        have HS3 := hidOf hs3
        have HD := hidOf d2
        clear hr3 hs3 d1 d2
        go_wp2
        go_ret
        refine ⟨_, rfl, ?_, rfl, H.out.2.2.trans HS3.out⟩
        have h9 := HR3.out.own
        rw [ptrs_length, ← HD.out] at h9
        rw [← HD.out]
        exact h9
  · simp only [if_neg hK] at HIX
    have e : L.filter (fun x => !P x) = L := List.filter_eq_self.2 fun a ha => by
      obtain ⟨x, hx⟩ := List.mem_iff_getElem?.1 ha
      have hxl := (List.getElem?_eq_some_iff.1 hx).1
      rw [hF.miss x a (by omega) hx]; rfl
    rw [e]
    have HR := hidOf hr
    have hlm : L.length ≤ maxLen := by
      rcases hr.2 with ⟨rfl, e⟩ | ⟨g, cap, cur, rfl, _, _, h1, h2, _⟩
      · rw [e]; exact Nat.zero_le _
      · exact Nat.le_trans h1 h2
    clear hr hF hP e
    go_enter Try.func25, Try.ntmps25
    go_wp2_with (go_at_call 36; refine HIX.out.mono ?_; rintro e w1 ⟨rfl, hb1⟩; have HB1 := hidOf hb1; clear hb1)
    go_ret
    exact ⟨v, rfl, own_keepT (D := 0) (T := []) HR.out (FrT.of_below HB1.out) (by simp), rfl, RSo.of_below HB1.out⟩
end Go.Proofs.Ytndomlbjdppckaa
