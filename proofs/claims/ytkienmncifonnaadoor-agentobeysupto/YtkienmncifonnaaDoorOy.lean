/- obeys. -/
import Derived.Test.YtkienmncifonnaaDoorRn
import Derived.Test.YtkienmncifonnaaDoorRu
namespace Go.Proofs.YtkienmncifonnaaDoor
open Go.RowKit Go.Maps
structure Oby (R L : List Al) (E : List Int) : Prop where
  r : ∀ (k : Nat) (x : Al), L[k]? = some x → x.nd = 2 → x.ep = 5 → (¬ ∃ j : Nat, j ≠ k ∧ ∃ y : Al, L[j]? = some y ∧ y.id = x.id) → (∃ y ∈ R, y.id = x.id) → x.sp = false
  n : ∀ (k : Nat) (x : Al), L[k]? = some x → x.nd = 2 → x.ep = 5 → (¬ ∃ j : Nat, j ≠ k ∧ ∃ y : Al, L[j]? = some y ∧ y.id = x.id) → (¬ ∃ y ∈ R, y.id = x.id) → x.sp = true ∨ x.id ∈ E
theorem tw_step {L : List Al} {x y : Al} {k j : Nat} {t t' : Bool} (hy : L[j]? = some y) (h : t = true ↔ ∃ j' : Nat, j' < j ∧ j' ≠ k ∧ ∃ y : Al, L[j']? = some y ∧ y.id = x.id) (ht : t' = true ↔ t = true ∨ (j ≠ k ∧ y.id = x.id)) : t' = true ↔ ∃ j' : Nat, j' < j + 1 ∧ j' ≠ k ∧ ∃ y : Al, L[j']? = some y ∧ y.id = x.id := by
  rw [ht, h]
  constructor
  · rintro (⟨j', h1, h2⟩ | ⟨h1, h2⟩)
    · exact ⟨j', by omega, h2⟩
    · exact ⟨j, by omega, h1, y, hy, h2⟩
  · rintro ⟨j', h1, h2, z, h3, h4⟩
    by_cases e : j' = j
    · subst e
      rw [hy] at h3; cases h3
      exact .inr ⟨h2, h4⟩
    · exact .inl ⟨j', by omega, h2, z, h3, h4⟩
theorem rn_step {R : List Al} {y : Al} {k : Int} {j : Nat} {t t' : Bool} (hy : R[j]? = some y) (h : t = true ↔ ∃ y ∈ R.take j, y.id = k) (ht : t' = true ↔ t = true ∨ y.id = k) : t' = true ↔ ∃ y ∈ R.take (j + 1), y.id = k := by
  rw [ht, h, List.take_add_one, hy]
  simp only [Option.toList_some, List.mem_append, List.mem_singleton]
  constructor
  · rintro (⟨z, h1, h2⟩ | h2)
    · exact ⟨z, .inl h1, h2⟩
    · exact ⟨y, .inr rfl, h2⟩
  · rintro ⟨z, h1 | rfl, h2⟩
    · exact .inl ⟨z, h1, h2⟩
    · exact .inr h2
theorem ws_step {E : List Int} {y k : Int} {j : Nat} {t t' : Bool} (hy : E[j]? = some y) (h : t = true ↔ k ∈ E.take j) (ht : t' = true ↔ t = true ∨ y = k) : t' = true ↔ k ∈ E.take (j + 1) := by
  rw [ht, h, List.take_add_one, hy]
  simp only [Option.toList_some, List.mem_append, List.mem_singleton]
  constructor
  · rintro (h1 | h2)
    · exact .inl h1
    · exact .inr h2.symm
  · rintro (h1 | h2)
    · exact .inl h1
    · exact .inr h2.symm
theorem iC_at {D : Nat} {w : World} {a : Option Addr} {L : List Int} (h : RdR D 3 1 iC w a L) {i : Nat} {x : Int} (hx : L[i]? = some x) : ∃ b off, a = some ⟨b, off, none⟩ ∧ b < w.heap.size ∧ w.cell? ⟨b, off + i, none⟩ = some (.int .i64 x) := by
  obtain ⟨b, off, h1, h2, h3⟩ := RdR.at_ h hx
  have := h3 0 _ rfl
  rw [show off + i * 1 + 0 = off + i by omega] at this
  exact ⟨b, off, h1, h2, this⟩
set_option maxHeartbeats 4000000 in
set_option maxRecDepth 100000 in
theorem obeys_any (w : World) (ra la ea : Option Addr) (rc lc ec : Nat) (R L : List Al) (E : List Int) (hR : RdR w.heap.size 67 11 alC w ra R) (hL : RdR w.heap.size 67 11 alC w la L) (hE : RdR w.heap.size 3 1 iC w ea E)
    (hr : R.length ≤ 1099511627776) (hl : L.length ≤ 1099511627776) (he : E.length ≤ 1099511627776) (ho : Oby R L E) :
    Calls Tryd.prog 16 #[.slice ra R.length rc, .slice la L.length lc, .slice ea E.length ec] w fun e w' => e = .returned (.bool true) ∧ Below w.heap.size w w' := by
  have HO := hidOf ho
  have HR := hidOf hR
  have HL := hidOf hL
  have HE := hidOf hE
  clear hR hL hE ho
  go_enter Tryd.func16, Tryd.ntmps16
  go_wp2
  go_loopw [7] (fun i wr => ∃ k : Nat, k ≤ L.length ∧ i = .int .i64 (k : Int) ∧ Hid (Below w.heap.size w wr)) (fun i _ => L.length - (intOf i).toNat)
  case atStart => exact ⟨0, Nat.zero_le _, rfl, hidOf (Below.refl _ _)⟩
  case round =>
    obtain ⟨k, hk, rfl, HB⟩ := hrel
    obtain ⟨wo, hwo⟩ : ∃ y, y = wr := ⟨_, rfl⟩
    subst hwo
    by_cases hlt : k < L.length
    · have hltz : (k : Int) < (L.length : Int) := by omega
      obtain ⟨x, hx⟩ : ∃ x, L[k]? = some x := ⟨_, List.getElem?_eq_getElem hlt⟩
      obtain ⟨b, off, hla, hbl, x0, x1, x2, x3, x4, x5, x6, x7, x8, x9, x10⟩ := al_at (HL.out.grow HB.out) hx
      subst hla
      have HX := hidOf hx
      have HB1 : Hid (Below w.heap.size w (wo.alloc (.cells #[.int .i64 x.id, .int .i64 x.jb, .int .i64 x.vr, .int .i64 x.gp, .int .i64 x.ix, .int .i64 x.nd, .int .i64 x.ep, .int .i64 x.c1, .int .i64 x.c2, .bool x.sp, .int .i64 x.st] 67))) := hidOf (HB.out.trans ((below1 wo _).mono HB.out.size))
      have HBX : Hid ((wo.alloc (.cells #[.int .i64 x.id, .int .i64 x.jb, .int .i64 x.vr, .int .i64 x.gp, .int .i64 x.ix, .int .i64 x.nd, .int .i64 x.ep, .int .i64 x.c1, .int .i64 x.c2, .bool x.sp, .int .i64 x.st] 67)).heap[wo.heap.size]? = some (.cells (alC x) 67 (0, 0))) := hidOf (heap_alloc_new wo _)
      clear hx
      go_wp2
      go_loopw [9, 10] (fun o i wz => ∃ (j : Nat) (t : Bool), j ≤ L.length ∧ i = .int .i64 (j : Int) ∧ o = .bool t ∧ Hid (t = true ↔ ∃ j', j' < j ∧ j' ≠ k ∧ ∃ y, L[j']? = some y ∧ y.id = x.id) ∧ Hid (Below w.heap.size w wz) ∧ Hid (wz.heap[wo.heap.size]? = some (.cells (alC x) 67 (0, 0)))) (fun _ i _ => L.length - (intOf i).toNat)
      case atStart => exact ⟨0, false, Nat.zero_le _, rfl, rfl, hidOf (by simp), HB1, HBX⟩
      case round =>
        obtain ⟨j, t, hj, rfl, rfl, HT, HBz, HXz⟩ := hrel
        obtain ⟨wz, hwz⟩ : ∃ y, y = wr := ⟨_, rfl⟩
        subst hwz
        by_cases hjt : j < L.length
        · have hjz : (j : Int) < (L.length : Int) := by omega
          obtain ⟨y, hy⟩ : ∃ y, L[j]? = some y := ⟨_, List.getElem?_eq_getElem hjt⟩
          obtain ⟨b2, off2, e2, hb2, y0, _⟩ := al_at (HL.out.grow HBz.out) hy
          cases e2
          have bx0 : wz.cell? ⟨wo.heap.size, 0, none⟩ = some (.int .i64 x.id) := (cell_of_row _ _ 0 _ 67 (0, 0) HXz.out).trans rfl
          have lbx : wo.heap.size < wz.heap.size := heap_lt HXz.out
          have HY := hidOf hy
          clear hy
          cases t with
          | true =>
            go_wp2
            go_region
            all_goals
              go_wp2
              go_roundw
              case rel => exact ⟨j + 1, true, by omega, by go_num, rfl, hidOf (tw_step (t := true) HY.out (by simpa using HT.out) (by simp)), hidOf HBz.out.drew, hidOf HXz.out⟩
              case measure => simp [intOf]; omega
          | false =>
            by_cases e1 : j = k
            · have e1b : ((j : Int) != (k : Int)) = false := by simp [e1]
              have HE1 := hidOf e1
              clear e1
              go_wp2
              go_region
              all_goals
                go_wp2
                go_roundw
                case rel => exact ⟨j + 1, false, by omega, by go_num, rfl, hidOf (tw_step HY.out HT.out (by simp [HE1.out])), hidOf HBz.out.drew, hidOf HXz.out⟩
                case measure => simp [intOf]; omega
            · have e1b : ((j : Int) != (k : Int)) = true := by
                have : (j : Int) ≠ (k : Int) := by omega
                simp [this]
              by_cases e3 : y.id = x.id
              · have e3b : (y.id == x.id) = true := by simp [e3]
                have HE1 := hidOf e1
                have HE3 := hidOf e3
                clear e1 e3
                go_wp2
                go_region
                all_goals
                  go_wp2
                  go_roundw
                  case rel => exact ⟨j + 1, true, by omega, by go_num, rfl, hidOf (tw_step HY.out HT.out (by simp [HE1.out, HE3.out])), hidOf HBz.out.drew, hidOf HXz.out⟩
                  case measure => simp [intOf]; omega
              · have e3b : (y.id == x.id) = false := by simp [e3]
                have HE1 := hidOf e1
                have HE3 := hidOf e3
                clear e1 e3
                go_wp2
                go_region
                all_goals
                  go_wp2
                  go_roundw
                  case rel => exact ⟨j + 1, false, by omega, by go_num, rfl, hidOf (tw_step HY.out HT.out (by simp [HE3.out])), hidOf HBz.out.drew, hidOf HXz.out⟩
                  case measure => simp [intOf]; omega
        · obtain rfl : j = L.length := by omega
          have hjz : ¬ (L.length : Int) < (L.length : Int) := by omega
          have bx5 : wz.cell? ⟨wo.heap.size, 5, none⟩ = some (.int .i64 x.nd) := (cell_of_row _ _ 5 _ 67 (0, 0) HXz.out).trans rfl
          have bx6 : wz.cell? ⟨wo.heap.size, 6, none⟩ = some (.int .i64 x.ep) := (cell_of_row _ _ 6 _ 67 (0, 0) HXz.out).trans rfl
          have lbx : wo.heap.size < wz.heap.size := heap_lt HXz.out
          by_cases e1 : x.nd = 2
          · have e1b : (x.nd != 2) = false := by simp [e1]
            have HND := hidOf e1
            clear e1
            by_cases e2 : x.ep = 5
            · have e2b : (x.ep != 5) = false := by simp [e2]
              have HEP := hidOf e2
              clear e2
              cases t with
              | true =>
                go_wp2
                go_roundw
                case rel => exact ⟨k + 1, by omega, by go_num, HBz⟩
                case measure => simp [intOf]; omega
              | false =>
                have HTW : Hid (¬ ∃ j : Nat, j ≠ k ∧ ∃ y : Al, L[j]? = some y ∧ y.id = x.id) := hidOf (by
                  rintro ⟨j', h1, y, h2, h3⟩
                  have := HT.out.2 ⟨j', (List.getElem?_eq_some_iff.1 h2).1, h1, y, h2, h3⟩
                  cases this)
                clear HT
                go_wp2
                go_loopw [11, 12] (fun o i wz => ∃ (j : Nat) (t : Bool), j ≤ R.length ∧ i = .int .i64 (j : Int) ∧ o = .bool t ∧ Hid (t = true ↔ ∃ y ∈ R.take j, y.id = x.id) ∧ Hid (Below w.heap.size w wz) ∧ Hid (wz.heap[wo.heap.size]? = some (.cells (alC x) 67 (0, 0)))) (fun _ i _ => R.length - (intOf i).toNat)
                case atStart => exact ⟨0, false, Nat.zero_le _, rfl, rfl, hidOf (by simp), HBz, HXz⟩
                case round =>
                  obtain ⟨j, t, hj, rfl, rfl, HT2, HBz, HXz⟩ := hrel
                  obtain ⟨wz, hwz⟩ : ∃ y, y = wr := ⟨_, rfl⟩
                  subst hwz
                  by_cases hjt : j < R.length
                  · have hjz : (j : Int) < (R.length : Int) := by omega
                    obtain ⟨y, hy⟩ : ∃ y, R[j]? = some y := ⟨_, List.getElem?_eq_getElem hjt⟩
                    obtain ⟨b2, off2, e2, hb2, y0, _⟩ := al_at (HR.out.grow HBz.out) hy
                    subst e2
                    have bx0 : wz.cell? ⟨wo.heap.size, 0, none⟩ = some (.int .i64 x.id) := (cell_of_row _ _ 0 _ 67 (0, 0) HXz.out).trans rfl
                    have lbx : wo.heap.size < wz.heap.size := heap_lt HXz.out
                    have HY := hidOf hy
                    clear hy
                    cases t with
                    | true =>
                      go_wp2
                      go_region
                      all_goals
                        go_wp2
                        go_roundw
                        case rel => exact ⟨j + 1, true, by omega, by go_num, rfl, hidOf (rn_step (t := true) HY.out (by simpa using HT2.out) (by simp)), hidOf HBz.out.drew, hidOf HXz.out⟩
                        case measure => simp [intOf]; omega
                    | false =>
                      by_cases e3 : y.id = x.id
                      · have e3b : (y.id == x.id) = true := by simp [e3]
                        have HE3 := hidOf e3
                        clear e3
                        go_wp2
                        go_region
                        all_goals
                          go_wp2
                          go_roundw
                          case rel => exact ⟨j + 1, true, by omega, by go_num, rfl, hidOf (rn_step HY.out HT2.out (by simp [HE3.out])), hidOf HBz.out.drew, hidOf HXz.out⟩
                          case measure => simp [intOf]; omega
                      · have e3b : (y.id == x.id) = false := by simp [e3]
                        have HE3 := hidOf e3
                        clear e3
                        go_wp2
                        go_region
                        all_goals
                          go_wp2
                          go_roundw
                          case rel => exact ⟨j + 1, false, by omega, by go_num, rfl, hidOf (rn_step HY.out HT2.out (by simp [HE3.out])), hidOf HBz.out.drew, hidOf HXz.out⟩
                          case measure => simp [intOf]; omega
                  · obtain rfl : j = R.length := by omega
                    have hjz : ¬ (R.length : Int) < (R.length : Int) := by omega
                    have HT3 := HT2
                    obtain ⟨t2, ht2⟩ : ∃ t2, t2 = t := ⟨_, rfl⟩
                    rw [← ht2] at HT3 ⊢
                    clear ht2 HT2 t
                    go_wp2
                    go_loopw [13, 14] (fun o i wz => ∃ (j : Nat) (t : Bool), j ≤ E.length ∧ i = .int .i64 (j : Int) ∧ o = .bool t ∧ Hid (t = true ↔ x.id ∈ E.take j) ∧ Hid (Below w.heap.size w wz) ∧ Hid (wz.heap[wo.heap.size]? = some (.cells (alC x) 67 (0, 0)))) (fun _ i _ => E.length - (intOf i).toNat)
                    case atStart => exact ⟨0, false, Nat.zero_le _, rfl, rfl, hidOf (by simp), HBz, HXz⟩
                    case round =>
                      obtain ⟨j, t, hj, rfl, rfl, HT2, HBz, HXz⟩ := hrel
                      obtain ⟨wz, hwz⟩ : ∃ y, y = wr := ⟨_, rfl⟩
                      subst hwz
                      by_cases hjt : j < E.length
                      · have hjz : (j : Int) < (E.length : Int) := by omega
                        obtain ⟨y, hy⟩ : ∃ y, E[j]? = some y := ⟨_, List.getElem?_eq_getElem hjt⟩
                        obtain ⟨b2, off2, e2, hb2, y0⟩ := iC_at (HE.out.grow HBz.out) hy
                        subst e2
                        have bx0 : wz.cell? ⟨wo.heap.size, 0, none⟩ = some (.int .i64 x.id) := (cell_of_row _ _ 0 _ 67 (0, 0) HXz.out).trans rfl
                        have lbx : wo.heap.size < wz.heap.size := heap_lt HXz.out
                        have HY := hidOf hy
                        clear hy
                        cases t with
                        | true =>
                          go_wp2
                          go_region
                          all_goals
                            go_wp2
                            go_roundw
                            case rel => exact ⟨j + 1, true, by omega, by go_num, rfl, hidOf (ws_step (t := true) HY.out (by simpa using HT2.out) (by simp)), hidOf HBz.out.drew, hidOf HXz.out⟩
                            case measure => simp [intOf]; omega
                        | false =>
                          by_cases e3 : y = x.id
                          · have e3b : (y == x.id) = true := by simp [e3]
                            have HE3 := hidOf e3
                            clear e3
                            go_wp2
                            go_region
                            all_goals
                              go_wp2
                              go_roundw
                              case rel => exact ⟨j + 1, true, by omega, by go_num, rfl, hidOf (ws_step HY.out HT2.out (by simp [HE3.out])), hidOf HBz.out.drew, hidOf HXz.out⟩
                              case measure => simp [intOf]; omega
                          · have e3b : (y == x.id) = false := by simp [e3]
                            have HE3 := hidOf e3
                            clear e3
                            go_wp2
                            go_region
                            all_goals
                              go_wp2
                              go_roundw
                              case rel => exact ⟨j + 1, false, by omega, by go_num, rfl, hidOf (ws_step HY.out HT2.out (by simp [HE3.out])), hidOf HBz.out.drew, hidOf HXz.out⟩
                              case measure => simp [intOf]; omega
                      · obtain rfl : j = E.length := by omega
                        have hjz : ¬ (E.length : Int) < (E.length : Int) := by omega
                        have bx9 : wz.cell? ⟨wo.heap.size, 9, none⟩ = some (.bool x.sp) := (cell_of_row _ _ 9 _ 67 (0, 0) HXz.out).trans rfl
                        have lbx : wo.heap.size < wz.heap.size := heap_lt HXz.out
                        have HF : Hid ((t2 = true → x.sp = false) ∧ (t2 = false → x.sp = true ∨ t = true)) := hidOf (by
                          have hT2 := HT3.out
                          have hT := HT2.out
                          rw [List.take_length] at hT2 hT
                          refine ⟨fun h => HO.out.r k x HX.out HND.out HEP.out HTW.out (hT2.1 h), fun h => ?_⟩
                          rcases HO.out.n k x HX.out HND.out HEP.out HTW.out (fun e => by rw [hT2.2 e] at h; cases h) with h | h
                          · exact .inl h
                          · exact .inr (hT.2 h))
                        cases t2 with
                        | true =>
                          have es : x.sp = false := HF.out.1 rfl
                          go_wp2
                          go_roundw
                          case rel => exact ⟨k + 1, by omega, by go_num, HBz⟩
                          case measure => simp [intOf]; omega
                        | false =>
                          cases t with
                          | true =>
                            obtain ⟨s, hs⟩ : ∃ s, s = x.sp := ⟨_, rfl⟩
                            rw [← hs] at bx9
                            clear hs HF
                            cases s
                            all_goals
                              go_wp2
                              go_roundw
                              case rel => exact ⟨k + 1, by omega, by go_num, HBz⟩
                              case measure => simp [intOf]; omega
                          | false =>
                            have es : x.sp = true := (HF.out.2 rfl).elim id (fun h => by cases h)
                            clear HF
                            go_wp2
                            go_roundw
                            case rel => exact ⟨k + 1, by omega, by go_num, HBz⟩
                            case measure => simp [intOf]; omega
            · have e2b : (x.ep != 5) = true := by simp [e2]
              clear e2
              go_wp2
              go_roundw
              case rel => exact ⟨k + 1, by omega, by go_num, HBz⟩
              case measure => simp [intOf]; omega
          · have e1b : (x.nd != 2) = true := by simp [e1]
            clear e1
            go_wp2
            go_roundw
            case rel => exact ⟨k + 1, by omega, by go_num, HBz⟩
            case measure => simp [intOf]; omega
    · obtain rfl : k = L.length := by omega
      have hltz : ¬ (L.length : Int) < (L.length : Int) := by omega
      go_wp2
      go_ret
      exact ⟨rfl, HB.out⟩
end Go.Proofs.YtkienmncifonnaaDoor
