/- HeapRest, walked. -/
import Derived.Test.YtmkbndiliehdcaaLsor
import Derived.Test.YtmkbndiliehdcaaHrmv
namespace Go.Proofs.Ytmkbndiliehdcaa
open Go.RowKit Go.Conc

theorem filter_psh (l : List Int) (k : Nat) (key : Int) : (psh l (k + 1)).filter (kp key) = (psh l k).filter (kp key) ++ (if nth l k = key then [] else [⟨nth l k, k, k⟩]) := by
  rw [psh_succ, List.filter_append]
  by_cases h : nth l k = key
  · rw [if_pos h]; simp [kp, h]
  · rw [if_neg h]; simp [kp, h]
/- behind k pops of what is left -/
structure Rst (l : List Int) (key : Int) (fl k : Nat) (M : List It) (lk lt : Int) : Prop where
  len : M.length + k = fl
  sub : ∀ a ∈ M, a ∈ psh l l.length ∧ a.k ≠ key
  last : 0 < k → ∀ a ∈ M, lk < a.k ∨ (lk = a.k ∧ lt < a.t)
theorem Rst.start (l : List Int) (key : Int) : Rst l key ((psh l l.length).filter (kp key)).length 0 ((psh l l.length).filter (kp key)) 0 0 :=
  ⟨rfl, fun a h => by have := List.mem_filter.1 h; exact ⟨this.1, by simpa [kp] using this.2⟩, fun h => absurd h (by omega)⟩
theorem Rst.next {l : List Int} {key : Int} {fl k : Nat} {M : List It} {lk lt : Int} (h : Rst l key fl k M lk lt) (hc : Came M) {j : Nat} (hm : MinOf M ⟨nth l j, j, j⟩) : Rst l key fl (k + 1) (M.erase ⟨nth l j, j, j⟩) (nth l j) j := by
  have hl := List.length_erase_of_mem hm.1
  have hp : 0 < M.length := List.length_pos_of_mem hm.1
  have hlen := h.len
  refine ⟨by omega, fun a ha => h.sub a (List.mem_of_mem_erase ha), fun _ a ha => ?_⟩
  have haM := List.mem_of_mem_erase ha
  have hle := hm.2 a haM
  obtain ⟨i, hi, rfl⟩ := psh_mem (h.sub a haM).1
  have hne : i ≠ j := fun e => by subst e; exact hc.not_mem _ ha
  unfold le at hle
  simp only at hle ⊢
  omega
theorem filter_twice (M : List It) (key : Int) : (M.filter (kp key)).filter (kp key) = M.filter (kp key) := List.filter_eq_self.2 fun _ ha => (List.mem_filter.1 ha).2
theorem res_end {w w5 : World} {M : List It} {n t : Nat} {r : Option Nat} {x y v j' : Value} (h : Hst w w5 M n r) (h2 : w5.heap[t]? = some (.cells #[x, y] 26 (0, 0))) (ht : w.heap.size ≤ t) :
    Hst w ((w5.setCell ⟨t, 0, none⟩ v).setCell ⟨t, 1, none⟩ j') M n r ∧ ((w5.setCell ⟨t, 0, none⟩ v).setCell ⟨t, 1, none⟩ j').heap[t]? = some (.cells #[v, j'] 26 (0, 0)) := by
  have a3 : (w5.setCell ⟨t, 0, none⟩ v).heap[t]? = some (.cells #[v, y] 26 (0, 0)) := by rw [heap_setCell_same _ t 0 _ 26 _ h2]; rfl
  refine ⟨(h.set h2 (by intro cs f; constructor <;> intro e <;> cases e) ht 0 _).set a3 (by intro cs f; constructor <;> intro e <;> cases e) ht 1 _, ?_⟩
  rw [heap_setCell_same _ t 1 _ 26 _ a3]; rfl

set_option maxHeartbeats 40000000 in
set_option maxRecDepth 100000 in
theorem lawRest (w : World) (a : Option Addr) (cap : Nat) (l : List Int) (hi : Ints w a l) (hl : l.length ≤ 1048576) (key : Int) (_hk : (Lit.int .i64 key).wf = true) : Calls Try.prog 6 #[.slice a l.length cap, .int .i64 key] w fun e w' => e = .returned (.bool true) ∧ Below w.heap.size w w' := by
  have HI := hidOf hi
  clear hi _hk
  go_enter Try.func6, Try.ntmps6
  go_wp2_with (first
    | (go_at_call 8; refine (new_any _).mono ?_; rintro e w1 ⟨rfl, rfl⟩)
    | (go_at_call 9; refine (known_any _).mono ?_; rintro e w1 ⟨rfl, hb1⟩; have H1 := hidOf (hst_new hb1); clear hb1))
  go_loopw [6, 7] (fun s6 i wr => ∃ (gn k : Nat) (r : Option Nat), s6 = .int .i64 (gn : Int) ∧ i = .int .i64 (k : Int) ∧ k ≤ l.length ∧ gn ≤ k ∧ Hid (gn + ((psh l k).filter (kp key)).length = k) ∧ Hid (Hst w wr (psh l k) k r)) (fun _ i _ => l.length - (intOf i).toNat)
  case atStart => exact ⟨0, 0, none, rfl, rfl, Nat.zero_le _, Nat.le_refl _, hidOf rfl, H1⟩
  case round =>
    obtain ⟨gn, k, r, rfl, rfl, hk, hgk, HG, H⟩ := hrel
    by_cases hlt : k < l.length
    · have hltz : (k : Int) < (l.length : Int) := by omega
      obtain ⟨b, off, hab, hbl, hcs⟩ := HI.out.at H.out.2.1 k hlt
      have c0 := hcs k hlt
      subst hab
      obtain ⟨v, hv⟩ : ∃ v, v = nth l k := ⟨_, rfl⟩
      rw [← hv] at c0
      have HV := hidOf hv
      have hps := push_any w.heap.size k (psh l k) r v k wr H.out.1 (by omega)
      rw [hv, ← psh_succ, ← hv] at hps
      have HPS := hidOf hps
      clear hps hv hcs
      by_cases hvk : v = key
      · subst hvk
        have HG2 : Hid (gn + 1 + ((psh l (k + 1)).filter (kp v)).length = k + 1) := by
          have h1 := HG.out
          rw [filter_psh, if_pos HV.out.symm, List.append_nil]
          exact hidOf (by omega)
        go_wp2_with (go_at_call 10; refine HPS.out.mono ?_; rintro e w2 ⟨rfl, r2, h2, n2⟩; have H2 := hidOf (H.out.ns h2 n2); have c1 : w2.cell? ⟨b, off + k, none⟩ = some (.int .i64 v) := (((n2.below H.out.2.1.size (Nat.le_refl _) H.out.2.2).cell (p := ⟨b, off + k, none⟩) hbl).trans c0); clear h2 n2)
        go_roundw
        case rel => exact ⟨gn + 1, k + 1, r2, by go_num, by go_num, by omega, by omega, HG2, H2⟩
        case measure => simp [intOf]; omega
      · have hvb : (v == key) = false := beq_eq_false_iff_ne.2 hvk
        have HG2 : Hid (gn + ((psh l (k + 1)).filter (kp key)).length = k + 1) := by
          have h1 := HG.out
          rw [filter_psh, if_neg (by rw [← HV.out]; exact hvk), List.length_append]
          exact hidOf (by simp; omega)
        go_wp2_with (go_at_call 10; refine HPS.out.mono ?_; rintro e w2 ⟨rfl, r2, h2, n2⟩; have H2 := hidOf (H.out.ns h2 n2); have c1 : w2.cell? ⟨b, off + k, none⟩ = some (.int .i64 v) := (((n2.below H.out.2.1.size (Nat.le_refl _) H.out.2.2).cell (p := ⟨b, off + k, none⟩) hbl).trans c0); clear h2 n2)
        go_roundw
        case rel => exact ⟨gn, k + 1, r2, by go_num, by go_num, by omega, by omega, HG2, H2⟩
        case measure => simp [intOf]; omega
    · obtain rfl : k = l.length := by omega
      have hltz : ¬ (l.length : Int) < (l.length : Int) := by omega
      obtain ⟨wq, hwq⟩ : ∃ x, x = wr := ⟨_, rfl⟩
      subst hwq
      obtain ⟨F, hF⟩ : ∃ F, F = (psh l l.length).filter (kp key) := ⟨_, rfl⟩
      have hgf : gn + F.length = l.length := by rw [hF]; exact HG.out
      have hq : wq.heap.size < (wq.alloc (.cells #[.int .i64 key, .int .i64 (-1)] 26)).heap.size := by simp
      have H5 := hidOf (H.out.grow ((Below.refl _ _).alloc (Nat.le_refl _) (.cells #[.int .i64 key, .int .i64 (-1)] 26)))
      have hrm := remove_any w.heap.size l.length (psh l l.length) r key (-1) _ H5.out.1 (by omega)
      rw [← hF, psh_length, show (l.length : Int) - (F.length : Int) = (gn : Int) by omega] at hrm
      have HRM := hidOf hrm
      have hrm2 := fun (w' : World) (h : HeapR w' w.heap.size F l.length r) => remove_any w.heap.size l.length F r key (-1) w' h (by omega)
      rw [show F.filter (kp key) = F by rw [hF]; exact filter_twice _ _] at hrm2
      simp only [Int.sub_self] at hrm2
      have HRM2 := hidOf hrm2
      have HF := hidOf hF
      have e1 : (l.length : Int) - (gn : Int) = (F.length : Int) := by omega
      clear hrm hrm2 hF
      go_wp2_with (first
        | (go_at_call 14; refine HRM.out.mono ?_; rintro e w2 ⟨rfl, h2, n2⟩; have H6 := hidOf (H5.out.ns h2 n2); have hx2 : w2.heap[wq.heap.size]? = some (.cells #[.int .i64 key, .int .i64 (-1)] 26 (0, 0)) := n2.other H5.out.1 (heap_alloc_new wq _) (by intro cs f; constructor <;> intro e <;> cases e); obtain ⟨x0, x1, _, _⟩ := res_cells hx2; clear h2 n2 HRM)
        | (go_at_call 18; refine (len_any w.heap.size l.length F r _ H6.out.1).mono ?_; rintro e w3 ⟨rfl, rfl⟩)
        | (go_at_call 14; refine (HRM2.out _ H6.out.1).mono ?_; rintro e w4 ⟨rfl, h4, n4⟩; have H7 := hidOf (H6.out.ns h4 n4); clear h4 n4))
      have hD : w.heap.size ≤ w4.heap.size := H7.out.2.1.size
      go_loopw [10] (fun i wr => ∃ (k : Nat) (M : List It) (lk lt : Int), i = .int .i64 (k : Int) ∧ k ≤ F.length ∧ Hid (Rst l key F.length k M lk lt) ∧ Hid (Hst w wr M l.length r ∧ wr.heap[w4.heap.size]? = some (.cells #[.int .i64 lk, .int .i64 lt] 26 (0, 0)))) (fun i _ => F.length - (intOf i).toNat)
      case atStart => exact ⟨0, F, 0, 0, rfl, Nat.zero_le _, by rw [HF.out]; exact hidOf (Rst.start l key), hidOf ⟨H7.out.grow ((Below.refl _ _).alloc (Nat.le_refl _) _), heap_alloc_new w4 _⟩⟩
      case round =>
        obtain ⟨k, M, lk, lt, rfl, hk, HS, HW⟩ := hrel
        by_cases hlt : k < F.length
        · have hltz2 : (k : Int) < (F.length : Int) := by omega
          have hM0 : M ≠ [] := fun e => by have := HS.out.len; subst e; simp at this; omega
          obtain ⟨m, hm⟩ := HW.out.1.1.min hM0
          obtain ⟨j, hj, hmj⟩ := psh_mem (HS.out.sub m hm.1).1
          have hmk := (HS.out.sub m hm.1).2
          subst hmj
          have HM := hidOf hm
          have hla := fun h0 => HS.out.last h0 _ hm.1
          obtain ⟨v, hv⟩ : ∃ v, v = nth l j := ⟨_, rfl⟩
          rw [← hv] at HM hla
          simp only at hla hmk
          rw [← hv] at hmk
          have HV := hidOf hv
          have hNX : Hid (Rst l key F.length (k + 1) (M.erase ⟨v, j, j⟩) v j) := by rw [hv]; exact HS.out.next HW.out.1.1.came.1 hm
          clear hm hv
          have HPP := hidOf (pop_min w.heap.size l.length M ⟨v, j, j⟩ r wr HW.out.1.1 HM.out (by omega))
          go_wp2_with (go_at_call 12; refine HPP.out.mono ?_; rintro e w5 ⟨rfl, h5, n5⟩; have H8 := hidOf (HW.out.1.ns h5 n5); have HB2 := hidOf (n5.other HW.out.1.1 HW.out.2 (by intro cs f; constructor <;> intro e <;> cases e)); clear h5 n5)
          obtain ⟨w6, hw6⟩ : ∃ x, x = w5.alloc (.cells #[.int .i64 v, .int .i64 j] 26) := ⟨_, rfl⟩
          have hBw : Below w5.heap.size w5 w6 := by rw [hw6]; exact (Below.refl _ _).alloc (Nat.le_refl _) _
          have H9 := hidOf (H8.out.grow hBw)
          have hx5 : w6.heap[w5.heap.size]? = some (.cells #[.int .i64 v, .int .i64 j] 26 (0, 0)) := by rw [hw6]; exact heap_alloc_new w5 _
          have hb2 : w6.heap[w4.heap.size]? = some (.cells #[.int .i64 lk, .int .i64 lt] 26 (0, 0)) := (hBw.block _ (heap_lt HB2.out)).trans HB2.out
          have hx4 : w5.heap.size ≠ w4.heap.size := by have := heap_lt HB2.out; omega
          rw [← hw6]
          clear hw6 hBw HB2
          obtain ⟨y0, y1, y2, y3⟩ := res_cells hb2
          obtain ⟨x0', x1', _, _⟩ := res_cells hx5
          obtain ⟨b, off, hab, _, hcs⟩ := HI.out.at H9.out.2.1 j hj
          subst hab
          have c0 := hcs j hj
          rw [← HV.out] at c0
          have hjz : (j : Int) < (l.length : Int) := by omega
          have hd0 : (v == key) = false := beq_eq_false_iff_ne.2 hmk
          have hd1 : decide ((j : Int) < 0) = false := decide_eq_false (by omega)
          have hd2 : decide ((l.length : Int) ≤ (j : Int)) = false := decide_eq_false (by omega)
          have HX5 := hidOf hx5
          have HB2 := hidOf hb2
          clear hx5 hb2 hcs hmk
          by_cases h0 : k = 0
          · subst h0
            have hz0 : decide ((0 : Int) < ((0 : Nat) : Int)) = false := by simp
            go_wp2
            go_quiet (fail)
            go_wp2
            go_roundw
            case rel => exact ⟨0 + 1, M.erase ⟨v, j, j⟩, v, j, by go_num, by omega, hNX, hidOf (res_end (w5 := w6.drewN nq) (H9.out.grow ⟨rfl, rfl, rfl, Nat.le_refl _, fun _ _ => rfl⟩) HB2.out hD)⟩
            case measure => simp [intOf]; omega
          · have hz0 : (0 : Int) < (k : Int) := by omega
            have hz1 : 0 < k := by omega
            rcases hla (by omega) with hA | ⟨hA, hA2⟩
            · have hA1 : decide (v < lk) = false := decide_eq_false (by omega)
              have hA2 : (v == lk) = false := beq_eq_false_iff_ne.2 (by omega)
              clear hla
              go_wp2
              go_quiet (fail)
              go_wp2
              go_roundw
              case rel => exact ⟨k + 1, M.erase ⟨v, j, j⟩, v, j, by go_num, by omega, hNX, hidOf (res_end (w5 := w6.drewN nq) (H9.out.grow ⟨rfl, rfl, rfl, Nat.le_refl _, fun _ _ => rfl⟩) HB2.out hD)⟩
              case measure => simp [intOf]; omega
            · subst hA
              have hA1 : decide (lk < lk) = false := decide_eq_false (by omega)
              have hA3 : decide ((j : Int) ≤ lt) = false := decide_eq_false (by omega)
              clear hla
              go_wp2
              go_quiet (fail)
              go_wp2
              go_roundw
              case rel => exact ⟨k + 1, M.erase ⟨lk, j, j⟩, lk, j, by go_num, by omega, hNX, hidOf (res_end (w5 := w6.drewN nq) (H9.out.grow ⟨rfl, rfl, rfl, Nat.le_refl _, fun _ _ => rfl⟩) HB2.out hD)⟩
              case measure => simp [intOf]; omega
        · obtain rfl : k = F.length := by omega
          have hM0 : M = [] := by have := HS.out.len; exact List.eq_nil_of_length_eq_zero (by omega)
          subst hM0
          have hltz2 : ¬ (F.length : Int) < (F.length : Int) := by omega
          go_wp2_with (go_at_call 12; refine (pop_nil w.heap.size l.length r _ HW.out.1.1).mono ?_; rintro e w5 ⟨rfl, hb5⟩; have H8 := hidOf (HW.out.1.grow hb5); clear hb5)
          go_ret
          exact ⟨rfl, (H8.out.grow ((Below.refl _ _).alloc (Nat.le_refl _) _)).2.1⟩

end Go.Proofs.Ytmkbndiliehdcaa
