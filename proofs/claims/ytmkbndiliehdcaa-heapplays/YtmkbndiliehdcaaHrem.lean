/- Remove: what slices.IndexFunc and slices.DeleteFunc leave of the row. -/
import Derived.Test.YtmkbndiliehdcaaHbox
import Derived.Deep.LoopGhost
import Derived.Deep.AppendSrc
namespace Go.Proofs.Ytmkbndiliehdcaa
open Go.RowKit

set_option maxHeartbeats 4000000 in
set_option maxRecDepth 100000 in
theorem index_any (g cap q N : Nat) (key t : Int) (L : List It) (w : World) (hR : RowR w g cap L) (hq : w.heap[q]? = some (.cells #[.int .i64 key, .int .i64 t] 26 (0, 0))) (hlm : L.length ≤ 1000000000000000)
    (hN : N ≤ L.length) (hne : ∀ j, j < N → (gt L j).k ≠ key) (hst : N < L.length → (gt L N).k = key) :
    Calls Try.prog 30 #[.slice (some ⟨g, 0, none⟩) L.length cap, .func (.func 27) #[] #[.pointer (some ⟨q, 0, none⟩)]] w fun e w' => e = .returned (.int .i64 (if N < L.length then (N : Int) else -1)) ∧ Below w.heap.size w w' := by
  have HR := hidOf hR
  have HQ := hidOf hq
  have HNE := hidOf hne
  have HST := hidOf hst
  clear hR hq hne hst
  go_enter Try.func30, Try.ntmps30
  go_wp2
  go_loopw [8] (fun i wr => ∃ (k : Nat), i = .int .i64 (k : Int) ∧ k ≤ N ∧ Hid (Below w.heap.size w wr)) (fun i _ => N + 1 - (intOf i).toNat)
  case atStart => exact ⟨0, rfl, Nat.zero_le _, hidOf (Below.refl _ _)⟩
  case round =>
    obtain ⟨k, rfl, hk, HB⟩ := hrel
    by_cases hlt : k < L.length
    · have hltz : (k : Int) < (L.length : Int) := by omega
      have hRr := HR.out.kept (HB.out.block g HR.out.lt)
      obtain ⟨a0, a1, a2⟩ := hRr.cells k hlt
      have hqr := (HB.out.block q (heap_lt HQ.out)).trans HQ.out
      obtain ⟨q0, q1, _, _⟩ := res_cells hqr
      have hql := heap_lt hqr
      obtain ⟨x, hx⟩ : ∃ x, x = gt L k := ⟨_, rfl⟩
      rw [← hx] at a0 a1 a2
      have HC := hidOf (removed_any x key t q wr q0 q1 hql)
      have HX := hidOf hx
      clear hRr hqr q0 q1 hx
      by_cases hkN : k = N
      · subst hkN
        have hkk : x.k = key := by rw [HX.out]; exact HST.out hlt
        have hd : decide (x.k = key) = true := decide_eq_true hkk
        rw [hd] at HC
        clear hd hkk
        go_wp2_with (go_at_call 27; refine HC.out.mono ?_; rintro e w2 ⟨rfl, hb2⟩)
        go_ret
        (try rw [if_pos hlt])
        exact ⟨rfl, HB.out.trans (hb2.mono HB.out.size)⟩
      · have hkk : x.k ≠ key := by rw [HX.out]; exact HNE.out k (by omega)
        have hd : decide (x.k = key) = false := decide_eq_false hkk
        rw [hd] at HC
        clear hd hkk
        go_wp2_with (go_at_call 27; refine HC.out.mono ?_; rintro e w2 ⟨rfl, hb2⟩)
        go_roundw
        case rel => exact ⟨k + 1, by go_num, by omega, hidOf (HB.out.trans (hb2.mono HB.out.size))⟩
        case measure => simp [intOf]; omega
    · have hltz : ¬ (k : Int) < (L.length : Int) := by omega
      go_wp2
      go_ret
      (try rw [if_neg (by omega)])
      exact ⟨rfl, HB.out⟩

set_option maxHeartbeats 4000000 in
theorem index_nil (f : Value) (w : World) : Calls Try.prog 30 #[.slice none 0 0, f] w fun e w' => e = .returned (.int .i64 (-1)) ∧ w' = w := by
  go_enter Try.func30, Try.ntmps30
  go_wp2
  go_loopw [8] (fun i wr => i = .int .i64 0 ∧ wr = w) (fun _ _ => 0)
  case atStart => exact ⟨rfl, rfl⟩
  case round =>
    obtain ⟨rfl, rfl⟩ := hrel
    go_wp2
    go_ret
    exact ⟨rfl, rfl⟩
set_option maxHeartbeats 4000000 in
theorem delete_nil (f : Value) (w : World) : Calls Try.prog 26 #[.slice none 0 0, f] w fun e w' => e = .returned (.slice none 0 0) ∧ w' = w := by
  go_enter Try.func26, Try.ntmps26
  go_wp2_with (go_at_call 30; refine (index_nil _ _).mono ?_; rintro e w2 ⟨rfl, rfl⟩)
  go_ret
  exact ⟨rfl, rfl⟩

/- what is kept -/
def kp (key : Int) (x : It) : Bool := decide (x.k ≠ key)
/- behind j items, i of which are kept -/
structure KI (key : Int) (L : List It) (j i : Nat) (C : List It) : Prop where
  len : C.length = L.length
  lt : i < j
  le : j ≤ L.length
  low : C.take i = (L.take j).filter (kp key)
  high : ∀ x, j ≤ x → x < L.length → gt C x = gt L x
theorem take_succ_gt {L : List It} {j : Nat} (h : j < L.length) : L.take (j + 1) = L.take j ++ [gt L j] := by
  rw [gt_eq h, List.take_add_one, List.getElem?_eq_getElem h]; rfl
theorem KI.start {key : Int} {L : List It} {i : Nat} (hi : i < L.length) (hk : (gt L i).k = key) (hne : ∀ j, j < i → (gt L j).k ≠ key) : KI key L (i + 1) i L := by
  refine ⟨rfl, by omega, hi, ?_, fun _ _ _ => rfl⟩
  rw [take_succ_gt hi, List.filter_append]
  have h1 : ([gt L i]).filter (kp key) = [] := by simp [kp, hk]
  have h2 : (L.take i).filter (kp key) = L.take i := List.filter_eq_self.2 fun a ha => by
    obtain ⟨x, hx, rfl⟩ := List.getElem_of_mem ha
    have hx2 : x < i := by simp at hx; omega
    have := hne x hx2
    rw [gt_eq (by omega)] at this
    simpa [kp] using this
  rw [h1, h2, List.append_nil]
theorem KI.keep {key : Int} {L C : List It} {j i : Nat} (h : KI key L j i C) (hj : j < L.length) (hk : (gt L j).k ≠ key) : KI key L (j + 1) (i + 1) (C.set i (gt L j)) := by
  have hlt := h.lt
  have hl := h.len
  refine ⟨by simpa using h.len, by omega, hj, ?_, fun x hx hx2 => ?_⟩
  · rw [take_succ_gt hj, List.filter_append, ← h.low]
    have h1 : ([gt L j]).filter (kp key) = [gt L j] := by simp [kp, hk]
    rw [h1, take_succ_gt (by simp; omega), gt_set _ _ _ _ (by omega), if_pos rfl, List.take_set_of_le (Nat.le_refl _)]
  · rw [gt_set _ _ _ _ (by omega), if_neg (by omega)]
    exact h.high x (by omega) hx2
theorem KI.drop {key : Int} {L C : List It} {j i : Nat} (h : KI key L j i C) (hj : j < L.length) (hk : (gt L j).k = key) : KI key L (j + 1) i C := by
  refine ⟨h.len, by have := h.lt; omega, hj, ?_, fun x hx hx2 => h.high x (by omega) hx2⟩
  rw [take_succ_gt hj, List.filter_append, ← h.low]
  have h1 : ([gt L j]).filter (kp key) = [] := by simp [kp, hk]
  rw [h1, List.append_nil]
theorem KI.done {key : Int} {L C : List It} {i : Nat} (h : KI key L L.length i C) : C.take i = L.filter (kp key) ∧ i = (L.filter (kp key)).length := by
  have h1 := h.low
  rw [List.take_length] at h1
  refine ⟨h1, ?_⟩
  rw [← h1]
  have := h.lt
  have := h.len
  simp
  omega

/- clear of the end of a row -/
theorem run_clear3 (w : World) (g cap i m : Nat) (C : List It) (hR : RowR w g cap C) (hm : i + m = C.length) (hp : 0 < m) : ∃ w', (∀ (ty : TypeId) (c : Nat), (Builtin.clear_ #[51] ty #[.slice (some ⟨g, i * 3, none⟩) m c]).run Try.prog w = .ok (.tuple #[]) w') ∧ RowR w' g cap (C.take i) ∧ RS w w' g := by
  obtain ⟨cur, hc, hs, h2⟩ := hR.at_
  have hl := hR.lec
  obtain ⟨zs, hzs⟩ : ∃ zs, zs = (Builtin.zeroCells (#[.int .i64 0, .int .i64 0, .int .i64 0] : Array Value) m).toList := ⟨_, rfl⟩
  have hzl : zs.length = m * 3 := by rw [hzs]; simp [Builtin.zeroCells]
  have hone : ∀ u ∈ zs, u.oneCell' = true := by
    intro u hu
    rw [hzs] at hu
    simp only [Builtin.zeroCells, Array.toList_map, List.mem_map] at hu
    obtain ⟨y, _, rfl⟩ := hu
    have h3 : y % 3 = 0 ∨ y % 3 = 1 ∨ y % 3 = 2 := by omega
    show ((#[.int .i64 0, .int .i64 0, .int .i64 0] : Array Value)[y % 3]!).oneCell' = true
    rcases h3 with e | e | e <;> (rw [e]; rfl)
  have hst := run_storeCells_at Try.prog g (i * 3) 55 zs 0 cur w hc (by rw [hzl]; omega) hone
  simp only [Nat.add_zero] at hst
  refine ⟨w.setRow g (cur.toList.take (i * 3) ++ zs ++ cur.toList.drop (i * 3 + zs.length)).toArray, ?_, ⟨by simp; omega, hR.capm, _, setRow_heap w g cur _ 55 _ hc, ?_, fun x hx => ?_⟩, ⟨rfl, rfl, rfl, by simp, fun k _ hk => setRow_other w g k _ hk⟩⟩
  · intro ty c
    obtain ⟨m', rfl⟩ : ∃ m', m = m' + 1 := ⟨m - 1, by omega⟩
    have hv : ∀ w, (zeroValue 55).run Try.prog w = .ok (.agg #[.int .i64 0, .int .i64 0, .int .i64 0]) w := Try.zeroValue55
    simp [Builtin.clear_, run_underlying Try.underlying51, hv, Value.cells, ← hzs, hst]
  · simp only [List.size_toArray, List.length_append, List.length_take, List.length_drop, Array.length_toList, hzl]
    omega
  · have hx' : x < i ∧ x < C.length := by simp at hx; omega
    have e : gt (C.take i) x = gt C x := by rw [gt_eq hx, gt_eq hx'.2, List.getElem_take]
    rw [e]
    obtain ⟨b0, b1, b2⟩ := h2 x hx'.2
    have hget : ∀ y, y < i * 3 → (cur.toList.take (i * 3) ++ zs ++ cur.toList.drop (i * 3 + zs.length)).toArray[y]? = cur[y]? := fun y hy => by
      rw [List.getElem?_toArray, List.append_assoc, List.getElem?_append_left (by simp; omega), List.getElem?_take, if_pos hy, Array.getElem?_toList]
    exact ⟨(hget _ (by omega)).trans b0, (hget _ (by omega)).trans b1, (hget _ (by omega)).trans b2⟩

theorem first_ex (P : Nat → Prop) [DecidablePred P] (n : Nat) : ∃ N, N ≤ n ∧ (∀ j, j < N → ¬ P j) ∧ (N < n → P N) := by
  induction n with
  | zero => exact ⟨0, Nat.le_refl _, fun j hj => by omega, fun h => by omega⟩
  | succ n ih =>
    obtain ⟨N, h1, h2, h3⟩ := ih
    by_cases hN : N < n
    · exact ⟨N, by omega, h2, fun _ => h3 hN⟩
    · have e : N = n := by omega
      subst e
      by_cases hp : P N
      · exact ⟨N, by omega, h2, fun _ => hp⟩
      · exact ⟨N + 1, Nat.le_refl _, fun j hj => by
          by_cases hj2 : j = N
          · subst hj2; exact hp
          · exact h2 j (by omega), fun h => by omega⟩

set_option maxHeartbeats 4000000 in
set_option maxRecDepth 100000 in
theorem delete_any (g cap q : Nat) (key t : Int) (L : List It) (w : World) (hR : RowR w g cap L) (hq : w.heap[q]? = some (.cells #[.int .i64 key, .int .i64 t] 26 (0, 0))) (hlm : L.length ≤ 1000000000000000) :
    Calls Try.prog 26 #[.slice (some ⟨g, 0, none⟩) L.length cap, .func (.func 27) #[] #[.pointer (some ⟨q, 0, none⟩)]] w fun e w' => e = .returned (.slice (some ⟨g, 0, none⟩) (L.filter (kp key)).length cap) ∧ RowR w' g cap (L.filter (kp key)) ∧ RS w w' g := by
  obtain ⟨N, hN1, hN2, hN3⟩ := first_ex (fun j => (gt L j).k = key) L.length
  have hqg : q ≠ g := fun e => by
    obtain ⟨cur, hc, _⟩ := hR.at_
    subst e
    injection Option.some.inj (hc.symm.trans hq) with _ e2
    exact absurd e2 (by decide)
  have HIX := hidOf (index_any g cap q N key t L w hR hq hlm hN1 hN2 hN3)
  have hcl : L.length ≤ cap := hR.lec
  by_cases hN : N < L.length
  · simp only [if_pos hN] at HIX
    have HKI := hidOf (KI.start hN (hN3 hN) hN2)
    have HR := hidOf hR
    have HQ := hidOf hq
    have hne1 : ((N : Int) == -1) = false := beq_eq_false_iff_ne.2 (by omega)
    clear hR hq hN2 hN3
    go_enter Try.func26, Try.ntmps26
    go_wp2_with (go_at_call 30; refine HIX.out.mono ?_; rintro e w1 ⟨rfl, hb1⟩; have HB1 := hidOf hb1; clear hb1)
    go_loopw [5, 6] (fun si sj wr => ∃ (i j : Nat) (C : List It), si = .int .i64 (i : Int) ∧ sj = .int .i64 (j : Int) ∧ i < j ∧ j ≤ L.length ∧ Hid (KI key L j i C ∧ RowR wr g cap C ∧ RS w wr g)) (fun _ sj _ => L.length - (intOf sj).toNat)
    case atStart => exact ⟨N, N + 1, L, rfl, by go_num, by omega, by omega, hidOf ⟨HKI.out, HR.out.kept (HB1.out.block g HR.out.lt), RS.of_below HB1.out⟩⟩
    case round =>
      obtain ⟨i, j, C, rfl, rfl, hij, hjl, H⟩ := hrel
      have hClen : C.length = L.length := H.out.1.len
      have HCL := hidOf hClen
      clear hClen
      by_cases hlt : j < L.length
      · have hltz : (j : Int) < (L.length : Int) := by omega
        have hiz : (i : Int) < (L.length : Int) := by omega
        obtain ⟨a0, a1, a2⟩ := H.out.2.1.cells j (by rw [HCL.out]; exact hlt)
        rw [H.out.1.high j (Nat.le_refl _) hlt] at a0 a1 a2
        obtain ⟨x, hx⟩ : ∃ x, x = gt L j := ⟨_, rfl⟩
        rw [← hx] at a0 a1 a2
        have hqr : wr.heap[q]? = some (.cells #[.int .i64 key, .int .i64 t] 26 (0, 0)) := (H.out.2.2.block q (heap_lt HQ.out) hqg).trans HQ.out
        have HC : Hid (∀ o : Obj, Calls Try.prog 27 #[.agg #[.int .i64 x.k, .int .i64 x.t, .int .i64 x.c], .pointer (some ⟨q, 0, none⟩)] (wr.alloc o) fun e w' => e = .returned (.bool (decide (x.k = key))) ∧ Below (wr.alloc o).heap.size (wr.alloc o) w') := hidOf fun o => by
          have h5 := (Below.heap_alloc wr o q (heap_lt hqr)).trans hqr
          obtain ⟨q0, q1, _, _⟩ := res_cells h5
          exact removed_any x key t q (wr.alloc o) q0 q1 (heap_lt h5)
        have HX := hidOf hx
        have hgl : g < wr.heap.size := H.out.2.1.lt
        clear hx hqr
        by_cases hkk : x.k = key
        · have hd : decide (x.k = key) = true := decide_eq_true hkk
          have HKK := hidOf hkk
          rw [hd] at HC
          clear hd hkk
          go_wp2_with (go_at_call 27; refine (HC.out _).mono ?_; rintro e w2 ⟨rfl, hb2⟩; have HB2 := hidOf hb2; clear hb2)
          go_roundw
          case rel => exact ⟨i, j + 1, C, rfl, by go_num, by omega, by omega, hidOf ⟨H.out.1.drop hlt (by rw [← HX.out]; exact HKK.out), H.out.2.1.kept ((HB2.out.block g (by simp; omega)).trans (Below.heap_alloc wr _ g hgl)), (H.out.2.2.trans (RS.of_below ((Below.refl _ _).alloc (Nat.le_refl _) _))).trans (RS.of_below HB2.out)⟩⟩
          case measure => simp [intOf]; omega
        · have hd : decide (x.k = key) = false := decide_eq_false hkk
          have HKK := hidOf hkk
          rw [hd] at HC
          clear hd hkk
          go_wp2_with (go_at_call 27; refine (HC.out _).mono ?_; rintro e w2 ⟨rfl, hb2⟩; have hv2 : w2.heap[wr.heap.size]? = some (.cells #[.int .i64 x.k, .int .i64 x.t, .int .i64 x.c] 55 (0, 0)) := (hb2.block _ (by simp)).trans (heap_alloc_new wr _); have v0 : w2.cell? ⟨wr.heap.size, 0, none⟩ = some (.int .i64 x.k) := (by rw [cell_of_row w2 _ 0 _ 55 (0, 0) hv2]; rfl); have v1 : w2.cell? ⟨wr.heap.size, 1, none⟩ = some (.int .i64 x.t) := (by rw [cell_of_row w2 _ 1 _ 55 (0, 0) hv2]; rfl); have v2 : w2.cell? ⟨wr.heap.size, 2, none⟩ = some (.int .i64 x.c) := (by rw [cell_of_row w2 _ 2 _ 55 (0, 0) hv2]; rfl); have hr2 : RowR w2 g cap C := H.out.2.1.kept ((hb2.block g (by simp; omega)).trans (Below.heap_alloc wr _ g hgl)); obtain ⟨i0, i1, i2⟩ := hr2.cells i (by rw [HCL.out]; omega); have zg : ∀ y, w2.frozen? ⟨g, y, none⟩ = false := (fun y => hr2.frozen y); have HR2 := hidOf hr2; have HB2 := hidOf hb2; clear hb2 hr2 hv2; generalize gt C i = old at i0 i1 i2)
          go_roundw
          case rel => exact ⟨i + 1, j + 1, C.set i x, by go_num, by go_num, by omega, by omega, hidOf ⟨by rw [HX.out]; exact H.out.1.keep hlt (by rw [← HX.out]; exact HKK.out), HR2.out.set3 i (by rw [HCL.out]; omega) x, ((H.out.2.2.trans (RS.of_below ((Below.refl _ _).alloc (Nat.le_refl _) _))).trans (RS.of_below HB2.out)).set3 i x⟩⟩
          case measure => simp [intOf]; omega
      · obtain rfl : j = L.length := by omega
        have hltz : ¬ (L.length : Int) < (L.length : Int) := by omega
        have hiz : (i : Int) ≤ (L.length : Int) := by omega
        have hic : (i : Int) ≤ (cap : Int) := by omega
        obtain ⟨w3, hcl3, hr3, hs3⟩ := run_clear3 wr g cap i (L.length - i) C H.out.2.1 (by rw [HCL.out]; omega) (by omega)
        obtain ⟨d1, d2⟩ := H.out.1.done
        rw [d1] at hr3
        have HR3 := hidOf hr3
        have HS3 := hidOf hs3
        have HD := hidOf d2
        clear hr3 hs3 d1 d2
        go_wp2
        go_ret
        exact ⟨by rw [← HD.out]; rfl, HR3.out, H.out.2.2.trans HS3.out⟩
  · simp only [if_neg hN] at HIX
    have e : L.filter (kp key) = L := List.filter_eq_self.2 fun a ha => by
      obtain ⟨x, hx, rfl⟩ := List.getElem_of_mem ha
      have := hN2 x (by omega)
      rw [gt_eq hx] at this
      simpa [kp] using this
    rw [e]
    have HR := hidOf hR
    clear hR hq hN2 hN3
    go_enter Try.func26, Try.ntmps26
    go_wp2_with (go_at_call 30; refine HIX.out.mono ?_; rintro e w1 ⟨rfl, hb1⟩)
    go_ret
    exact ⟨rfl, HR.out.kept (hb1.block g HR.out.lt), RS.of_below hb1⟩

end Go.Proofs.Ytmkbndiliehdcaa
