/- HeapSorts, walked. -/
import Derived.Test.YtmkbndiliehdcaaLpee
namespace Go.Proofs.Ytmkbndiliehdcaa
open Go.RowKit Go.Conc

/- which were seen -/
def bl (n : Nat) (f : Nat → Bool) : Array Value := ((List.range n).map fun j => Value.bool (f j)).toArray
theorem bl_get (n : Nat) (f : Nat → Bool) (j : Nat) (h : j < n) : (bl n f)[j]? = some (.bool (f j)) := by simp [bl, h]
theorem bl_set (n : Nat) (f : Nat → Bool) (j : Nat) : (bl n f).setIfInBounds j (.bool true) = bl n (fun i => if i = j then true else f i) := by
  apply Array.ext_getElem?
  intro i
  by_cases h : i = j
  · subst h
    by_cases hn : i < n
    · rw [Array.getElem?_setIfInBounds_self_of_lt (by simp [bl]; exact hn), bl_get _ _ _ hn]; simp
    · rw [Array.getElem?_eq_none (by simp [bl]; omega), Array.getElem?_eq_none (by simp [bl]; omega)]
  · rw [Array.getElem?_setIfInBounds_ne (Ne.symm h)]
    by_cases hn : i < n
    · rw [bl_get _ _ _ hn, bl_get _ _ _ hn]; simp [h]
    · rw [Array.getElem?_eq_none (by simp [bl]; omega), Array.getElem?_eq_none (by simp [bl]; omega)]
theorem info4 : (Try.prog.info? 4).map (fun i => (i.zero, i.size, i.bytes)) = some (some (.bool false), 1, 1) := by kernel_rfl
theorem mk_seen (n : Nat) (h : n ≤ 1048576) (w : World) : (Instr.makeSlice 42 (.int .i64 (n : Int)) (.int .i64 (n : Int))).run Try.prog w = .ok (.slice (some ⟨w.heap.size, 0, none⟩) n n) (w.alloc (.cells (bl n (fun _ => false)) 4)) := by
  obtain ⟨i0, hi, hz0, hz1, hz2⟩ := info_parts info4
  rw [run_makeSlice w 42 4 i0 (.bool false) (by kernel_rfl) hi hz0 .i64 .i64 n n (by omega) (by omega) (by rw [hz1]; omega) (by rw [hz2]; omega) (by omega), hz1]
  congr 4
  apply Array.ext_getElem?
  intro i
  by_cases h : i < n
  · simp [bl, madeCells, Value.cells, Nat.mod_one, h]
  · rw [Array.getElem?_eq_none (by simp [madeCells]; omega), Array.getElem?_eq_none (by simp [bl]; omega)]

theorem Hst.set {w wr : World} {M : List It} {n : Nat} {r : Option Nat} (h : Hst w wr M n r) {q : Nat} {o : Obj} (hq : wr.heap[q]? = some o) (ho : ∀ cs f, o ≠ .cells cs 53 f ∧ o ≠ .cells cs 55 f) (hl : w.heap.size ≤ q) (j : Nat) (u : Value) : Hst w (wr.setCell ⟨q, j, none⟩ u) M n r := by
  obtain ⟨⟨cs, h1⟩, h2⟩ := h.1.types
  have hp : w.heap.size ≠ q := fun e => by rw [e] at h1; rw [h1] at hq; exact (ho _ _).1 (Option.some.inj hq).symm
  refine ⟨h.1.kept (Below.heap_setCell wr ⟨q, j, none⟩ u _ hp) (fun k hk => Below.heap_setCell wr ⟨q, j, none⟩ u k (fun e => ?_)), h.2.1.setCell hl u, h.2.2⟩
  have e' : k = q := e
  obtain ⟨cs', h3⟩ := h2 k hk
  rw [e'] at h3
  rw [h3] at hq
  exact (ho _ _).2 (Option.some.inj hq).symm

/- behind k pops: what is left, what was seen, the last one -/
structure Sst (l : List Int) (k : Nat) (M : List It) (f : Nat → Bool) (lk lt : Int) : Prop where
  len : M.length + k = l.length
  sub : ∀ a ∈ M, a ∈ psh l l.length
  seen : ∀ j, (⟨nth l j, j, j⟩ : It) ∈ M → f j = false
  last : 0 < k → ∀ a ∈ M, lk < a.k ∨ (lk = a.k ∧ lt ≤ a.t)
theorem Sst.start (l : List Int) : Sst l 0 (psh l l.length) (fun _ => false) 0 0 :=
  ⟨by rw [psh_length]; rfl, fun _ h => h, fun _ _ => rfl, fun h => absurd h (by omega)⟩
theorem Came.not_mem {M : List It} (h : Came M) (m : It) : m ∉ M.erase m := by
  have hn : M.Nodup := List.Pairwise.imp (fun {a b} hab e => by rw [e] at hab; omega) h
  exact hn.not_mem_erase
theorem Sst.next {l : List Int} {k : Nat} {M : List It} {f : Nat → Bool} {lk lt : Int} (h : Sst l k M f lk lt) (hc : Came M) {j : Nat} (hm : MinOf M ⟨nth l j, j, j⟩) : Sst l (k + 1) (M.erase ⟨nth l j, j, j⟩) (fun i => if i = j then true else f i) (nth l j) j := by
  have hl := List.length_erase_of_mem hm.1
  have hp : 0 < M.length := List.length_pos_of_mem hm.1
  have hlen := h.len
  refine ⟨by omega, fun a ha => h.sub a (List.mem_of_mem_erase ha), fun i hi => ?_, fun _ a ha => ?_⟩
  · by_cases e : i = j
    · subst e; exact absurd hi (hc.not_mem _)
    · simp only [e, if_false]; exact h.seen i (List.mem_of_mem_erase hi)
  · have haM := List.mem_of_mem_erase ha
    have hle := hm.2 a haM
    obtain ⟨i, hi, rfl⟩ := psh_mem (h.sub a haM)
    unfold le at hle
    exact hle

theorem sor_end {w w5 : World} {M : List It} {n s t : Nat} {r : Option Nat} {f : Nat → Bool} {x y v j' : Value} (h : Hst w w5 M n r) (h1 : w5.heap[s]? = some (.cells (bl n f) 4 (0, 0))) (h2 : w5.heap[t]? = some (.cells #[x, y] 26 (0, 0))) (hs : w.heap.size ≤ s) (ht : w.heap.size ≤ t) (j : Nat) :
    Hst w (((w5.setCell ⟨s, j, none⟩ (.bool true)).setCell ⟨t, 0, none⟩ v).setCell ⟨t, 1, none⟩ j') M n r ∧ (((w5.setCell ⟨s, j, none⟩ (.bool true)).setCell ⟨t, 0, none⟩ v).setCell ⟨t, 1, none⟩ j').heap[s]? = some (.cells (bl n (fun i => if i = j then true else f i)) 4 (0, 0)) ∧
    (((w5.setCell ⟨s, j, none⟩ (.bool true)).setCell ⟨t, 0, none⟩ v).setCell ⟨t, 1, none⟩ j').heap[t]? = some (.cells #[v, j'] 26 (0, 0)) := by
  have hst : s ≠ t := fun e => by
    rw [e] at h1
    injection Option.some.inj (h1.symm.trans h2) with _ e2
    exact absurd e2 (by decide)
  have a1 : (w5.setCell ⟨s, j, none⟩ (.bool true)).heap[s]? = some (.cells (bl n (fun i => if i = j then true else f i)) 4 (0, 0)) := by rw [heap_setCell_same w5 s j _ 4 _ h1, bl_set]
  have a2 : (w5.setCell ⟨s, j, none⟩ (.bool true)).heap[t]? = some (.cells #[x, y] 26 (0, 0)) := (Below.heap_setCell w5 ⟨s, j, none⟩ _ t (Ne.symm hst)).trans h2
  have a3 : ((w5.setCell ⟨s, j, none⟩ (.bool true)).setCell ⟨t, 0, none⟩ v).heap[t]? = some (.cells #[v, y] 26 (0, 0)) := by rw [heap_setCell_same _ t 0 _ 26 _ a2]; rfl
  refine ⟨((h.set h1 (by intro cs f; constructor <;> intro e <;> cases e) hs j _).set a2 (by intro cs f; constructor <;> intro e <;> cases e) ht 0 _).set a3 (by intro cs f; constructor <;> intro e <;> cases e) ht 1 _, ?_, ?_⟩
  · rw [Below.heap_setCell _ ⟨t, 1, none⟩ _ s hst, Below.heap_setCell _ ⟨t, 0, none⟩ _ s hst]; exact a1
  · rw [heap_setCell_same _ t 1 _ 26 _ a3]; rfl

set_option maxHeartbeats 4000000 in
set_option maxRecDepth 100000 in
theorem lawSorts (w : World) (a : Option Addr) (cap : Nat) (l : List Int) (hi : Ints w a l) (hl : l.length ≤ 1048576) : Calls Try.prog 4 #[.slice a l.length cap] w fun e w' => e = .returned (.bool true) ∧ Below w.heap.size w w' := by
  have HI := hidOf hi
  have hmk := mk_seen l.length hl
  clear hi
  go_enter Try.func4, Try.ntmps4
  go_wp2_with (first
    | (go_at_call 8; refine (new_any _).mono ?_; rintro e w1 ⟨rfl, rfl⟩)
    | (go_at_call 9; refine (known_any _).mono ?_; rintro e w1 ⟨rfl, hb1⟩; have H1 := hidOf (hst_new hb1); clear hb1))
  go_loopw [4] (fun i wr => ∃ (k : Nat) (r : Option Nat), i = .int .i64 (k : Int) ∧ k ≤ l.length ∧ Hid (Hst w wr (psh l k) k r)) (fun i _ => l.length - (intOf i).toNat)
  case atStart => exact ⟨0, none, rfl, Nat.zero_le _, H1⟩
  case round =>
    obtain ⟨k, r, rfl, hk, H⟩ := hrel
    by_cases hlt : k < l.length
    · have hltz : (k : Int) < (l.length : Int) := by omega
      obtain ⟨b, off, hab, hbl, hcs⟩ := HI.out.at H.out.2.1 k hlt
      have c0 := hcs k hlt
      subst hab
      obtain ⟨v, hv⟩ : ∃ v, v = nth l k := ⟨_, rfl⟩
      rw [← hv] at c0
      have hps := push_any w.heap.size k (psh l k) r v k wr H.out.1 (by omega)
      rw [hv, ← psh_succ, ← hv] at hps
      have HPS := hidOf hps
      clear hps hv hcs
      go_wp2_with (go_at_call 10; refine HPS.out.mono ?_; rintro e w2 ⟨rfl, r2, h2, n2⟩; have H2 := hidOf (H.out.ns h2 n2); clear h2 n2)
      go_roundw
      case rel => exact ⟨k + 1, r2, by go_num, by omega, H2⟩
      case measure => simp [intOf]; omega
    · obtain rfl : k = l.length := by omega
      have hltz : ¬ (l.length : Int) < (l.length : Int) := by omega
      obtain ⟨wq, hwq⟩ : ∃ x, x = wr := ⟨_, rfl⟩
      subst hwq
      go_wp2
      go_loopw [7] (fun i wr => ∃ (k : Nat) (M : List It) (f : Nat → Bool) (lk lt : Int), i = .int .i64 (k : Int) ∧ k ≤ l.length ∧ Hid (Sst l k M f lk lt) ∧ Hid (Hst w wr M l.length r ∧ wr.heap[wq.heap.size]? = some (.cells (bl l.length f) 4 (0, 0)) ∧ wr.heap[wq.heap.size + 1]? = some (.cells #[.int .i64 lk, .int .i64 lt] 26 (0, 0)))) (fun i _ => l.length - (intOf i).toNat)
      case atStart =>
        refine ⟨0, psh l l.length, fun _ => false, 0, 0, rfl, Nat.zero_le _, hidOf (Sst.start l), hidOf ⟨H.out.grow (below2 _ _ _), ?_, ?_⟩⟩
        · exact (Below.heap_alloc _ _ _ (by simp)).trans (heap_alloc_new wq _)
        · have := heap_alloc_new (wq.alloc (.cells (bl l.length (fun _ => false)) 4)) (.cells #[.int .i64 0, .int .i64 0] 26)
          rw [World.size_alloc] at this
          exact this
      case round =>
        obtain ⟨k, M, f, lk, lt, rfl, hk, HS, HW⟩ := hrel
        have hD : w.heap.size ≤ wq.heap.size := H.out.2.1.size
        by_cases hlt : k < l.length
        · have hltz2 : (k : Int) < (l.length : Int) := by omega
          have hM0 : M ≠ [] := fun e => by have := HS.out.len; subst e; simp at this; omega
          obtain ⟨m, hm⟩ := HW.out.1.1.min hM0
          obtain ⟨j, hj, hmj⟩ := psh_mem (HS.out.sub m hm.1)
          subst hmj
          have HM := hidOf hm
          have hfj : f j = false := HS.out.seen j hm.1
          have hla := fun h0 => HS.out.last h0 _ hm.1
          obtain ⟨v, hv⟩ : ∃ v, v = nth l j := ⟨_, rfl⟩
          rw [← hv] at HM hla
          simp only at hla
          have HV := hidOf hv
          have hNX : Hid (Sst l (k + 1) (M.erase ⟨v, j, j⟩) (fun i => if i = j then true else f i) v j) := by rw [hv]; exact HS.out.next HW.out.1.1.came.1 hm
          clear hm hv
          have hpp := pop_min w.heap.size l.length M ⟨v, j, j⟩ r wr HW.out.1.1 HM.out (by omega)
          have HPP := hidOf hpp
          clear hpp
          go_wp2_with (go_at_call 12; refine HPP.out.mono ?_; rintro e w4 ⟨rfl, h4, n4⟩; have H8 := hidOf (HW.out.1.ns h4 n4); have HB1 := hidOf (n4.other HW.out.1.1 HW.out.2.1 (by intro cs f; constructor <;> intro e <;> cases e)); have HB2 := hidOf (n4.other HW.out.1.1 HW.out.2.2 (by intro cs f; constructor <;> intro e <;> cases e)); clear h4 n4)
          obtain ⟨w5, hw5⟩ : ∃ x, x = w4.alloc (.cells #[.int .i64 v, .int .i64 j] 26) := ⟨_, rfl⟩
          have hBw : Below w4.heap.size w4 w5 := by rw [hw5]; exact (Below.refl _ _).alloc (Nat.le_refl _) _
          have H9 := hidOf (H8.out.grow hBw)
          have hx5 : w5.heap[w4.heap.size]? = some (.cells #[.int .i64 v, .int .i64 j] 26 (0, 0)) := by rw [hw5]; exact heap_alloc_new w4 _
          have hb1 : w5.heap[wq.heap.size]? = some (.cells (bl l.length f) 4 (0, 0)) := (hBw.block _ (heap_lt HB1.out)).trans HB1.out
          have hb2 : w5.heap[wq.heap.size + 1]? = some (.cells #[.int .i64 lk, .int .i64 lt] 26 (0, 0)) := (hBw.block _ (heap_lt HB2.out)).trans HB2.out
          have hx4 : w4.heap.size ≠ wq.heap.size + 1 := by have := heap_lt HB2.out; omega
          have hx4' : w4.heap.size ≠ wq.heap.size := by have := heap_lt HB1.out; omega
          rw [← hw5]
          clear hw5 hBw HB1 HB2
          obtain ⟨x0, x1, _, _⟩ := res_cells hx5
          obtain ⟨y0, y1, y2, y3⟩ := res_cells hb2
          have s0 : w5.cell? ⟨wq.heap.size, j, none⟩ = some (.bool false) := by rw [cell_of_row w5 _ j _ 4 (0, 0) hb1, bl_get _ _ _ hj, hfj]
          have z0 : w5.frozen? ⟨wq.heap.size, j, none⟩ = false := by simp [World.frozen?, hb1]
          obtain ⟨b, off, hab, _, hcs⟩ := HI.out.at H9.out.2.1 k hlt
          subst hab
          have c0 := hcs j hj
          rw [← HV.out] at c0
          have hjz : (j : Int) < (l.length : Int) := by omega
          have hd1 : decide ((j : Int) < 0) = false := decide_eq_false (by omega)
          have hd2 : decide ((l.length : Int) ≤ (j : Int)) = false := decide_eq_false (by omega)
          have HX5 := hidOf hx5
          have HB1 := hidOf hb1
          have HB2 := hidOf hb2
          clear hx5 hb1 hb2 hcs
          go_wp2
          go_quiet (fail)
          by_cases h0 : k = 0
          · subst h0
            have hz0 : ¬ (0 : Int) < ((0 : Nat) : Int) := by omega
            go_wp2
            go_roundw
            case rel => exact ⟨0 + 1, M.erase ⟨v, j, j⟩, _, v, j, by go_num, by omega, hNX, hidOf (sor_end (w5 := w5.drewN nq) (H9.out.grow ⟨rfl, rfl, rfl, Nat.le_refl _, fun _ _ => rfl⟩) HB1.out HB2.out hD (by omega) j)⟩
            case measure => simp [intOf]; omega
          · have hz0 : (0 : Int) < (k : Int) := by omega
            rcases hla (by omega) with hA | ⟨hA, hA2⟩
            · have hA1 : ¬ v < lk := by omega
              have hA2 : (v == lk) = false := beq_eq_false_iff_ne.2 (by omega)
              go_wp2
              go_roundw
              case rel => exact ⟨k + 1, M.erase ⟨v, j, j⟩, _, v, j, by go_num, by omega, hNX, hidOf (sor_end (w5 := w5.drewN nq) (H9.out.grow ⟨rfl, rfl, rfl, Nat.le_refl _, fun _ _ => rfl⟩) HB1.out HB2.out hD (by omega) j)⟩
              case measure => simp [intOf]; omega
            · subst hA
              have hA1 : ¬ lk < lk := by omega
              have hA3 : ¬ (j : Int) < lt := by omega
              go_wp2
              go_roundw
              case rel => exact ⟨k + 1, M.erase ⟨lk, j, j⟩, _, lk, j, by go_num, by omega, hNX, hidOf (sor_end (w5 := w5.drewN nq) (H9.out.grow ⟨rfl, rfl, rfl, Nat.le_refl _, fun _ _ => rfl⟩) HB1.out HB2.out hD (by omega) j)⟩
              case measure => simp [intOf]; omega
        · obtain rfl : k = l.length := by omega
          have hM0 : M = [] := by have := HS.out.len; exact List.eq_nil_of_length_eq_zero (by omega)
          subst hM0
          have hltz2 : ¬ (l.length : Int) < (l.length : Int) := by omega
          go_wp2_with (first
            | (go_at_call 12; refine (pop_nil w.heap.size l.length r _ HW.out.1.1).mono ?_; rintro e w4 ⟨rfl, hb4⟩; have H8 := hidOf (HW.out.1.grow hb4); clear hb4)
            | (go_at_call 18; refine (len_any w.heap.size l.length [] r _ (H8.out.grow ((Below.refl _ _).alloc (Nat.le_refl _) _)).1).mono ?_; rintro e w5 ⟨rfl, rfl⟩))
          go_ret
          exact ⟨rfl, (H8.out.grow ((Below.refl _ _).alloc (Nat.le_refl _) _)).2.1⟩

end Go.Proofs.Ytmkbndiliehdcaa
