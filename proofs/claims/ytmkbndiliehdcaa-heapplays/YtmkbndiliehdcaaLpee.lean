/- HeapPeeks, walked. -/
import Derived.Test.YtmkbndiliehdcaaHopn
import Derived.Deep.LoopGhost
namespace Go.Proofs.Ytmkbndiliehdcaa
open Go.RowKit Go.Conc

/- what stands in every round: the heap behind the memory that came in -/
def Hst (w wr : World) (M : List It) (n : Nat) (r : Option Nat) : Prop := HeapR wr w.heap.size M n r ∧ Below w.heap.size w wr ∧ ∀ k, r = some k → w.heap.size ≤ k
theorem Hst.grow {w wr w' : World} {M : List It} {n : Nat} {r : Option Nat} (h : Hst w wr M n r) (hb : Below wr.heap.size wr w') : Hst w w' M n r :=
  ⟨h.1.grow hb, h.2.1.trans (hb.mono h.2.1.size), h.2.2⟩
theorem Hst.ns {w wr w' : World} {M M' : List It} {n n' : Nat} {r r' : Option Nat} (h : Hst w wr M n r) (h' : HeapR w' w.heap.size M' n' r') (hn : NS wr w' w.heap.size r r') : Hst w w' M' n' r' :=
  ⟨h', h.2.1.trans (hn.below h.2.1.size (Nat.le_refl _) h.2.2), hn.rowD h.2.1.size h.2.2⟩
theorem hst_new {w w1 : World} (hb : Below (w.alloc (.cells #[.slice none 0 0, .int .i64 0] 53)).heap.size (w.alloc (.cells #[.slice none 0 0, .int .i64 0] 53)) w1) : Hst w w1 [] 0 none :=
  ⟨(heapR_new w).grow hb, ((Below.refl _ w).alloc (Nat.le_refl _) _).trans (hb.mono (by simp)), fun k hk => by cases hk⟩

set_option maxHeartbeats 4000000 in
set_option maxRecDepth 100000 in
theorem lawPeeks (w : World) (a : Option Addr) (cap : Nat) (l : List Int) (hi : Ints w a l) (hl : l.length ≤ 1048576) : Calls Try.prog 7 #[.slice a l.length cap] w fun e w' => e = .returned (.bool true) ∧ Below w.heap.size w w' := by
  have HI := hidOf hi
  clear hi
  go_enter Try.func7, Try.ntmps7
  go_wp2_with (first
    | (go_at_call 8; refine (new_any _).mono ?_; rintro e w1 ⟨rfl, rfl⟩)
    | (go_at_call 9; refine (known_any _).mono ?_; rintro e w1 ⟨rfl, hb1⟩; have H1 := hidOf (hst_new hb1); clear hb1))
  go_loopw [4] (fun i wr => ∃ (k : Nat) (r : Option Nat), i = .int .i64 (k : Int) ∧ k ≤ l.length ∧ Hid (Hst w wr (psh l k) k r)) (fun i _ => l.length - (intOf i).toNat)
  case atStart => exact ⟨0, none, rfl, Nat.zero_le _, H1⟩
  case round =>
    obtain ⟨k, r, rfl, hk, H⟩ := hrel
    by_cases hlt : k < l.length
    · have hltz : (k : Int) < (l.length : Int) := by omega
      obtain ⟨b, off, hab, hbl, hcs⟩ := HI.out.at H.out.2.1 k hlt
      have c0 := hcs k hlt
      subst hab
      obtain ⟨v, hv⟩ : ∃ v, v = nth l k := ⟨_, rfl⟩
      rw [← hv] at c0
      have HV := hidOf hv
      have hps := push_any w.heap.size k (psh l k) r v k wr H.out.1 (by omega)
      rw [hv, ← psh_succ, ← hv] at hps
      have HPS := hidOf hps
      clear hps hv hcs
      go_wp2_with (first
        | (go_at_call 10; refine HPS.out.mono ?_; rintro e w2 ⟨rfl, r2, h2, n2⟩; have H2 := hidOf (H.out.ns h2 n2); clear h2 n2; obtain ⟨m, hm⟩ := H2.out.1.min (by rw [psh_succ]; simp); have HM := hidOf hm; clear hm)
        | (go_at_call 16; refine (peek_min w.heap.size (k + 1) (psh l (k + 1)) m r2 _ H2.out.1 HM.out).mono ?_; rintro e w3 ⟨rfl, hb3⟩; have H3 := hidOf (H2.out.grow hb3); clear hb3))
      obtain ⟨w4, hw4⟩ : ∃ x, x = w3.alloc (.cells #[.int .i64 m.k, .int .i64 m.t] 26) := ⟨_, rfl⟩
      have H4 : Hid (Hst w w4 (psh l (k + 1)) (k + 1) r2 ∧ w4.heap[w3.heap.size]? = some (.cells #[.int .i64 m.k, .int .i64 m.t] 26 (0, 0))) := by
        rw [hw4]
        exact hidOf ⟨H3.out.grow ((Below.refl _ _).alloc (Nat.le_refl _) _), heap_alloc_new w3 _⟩
      rw [← hw4]
      clear hw4
      go_loopw [7] (fun j wr => ∃ (q : Nat), j = .int .i64 (q : Int) ∧ q ≤ k + 1 ∧ Hid (Hst w wr (psh l (k + 1)) (k + 1) r2 ∧ wr.heap[w3.heap.size]? = some (.cells #[.int .i64 m.k, .int .i64 m.t] 26 (0, 0)))) (fun j _ => k + 1 - (intOf j).toNat)
      case atStart => exact ⟨0, rfl, Nat.zero_le _, H4⟩
      case round =>
        obtain ⟨q, rfl, hq, H5⟩ := hrel
        by_cases hqk : q ≤ k
        · have hqz : (q : Int) ≤ (k : Int) := by omega
          have hql : (q : Int) < (l.length : Int) := by omega
          obtain ⟨b', off', hab', _, hcs⟩ := HI.out.at H5.out.1.2.1 k hlt
          cases hab'
          have c1 := hcs q (by omega)
          obtain ⟨x0, x1, _, _⟩ := res_cells H5.out.2
          have hle := HM.out.2 _ (mem_psh (l := l) (k := k + 1) (j := q) (by omega))
          obtain ⟨u, hu⟩ : ∃ u, u = nth l q := ⟨_, rfl⟩
          rw [← hu] at c1 hle
          have hnlt : ¬ u < m.k := by unfold le at hle; simp at hle; omega
          clear hu hle hcs
          go_wp2
          go_region
          go_wp2
          go_roundw
          case rel => exact ⟨q + 1, by go_num, by omega, hidOf ⟨H5.out.1.grow ((Below.refl _ _).drew), H5.out.2⟩⟩
          case measure => simp [intOf]; omega
        · have hqz : ¬ (q : Int) ≤ (k : Int) := by omega
          go_wp2
          go_roundw
          case rel => exact ⟨k + 1, r2, by go_num, by omega, hidOf H5.out.1⟩
          case measure => simp [intOf]; omega
    · have hkl : k = l.length := by omega
      have hltz : ¬ (k : Int) < (l.length : Int) := by omega
      obtain ⟨wq, hwq⟩ : ∃ x, x = wr := ⟨_, rfl⟩
      subst hwq
      go_wp2
      go_loopg [11] k (fun gg _ wr => ∃ (M : List It), M.length ≤ gg ∧ Hid (Hst w wr M k r)) 
      case atStart => exact ⟨psh l k, by rw [psh_length]; exact Nat.le_refl _, H⟩
      case round =>
        obtain ⟨M, hM, H6⟩ := hrel
        by_cases hM0 : M = []
        · subst hM0
          have hz : ¬ (0 : Int) < (([] : List It).length : Int) := by simp
          go_wp2_with (go_at_call 18; refine (len_any w.heap.size k [] r _ H6.out.1).mono ?_; rintro e w2 ⟨rfl, rfl⟩)
          go_ret
          exact ⟨rfl, H6.out.2.1⟩
        · obtain ⟨m, hm⟩ := H6.out.1.min hM0
          have HM := hidOf hm
          have hmp : 0 < M.length := List.length_pos_iff.2 hM0
          have hmz : (0 : Int) < (M.length : Int) := by omega
          have hel : (M.erase m).length = M.length - 1 := List.length_erase_of_mem hm.1
          have HEL := hidOf hel
          clear hm hel
          go_wp2_with (first
            | (go_at_call 18; refine (len_any w.heap.size k M r _ H6.out.1).mono ?_; rintro e w2 ⟨rfl, rfl⟩)
            | (go_at_call 16; refine (peek_min w.heap.size k M m r _ H6.out.1 HM.out).mono ?_; rintro e w3 ⟨rfl, hb3⟩; have H7 := hidOf (H6.out.grow hb3); clear hb3)
            | (go_at_call 12; refine (pop_min w.heap.size k M m r _ (H7.out.grow ((Below.refl _ _).alloc (Nat.le_refl _) _)).1 HM.out (by omega)).mono ?_; rintro e w4 ⟨rfl, h4, n4⟩; have hx4 : w4.heap[w3.heap.size]? = some (.cells #[.int .i64 m.k, .int .i64 m.t] 26 (0, 0)) := n4.other (H7.out.grow ((Below.refl _ _).alloc (Nat.le_refl _) _)).1 (heap_alloc_new w3 _) (by intro cs f; constructor <;> intro e <;> cases e); have hb8 : ∀ o : Obj, (w4.alloc o).heap[w3.heap.size]? = some (.cells #[.int .i64 m.k, .int .i64 m.t] 26 (0, 0)) := (fun o => (Below.heap_alloc w4 o _ (heap_lt hx4)).trans hx4); have y0 := (fun o => (res_cells (hb8 o)).1); have y1 := (fun o => (res_cells (hb8 o)).2.1); have H8 := hidOf ((H7.out.grow ((Below.refl _ _).alloc (Nat.le_refl _) _)).ns h4 n4); clear h4 n4 hx4 hb8))
          go_roundg (M.length - 1)
          case measure => omega
          case rel => exact ⟨M.erase m, by rw [HEL.out]; exact Nat.le_refl _, hidOf (H8.out.grow ((Below.refl _ _).alloc (Nat.le_refl _) _))⟩

end Go.Proofs.Ytmkbndiliehdcaa
