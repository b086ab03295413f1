/- What the reader does with records on whatever bytes, more of them: what is left; of what was read its form alone. Made by program (wip/gen/rec.py). -/
import Derived.Test.YtpbokgeaolpiaabRlb
namespace Go.Proofs.Ytpbokgeaolpiaab
open Go.RowKit

def P_entry (s : Option (List UInt8)) : Option (List UInt8) := P_cmd (numS (numS s))
theorem P_entry_none : P_entry none = none := by
  unfold P_entry
  rw [numS_none, numS_none, P_cmd_none]

set_option maxHeartbeats 1000000 in
theorem entry_g {D : Nat} (p : Nat) (s : Option (List UInt8)) (w : World) (h : RG D w p s) :
    Calls Try.prog 91 #[.pointer (some ⟨p, 0, none⟩)] w fun e w' => ∃ (x0 : Int) (x1 : Int) (x2 : Int) (x3 : Int) (x4 : Int) (x5 : Int) (x6 : Int) (x7 : Int) (x8 : Int) (x9a : Option Addr) (x9n x9c : Nat) (x10 : Int) (x11 : Bool) (x12 : Int) (x13 : Int) (x14 : Int) (x15 : Bool) (x16 : Bool) (x17 : Int) (x18 : Int) (x19 : Int) (x20a : Option Addr) (x20n x20c : Nat) (x21 : Int) (x22 : Int) (x23 : Int) (x24a : Option Addr) (x24n x24c : Nat) (x25a : Option Addr) (x25n x25c : Nat) (x26 : Bool) (x27a : Option Addr) (x27n x27c : Nat) (x28a : Option Addr) (x28n x28c : Nat), e = .returned (.agg #[.int .i64 x0, .int .i64 x1, .int .i64 x2, .int .i64 x3, .int .i64 x4, .int .i64 x5, .int .i64 x6, .int .i64 x7, .int .i64 x8, .slice x9a x9n x9c, .int .i64 x10, .bool x11, .int .i64 x12, .int .i64 x13, .int .i64 x14, .bool x15, .bool x16, .int .i64 x17, .int .i64 x18, .int .i64 x19, .slice x20a x20n x20c, .int .i64 x21, .int .i64 x22, .int .i64 x23, .slice x24a x24n x24c, .slice x25a x25n x25c, .bool x26, .slice x27a x27n x27c, .slice x28a x28n x28c]) ∧ RG D w' p (P_entry s) ∧ RS w w' p := by
  have hmf : ∀ (fn : Fn) (first cap : Array Value) (w : World), (Instr.makeFunc fn first cap).run Try.prog w = .ok (.func fn first cap) w := fun _ _ _ _ => rfl
  have hB0 : Below w.heap.size w (w.alloc (.cells #[.int .i64 0, .int .i64 0, .int .i64 0, .int .i64 0, .int .i64 0, .int .i64 0, .int .i64 0, .int .i64 0, .int .i64 0, .slice none 0 0, .int .i64 0, .bool false, .int .i64 0, .int .i64 0, .int .i64 0, .bool false, .bool false, .int .i64 0, .int .i64 0, .int .i64 0, .slice none 0 0, .int .i64 0, .int .i64 0, .int .i64 0, .slice none 0 0, .slice none 0 0, .bool false, .slice none 0 0, .slice none 0 0] 79)) := (Below.refl _ _).alloc (Nat.le_refl _) _
  have h0 : RG D (w.alloc (.cells #[.int .i64 0, .int .i64 0, .int .i64 0, .int .i64 0, .int .i64 0, .int .i64 0, .int .i64 0, .int .i64 0, .int .i64 0, .slice none 0 0, .int .i64 0, .bool false, .int .i64 0, .int .i64 0, .int .i64 0, .bool false, .bool false, .int .i64 0, .int .i64 0, .int .i64 0, .slice none 0 0, .int .i64 0, .int .i64 0, .int .i64 0, .slice none 0 0, .slice none 0 0, .bool false, .slice none 0 0, .slice none 0 0] 79)) p s := h.ext hB0 h.1 h.2.1
  have s0 : RS w (w.alloc (.cells #[.int .i64 0, .int .i64 0, .int .i64 0, .int .i64 0, .int .i64 0, .int .i64 0, .int .i64 0, .int .i64 0, .int .i64 0, .slice none 0 0, .int .i64 0, .bool false, .int .i64 0, .int .i64 0, .int .i64 0, .bool false, .bool false, .int .i64 0, .int .i64 0, .int .i64 0, .slice none 0 0, .int .i64 0, .int .i64 0, .int .i64 0, .slice none 0 0, .slice none 0 0, .bool false, .slice none 0 0, .slice none 0 0] 79)) p := (RS.refl _ _).alloc _
  have g0 : Hid ((w.alloc (.cells #[.int .i64 0, .int .i64 0, .int .i64 0, .int .i64 0, .int .i64 0, .int .i64 0, .int .i64 0, .int .i64 0, .int .i64 0, .slice none 0 0, .int .i64 0, .bool false, .int .i64 0, .int .i64 0, .int .i64 0, .bool false, .bool false, .int .i64 0, .int .i64 0, .int .i64 0, .slice none 0 0, .int .i64 0, .int .i64 0, .int .i64 0, .slice none 0 0, .slice none 0 0, .bool false, .slice none 0 0, .slice none 0 0] 79)).heap[w.heap.size]? = some (.cells #[.int .i64 0, .int .i64 0, .int .i64 0, .int .i64 0, .int .i64 0, .int .i64 0, .int .i64 0, .int .i64 0, .int .i64 0, .slice none 0 0, .int .i64 0, .bool false, .int .i64 0, .int .i64 0, .int .i64 0, .bool false, .bool false, .int .i64 0, .int .i64 0, .int .i64 0, .slice none 0 0, .int .i64 0, .int .i64 0, .int .i64 0, .slice none 0 0, .slice none 0 0, .bool false, .slice none 0 0, .slice none 0 0] 79 (0, 0))) := heap_alloc_new w _
  have z0 : w.heap.size < (w.alloc (.cells #[.int .i64 0, .int .i64 0, .int .i64 0, .int .i64 0, .int .i64 0, .int .i64 0, .int .i64 0, .int .i64 0, .int .i64 0, .slice none 0 0, .int .i64 0, .bool false, .int .i64 0, .int .i64 0, .int .i64 0, .bool false, .bool false, .int .i64 0, .int .i64 0, .int .i64 0, .slice none 0 0, .int .i64 0, .int .i64 0, .int .i64 0, .slice none 0 0, .slice none 0 0, .bool false, .slice none 0 0, .slice none 0 0] 79)).heap.size := by rw [World.size_alloc]; omega
  have hpq : Hid (p ≠ w.heap.size) := by have := h.1; show p ≠ _; omega
  have hDq : Hid (p < w.heap.size ∧ D ≤ w.heap.size) := ⟨h.1, h.2.1⟩
  clear h hB0
  go_enter Try.func91, Try.ntmps91
  go_wp2_with fail
  refine (num_g p s _ h0).mono ?_
  rintro e w1 ⟨rfl, h1, t1⟩
  have s1 := s0.trans t1
  have g1 : Hid (w1.heap[w.heap.size]? = some (.cells #[.int .i64 0, .int .i64 0, .int .i64 0, .int .i64 0, .int .i64 0, .int .i64 0, .int .i64 0, .int .i64 0, .int .i64 0, .slice none 0 0, .int .i64 0, .bool false, .int .i64 0, .int .i64 0, .int .i64 0, .bool false, .bool false, .int .i64 0, .int .i64 0, .int .i64 0, .slice none 0 0, .int .i64 0, .int .i64 0, .int .i64 0, .slice none 0 0, .slice none 0 0, .bool false, .slice none 0 0, .slice none 0 0] 79 (0, 0))) := (t1.block _ z0 hpq.out.symm).trans g0.out
  have z1 : w.heap.size < w1.heap.size := Nat.lt_of_lt_of_le z0 t1.size
  clear h0 t1 s0 g0 z0
  go_wp2_with fail
  refine (num_g p (numS s) _ h1).mono ?_
  rintro e w2 ⟨rfl, h2, t2⟩
  have s2 := s1.trans t2
  have g2 : Hid (w2.heap[w.heap.size]? = some (.cells #[.int .i64 0, .int .i64 0, .int .i64 0, .int .i64 0, .int .i64 0, .int .i64 0, .int .i64 0, .int .i64 0, .int .i64 0, .slice none 0 0, .int .i64 0, .bool false, .int .i64 0, .int .i64 0, .int .i64 0, .bool false, .bool false, .int .i64 0, .int .i64 0, .int .i64 0, .slice none 0 0, .int .i64 0, .int .i64 0, .int .i64 0, .slice none 0 0, .slice none 0 0, .bool false, .slice none 0 0, .slice none 0 0] 79 (0, 0))) := (t2.block _ z1 hpq.out.symm).trans g1.out
  have z2 : w.heap.size < w2.heap.size := Nat.lt_of_lt_of_le z1 t2.size
  clear h1 t2 s1 g1 z1
  go_wp2_with fail
  refine (cmd_g p (numS (numS s)) _ h2).mono ?_
  rintro e w3 ⟨y3_0, y3_1, y3_2, y3_3, y3_4, y3_5, y3_6, y3_7a, y3_7n, y3_7c, y3_8, y3_9, y3_10, y3_11, y3_12, y3_13, y3_14, y3_15, y3_16, y3_17, y3_18a, y3_18n, y3_18c, y3_19, y3_20, y3_21, y3_22a, y3_22n, y3_22c, y3_23a, y3_23n, y3_23c, y3_24, y3_25a, y3_25n, y3_25c, y3_26a, y3_26n, y3_26c, rfl, h3, t3⟩
  have s3 := s2.trans t3
  have g3 : Hid (w3.heap[w.heap.size]? = some (.cells #[.int .i64 0, .int .i64 0, .int .i64 0, .int .i64 0, .int .i64 0, .int .i64 0, .int .i64 0, .int .i64 0, .int .i64 0, .slice none 0 0, .int .i64 0, .bool false, .int .i64 0, .int .i64 0, .int .i64 0, .bool false, .bool false, .int .i64 0, .int .i64 0, .int .i64 0, .slice none 0 0, .int .i64 0, .int .i64 0, .int .i64 0, .slice none 0 0, .slice none 0 0, .bool false, .slice none 0 0, .slice none 0 0] 79 (0, 0))) := (t3.block _ z2 hpq.out.symm).trans g2.out
  have z3 : w.heap.size < w3.heap.size := Nat.lt_of_lt_of_le z2 t3.size
  clear h2 t3 s2 g2 z2
  have I0 : Hid ((Try.prog.info? 79).map (·.size) = some (#[.int .i64 (numV s), .int .i64 (numV (numS s)), .int .i64 y3_0, .int .i64 y3_1, .int .i64 y3_2, .int .i64 y3_3, .int .i64 y3_4, .int .i64 y3_5, .int .i64 y3_6, .slice y3_7a y3_7n y3_7c, .int .i64 y3_8, .bool y3_9, .int .i64 y3_10, .int .i64 y3_11, .int .i64 y3_12, .bool y3_13, .bool y3_14, .int .i64 y3_15, .int .i64 y3_16, .int .i64 y3_17, .slice y3_18a y3_18n y3_18c, .int .i64 y3_19, .int .i64 y3_20, .int .i64 y3_21, .slice y3_22a y3_22n y3_22c, .slice y3_23a y3_23n y3_23c, .bool y3_24, .slice y3_25a y3_25n y3_25c, .slice y3_26a y3_26n y3_26c] : Array Value).size) := by show _ = _; kernel_rfl
  have O0 : Hid ((#[.int .i64 (numV s), .int .i64 (numV (numS s)), .int .i64 y3_0, .int .i64 y3_1, .int .i64 y3_2, .int .i64 y3_3, .int .i64 y3_4, .int .i64 y3_5, .int .i64 y3_6, .slice y3_7a y3_7n y3_7c, .int .i64 y3_8, .bool y3_9, .int .i64 y3_10, .int .i64 y3_11, .int .i64 y3_12, .bool y3_13, .bool y3_14, .int .i64 y3_15, .int .i64 y3_16, .int .i64 y3_17, .slice y3_18a y3_18n y3_18c, .int .i64 y3_19, .int .i64 y3_20, .int .i64 y3_21, .slice y3_22a y3_22n y3_22c, .slice y3_23a y3_23n y3_23c, .bool y3_24, .slice y3_25a y3_25n y3_25c, .slice y3_26a y3_26n y3_26c] : Array Value).all (·.oneCell') = true) := by show _ = _; kernel_rfl
  go_wp2_with (refine wpList_store_row rfl 79 (.tmp 2) (.tmp 9) rfl w.heap.size #[.int .i64 (numV s), .int .i64 (numV (numS s)), .int .i64 y3_0, .int .i64 y3_1, .int .i64 y3_2, .int .i64 y3_3, .int .i64 y3_4, .int .i64 y3_5, .int .i64 y3_6, .slice y3_7a y3_7n y3_7c, .int .i64 y3_8, .bool y3_9, .int .i64 y3_10, .int .i64 y3_11, .int .i64 y3_12, .bool y3_13, .bool y3_14, .int .i64 y3_15, .int .i64 y3_16, .int .i64 y3_17, .slice y3_18a y3_18n y3_18c, .int .i64 y3_19, .int .i64 y3_20, .int .i64 y3_21, .slice y3_22a y3_22n y3_22c, .slice y3_23a y3_23n y3_23c, .bool y3_24, .slice y3_25a y3_25n y3_25c, .slice y3_26a y3_26n y3_26c] rfl rfl 79 #[.int .i64 0, .int .i64 0, .int .i64 0, .int .i64 0, .int .i64 0, .int .i64 0, .int .i64 0, .int .i64 0, .int .i64 0, .slice none 0 0, .int .i64 0, .bool false, .int .i64 0, .int .i64 0, .int .i64 0, .bool false, .bool false, .int .i64 0, .int .i64 0, .int .i64 0, .slice none 0 0, .int .i64 0, .int .i64 0, .int .i64 0, .slice none 0 0, .slice none 0 0, .bool false, .slice none 0 0, .slice none 0 0] g3.out I0.out rfl O0.out ?_)
  refine bodyPost_ret (v := .agg #[.int .i64 (numV s), .int .i64 (numV (numS s)), .int .i64 y3_0, .int .i64 y3_1, .int .i64 y3_2, .int .i64 y3_3, .int .i64 y3_4, .int .i64 y3_5, .int .i64 y3_6, .slice y3_7a y3_7n y3_7c, .int .i64 y3_8, .bool y3_9, .int .i64 y3_10, .int .i64 y3_11, .int .i64 y3_12, .bool y3_13, .bool y3_14, .int .i64 y3_15, .int .i64 y3_16, .int .i64 y3_17, .slice y3_18a y3_18n y3_18c, .int .i64 y3_19, .int .i64 y3_20, .int .i64 y3_21, .slice y3_22a y3_22n y3_22c, .slice y3_23a y3_23n y3_23c, .bool y3_24, .slice y3_25a y3_25n y3_25c, .slice y3_26a y3_26n y3_26c]) ?_ rfl ⟨_, _, _, _, _, _, _, _, _, _, _, _, _, _, _, _, _, _, _, _, _, _, _, _, _, _, _, _, _, _, _, _, _, _, _, _, _, _, _, _, _, rfl, ?_, ?_⟩
  · refine results_cell_row Try.results91 _ _ w.heap.size 79 _ (0, 0) _ ?_ (setRow_heap w3 w.heap.size _ _ 79 _ g3.out) Try.underlying79 rfl I0.out
    rfl
  · exact h3.ext ⟨rfl, rfl, rfl, by simp [World.setRow], fun k hk => setRow_other _ _ _ _ (by omega)⟩ hDq.out.1 hDq.out.2
  · exact s3.setRow (Nat.le_refl _) _


theorem listEntry_g_info : (Try.prog.info? 79).map (fun i => (i.zero, i.size, i.bytes)) = some (some (.agg #[.int .i64 0, .int .i64 0, .int .i64 0, .int .i64 0, .int .i64 0, .int .i64 0, .int .i64 0, .int .i64 0, .int .i64 0, .slice none 0 0, .int .i64 0, .bool false, .int .i64 0, .int .i64 0, .int .i64 0, .bool false, .bool false, .int .i64 0, .int .i64 0, .int .i64 0, .slice none 0 0, .int .i64 0, .int .i64 0, .int .i64 0, .slice none 0 0, .slice none 0 0, .bool false, .slice none 0 0, .slice none 0 0]), 29, 320) := by kernel_rfl

set_option maxHeartbeats 800000 in
theorem listEntry_g {D : Nat} (p : Nat) (s : Option (List UInt8)) (w : World) (h : RG D w p s) :
    Calls Try.prog 90 #[.pointer (some ⟨p, 0, none⟩), .func (.func 91) #[.pointer (some ⟨p, 0, none⟩)] #[]] w fun e w' => ∃ (a : Option Addr) (n c : Nat), e = .returned (.slice a n c) ∧ RG D w' p (lstS P_entry s) ∧ RS w w' p := by
  obtain ⟨i0, hi, hz0, hz1, hz2⟩ := info_parts listEntry_g_info
  have hp0 := h.1
  have hD0 := h.2.1
  go_enter Try.func90, Try.ntmps90
  go_wp2_with fail
  refine (count_g p s _ w (by omega) (by omega) h).mono ?_
  rintro e w1 ⟨rfl, r1, s1, hn⟩
  have HL : Hid (lstS P_entry s = itP P_entry (cntV 64 s) (cntS 64 s)) := rfl
  generalize cntV 64 s = N at *
  go_wp2
  go_loopw [5, 8] (fun v i wr => ∃ k : Nat, ∃ xs : List Value, k ≤ N ∧ i = .int .i64 k ∧ RG D wr p (itP P_entry k (cntS 64 s)) ∧ RS w wr p ∧ wr.ownsRow w.heap.size 79 29 v k xs) (fun _ i _ => N - (intOf i).toNat)
  case atStart => exact ⟨0, [], Nat.zero_le _, rfl, r1, s1, World.ownsRow_nil _ _ _ _⟩
  case round =>
    obtain ⟨k, xs, hk, rfl, rk, sk, ok⟩ := hrel
    by_cases hlt : k < N
    · go_wp2_with fail
      refine (entry_g p _ wr rk).mono ?_
      rintro e w2 ⟨x0, x1, x2, x3, x4, x5, x6, x7, x8, x9a, x9n, x9c, x10, x11, x12, x13, x14, x15, x16, x17, x18, x19, x20a, x20n, x20c, x21, x22, x23, x24a, x24n, x24c, x25a, x25n, x25c, x26, x27a, x27n, x27c, x28a, x28n, x28c, rfl, r2, t2⟩
      have sk2 := sk.trans t2
      have ok2 := ownsRow_rs ok t2 hp0
      have O1 : Hid (∀ u ∈ (#[.int .i64 x0, .int .i64 x1, .int .i64 x2, .int .i64 x3, .int .i64 x4, .int .i64 x5, .int .i64 x6, .int .i64 x7, .int .i64 x8, .slice x9a x9n x9c, .int .i64 x10, .bool x11, .int .i64 x12, .int .i64 x13, .int .i64 x14, .bool x15, .bool x16, .int .i64 x17, .int .i64 x18, .int .i64 x19, .slice x20a x20n x20c, .int .i64 x21, .int .i64 x22, .int .i64 x23, .slice x24a x24n x24c, .slice x25a x25n x25c, .bool x26, .slice x27a x27n x27c, .slice x28a x28n x28c] : Array Value).toList, u.oneCell' = true) := all_one _ (by kernel_rfl)
      clear t2 rk ok sk
      go_wp2_with (at_builtin; refine wpList_append_own _ rfl (.tmp 10) (.tmp 13) 53 rfl w.heap.size 79 i0 (.agg #[.int .i64 0, .int .i64 0, .int .i64 0, .int .i64 0, .int .i64 0, .int .i64 0, .int .i64 0, .int .i64 0, .int .i64 0, .slice none 0 0, .int .i64 0, .bool false, .int .i64 0, .int .i64 0, .int .i64 0, .bool false, .bool false, .int .i64 0, .int .i64 0, .int .i64 0, .slice none 0 0, .int .i64 0, .int .i64 0, .int .i64 0, .slice none 0 0, .slice none 0 0, .bool false, .slice none 0 0, .slice none 0 0]) 29 320 Try.underlying53 hi hz0 hz1 hz2 rfl (by decide) _ _ _ rfl (ok2.alloc _) ⟨w2.heap.size, 0, none⟩ 1 1 (#[.int .i64 x0, .int .i64 x1, .int .i64 x2, .int .i64 x3, .int .i64 x4, .int .i64 x5, .int .i64 x6, .int .i64 x7, .int .i64 x8, .slice x9a x9n x9c, .int .i64 x10, .bool x11, .int .i64 x12, .int .i64 x13, .int .i64 x14, .bool x15, .bool x16, .int .i64 x17, .int .i64 x18, .int .i64 x19, .slice x20a x20n x20c, .int .i64 x21, .int .i64 x22, .int .i64 x23, .slice x24a x24n x24c, .slice x25a x25n x25c, .bool x26, .slice x27a x27n x27c, .slice x28a x28n x28c] : Array Value).toList rfl rfl (fun j u hj => cell_news w2 _ _ j u hj) O1.out ?c3 ?c4 ?c5 ?next)
      case c3 => unfold maxLen; omega
      case c4 => omega
      case c5 => have := sk2.size; rw [World.size_alloc]; omega
      case next =>
        intro v3 w3 ho3 hg3 _
        have hB3 : Below w.heap.size w2 w3 := ((Below.refl _ _).alloc sk2.size _).grown hg3 (by have := sk2.size; rw [World.size_alloc]; omega) (fun j hj => (ok2.lt j hj).1)
        have r3 : RG D w3 p (P_entry (itP P_entry k (cntS 64 s))) := r2.ext hB3 hp0 hD0
        have s3 := sk2.ext hB3
        clear hg3 r2 sk2 ok2 hB3
        cases hst : P_entry (itP P_entry k (cntS 64 s)) with
        | none =>
          have r4 := r3
          rw [hst] at r4
          have HN : Hid (lstS P_entry s = none) := by
            show lstS P_entry s = none
            rw [HL.out, show N = (k + 1) + (N - (k + 1)) by omega]
            exact itP_none P_entry P_entry_none _ _ _ hst
          clear hst r3
          obtain ⟨q1, q2, q3, q4, q5, q6⟩ := r4
          have r5 : Hid (RG D w3 p none) := ⟨q1, q2, q3, q4, q5, q6⟩
          go_wp2
          go_ret
          exact ⟨_, _, _, rfl, by rw [HN.out]; exact r5.out, s3⟩
        | some l3 =>
          have r4 := r3
          rw [hst] at r4
          clear hst
          obtain ⟨_, _, _, _, _, _, _, q6, _⟩ := r4
          have R3 : Hid _ := r3
          clear r3
          go_wp2
          exact ⟨⟨k + 1, _, by omega, by go_num, R3.out, s3, ho3⟩, by simp [intOf]; omega⟩
    · have hkN : k = N := by omega
      subst hkN
      obtain ⟨va, vn, vc, hv⟩ : ∃ va vn vc, u5 = Value.slice va vn vc := by
        rcases ok.2 with ⟨h, _⟩ | ⟨g, c, _, h, _⟩
        · exact ⟨_, _, _, h⟩
        · exact ⟨_, _, _, h⟩
      subst hv
      have R3 : Hid (RG D wr p (lstS P_entry s)) := by show RG _ _ _ _; rw [HL.out]; exact rk
      clear rk ok
      go_wp2
      go_ret
      exact ⟨_, _, _, rfl, R3.out, sk⟩

end Go.Proofs.Ytpbokgeaolpiaab
