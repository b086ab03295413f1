/- What the reader does with lists and records on whatever bytes: what is left; of what was read its form alone. Made by program (wip/gen/rec.py). -/
import Derived.Test.YtpbokgeaolpiaabGreatRgen
namespace Go.Proofs.YtpbokgeaolpiaabGreat
open Go.RowKit

theorem numS_none : numS none = none := rfl
theorem numV_none : numV none = 0 := rfl
theorem truS_none : truS none = none := by unfold truS; split <;> rfl
theorem cntS_none (m : Int) : cntS m none = none := by unfold cntS; split <;> rfl
theorem cntV_none (m : Int) : cntV m none = 0 := by unfold cntV; split <;> rfl
def itP (P : Option (List UInt8) → Option (List UInt8)) : Nat → Option (List UInt8) → Option (List UInt8)
  | 0, s => s
  | k + 1, s => P (itP P k s)
def lstS (P : Option (List UInt8) → Option (List UInt8)) (s : Option (List UInt8)) : Option (List UInt8) := itP P (cntV 64 s) (cntS 64 s)
theorem lstS_none (P : Option (List UInt8) → Option (List UInt8)) : lstS P none = none := by unfold lstS; rw [cntV_none, cntS_none]; rfl
theorem itP_none (P : Option (List UInt8) → Option (List UInt8)) (hP : P none = none) (s : Option (List UInt8)) (m d : Nat) (h : itP P m s = none) : itP P (m + d) s = none := by
  induction d with
  | zero => exact h
  | succ d ih => show P (itP P (m + d) s) = none; rw [ih, hP]
def bytS (s : Option (List UInt8)) : Option (List UInt8) := (cntS 65536 s).bind fun l => if l.length < cntV 65536 s then none else some (l.drop (cntV 65536 s))
theorem bytS_none : bytS none = none := by unfold bytS; rw [cntS_none]; rfl

theorem RS.ext {a w w' : World} {p : Nat} (h : RS a w p) (hb : Below a.heap.size w w') : RS a w' p :=
  ⟨hb.os.trans h.os, hb.tape.trans h.tape, hb.output.trans h.output, Nat.le_trans h.size hb.size, fun k hk hp => (hb.block k hk).trans (h.block k hk hp)⟩
theorem RG.ext {D : Nat} {w w' : World} {p B : Nat} {s : Option (List UInt8)} (h : RG D w p s) (hb : Below B w w') (hp : p < B) (hD : D ≤ B) : RG D w' p s := by
  obtain ⟨h1, h2, f0, f1, h⟩ := h
  have e := hb.block p hp
  refine ⟨Nat.lt_of_lt_of_le h1 hb.size, Nat.le_trans h2 hb.size, (World.frozen?_of_block (a := ⟨p, 0, none⟩) e).trans f0, (World.frozen?_of_block (a := ⟨p, 1, none⟩) e).trans f1, ?_⟩
  cases s with
  | none => exact ⟨(World.cell?_of_block (a := ⟨p, 0, none⟩) e).trans h.1, (World.cell?_of_block (a := ⟨p, 1, none⟩) e).trans h.2⟩
  | some l =>
    obtain ⟨a, cap, c0, c1, hc, hbs, hne⟩ := h
    exact ⟨a, cap, (World.cell?_of_block (a := ⟨p, 0, none⟩) e).trans c0, (World.cell?_of_block (a := ⟨p, 1, none⟩) e).trans c1, hc, hbs.below hb (fun x hx => by have := (hne x hx).2; omega), hne⟩
theorem ownsRow_rs {w w' : World} {p base : Nat} {e : TypeId} {size : Nat} {v : Value} {n : Nat} {xs : List Value} (h : w.ownsRow base e size v n xs) (hs : RS w w' p) (hp : p < base) : w'.ownsRow base e size v n xs := by
  refine ⟨h.1, ?_⟩
  rcases h.2 with h2 | ⟨g, cap, cur, hv, hg, hh, r⟩
  · exact .inl h2
  · exact .inr ⟨g, cap, cur, hv, hg, by rw [hs.block g (Array.getElem?_eq_some_iff.1 hh).1 (by omega)]; exact hh, r⟩
theorem all_one (cs : Array Value) (h : cs.all (·.oneCell') = true) : ∀ u ∈ cs.toList, u.oneCell' = true := fun u hu => (Array.all_eq_true_iff_forall_mem.1 h) u (by simpa using hu)
theorem cell_news (w : World) (cs : Array Value) (e : TypeId) (j : Nat) (u : Value) (h : cs.toList[j]? = some u) : (w.alloc (.cells cs e)).cell? ((⟨w.heap.size, 0, none⟩ : Addr).add j) = some u := by
  rw [Addr.add_lit, cell_of_row _ _ _ cs e (0, 0) (heap_alloc_new w _), Nat.zero_add]
  simpa using h


def P_res (s : Option (List UInt8)) : Option (List UInt8) := numS (numS s)
theorem P_res_none : P_res none = none := by
  unfold P_res
  rw [numS_none, numS_none]

set_option maxHeartbeats 1000000 in
theorem res_g {D : Nat} (p : Nat) (s : Option (List UInt8)) (w : World) (h : RG D w p s) :
    Calls Tryz.prog 119 #[.pointer (some ⟨p, 0, none⟩)] w fun e w' => ∃ (x0 : Int) (x1 : Int), e = .returned (.agg #[.int .i64 x0, .int .i64 x1]) ∧ RG D w' p (P_res s) ∧ RS w w' p := by
  have hmf : ∀ (fn : Fn) (first cap : Array Value) (w : World), (Instr.makeFunc fn first cap).run Tryz.prog w = .ok (.func fn first cap) w := fun _ _ _ _ => rfl
  have hB0 : Below w.heap.size w (w.alloc (.cells #[.int .i64 0, .int .i64 0] 27)) := (Below.refl _ _).alloc (Nat.le_refl _) _
  have h0 : RG D (w.alloc (.cells #[.int .i64 0, .int .i64 0] 27)) p s := h.ext hB0 h.1 h.2.1
  have s0 : RS w (w.alloc (.cells #[.int .i64 0, .int .i64 0] 27)) p := (RS.refl _ _).alloc _
  have g0 : Hid ((w.alloc (.cells #[.int .i64 0, .int .i64 0] 27)).heap[w.heap.size]? = some (.cells #[.int .i64 0, .int .i64 0] 27 (0, 0))) := heap_alloc_new w _
  have z0 : w.heap.size < (w.alloc (.cells #[.int .i64 0, .int .i64 0] 27)).heap.size := by rw [World.size_alloc]; omega
  have hpq : Hid (p ≠ w.heap.size) := by have := h.1; show p ≠ _; omega
  have hDq : Hid (p < w.heap.size ∧ D ≤ w.heap.size) := ⟨h.1, h.2.1⟩
  clear h hB0
  go_enter Tryz.func119, Tryz.ntmps119
  go_wp2_with fail
  refine (num_g p s _ h0).mono ?_
  rintro e w1 ⟨rfl, h1, t1⟩
  have s1 := s0.trans t1
  have g1 : Hid (w1.heap[w.heap.size]? = some (.cells #[.int .i64 0, .int .i64 0] 27 (0, 0))) := (t1.block _ z0 hpq.out.symm).trans g0.out
  have z1 : w.heap.size < w1.heap.size := Nat.lt_of_lt_of_le z0 t1.size
  clear h0 t1 s0 g0 z0
  go_wp2_with fail
  refine (num_g p (numS s) _ h1).mono ?_
  rintro e w2 ⟨rfl, h2, t2⟩
  have s2 := s1.trans t2
  have g2 : Hid (w2.heap[w.heap.size]? = some (.cells #[.int .i64 0, .int .i64 0] 27 (0, 0))) := (t2.block _ z1 hpq.out.symm).trans g1.out
  have z2 : w.heap.size < w2.heap.size := Nat.lt_of_lt_of_le z1 t2.size
  clear h1 t2 s1 g1 z1
  have I0 : Hid ((Tryz.prog.info? 27).map (·.size) = some (#[.int .i64 (numV s), .int .i64 (numV (numS s))] : Array Value).size) := by show _ = _; kernel_rfl
  have O0 : Hid ((#[.int .i64 (numV s), .int .i64 (numV (numS s))] : Array Value).all (·.oneCell') = true) := by show _ = _; kernel_rfl
  go_wp2_with (refine wpList_store_row rfl 27 (.tmp 2) (.tmp 7) rfl w.heap.size #[.int .i64 (numV s), .int .i64 (numV (numS s))] rfl rfl 27 #[.int .i64 0, .int .i64 0] g2.out I0.out rfl O0.out ?_)
  refine bodyPost_ret (v := .agg #[.int .i64 (numV s), .int .i64 (numV (numS s))]) ?_ rfl ⟨_, _, rfl, ?_, ?_⟩
  · refine results_cell_row Tryz.results119 _ _ w.heap.size 27 _ (0, 0) _ ?_ (setRow_heap w2 w.heap.size _ _ 27 _ g2.out) Tryz.underlying27 rfl I0.out
    rfl
  · exact h2.ext ⟨rfl, rfl, rfl, by simp [World.setRow], fun k hk => setRow_other _ _ _ _ (by omega)⟩ hDq.out.1 hDq.out.2
  · exact s2.setRow (Nat.le_refl _) _


theorem listInt_g_info : (Tryz.prog.info? 3).map (fun i => (i.zero, i.size, i.bytes)) = some (some (.int .i64 0), 1, 8) := by kernel_rfl

set_option maxHeartbeats 800000 in
theorem listInt_g {D : Nat} (p : Nat) (s : Option (List UInt8)) (w : World) (h : RG D w p s) :
    Calls Tryz.prog 121 #[.pointer (some ⟨p, 0, none⟩), .func (.func 50) #[.pointer (some ⟨p, 0, none⟩)] #[]] w fun e w' => ∃ (a : Option Addr) (n c : Nat), e = .returned (.slice a n c) ∧ RG D w' p (lstS numS s) ∧ RS w w' p := by
  obtain ⟨i0, hi, hz0, hz1, hz2⟩ := info_parts listInt_g_info
  have hp0 := h.1
  have hD0 := h.2.1
  go_enter Tryz.func121, Tryz.ntmps121
  go_wp2_with fail
  refine (count_g p s _ w (by omega) (by omega) h).mono ?_
  rintro e w1 ⟨rfl, r1, s1, hn⟩
  have HL : Hid (lstS numS s = itP numS (cntV 64 s) (cntS 64 s)) := rfl
  generalize cntV 64 s = N at *
  go_wp2
  go_loopw [5, 8] (fun v i wr => ∃ k : Nat, ∃ xs : List Value, k ≤ N ∧ i = .int .i64 k ∧ RG D wr p (itP numS k (cntS 64 s)) ∧ RS w wr p ∧ wr.ownsRow w.heap.size 3 1 v k xs) (fun _ i _ => N - (intOf i).toNat)
  case atStart => exact ⟨0, [], Nat.zero_le _, rfl, r1, s1, World.ownsRow_nil _ _ _ _⟩
  case round =>
    obtain ⟨k, xs, hk, rfl, rk, sk, ok⟩ := hrel
    by_cases hlt : k < N
    · go_wp2_with fail
      refine (num_g p _ wr rk).mono ?_
      rintro e w2 ⟨rfl, r2, t2⟩
      have sk2 := sk.trans t2
      have ok2 := ownsRow_rs ok t2 hp0
      have O1 : Hid (∀ u ∈ (#[.int .i64 (numV (itP numS k (cntS 64 s)))] : Array Value).toList, u.oneCell' = true) := all_one _ (by kernel_rfl)
      clear t2 rk ok sk
      go_wp2_with (at_builtin; refine wpList_append_own _ rfl (.tmp 10) (.tmp 13) 31 rfl w.heap.size 3 i0 (.int .i64 0) 1 8 Tryz.underlying31 hi hz0 hz1 hz2 rfl (by decide) _ _ _ rfl (ok2.alloc _) ⟨w2.heap.size, 0, none⟩ 1 1 (#[.int .i64 (numV (itP numS k (cntS 64 s)))] : Array Value).toList rfl rfl (fun j u hj => cell_news w2 _ _ j u hj) O1.out ?c3 ?c4 ?c5 ?next)
      case c3 => unfold maxLen; omega
      case c4 => omega
      case c5 => have := sk2.size; rw [World.size_alloc]; omega
      case next =>
        intro v3 w3 ho3 hg3 _
        have hB3 : Below w.heap.size w2 w3 := ((Below.refl _ _).alloc sk2.size _).grown hg3 (by have := sk2.size; rw [World.size_alloc]; omega) (fun j hj => (ok2.lt j hj).1)
        have r3 : RG D w3 p (numS (itP numS k (cntS 64 s))) := r2.ext hB3 hp0 hD0
        have s3 := sk2.ext hB3
        clear hg3 r2 sk2 ok2 hB3
        cases hst : numS (itP numS k (cntS 64 s)) with
        | none =>
          have r4 := r3
          rw [hst] at r4
          have HN : Hid (lstS numS s = none) := by
            show lstS numS s = none
            rw [HL.out, show N = (k + 1) + (N - (k + 1)) by omega]
            exact itP_none numS numS_none _ _ _ hst
          clear hst r3
          obtain ⟨q1, q2, q3, q4, q5, q6⟩ := r4
          have r5 : Hid (RG D w3 p none) := ⟨q1, q2, q3, q4, q5, q6⟩
          go_wp2
          go_ret
          exact ⟨_, _, _, rfl, by rw [HN.out]; exact r5.out, s3⟩
        | some l3 =>
          have r4 := r3
          rw [hst] at r4
          clear hst
          obtain ⟨_, _, _, _, _, _, _, q6, _⟩ := r4
          have R3 : Hid _ := r3
          clear r3
          go_wp2
          exact ⟨⟨k + 1, _, by omega, by go_num, R3.out, s3, ho3⟩, by simp [intOf]; omega⟩
    · have hkN : k = N := by omega
      subst hkN
      obtain ⟨va, vn, vc, hv⟩ : ∃ va vn vc, u5 = Value.slice va vn vc := by
        rcases ok.2 with ⟨h, _⟩ | ⟨g, c, _, h, _⟩
        · exact ⟨_, _, _, h⟩
        · exact ⟨_, _, _, h⟩
      subst hv
      have R3 : Hid (RG D wr p (lstS numS s)) := by show RG _ _ _ _; rw [HL.out]; exact rk
      clear rk ok
      go_wp2
      go_ret
      exact ⟨_, _, _, rfl, R3.out, sk⟩


def P_conf (s : Option (List UInt8)) : Option (List UInt8) := lstS numS (lstS numS s)
theorem P_conf_none : P_conf none = none := by
  unfold P_conf
  rw [lstS_none, lstS_none]

set_option maxHeartbeats 1000000 in
theorem conf_g {D : Nat} (p : Nat) (s : Option (List UInt8)) (w : World) (h : RG D w p s) :
    Calls Tryz.prog 56 #[.pointer (some ⟨p, 0, none⟩)] w fun e w' => ∃ (x0a : Option Addr) (x0n x0c : Nat) (x1a : Option Addr) (x1n x1c : Nat), e = .returned (.agg #[.slice x0a x0n x0c, .slice x1a x1n x1c]) ∧ RG D w' p (P_conf s) ∧ RS w w' p := by
  have hmf : ∀ (fn : Fn) (first cap : Array Value) (w : World), (Instr.makeFunc fn first cap).run Tryz.prog w = .ok (.func fn first cap) w := fun _ _ _ _ => rfl
  have hB0 : Below w.heap.size w (w.alloc (.cells #[.slice none 0 0, .slice none 0 0] 36)) := (Below.refl _ _).alloc (Nat.le_refl _) _
  have h0 : RG D (w.alloc (.cells #[.slice none 0 0, .slice none 0 0] 36)) p s := h.ext hB0 h.1 h.2.1
  have s0 : RS w (w.alloc (.cells #[.slice none 0 0, .slice none 0 0] 36)) p := (RS.refl _ _).alloc _
  have g0 : Hid ((w.alloc (.cells #[.slice none 0 0, .slice none 0 0] 36)).heap[w.heap.size]? = some (.cells #[.slice none 0 0, .slice none 0 0] 36 (0, 0))) := heap_alloc_new w _
  have z0 : w.heap.size < (w.alloc (.cells #[.slice none 0 0, .slice none 0 0] 36)).heap.size := by rw [World.size_alloc]; omega
  have hpq : Hid (p ≠ w.heap.size) := by have := h.1; show p ≠ _; omega
  have hDq : Hid (p < w.heap.size ∧ D ≤ w.heap.size) := ⟨h.1, h.2.1⟩
  clear h hB0
  go_enter Tryz.func56, Tryz.ntmps56
  go_wp2_with fail
  refine (listInt_g p s _ h0).mono ?_
  rintro e w1 ⟨y1_0a, y1_0n, y1_0c, rfl, h1, t1⟩
  have s1 := s0.trans t1
  have g1 : Hid (w1.heap[w.heap.size]? = some (.cells #[.slice none 0 0, .slice none 0 0] 36 (0, 0))) := (t1.block _ z0 hpq.out.symm).trans g0.out
  have z1 : w.heap.size < w1.heap.size := Nat.lt_of_lt_of_le z0 t1.size
  clear h0 t1 s0 g0 z0
  go_wp2_with fail
  refine (listInt_g p (lstS numS s) _ h1).mono ?_
  rintro e w2 ⟨y2_0a, y2_0n, y2_0c, rfl, h2, t2⟩
  have s2 := s1.trans t2
  have g2 : Hid (w2.heap[w.heap.size]? = some (.cells #[.slice none 0 0, .slice none 0 0] 36 (0, 0))) := (t2.block _ z1 hpq.out.symm).trans g1.out
  have z2 : w.heap.size < w2.heap.size := Nat.lt_of_lt_of_le z1 t2.size
  clear h1 t2 s1 g1 z1
  have I0 : Hid ((Tryz.prog.info? 36).map (·.size) = some (#[.slice y1_0a y1_0n y1_0c, .slice y2_0a y2_0n y2_0c] : Array Value).size) := by show _ = _; kernel_rfl
  have O0 : Hid ((#[.slice y1_0a y1_0n y1_0c, .slice y2_0a y2_0n y2_0c] : Array Value).all (·.oneCell') = true) := by show _ = _; kernel_rfl
  go_wp2_with (refine wpList_store_row rfl 36 (.tmp 2) (.tmp 11) rfl w.heap.size #[.slice y1_0a y1_0n y1_0c, .slice y2_0a y2_0n y2_0c] rfl rfl 36 #[.slice none 0 0, .slice none 0 0] g2.out I0.out rfl O0.out ?_)
  refine bodyPost_ret (v := .agg #[.slice y1_0a y1_0n y1_0c, .slice y2_0a y2_0n y2_0c]) ?_ rfl ⟨_, _, _, _, _, _, rfl, ?_, ?_⟩
  · refine results_cell_row Tryz.results56 _ _ w.heap.size 36 _ (0, 0) _ ?_ (setRow_heap w2 w.heap.size _ _ 36 _ g2.out) Tryz.underlying36 rfl I0.out
    rfl
  · exact h2.ext ⟨rfl, rfl, rfl, by simp [World.setRow], fun k hk => setRow_other _ _ _ _ (by omega)⟩ hDq.out.1 hDq.out.2
  · exact s2.setRow (Nat.le_refl _) _


def P_alloc (s : Option (List UInt8)) : Option (List UInt8) := numS (truS (P_res (numS (numS (numS (numS (numS (numS (numS s)))))))))
theorem P_alloc_none : P_alloc none = none := by
  unfold P_alloc
  rw [numS_none, numS_none, numS_none, numS_none, numS_none, numS_none, numS_none, P_res_none, truS_none, numS_none]

set_option maxHeartbeats 1000000 in
theorem alloc_g {D : Nat} (p : Nat) (s : Option (List UInt8)) (w : World) (h : RG D w p s) :
    Calls Tryz.prog 94 #[.pointer (some ⟨p, 0, none⟩)] w fun e w' => ∃ (x0 : Int) (x1 : Int) (x2 : Int) (x3 : Int) (x4 : Int) (x5 : Int) (x6 : Int) (x7 : Int) (x8 : Int) (x9 : Bool) (x10 : Int), e = .returned (.agg #[.int .i64 x0, .int .i64 x1, .int .i64 x2, .int .i64 x3, .int .i64 x4, .int .i64 x5, .int .i64 x6, .int .i64 x7, .int .i64 x8, .bool x9, .int .i64 x10]) ∧ RG D w' p (P_alloc s) ∧ RS w w' p := by
  have hmf : ∀ (fn : Fn) (first cap : Array Value) (w : World), (Instr.makeFunc fn first cap).run Tryz.prog w = .ok (.func fn first cap) w := fun _ _ _ _ => rfl
  have hB0 : Below w.heap.size w (w.alloc (.cells #[.int .i64 0, .int .i64 0, .int .i64 0, .int .i64 0, .int .i64 0, .int .i64 0, .int .i64 0, .int .i64 0, .int .i64 0, .bool false, .int .i64 0] 136)) := (Below.refl _ _).alloc (Nat.le_refl _) _
  have h0 : RG D (w.alloc (.cells #[.int .i64 0, .int .i64 0, .int .i64 0, .int .i64 0, .int .i64 0, .int .i64 0, .int .i64 0, .int .i64 0, .int .i64 0, .bool false, .int .i64 0] 136)) p s := h.ext hB0 h.1 h.2.1
  have s0 : RS w (w.alloc (.cells #[.int .i64 0, .int .i64 0, .int .i64 0, .int .i64 0, .int .i64 0, .int .i64 0, .int .i64 0, .int .i64 0, .int .i64 0, .bool false, .int .i64 0] 136)) p := (RS.refl _ _).alloc _
  have g0 : Hid ((w.alloc (.cells #[.int .i64 0, .int .i64 0, .int .i64 0, .int .i64 0, .int .i64 0, .int .i64 0, .int .i64 0, .int .i64 0, .int .i64 0, .bool false, .int .i64 0] 136)).heap[w.heap.size]? = some (.cells #[.int .i64 0, .int .i64 0, .int .i64 0, .int .i64 0, .int .i64 0, .int .i64 0, .int .i64 0, .int .i64 0, .int .i64 0, .bool false, .int .i64 0] 136 (0, 0))) := heap_alloc_new w _
  have z0 : w.heap.size < (w.alloc (.cells #[.int .i64 0, .int .i64 0, .int .i64 0, .int .i64 0, .int .i64 0, .int .i64 0, .int .i64 0, .int .i64 0, .int .i64 0, .bool false, .int .i64 0] 136)).heap.size := by rw [World.size_alloc]; omega
  have hpq : Hid (p ≠ w.heap.size) := by have := h.1; show p ≠ _; omega
  have hDq : Hid (p < w.heap.size ∧ D ≤ w.heap.size) := ⟨h.1, h.2.1⟩
  clear h hB0
  go_enter Tryz.func94, Tryz.ntmps94
  go_wp2_with fail
  refine (num_g p s _ h0).mono ?_
  rintro e w1 ⟨rfl, h1, t1⟩
  have s1 := s0.trans t1
  have g1 : Hid (w1.heap[w.heap.size]? = some (.cells #[.int .i64 0, .int .i64 0, .int .i64 0, .int .i64 0, .int .i64 0, .int .i64 0, .int .i64 0, .int .i64 0, .int .i64 0, .bool false, .int .i64 0] 136 (0, 0))) := (t1.block _ z0 hpq.out.symm).trans g0.out
  have z1 : w.heap.size < w1.heap.size := Nat.lt_of_lt_of_le z0 t1.size
  clear h0 t1 s0 g0 z0
  go_wp2_with fail
  refine (num_g p (numS s) _ h1).mono ?_
  rintro e w2 ⟨rfl, h2, t2⟩
  have s2 := s1.trans t2
  have g2 : Hid (w2.heap[w.heap.size]? = some (.cells #[.int .i64 0, .int .i64 0, .int .i64 0, .int .i64 0, .int .i64 0, .int .i64 0, .int .i64 0, .int .i64 0, .int .i64 0, .bool false, .int .i64 0] 136 (0, 0))) := (t2.block _ z1 hpq.out.symm).trans g1.out
  have z2 : w.heap.size < w2.heap.size := Nat.lt_of_lt_of_le z1 t2.size
  clear h1 t2 s1 g1 z1
  go_wp2_with fail
  refine (num_g p (numS (numS s)) _ h2).mono ?_
  rintro e w3 ⟨rfl, h3, t3⟩
  have s3 := s2.trans t3
  have g3 : Hid (w3.heap[w.heap.size]? = some (.cells #[.int .i64 0, .int .i64 0, .int .i64 0, .int .i64 0, .int .i64 0, .int .i64 0, .int .i64 0, .int .i64 0, .int .i64 0, .bool false, .int .i64 0] 136 (0, 0))) := (t3.block _ z2 hpq.out.symm).trans g2.out
  have z3 : w.heap.size < w3.heap.size := Nat.lt_of_lt_of_le z2 t3.size
  clear h2 t3 s2 g2 z2
  go_wp2_with fail
  refine (num_g p (numS (numS (numS s))) _ h3).mono ?_
  rintro e w4 ⟨rfl, h4, t4⟩
  have s4 := s3.trans t4
  have g4 : Hid (w4.heap[w.heap.size]? = some (.cells #[.int .i64 0, .int .i64 0, .int .i64 0, .int .i64 0, .int .i64 0, .int .i64 0, .int .i64 0, .int .i64 0, .int .i64 0, .bool false, .int .i64 0] 136 (0, 0))) := (t4.block _ z3 hpq.out.symm).trans g3.out
  have z4 : w.heap.size < w4.heap.size := Nat.lt_of_lt_of_le z3 t4.size
  clear h3 t4 s3 g3 z3
  go_wp2_with fail
  refine (num_g p (numS (numS (numS (numS s)))) _ h4).mono ?_
  rintro e w5 ⟨rfl, h5, t5⟩
  have s5 := s4.trans t5
  have g5 : Hid (w5.heap[w.heap.size]? = some (.cells #[.int .i64 0, .int .i64 0, .int .i64 0, .int .i64 0, .int .i64 0, .int .i64 0, .int .i64 0, .int .i64 0, .int .i64 0, .bool false, .int .i64 0] 136 (0, 0))) := (t5.block _ z4 hpq.out.symm).trans g4.out
  have z5 : w.heap.size < w5.heap.size := Nat.lt_of_lt_of_le z4 t5.size
  clear h4 t5 s4 g4 z4
  go_wp2_with fail
  refine (num_g p (numS (numS (numS (numS (numS s))))) _ h5).mono ?_
  rintro e w6 ⟨rfl, h6, t6⟩
  have s6 := s5.trans t6
  have g6 : Hid (w6.heap[w.heap.size]? = some (.cells #[.int .i64 0, .int .i64 0, .int .i64 0, .int .i64 0, .int .i64 0, .int .i64 0, .int .i64 0, .int .i64 0, .int .i64 0, .bool false, .int .i64 0] 136 (0, 0))) := (t6.block _ z5 hpq.out.symm).trans g5.out
  have z6 : w.heap.size < w6.heap.size := Nat.lt_of_lt_of_le z5 t6.size
  clear h5 t6 s5 g5 z5
  go_wp2_with fail
  refine (num_g p (numS (numS (numS (numS (numS (numS s)))))) _ h6).mono ?_
  rintro e w7 ⟨rfl, h7, t7⟩
  have s7 := s6.trans t7
  have g7 : Hid (w7.heap[w.heap.size]? = some (.cells #[.int .i64 0, .int .i64 0, .int .i64 0, .int .i64 0, .int .i64 0, .int .i64 0, .int .i64 0, .int .i64 0, .int .i64 0, .bool false, .int .i64 0] 136 (0, 0))) := (t7.block _ z6 hpq.out.symm).trans g6.out
  have z7 : w.heap.size < w7.heap.size := Nat.lt_of_lt_of_le z6 t7.size
  clear h6 t7 s6 g6 z6
  go_wp2_with fail
  refine (res_g p (numS (numS (numS (numS (numS (numS (numS s))))))) _ h7).mono ?_
  rintro e w8 ⟨y8_0, y8_1, rfl, h8, t8⟩
  have s8 := s7.trans t8
  have g8 : Hid (w8.heap[w.heap.size]? = some (.cells #[.int .i64 0, .int .i64 0, .int .i64 0, .int .i64 0, .int .i64 0, .int .i64 0, .int .i64 0, .int .i64 0, .int .i64 0, .bool false, .int .i64 0] 136 (0, 0))) := (t8.block _ z7 hpq.out.symm).trans g7.out
  have z8 : w.heap.size < w8.heap.size := Nat.lt_of_lt_of_le z7 t8.size
  clear h7 t8 s7 g7 z7
  go_wp2_with fail
  refine (truth_g p (P_res (numS (numS (numS (numS (numS (numS (numS s)))))))) _ h8).mono ?_
  rintro e w9 ⟨y9_0, rfl, h9, t9⟩
  have s9 := s8.trans t9
  have g9 : Hid (w9.heap[w.heap.size]? = some (.cells #[.int .i64 0, .int .i64 0, .int .i64 0, .int .i64 0, .int .i64 0, .int .i64 0, .int .i64 0, .int .i64 0, .int .i64 0, .bool false, .int .i64 0] 136 (0, 0))) := (t9.block _ z8 hpq.out.symm).trans g8.out
  have z9 : w.heap.size < w9.heap.size := Nat.lt_of_lt_of_le z8 t9.size
  clear h8 t9 s8 g8 z8
  go_wp2_with fail
  refine (num_g p (truS (P_res (numS (numS (numS (numS (numS (numS (numS s))))))))) _ h9).mono ?_
  rintro e w10 ⟨rfl, h10, t10⟩
  have s10 := s9.trans t10
  have g10 : Hid (w10.heap[w.heap.size]? = some (.cells #[.int .i64 0, .int .i64 0, .int .i64 0, .int .i64 0, .int .i64 0, .int .i64 0, .int .i64 0, .int .i64 0, .int .i64 0, .bool false, .int .i64 0] 136 (0, 0))) := (t10.block _ z9 hpq.out.symm).trans g9.out
  have z10 : w.heap.size < w10.heap.size := Nat.lt_of_lt_of_le z9 t10.size
  clear h9 t10 s9 g9 z9
  have I0 : Hid ((Tryz.prog.info? 136).map (·.size) = some (#[.int .i64 (numV s), .int .i64 (numV (numS s)), .int .i64 (numV (numS (numS s))), .int .i64 (numV (numS (numS (numS s)))), .int .i64 (numV (numS (numS (numS (numS s))))), .int .i64 (numV (numS (numS (numS (numS (numS s)))))), .int .i64 (numV (numS (numS (numS (numS (numS (numS s))))))), .int .i64 y8_0, .int .i64 y8_1, .bool y9_0, .int .i64 (numV (truS (P_res (numS (numS (numS (numS (numS (numS (numS s))))))))))] : Array Value).size) := by show _ = _; kernel_rfl
  have O0 : Hid ((#[.int .i64 (numV s), .int .i64 (numV (numS s)), .int .i64 (numV (numS (numS s))), .int .i64 (numV (numS (numS (numS s)))), .int .i64 (numV (numS (numS (numS (numS s))))), .int .i64 (numV (numS (numS (numS (numS (numS s)))))), .int .i64 (numV (numS (numS (numS (numS (numS (numS s))))))), .int .i64 y8_0, .int .i64 y8_1, .bool y9_0, .int .i64 (numV (truS (P_res (numS (numS (numS (numS (numS (numS (numS s))))))))))] : Array Value).all (·.oneCell') = true) := by show _ = _; kernel_rfl
  go_wp2_with (refine wpList_store_row rfl 136 (.tmp 2) (.tmp 23) rfl w.heap.size #[.int .i64 (numV s), .int .i64 (numV (numS s)), .int .i64 (numV (numS (numS s))), .int .i64 (numV (numS (numS (numS s)))), .int .i64 (numV (numS (numS (numS (numS s))))), .int .i64 (numV (numS (numS (numS (numS (numS s)))))), .int .i64 (numV (numS (numS (numS (numS (numS (numS s))))))), .int .i64 y8_0, .int .i64 y8_1, .bool y9_0, .int .i64 (numV (truS (P_res (numS (numS (numS (numS (numS (numS (numS s))))))))))] rfl rfl 136 #[.int .i64 0, .int .i64 0, .int .i64 0, .int .i64 0, .int .i64 0, .int .i64 0, .int .i64 0, .int .i64 0, .int .i64 0, .bool false, .int .i64 0] g10.out I0.out rfl O0.out ?_)
  refine bodyPost_ret (v := .agg #[.int .i64 (numV s), .int .i64 (numV (numS s)), .int .i64 (numV (numS (numS s))), .int .i64 (numV (numS (numS (numS s)))), .int .i64 (numV (numS (numS (numS (numS s))))), .int .i64 (numV (numS (numS (numS (numS (numS s)))))), .int .i64 (numV (numS (numS (numS (numS (numS (numS s))))))), .int .i64 y8_0, .int .i64 y8_1, .bool y9_0, .int .i64 (numV (truS (P_res (numS (numS (numS (numS (numS (numS (numS s))))))))))]) ?_ rfl ⟨_, _, _, _, _, _, _, _, _, _, _, rfl, ?_, ?_⟩
  · refine results_cell_row Tryz.results94 _ _ w.heap.size 136 _ (0, 0) _ ?_ (setRow_heap w10 w.heap.size _ _ 136 _ g10.out) Tryz.underlying136 rfl I0.out
    rfl
  · exact h10.ext ⟨rfl, rfl, rfl, by simp [World.setRow], fun k hk => setRow_other _ _ _ _ (by omega)⟩ hDq.out.1 hDq.out.2
  · exact s10.setRow (Nat.le_refl _) _


theorem listAlloc_g_info : (Tryz.prog.info? 136).map (fun i => (i.zero, i.size, i.bytes)) = some (some (.agg #[.int .i64 0, .int .i64 0, .int .i64 0, .int .i64 0, .int .i64 0, .int .i64 0, .int .i64 0, .int .i64 0, .int .i64 0, .bool false, .int .i64 0]), 11, 88) := by kernel_rfl

set_option maxHeartbeats 800000 in
theorem listAlloc_g {D : Nat} (p : Nat) (s : Option (List UInt8)) (w : World) (h : RG D w p s) :
    Calls Tryz.prog 93 #[.pointer (some ⟨p, 0, none⟩), .func (.func 94) #[.pointer (some ⟨p, 0, none⟩)] #[]] w fun e w' => ∃ (a : Option Addr) (n c : Nat), e = .returned (.slice a n c) ∧ RG D w' p (lstS P_alloc s) ∧ RS w w' p := by
  obtain ⟨i0, hi, hz0, hz1, hz2⟩ := info_parts listAlloc_g_info
  have hp0 := h.1
  have hD0 := h.2.1
  go_enter Tryz.func93, Tryz.ntmps93
  go_wp2_with fail
  refine (count_g p s _ w (by omega) (by omega) h).mono ?_
  rintro e w1 ⟨rfl, r1, s1, hn⟩
  have HL : Hid (lstS P_alloc s = itP P_alloc (cntV 64 s) (cntS 64 s)) := rfl
  generalize cntV 64 s = N at *
  go_wp2
  go_loopw [5, 8] (fun v i wr => ∃ k : Nat, ∃ xs : List Value, k ≤ N ∧ i = .int .i64 k ∧ RG D wr p (itP P_alloc k (cntS 64 s)) ∧ RS w wr p ∧ wr.ownsRow w.heap.size 136 11 v k xs) (fun _ i _ => N - (intOf i).toNat)
  case atStart => exact ⟨0, [], Nat.zero_le _, rfl, r1, s1, World.ownsRow_nil _ _ _ _⟩
  case round =>
    obtain ⟨k, xs, hk, rfl, rk, sk, ok⟩ := hrel
    by_cases hlt : k < N
    · go_wp2_with fail
      refine (alloc_g p _ wr rk).mono ?_
      rintro e w2 ⟨x0, x1, x2, x3, x4, x5, x6, x7, x8, x9, x10, rfl, r2, t2⟩
      have sk2 := sk.trans t2
      have ok2 := ownsRow_rs ok t2 hp0
      have O1 : Hid (∀ u ∈ (#[.int .i64 x0, .int .i64 x1, .int .i64 x2, .int .i64 x3, .int .i64 x4, .int .i64 x5, .int .i64 x6, .int .i64 x7, .int .i64 x8, .bool x9, .int .i64 x10] : Array Value).toList, u.oneCell' = true) := all_one _ (by kernel_rfl)
      clear t2 rk ok sk
      go_wp2_with (at_builtin; refine wpList_append_own _ rfl (.tmp 10) (.tmp 13) 32 rfl w.heap.size 136 i0 (.agg #[.int .i64 0, .int .i64 0, .int .i64 0, .int .i64 0, .int .i64 0, .int .i64 0, .int .i64 0, .int .i64 0, .int .i64 0, .bool false, .int .i64 0]) 11 88 Tryz.underlying32 hi hz0 hz1 hz2 rfl (by decide) _ _ _ rfl (ok2.alloc _) ⟨w2.heap.size, 0, none⟩ 1 1 (#[.int .i64 x0, .int .i64 x1, .int .i64 x2, .int .i64 x3, .int .i64 x4, .int .i64 x5, .int .i64 x6, .int .i64 x7, .int .i64 x8, .bool x9, .int .i64 x10] : Array Value).toList rfl rfl (fun j u hj => cell_news w2 _ _ j u hj) O1.out ?c3 ?c4 ?c5 ?next)
      case c3 => unfold maxLen; omega
      case c4 => omega
      case c5 => have := sk2.size; rw [World.size_alloc]; omega
      case next =>
        intro v3 w3 ho3 hg3 _
        have hB3 : Below w.heap.size w2 w3 := ((Below.refl _ _).alloc sk2.size _).grown hg3 (by have := sk2.size; rw [World.size_alloc]; omega) (fun j hj => (ok2.lt j hj).1)
        have r3 : RG D w3 p (P_alloc (itP P_alloc k (cntS 64 s))) := r2.ext hB3 hp0 hD0
        have s3 := sk2.ext hB3
        clear hg3 r2 sk2 ok2 hB3
        cases hst : P_alloc (itP P_alloc k (cntS 64 s)) with
        | none =>
          have r4 := r3
          rw [hst] at r4
          have HN : Hid (lstS P_alloc s = none) := by
            show lstS P_alloc s = none
            rw [HL.out, show N = (k + 1) + (N - (k + 1)) by omega]
            exact itP_none P_alloc P_alloc_none _ _ _ hst
          clear hst r3
          obtain ⟨q1, q2, q3, q4, q5, q6⟩ := r4
          have r5 : Hid (RG D w3 p none) := ⟨q1, q2, q3, q4, q5, q6⟩
          go_wp2
          go_ret
          exact ⟨_, _, _, rfl, by rw [HN.out]; exact r5.out, s3⟩
        | some l3 =>
          have r4 := r3
          rw [hst] at r4
          clear hst
          obtain ⟨_, _, _, _, _, _, _, q6, _⟩ := r4
          have R3 : Hid _ := r3
          clear r3
          go_wp2
          exact ⟨⟨k + 1, _, by omega, by go_num, R3.out, s3, ho3⟩, by simp [intOf]; omega⟩
    · have hkN : k = N := by omega
      subst hkN
      obtain ⟨va, vn, vc, hv⟩ : ∃ va vn vc, u5 = Value.slice va vn vc := by
        rcases ok.2 with ⟨h, _⟩ | ⟨g, c, _, h, _⟩
        · exact ⟨_, _, _, h⟩
        · exact ⟨_, _, _, h⟩
      subst hv
      have R3 : Hid (RG D wr p (lstS P_alloc s)) := by show RG _ _ _ _; rw [HL.out]; exact rk
      clear rk ok
      go_wp2
      go_ret
      exact ⟨_, _, _, rfl, R3.out, sk⟩


def P_report (s : Option (List UInt8)) : Option (List UInt8) := numS (numS s)
theorem P_report_none : P_report none = none := by
  unfold P_report
  rw [numS_none, numS_none]

set_option maxHeartbeats 1000000 in
theorem report_g {D : Nat} (p : Nat) (s : Option (List UInt8)) (w : World) (h : RG D w p s) :
    Calls Tryz.prog 54 #[.pointer (some ⟨p, 0, none⟩)] w fun e w' => ∃ (x0 : Int) (x1 : Int), e = .returned (.agg #[.int .i64 x0, .int .i64 x1]) ∧ RG D w' p (P_report s) ∧ RS w w' p := by
  have hmf : ∀ (fn : Fn) (first cap : Array Value) (w : World), (Instr.makeFunc fn first cap).run Tryz.prog w = .ok (.func fn first cap) w := fun _ _ _ _ => rfl
  have hB0 : Below w.heap.size w (w.alloc (.cells #[.int .i64 0, .int .i64 0] 108)) := (Below.refl _ _).alloc (Nat.le_refl _) _
  have h0 : RG D (w.alloc (.cells #[.int .i64 0, .int .i64 0] 108)) p s := h.ext hB0 h.1 h.2.1
  have s0 : RS w (w.alloc (.cells #[.int .i64 0, .int .i64 0] 108)) p := (RS.refl _ _).alloc _
  have g0 : Hid ((w.alloc (.cells #[.int .i64 0, .int .i64 0] 108)).heap[w.heap.size]? = some (.cells #[.int .i64 0, .int .i64 0] 108 (0, 0))) := heap_alloc_new w _
  have z0 : w.heap.size < (w.alloc (.cells #[.int .i64 0, .int .i64 0] 108)).heap.size := by rw [World.size_alloc]; omega
  have hpq : Hid (p ≠ w.heap.size) := by have := h.1; show p ≠ _; omega
  have hDq : Hid (p < w.heap.size ∧ D ≤ w.heap.size) := ⟨h.1, h.2.1⟩
  clear h hB0
  go_enter Tryz.func54, Tryz.ntmps54
  go_wp2_with fail
  refine (num_g p s _ h0).mono ?_
  rintro e w1 ⟨rfl, h1, t1⟩
  have s1 := s0.trans t1
  have g1 : Hid (w1.heap[w.heap.size]? = some (.cells #[.int .i64 0, .int .i64 0] 108 (0, 0))) := (t1.block _ z0 hpq.out.symm).trans g0.out
  have z1 : w.heap.size < w1.heap.size := Nat.lt_of_lt_of_le z0 t1.size
  clear h0 t1 s0 g0 z0
  go_wp2_with fail
  refine (num_g p (numS s) _ h1).mono ?_
  rintro e w2 ⟨rfl, h2, t2⟩
  have s2 := s1.trans t2
  have g2 : Hid (w2.heap[w.heap.size]? = some (.cells #[.int .i64 0, .int .i64 0] 108 (0, 0))) := (t2.block _ z1 hpq.out.symm).trans g1.out
  have z2 : w.heap.size < w2.heap.size := Nat.lt_of_lt_of_le z1 t2.size
  clear h1 t2 s1 g1 z1
  have I0 : Hid ((Tryz.prog.info? 108).map (·.size) = some (#[.int .i64 (numV s), .int .i64 (numV (numS s))] : Array Value).size) := by show _ = _; kernel_rfl
  have O0 : Hid ((#[.int .i64 (numV s), .int .i64 (numV (numS s))] : Array Value).all (·.oneCell') = true) := by show _ = _; kernel_rfl
  go_wp2_with (refine wpList_store_row rfl 108 (.tmp 2) (.tmp 7) rfl w.heap.size #[.int .i64 (numV s), .int .i64 (numV (numS s))] rfl rfl 108 #[.int .i64 0, .int .i64 0] g2.out I0.out rfl O0.out ?_)
  refine bodyPost_ret (v := .agg #[.int .i64 (numV s), .int .i64 (numV (numS s))]) ?_ rfl ⟨_, _, rfl, ?_, ?_⟩
  · refine results_cell_row Tryz.results54 _ _ w.heap.size 108 _ (0, 0) _ ?_ (setRow_heap w2 w.heap.size _ _ 108 _ g2.out) Tryz.underlying108 rfl I0.out
    rfl
  · exact h2.ext ⟨rfl, rfl, rfl, by simp [World.setRow], fun k hk => setRow_other _ _ _ _ (by omega)⟩ hDq.out.1 hDq.out.2
  · exact s2.setRow (Nat.le_refl _) _


theorem listReport_g_info : (Tryz.prog.info? 108).map (fun i => (i.zero, i.size, i.bytes)) = some (some (.agg #[.int .i64 0, .int .i64 0]), 2, 16) := by kernel_rfl

set_option maxHeartbeats 800000 in
theorem listReport_g {D : Nat} (p : Nat) (s : Option (List UInt8)) (w : World) (h : RG D w p s) :
    Calls Tryz.prog 53 #[.pointer (some ⟨p, 0, none⟩), .func (.func 54) #[.pointer (some ⟨p, 0, none⟩)] #[]] w fun e w' => ∃ (a : Option Addr) (n c : Nat), e = .returned (.slice a n c) ∧ RG D w' p (lstS P_report s) ∧ RS w w' p := by
  obtain ⟨i0, hi, hz0, hz1, hz2⟩ := info_parts listReport_g_info
  have hp0 := h.1
  have hD0 := h.2.1
  go_enter Tryz.func53, Tryz.ntmps53
  go_wp2_with fail
  refine (count_g p s _ w (by omega) (by omega) h).mono ?_
  rintro e w1 ⟨rfl, r1, s1, hn⟩
  have HL : Hid (lstS P_report s = itP P_report (cntV 64 s) (cntS 64 s)) := rfl
  generalize cntV 64 s = N at *
  go_wp2
  go_loopw [5, 8] (fun v i wr => ∃ k : Nat, ∃ xs : List Value, k ≤ N ∧ i = .int .i64 k ∧ RG D wr p (itP P_report k (cntS 64 s)) ∧ RS w wr p ∧ wr.ownsRow w.heap.size 108 2 v k xs) (fun _ i _ => N - (intOf i).toNat)
  case atStart => exact ⟨0, [], Nat.zero_le _, rfl, r1, s1, World.ownsRow_nil _ _ _ _⟩
  case round =>
    obtain ⟨k, xs, hk, rfl, rk, sk, ok⟩ := hrel
    by_cases hlt : k < N
    · go_wp2_with fail
      refine (report_g p _ wr rk).mono ?_
      rintro e w2 ⟨x0, x1, rfl, r2, t2⟩
      have sk2 := sk.trans t2
      have ok2 := ownsRow_rs ok t2 hp0
      have O1 : Hid (∀ u ∈ (#[.int .i64 x0, .int .i64 x1] : Array Value).toList, u.oneCell' = true) := all_one _ (by kernel_rfl)
      clear t2 rk ok sk
      go_wp2_with (at_builtin; refine wpList_append_own _ rfl (.tmp 10) (.tmp 13) 30 rfl w.heap.size 108 i0 (.agg #[.int .i64 0, .int .i64 0]) 2 16 Tryz.underlying30 hi hz0 hz1 hz2 rfl (by decide) _ _ _ rfl (ok2.alloc _) ⟨w2.heap.size, 0, none⟩ 1 1 (#[.int .i64 x0, .int .i64 x1] : Array Value).toList rfl rfl (fun j u hj => cell_news w2 _ _ j u hj) O1.out ?c3 ?c4 ?c5 ?next)
      case c3 => unfold maxLen; omega
      case c4 => omega
      case c5 => have := sk2.size; rw [World.size_alloc]; omega
      case next =>
        intro v3 w3 ho3 hg3 _
        have hB3 : Below w.heap.size w2 w3 := ((Below.refl _ _).alloc sk2.size _).grown hg3 (by have := sk2.size; rw [World.size_alloc]; omega) (fun j hj => (ok2.lt j hj).1)
        have r3 : RG D w3 p (P_report (itP P_report k (cntS 64 s))) := r2.ext hB3 hp0 hD0
        have s3 := sk2.ext hB3
        clear hg3 r2 sk2 ok2 hB3
        cases hst : P_report (itP P_report k (cntS 64 s)) with
        | none =>
          have r4 := r3
          rw [hst] at r4
          have HN : Hid (lstS P_report s = none) := by
            show lstS P_report s = none
            rw [HL.out, show N = (k + 1) + (N - (k + 1)) by omega]
            exact itP_none P_report P_report_none _ _ _ hst
          clear hst r3
          obtain ⟨q1, q2, q3, q4, q5, q6⟩ := r4
          have r5 : Hid (RG D w3 p none) := ⟨q1, q2, q3, q4, q5, q6⟩
          go_wp2
          go_ret
          exact ⟨_, _, _, rfl, by rw [HN.out]; exact r5.out, s3⟩
        | some l3 =>
          have r4 := r3
          rw [hst] at r4
          clear hst
          obtain ⟨_, _, _, _, _, _, _, q6, _⟩ := r4
          have R3 : Hid _ := r3
          clear r3
          go_wp2
          exact ⟨⟨k + 1, _, by omega, by go_num, R3.out, s3, ho3⟩, by simp [intOf]; omega⟩
    · have hkN : k = N := by omega
      subst hkN
      obtain ⟨va, vn, vc, hv⟩ : ∃ va vn vc, u5 = Value.slice va vn vc := by
        rcases ok.2 with ⟨h, _⟩ | ⟨g, c, _, h, _⟩
        · exact ⟨_, _, _, h⟩
        · exact ⟨_, _, _, h⟩
      subst hv
      have R3 : Hid (RG D wr p (lstS P_report s)) := by show RG _ _ _ _; rw [HL.out]; exact rk
      clear rk ok
      go_wp2
      go_ret
      exact ⟨_, _, _, rfl, R3.out, sk⟩


def P_group (s : Option (List UInt8)) : Option (List UInt8) := P_res (numS s)
theorem P_group_none : P_group none = none := by
  unfold P_group
  rw [numS_none, P_res_none]

set_option maxHeartbeats 1000000 in
theorem group_g {D : Nat} (p : Nat) (s : Option (List UInt8)) (w : World) (h : RG D w p s) :
    Calls Tryz.prog 118 #[.pointer (some ⟨p, 0, none⟩)] w fun e w' => ∃ (x0 : Int) (x1 : Int) (x2 : Int), e = .returned (.agg #[.int .i64 x0, .int .i64 x1, .int .i64 x2]) ∧ RG D w' p (P_group s) ∧ RS w w' p := by
  have hmf : ∀ (fn : Fn) (first cap : Array Value) (w : World), (Instr.makeFunc fn first cap).run Tryz.prog w = .ok (.func fn first cap) w := fun _ _ _ _ => rfl
  have hB0 : Below w.heap.size w (w.alloc (.cells #[.int .i64 0, .int .i64 0, .int .i64 0] 165)) := (Below.refl _ _).alloc (Nat.le_refl _) _
  have h0 : RG D (w.alloc (.cells #[.int .i64 0, .int .i64 0, .int .i64 0] 165)) p s := h.ext hB0 h.1 h.2.1
  have s0 : RS w (w.alloc (.cells #[.int .i64 0, .int .i64 0, .int .i64 0] 165)) p := (RS.refl _ _).alloc _
  have g0 : Hid ((w.alloc (.cells #[.int .i64 0, .int .i64 0, .int .i64 0] 165)).heap[w.heap.size]? = some (.cells #[.int .i64 0, .int .i64 0, .int .i64 0] 165 (0, 0))) := heap_alloc_new w _
  have z0 : w.heap.size < (w.alloc (.cells #[.int .i64 0, .int .i64 0, .int .i64 0] 165)).heap.size := by rw [World.size_alloc]; omega
  have hpq : Hid (p ≠ w.heap.size) := by have := h.1; show p ≠ _; omega
  have hDq : Hid (p < w.heap.size ∧ D ≤ w.heap.size) := ⟨h.1, h.2.1⟩
  clear h hB0
  go_enter Tryz.func118, Tryz.ntmps118
  go_wp2_with fail
  refine (num_g p s _ h0).mono ?_
  rintro e w1 ⟨rfl, h1, t1⟩
  have s1 := s0.trans t1
  have g1 : Hid (w1.heap[w.heap.size]? = some (.cells #[.int .i64 0, .int .i64 0, .int .i64 0] 165 (0, 0))) := (t1.block _ z0 hpq.out.symm).trans g0.out
  have z1 : w.heap.size < w1.heap.size := Nat.lt_of_lt_of_le z0 t1.size
  clear h0 t1 s0 g0 z0
  go_wp2_with fail
  refine (res_g p (numS s) _ h1).mono ?_
  rintro e w2 ⟨y2_0, y2_1, rfl, h2, t2⟩
  have s2 := s1.trans t2
  have g2 : Hid (w2.heap[w.heap.size]? = some (.cells #[.int .i64 0, .int .i64 0, .int .i64 0] 165 (0, 0))) := (t2.block _ z1 hpq.out.symm).trans g1.out
  have z2 : w.heap.size < w2.heap.size := Nat.lt_of_lt_of_le z1 t2.size
  clear h1 t2 s1 g1 z1
  have I0 : Hid ((Tryz.prog.info? 165).map (·.size) = some (#[.int .i64 (numV s), .int .i64 y2_0, .int .i64 y2_1] : Array Value).size) := by show _ = _; kernel_rfl
  have O0 : Hid ((#[.int .i64 (numV s), .int .i64 y2_0, .int .i64 y2_1] : Array Value).all (·.oneCell') = true) := by show _ = _; kernel_rfl
  go_wp2_with (refine wpList_store_row rfl 165 (.tmp 2) (.tmp 7) rfl w.heap.size #[.int .i64 (numV s), .int .i64 y2_0, .int .i64 y2_1] rfl rfl 165 #[.int .i64 0, .int .i64 0, .int .i64 0] g2.out I0.out rfl O0.out ?_)
  refine bodyPost_ret (v := .agg #[.int .i64 (numV s), .int .i64 y2_0, .int .i64 y2_1]) ?_ rfl ⟨_, _, _, rfl, ?_, ?_⟩
  · refine results_cell_row Tryz.results118 _ _ w.heap.size 165 _ (0, 0) _ ?_ (setRow_heap w2 w.heap.size _ _ 165 _ g2.out) Tryz.underlying165 rfl I0.out
    rfl
  · exact h2.ext ⟨rfl, rfl, rfl, by simp [World.setRow], fun k hk => setRow_other _ _ _ _ (by omega)⟩ hDq.out.1 hDq.out.2
  · exact s2.setRow (Nat.le_refl _) _


theorem listGroup_g_info : (Tryz.prog.info? 165).map (fun i => (i.zero, i.size, i.bytes)) = some (some (.agg #[.int .i64 0, .int .i64 0, .int .i64 0]), 3, 24) := by kernel_rfl

set_option maxHeartbeats 800000 in
theorem listGroup_g {D : Nat} (p : Nat) (s : Option (List UInt8)) (w : World) (h : RG D w p s) :
    Calls Tryz.prog 117 #[.pointer (some ⟨p, 0, none⟩), .func (.func 118) #[.pointer (some ⟨p, 0, none⟩)] #[]] w fun e w' => ∃ (a : Option Addr) (n c : Nat), e = .returned (.slice a n c) ∧ RG D w' p (lstS P_group s) ∧ RS w w' p := by
  obtain ⟨i0, hi, hz0, hz1, hz2⟩ := info_parts listGroup_g_info
  have hp0 := h.1
  have hD0 := h.2.1
  go_enter Tryz.func117, Tryz.ntmps117
  go_wp2_with fail
  refine (count_g p s _ w (by omega) (by omega) h).mono ?_
  rintro e w1 ⟨rfl, r1, s1, hn⟩
  have HL : Hid (lstS P_group s = itP P_group (cntV 64 s) (cntS 64 s)) := rfl
  generalize cntV 64 s = N at *
  go_wp2
  go_loopw [5, 8] (fun v i wr => ∃ k : Nat, ∃ xs : List Value, k ≤ N ∧ i = .int .i64 k ∧ RG D wr p (itP P_group k (cntS 64 s)) ∧ RS w wr p ∧ wr.ownsRow w.heap.size 165 3 v k xs) (fun _ i _ => N - (intOf i).toNat)
  case atStart => exact ⟨0, [], Nat.zero_le _, rfl, r1, s1, World.ownsRow_nil _ _ _ _⟩
  case round =>
    obtain ⟨k, xs, hk, rfl, rk, sk, ok⟩ := hrel
    by_cases hlt : k < N
    · go_wp2_with fail
      refine (group_g p _ wr rk).mono ?_
      rintro e w2 ⟨x0, x1, x2, rfl, r2, t2⟩
      have sk2 := sk.trans t2
      have ok2 := ownsRow_rs ok t2 hp0
      have O1 : Hid (∀ u ∈ (#[.int .i64 x0, .int .i64 x1, .int .i64 x2] : Array Value).toList, u.oneCell' = true) := all_one _ (by kernel_rfl)
      clear t2 rk ok sk
      go_wp2_with (at_builtin; refine wpList_append_own _ rfl (.tmp 10) (.tmp 13) 23 rfl w.heap.size 165 i0 (.agg #[.int .i64 0, .int .i64 0, .int .i64 0]) 3 24 Tryz.underlying23 hi hz0 hz1 hz2 rfl (by decide) _ _ _ rfl (ok2.alloc _) ⟨w2.heap.size, 0, none⟩ 1 1 (#[.int .i64 x0, .int .i64 x1, .int .i64 x2] : Array Value).toList rfl rfl (fun j u hj => cell_news w2 _ _ j u hj) O1.out ?c3 ?c4 ?c5 ?next)
      case c3 => unfold maxLen; omega
      case c4 => omega
      case c5 => have := sk2.size; rw [World.size_alloc]; omega
      case next =>
        intro v3 w3 ho3 hg3 _
        have hB3 : Below w.heap.size w2 w3 := ((Below.refl _ _).alloc sk2.size _).grown hg3 (by have := sk2.size; rw [World.size_alloc]; omega) (fun j hj => (ok2.lt j hj).1)
        have r3 : RG D w3 p (P_group (itP P_group k (cntS 64 s))) := r2.ext hB3 hp0 hD0
        have s3 := sk2.ext hB3
        clear hg3 r2 sk2 ok2 hB3
        cases hst : P_group (itP P_group k (cntS 64 s)) with
        | none =>
          have r4 := r3
          rw [hst] at r4
          have HN : Hid (lstS P_group s = none) := by
            show lstS P_group s = none
            rw [HL.out, show N = (k + 1) + (N - (k + 1)) by omega]
            exact itP_none P_group P_group_none _ _ _ hst
          clear hst r3
          obtain ⟨q1, q2, q3, q4, q5, q6⟩ := r4
          have r5 : Hid (RG D w3 p none) := ⟨q1, q2, q3, q4, q5, q6⟩
          go_wp2
          go_ret
          exact ⟨_, _, _, rfl, by rw [HN.out]; exact r5.out, s3⟩
        | some l3 =>
          have r4 := r3
          rw [hst] at r4
          clear hst
          obtain ⟨_, _, _, _, _, _, _, q6, _⟩ := r4
          have R3 : Hid _ := r3
          clear r3
          go_wp2
          exact ⟨⟨k + 1, _, by omega, by go_num, R3.out, s3, ho3⟩, by simp [intOf]; omega⟩
    · have hkN : k = N := by omega
      subst hkN
      obtain ⟨va, vn, vc, hv⟩ : ∃ va vn vc, u5 = Value.slice va vn vc := by
        rcases ok.2 with ⟨h, _⟩ | ⟨g, c, _, h, _⟩
        · exact ⟨_, _, _, h⟩
        · exact ⟨_, _, _, h⟩
      subst hv
      have R3 : Hid (RG D wr p (lstS P_group s)) := by show RG _ _ _ _; rw [HL.out]; exact rk
      clear rk ok
      go_wp2
      go_ret
      exact ⟨_, _, _, rfl, R3.out, sk⟩

end Go.Proofs.YtpbokgeaolpiaabGreat
