/- What GetStore tells of whatever bytes: whether they are all of one record. Made by program (wip/gen/whole.py). -/
import Derived.Test.YtpbokgeaolpiaabRld
import Derived.Test.YtpbokgeaolpiaabRnew
namespace Go.Proofs.Ytpbokgeaolpiaab
open Go.RowKit

def Zr_store : Array Value := #[.int .i64 0, .int .i64 0, .slice none 0 0, .slice none 0 0, .slice none 0 0, .slice none 0 0, .slice none 0 0, .slice none 0 0, .slice none 0 0]
theorem Zr_store_i : (Try.prog.info? 29).map (·.size) = some Zr_store.size := by kernel_rfl
theorem Zr_store_o : Zr_store.all (·.oneCell') = true := by kernel_rfl
theorem store_o {D : Nat} (p : Nat) (s : Option (List UInt8)) (w : World) (h : RG D w p s) : Calls Try.prog 30 #[.pointer (some ⟨p, 0, none⟩)] w fun e w' => ∃ cs : Array Value, cs.size = Zr_store.size ∧ cs.all (·.oneCell') = true ∧ e = .returned (.agg cs) ∧ RG D w' p (P_store s) ∧ RS w w' p := by
  refine (store_g p s w h).mono ?_
  rintro e w' ⟨x0, x1, x2a, x2n, x2c, x3a, x3n, x3c, x4a, x4n, x4c, x5a, x5n, x5c, x6a, x6n, x6c, x7a, x7n, x7c, x8a, x8n, x8c, rfl, h1, h2⟩
  refine ⟨_, ?_, ?_, rfl, h1, h2⟩
  · kernel_rfl
  · kernel_rfl

set_option maxHeartbeats 800000 in
theorem whole_store {D : Nat} (p : Nat) (s : Option (List UInt8)) (w : World) (h : RG D w p s) :
    Calls Try.prog 29 #[.pointer (some ⟨p, 0, none⟩), .func (.func 30) #[.pointer (some ⟨p, 0, none⟩)] #[]] w fun e w' => ∃ cs : Array Value, cs.size = Zr_store.size ∧ cs.all (·.oneCell') = true ∧ e = .returned (.tuple #[.agg cs, .bool (decide (P_store s = some []))]) ∧ RS w w' p := by
  have hB0 : Below w.heap.size w (w.alloc (.cells Zr_store 29)) := (Below.refl _ _).alloc (Nat.le_refl _) _
  have h0 : RG D (w.alloc (.cells Zr_store 29)) p s := h.ext hB0 h.1 h.2.1
  have g0 : Hid ((w.alloc (.cells Zr_store 29)).heap[w.heap.size]? = some (.cells Zr_store 29 (0, 0))) := heap_alloc_new w _
  have z0 : Hid (w.heap.size < (w.alloc (.cells Zr_store 29)).heap.size) := by show _ < _; rw [World.size_alloc]; omega
  have s0 : RS w (w.alloc (.cells Zr_store 29)) p := (RS.refl _ _).alloc _
  have hpq : Hid (p ≠ w.heap.size) := by have := h.1; show p ≠ _; omega
  have hp0 := h.1
  have hD0 := h.2.1
  clear h hB0
  go_enter Try.func29, Try.ntmps29
  go_wp2_with fail
  refine (store_o p s _ h0).mono ?_
  rintro e w1 ⟨cs, hcs, hco, rfl, h1, t1⟩
  have s1 := s0.trans t1
  have g1 : Hid (w1.heap[w.heap.size]? = some (.cells Zr_store 29 (0, 0))) := (t1.block _ z0.out hpq.out.symm).trans g0.out
  have z1 : w.heap.size < w1.heap.size := Nat.lt_of_lt_of_le z0.out t1.size
  have HCS : Hid (cs.size = Zr_store.size) := hcs
  have HCO : Hid (cs.all (·.oneCell') = true) := hco
  have HCI : Hid ((Try.prog.info? 29).map (·.size) = some cs.size) := by show _ = _; rw [hcs]; exact Zr_store_i
  clear g0 z0 s0 t1 h0 hcs hco
  have HP : Hid (P_store s = P_store s) := rfl
  go_wp2_with (refine wpList_store_rowF rfl 29 (.tmp 6) (.tmp 9) rfl w1.heap.size cs rfl rfl 29 Zr_store (heap_alloc_new w1 (.cells Zr_store 29)) HCI.out HCS.out.symm HCO.out ?next)
  case next =>
    intro w2 hw2h
    have hw2 := hw2h.out
    have hB2 : Below w1.heap.size w1 w2 := by rw [hw2]; exact ((Below.refl _ _).alloc (Nat.le_refl _) _).trans ⟨rfl, rfl, rfl, by simp [World.setRow], fun k hk => setRow_other _ _ _ _ (by omega)⟩
    have h2 : RG D w2 p (P_store s) := h1.ext hB2 h1.1 h1.2.1
    have s2 : RS w w2 p := s1.ext (hB2.mono s1.size)
    have g2 : Hid (w2.heap[w.heap.size]? = some (.cells Zr_store 29 (0, 0))) := (hB2.block _ z1).trans g1.out
    have k2 : Hid (w2.heap[w1.heap.size]? = some (.cells cs 29 (0, 0))) := by
      show _ = _
      rw [hw2]; exact setRow_heap _ _ _ _ 29 _ (heap_alloc_new w1 _)
    have z2 : w.heap.size < w2.heap.size := Nat.lt_of_lt_of_le z1 hB2.size
    clear hw2 hw2h g1 h1 s1 hB2 HP
    by_cases hfin : P_store s = some []
    · have h3 := h2
      rw [hfin] at h3
      obtain ⟨_, _, _, _, a, cap, c0, c1, _, _, _⟩ := h3
      have HF : Hid (decide (P_store s = some []) = true) := by show _ = _; simp [hfin]
      rw [List.length_nil] at c0
      clear hfin h2
      go_wp2_with (first
        | (refine wpList_load_row rfl 29 (.tmp 6) rfl w1.heap.size rfl 29 cs (0, 0) _ k2.out Try.underlying29 rfl HCI.out ?_)
        | (refine wpList_store_rowF rfl 29 (.tmp 4) (.tmp 23) rfl w.heap.size cs rfl rfl 29 Zr_store g2.out HCI.out HCS.out.symm HCO.out ?next2))
      case next2 =>
        intro w3 hw3h
        have hw3 := hw3h.out
        have s3 : RS w w3 p := by rw [hw3]; exact s2.setRow (Nat.le_refl _) _
        have g3 : Hid (w3.heap[w.heap.size]? = some (.cells cs 29 (0, 0))) := by
          show _ = _
          rw [hw3]; exact setRow_heap _ _ _ _ 29 _ g2.out
        clear hw3 hw3h
        go_wp2
        refine bodyPost_ret (v := .tuple #[.agg cs, .bool true]) ?_ rfl ⟨cs, HCS.out, HCO.out, by rw [HF.out], s3⟩
        simp [results, Try.results29, asAddr, run_loadVar_row w3 w.heap.size 29 29 cs (0, 0) _ g3.out Try.underlying29 rfl HCI.out]
    · have HF : Hid (decide (P_store s = some []) = false) := by show _ = _; simp [hfin]
      obtain ⟨va, vn, vc, vb, c0, c1, hcase⟩ : ∃ va vn vc vb, w2.cell? ⟨p, 0, none⟩ = some (.slice va vn vc) ∧ w2.cell? ⟨p, 1, none⟩ = some (.bool vb) ∧ (vb = true ∨ (vb = false ∧ 0 < vn ∧ vn ≤ 211106232532992)) := by
        cases hst : P_store s with
        | none => rw [hst] at h2; exact ⟨none, 0, 0, true, h2.2.2.2.2.1, h2.2.2.2.2.2, .inl rfl⟩
        | some l =>
          rw [hst] at h2
          obtain ⟨_, _, _, _, a, cap, c0, c1, _, hbs, _⟩ := h2
          refine ⟨a, l.length, cap, false, c0, c1, .inr ⟨rfl, ?_, hbs.1⟩⟩
          rcases l with _ | ⟨y, r⟩
          · exact absurd hst hfin
          · simp
      clear hfin h2
      rcases hcase with rfl | ⟨rfl, hvn, hvm⟩
      · go_wp2_with (first
          | (refine wpList_load_row rfl 29 (.tmp 7) rfl w2.heap.size rfl 29 Zr_store (0, 0) _ (heap_alloc_new w2 (.cells Zr_store 29)) Try.underlying29 rfl Zr_store_i ?_)
          | (refine wpList_store_rowF rfl 29 (.tmp 4) (.tmp 22) rfl w.heap.size Zr_store rfl rfl 29 Zr_store ((Below.heap_alloc w2 (.cells Zr_store 29) _ z2).trans g2.out) Zr_store_i rfl Zr_store_o ?next2))
        case next2 =>
          intro w3 hw3h
          have hw3 := hw3h.out
          have s3 : RS w w3 p := by rw [hw3]; exact (s2.alloc _).setRow (Nat.le_refl _) _
          have g3 : Hid (w3.heap[w.heap.size]? = some (.cells Zr_store 29 (0, 0))) := by
            show _ = _
            rw [hw3]; exact setRow_heap _ _ _ _ 29 _ ((Below.heap_alloc w2 _ _ z2).trans g2.out)
          clear hw3 hw3h
          go_wp2
          refine bodyPost_ret (v := .tuple #[.agg Zr_store, .bool false]) ?_ rfl ⟨Zr_store, rfl, Zr_store_o, by rw [HF.out], s3⟩
          simp [results, Try.results29, asAddr, run_loadVar_row w3 w.heap.size 29 29 Zr_store (0, 0) _ g3.out Try.underlying29 rfl Zr_store_i]
      · go_wp2_with (first
          | (refine wpList_load_row rfl 29 (.tmp 7) rfl w2.heap.size rfl 29 Zr_store (0, 0) _ (heap_alloc_new w2 (.cells Zr_store 29)) Try.underlying29 rfl Zr_store_i ?_)
          | (refine wpList_store_rowF rfl 29 (.tmp 4) (.tmp 22) rfl w.heap.size Zr_store rfl rfl 29 Zr_store ((Below.heap_alloc w2 (.cells Zr_store 29) _ z2).trans g2.out) Zr_store_i rfl Zr_store_o ?next2))
        case next2 =>
          intro w3 hw3h
          have hw3 := hw3h.out
          have s3 : RS w w3 p := by rw [hw3]; exact (s2.alloc _).setRow (Nat.le_refl _) _
          have g3 : Hid (w3.heap[w.heap.size]? = some (.cells Zr_store 29 (0, 0))) := by
            show _ = _
            rw [hw3]; exact setRow_heap _ _ _ _ 29 _ ((Below.heap_alloc w2 _ _ z2).trans g2.out)
          clear hw3 hw3h
          go_wp2
          refine bodyPost_ret (v := .tuple #[.agg Zr_store, .bool false]) ?_ rfl ⟨Zr_store, rfl, Zr_store_o, by rw [HF.out], s3⟩
          simp [results, Try.results29, asAddr, run_loadVar_row w3 w.heap.size 29 29 Zr_store (0, 0) _ g3.out Try.underlying29 rfl Zr_store_i]

set_option maxHeartbeats 800000 in
theorem get_store (a : Option Addr) (n cap : Nat) (l : List UInt8) (w : World) (hn : n = l.length) (hcap : n ≤ cap) (hbs : Bs w a l) (hbl : ∀ y, a = some y → y.block < w.heap.size) :
    Calls Try.prog 10 #[.slice a n cap] w fun e w' => ∃ cs : Array Value, cs.size = Zr_store.size ∧ cs.all (·.oneCell') = true ∧ e = .returned (.tuple #[.agg cs, .bool (decide (P_store (some l) = some []))]) ∧ Below w.heap.size w w' := by
  have hmf : ∀ (fn : Fn) (first cap : Array Value) (w : World), (Instr.makeFunc fn first cap).run Try.prog w = .ok (.func fn first cap) w := fun _ _ _ _ => rfl
  subst hn
  have g0 : Hid ((w.alloc (.cells Zr_store 29)).heap[w.heap.size]? = some (.cells Zr_store 29 (0, 0))) := heap_alloc_new w _
  have h0 : RG w.heap.size ((w.alloc (.cells Zr_store 29)).alloc (.cells #[.slice a l.length cap, .bool false] 93)) (w.heap.size + 1) (some l) := rg_new _ a cap l _ _ (by rw [World.size_alloc]) (by rw [World.size_alloc]; omega) hcap (hbs.alloc _) hbl
  clear hbs hbl
  go_enter Try.func10, Try.ntmps10
  go_wp2_with fail
  refine (whole_store (w.heap.size + 1) (some l) _ h0).mono ?_
  rintro e w1 ⟨cs, hcs, hco, rfl, s1⟩
  have hB : Below w.heap.size w w1 :=
    Below.trans (((Below.refl _ _).alloc (Nat.le_refl _) (.cells Zr_store 29)).alloc (by rw [World.size_alloc]; omega) _) ⟨s1.os, s1.tape, s1.output, s1.size, fun k hk => s1.block k (by simp; omega) (by omega)⟩
  have g1 : Hid (w1.heap[w.heap.size]? = some (.cells Zr_store 29 (0, 0))) := by
    show _ = _
    rw [s1.block _ (by simp; omega) (by omega), Below.heap_alloc _ _ _ (by rw [World.size_alloc]; omega)]; exact g0.out
  have HCS : Hid (cs.size = Zr_store.size) := hcs
  have HCO : Hid (cs.all (·.oneCell') = true) := hco
  have HCI : Hid ((Try.prog.info? 29).map (·.size) = some cs.size) := by show _ = _; rw [hcs]; exact Zr_store_i
  clear s1 g0 h0 hcs hco
  obtain ⟨okb, hokb⟩ : ∃ okb, Hid (decide (P_store (some l) = some []) = okb) := ⟨_, rfl⟩
  rw [hokb.out]
  go_wp2_with (refine wpList_store_rowF rfl 29 (.tmp 2) (.tmp 12) rfl w.heap.size cs rfl rfl 29 _ g1.out HCI.out HCS.out.symm HCO.out ?next)
  case next =>
    intro w2 hw2h
    have hw2 := hw2h.out
    have g2 : Hid (w2.heap[w.heap.size]? = some (.cells cs 29 (0, 0))) := by
      show _ = _
      rw [hw2]; exact setRow_heap _ _ _ _ 29 _ g1.out
    have hB2 : Below w.heap.size w w2 := by
      rw [hw2]; exact hB.trans ⟨rfl, rfl, rfl, by simp [World.setRow], fun k hk => setRow_other _ _ _ _ (by omega)⟩
    clear hw2 hw2h
    go_wp2
    refine bodyPost_ret (v := .tuple #[.agg cs, .bool okb]) ?_ rfl ⟨cs, HCS.out, HCO.out, by rw [hokb.out], hB2⟩
    simp [results, Try.results10, asAddr, run_loadVar_row w2 w.heap.size 29 29 cs (0, 0) _ g2.out Try.underlying29 rfl HCI.out]

end Go.Proofs.Ytpbokgeaolpiaab
