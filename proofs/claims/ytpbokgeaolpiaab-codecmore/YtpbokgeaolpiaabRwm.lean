/- What GetMsg tells of whatever bytes: whether they are all of one record. Made by program (wip/gen/whole.py). -/
import Derived.Test.YtpbokgeaolpiaabRle
import Derived.Test.YtpbokgeaolpiaabRnew
namespace Go.Proofs.Ytpbokgeaolpiaab
open Go.RowKit

def Zr_msg : Array Value := #[.int .i64 0, .int .i64 0, .int .i64 0, .int .i64 0, .int .i64 0, .int .i64 0, .int .i64 0, .bool false, .int .i64 0, .int .i64 0, .int .i64 0, .int .i64 0, .slice none 0 0, .slice none 0 0, .slice none 0 0, .slice none 0 0, .int .i64 0, .int .i64 0, .int .i64 0, .int .i64 0, .int .i64 0, .int .i64 0, .int .i64 0, .slice none 0 0, .int .i64 0, .bool false, .int .i64 0, .int .i64 0, .int .i64 0, .bool false, .bool false, .int .i64 0, .int .i64 0, .int .i64 0, .slice none 0 0, .int .i64 0, .int .i64 0, .int .i64 0, .slice none 0 0, .slice none 0 0, .bool false, .slice none 0 0, .slice none 0 0, .int .i64 0, .int .i64 0, .slice none 0 0]
theorem Zr_msg_i : (Try.prog.info? 69).map (·.size) = some Zr_msg.size := by kernel_rfl
theorem Zr_msg_o : Zr_msg.all (·.oneCell') = true := by kernel_rfl
theorem msg_o {D : Nat} (p : Nat) (s : Option (List UInt8)) (w : World) (h : RG D w p s) : Calls Try.prog 41 #[.pointer (some ⟨p, 0, none⟩)] w fun e w' => ∃ cs : Array Value, cs.size = Zr_msg.size ∧ cs.all (·.oneCell') = true ∧ e = .returned (.agg cs) ∧ RG D w' p (P_msg s) ∧ RS w w' p := by
  refine (msg_g p s w h).mono ?_
  rintro e w' ⟨x0, x1, x2, x3, x4, x5, x6, x7, x8, x9, x10, x11, x12a, x12n, x12c, x13a, x13n, x13c, x14a, x14n, x14c, x15a, x15n, x15c, x16, x17, x18, x19, x20, x21, x22, x23a, x23n, x23c, x24, x25, x26, x27, x28, x29, x30, x31, x32, x33, x34a, x34n, x34c, x35, x36, x37, x38a, x38n, x38c, x39a, x39n, x39c, x40, x41a, x41n, x41c, x42a, x42n, x42c, x43, x44, x45a, x45n, x45c, rfl, h1, h2⟩
  refine ⟨_, ?_, ?_, rfl, h1, h2⟩
  · kernel_rfl
  · kernel_rfl

set_option maxHeartbeats 800000 in
theorem whole_msg {D : Nat} (p : Nat) (s : Option (List UInt8)) (w : World) (h : RG D w p s) :
    Calls Try.prog 40 #[.pointer (some ⟨p, 0, none⟩), .func (.func 41) #[.pointer (some ⟨p, 0, none⟩)] #[]] w fun e w' => ∃ cs : Array Value, cs.size = Zr_msg.size ∧ cs.all (·.oneCell') = true ∧ e = .returned (.tuple #[.agg cs, .bool (decide (P_msg s = some []))]) ∧ RS w w' p := by
  have hB0 : Below w.heap.size w (w.alloc (.cells Zr_msg 69)) := (Below.refl _ _).alloc (Nat.le_refl _) _
  have h0 : RG D (w.alloc (.cells Zr_msg 69)) p s := h.ext hB0 h.1 h.2.1
  have g0 : Hid ((w.alloc (.cells Zr_msg 69)).heap[w.heap.size]? = some (.cells Zr_msg 69 (0, 0))) := heap_alloc_new w _
  have z0 : Hid (w.heap.size < (w.alloc (.cells Zr_msg 69)).heap.size) := by show _ < _; rw [World.size_alloc]; omega
  have s0 : RS w (w.alloc (.cells Zr_msg 69)) p := (RS.refl _ _).alloc _
  have hpq : Hid (p ≠ w.heap.size) := by have := h.1; show p ≠ _; omega
  have hp0 := h.1
  have hD0 := h.2.1
  clear h hB0
  go_enter Try.func40, Try.ntmps40
  go_wp2_with fail
  refine (msg_o p s _ h0).mono ?_
  rintro e w1 ⟨cs, hcs, hco, rfl, h1, t1⟩
  have s1 := s0.trans t1
  have g1 : Hid (w1.heap[w.heap.size]? = some (.cells Zr_msg 69 (0, 0))) := (t1.block _ z0.out hpq.out.symm).trans g0.out
  have z1 : w.heap.size < w1.heap.size := Nat.lt_of_lt_of_le z0.out t1.size
  have HCS : Hid (cs.size = Zr_msg.size) := hcs
  have HCO : Hid (cs.all (·.oneCell') = true) := hco
  have HCI : Hid ((Try.prog.info? 69).map (·.size) = some cs.size) := by show _ = _; rw [hcs]; exact Zr_msg_i
  clear g0 z0 s0 t1 h0 hcs hco
  have HP : Hid (P_msg s = P_msg s) := rfl
  go_wp2_with (refine wpList_store_rowF rfl 69 (.tmp 6) (.tmp 9) rfl w1.heap.size cs rfl rfl 69 Zr_msg (heap_alloc_new w1 (.cells Zr_msg 69)) HCI.out HCS.out.symm HCO.out ?next)
  case next =>
    intro w2 hw2h
    have hw2 := hw2h.out
    have hB2 : Below w1.heap.size w1 w2 := by rw [hw2]; exact ((Below.refl _ _).alloc (Nat.le_refl _) _).trans ⟨rfl, rfl, rfl, by simp [World.setRow], fun k hk => setRow_other _ _ _ _ (by omega)⟩
    have h2 : RG D w2 p (P_msg s) := h1.ext hB2 h1.1 h1.2.1
    have s2 : RS w w2 p := s1.ext (hB2.mono s1.size)
    have g2 : Hid (w2.heap[w.heap.size]? = some (.cells Zr_msg 69 (0, 0))) := (hB2.block _ z1).trans g1.out
    have k2 : Hid (w2.heap[w1.heap.size]? = some (.cells cs 69 (0, 0))) := by
      show _ = _
      rw [hw2]; exact setRow_heap _ _ _ _ 69 _ (heap_alloc_new w1 _)
    have z2 : w.heap.size < w2.heap.size := Nat.lt_of_lt_of_le z1 hB2.size
    clear hw2 hw2h g1 h1 s1 hB2 HP
    by_cases hfin : P_msg s = some []
    · have h3 := h2
      rw [hfin] at h3
      obtain ⟨_, _, _, _, a, cap, c0, c1, _, _, _⟩ := h3
      have HF : Hid (decide (P_msg s = some []) = true) := by show _ = _; simp [hfin]
      rw [List.length_nil] at c0
      clear hfin h2
      go_wp2_with (first
        | (refine wpList_load_row rfl 69 (.tmp 6) rfl w1.heap.size rfl 69 cs (0, 0) _ k2.out Try.underlying69 rfl HCI.out ?_)
        | (refine wpList_store_rowF rfl 69 (.tmp 4) (.tmp 23) rfl w.heap.size cs rfl rfl 69 Zr_msg g2.out HCI.out HCS.out.symm HCO.out ?next2))
      case next2 =>
        intro w3 hw3h
        have hw3 := hw3h.out
        have s3 : RS w w3 p := by rw [hw3]; exact s2.setRow (Nat.le_refl _) _
        have g3 : Hid (w3.heap[w.heap.size]? = some (.cells cs 69 (0, 0))) := by
          show _ = _
          rw [hw3]; exact setRow_heap _ _ _ _ 69 _ g2.out
        clear hw3 hw3h
        go_wp2
        refine bodyPost_ret (v := .tuple #[.agg cs, .bool true]) ?_ rfl ⟨cs, HCS.out, HCO.out, by rw [HF.out], s3⟩
        simp [results, Try.results40, asAddr, run_loadVar_row w3 w.heap.size 69 69 cs (0, 0) _ g3.out Try.underlying69 rfl HCI.out]
    · have HF : Hid (decide (P_msg s = some []) = false) := by show _ = _; simp [hfin]
      obtain ⟨va, vn, vc, vb, c0, c1, hcase⟩ : ∃ va vn vc vb, w2.cell? ⟨p, 0, none⟩ = some (.slice va vn vc) ∧ w2.cell? ⟨p, 1, none⟩ = some (.bool vb) ∧ (vb = true ∨ (vb = false ∧ 0 < vn ∧ vn ≤ 211106232532992)) := by
        cases hst : P_msg s with
        | none => rw [hst] at h2; exact ⟨none, 0, 0, true, h2.2.2.2.2.1, h2.2.2.2.2.2, .inl rfl⟩
        | some l =>
          rw [hst] at h2
          obtain ⟨_, _, _, _, a, cap, c0, c1, _, hbs, _⟩ := h2
          refine ⟨a, l.length, cap, false, c0, c1, .inr ⟨rfl, ?_, hbs.1⟩⟩
          rcases l with _ | ⟨y, r⟩
          · exact absurd hst hfin
          · simp
      clear hfin h2
      rcases hcase with rfl | ⟨rfl, hvn, hvm⟩
      · go_wp2_with (first
          | (refine wpList_load_row rfl 69 (.tmp 7) rfl w2.heap.size rfl 69 Zr_msg (0, 0) _ (heap_alloc_new w2 (.cells Zr_msg 69)) Try.underlying69 rfl Zr_msg_i ?_)
          | (refine wpList_store_rowF rfl 69 (.tmp 4) (.tmp 22) rfl w.heap.size Zr_msg rfl rfl 69 Zr_msg ((Below.heap_alloc w2 (.cells Zr_msg 69) _ z2).trans g2.out) Zr_msg_i rfl Zr_msg_o ?next2))
        case next2 =>
          intro w3 hw3h
          have hw3 := hw3h.out
          have s3 : RS w w3 p := by rw [hw3]; exact (s2.alloc _).setRow (Nat.le_refl _) _
          have g3 : Hid (w3.heap[w.heap.size]? = some (.cells Zr_msg 69 (0, 0))) := by
            show _ = _
            rw [hw3]; exact setRow_heap _ _ _ _ 69 _ ((Below.heap_alloc w2 _ _ z2).trans g2.out)
          clear hw3 hw3h
          go_wp2
          refine bodyPost_ret (v := .tuple #[.agg Zr_msg, .bool false]) ?_ rfl ⟨Zr_msg, rfl, Zr_msg_o, by rw [HF.out], s3⟩
          simp [results, Try.results40, asAddr, run_loadVar_row w3 w.heap.size 69 69 Zr_msg (0, 0) _ g3.out Try.underlying69 rfl Zr_msg_i]
      · go_wp2_with (first
          | (refine wpList_load_row rfl 69 (.tmp 7) rfl w2.heap.size rfl 69 Zr_msg (0, 0) _ (heap_alloc_new w2 (.cells Zr_msg 69)) Try.underlying69 rfl Zr_msg_i ?_)
          | (refine wpList_store_rowF rfl 69 (.tmp 4) (.tmp 22) rfl w.heap.size Zr_msg rfl rfl 69 Zr_msg ((Below.heap_alloc w2 (.cells Zr_msg 69) _ z2).trans g2.out) Zr_msg_i rfl Zr_msg_o ?next2))
        case next2 =>
          intro w3 hw3h
          have hw3 := hw3h.out
          have s3 : RS w w3 p := by rw [hw3]; exact (s2.alloc _).setRow (Nat.le_refl _) _
          have g3 : Hid (w3.heap[w.heap.size]? = some (.cells Zr_msg 69 (0, 0))) := by
            show _ = _
            rw [hw3]; exact setRow_heap _ _ _ _ 69 _ ((Below.heap_alloc w2 _ _ z2).trans g2.out)
          clear hw3 hw3h
          go_wp2
          refine bodyPost_ret (v := .tuple #[.agg Zr_msg, .bool false]) ?_ rfl ⟨Zr_msg, rfl, Zr_msg_o, by rw [HF.out], s3⟩
          simp [results, Try.results40, asAddr, run_loadVar_row w3 w.heap.size 69 69 Zr_msg (0, 0) _ g3.out Try.underlying69 rfl Zr_msg_i]

set_option maxHeartbeats 800000 in
theorem get_msg (a : Option Addr) (n cap : Nat) (l : List UInt8) (w : World) (hn : n = l.length) (hcap : n ≤ cap) (hbs : Bs w a l) (hbl : ∀ y, a = some y → y.block < w.heap.size) :
    Calls Try.prog 19 #[.slice a n cap] w fun e w' => ∃ cs : Array Value, cs.size = Zr_msg.size ∧ cs.all (·.oneCell') = true ∧ e = .returned (.tuple #[.agg cs, .bool (decide (P_msg (some l) = some []))]) ∧ Below w.heap.size w w' := by
  have hmf : ∀ (fn : Fn) (first cap : Array Value) (w : World), (Instr.makeFunc fn first cap).run Try.prog w = .ok (.func fn first cap) w := fun _ _ _ _ => rfl
  subst hn
  have g0 : Hid ((w.alloc (.cells Zr_msg 69)).heap[w.heap.size]? = some (.cells Zr_msg 69 (0, 0))) := heap_alloc_new w _
  have h0 : RG w.heap.size ((w.alloc (.cells Zr_msg 69)).alloc (.cells #[.slice a l.length cap, .bool false] 93)) (w.heap.size + 1) (some l) := rg_new _ a cap l _ _ (by rw [World.size_alloc]) (by rw [World.size_alloc]; omega) hcap (hbs.alloc _) hbl
  clear hbs hbl
  go_enter Try.func19, Try.ntmps19
  go_wp2_with fail
  refine (whole_msg (w.heap.size + 1) (some l) _ h0).mono ?_
  rintro e w1 ⟨cs, hcs, hco, rfl, s1⟩
  have hB : Below w.heap.size w w1 :=
    Below.trans (((Below.refl _ _).alloc (Nat.le_refl _) (.cells Zr_msg 69)).alloc (by rw [World.size_alloc]; omega) _) ⟨s1.os, s1.tape, s1.output, s1.size, fun k hk => s1.block k (by simp; omega) (by omega)⟩
  have g1 : Hid (w1.heap[w.heap.size]? = some (.cells Zr_msg 69 (0, 0))) := by
    show _ = _
    rw [s1.block _ (by simp; omega) (by omega), Below.heap_alloc _ _ _ (by rw [World.size_alloc]; omega)]; exact g0.out
  have HCS : Hid (cs.size = Zr_msg.size) := hcs
  have HCO : Hid (cs.all (·.oneCell') = true) := hco
  have HCI : Hid ((Try.prog.info? 69).map (·.size) = some cs.size) := by show _ = _; rw [hcs]; exact Zr_msg_i
  clear s1 g0 h0 hcs hco
  obtain ⟨okb, hokb⟩ : ∃ okb, Hid (decide (P_msg (some l) = some []) = okb) := ⟨_, rfl⟩
  rw [hokb.out]
  go_wp2_with (refine wpList_store_rowF rfl 69 (.tmp 2) (.tmp 12) rfl w.heap.size cs rfl rfl 69 _ g1.out HCI.out HCS.out.symm HCO.out ?next)
  case next =>
    intro w2 hw2h
    have hw2 := hw2h.out
    have g2 : Hid (w2.heap[w.heap.size]? = some (.cells cs 69 (0, 0))) := by
      show _ = _
      rw [hw2]; exact setRow_heap _ _ _ _ 69 _ g1.out
    have hB2 : Below w.heap.size w w2 := by
      rw [hw2]; exact hB.trans ⟨rfl, rfl, rfl, by simp [World.setRow], fun k hk => setRow_other _ _ _ _ (by omega)⟩
    clear hw2 hw2h
    go_wp2
    refine bodyPost_ret (v := .tuple #[.agg cs, .bool okb]) ?_ rfl ⟨cs, HCS.out, HCO.out, by rw [hokb.out], hB2⟩
    simp [results, Try.results19, asAddr, run_loadVar_row w2 w.heap.size 69 69 cs (0, 0) _ g2.out Try.underlying69 rfl HCI.out]

end Go.Proofs.Ytpbokgeaolpiaab
