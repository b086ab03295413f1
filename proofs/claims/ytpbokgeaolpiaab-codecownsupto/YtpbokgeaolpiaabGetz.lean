/- What GetCmd returns for 27 zero bytes: the zero command, and true. -/
import Derived.Test.YtpbokgeaolpiaabRzer
namespace Go.Proofs.Ytpbokgeaolpiaab
open Go.RowKit

theorem alloc50 (w : World) : (Instr.alloc 65 true (.tuple #[])).run Try.prog w = .ok (.pointer (some ⟨w.heap.size, 0, none⟩)) (w.alloc (.cells Zcmd 65)) := by kernel_rfl

theorem cmd_rz (p b m k : Nat) (w : World) (hm : m = k + 27) (h : RD w p b m) : Calls Try.prog 43 #[.pointer (some ⟨p, 0, none⟩)] w fun e w' => e = .returned (.agg Zcmd) ∧ RD w' p b k ∧ RS w w' p := cmd_r p b m k w hm h

theorem Zi : (Try.prog.info? 65).map (·.size) = some Zcmd.size := by kernel_rfl
theorem Zo : Zcmd.all (·.oneCell') = true := by kernel_rfl

theorem wpList_store_rowF {ops : Array Oper} {rest : List Oper} {o : Oper} {a : Act} {w : World} {Q : Exit → Act → World → Prop} (hgd : o.guard = none) (ty : TypeId) (x y : Operand) (ho : o.op = .store ty x y)
    (g : Nat) (cells : Array Value) (hx : a.eval x = .pointer (some ⟨g, 0, none⟩)) (hy : a.eval y = .agg cells)
    (t : TypeId) (old : Array Value) (hg : w.heap[g]? = some (.cells old t (0, 0))) (hi : (Try.prog.info? ty).map (·.size) = some cells.size)
    (hold : old.size = cells.size) (h1 : cells.all (·.oneCell') = true)
    (h : ∀ w2, Hid (w2 = w.setRow g cells) → wpList Try.prog ops Q rest (a.put o.dst undef) w2) : wpList Try.prog ops Q (o :: rest) a w :=
  wpList_store_row hgd ty x y ho g cells hx hy t old hg hi hold h1 (h _ rfl)

set_option maxHeartbeats 400000 in
theorem whole_z (p b : Nat) (w : World) (h : RD w p b 27) :
    Calls Try.prog 42 #[.pointer (some ⟨p, 0, none⟩), .func (.func 43) #[.pointer (some ⟨p, 0, none⟩)] #[]] w fun e w' => e = .returned (.tuple #[.agg Zcmd, .bool true]) ∧ RS w w' p := by
  have h0 : RD (w.alloc (.cells Zcmd 65)) p b 27 := h.alloc _
  have g0 : Hid ((w.alloc (.cells Zcmd 65)).heap[w.heap.size]? = some (.cells Zcmd 65 (0, 0))) := heap_alloc_new w _
  have z0 : Hid (w.heap.size < (w.alloc (.cells Zcmd 65)).heap.size) := by show _ < _; rw [World.size_alloc]; omega
  have s0 : RS w (w.alloc (.cells Zcmd 65)) p := (RS.refl _ _).alloc _
  have hpq : Hid (p ≠ w.heap.size) := by have := h.1; show p ≠ _; omega
  have hbq : Hid (b ≠ w.heap.size) := by have := h.2.2.1; show b ≠ _; omega
  clear h
  go_enter Try.func42, Try.ntmps42
  go_wp2_with fail
  refine (cmd_rz p b _ 0 _ rfl h0).mono ?_
  rintro e w1 ⟨rfl, h1, t1⟩
  have s1 := s0.trans t1
  have g1 : Hid (w1.heap[w.heap.size]? = some (.cells Zcmd 65 (0, 0))) := (t1.block _ z0.out hpq.out.symm).trans g0.out
  have z1 : w.heap.size < w1.heap.size := Nat.lt_of_lt_of_le z0.out t1.size
  clear g0 z0 s0 t1 h0
  go_wp2_with (refine wpList_store_rowF rfl 65 (.tmp 6) (.tmp 9) rfl w1.heap.size Zcmd rfl rfl 65 _ (heap_alloc_new w1 _) Zi rfl Zo ?next)
  case next =>
    intro w2 hw2h
    have hw2 := hw2h.out
    have h2 : RD w2 p b 0 := by rw [hw2]; exact (h1.alloc _).setRow (by have := h1.1; omega) (by have := h1.2.2.1; omega) _
    have s2 : RS w w2 p := by rw [hw2]; exact (s1.alloc _).setRow (by omega) _
    have g2 : Hid (w2.heap[w.heap.size]? = some (.cells Zcmd 65 (0, 0))) := by
      show _ = _
      rw [hw2, setRow_other _ _ _ _ (by omega), Below.heap_alloc _ _ _ z1]; exact g1.out
    have k2 : Hid (w2.heap[w1.heap.size]? = some (.cells Zcmd 65 (0, 0))) := by
      show _ = _
      rw [hw2]; exact setRow_heap _ _ _ _ 65 _ (heap_alloc_new w1 _)
    clear hw2 hw2h g1 h1 s1
    have H2 := h2
    obtain ⟨_, _, _, a, cap, c0, c1, _, _, _, _, _⟩ := h2
    go_wp2_with (first
      | (refine wpList_load_row rfl 65 (.tmp 6) rfl w1.heap.size rfl 65 Zcmd (0, 0) _ k2.out Try.underlying65 rfl Zi ?_)
      | (refine wpList_store_rowF rfl 65 (.tmp 4) (.tmp 23) rfl w.heap.size Zcmd rfl rfl 65 Zcmd g2.out Zi rfl Zo ?next2))
    case next2 =>
      intro w3 hw3h
      have hw3 := hw3h.out
      have s3 : RS w w3 p := by rw [hw3]; exact s2.setRow (Nat.le_refl _) _
      have g3 : Hid (w3.heap[w.heap.size]? = some (.cells Zcmd 65 (0, 0))) := by
        show _ = _
        rw [hw3]; exact setRow_heap _ _ Zcmd _ 65 _ g2.out
      clear hw3 hw3h
      go_wp2
      refine bodyPost_ret (v := .tuple #[.agg Zcmd, .bool true]) ?_ rfl ⟨rfl, s3⟩
      simp [results, Try.results42, asAddr, run_loadVar_row w3 w.heap.size 65 65 Zcmd (0, 0) _ g3.out Try.underlying65 rfl Zi]

theorem bat_zs (k j : Nat) : bat (zs k) j = 0 := by
  unfold bat bn zs
  rw [List.getD_eq_getElem?_getD, List.getElem?_replicate]
  split <;> rfl

theorem rd_new (w : World) (g cap n : Nat) (hn : n = w.heap.size) (h : Own w (.slice (some ⟨g, 0, none⟩) 27 cap) (zs 27)) :
    RD (w.alloc (.cells #[.slice (some ⟨g, 0, none⟩) 27 cap, .bool false] 93)) n g 27 := by
  subst hn
  have hg := h.lt g rfl
  obtain ⟨a, c, e, hb⟩ := h.form
  rw [zs_length] at e hb
  cases e
  obtain ⟨b, off, e, hlt, hc⟩ := (hb (by omega)).2 (by simp [zs])
  cases e
  have hcap : 27 ≤ cap := by
    rcases h with ⟨h, _⟩ | ⟨g', cap', cur, h, _, hl, _⟩
    · cases h
    · rw [zs_length] at h hl; cases h; exact hl
  refine ⟨by simp, by omega, by simp; omega, some ⟨g, 0, none⟩, cap, ?_, ?_, ?_, ?_, hcap, by omega, fun _ => ⟨0, rfl, fun j hj => ?_⟩⟩
  · rw [World.cell?_alloc_at _ _ _ _ rfl]; rfl
  · rw [World.cell?_alloc_at _ _ _ _ rfl]; rfl
  · exact World.frozen?_alloc_at _ _ _ _ rfl
  · exact World.frozen?_alloc_at _ _ _ _ rfl
  · rw [World.cell?_alloc_past _ _ _ hlt, hc j (by rw [zs_length]; exact hj), bat_zs]

set_option maxHeartbeats 400000 in
theorem getCmd_z (v : Value) (w : World) (h : Own w v (zs 27)) :
    Calls Try.prog 20 #[v] w fun e w' => e = .returned (.tuple #[.agg Zcmd, .bool true]) ∧ Below w.heap.size w w' := by
  have hmf : ∀ (fn : Fn) (first cap : Array Value) (w : World), (Instr.makeFunc fn first cap).run Try.prog w = .ok (.func fn first cap) w := fun _ _ _ _ => rfl
  obtain ⟨g, cap, hv⟩ : ∃ g cap, v = .slice (some ⟨g, 0, none⟩) 27 cap := by
    rcases h with ⟨_, h⟩ | ⟨g, cap, cur, h, _⟩
    · simp [zs] at h
    · exact ⟨g, cap, h⟩
  subst hv
  have g0 : Hid ((w.alloc (.cells Zcmd 65)).heap[w.heap.size]? = some (.cells Zcmd 65 (0, 0))) := heap_alloc_new w _
  have h0 := rd_new (w.alloc (.cells Zcmd 65)) g cap (w.heap.size + 1) (by rw [World.size_alloc]) (h.alloc _)
  go_enter Try.func20, Try.ntmps20
  go_wp2_with fail
  refine (whole_z (w.heap.size + 1) g _ h0).mono ?_
  rintro e w1 ⟨rfl, s1⟩
  have hB : Below w.heap.size w w1 :=
    Below.trans (((Below.refl _ _).alloc (Nat.le_refl _) (.cells Zcmd 65)).alloc (by rw [World.size_alloc]; omega) _) ⟨s1.os, s1.tape, s1.output, s1.size, fun k hk => s1.block k (by simp; omega) (by omega)⟩
  have g1 : Hid (w1.heap[w.heap.size]? = some (.cells Zcmd 65 (0, 0))) := by
    show _ = _
    rw [s1.block _ (by simp; omega) (by omega), Below.heap_alloc _ _ _ (by rw [World.size_alloc]; omega)]; exact g0.out
  clear s1 g0 h0
  go_wp2_with (refine wpList_store_rowF rfl 65 (.tmp 2) (.tmp 12) rfl w.heap.size Zcmd rfl rfl 65 _ g1.out Zi rfl Zo ?next)
  case next =>
    intro w2 hw2h
    have hw2 := hw2h.out
    have g2 : Hid (w2.heap[w.heap.size]? = some (.cells Zcmd 65 (0, 0))) := by
      show _ = _
      rw [hw2]; exact setRow_heap _ _ _ _ 65 _ g1.out
    have hB2 : Below w.heap.size w w2 := by
      rw [hw2]; exact hB.trans ⟨rfl, rfl, rfl, by simp [World.setRow], fun k hk => setRow_other _ _ _ _ (by omega)⟩
    clear hw2 hw2h
    go_wp2
    refine bodyPost_ret (v := .tuple #[.agg Zcmd, .bool true]) ?_ rfl ⟨rfl, hB2⟩
    simp [results, Try.results20, asAddr, run_loadVar_row w2 w.heap.size 65 65 Zcmd (0, 0) _ g2.out Try.underlying65 rfl Zi]
end Go.Proofs.Ytpbokgeaolpiaab
