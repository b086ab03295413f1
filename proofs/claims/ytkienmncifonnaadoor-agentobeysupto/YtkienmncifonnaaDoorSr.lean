/- Start on a disk; a new disk; Epoch. -/
import Derived.Test.YtkienmncifonnaaDoorTc
namespace Go.Proofs.YtkienmncifonnaaDoor
open Go.RowKit Go.Maps
variable {D : Nat} {w w' : World} {p : Nat} {s : Sg} {n c pd : Nat} {mv : Value} {G : Nat → Prop}
theorem fsB0 : fsB 0 = fs0 := by
  funext k
  unfold fsB fs0
  split <;> simp
theorem newB (w : World) : Calls Tryd.prog 6 #[] w fun e w' => e = .returned (.pointer (some ⟨w.heap.size + 1 + 1, 0, none⟩)) ∧ ∃ F, Bk w' (w.heap.size + 1 + 1) 0 0 [] (-1) 0 F ∧ Below w.heap.size w w' ∧ (∀ k, F k → w.heap.size ≤ k) := by
  refine (new_any w).mono ?_
  rintro e w' ⟨rfl, rfl⟩
  refine ⟨rfl, _, ⟨⟨_, _, _, _, _, [], (show mdB 0 0 [] (-1) = M0 by unfold mdB M0; rw [fsB0]; rfl) ▸ newR w, rfl, .inr rfl⟩, by decide, by decide, fun x hx => (by cases hx), rfl⟩, ?_, new_foot w⟩
  exact (((Below.refl _ w).alloc (Nat.le_refl _) _).alloc (by simp) _).alloc (by simp; omega) _
def a0 (sv : Int) : Ag := ⟨2, 0, 0, sv, 0, 0, 0, 0, 0, 0, 0, 0, 0, 0, 0, 0, 0, 0, 0, 0⟩
def a1 (sv : Int) (f : Nat) : Ag := { a0 sv with bt := (f : Int) + 1 }
def s1 (sv : Int) (f : Nat) : Sg := ⟨a1 sv f, tk0, f + 1, f + 1, [], -1⟩
set_option maxRecDepth 100000 in
theorem built77 (sv : Int) (pd : Nat) : Tryd.prog.built 77 [(0, .int .i64 2), (1, .agg #[.int .i64 0, .int .i64 0]), (2, .int .i64 sv), (3, .pointer (some ⟨pd, 0, none⟩))] = some (agC (a0 sv) pd (.map none)) := by kernel_rfl
set_option maxRecDepth 100000 in
theorem built30n : Tryd.prog.built 30 [(0, .int .i64 2)] = some (ndC 2 0 0 0 0 0) := by kernel_rfl
set_option maxHeartbeats 2000000 in
set_option maxRecDepth 100000 in
theorem start_any (sv : Int) (hsv : 1 ≤ sv ∧ sv ≤ 5) (f d : Nat) (L : List Nat) (F : Nat → Prop) (h : Bk w pd f d L (-1) c F) (hF : ∀ k, F k → D ≤ k) (hpd : D ≤ w.heap.size) (ht : Tb D w) (hf : f < 1099511627776) (hc : c + 1 ≤ 2199023255552) :
    Calls Tryd.prog 5 #[.agg (ndC 2 0 0 0 0 0), .int .i64 sv, .pointer (some ⟨pd, 0, none⟩)] w fun e w' => ∃ p, e = .returned (.tuple #[.pointer (some ⟨p, 0, none⟩), .int .i64 0]) ∧ AgS D w' p (s1 sv f) 0 (c + 1) ∧ FrA D w w' := by
  obtain ⟨W0, hW0⟩ : ∃ y, y = w.alloc (.cells (ndC 2 0 0 0 0 0) 30) := ⟨_, rfl⟩
  have hb : Below w.heap.size w W0 := by rw [hW0]; exact below1 w _
  have hr : W0.heap[w.heap.size]? = some (.cells (ndC 2 0 0 0 0 0) 30 (0, 0)) := by rw [hW0]; exact heap_alloc_new w _
  have h0 := h.below hb
  have HL := hidOf (lastBoot_any D pd f d c L (-1) F W0 h0 (by omega) (ht.below (hb.mono hpd)) (Nat.le_trans hpd hb.size))
  have HB := hidOf hb
  have HK := hidOf h0
  have HT := hidOf ht
  have HF := hidOf hF
  have HP := hidOf hpd
  have HLT := hidOf h.lt
  have r0 : W0.cell? ⟨w.heap.size, 0, none⟩ = some (.int .i64 2) := (cell_of_row _ _ 0 _ 30 (0, 0) hr).trans rfl
  have HR := hidOf hr
  have e1 : ¬ sv < 1 := by omega
  have e2 : ¬ 5 < sv := by omega
  have e3 : ((f : Int) == 1099511627776) = false := by
    have : (f : Int) ≠ 1099511627776 := by omega
    simp [this]
  have HFF := hidOf hf
  have HC := hidOf hc
  clear h h0 hb hr ht hF hpd hsv hf hc
  unfold ndC at hW0 ⊢
  go_enter Tryd.func5, Tryd.ntmps5
  go_upto_region 1 with (fail)
  rw [← hW0]
  clear hW0
  go_wp2_with (first | (go_at_call 17; go_must (refine HL.out.mono ?_; rintro e w1 ⟨rfl, hb1⟩; have HB1 := hidOf hb1; have q0 : w1.cell? ⟨w.heap.size, 0, none⟩ = some (.int .i64 2) := ((cell_of_row _ _ 0 _ 30 (0, 0) ((hb1.block _ (heap_lt HR.out)).trans HR.out)).trans rfl); have q1 : w1.cell? ⟨w.heap.size, 1, none⟩ = some (.int .i64 0) := ((cell_of_row _ _ 1 _ 30 (0, 0) ((hb1.block _ (heap_lt HR.out)).trans HR.out)).trans rfl); have q2 : w1.cell? ⟨w.heap.size, 2, none⟩ = some (.int .i64 0) := ((cell_of_row _ _ 2 _ 30 (0, 0) ((hb1.block _ (heap_lt HR.out)).trans HR.out)).trans rfl); clear hb1)) | (go_at_call 18; go_must (have hb2 : Below w.heap.size w (w1.alloc (.cells (agC (a0 sv) pd (.map none)) 77)) := (HB.out.trans (HB1.out.mono HB.out.size)).alloc (Nat.le_trans HB.out.size HB1.out.size) _; have hA : AgR D (w1.alloc (.cells (agC (a0 sv) pd (.map none)) 77)) w1.heap.size ⟨a0 sv, tk0, f, d, L, -1⟩ 0 c pd (.map none) F := ⟨heap_alloc_new w1 _, .inl ⟨rfl, rfl⟩, HK.out.below (((HB1.out).alloc HB1.out.size _)), (by have := HP.out; have := HB.out.size; have := HB1.out.size; omega), HF.out, (fun b e => by cases e), (fun e => by have := HLT.out _ e; have := HB.out.size; have := HB1.out.size; omega)⟩; refine (begin_any ⟨pd, _, F, hA⟩ (HT.out.below (hb2.mono HP.out)) (show f ≤ _ by have := HFF.out; omega) HC.out).mono ?_; rintro e w3 ⟨he, ha, hf3⟩; have he : e = .returned (.int .i64 0) := (by rw [he]; unfold begE; simp [lessOne, Nat.ne_of_lt HFF.out]); subst he; have hs : begS ⟨a0 sv, tk0, f, d, L, -1⟩ = s1 sv f := (by unfold begS s1 a1; simp [lessOne, Nat.ne_of_lt HFF.out]); rw [hs] at ha; have HA := hidOf ha; have HFR := hidOf ((FrA.of_below hb2).trans hf3); clear ha hf3 hb2 hA hs)))
  go_ret2
  exact ⟨_, rfl, HA.out, HFR.out⟩
end Go.Proofs.YtkienmncifonnaaDoor
