/- What the reader's number does on a zero byte: it returns nought and goes on by one byte; nothing but the reader has turned. -/
import Derived.Test.YtcdoejdbmllnnabGreatPutz
import Derived.Test.YtcdoejdbmllnnabGreatUnfr
namespace Go.Proofs.YtcdoejdbmllnnabGreat
open Go.RowKit

/- a reader at block p with k zero bytes left, which lie in block b -/
def RD (w : World) (p b k : Nat) : Prop :=
  p < w.heap.size ∧ b ≠ p ∧ b < w.heap.size ∧ ∃ a cap, w.cell? ⟨p, 0, none⟩ = some (.slice a k cap) ∧ w.cell? ⟨p, 1, none⟩ = some (.bool false) ∧ w.frozen? ⟨p, 0, none⟩ = false ∧ w.frozen? ⟨p, 1, none⟩ = false ∧
    k ≤ cap ∧ k ≤ 1000 ∧ (0 < k → ∃ off, a = some ⟨b, off, none⟩ ∧ ∀ j, j < k → w.cell? ⟨b, off + j, none⟩ = some (.int .u8 0))
structure RS (w w' : World) (p : Nat) : Prop where
  os : w'.os = w.os
  tape : w'.tape = w.tape
  output : w'.output = w.output
  size : w.heap.size ≤ w'.heap.size
  block : ∀ k, k < w.heap.size → k ≠ p → w'.heap[k]? = w.heap[k]?
theorem RS.refl (w : World) (p : Nat) : RS w w p := ⟨rfl, rfl, rfl, Nat.le_refl _, fun _ _ _ => rfl⟩
theorem RS.trans {a b c : World} {p : Nat} (h : RS a b p) (k : RS b c p) : RS a c p :=
  ⟨k.os.trans h.os, k.tape.trans h.tape, k.output.trans h.output, Nat.le_trans h.size k.size, fun i hi hp => (k.block i (Nat.lt_of_lt_of_le hi h.size) hp).trans (h.block i hi hp)⟩
theorem RS.alloc {a w : World} {p : Nat} (h : RS a w p) (o : Obj) : RS a (w.alloc o) p := h.trans ⟨rfl, rfl, rfl, by simp, fun k hk _ => Below.heap_alloc w o k hk⟩
/- the row of a new block is stored -/
theorem RS.setRow {a w : World} {p g : Nat} (h : RS a w p) (hg : a.heap.size ≤ g) (cs : Array Value) : RS a (w.setRow g cs) p :=
  ⟨h.os, h.tape, h.output, by simp [World.setRow]; exact h.size, fun k hk hp => (setRow_other w g k cs (by omega)).trans (h.block k hk hp)⟩
theorem RD.kept {w w' : World} {p b k : Nat} (h : RD w p b k) (hs : w.heap.size ≤ w'.heap.size) (hp : w'.heap[p]? = w.heap[p]?) (hb : w'.heap[b]? = w.heap[b]?) : RD w' p b k := by
  obtain ⟨h1, h2, h3, a, cap, h4, h5, h6, h7, h8, h9, h10⟩ := h
  refine ⟨by omega, h2, by omega, a, cap, (World.cell?_of_block hp).trans h4, (World.cell?_of_block hp).trans h5, (World.frozen?_of_block hp).trans h6, (World.frozen?_of_block hp).trans h7, h8, h9, fun hk => ?_⟩
  obtain ⟨off, e, hc⟩ := h10 hk
  exact ⟨off, e, fun j hj => (World.cell?_of_block (a := ⟨b, off + j, none⟩) hb).trans (hc j hj)⟩
theorem RD.alloc {w : World} {p b k : Nat} (h : RD w p b k) (o : Obj) : RD (w.alloc o) p b k := h.kept (by simp) (Below.heap_alloc w o p h.1) (Below.heap_alloc w o b h.2.2.1)
theorem RD.setRow {w : World} {p b k g : Nat} (h : RD w p b k) (hp : p ≠ g) (hb : b ≠ g) (cs : Array Value) : RD (w.setRow g cs) p b k :=
  h.kept (by simp [World.setRow]) (setRow_other w g p cs hp) (setRow_other w g b cs hb)

set_option maxHeartbeats 400000 in
theorem unfold_zero (w : World) : Calls Tryz.prog 91 #[.int .i64 0] w fun e w' => e = .returned (.int .i64 0) ∧ w' = w := by
  go_enter Tryz.func91, Tryz.ntmps91
  go_wp2
  go_ret
  exact ⟨rfl, rfl⟩

theorem slice_l (a : Option Addr) (k cap : Nat) (hk : 1 ≤ k) (w : World) :
    (Instr.slice 32 (.slice a k cap) (some (.int .i64 1)) none none).run Tryz.prog w = .ok (.slice (if cap = 1 then a else a.map (·.add 1)) (k - 1) (cap - 1)) w := by
  rw [run_slice_l (P := Tryz.prog) w 32 a k cap Tryz.elem22 .i64 1 (by omega) (by omega), Tryz.size5]
  rfl

theorem RD.next {w : World} {p b off k cap : Nat} (h : RD w p b (k + 1)) (h4 : w.cell? ⟨p, 0, none⟩ = some (.slice (some ⟨b, off, none⟩) (k + 1) cap)) (hc : ∀ j, j < k + 1 → w.cell? ⟨b, off + j, none⟩ = some (.int .u8 0)) (v : Value)
    (hv : v = .slice (if cap = 1 then some ⟨b, off, none⟩ else (some (⟨b, off, none⟩ : Addr)).map (·.add 1)) k (cap - 1)) : RD (w.setCell ⟨p, 0, none⟩ v) p b k ∧ RS w (w.setCell ⟨p, 0, none⟩ v) p := by
  obtain ⟨h1, h2, h3, a, cap', h4', h5, h6, h7, h8, h9, h10⟩ := h
  rw [h4] at h4'
  simp only [Option.some.injEq, Value.slice.injEq] at h4'
  obtain ⟨_, _, rfl⟩ := h4'
  refine ⟨⟨by simpa using h1, h2, by simpa using h3, if cap = 1 then some ⟨b, off, none⟩ else (some (⟨b, off, none⟩ : Addr)).map (·.add 1), cap - 1, ?_, ?_, by rw [World.frozen?_setCell]; exact h6, by rw [World.frozen?_setCell]; exact h7, by omega, by omega, fun hk => ?_⟩, ⟨rfl, rfl, rfl, by simp, fun j hj hp => Below.heap_setCell w ⟨p, 0, none⟩ v j hp⟩⟩
  · rw [← hv]; exact World.cell?_setCell_same w _ _ h4
  · rw [World.cell?_setCell_other w _ _ _ (by simp)]; exact h5
  · rw [if_neg (by omega)]
    refine ⟨off + 1, by simp [Addr.add_lit], fun j hj => ?_⟩
    rw [World.cell?_of_block (w := w) (Below.heap_setCell w ⟨p, 0, none⟩ v b h2), Nat.add_assoc]
    exact hc (1 + j) (by omega)

set_option maxHeartbeats 400000 in
set_option maxRecDepth 100000 in
theorem number_r (p b k : Nat) (w : World) (h : RD w p b (k + 1)) : Calls Tryz.prog 62 #[.pointer (some ⟨p, 0, none⟩)] w fun e w' => e = .returned (.int .i64 0) ∧ RD w' p b k ∧ RS w w' p := by
  have H := h
  obtain ⟨h1, h2, h3, a, cap, h4, h5, h6, h7, h8, h9, h10⟩ := h
  obtain ⟨off, rfl, hc⟩ := h10 (by omega)
  obtain ⟨a', HA, hs⟩ : ∃ a', Hid (a' = if cap = 1 then some ⟨b, off, none⟩ else (some (⟨b, off, none⟩ : Addr)).map (·.add 1)) ∧ ∀ w, (Instr.slice 32 (.slice (some ⟨b, off, none⟩) (k + 1) cap) (some (.int .i64 1)) none none).run Tryz.prog w = .ok (.slice a' k (cap - 1)) w :=
    ⟨_, rfl, slice_l (some ⟨b, off, none⟩) (k + 1) cap (by omega)⟩
  have hc0 : w.cell? ⟨b, off, none⟩ = some (.int .u8 0) := hc 0 (by omega)
  have HC : Hid _ := hc
  have HF : Hid (foldN 1099511627776 = 2199023255552) := rfl
  clear h10 hc
  go_enter Tryz.func62, Tryz.ntmps62
  go_wp2
  all_goals
    refine wp_loop_rounds 1 ?_
    rw [rounds_succ]
    go_wp2_with fail
    refine (fold_any 1099511627776 w (by omega) (by omega)).mono ?_
    rintro e w1 ⟨rfl, hw⟩
    subst hw
    rw [HF.out]
    go_wp2_with fail
    refine (unfold_zero _).mono ?_
    rintro e w2 ⟨rfl, hw⟩
    subst hw
    go_wp2
    go_ret
    obtain ⟨r1, r2⟩ := RD.next H h4 HC.out (.slice a' k (cap - 1)) (by rw [HA.out])
    exact ⟨rfl, r1, r2⟩
end Go.Proofs.YtcdoejdbmllnnabGreat
