/- The example works. -/
import Derived.Test.YtkokkdekbilkjaaSl
import Derived.Test.YtkokkdekbilkjaaCn
namespace Go.Proofs.Ytkokkdekbilkjaa
open Go.RowKit Go.Shelf
attribute [local go_sem] Oper.semAt_some
def kJ (p : Nat) : Js := ⟨1, 1, 0, 0, some ⟨p, 0, none⟩, 1, 1, 2, false⟩
def kD : Jb := ⟨1, 1, 0, 0, [⟨2, 0, 0⟩], 2, false⟩
def kA : List Al := [⟨5, 1, 2, 0, 0, 3, 0, 10, 1, false, 2⟩, ⟨6, 1, 2, 0, 1, 3, 0, 10, 1, false, 6⟩]
def kS (q r : Nat) : Sc := ⟨0, 0, some ⟨q, 0, none⟩, 1, 1, none, 0, 0, none, 0, 0, some ⟨r, 0, none⟩, 2, 2, none, 0, 0, none, 0, 0, none, 0, 0⟩
structure Kn (w : World) (p q r : Nat) : Prop where
  g : w.heap[p]? = some (.cells #[.int .i64 2, .int .i64 0, .int .i64 0] 57 (0, 0))
  j : w.heap[q]? = some (.cells #[.int .i64 1, .int .i64 1, .int .i64 0, .int .i64 0, .slice (some ⟨p, 0, none⟩) 1 1, .int .i64 2, .bool false] 55 (0, 0))
  a : w.heap[r]? = some (.cells #[.int .i64 5, .int .i64 1, .int .i64 2, .int .i64 0, .int .i64 0, .int .i64 3, .int .i64 0, .int .i64 10, .int .i64 1, .bool false, .int .i64 2, .int .i64 6, .int .i64 1, .int .i64 2, .int .i64 0, .int .i64 1, .int .i64 3, .int .i64 0, .int .i64 10, .int .i64 1, .bool false, .int .i64 6] 33 (0, 0))
theorem Kn.grow {w w' : World} {p q r : Nat} (h : Kn w p q r) (hb : Below w.heap.size w w') : Kn w' p q r := ⟨(hb.block _ (heap_lt h.g)).trans h.g, (hb.block _ (heap_lt h.j)).trans h.j, (hb.block _ (heap_lt h.a)).trans h.a⟩
theorem row_range {w : World} {b o : Nat} {cur : Array Value} {t : TypeId} (h : w.heap[b]? = some (.cells cur t (0, 0))) {cs : List Value} (hc : ∀ j v, cs[j]? = some v → cur[o + j]? = some v) : w.rangeAt b o cs := fun j v hj => by
  rw [cell_of_row w b _ cur t (0, 0) h]; exact hc j v hj
theorem Kn.jobs {w : World} {p q r : Nat} (h : Kn w p q r) : JbR w (fun b => b < w.heap.size) (some ⟨q, 0, none⟩) [kJ p] [kD] := by
  refine ⟨rfl, ⟨by simp, fun _ => ⟨q, 0, rfl, heap_lt h.j, fun i hi => ?_⟩⟩, fun i h1 h2 => ?_⟩
  · have : i = 0 := by simp at hi; omega
    subst this
    refine row_range h.j (fun j v hj => ?_)
    simp only [Nat.zero_mul, Nat.zero_add]
    have hl : ([.int .i64 1, .int .i64 1, .int .i64 0, .int .i64 0, .slice (some ⟨p, 0, none⟩) 1 1, .int .i64 2, .bool false] : List Value)[j]? = some v := hj
    simpa using hl
  · have : i = 0 := by simp at h2; omega
    subst this
    refine ⟨some ⟨p, 0, none⟩, 1, rfl, ⟨by simp [kD], fun _ => ⟨p, 0, rfl, heap_lt h.g, fun i hi => ?_⟩⟩⟩
    have : i = 0 := by simp [kD] at hi; omega
    subst this
    refine row_range h.g (fun j v hj => ?_)
    simp only [Nat.zero_mul, Nat.zero_add]
    have hl : ([.int .i64 2, .int .i64 0, .int .i64 0] : List Value)[j]? = some v := hj
    simpa using hl
theorem Kn.allocs {w : World} {p q r : Nat} (h : Kn w p q r) : Fl w (fun b => b < w.heap.size) 11 88 Al.cs (some ⟨r, 0, none⟩) kA := by
  refine ⟨by simp [kA], fun _ => ⟨r, 0, rfl, heap_lt h.a, fun i hi => ?_⟩⟩
  have : i = 0 ∨ i = 1 := by simp [kA] at hi; omega
  rcases this with rfl | rfl
  · refine row_range h.a (fun j v hj => ?_)
    have hj11 : j < 11 := (List.getElem?_eq_some_iff.1 hj).1
    have hl : ([.int .i64 5, .int .i64 1, .int .i64 2, .int .i64 0, .int .i64 0, .int .i64 3, .int .i64 0, .int .i64 10, .int .i64 1, .bool false, .int .i64 2] : List Value)[j]? = some v := hj
    simp only [Nat.zero_mul, Nat.zero_add]
    have : (([.int .i64 5, .int .i64 1, .int .i64 2, .int .i64 0, .int .i64 0, .int .i64 3, .int .i64 0, .int .i64 10, .int .i64 1, .bool false, .int .i64 2] : List Value) ++ [.int .i64 6, .int .i64 1, .int .i64 2, .int .i64 0, .int .i64 1, .int .i64 3, .int .i64 0, .int .i64 10, .int .i64 1, .bool false, .int .i64 6])[j]? = some v := by rw [List.getElem?_append_left (by simpa using hj11)]; exact hl
    simpa using this
  · refine row_range h.a (fun j v hj => ?_)
    have hl : ([.int .i64 6, .int .i64 1, .int .i64 2, .int .i64 0, .int .i64 1, .int .i64 3, .int .i64 0, .int .i64 10, .int .i64 1, .bool false, .int .i64 6] : List Value)[j]? = some v := hj
    have : (([.int .i64 5, .int .i64 1, .int .i64 2, .int .i64 0, .int .i64 0, .int .i64 3, .int .i64 0, .int .i64 10, .int .i64 1, .bool false, .int .i64 2] : List Value) ++ [.int .i64 6, .int .i64 1, .int .i64 2, .int .i64 0, .int .i64 1, .int .i64 3, .int .i64 0, .int .i64 10, .int .i64 1, .bool false, .int .i64 6])[11 + j]? = some v := by rw [List.getElem?_append_right (by simp), show 11 + j - ([.int .i64 5, .int .i64 1, .int .i64 2, .int .i64 0, .int .i64 0, .int .i64 3, .int .i64 0, .int .i64 10, .int .i64 1, .bool false, .int .i64 2] : List Value).length = j by simp]; exact hl
    rw [show 0 + 1 * 11 + j = 11 + j by omega]
    simpa using this
theorem alloc_at {w : World} {k : Nat} {o : Obj} (h : w.heap[k]? = some o) (o' : Obj) : (w.alloc o').heap[k]? = some o := (Below.heap_alloc w o' k (heap_lt h)).trans h
theorem six (w : World) (a b c d e f : Obj) : ((((((w.alloc a).alloc b).alloc c).alloc d).alloc e).alloc f).heap[w.heap.size]? = some a ∧ ((((((w.alloc a).alloc b).alloc c).alloc d).alloc e).alloc f).heap[w.heap.size + 1 + 1 + 1]? = some d ∧ ((((((w.alloc a).alloc b).alloc c).alloc d).alloc e).alloc f).heap[w.heap.size + 1 + 1 + 1 + 1]? = some e ∧ ((((((w.alloc a).alloc b).alloc c).alloc d).alloc e).alloc f).heap[w.heap.size + 1 + 1 + 1 + 1 + 1]? = some f := by
  have h4 := heap_alloc_new (((w.alloc a).alloc b).alloc c) d
  have h5 := heap_alloc_new ((((w.alloc a).alloc b).alloc c).alloc d) e
  have h6 := heap_alloc_new (((((w.alloc a).alloc b).alloc c).alloc d).alloc e) f
  simp only [World.size_alloc] at h4 h5 h6
  exact ⟨alloc_at (alloc_at (alloc_at (alloc_at (alloc_at (heap_alloc_new w a) _) _) _) _) _, alloc_at (alloc_at h4 _) _, alloc_at h5 _, h6⟩
set_option maxRecDepth 100000 in
set_option maxHeartbeats 2000000 in
theorem known_any (w : World) : Calls Try.prog 45 #[] w fun e w' => ∃ p q r, e = .returned (.agg #[.int .i64 0, .int .i64 0, .slice (some ⟨q, 0, none⟩) 1 1, .slice none 0 0, .slice none 0 0, .slice (some ⟨r, 0, none⟩) 2 2, .slice none 0 0, .slice none 0 0, .slice none 0 0]) ∧ Kn w' p q r ∧ Below w.heap.size w w' := by
  go_enter Try.func45, Try.ntmps45
  go_wp2
  have hb0 := below1 w (.cells #[.int .i64 0, .int .i64 0, .slice (some ⟨w.heap.size + 1 + 1 + 1 + 1, 0, none⟩) 1 1, .slice none 0 0, .slice none 0 0, .slice (some ⟨w.heap.size + 1 + 1 + 1 + 1 + 1, 0, none⟩) 2 2, .slice none 0 0, .slice none 0 0, .slice none 0 0] 29)
  refine bodyPost_ret (results_cell_row Try.results45 _ _ w.heap.size 29 #[.int .i64 0, .int .i64 0, .slice (some ⟨w.heap.size + 1 + 1 + 1 + 1, 0, none⟩) 1 1, .slice none 0 0, .slice none 0 0, .slice (some ⟨w.heap.size + 1 + 1 + 1 + 1 + 1, 0, none⟩) 2 2, .slice none 0 0, .slice none 0 0, .slice none 0 0] (0, 0) _ rfl ?_ Try.underlying29 rfl (by kernel_rfl)) rfl ⟨w.heap.size + 1 + 1 + 1, w.heap.size + 1 + 1 + 1 + 1, w.heap.size + 1 + 1 + 1 + 1 + 1, rfl, ⟨?_, ?_, ?_⟩, ?_⟩
  · exact (six w _ _ _ _ _ _).1
  · exact (six w _ _ _ _ _ _).2.1
  · exact (six w _ _ _ _ _ _).2.2.1
  · exact (six w _ _ _ _ _ _).2.2.2
  · exact (((((hb0.alloc (by simp) _).alloc (by simp; omega) _).alloc (by simp; omega) _).alloc (by simp; omega) _).alloc (by simp; omega) _)
structure Lv (w W : World) (p q r B : Nat) : Prop where
  k : Kn W p q r
  s : W.rangeAt B 0 [.int .i64 0, .int .i64 0, .slice (some ⟨q, 0, none⟩) 1 1, .slice none 0 0, .slice none 0 0, .slice (some ⟨r, 0, none⟩) 2 2, .slice none 0 0, .slice none 0 0, .slice none 0 0]
  b : Below w.heap.size w W
  l : B < W.heap.size
theorem Lv.grow {w W W' : World} {p q r B : Nat} (h : Lv w W p q r B) (hb : Below W.heap.size W W') : Lv w W' p q r B := ⟨h.k.grow hb, range_of h.s (hb.block _ h.l), h.b.trans (hb.mono h.b.size), Nat.lt_of_lt_of_le h.l hb.size⟩
theorem kSlots (p q r : Nat) (W : World) (h : Kn W p q r) : Calls Try.prog 23 #[.agg #[.int .i64 0, .int .i64 0, .slice (some ⟨q, 0, none⟩) 1 1, .slice none 0 0, .slice none 0 0, .slice (some ⟨r, 0, none⟩) 2 2, .slice none 0 0, .slice none 0 0, .slice none 0 0], .int .i64 1] W fun e w' => e = .returned (.tuple #[.int .i64 2, .int .i64 1]) ∧ Below W.heap.size W w' := by
  have hc := slots_any (kS q r) 1 [kJ p] [kD] kA W rfl rfl h.jobs h.allocs
  simp only [kS] at hc
  exact hc.mono (fun e w' ⟨h1, h2⟩ => ⟨by rw [h1]; rfl, h2⟩)
theorem kA6 (p q r : Nat) (W : World) (h : Kn W p q r) : Calls Try.prog 12 #[.agg #[.int .i64 0, .int .i64 0, .slice (some ⟨q, 0, none⟩) 1 1, .slice none 0 0, .slice none 0 0, .slice (some ⟨r, 0, none⟩) 2 2, .slice none 0 0, .slice none 0 0, .slice none 0 0], .int .i64 6] W fun e w' => e = .returned (.int .i64 1) ∧ Below W.heap.size W w' := by
  have hc := alloc_any (kS q r) 6 kA W rfl h.allocs
  simp only [kS] at hc
  exact hc.mono (fun e w' ⟨h1, h2⟩ => ⟨by rw [h1]; rfl, h2⟩)
theorem kA7 (p q r : Nat) (W : World) (h : Kn W p q r) : Calls Try.prog 12 #[.agg #[.int .i64 0, .int .i64 0, .slice (some ⟨q, 0, none⟩) 1 1, .slice none 0 0, .slice none 0 0, .slice (some ⟨r, 0, none⟩) 2 2, .slice none 0 0, .slice none 0 0, .slice none 0 0], .int .i64 7] W fun e w' => e = .returned (.int .i64 (-1)) ∧ Below W.heap.size W w' := by
  have hc := alloc_any (kS q r) 7 kA W rfl h.allocs
  simp only [kS] at hc
  exact hc.mono (fun e w' ⟨h1, h2⟩ => ⟨by rw [h1]; rfl, h2⟩)
theorem kL0 (p q r : Nat) (W : World) (h : Kn W p q r) : Calls Try.prog 27 #[.agg #[.int .i64 0, .int .i64 0, .slice (some ⟨q, 0, none⟩) 1 1, .slice none 0 0, .slice none 0 0, .slice (some ⟨r, 0, none⟩) 2 2, .slice none 0 0, .slice none 0 0, .slice none 0 0], .int .i64 1, .int .i64 0, .int .i64 0] W fun e w' => e = .returned (.int .i64 0) ∧ Below W.heap.size W w' := by
  have hc := slot_any (kS q r) 1 0 0 kA W rfl h.allocs
  simp only [kS] at hc
  exact hc.mono (fun e w' ⟨h1, h2⟩ => ⟨by rw [h1]; rfl, h2⟩)
theorem kL1 (p q r : Nat) (W : World) (h : Kn W p q r) : Calls Try.prog 27 #[.agg #[.int .i64 0, .int .i64 0, .slice (some ⟨q, 0, none⟩) 1 1, .slice none 0 0, .slice none 0 0, .slice (some ⟨r, 0, none⟩) 2 2, .slice none 0 0, .slice none 0 0, .slice none 0 0], .int .i64 1, .int .i64 0, .int .i64 1] W fun e w' => e = .returned (.int .i64 (-1)) ∧ Below W.heap.size W w' := by
  have hc := slot_any (kS q r) 1 0 1 kA W rfl h.allocs
  simp only [kS] at hc
  exact hc.mono (fun e w' ⟨h1, h2⟩ => ⟨by rw [h1]; rfl, h2⟩)
theorem kU (p q r : Nat) (W : World) (h : Kn W p q r) : Calls Try.prog 25 #[.agg #[.int .i64 0, .int .i64 0, .slice (some ⟨q, 0, none⟩) 1 1, .slice none 0 0, .slice none 0 0, .slice (some ⟨r, 0, none⟩) 2 2, .slice none 0 0, .slice none 0 0, .slice none 0 0], .int .i64 3] W fun e w' => e = .returned (.agg #[.int .i64 10, .int .i64 1]) ∧ Below W.heap.size W w' := by
  have hc := used_any (kS q r) 3 kA W rfl h.allocs
  simp only [kS] at hc
  exact hc.mono (fun e w' ⟨h1, h2⟩ => ⟨by rw [h1]; rfl, h2⟩)
set_option maxRecDepth 100000 in
set_option maxHeartbeats 4000000 in
theorem lives_any (w : World) : Calls Try.prog 22 #[] w fun e w' => e = .returned (.bool true) ∧ Below w.heap.size w w' := by
  go_enter Try.func22, Try.ntmps22
  go_wp2_with (first
    | (go_at_call 45; refine (known_any _).mono ?_; rintro e w1 ⟨p, q, r, rfl, hk, hb⟩; have HK := hidOf hk; have HB := hidOf hb; clear hk hb)
    | (go_at_call 23; refine (kSlots p q r _ (HK.out.grow (below1 _ _))).mono ?_; rintro e w2 ⟨rfl, hb⟩; have H2 : Hid (Lv w w2 p q r w1.heap.size) := hidOf ((Lv.mk (HK.out.grow (below1 _ _)) (box_new (Below.refl _ _)) (HB.out.trans ((below1 _ _).mono HB.out.size)) (by simp)).grow hb); clear hb HK HB; have s0 : w2.cell? ⟨w1.heap.size, 0, none⟩ = some (.int .i64 0) := H2.out.s 0 _ rfl; have s1 : w2.cell? ⟨w1.heap.size, 1, none⟩ = some (.int .i64 0) := H2.out.s 1 _ rfl; have s2 : w2.cell? ⟨w1.heap.size, 2, none⟩ = some (.slice (some ⟨q, 0, none⟩) 1 1) := H2.out.s 2 _ rfl; have s3 : w2.cell? ⟨w1.heap.size, 3, none⟩ = some (.slice none 0 0) := H2.out.s 3 _ rfl; have s4 : w2.cell? ⟨w1.heap.size, 4, none⟩ = some (.slice none 0 0) := H2.out.s 4 _ rfl; have s5 : w2.cell? ⟨w1.heap.size, 5, none⟩ = some (.slice (some ⟨r, 0, none⟩) 2 2) := H2.out.s 5 _ rfl; have s6 : w2.cell? ⟨w1.heap.size, 6, none⟩ = some (.slice none 0 0) := H2.out.s 6 _ rfl; have s7 : w2.cell? ⟨w1.heap.size, 7, none⟩ = some (.slice none 0 0) := H2.out.s 7 _ rfl; have s8 : w2.cell? ⟨w1.heap.size, 8, none⟩ = some (.slice none 0 0) := H2.out.s 8 _ rfl; have sl := H2.out.l)
    | (go_at_call 12; refine (kA6 p q r w2 H2.out.k).mono ?_; rintro e w3 ⟨rfl, hb⟩; have H3 := hidOf (H2.out.grow hb); clear hb H2 s0 s1 s2 s3 s4 s5 s6 s7 s8 sl; have s0 : w3.cell? ⟨w1.heap.size, 0, none⟩ = some (.int .i64 0) := H3.out.s 0 _ rfl; have s1 : w3.cell? ⟨w1.heap.size, 1, none⟩ = some (.int .i64 0) := H3.out.s 1 _ rfl; have s2 : w3.cell? ⟨w1.heap.size, 2, none⟩ = some (.slice (some ⟨q, 0, none⟩) 1 1) := H3.out.s 2 _ rfl; have s3 : w3.cell? ⟨w1.heap.size, 3, none⟩ = some (.slice none 0 0) := H3.out.s 3 _ rfl; have s4 : w3.cell? ⟨w1.heap.size, 4, none⟩ = some (.slice none 0 0) := H3.out.s 4 _ rfl; have s5 : w3.cell? ⟨w1.heap.size, 5, none⟩ = some (.slice (some ⟨r, 0, none⟩) 2 2) := H3.out.s 5 _ rfl; have s6 : w3.cell? ⟨w1.heap.size, 6, none⟩ = some (.slice none 0 0) := H3.out.s 6 _ rfl; have s7 : w3.cell? ⟨w1.heap.size, 7, none⟩ = some (.slice none 0 0) := H3.out.s 7 _ rfl; have s8 : w3.cell? ⟨w1.heap.size, 8, none⟩ = some (.slice none 0 0) := H3.out.s 8 _ rfl; have sl := H3.out.l)
    | (go_at_call 12; refine (kA7 p q r w3 H3.out.k).mono ?_; rintro e w4 ⟨rfl, hb⟩; have H4 := hidOf (H3.out.grow hb); clear hb H3 s0 s1 s2 s3 s4 s5 s6 s7 s8 sl; have s0 : w4.cell? ⟨w1.heap.size, 0, none⟩ = some (.int .i64 0) := H4.out.s 0 _ rfl; have s1 : w4.cell? ⟨w1.heap.size, 1, none⟩ = some (.int .i64 0) := H4.out.s 1 _ rfl; have s2 : w4.cell? ⟨w1.heap.size, 2, none⟩ = some (.slice (some ⟨q, 0, none⟩) 1 1) := H4.out.s 2 _ rfl; have s3 : w4.cell? ⟨w1.heap.size, 3, none⟩ = some (.slice none 0 0) := H4.out.s 3 _ rfl; have s4 : w4.cell? ⟨w1.heap.size, 4, none⟩ = some (.slice none 0 0) := H4.out.s 4 _ rfl; have s5 : w4.cell? ⟨w1.heap.size, 5, none⟩ = some (.slice (some ⟨r, 0, none⟩) 2 2) := H4.out.s 5 _ rfl; have s6 : w4.cell? ⟨w1.heap.size, 6, none⟩ = some (.slice none 0 0) := H4.out.s 6 _ rfl; have s7 : w4.cell? ⟨w1.heap.size, 7, none⟩ = some (.slice none 0 0) := H4.out.s 7 _ rfl; have s8 : w4.cell? ⟨w1.heap.size, 8, none⟩ = some (.slice none 0 0) := H4.out.s 8 _ rfl; have sl := H4.out.l)
    | (go_at_call 27; refine (kL0 p q r w4 H4.out.k).mono ?_; rintro e w5 ⟨rfl, hb⟩; have H5 := hidOf (H4.out.grow hb); clear hb H4 s0 s1 s2 s3 s4 s5 s6 s7 s8 sl; have s0 : w5.cell? ⟨w1.heap.size, 0, none⟩ = some (.int .i64 0) := H5.out.s 0 _ rfl; have s1 : w5.cell? ⟨w1.heap.size, 1, none⟩ = some (.int .i64 0) := H5.out.s 1 _ rfl; have s2 : w5.cell? ⟨w1.heap.size, 2, none⟩ = some (.slice (some ⟨q, 0, none⟩) 1 1) := H5.out.s 2 _ rfl; have s3 : w5.cell? ⟨w1.heap.size, 3, none⟩ = some (.slice none 0 0) := H5.out.s 3 _ rfl; have s4 : w5.cell? ⟨w1.heap.size, 4, none⟩ = some (.slice none 0 0) := H5.out.s 4 _ rfl; have s5 : w5.cell? ⟨w1.heap.size, 5, none⟩ = some (.slice (some ⟨r, 0, none⟩) 2 2) := H5.out.s 5 _ rfl; have s6 : w5.cell? ⟨w1.heap.size, 6, none⟩ = some (.slice none 0 0) := H5.out.s 6 _ rfl; have s7 : w5.cell? ⟨w1.heap.size, 7, none⟩ = some (.slice none 0 0) := H5.out.s 7 _ rfl; have s8 : w5.cell? ⟨w1.heap.size, 8, none⟩ = some (.slice none 0 0) := H5.out.s 8 _ rfl; have sl := H5.out.l)
    | (go_at_call 27; refine (kL1 p q r w5 H5.out.k).mono ?_; rintro e w6 ⟨rfl, hb⟩; have H6 := hidOf (H5.out.grow hb); clear hb H5 s0 s1 s2 s3 s4 s5 s6 s7 s8 sl; have s0 : w6.cell? ⟨w1.heap.size, 0, none⟩ = some (.int .i64 0) := H6.out.s 0 _ rfl; have s1 : w6.cell? ⟨w1.heap.size, 1, none⟩ = some (.int .i64 0) := H6.out.s 1 _ rfl; have s2 : w6.cell? ⟨w1.heap.size, 2, none⟩ = some (.slice (some ⟨q, 0, none⟩) 1 1) := H6.out.s 2 _ rfl; have s3 : w6.cell? ⟨w1.heap.size, 3, none⟩ = some (.slice none 0 0) := H6.out.s 3 _ rfl; have s4 : w6.cell? ⟨w1.heap.size, 4, none⟩ = some (.slice none 0 0) := H6.out.s 4 _ rfl; have s5 : w6.cell? ⟨w1.heap.size, 5, none⟩ = some (.slice (some ⟨r, 0, none⟩) 2 2) := H6.out.s 5 _ rfl; have s6 : w6.cell? ⟨w1.heap.size, 6, none⟩ = some (.slice none 0 0) := H6.out.s 6 _ rfl; have s7 : w6.cell? ⟨w1.heap.size, 7, none⟩ = some (.slice none 0 0) := H6.out.s 7 _ rfl; have s8 : w6.cell? ⟨w1.heap.size, 8, none⟩ = some (.slice none 0 0) := H6.out.s 8 _ rfl; have sl := H6.out.l)
    | (go_at_call 25; refine (kU p q r w6 H6.out.k).mono ?_; rintro e w7 ⟨rfl, hb⟩; have H7 := hidOf (H6.out.grow hb); clear hb H6 s0 s1 s2 s3 s4 s5 s6 s7 s8 sl; have s0 : w7.cell? ⟨w1.heap.size, 0, none⟩ = some (.int .i64 0) := H7.out.s 0 _ rfl; have s1 : w7.cell? ⟨w1.heap.size, 1, none⟩ = some (.int .i64 0) := H7.out.s 1 _ rfl; have s2 : w7.cell? ⟨w1.heap.size, 2, none⟩ = some (.slice (some ⟨q, 0, none⟩) 1 1) := H7.out.s 2 _ rfl; have s3 : w7.cell? ⟨w1.heap.size, 3, none⟩ = some (.slice none 0 0) := H7.out.s 3 _ rfl; have s4 : w7.cell? ⟨w1.heap.size, 4, none⟩ = some (.slice none 0 0) := H7.out.s 4 _ rfl; have s5 : w7.cell? ⟨w1.heap.size, 5, none⟩ = some (.slice (some ⟨r, 0, none⟩) 2 2) := H7.out.s 5 _ rfl; have s6 : w7.cell? ⟨w1.heap.size, 6, none⟩ = some (.slice none 0 0) := H7.out.s 6 _ rfl; have s7 : w7.cell? ⟨w1.heap.size, 7, none⟩ = some (.slice none 0 0) := H7.out.s 7 _ rfl; have s8 : w7.cell? ⟨w1.heap.size, 8, none⟩ = some (.slice none 0 0) := H7.out.s 8 _ rfl; have sl := H7.out.l))
  go_ret
  exact ⟨rfl, H7.out.b⟩
end Go.Proofs.Ytkokkdekbilkjaa
