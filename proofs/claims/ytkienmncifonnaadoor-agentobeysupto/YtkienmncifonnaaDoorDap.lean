/- Append, Put, Remove, Rename: refused, or done. -/
import Derived.Test.YtkienmncifonnaaDoorDop
namespace Go.Proofs.YtkienmncifonnaaDoor
open Go.RowKit Go.Maps

theorem refE_cases (L : List ByteArray) (left : Int) : refE L left = 0 ∨ refE L left = 1 ∨ refE L left = 11 := by
  unfold refE; split
  · split <;> simp
  · simp
theorem DskB.below {w w' : World} {p bF bD : Nat} {dn : Value} {left : Int} (h : DskB w p bF bD dn left) (hb : Below w.heap.size w w') : DskB w' p bF bD dn left := (hb.block p h.lt).trans h
theorem MapR.below {w w' : World} {b n : Nat} {D : DataW Value} (h : MapR w b n D) (hb : Below w.heap.size w w') : MapR w' b n D := h.kept (hb.block b h.lt)
theorem names_one (w : World) (s : ByteArray) (t : TypeId) : ∀ i u, [s][i]? = some u → (w.alloc (.cells #[.string s] t)).cell? ⟨w.heap.size, i, none⟩ = some (.string u) := by
  intro i u h
  match i, h with
  | 0, h =>
    simp at h
    subst h
    rw [cell_of_row _ w.heap.size 0 _ t (0, 0) (heap_alloc_new w _)]
    rfl
theorem names_two (w : World) (s s2 : ByteArray) (t : TypeId) : ∀ i u, [s, s2][i]? = some u → (w.alloc (.cells #[.string s, .string s2] t)).cell? ⟨w.heap.size, i, none⟩ = some (.string u) := by
  intro i u h
  match i, h with
  | 0, h =>
    simp at h
    subst h
    rw [cell_of_row _ w.heap.size 0 _ t (0, 0) (heap_alloc_new w _)]
    rfl
  | 1, h =>
    simp at h
    subst h
    rw [cell_of_row _ w.heap.size 1 _ t (0, 0) (heap_alloc_new w _)]
    rfl
theorem ref_one (p bF bD : Nat) (dn : Value) (left : Int) (s : ByteArray) (w : World) (hd : DskB w p bF bD dn left) (r : Int) (hr : refE [s] left = r) : Calls Tryd.prog 43 #[.pointer (some ⟨p, 0, none⟩), .slice (some ⟨w.heap.size, 0, none⟩) 1 1] (w.alloc (.cells #[.string s] 9)) fun e w' => e = .returned (.int .i64 r) ∧ w' = w.alloc (.cells #[.string s] 9) := by
  rw [← hr]
  exact refusal_any p bF bD w.heap.size dn left [s] 1 _ (hd.below (below1 w _)) (names_one w s 9) (by simp) (by simp)
theorem ref_two (p bF bD : Nat) (dn : Value) (left : Int) (s s2 : ByteArray) (w : World) (hd : DskB w p bF bD dn left) (r : Int) (hr : refE [s, s2] left = r) : Calls Tryd.prog 43 #[.pointer (some ⟨p, 0, none⟩), .slice (some ⟨w.heap.size, 0, none⟩) 2 2] (w.alloc (.cells #[.string s, .string s2] 9)) fun e w' => e = .returned (.int .i64 r) ∧ w' = w.alloc (.cells #[.string s, .string s2] 9) := by
  rw [← hr]
  exact refusal_any p bF bD w.heap.size dn left [s, s2] 2 _ (hd.below (below1 w _)) (names_two w s s2 9) (by simp) (by simp)
theorem DkR.more {w : World} {p : Nat} {M : Md} {cnt bF bD : Nat} {DF DD : DataW Value} {dn : Value} {G : List Gd} (h : DkR w p M cnt bF bD DF DD dn G) (hc : cnt + 1 ≤ 4398046511104) : DkR w p M (cnt + 1) bF bD DF DD dn G := by
  obtain ⟨n, hn, hm⟩ := h.mF
  obtain ⟨n', hn', hm'⟩ := h.mD
  exact ⟨h.blk, ⟨n, by omega, hm⟩, ⟨n', by omega, hm'⟩, h.ne, h.hF, h.hD, h.liv, h.row, h.done, h.deed, h.leb, hc⟩
/- the closure's variables, just laid -/
theorem strAt_new {w : World} (s : ByteArray) (hs : s.size ≤ maxLen) : strAt (w.alloc (.cells #[.string s] 9)) w.heap.size s.data.toList := ⟨s, heap_alloc_new w _, rfl, hs⟩
theorem strAt.below {w w' : World} {p : Nat} {n : Nm} (h : strAt w p n) (hb : Below w.heap.size w w') : strAt w' p n := by
  obtain ⟨s, h1, h2, h3⟩ := h
  exact ⟨s, (hb.block p (heap_lt h1)).trans h1, h2, h3⟩
theorem two_new (w : World) (A B : Obj) : ((w.alloc A).alloc B).heap[w.heap.size]? = some A ∧ ((w.alloc A).alloc B).heap[w.heap.size + 1]? = some B := ⟨heap_alloc2_old w A B, heap_alloc2_new w A B⟩
theorem deed_new {w : World} (s : ByteArray) (hs : s.size ≤ maxLen) (az : Option Addr) (zc : Nat) (d : List UInt8) (hz : SlR w (.slice az d.length zc) d) (hd : d.length ≤ 1048576) : strAt ((w.alloc (.cells #[.string s] 9)).alloc (.cells #[.slice az d.length zc] 38)) w.heap.size s.data.toList ∧ bytAt ((w.alloc (.cells #[.string s] 9)).alloc (.cells #[.slice az d.length zc] 38)) (w.heap.size + 1) d (.slice az d.length zc) := by
  obtain ⟨h1, h2⟩ := two_new w (.cells #[.string s] 9) (.cells #[.slice az d.length zc] 38)
  exact ⟨⟨s, h1, rfl, hs⟩, az, zc, rfl, h2, (hz.grow (below1 _ _)).grow (below1 _ _), hd⟩
theorem nameL_le {l : List UInt8} (h : nameL l = true) : l.length ≤ 32 := by
  unfold nameL at h
  simp at h
  omega
theorem refE_zero {L : List ByteArray} {left : Int} (h : refE L left = 0) : okNames L = true ∧ left ≠ 0 := by
  unfold refE at h
  split at h
  · rename_i h1
    refine ⟨h1, fun e => ?_⟩
    rw [if_pos e] at h
    omega
  · omega

set_option maxHeartbeats 1000000 in
set_option maxRecDepth 100000 in
theorem put_bad (s : ByteArray) (a : Option Addr) (n cap : Nat) (p cnt bF bD : Nat) (M : Md) (DF DD : DataW Value) (dn : Value) (G : List Gd) (w : World) (h : DkR w p M cnt bF bD DF DD dn G) (hr : refE [s] M.left ≠ 0) : Calls Tryd.prog 29 #[.pointer (some ⟨p, 0, none⟩), .string s, .slice a n cap] w fun e w' => e = .returned (.int .i64 (refE [s] M.left)) ∧ Below w.heap.size w w' := by
  rcases refE_cases [s] M.left with e | e | e
  · exact absurd e hr
  all_goals
    have HR := hidOf (ref_one p bF bD dn M.left s w h.blk _ e)
    rw [e]
    clear h hr e
    go_enter Tryd.func29, Tryd.ntmps29
    go_wp2_with (go_at_call 43; refine HR.out.mono ?_; rintro e w' ⟨rfl, rfl⟩)
    go_ret
    exact ⟨rfl, below1 w _⟩
theorem frs_form {w' : World} {z : Value} {d : List UInt8} (h : SlR w' z d) : ∃ az zc, z = .slice az d.length zc := by
  obtain ⟨a, c, e, _⟩ := h.form
  exact ⟨a, c, e⟩
theorem max_nat (n : Nat) : max 1 (n : Int) = ((max 1 n : Nat) : Int) := by omega
end Go.Proofs.YtkienmncifonnaaDoor
