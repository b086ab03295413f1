/- The document's slots of any job. -/
import Derived.Test.YtaaodmagchpnbaaYb
namespace Go.Proofs.Ytaaodmagchpnbaa
open Go.RowKit Go.Shelf
set_option maxRecDepth 100000 in
set_option maxHeartbeats 4000000 in
theorem refSlots_s (s : Sc) (d : Jb) (ga : Option Addr) (gc : Nat) (Ln : List Nd) (w : World) (hsd : d.sd = true) :
    Calls Try.prog 15 #[.agg #[.int .i64 s.ix, .int .i64 s.nx, .slice s.a2 s.n2 s.c2, .slice s.a3 s.n3 s.c3, .slice s.a4 Ln.length s.c4, .slice s.a5 s.n5 s.c5, .slice s.a6 s.n6 s.c6, .slice s.a7 s.n7 s.c7, .slice s.a8 s.n8 s.c8], .agg #[.int .i64 d.id, .int .i64 d.ty, .int .i64 d.pr, .int .i64 d.pa, .slice ga d.gs.length gc, .int .i64 d.ve, .bool d.sd]] w fun e w' => ∃ a' c', e = .returned (.slice a' (slV d Ln).length c') ∧ w'.ownsRow (w.heap.size + 2) 40 2 (.slice a' (slV d Ln).length c') (slV d Ln).length (fl sC (slV d Ln)) ∧ Below w.heap.size w w' := by
  have HV : slV d Ln = [] := by unfold slV; rw [if_pos hsd]
  rw [HV]
  clear HV
  obtain ⟨W0, hW0⟩ : ∃ W0, (w.alloc (.cells #[.int .i64 s.ix, .int .i64 s.nx, .slice s.a2 s.n2 s.c2, .slice s.a3 s.n3 s.c3, .slice s.a4 Ln.length s.c4, .slice s.a5 s.n5 s.c5, .slice s.a6 s.n6 s.c6, .slice s.a7 s.n7 s.c7, .slice s.a8 s.n8 s.c8] 29)).alloc (.cells #[.int .i64 d.id, .int .i64 d.ty, .int .i64 d.pr, .int .i64 d.pa, .slice ga d.gs.length gc, .int .i64 d.ve, .bool d.sd] 51) = W0 := ⟨_, rfl⟩
  have hB0 : Below w.heap.size w W0 := by rw [← hW0]; exact below2 _ _ _
  have hz0 : W0.heap.size = w.heap.size + 2 := by rw [← hW0]; simp
  have hj0 : W0.rangeAt (w.heap.size + 1) 0 [.int .i64 d.id, .int .i64 d.ty, .int .i64 d.pr, .int .i64 d.pa, .slice ga d.gs.length gc, .int .i64 d.ve, .bool d.sd] := by rw [← hW0]; exact box_new2 (cs := [.int .i64 d.id, .int .i64 d.ty, .int .i64 d.pr, .int .i64 d.pa, .slice ga d.gs.length gc, .int .i64 d.ve, .bool d.sd]) (t := 51) (Below.refl _ _)
  have HSD := hidOf hsd
  clear hsd
  go_enter Try.func15, Try.ntmps15
  go_wp2
  clear hW0
  go_loopw [6, 5] (fun i o wr => i = .int .i64 0 ∧ o = .slice none 0 0 ∧ wr = W0) (fun _ _ _ => 0)
  case atStart => exact ⟨rfl, rfl, rfl⟩
  case round =>
    obtain ⟨rfl, rfl, rfl⟩ := hrel
    have j4 : wr.cell? ⟨w.heap.size + 1, 4, none⟩ = some (.slice ga d.gs.length gc) := hj0 4 _ rfl
    have j6 : wr.cell? ⟨w.heap.size + 1, 6, none⟩ = some (.bool true) := (hj0 6 _ rfl).trans (by rw [HSD.out])
    have lj : w.heap.size + 1 < wr.heap.size := by omega
    by_cases h : (0 : Int) < (d.gs.length : Int)
    · go_wp2
      go_ret
      exact ⟨none, 0, rfl, World.ownsRow_nil _ _ _ _, hB0⟩
    · go_wp2
      go_ret
      exact ⟨none, 0, rfl, World.ownsRow_nil _ _ _ _, hB0⟩
theorem refSlots_any (s : Sc) (d : Jb) (ga : Option Addr) (gc : Nat) (Ln : List Nd) (w : World) (hN : Fl w (fun b => b < w.heap.size) 8 56 Nd.cs s.a4 Ln) (hG : Fl w (fun b => b < w.heap.size) 3 24 Gp.cs ga d.gs) (hsl : (slV d Ln).length * 16 ≤ 140737488355328) :
    Calls Try.prog 15 #[.agg #[.int .i64 s.ix, .int .i64 s.nx, .slice s.a2 s.n2 s.c2, .slice s.a3 s.n3 s.c3, .slice s.a4 Ln.length s.c4, .slice s.a5 s.n5 s.c5, .slice s.a6 s.n6 s.c6, .slice s.a7 s.n7 s.c7, .slice s.a8 s.n8 s.c8], .agg #[.int .i64 d.id, .int .i64 d.ty, .int .i64 d.pr, .int .i64 d.pa, .slice ga d.gs.length gc, .int .i64 d.ve, .bool d.sd]] w fun e w' => ∃ a' c', e = .returned (.slice a' (slV d Ln).length c') ∧ w'.ownsRow (w.heap.size + 2) 40 2 (.slice a' (slV d Ln).length c') (slV d Ln).length (fl sC (slV d Ln)) ∧ Below w.heap.size w w' := by
  cases hsd : d.sd with
  | true => have := refSlots_s s d ga gc Ln w hsd; rw [hsd] at this; exact this
  | false =>
    by_cases hty : d.ty = 3
    · have := refSlots_o s d ga gc Ln w hty hsd hN (by have := hG.bd; omega) hsl; rw [hsd] at this; exact this
    · have := refSlots_c s d ga gc Ln w hty hsd hG hsl; rw [hsd] at this; exact this
end Go.Proofs.Ytaaodmagchpnbaa
