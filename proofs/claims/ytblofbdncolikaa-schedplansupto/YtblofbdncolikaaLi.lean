/- The example. -/
import Derived.Test.YtblofbdncolikaaPc
namespace Go.Proofs.Ytblofbdncolikaa
open Go.RowKit Go.Shelf
attribute [local go_sem] Oper.semAt_some
def kJ : List Jb := [⟨1, 1, 0, 1, [⟨2, 40, 0⟩], 3, false⟩]
def kN : List Nd := [⟨2, 100, 0, true, false, 0, 7, 0⟩]
def kE : List Qd := [⟨1, 0, 0, 9⟩]
theorem kP : (pnV kJ kN [] kE 1).jb = 1 ∧ (pnV kJ kN [] kE 1).ve = 3 ∧ (pnV kJ kN [] kE 1).ix = 9 ∧ (pnV kJ kN [] kE 1).st = [] ∧ (pnV kJ kN [] kE 1).pl = [⟨0, 1, 3, 0, 0, 2, 7, 40, 0, false, 0⟩, ⟨0, 1, 3, 0, 1, 2, 7, 40, 0, false, 0⟩] ∧ (pnV kJ kN [] kE 1).bl = false := by
  refine ⟨by decide +kernel, by decide +kernel, by decide +kernel, by decide +kernel, by decide +kernel, by decide +kernel⟩
theorem fl1 {α : Type} {cs : α → List Value} {w : World} {S : Nat → Prop} {k y p t : Nat} {x : α} (h : w.heap[p]? = some (.cells (cs x).toArray t (0, 0))) (hS : S p) (hy : y ≤ 140737488355328) : Fl w S k y cs (some ⟨p, 0, none⟩) [x] := by
  refine ⟨by simpa using hy, fun _ => ⟨p, 0, rfl, hS, fun i hi => ?_⟩⟩
  have hi0 : i = 0 := by simp at hi; exact hi
  subst hi0
  intro j v hj
  rw [cell_of_row w p _ _ t (0, 0) h]
  simpa using hj
theorem pn_ext (v : Pn) {a b c : Int} {l : List Int} {p : List Al} {z : Bool} (h : v.jb = a ∧ v.ve = b ∧ v.ix = c ∧ v.st = l ∧ v.pl = p ∧ v.bl = z) : v = ⟨a, b, c, l, p, z⟩ := by
  obtain ⟨rfl, rfl, rfl, rfl, rfl, rfl⟩ := h
  rfl
set_option maxRecDepth 100000 in
set_option maxHeartbeats 4000000 in
theorem lives_any (w : World) : Calls Try.prog 7 #[] w fun e w' => e = .returned (.bool true) ∧ Below w.heap.size w w' := by
  have b1 := below1 w (.cells #[.int .i64 2, .int .i64 40, .int .i64 0] 48)
  have x1 : (w.alloc (.cells #[.int .i64 2, .int .i64 40, .int .i64 0] 48)).heap[w.heap.size]? = some (.cells #[.int .i64 2, .int .i64 40, .int .i64 0] 48 (0, 0)) := heap_alloc_new _ _
  have z1 : (w.alloc (.cells #[.int .i64 2, .int .i64 40, .int .i64 0] 48)).heap.size = w.heap.size + 1 := by simp
  obtain ⟨V1, hV1⟩ : ∃ V1, w.alloc (.cells #[.int .i64 2, .int .i64 40, .int .i64 0] 48) = V1 := ⟨_, rfl⟩
  rw [hV1] at b1 x1 z1
  have b2 := below1 V1 (.cells #[.int .i64 1, .int .i64 1, .int .i64 0, .int .i64 1, .slice (some ⟨w.heap.size, 0, none⟩) 1 1, .int .i64 3, .bool false] 51)
  have x2 : (V1.alloc (.cells #[.int .i64 1, .int .i64 1, .int .i64 0, .int .i64 1, .slice (some ⟨w.heap.size, 0, none⟩) 1 1, .int .i64 3, .bool false] 51)).heap[V1.heap.size]? = some (.cells #[.int .i64 1, .int .i64 1, .int .i64 0, .int .i64 1, .slice (some ⟨w.heap.size, 0, none⟩) 1 1, .int .i64 3, .bool false] 51 (0, 0)) := heap_alloc_new _ _
  have z2 : (V1.alloc (.cells #[.int .i64 1, .int .i64 1, .int .i64 0, .int .i64 1, .slice (some ⟨w.heap.size, 0, none⟩) 1 1, .int .i64 3, .bool false] 51)).heap.size = V1.heap.size + 1 := by simp
  obtain ⟨V2, hV2⟩ : ∃ V2, V1.alloc (.cells #[.int .i64 1, .int .i64 1, .int .i64 0, .int .i64 1, .slice (some ⟨w.heap.size, 0, none⟩) 1 1, .int .i64 3, .bool false] 51) = V2 := ⟨_, rfl⟩
  rw [hV2] at b2 x2 z2
  rw [z1] at x2 b2 z2
  have b3 := below1 V2 (.cells #[.int .i64 1, .int .i64 1, .int .i64 0, .int .i64 1, .slice (some ⟨w.heap.size, 0, none⟩) 1 1, .int .i64 3, .bool false] 51)
  have x3 : (V2.alloc (.cells #[.int .i64 1, .int .i64 1, .int .i64 0, .int .i64 1, .slice (some ⟨w.heap.size, 0, none⟩) 1 1, .int .i64 3, .bool false] 51)).heap[V2.heap.size]? = some (.cells #[.int .i64 1, .int .i64 1, .int .i64 0, .int .i64 1, .slice (some ⟨w.heap.size, 0, none⟩) 1 1, .int .i64 3, .bool false] 51 (0, 0)) := heap_alloc_new _ _
  have z3 : (V2.alloc (.cells #[.int .i64 1, .int .i64 1, .int .i64 0, .int .i64 1, .slice (some ⟨w.heap.size, 0, none⟩) 1 1, .int .i64 3, .bool false] 51)).heap.size = V2.heap.size + 1 := by simp
  obtain ⟨V3, hV3⟩ : ∃ V3, V2.alloc (.cells #[.int .i64 1, .int .i64 1, .int .i64 0, .int .i64 1, .slice (some ⟨w.heap.size, 0, none⟩) 1 1, .int .i64 3, .bool false] 51) = V3 := ⟨_, rfl⟩
  rw [hV3] at b3 x3 z3
  rw [z2] at x3 b3 z3
  have b4 := below1 V3 (.cells #[.int .i64 2, .int .i64 100, .int .i64 0, .bool true, .bool false, .int .i64 0, .int .i64 7, .int .i64 0] 46)
  have x4 : (V3.alloc (.cells #[.int .i64 2, .int .i64 100, .int .i64 0, .bool true, .bool false, .int .i64 0, .int .i64 7, .int .i64 0] 46)).heap[V3.heap.size]? = some (.cells #[.int .i64 2, .int .i64 100, .int .i64 0, .bool true, .bool false, .int .i64 0, .int .i64 7, .int .i64 0] 46 (0, 0)) := heap_alloc_new _ _
  have z4 : (V3.alloc (.cells #[.int .i64 2, .int .i64 100, .int .i64 0, .bool true, .bool false, .int .i64 0, .int .i64 7, .int .i64 0] 46)).heap.size = V3.heap.size + 1 := by simp
  obtain ⟨V4, hV4⟩ : ∃ V4, V3.alloc (.cells #[.int .i64 2, .int .i64 100, .int .i64 0, .bool true, .bool false, .int .i64 0, .int .i64 7, .int .i64 0] 46) = V4 := ⟨_, rfl⟩
  rw [hV4] at b4 x4 z4
  rw [z3] at x4 b4 z4
  have b5 := below1 V4 (.cells #[.int .i64 1, .int .i64 0, .int .i64 0, .int .i64 9] 53)
  have x5 : (V4.alloc (.cells #[.int .i64 1, .int .i64 0, .int .i64 0, .int .i64 9] 53)).heap[V4.heap.size]? = some (.cells #[.int .i64 1, .int .i64 0, .int .i64 0, .int .i64 9] 53 (0, 0)) := heap_alloc_new _ _
  have z5 : (V4.alloc (.cells #[.int .i64 1, .int .i64 0, .int .i64 0, .int .i64 9] 53)).heap.size = V4.heap.size + 1 := by simp
  obtain ⟨V5, hV5⟩ : ∃ V5, V4.alloc (.cells #[.int .i64 1, .int .i64 0, .int .i64 0, .int .i64 9] 53) = V5 := ⟨_, rfl⟩
  rw [hV5] at b5 x5 z5
  rw [z4] at x5 b5 z5
  have b6 := below1 V5 (.cells #[.int .i64 0, .int .i64 0, .slice (some ⟨w.heap.size + 1 + 1, 0, none⟩) 1 1, .slice none 0 0, .slice (some ⟨w.heap.size + 1 + 1 + 1, 0, none⟩) 1 1, .slice none 0 0, .slice (some ⟨w.heap.size + 1 + 1 + 1 + 1, 0, none⟩) 1 1, .slice none 0 0, .slice none 0 0] 29)
  have x6 : (V5.alloc (.cells #[.int .i64 0, .int .i64 0, .slice (some ⟨w.heap.size + 1 + 1, 0, none⟩) 1 1, .slice none 0 0, .slice (some ⟨w.heap.size + 1 + 1 + 1, 0, none⟩) 1 1, .slice none 0 0, .slice (some ⟨w.heap.size + 1 + 1 + 1 + 1, 0, none⟩) 1 1, .slice none 0 0, .slice none 0 0] 29)).heap[V5.heap.size]? = some (.cells #[.int .i64 0, .int .i64 0, .slice (some ⟨w.heap.size + 1 + 1, 0, none⟩) 1 1, .slice none 0 0, .slice (some ⟨w.heap.size + 1 + 1 + 1, 0, none⟩) 1 1, .slice none 0 0, .slice (some ⟨w.heap.size + 1 + 1 + 1 + 1, 0, none⟩) 1 1, .slice none 0 0, .slice none 0 0] 29 (0, 0)) := heap_alloc_new _ _
  have z6 : (V5.alloc (.cells #[.int .i64 0, .int .i64 0, .slice (some ⟨w.heap.size + 1 + 1, 0, none⟩) 1 1, .slice none 0 0, .slice (some ⟨w.heap.size + 1 + 1 + 1, 0, none⟩) 1 1, .slice none 0 0, .slice (some ⟨w.heap.size + 1 + 1 + 1 + 1, 0, none⟩) 1 1, .slice none 0 0, .slice none 0 0] 29)).heap.size = V5.heap.size + 1 := by simp
  obtain ⟨V6, hV6⟩ : ∃ V6, V5.alloc (.cells #[.int .i64 0, .int .i64 0, .slice (some ⟨w.heap.size + 1 + 1, 0, none⟩) 1 1, .slice none 0 0, .slice (some ⟨w.heap.size + 1 + 1 + 1, 0, none⟩) 1 1, .slice none 0 0, .slice (some ⟨w.heap.size + 1 + 1 + 1 + 1, 0, none⟩) 1 1, .slice none 0 0, .slice none 0 0] 29) = V6 := ⟨_, rfl⟩
  rw [hV6] at b6 x6 z6
  rw [z5] at x6 b6 z6
  have X0 : V6.heap[w.heap.size]? = some (.cells #[.int .i64 2, .int .i64 40, .int .i64 0] 48 (0, 0)) := ((b6.block _ (by omega)).trans ((b5.block _ (by omega)).trans ((b4.block _ (by omega)).trans ((b3.block _ (by omega)).trans ((b2.block _ (by omega)).trans x1)))))
  have X1 : V6.heap[w.heap.size + 1]? = some (.cells #[.int .i64 1, .int .i64 1, .int .i64 0, .int .i64 1, .slice (some ⟨w.heap.size, 0, none⟩) 1 1, .int .i64 3, .bool false] 51 (0, 0)) := ((b6.block _ (by omega)).trans ((b5.block _ (by omega)).trans ((b4.block _ (by omega)).trans ((b3.block _ (by omega)).trans x2))))
  have X2 : V6.heap[w.heap.size + 1 + 1]? = some (.cells #[.int .i64 1, .int .i64 1, .int .i64 0, .int .i64 1, .slice (some ⟨w.heap.size, 0, none⟩) 1 1, .int .i64 3, .bool false] 51 (0, 0)) := ((b6.block _ (by omega)).trans ((b5.block _ (by omega)).trans ((b4.block _ (by omega)).trans x3)))
  have X3 : V6.heap[w.heap.size + 1 + 1 + 1]? = some (.cells #[.int .i64 2, .int .i64 100, .int .i64 0, .bool true, .bool false, .int .i64 0, .int .i64 7, .int .i64 0] 46 (0, 0)) := ((b6.block _ (by omega)).trans ((b5.block _ (by omega)).trans x4))
  have X4 : V6.heap[w.heap.size + 1 + 1 + 1 + 1]? = some (.cells #[.int .i64 1, .int .i64 0, .int .i64 0, .int .i64 9] 53 (0, 0)) := ((b6.block _ (by omega)).trans x5)
  have X5 : V6.heap[w.heap.size + 1 + 1 + 1 + 1 + 1]? = some (.cells #[.int .i64 0, .int .i64 0, .slice (some ⟨w.heap.size + 1 + 1, 0, none⟩) 1 1, .slice none 0 0, .slice (some ⟨w.heap.size + 1 + 1 + 1, 0, none⟩) 1 1, .slice none 0 0, .slice (some ⟨w.heap.size + 1 + 1 + 1 + 1, 0, none⟩) 1 1, .slice none 0 0, .slice none 0 0] 29 (0, 0)) := x6
  have HB6 := hidOf (((((b1.trans (b2.mono (by omega))).trans (b3.mono (by omega))).trans (b4.mono (by omega))).trans (b5.mono (by omega))).trans (b6.mono (by omega)))
  have hJ : JbR V6 (fun b => b < V6.heap.size) (some ⟨w.heap.size + 1 + 1, 0, none⟩) [(⟨1, 1, 0, 1, some ⟨w.heap.size, 0, none⟩, 1, 1, 3, false⟩ : Js)] kJ := ⟨rfl, fl1 X2 (by omega) (by decide), fun i h1 h2 => by
    have hi0 : i = 0 := by simp [kJ] at h2; exact h2
    subst hi0
    exact ⟨some ⟨w.heap.size, 0, none⟩, 1, rfl, fl1 (x := (⟨2, 40, 0⟩ : Gp)) X0 (by omega) (by decide)⟩⟩
  have HPL := hidOf (plan_any ⟨0, 0, some ⟨w.heap.size + 1 + 1, 0, none⟩, 1, 1, none, 0, 0, some ⟨w.heap.size + 1 + 1 + 1, 0, none⟩, 1, 1, none, 0, 0, some ⟨w.heap.size + 1 + 1 + 1 + 1, 0, none⟩, 1, 1, none, 0, 0, none, 0, 0⟩ 1 [(⟨1, 1, 0, 1, some ⟨w.heap.size, 0, none⟩, 1, 1, 3, false⟩ : Js)] kJ kN [] kE V6 rfl rfl rfl rfl hJ (fl1 (x := (⟨2, 100, 0, true, false, 0, 7, 0⟩ : Nd)) X3 (by omega) (by decide)) (Fl.nil _ _ _ _ _ _) (fl1 (x := (⟨1, 0, 0, 9⟩ : Qd)) X4 (by omega) (by decide)) (by decide +kernel) (fun _ => by decide +kernel) (by decide +kernel))
  rw [pn_ext _ kP] at HPL
  unfold PnP at HPL
  dsimp only [List.length_cons, List.length_nil] at HPL
  have HX5 := hidOf X5
  have HL5 : Hid (w.heap.size + 1 + 1 + 1 + 1 + 1 < V6.heap.size) := hidOf (by omega)
  have HV : Hid (((((((w.alloc (.cells #[.int .i64 2, .int .i64 40, .int .i64 0] 48)).alloc (.cells #[.int .i64 1, .int .i64 1, .int .i64 0, .int .i64 1, .slice (some ⟨w.heap.size, 0, none⟩) 1 1, .int .i64 3, .bool false] 51)).alloc (.cells #[.int .i64 1, .int .i64 1, .int .i64 0, .int .i64 1, .slice (some ⟨w.heap.size, 0, none⟩) 1 1, .int .i64 3, .bool false] 51)).alloc (.cells #[.int .i64 2, .int .i64 100, .int .i64 0, .bool true, .bool false, .int .i64 0, .int .i64 7, .int .i64 0] 46)).alloc (.cells #[.int .i64 1, .int .i64 0, .int .i64 0, .int .i64 9] 53)).alloc (.cells #[.int .i64 0, .int .i64 0, .slice (some ⟨w.heap.size + 1 + 1, 0, none⟩) 1 1, .slice none 0 0, .slice (some ⟨w.heap.size + 1 + 1 + 1, 0, none⟩) 1 1, .slice none 0 0, .slice (some ⟨w.heap.size + 1 + 1 + 1 + 1, 0, none⟩) 1 1, .slice none 0 0, .slice none 0 0] 29)) = V6) := hidOf (by rw [hV1, hV2, hV3, hV4, hV5, hV6])
  clear b1 x1 b2 x2 b3 x3 b4 x4 b5 x5 b6 x6 X0 X1 X2 X3 X4 X5 hJ
  clear hV1 hV2 hV3 hV4 hV5 hV6 z1 z2 z3 z4 z5 z6
  go_enter Try.func7, Try.ntmps7
  go_upto_region 3 with (fail)
  rw [HV.out]
  clear HV
  have s0 : V6.cell? ⟨w.heap.size + 1 + 1 + 1 + 1 + 1, 0, none⟩ = some (.int .i64 0) := rowc HX5.out 0 _ rfl
  have s1 : V6.cell? ⟨w.heap.size + 1 + 1 + 1 + 1 + 1, 1, none⟩ = some (.int .i64 0) := rowc HX5.out 1 _ rfl
  have s2 : V6.cell? ⟨w.heap.size + 1 + 1 + 1 + 1 + 1, 2, none⟩ = some (.slice (some ⟨w.heap.size + 1 + 1, 0, none⟩) 1 1) := rowc HX5.out 2 _ rfl
  have s3 : V6.cell? ⟨w.heap.size + 1 + 1 + 1 + 1 + 1, 3, none⟩ = some (.slice none 0 0) := rowc HX5.out 3 _ rfl
  have s4 : V6.cell? ⟨w.heap.size + 1 + 1 + 1 + 1 + 1, 4, none⟩ = some (.slice (some ⟨w.heap.size + 1 + 1 + 1, 0, none⟩) 1 1) := rowc HX5.out 4 _ rfl
  have s5 : V6.cell? ⟨w.heap.size + 1 + 1 + 1 + 1 + 1, 5, none⟩ = some (.slice none 0 0) := rowc HX5.out 5 _ rfl
  have s6 : V6.cell? ⟨w.heap.size + 1 + 1 + 1 + 1 + 1, 6, none⟩ = some (.slice (some ⟨w.heap.size + 1 + 1 + 1 + 1, 0, none⟩) 1 1) := rowc HX5.out 6 _ rfl
  have s7 : V6.cell? ⟨w.heap.size + 1 + 1 + 1 + 1 + 1, 7, none⟩ = some (.slice none 0 0) := rowc HX5.out 7 _ rfl
  have s8 : V6.cell? ⟨w.heap.size + 1 + 1 + 1 + 1 + 1, 8, none⟩ = some (.slice none 0 0) := rowc HX5.out 8 _ rfl
  have l5 := HL5.out
  go_upto_region 4 with (go_at_call 9; refine HPL.out.mono ?_; rintro e w7 ⟨⟨sa, sc, pa, pc, rfl, _, ho⟩, hb7⟩; have HO := hidOf ho; have HB7 := hidOf hb7; clear ho hb7)
  clear s0 s1 s2 s3 s4 s5 s6 s7 s8 l5 HPL
  have hb8 := below1 w7 (.cells #[.int .i64 1, .int .i64 3, .int .i64 9, .slice sa 0 sc, .slice pa 2 pc, .bool false] 35)
  have HF := own_fl (y := 0) (L := [(⟨0, 1, 3, 0, 0, 2, 7, 40, 0, false, 0⟩ : Al), ⟨0, 1, 3, 0, 1, 2, 7, 40, 0, false, 0⟩]) Al.len HO.out (by decide)
  obtain ⟨g, off, ha, hg, hc⟩ := HF.at 1 (by decide)
  have hgl : g < w7.heap.size := hg.lt
  obtain ⟨g2, hag⟩ : ∃ g2, pa = some ⟨g2, 0, none⟩ := by
    rcases HO.out.2 with ⟨_, hn⟩ | ⟨g2, cap, cur, hv, _⟩
    · cases hn
    · exact ⟨g2, (Value.slice.inj hv).1⟩
  rw [hag] at ha
  obtain ⟨rfl, rfl⟩ : g2 = g ∧ off = 0 := by cases ha; exact ⟨rfl, rfl⟩
  subst hag
  have c15 : (w7.alloc (.cells #[.int .i64 1, .int .i64 3, .int .i64 9, .slice sa 0 sc, .slice (some ⟨g2, 0, none⟩) 2 pc, .bool false] 35)).cell? ⟨g2, 15, none⟩ = some (.int .i64 1) := (hb_cell (below1 w7 _) hgl).trans (by have := hc 4 _ rfl; simpa using this)
  have c16 : (w7.alloc (.cells #[.int .i64 1, .int .i64 3, .int .i64 9, .slice sa 0 sc, .slice (some ⟨g2, 0, none⟩) 2 pc, .bool false] 35)).cell? ⟨g2, 16, none⟩ = some (.int .i64 2) := (hb_cell (below1 w7 _) hgl).trans (by have := hc 5 _ rfl; simpa using this)
  have c17 : (w7.alloc (.cells #[.int .i64 1, .int .i64 3, .int .i64 9, .slice sa 0 sc, .slice (some ⟨g2, 0, none⟩) 2 pc, .bool false] 35)).cell? ⟨g2, 17, none⟩ = some (.int .i64 7) := (hb_cell (below1 w7 _) hgl).trans (by have := hc 6 _ rfl; simpa using this)
  clear HF hg hc ha hb8
  go_wp2
  go_ret
  exact ⟨rfl, HB6.out.trans ((HB7.out.trans ((below1 w7 _).mono HB7.out.size)).mono HB6.out.size)⟩
end Go.Proofs.Ytblofbdncolikaa
