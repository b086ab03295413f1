/- Jcmd -/
import Derived.Test.YtocoimjhglackaaGreatQ39
set_option maxHeartbeats 8000000
set_option maxRecDepth 100000
namespace Go.Proofs.YtocoimjhglackaaGreat
section
open Go.RowKit
theorem kF8 {D : Nat} (p : Nat) (l : List UInt8) (bad : Bool) (w : World) (h : RI D w p l bad) : Calls Tryz.prog 104 #[.pointer (some ⟨p, 0, none⟩)] w fun e w' => RecO D w p zD2 l bad e w' := by
 obtain ⟨i0, hi0, hz00, hz10, hz20⟩ := info_parts zR4
 have HI := hidI hi0
 have HZ0 := hidI hz00
 have HZ1 := hidI hz10
 have HZ2 := hidI hz20
 clear hi0 hz00 hz10 hz20
 have hB0 : Below w.heap.size w (w.alloc (.cells #[.int .i64 0, .int .i64 0, .int .i64 0, .int .i64 0, .int .i64 0, .int .i64 0, .int .i64 0, .slice none 0 0, .int .i64 0, .bool false, .int .i64 0, .int .i64 0, .int .i64 0, .bool false, .bool false, .int .i64 0, .int .i64 0, .int .i64 0, .slice none 0 0, .int .i64 0, .int .i64 0, .int .i64 0, .slice none 0 0, .slice none 0 0, .bool false, .slice none 0 0, .slice none 0 0] 71)) := (Below.refl _ _).alloc (Nat.le_refl _) _
 have h0 : RI D (w.alloc (.cells #[.int .i64 0, .int .i64 0, .int .i64 0, .int .i64 0, .int .i64 0, .int .i64 0, .int .i64 0, .slice none 0 0, .int .i64 0, .bool false, .int .i64 0, .int .i64 0, .int .i64 0, .bool false, .bool false, .int .i64 0, .int .i64 0, .int .i64 0, .slice none 0 0, .int .i64 0, .int .i64 0, .int .i64 0, .slice none 0 0, .slice none 0 0, .bool false, .slice none 0 0, .slice none 0 0] 71)) p l bad := h.ext hB0 h.1 h.2.1
 have s0 : RS w (w.alloc (.cells #[.int .i64 0, .int .i64 0, .int .i64 0, .int .i64 0, .int .i64 0, .int .i64 0, .int .i64 0, .slice none 0 0, .int .i64 0, .bool false, .int .i64 0, .int .i64 0, .int .i64 0, .bool false, .bool false, .int .i64 0, .int .i64 0, .int .i64 0, .slice none 0 0, .int .i64 0, .int .i64 0, .int .i64 0, .slice none 0 0, .slice none 0 0, .bool false, .slice none 0 0, .slice none 0 0] 71)) p := (RS.refl _ _).alloc _
 have g0 : Hid ((w.alloc (.cells #[.int .i64 0, .int .i64 0, .int .i64 0, .int .i64 0, .int .i64 0, .int .i64 0, .int .i64 0, .slice none 0 0, .int .i64 0, .bool false, .int .i64 0, .int .i64 0, .int .i64 0, .bool false, .bool false, .int .i64 0, .int .i64 0, .int .i64 0, .slice none 0 0, .int .i64 0, .int .i64 0, .int .i64 0, .slice none 0 0, .slice none 0 0, .bool false, .slice none 0 0, .slice none 0 0] 71)).heap[w.heap.size]? = some (.cells #[.int .i64 0, .int .i64 0, .int .i64 0, .int .i64 0, .int .i64 0, .int .i64 0, .int .i64 0, .slice none 0 0, .int .i64 0, .bool false, .int .i64 0, .int .i64 0, .int .i64 0, .bool false, .bool false, .int .i64 0, .int .i64 0, .int .i64 0, .slice none 0 0, .int .i64 0, .int .i64 0, .int .i64 0, .slice none 0 0, .slice none 0 0, .bool false, .slice none 0 0, .slice none 0 0] 71 (0, 0))) := heap_alloc_new w _
 have z0 : w.heap.size < (w.alloc (.cells #[.int .i64 0, .int .i64 0, .int .i64 0, .int .i64 0, .int .i64 0, .int .i64 0, .int .i64 0, .slice none 0 0, .int .i64 0, .bool false, .int .i64 0, .int .i64 0, .int .i64 0, .bool false, .bool false, .int .i64 0, .int .i64 0, .int .i64 0, .slice none 0 0, .int .i64 0, .int .i64 0, .int .i64 0, .slice none 0 0, .slice none 0 0, .bool false, .slice none 0 0, .slice none 0 0] 71)).heap.size := by rw [World.size_alloc]; omega
 have hpq : Hid (p ≠ w.heap.size) := by have := h.1; show p ≠ _; omega
 have hDq : Hid (p < w.heap.size /\ D <= w.heap.size) := ⟨h.1, h.2.1⟩
 clear h hB0
 go_enter Tryz.func104, Tryz.ntmps104
 go_wp2_with fail
 refine (zF5 p _ _ _ h0).mono ?_
 rintro e w1 ⟨m0, rfl, _, l1, b1, rd1, h1, t1⟩
 have RD1 := hidI rd1
 clear rd1
 have s1 := s0.trans t1
 have g1 : Hid (w1.heap[w.heap.size]? = some (.cells #[.int .i64 0, .int .i64 0, .int .i64 0, .int .i64 0, .int .i64 0, .int .i64 0, .int .i64 0, .slice none 0 0, .int .i64 0, .bool false, .int .i64 0, .int .i64 0, .int .i64 0, .bool false, .bool false, .int .i64 0, .int .i64 0, .int .i64 0, .slice none 0 0, .int .i64 0, .int .i64 0, .int .i64 0, .slice none 0 0, .slice none 0 0, .bool false, .slice none 0 0, .slice none 0 0] 71 (0, 0))) := (t1.block _ z0 hpq.out.symm).trans g0.out
 have z1 : w.heap.size < w1.heap.size := Nat.lt_of_lt_of_le z0 t1.size
 clear h0 t1 s0 g0 z0
 go_wp2_with fail
 refine (zF5 p _ _ _ h1).mono ?_
 rintro e w2 ⟨m1, rfl, _, l2, b2, rd2, h2, t2⟩
 have RD2 := hidI rd2
 clear rd2
 have s2 := s1.trans t2
 have g2 : Hid (w2.heap[w.heap.size]? = some (.cells #[.int .i64 0, .int .i64 0, .int .i64 0, .int .i64 0, .int .i64 0, .int .i64 0, .int .i64 0, .slice none 0 0, .int .i64 0, .bool false, .int .i64 0, .int .i64 0, .int .i64 0, .bool false, .bool false, .int .i64 0, .int .i64 0, .int .i64 0, .slice none 0 0, .int .i64 0, .int .i64 0, .int .i64 0, .slice none 0 0, .slice none 0 0, .bool false, .slice none 0 0, .slice none 0 0] 71 (0, 0))) := (t2.block _ z1 hpq.out.symm).trans g1.out
 have z2 : w.heap.size < w2.heap.size := Nat.lt_of_lt_of_le z1 t2.size
 clear h1 t2 s1 g1 z1
 go_wp2_with fail
 refine (zF5 p _ _ _ h2).mono ?_
 rintro e w3 ⟨m2, rfl, _, l3, b3, rd3, h3, t3⟩
 have RD3 := hidI rd3
 clear rd3
 have s3 := s2.trans t3
 have g3 : Hid (w3.heap[w.heap.size]? = some (.cells #[.int .i64 0, .int .i64 0, .int .i64 0, .int .i64 0, .int .i64 0, .int .i64 0, .int .i64 0, .slice none 0 0, .int .i64 0, .bool false, .int .i64 0, .int .i64 0, .int .i64 0, .bool false, .bool false, .int .i64 0, .int .i64 0, .int .i64 0, .slice none 0 0, .int .i64 0, .int .i64 0, .int .i64 0, .slice none 0 0, .slice none 0 0, .bool false, .slice none 0 0, .slice none 0 0] 71 (0, 0))) := (t3.block _ z2 hpq.out.symm).trans g2.out
 have z3 : w.heap.size < w3.heap.size := Nat.lt_of_lt_of_le z2 t3.size
 clear h2 t3 s2 g2 z2
 go_wp2_with fail
 refine (kE7 p _ _ _ h3).mono ?_
 rintro e w4 ⟨cs3, v3, rfl, q3, l4, b4, rd4, h4, t4⟩
 have RD4 := hidI rd4
 clear rd4
 obtain ⟨y3_0, y3_1, y3_2, y3_3, y3_4, y3_5, y3_6, rfl⟩ := zY8 cs3 q3.len
 have Q3 := hidI (q3.keptN (lo' := w.heap.size + 1) (Nat.le_refl _) (fun _ _ _ => rfl) z3)
 clear q3
 have s4 := s3.trans t4
 have g4 : Hid (w4.heap[w.heap.size]? = some (.cells #[.int .i64 0, .int .i64 0, .int .i64 0, .int .i64 0, .int .i64 0, .int .i64 0, .int .i64 0, .slice none 0 0, .int .i64 0, .bool false, .int .i64 0, .int .i64 0, .int .i64 0, .bool false, .bool false, .int .i64 0, .int .i64 0, .int .i64 0, .slice none 0 0, .int .i64 0, .int .i64 0, .int .i64 0, .slice none 0 0, .slice none 0 0, .bool false, .slice none 0 0, .slice none 0 0] 71 (0, 0))) := (t4.block _ z3 hpq.out.symm).trans g3.out
 have z4 : w.heap.size < w4.heap.size := Nat.lt_of_lt_of_le z3 t4.size
 clear h3 t4 s3 g3 z3
 go_wp2_with fail
 refine (xZ3 p _ _ _ h4).mono ?_
 rintro e w5 ⟨cs4, v4, rfl, q4, l5, b5, rd5, h5, t5⟩
 have RD5 := hidI rd5
 clear rd5
 obtain ⟨y4_0, y4_1, y4_2, y4_3, y4_4, y4_5, y4_6, y4_7, rfl⟩ := zY7 cs4 q4.len
 replace Q3 := hidI (Q3.out.keptN (lo' := w.heap.size + 1) t5.size (fun b h1 h2 => t5.block b h2 (by have := hDq.out.1; omega)) (Nat.le_refl _))
 have Q4 := hidI (q4.keptN (lo' := w.heap.size + 1) (Nat.le_refl _) (fun _ _ _ => rfl) z4)
 clear q4
 have s5 := s4.trans t5
 have g5 : Hid (w5.heap[w.heap.size]? = some (.cells #[.int .i64 0, .int .i64 0, .int .i64 0, .int .i64 0, .int .i64 0, .int .i64 0, .int .i64 0, .slice none 0 0, .int .i64 0, .bool false, .int .i64 0, .int .i64 0, .int .i64 0, .bool false, .bool false, .int .i64 0, .int .i64 0, .int .i64 0, .slice none 0 0, .int .i64 0, .int .i64 0, .int .i64 0, .slice none 0 0, .slice none 0 0, .bool false, .slice none 0 0, .slice none 0 0] 71 (0, 0))) := (t5.block _ z4 hpq.out.symm).trans g4.out
 have z5 : w.heap.size < w5.heap.size := Nat.lt_of_lt_of_le z4 t5.size
 clear h4 t5 s4 g4 z4
 obtain ⟨q1, hq1⟩ : ∃ q1, Hid (w5.heap.size = q1) := ⟨_, hidI rfl⟩
 have I0 : Hid ((Tryz.prog.info? 71).map (·.size) = some (#[.int .i64 m0, .int .i64 m1, .int .i64 m2, y3_0, y3_1, y3_2, y3_3, y3_4, y3_5, y3_6, y4_0, y4_1, y4_2, y4_3, y4_4, y4_5, y4_6, y4_7, .slice none 0 0, .int .i64 0, .int .i64 0, .int .i64 0, .slice none 0 0, .slice none 0 0, .bool false, .slice none 0 0, .slice none 0 0] : Array Value).size) := by show _ = _; kernel_rfl
 have OP : Hid (∀ c ∈ ([.int .i64 m0, .int .i64 m1, .int .i64 m2, y3_0, y3_1, y3_2, y3_3, y3_4, y3_5, y3_6, y4_0, y4_1, y4_2, y4_3, y4_4, y4_5, y4_6, y4_7] : List Value), c.oneCell' = true) := by
  intro c hc
  simp only [List.mem_cons, List.not_mem_nil, or_false] at hc
  rcases hc with rfl | rfl | rfl | rfl | rfl | rfl | rfl | rfl | rfl | rfl | rfl | rfl | rfl | rfl | rfl | rfl | rfl | rfl
  · exact rfl
  · exact rfl
  · exact rfl
  · exact Q3.out.one _ (by simp)
  · exact Q3.out.one _ (by simp)
  · exact Q3.out.one _ (by simp)
  · exact Q3.out.one _ (by simp)
  · exact Q3.out.one _ (by simp)
  · exact Q3.out.one _ (by simp)
  · exact Q3.out.one _ (by simp)
  · exact Q4.out.one _ (by simp)
  · exact Q4.out.one _ (by simp)
  · exact Q4.out.one _ (by simp)
  · exact Q4.out.one _ (by simp)
  · exact Q4.out.one _ (by simp)
  · exact Q4.out.one _ (by simp)
  · exact Q4.out.one _ (by simp)
  · exact Q4.out.one _ (by simp)
 have O0 : Hid ((#[.int .i64 m0, .int .i64 m1, .int .i64 m2, y3_0, y3_1, y3_2, y3_3, y3_4, y3_5, y3_6, y4_0, y4_1, y4_2, y4_3, y4_4, y4_5, y4_6, y4_7, .slice none 0 0, .int .i64 0, .int .i64 0, .int .i64 0, .slice none 0 0, .slice none 0 0, .bool false, .slice none 0 0, .slice none 0 0] : Array Value).all (·.oneCell') = true) := by
  refine all_oneCell_toArray (cs := [.int .i64 m0, .int .i64 m1, .int .i64 m2, y3_0, y3_1, y3_2, y3_3, y3_4, y3_5, y3_6, y4_0, y4_1, y4_2, y4_3, y4_4, y4_5, y4_6, y4_7, .slice none 0 0, .int .i64 0, .int .i64 0, .int .i64 0, .slice none 0 0, .slice none 0 0, .bool false, .slice none 0 0, .slice none 0 0]) (fun c hc => ?_)
  rcases List.mem_append.1 (show c ∈ [.int .i64 m0, .int .i64 m1, .int .i64 m2, y3_0, y3_1, y3_2, y3_3, y3_4, y3_5, y3_6, y4_0, y4_1, y4_2, y4_3, y4_4, y4_5, y4_6, y4_7] ++ [.slice none 0 0, .int .i64 0, .int .i64 0, .int .i64 0, .slice none 0 0, .slice none 0 0, .bool false, .slice none 0 0, .slice none 0 0] from hc) with h1 | h1
  · exact OP.out c h1
  · simp only [List.mem_cons, List.not_mem_nil, or_false] at h1
    rcases h1 with rfl | rfl | rfl | rfl | rfl | rfl | rfl | rfl | rfl <;> rfl
 go_wp2_with (refine zA7 rfl 71 (.tmp 3) (.tmp 16) rfl w5.heap.size #[.int .i64 m0, .int .i64 m1, .int .i64 m2, y3_0, y3_1, y3_2, y3_3, y3_4, y3_5, y3_6, y4_0, y4_1, y4_2, y4_3, y4_4, y4_5, y4_6, y4_7, .slice none 0 0, .int .i64 0, .int .i64 0, .int .i64 0, .slice none 0 0, .slice none 0 0, .bool false, .slice none 0 0, .slice none 0 0] rfl rfl 71 #[.int .i64 0, .int .i64 0, .int .i64 0, .int .i64 0, .int .i64 0, .int .i64 0, .int .i64 0, .slice none 0 0, .int .i64 0, .bool false, .int .i64 0, .int .i64 0, .int .i64 0, .bool false, .bool false, .int .i64 0, .int .i64 0, .int .i64 0, .slice none 0 0, .int .i64 0, .int .i64 0, .int .i64 0, .slice none 0 0, .slice none 0 0, .bool false, .slice none 0 0, .slice none 0 0] (heap_alloc_new w5 (.cells #[.int .i64 0, .int .i64 0, .int .i64 0, .int .i64 0, .int .i64 0, .int .i64 0, .int .i64 0, .slice none 0 0, .int .i64 0, .bool false, .int .i64 0, .int .i64 0, .int .i64 0, .bool false, .bool false, .int .i64 0, .int .i64 0, .int .i64 0, .slice none 0 0, .int .i64 0, .int .i64 0, .int .i64 0, .slice none 0 0, .slice none 0 0, .bool false, .slice none 0 0, .slice none 0 0] 71)) I0.out rfl O0.out ?nexA)
 case nexA =>
  intro wA hwAh
  have hwA := hwAh.out
  have hBA : Below w5.heap.size w5 wA := by rw [hwA]; exact ((Below.refl _ _).alloc (Nat.le_refl _) _).trans ⟨rfl, rfl, rfl, by simp [World.setRow], fun k hk => setRow_other _ _ _ _ (by omega)⟩
  have gA0 : wA.heap[w5.heap.size]? = some (.cells ([.int .i64 m0, .int .i64 m1, .int .i64 m2, y3_0, y3_1, y3_2, y3_3, y3_4, y3_5, y3_6, y4_0, y4_1, y4_2, y4_3, y4_4, y4_5, y4_6, y4_7, .slice none 0 0, .int .i64 0, .int .i64 0, .int .i64 0, .slice none 0 0, .slice none 0 0, .bool false, .slice none 0 0, .slice none 0 0] : List Value).toArray 71 (0, 0)) := by rw [hwA]; exact setRow_heap _ _ _ _ 71 _ (heap_alloc_new w5 _)
  have zA : w5.heap.size < wA.heap.size := (Array.getElem?_eq_some_iff.1 gA0).1
  have hA := h5.ext hBA h5.1 h5.2.1
  have GA := hidI ((hBA.block _ z5).trans g5.out)
  have SA := hidI (s5.ext (hBA.mono s5.size))
  replace Q3 := hidI ((Q3.out.toX (lo' := w.heap.size + 1) (q := w5.heap.size) (Nat.le_refl _) (.inr (Nat.le_refl _))).keptX hBA.size (fun b h1 h2 h3 => hBA.block b h3))
  replace Q4 := hidI ((Q4.out.toX (lo' := w.heap.size + 1) (q := w5.heap.size) (Nat.le_refl _) (.inr (Nat.le_refl _))).keptX hBA.size (fun b h1 h2 h3 => hBA.block b h3))
  have zq : w.heap.size < q1 := by have := hq1.out; omega
  rw [hq1.out] at gA0 zA
  simp only [hq1.out]
  rw [hq1.out] at Q3
  rw [hq1.out] at Q4
  have G1A := hidI gA0
  have ZA := hidI zA
  clear hwA hwAh hBA gA0 zA h5 s5 g5 z5
  go_wp2_with fail
  refine (yH0 p _ _ wA hA).mono ?_
  rintro e wB ⟨N, l1, b1, rfl, hN, hcn, hB, tB⟩
  have HC := hidI hcn
  have GB := hidI ((tB.block _ (by have := ZA.out; omega) hpq.out.symm).trans GA.out)
  have G1B := hidI ((tB.block _ ZA.out (by have := hDq.out.1; omega)).trans G1A.out)
  have ZB := hidI (Nat.lt_of_lt_of_le ZA.out tB.size)
  have SB := hidI (SA.out.trans tB)
  replace Q3 := hidI (Q3.out.keptX tB.size (fun b h1 h2 h3 => tB.block b h3 (by have := hDq.out.1; omega)))
  replace Q4 := hidI (Q4.out.keptX tB.size (fun b h1 h2 h3 => tB.block b h3 (by have := hDq.out.1; omega)))
  have hpB : p < wB.heap.size := hB.1
  have hDB : D <= q1 := by have := hDq.out.2; omega
  have hpq1 : p < q1 := by have := hDq.out.1; omega
  clear hcn tB hA
  go_wp2
  go_loopw [5] (fun i wr => ∃ (k : Nat) (v : Value), k <= N /\ i = .int .i64 k /\ Hid (wr.heap[q1]? = some (.cells ([.int .i64 m0, .int .i64 m1, .int .i64 m2, y3_0, y3_1, y3_2, y3_3, y3_4, y3_5, y3_6, y4_0, y4_1, y4_2, y4_3, y4_4, y4_5, y4_6, y4_7, v, .int .i64 0, .int .i64 0, .int .i64 0, .slice none 0 0, .slice none 0 0, .bool false, .slice none 0 0, .slice none 0 0] : List Value).toArray 71 (0, 0))) /\ yR2 D wB p q1 zA3 187 2 k l1 b1 v wr) (fun i _ => N - (intOf i).toNat)
  case atStart => exact ⟨0, .slice none 0 0, Nat.zero_le _, rfl, G1B, [], [], l1, b1, World.ownsRow_nil _ _ _ _, ⟨rfl, rfl, rfl, Nat.le_refl _, fun _ _ _ _ => rfl⟩, hB, RdN.zero _ _ _, zE0.nil _ _ _ _⟩
  case round =>
   obtain ⟨k, v, hk, rfl, G1, xs, vsL, lk, bk, ok, sk, rk, rdk, hel⟩ := hrel
   have RDK := hidI rdk
   have HEL := hidI hel
   have SK := hidI sk
   have OK := hidI ok
   have hq1r : q1 < wr.heap.size := (Array.getElem?_eq_some_iff.1 G1.out).1
   have HQR := hidI hq1r
   clear rdk hel sk ok
   by_cases hlt : k < N
   · have hcF : wr.cell? ⟨q1, 18, none⟩ = some v := by rw [cell_of_row wr q1 18 _ 71 (0, 0) G1.out]; rfl
     have hBd : Below wr.heap.size wr wr.drew := (Below.refl _ _).drew
     have RK := hidI (rk.ext hBd rk.1 rk.2.1)
     clear rk
     go_wp2
     go_region_law (first | (refine zM2 _ rfl (.tmp 25) (.tmp 31) 66 rfl wB.heap.size 187 i0 (.agg #[.int .i64 0, .int .i64 0]) 2 16 Tryz.underlying66 HI.out HZ0.out HZ1.out HZ2.out rfl (by decide) v k xs rfl OKL.out ⟨wb.heap.size, 0, none⟩ 1 1 (#[.int .i64 m0e, .int .i64 m1e] : Array Value).toList rfl rfl (fun j u hj => zF1 wb _ _ j u hj) OE.out (by unfold maxLen; omega) (by omega) HSL.out ?_; intro v3 w3 ho3 hg3 hw3; have G3 := hidI (xD1 (es := [.int .i64 m0e, .int .i64 m1e]) OK.out G1.out (by decide) hpq1 TL.out hg3); have hcG : w3.cell? ⟨q1, 18, none⟩ = some v := (by rw [cell_of_row w3 q1 18 _ 71 (0, 0) G3.out]; rfl); have hfG : w3.frozen? ⟨q1, 18, none⟩ = false := (by simp [World.frozen?, G3.out]); obtain ⟨g3, c3, rfl⟩ := yI6 ho3; have HO3 := hidI ho3; have HG3 := hidI hg3; have HW3 := hidI hw3; clear ho3 hg3 hw3) | (go_simp; refine (zF5 p _ _ _ R0e.out).mono ?_; rintro e wb ⟨m1e, rfl, _, l1e, b1e, rd1e, r1e, t1e⟩; have R1e := hidI r1e; have T1e := hidI t1e; have RD1e := hidI rd1e; have hcF1 : wb.cell? ⟨q1, 18, none⟩ = some v := (World.cell?_of_block (a := ⟨q1, 18, none⟩) (t1e.block q1 (by have := HQR.out; exact Nat.lt_of_lt_of_le this T0e.out.size) (by omega))).trans hcF0; clear r1e t1e rd1e; have TL : Hid (RS wr wb p) := ((xA9 wr p).trans T0e.out).trans T1e.out; have HXE : Hid (Rep wb (NBr wr.heap.size wb) zA3 [.int .i64 m0e, .int .i64 m1e] (m0e, m1e)) := yJ4 m0e m1e; have RDX : Hid (Rd zA3 lk bk (m0e, m1e) l1e b1e) := Rd.cat RD0e.out RD1e.out; have OKL := hidI ((zF8 OK.out TL.out hpB).alloc (.cells #[.int .i64 m0e, .int .i64 m1e] 187)); have HSL : Hid (wB.heap.size <= (wb.alloc (.cells #[.int .i64 m0e, .int .i64 m1e] 187)).heap.size) := (by show _ <= _; rw [World.size_alloc]; have := SK.out.size; have := TL.out.size; omega); have OE : Hid (∀ u ∈ (#[.int .i64 m0e, .int .i64 m1e] : Array Value).toList, u.oneCell' = true) := HXE.out.one; have hcL : (wb.alloc (.cells #[.int .i64 m0e, .int .i64 m1e] 187)).cell? ⟨q1, 18, none⟩ = some v := (World.cell?_of_block (a := ⟨q1, 18, none⟩) (Below.heap_alloc wb _ q1 (Nat.lt_of_lt_of_le HQR.out TL.out.size))).trans hcF1) | (go_simp; refine (zF5 p _ _ _ RK.out).mono ?_; rintro e wa ⟨m0e, rfl, _, l0e, b0e, rd0e, r0e, t0e⟩; have R0e := hidI r0e; have T0e := hidI t0e; have RD0e := hidI rd0e; have hcF0 : wa.cell? ⟨q1, 18, none⟩ = some v := (World.cell?_of_block (a := ⟨q1, 18, none⟩) (t0e.block q1 (by have := HQR.out; exact this) (by omega))).trans hcF; clear r0e t0e rd0e))
     all_goals (
      have LM := yJ5 (lf := 18) (es := [.int .i64 m0e, .int .i64 m1e]) OK.out SK.out RDK.out HEL.out G1.out (by decide) ZB.out hpB hpq1 hDB TL.out HXE.out RDX.out R1e.out HO3.out HG3.out (by first | exact HW3.out | (have := HW3.out; rw [World.size_alloc] at this; exact this))
      have LJ := hidI LM.1
      have GJ : Hid ((w3.setCell ⟨q1, 18, none⟩ (.slice (some ⟨g3, 0, none⟩) (k + 1) c3)).heap[q1]? = some (.cells ([.int .i64 m0, .int .i64 m1, .int .i64 m2, y3_0, y3_1, y3_2, y3_3, y3_4, y3_5, y3_6, y4_0, y4_1, y4_2, y4_3, y4_4, y4_5, y4_6, y4_7, .slice (some ⟨g3, 0, none⟩) (k + 1) c3, .int .i64 0, .int .i64 0, .int .i64 0, .slice none 0 0, .slice none 0 0, .bool false, .slice none 0 0, .slice none 0 0] : List Value).toArray 71 (0, 0))) := LM.2
      clear LM
      go_wp2
      exact ⟨⟨k + 1, .slice (some ⟨g3, 0, none⟩) (k + 1) c3, by omega, by go_num, GJ, LJ.out⟩, by simp [intOf]; omega⟩)
   · have hkN : k = N := by omega
     subst hkN
     have hvl := RDK.out.1
     obtain ⟨va, vc, hv, hrl⟩ : ∃ va vc, v = Value.slice va k vc /\ RepL wr (NB wB wr) zA3 va vsL := by
      have := zE0.done (e := 187) HEL.out (by rw [hvl]; exact OK.out) (by rw [hvl]; omega)
      rwa [hvl] at this
     subst hv
     have hvl2 : k = vsL.length := hvl.symm
     subst hvl2
     have QL := hidI (hrl.toX (lo' := w.heap.size + 1) (q := q1) (by have := ZB.out; have := SB.out.size; have := hq1.out; omega) (.inl ZB.out))
     have RDL := hidI (RdN.lst hN HC.out RDK.out)
     have GQ := hidI ((SK.out.block _ (by have := ZB.out; omega) hpq.out.symm (by omega)).trans GB.out)
     have SQ : Hid (RS w wr p) := ⟨SK.out.os.trans SB.out.os, SK.out.tape.trans SB.out.tape, SK.out.output.trans SB.out.output, Nat.le_trans SB.out.size SK.out.size, fun j hj hp => (SK.out.block j (by have := SB.out.size; omega) hp (by omega)).trans (SB.out.block j hj hp)⟩
     replace Q3 := hidI (Q3.out.keptX SK.out.size (fun b h1 h2 h3 => SK.out.block b h3 (by have := hDq.out.1; omega) h2))
     replace Q4 := hidI (Q4.out.keptX SK.out.size (fun b h1 h2 h3 => SK.out.block b h3 (by have := hDq.out.1; omega) h2))
     have hcur := rk
     clear hvl hrl rk HEL RDK SK OK
     go_wp2_with fail
     refine (xY8 p _ _ _ hcur).mono ?_
     rintro e x6 ⟨cs6, v6, rfl, q6, l7, b7, rd7, r7, t7⟩
     have RD7 := hidI rd7
     clear rd7 hcur
     obtain ⟨y6_0, y6_1, y6_2, y6_3, y6_4, y6_5, rfl⟩ := zY9 cs6 q6.len
     replace Q3 := hidI (Q3.out.keptX t7.size (fun b h1 h2 h3 => t7.block b h3 (by have := hDq.out.1; omega)))
     replace Q4 := hidI (Q4.out.keptX t7.size (fun b h1 h2 h3 => t7.block b h3 (by have := hDq.out.1; omega)))
     replace QL := hidI (QL.out.keptX t7.size (fun b h1 h2 h3 => t7.block b h3 (by have := hDq.out.1; omega)))
     have hq1u : q1 < wr.heap.size := (Array.getElem?_eq_some_iff.1 G1.out).1
     have Q6 := hidI (q6.toX (lo' := w.heap.size + 1) (q := q1) (by omega) (.inl hq1u))
     clear q6
     have G6x := hidI ((t7.block q1 hq1u (by omega)).trans G1.out)
     replace GQ := hidI ((t7.block _ (by omega) hpq.out.symm).trans GQ.out)
     replace SQ := hidI (SQ.out.trans t7)
     clear t7 hq1u
     have HI6 : Hid ((Tryz.prog.info? 69).map (·.size) = some ([y6_0, y6_1, y6_2, y6_3, y6_4, y6_5] : List Value).toArray.size) := by show _ = _; kernel_rfl
     have HO6 : Hid (∀ c ∈ ([y6_0, y6_1, y6_2, y6_3, y6_4, y6_5] : List Value), c.oneCell' = true) := Q6.out.one
     go_wp2_with (refine zJ7 rfl 69 (.tmp 36) (.tmp 35) rfl q1 19 [y6_0, y6_1, y6_2, y6_3, y6_4, y6_5] rfl rfl 71 [.int .i64 m0, .int .i64 m1, .int .i64 m2, y3_0, y3_1, y3_2, y3_3, y3_4, y3_5, y3_6, y4_0, y4_1, y4_2, y4_3, y4_4, y4_5, y4_6, y4_7, .slice va vsL.length vc, .int .i64 0, .int .i64 0, .int .i64 0, .slice none 0 0, .slice none 0 0, .bool false, .slice none 0 0, .slice none 0 0] [.int .i64 m0, .int .i64 m1, .int .i64 m2, y3_0, y3_1, y3_2, y3_3, y3_4, y3_5, y3_6, y4_0, y4_1, y4_2, y4_3, y4_4, y4_5, y4_6, y4_7, .slice va vsL.length vc, y6_0, y6_1, y6_2, y6_3, y6_4, y6_5, .slice none 0 0, .slice none 0 0] G6x.out rfl (Nat.le_of_ble_eq_true rfl) HI6.out HO6.out ?nx6)
     case nx6 =>
      intro u6 hLA6
      have LA6 := hLA6.out
      have hcur := r7.laid LA6 hpq1 hDB
      have G6y := hidI LA6.at_
      replace Q3 := hidI (Q3.out.keptX (by rw [LA6.size]; exact Nat.le_refl _) (fun b h1 h2 h3 => LA6.block b h2))
      replace Q4 := hidI (Q4.out.keptX (by rw [LA6.size]; exact Nat.le_refl _) (fun b h1 h2 h3 => LA6.block b h2))
      replace QL := hidI (QL.out.keptX (by rw [LA6.size]; exact Nat.le_refl _) (fun b h1 h2 h3 => LA6.block b h2))
      replace Q6 := hidI (Q6.out.keptX (by rw [LA6.size]; exact Nat.le_refl _) (fun b h1 h2 h3 => LA6.block b h2))
      replace GQ := hidI ((LA6.block _ (by omega)).trans GQ.out)
      replace SQ : Hid (RS w u6 p) := ⟨LA6.os.trans SQ.out.os, LA6.tape.trans SQ.out.tape, LA6.output.trans SQ.out.output, by rw [LA6.size]; exact SQ.out.size, fun j hj hp => (LA6.block j (by omega)).trans (SQ.out.block j hj hp)⟩
      clear LA6 hLA6 G6x r7
      go_wp2_with fail
      refine (xP5 p _ _ _ hcur).mono ?_
      rintro e x7 ⟨cs7, v7, rfl, q7, l8, b8, rd8, r8, t8⟩
      have RD8 := hidI rd8
      clear rd8 hcur
      obtain ⟨y7_0, y7_1, rfl⟩ := zD9 cs7 q7.len
      replace Q3 := hidI (Q3.out.keptX t8.size (fun b h1 h2 h3 => t8.block b h3 (by have := hDq.out.1; omega)))
      replace Q4 := hidI (Q4.out.keptX t8.size (fun b h1 h2 h3 => t8.block b h3 (by have := hDq.out.1; omega)))
      replace QL := hidI (QL.out.keptX t8.size (fun b h1 h2 h3 => t8.block b h3 (by have := hDq.out.1; omega)))
      replace Q6 := hidI (Q6.out.keptX t8.size (fun b h1 h2 h3 => t8.block b h3 (by have := hDq.out.1; omega)))
      have hq1u : q1 < u6.heap.size := (Array.getElem?_eq_some_iff.1 G6y.out).1
      have Q7 := hidI (q7.toX (lo' := w.heap.size + 1) (q := q1) (by omega) (.inl hq1u))
      clear q7
      have G7x := hidI ((t8.block q1 hq1u (by omega)).trans G6y.out)
      replace GQ := hidI ((t8.block _ (by omega) hpq.out.symm).trans GQ.out)
      replace SQ := hidI (SQ.out.trans t8)
      clear t8 hq1u
      have HI7 : Hid ((Tryz.prog.info? 34).map (·.size) = some ([y7_0, y7_1] : List Value).toArray.size) := by show _ = _; kernel_rfl
      have HO7 : Hid (∀ c ∈ ([y7_0, y7_1] : List Value), c.oneCell' = true) := Q7.out.one
      go_wp2_with (refine zJ7 rfl 34 (.tmp 39) (.tmp 38) rfl q1 25 [y7_0, y7_1] rfl rfl 71 [.int .i64 m0, .int .i64 m1, .int .i64 m2, y3_0, y3_1, y3_2, y3_3, y3_4, y3_5, y3_6, y4_0, y4_1, y4_2, y4_3, y4_4, y4_5, y4_6, y4_7, .slice va vsL.length vc, y6_0, y6_1, y6_2, y6_3, y6_4, y6_5, .slice none 0 0, .slice none 0 0] [.int .i64 m0, .int .i64 m1, .int .i64 m2, y3_0, y3_1, y3_2, y3_3, y3_4, y3_5, y3_6, y4_0, y4_1, y4_2, y4_3, y4_4, y4_5, y4_6, y4_7, .slice va vsL.length vc, y6_0, y6_1, y6_2, y6_3, y6_4, y6_5, y7_0, y7_1] G7x.out rfl (Nat.le_of_ble_eq_true rfl) HI7.out HO7.out ?nx7)
      case nx7 =>
       intro u7 hLA7
       have LA7 := hLA7.out
       have hcur := r8.laid LA7 hpq1 hDB
       have G7y := hidI LA7.at_
       replace Q3 := hidI (Q3.out.keptX (by rw [LA7.size]; exact Nat.le_refl _) (fun b h1 h2 h3 => LA7.block b h2))
       replace Q4 := hidI (Q4.out.keptX (by rw [LA7.size]; exact Nat.le_refl _) (fun b h1 h2 h3 => LA7.block b h2))
       replace QL := hidI (QL.out.keptX (by rw [LA7.size]; exact Nat.le_refl _) (fun b h1 h2 h3 => LA7.block b h2))
       replace Q6 := hidI (Q6.out.keptX (by rw [LA7.size]; exact Nat.le_refl _) (fun b h1 h2 h3 => LA7.block b h2))
       replace Q7 := hidI (Q7.out.keptX (by rw [LA7.size]; exact Nat.le_refl _) (fun b h1 h2 h3 => LA7.block b h2))
       replace GQ := hidI ((LA7.block _ (by omega)).trans GQ.out)
       replace SQ : Hid (RS w u7 p) := ⟨LA7.os.trans SQ.out.os, LA7.tape.trans SQ.out.tape, LA7.output.trans SQ.out.output, by rw [LA7.size]; exact SQ.out.size, fun j hj hp => (LA7.block j (by omega)).trans (SQ.out.block j hj hp)⟩
       clear LA7 hLA7 G7x r8
       have REP : Hid (Rep u7 (NX (w.heap.size + 1) q1 u7) zD2 [.int .i64 m0, .int .i64 m1, .int .i64 m2, y3_0, y3_1, y3_2, y3_3, y3_4, y3_5, y3_6, y4_0, y4_1, y4_2, y4_3, y4_4, y4_5, y4_6, y4_7, .slice va vsL.length vc, y6_0, y6_1, y6_2, y6_3, y6_4, y6_5, y7_0, y7_1] (m0, m1, m2, v3, v4, vsL, v6, v7)) := by
        exact xC8 m0 m1 m2 y3_0 y3_1 y3_2 y3_3 y3_4 y3_5 y3_6 v3 y4_0 y4_1 y4_2 y4_3 y4_4 y4_5 y4_6 y4_7 v4 va vc vsL y6_0 y6_1 y6_2 y6_3 y6_4 y6_5 v6 y7_0 y7_1 v7 Q3.out Q4.out QL.out Q6.out Q7.out
       have RDA : Hid (Rd zD2 l bad (m0, m1, m2, v3, v4, vsL, v6, v7) l8 b8) := (Rd.cat RD1.out (Rd.cat RD2.out (Rd.cat RD3.out (Rd.cat RD4.out (Rd.cat RD5.out (Rd.cat RDL.out (Rd.cat RD7.out RD8.out)))))))
       have IF : Hid ((Tryz.prog.info? 71).map (·.size) = some (#[.int .i64 m0, .int .i64 m1, .int .i64 m2, y3_0, y3_1, y3_2, y3_3, y3_4, y3_5, y3_6, y4_0, y4_1, y4_2, y4_3, y4_4, y4_5, y4_6, y4_7, .slice va vsL.length vc, y6_0, y6_1, y6_2, y6_3, y6_4, y6_5, y7_0, y7_1] : Array Value).size) := by show _ = _; kernel_rfl
       have OF : Hid ((#[.int .i64 m0, .int .i64 m1, .int .i64 m2, y3_0, y3_1, y3_2, y3_3, y3_4, y3_5, y3_6, y4_0, y4_1, y4_2, y4_3, y4_4, y4_5, y4_6, y4_7, .slice va vsL.length vc, y6_0, y6_1, y6_2, y6_3, y6_4, y6_5, y7_0, y7_1] : Array Value).all (·.oneCell') = true) := REP.out.all
       have HCUR := hidI hcur
       clear hcur
       go_wp2_with (first
        | (refine wpList_load_row rfl 71 (.tmp 3) rfl q1 rfl 71 #[.int .i64 m0, .int .i64 m1, .int .i64 m2, y3_0, y3_1, y3_2, y3_3, y3_4, y3_5, y3_6, y4_0, y4_1, y4_2, y4_3, y4_4, y4_5, y4_6, y4_7, .slice va vsL.length vc, y6_0, y6_1, y6_2, y6_3, y6_4, y6_5, y7_0, y7_1] (0, 0) _ G7y.out Tryz.underlying71 rfl IF.out ?_)
        | (refine wpList_store_row rfl 71 (.tmp 2) (.tmp 40) rfl w.heap.size #[.int .i64 m0, .int .i64 m1, .int .i64 m2, y3_0, y3_1, y3_2, y3_3, y3_4, y3_5, y3_6, y4_0, y4_1, y4_2, y4_3, y4_4, y4_5, y4_6, y4_7, .slice va vsL.length vc, y6_0, y6_1, y6_2, y6_3, y6_4, y6_5, y7_0, y7_1] rfl rfl 71 #[.int .i64 0, .int .i64 0, .int .i64 0, .int .i64 0, .int .i64 0, .int .i64 0, .int .i64 0, .slice none 0 0, .int .i64 0, .bool false, .int .i64 0, .int .i64 0, .int .i64 0, .bool false, .bool false, .int .i64 0, .int .i64 0, .int .i64 0, .slice none 0 0, .int .i64 0, .int .i64 0, .int .i64 0, .slice none 0 0, .slice none 0 0, .bool false, .slice none 0 0, .slice none 0 0] GQ.out IF.out rfl OF.out ?_))
       refine bodyPost_ret (v := .agg #[.int .i64 m0, .int .i64 m1, .int .i64 m2, y3_0, y3_1, y3_2, y3_3, y3_4, y3_5, y3_6, y4_0, y4_1, y4_2, y4_3, y4_4, y4_5, y4_6, y4_7, .slice va vsL.length vc, y6_0, y6_1, y6_2, y6_3, y6_4, y6_5, y7_0, y7_1]) ?_ rfl ⟨[.int .i64 m0, .int .i64 m1, .int .i64 m2, y3_0, y3_1, y3_2, y3_3, y3_4, y3_5, y3_6, y4_0, y4_1, y4_2, y4_3, y4_4, y4_5, y4_6, y4_7, .slice va vsL.length vc, y6_0, y6_1, y6_2, y6_3, y6_4, y6_5, y7_0, y7_1], _, rfl, ?_, l8, b8, RDA.out, ?_, ?_⟩
       · refine results_cell_row Tryz.results104 _ _ w.heap.size 71 _ (0, 0) _ ?_ (setRow_heap u7 w.heap.size _ _ 71 _ GQ.out) Tryz.underlying71 rfl IF.out
         rfl
       · exact (REP.out.keptX (by simp [World.setRow]) (fun b h1 h2 h3 => setRow_other _ _ _ _ (by omega))).unX (Nat.le_succ _)
       · exact HCUR.out.ext ⟨rfl, rfl, rfl, by simp [World.setRow], fun k hk => setRow_other _ _ _ _ (by omega)⟩ hDq.out.1 hDq.out.2
       · exact SQ.out.setRow (Nat.le_refl _) _
end
end Go.Proofs.YtocoimjhglackaaGreat
