/- The document's heap: Pop. -/
import Derived.Test.YtmkbndiliehdcaaHrf2
namespace Go.Proofs.Ytmkbndiliehdcaa
open Go.RowKit

set_option maxHeartbeats 8000000 in
set_option maxRecDepth 100000 in
theorem rpop_min (q : Nat) (M : List It) (r : Option Nat) (m : It) (w : World) (h : RefR w q M r) (hc : Came M) (hm : MinOf M m) (hlm : M.length ≤ 5864062014805) : Calls Try.prog 13 #[.pointer (some ⟨q, 0, none⟩)] w fun e w' => e = .returned (.tuple #[.agg #[.int .i64 m.k, .int .i64 m.t], .bool true]) ∧ ∃ r', RefR w' q (M.erase m) r' ∧ RS w w' q ∧ ∀ k, r' = some k → w.heap.size ≤ k := by
  obtain ⟨a, ha, rfl⟩ := mem_gt hm.1
  have hB : ∀ o : Obj, Below w.heap.size w (w.alloc o) := fun o => (Below.refl w.heap.size w).alloc (Nat.le_refl _) o
  have HLS := hidOf (fun o : Obj => least_min q M r a (w.alloc o) (h.grow (hB o)) hc ha hm (by omega))
  have H := hidOf h
  have HER := hidOf (erase_gt hc a ha)
  have hM0 : M ≠ [] := fun e => by subst e; simp at ha
  have hqw := h.lt.1
  have haz : (a : Int) < (M.length : Int) := by omega
  have hnz : ¬ (a : Int) < 0 := by omega
  obtain ⟨m, hm2⟩ : ∃ m, m = gt M a := ⟨_, rfl⟩
  rw [← hm2] at HER
  rw [← hm2]
  have HM2 := hidOf hm2
  obtain ⟨i0, hi0, hz0, hz1, hz2⟩ := info_parts info26
  have HI := hidOf hi0
  have HZ0 := hidOf hz0
  have HZ1 := hidOf hz1
  have HZ2 := hidOf hz2
  obtain ⟨g, cap, c0, z0, hmc, hcm, hrg, hgq, hgl, hcell⟩ := h.row hM0
  unfold maxLen at hcm
  obtain ⟨e0, e1⟩ := enP_get M a ha
  have x0 := hcell _ _ e0
  have x1 := hcell _ _ e1
  rw [← hm2] at x0 x1
  have HCELL := hidOf hcell
  have hlt1 : (enP (M.take a)).length = a * 2 := by rw [enP_length]; simp; omega
  have hlt2 : (enP (M.drop (a + 1))).length = (M.length - (a + 1)) * 2 := by rw [enP_length]; simp
  have hap : a + (M.length - (a + 1)) = (M.take a ++ M.drop (a + 1)).length := by simp; omega
  have hacz : (a : Int) ≤ (cap : Int) := by omega
  have ha1z : (a : Int) + 1 ≤ (M.length : Int) := by omega
  have HL1 := hidOf hlt1
  have HL2 := hidOf hlt2
  have HAP := hidOf hap
  clear h hc hm hm2 hi0 hz0 hz1 hz2 hcell e0 e1 hlt1 hlt2 hap
  by_cases hce : cap = a + 1
  · subst hce
    have hnil : enP (M.drop (a + 1)) = [] := by rw [List.drop_eq_nil_of_le (by omega)]; rfl
    have HNI := hidOf hnil
    clear hnil
    go_enter Try.func13, Try.ntmps13
    go_wp2_with (first
      | (go_at_call 25; refine (HLS.out _).mono ?_; rintro e w1 ⟨rfl, hb1⟩; have HBw : Hid (Below w.heap.size w w1) := hidOf ((hB _).trans (hb1.mono (by simp))); have hrb := (res_keep hb1).1; have hs1 := (res_keep hb1).2; have c1 : w1.cell? ⟨q, 0, none⟩ = some (.slice (some ⟨g, 0, none⟩) M.length (a + 1)) := (HBw.out.cell (p := ⟨q, 0, none⟩) hqw).trans c0; have c2 : ∀ o : Obj, (w1.alloc o).cell? ⟨q, 0, none⟩ = some (.slice (some ⟨g, 0, none⟩) M.length (a + 1)) := (fun o => (((Below.refl w1.heap.size w1).alloc (Nat.le_refl _) o).cell (p := ⟨q, 0, none⟩) (Nat.lt_of_lt_of_le hqw HBw.out.size)).trans c1); have y0 := (HBw.out.cell (p := ⟨g, a * 2, none⟩) hgl).trans x0; have y1 := (HBw.out.cell (p := ⟨g, a * 2 + 1, none⟩) hgl).trans x1; have HRB := hidOf hrb; clear hb1 hrb)
      | (at_builtin; refine wpList_append_own_at _ rfl (.tmp 19) (.tmp 25) 28 rfl 0 26 i0 (.agg #[.int .i64 0, .int .i64 0]) 2 16 Try.underlying28 HI.out HZ0.out HZ1.out HZ2.out rfl (by decide) (.slice none 0 0) 0 [] rfl ⟨rfl, .inl ⟨rfl, rfl⟩⟩ ⟨g, 0, none⟩ a (a + 1) (enP (M.take a)) rfl HL1.out (row_take HCELL.out (HBw.out.alloc HBw.out.size _) hgl a) (enP_one _) (by unfold maxLen; omega) (by omega) (Nat.zero_le _) ?_; intro v1 w2 ho2 hg2 _ hat2; rw [Nat.zero_add, List.nil_append] at ho2; have HBx : Hid (Below w.heap.size w w2) := hidOf (grown_none (HBw.out.alloc HBw.out.size _) hg2 (Nat.le_trans HBw.out.size (by simp))); have hlb : w2.heap[w1.heap.size]? = some (.cells #[.int .i64 m.k, .int .i64 m.t] 26 (0, 0)) := (hg2.block _ (by simp) (by simp [Value.ownBlock])).trans (heap_alloc_new w1 _); have hrb2 : w2.heap[w.heap.size]? = some (.cells #[.int .i64 0, .int .i64 0] 26 (0, 0)) := ((hg2.block _ (by simp; omega) (by simp [Value.ownBlock])).trans (Below.heap_alloc w1 _ _ hs1)).trans HRB.out; have c3 : w2.cell? ⟨q, 0, none⟩ = some (.slice (some ⟨g, 0, none⟩) M.length (a + 1)) := (HBx.out.cell (p := ⟨q, 0, none⟩) hqw).trans c0; have hnw : ∀ k, v1.ownBlock = some k → w1.heap.size + 1 ≤ k := (by intro k hk; rcases hat2 with e | e <;> rw [e] at hk <;> cases hk; simp); have H2 := hidOf ho2; have HLB := hidOf hlb; have HRB2 := hidOf hrb2; have HNW := hidOf hnw; have hs2 := hg2.size; rw [World.size_alloc] at hs2; clear ho2 hg2 hat2 hlb hrb2 hnw)
      | (at_builtin; refine wpList_append_own_at _ rfl (.tmp 27) (.tmp 34) 28 rfl 0 26 i0 (.agg #[.int .i64 0, .int .i64 0]) 2 16 Try.underlying28 HI.out HZ0.out HZ1.out HZ2.out rfl (by decide) v1 _ _ rfl H2.out ⟨g, 0, none⟩ 0 0 (enP (M.drop (a + 1))) rfl (by rw [HNI.out]; rfl) (by rw [HNI.out]; intro j u hj; simp at hj) (enP_one _) (by unfold maxLen; omega) (by omega) (Nat.zero_le _) ?_; intro v2 w3 ho3 hg3 _ hat3; have e3 : ∀ k, k < w1.heap.size + 1 → w3.heap[k]? = w2.heap[k]? := (fun k hk => hg3.block k (Nat.lt_of_lt_of_le hk hs2) (fun e => by have := HNW.out k e.symm; omega)); have c4 : w3.cell? ⟨q, 0, none⟩ = some (.slice (some ⟨g, 0, none⟩) M.length (a + 1)) := (World.cell?_of_block (a := ⟨q, 0, none⟩) (e3 q (by omega))).trans c3; have z4 : w3.frozen? ⟨q, 0, none⟩ = false := (World.frozen?_of_block (w := w2) (a := ⟨q, 0, none⟩) (e3 q (by omega))).trans ((HBx.out.frozen (p := ⟨q, 0, none⟩) hqw).trans z0); obtain ⟨l0, l1, _, _⟩ := res_cells ((e3 w1.heap.size (by omega)).trans HLB.out); obtain ⟨r0, r1, r2, r3⟩ := res_cells ((e3 w.heap.size (by omega)).trans HRB2.out); have hq1 : q ≠ w1.heap.size := (by omega); have hq2 : q ≠ w.heap.size := (by omega); have hq3 : w1.heap.size ≠ w.heap.size := (by omega); obtain ⟨a2, c2v, hv2⟩ := own_slice ho3; subst hv2; have H3 := hidOf (And.intro ho3 (And.intro hg3 hat3)); clear ho3 hg3 hat3))
    refine bodyPost_ret (results_pair Try.results13 _ _ w.heap.size (.int .i64 m.k) (.int .i64 m.t) (.bool true) rfl rfl ?_ ?_) rfl ?_
    · simp [go_sem, r0]
    · simp [go_sem, r1]
    exact ⟨rfl, _, rpop_end H.out HBx.out hs1 hs2 HNW.out H3.out.2.1 H3.out.2.2 H3.out.1 (by rw [HER.out, ← HAP.out]; omega) (by rw [HER.out, enP_append]) _ _⟩
  · have hcn : ¬ cap - (a + 1) = 0 := by omega
    have hcn2 : ¬ cap ≤ a + 1 := by omega
    go_enter Try.func13, Try.ntmps13
    go_wp2_with (first
      | (go_at_call 25; refine (HLS.out _).mono ?_; rintro e w1 ⟨rfl, hb1⟩; have HBw : Hid (Below w.heap.size w w1) := hidOf ((hB _).trans (hb1.mono (by simp))); have hrb := (res_keep hb1).1; have hs1 := (res_keep hb1).2; have c1 : w1.cell? ⟨q, 0, none⟩ = some (.slice (some ⟨g, 0, none⟩) M.length cap) := (HBw.out.cell (p := ⟨q, 0, none⟩) hqw).trans c0; have c2 : ∀ o : Obj, (w1.alloc o).cell? ⟨q, 0, none⟩ = some (.slice (some ⟨g, 0, none⟩) M.length cap) := (fun o => (((Below.refl w1.heap.size w1).alloc (Nat.le_refl _) o).cell (p := ⟨q, 0, none⟩) (Nat.lt_of_lt_of_le hqw HBw.out.size)).trans c1); have y0 := (HBw.out.cell (p := ⟨g, a * 2, none⟩) hgl).trans x0; have y1 := (HBw.out.cell (p := ⟨g, a * 2 + 1, none⟩) hgl).trans x1; have HRB := hidOf hrb; clear hb1 hrb)
      | (at_builtin; refine wpList_append_own_at _ rfl (.tmp 19) (.tmp 25) 28 rfl 0 26 i0 (.agg #[.int .i64 0, .int .i64 0]) 2 16 Try.underlying28 HI.out HZ0.out HZ1.out HZ2.out rfl (by decide) (.slice none 0 0) 0 [] rfl ⟨rfl, .inl ⟨rfl, rfl⟩⟩ ⟨g, 0, none⟩ a cap (enP (M.take a)) rfl HL1.out (row_take HCELL.out (HBw.out.alloc HBw.out.size _) hgl a) (enP_one _) (by unfold maxLen; omega) (by omega) (Nat.zero_le _) ?_; intro v1 w2 ho2 hg2 _ hat2; rw [Nat.zero_add, List.nil_append] at ho2; have HBx : Hid (Below w.heap.size w w2) := hidOf (grown_none (HBw.out.alloc HBw.out.size _) hg2 (Nat.le_trans HBw.out.size (by simp))); have hlb : w2.heap[w1.heap.size]? = some (.cells #[.int .i64 m.k, .int .i64 m.t] 26 (0, 0)) := (hg2.block _ (by simp) (by simp [Value.ownBlock])).trans (heap_alloc_new w1 _); have hrb2 : w2.heap[w.heap.size]? = some (.cells #[.int .i64 0, .int .i64 0] 26 (0, 0)) := ((hg2.block _ (by simp; omega) (by simp [Value.ownBlock])).trans (Below.heap_alloc w1 _ _ hs1)).trans HRB.out; have c3 : w2.cell? ⟨q, 0, none⟩ = some (.slice (some ⟨g, 0, none⟩) M.length cap) := (HBx.out.cell (p := ⟨q, 0, none⟩) hqw).trans c0; have hnw : ∀ k, v1.ownBlock = some k → w1.heap.size + 1 ≤ k := (by intro k hk; rcases hat2 with e | e <;> rw [e] at hk <;> cases hk; simp); have H2 := hidOf ho2; have HLB := hidOf hlb; have HRB2 := hidOf hrb2; have HNW := hidOf hnw; have hs2 := hg2.size; rw [World.size_alloc] at hs2; clear ho2 hg2 hat2 hlb hrb2 hnw)
      | (at_builtin; refine wpList_append_own_at _ rfl (.tmp 27) (.tmp 34) 28 rfl 0 26 i0 (.agg #[.int .i64 0, .int .i64 0]) 2 16 Try.underlying28 HI.out HZ0.out HZ1.out HZ2.out rfl (by decide) v1 _ _ rfl H2.out ⟨g, (a + 1) * 2, none⟩ (M.length - (a + 1)) (cap - (a + 1)) (enP (M.drop (a + 1))) rfl HL2.out (row_drop HCELL.out HBx.out hgl (a + 1)) (enP_one _) (by unfold maxLen; omega) (by omega) (Nat.zero_le _) ?_; intro v2 w3 ho3 hg3 _ hat3; have e3 : ∀ k, k < w1.heap.size + 1 → w3.heap[k]? = w2.heap[k]? := (fun k hk => hg3.block k (Nat.lt_of_lt_of_le hk hs2) (fun e => by have := HNW.out k e.symm; omega)); have c4 : w3.cell? ⟨q, 0, none⟩ = some (.slice (some ⟨g, 0, none⟩) M.length cap) := (World.cell?_of_block (a := ⟨q, 0, none⟩) (e3 q (by omega))).trans c3; have z4 : w3.frozen? ⟨q, 0, none⟩ = false := (World.frozen?_of_block (w := w2) (a := ⟨q, 0, none⟩) (e3 q (by omega))).trans ((HBx.out.frozen (p := ⟨q, 0, none⟩) hqw).trans z0); obtain ⟨l0, l1, _, _⟩ := res_cells ((e3 w1.heap.size (by omega)).trans HLB.out); obtain ⟨r0, r1, r2, r3⟩ := res_cells ((e3 w.heap.size (by omega)).trans HRB2.out); have hq1 : q ≠ w1.heap.size := (by omega); have hq2 : q ≠ w.heap.size := (by omega); have hq3 : w1.heap.size ≠ w.heap.size := (by omega); obtain ⟨a2, c2v, hv2⟩ := own_slice ho3; subst hv2; have H3 := hidOf (And.intro ho3 (And.intro hg3 hat3)); clear ho3 hg3 hat3))
    refine bodyPost_ret (results_pair Try.results13 _ _ w.heap.size (.int .i64 m.k) (.int .i64 m.t) (.bool true) rfl rfl ?_ ?_) rfl ?_
    · simp [go_sem, r0]
    · simp [go_sem, r1]
    exact ⟨rfl, _, rpop_end H.out HBx.out hs1 hs2 HNW.out H3.out.2.1 H3.out.2.2 H3.out.1 (by rw [HER.out, ← HAP.out]) (by rw [HER.out, enP_append]) _ _⟩

end Go.Proofs.Ytmkbndiliehdcaa
