/- The other calls of a disk, with all that is known. -/
import Derived.Test.YtkbmfookdhlphaaDst
namespace Go.Proofs.Ytkbmfookdhlphaa
open Go.RowKit Go.Maps Go.Sort

theorem put_st (s : ByteArray) (a : Option Addr) (cap : Nat) (d : List UInt8) (p cnt : Nat) (M : Md) (F : Nat → Prop) (w : World) (h : Dsk w p M cnt F) (hB : Bs w a d) (hnn : a = none → d = []) (hc : cnt + 1 ≤ 2199023255552) : Calls Try.prog 16 #[.pointer (some ⟨p, 0, none⟩), .string s, .slice a d.length cap] w fun e w' => ∃ m F', Card M.files m ∧ e = .returned (.int .i64 (ptE s.data.toList d.length M m)) ∧ Dsk w' p (mv (ptE s.data.toList d.length M m) (stepM M (.pt s.data.toList d) 1) M) (cnt + 1) F' ∧ Fr w w' F F' := by
  obtain ⟨hS, hM⟩ := h
  obtain ⟨bF, bD, DF, DD, dn, G, hd, rfl⟩ := id hS
  obtain ⟨ks, hks, hkl⟩ := hd.card
  have hcard : Card M.files (Maps.size DF) := ⟨ks, hks, hkl⟩
  by_cases hr : refE [s] M.left = 0
  · have hz := refE_zero hr
    have hn := okNames_one hz.1
    cases hroom : roomB (d.length : Int) (M.files s.data.toList).isSome (Maps.size DF) with
    | true =>
      have e0 : ptE s.data.toList d.length M (Maps.size DF) = 0 := by unfold ptE; rw [if_pos hn, if_neg hz.2, if_pos hroom]
      have hlen : d.length ≤ 1048576 := by unfold roomB at hroom; simp at hroom; omega
      refine (put_ok s a cap d p cnt bF bD M DF DD dn G w hd hr hB hnn hroom (by omega)).mono ?_
      rintro e w' ⟨rfl, DF', dn', G', g1, g2⟩
      refine ⟨_, _, hcard, by rw [e0], ?_, g2⟩
      rw [e0, mv_0]
      exact ⟨⟨_, _, _, _, _, _, g1, rfl⟩, hM.step (by omega) ⟨hM.files.1.fup hlen, hM.files.2.fup (fun _ => hn)⟩⟩
    | false =>
      have e0 : ptE s.data.toList d.length M (Maps.size DF) = 2 := by unfold ptE; rw [if_pos hn, if_neg hz.2, if_neg (by rw [hroom]; decide)]
      refine (put_full s a d.length cap p cnt bF bD M DF DD dn G w hd hr hroom).mono ?_
      rintro e w' ⟨rfl, hb⟩
      refine ⟨_, _, hcard, by rw [e0], ?_, Fr.of_below hb⟩
      rw [mv_ne (by rw [e0]; decide)]
      exact ⟨(hS.below hb).more (by omega), hM⟩
  · have e0 : ptE s.data.toList d.length M (Maps.size DF) = refE [s] M.left := by
      rw [refE1] at hr ⊢
      unfold ptE
      by_cases h1 : nameL s.data.toList = true
      · rw [if_pos h1] at hr ⊢
        by_cases h2 : M.left = 0
        · rw [if_pos h2, if_pos h1, if_pos h2]
        · rw [if_neg h2] at hr; exact absurd rfl hr
      · rw [if_neg h1, if_neg h1]
    refine (put_bad s a d.length cap p cnt bF bD M DF DD dn G w hd hr).mono ?_
    rintro e w' ⟨rfl, hb⟩
    refine ⟨_, _, hcard, by rw [e0], ?_, Fr.of_below hb⟩
    rw [mv_ne (by rw [e0]; exact hr)]
    exact ⟨(hS.below hb).more (by omega), hM⟩

theorem remove_st (s : ByteArray) (p cnt : Nat) (M : Md) (F : Nat → Prop) (w : World) (h : Dsk w p M cnt F) (hc : cnt + 1 ≤ 2199023255552) : Calls Try.prog 17 #[.pointer (some ⟨p, 0, none⟩), .string s] w fun e w' => ∃ F', e = .returned (.int .i64 (rmE s.data.toList M)) ∧ Dsk w' p (mv (rmE s.data.toList M) (stepM M (.rm s.data.toList) 1) M) (cnt + 1) F' ∧ Fr w w' F F' := by
  obtain ⟨hS, hM⟩ := h
  obtain ⟨bF, bD, DF, DD, dn, G, hd, rfl⟩ := id hS
  by_cases hr : refE [s] M.left = 0
  · have hz := refE_zero hr
    have hn := okNames_one hz.1
    by_cases hy : (M.files s.data.toList).isSome = true
    · have e0 : rmE s.data.toList M = 0 := by unfold rmE; rw [if_pos hn, if_neg hz.2, if_pos hy]
      refine (remove_ok s p cnt bF bD M DF DD dn G w hd hr hy (by omega)).mono ?_
      rintro e w' ⟨rfl, DF', dn', G', g1, g2⟩
      refine ⟨_, by rw [e0], ?_, g2⟩
      rw [e0, mv_0]
      exact ⟨⟨_, _, _, _, _, _, g1, rfl⟩, hM.step (by omega) ⟨hM.files.1.fup (by simp), hM.files.2.fup (fun e => by cases e)⟩⟩
    · have e0 : rmE s.data.toList M = 12 := by unfold rmE; rw [if_pos hn, if_neg hz.2, if_neg hy]
      refine (remove_none s p cnt bF bD M DF DD dn G w hd hr (by simpa using hy)).mono ?_
      rintro e w' ⟨rfl, hb⟩
      refine ⟨_, by rw [e0], ?_, Fr.of_below hb⟩
      rw [mv_ne (by rw [e0]; decide)]
      exact ⟨(hS.below hb).more (by omega), hM⟩
  · have e0 : rmE s.data.toList M = refE [s] M.left := by
      rw [refE1] at hr ⊢
      unfold rmE
      by_cases h1 : nameL s.data.toList = true
      · rw [if_pos h1] at hr ⊢
        by_cases h2 : M.left = 0
        · rw [if_pos h2, if_pos h1, if_pos h2]
        · rw [if_neg h2] at hr; exact absurd rfl hr
      · rw [if_neg h1, if_neg h1]
    refine (remove_bad s p cnt bF bD M DF DD dn G w hd hr).mono ?_
    rintro e w' ⟨rfl, hb⟩
    refine ⟨_, by rw [e0], ?_, Fr.of_below hb⟩
    rw [mv_ne (by rw [e0]; exact hr)]
    exact ⟨(hS.below hb).more (by omega), hM⟩

theorem rename_st (s s2 : ByteArray) (p cnt : Nat) (M : Md) (F : Nat → Prop) (w : World) (h : Dsk w p M cnt F) (hc : cnt + 1 ≤ 2199023255552) : Calls Try.prog 18 #[.pointer (some ⟨p, 0, none⟩), .string s, .string s2] w fun e w' => ∃ F', e = .returned (.int .i64 (rnE s.data.toList s2.data.toList M)) ∧ Dsk w' p (mv (rnE s.data.toList s2.data.toList M) (stepM M (.rn s.data.toList s2.data.toList) 1) M) (cnt + 1) F' ∧ Fr w w' F F' := by
  obtain ⟨hS, hM⟩ := h
  obtain ⟨bF, bD, DF, DD, dn, G, hd, rfl⟩ := id hS
  by_cases hr : refE [s, s2] M.left = 0
  · have hz := refE_zero hr
    have hn := okNames_two hz.1
    by_cases hy : (M.files s.data.toList).isSome = true
    · have e0 : rnE s.data.toList s2.data.toList M = 0 := by unfold rnE; rw [if_pos hn, if_neg hz.2, if_pos hy]
      refine (rename_ok s s2 p cnt bF bD M DF DD dn G w hd hr hy (by omega)).mono ?_
      rintro e w' ⟨rfl, DF', dn', G', g1, g2⟩
      refine ⟨_, by rw [e0], ?_, g2⟩
      rw [e0, mv_0]
      exact ⟨⟨_, _, _, _, _, _, g1, rfl⟩, hM.step (by omega) ⟨(hM.files.1.fup (by simp)).fup (hM.files.1 s.data.toList), (hM.files.2.fup (fun e => by cases e)).fup (fun _ => hn.2)⟩⟩
    · have e0 : rnE s.data.toList s2.data.toList M = 12 := by unfold rnE; rw [if_pos hn, if_neg hz.2, if_neg hy]
      refine (rename_none s s2 p cnt bF bD M DF DD dn G w hd hr (by simpa using hy)).mono ?_
      rintro e w' ⟨rfl, hb⟩
      refine ⟨_, by rw [e0], ?_, Fr.of_below hb⟩
      rw [mv_ne (by rw [e0]; decide)]
      exact ⟨(hS.below hb).more (by omega), hM⟩
  · have e0 : rnE s.data.toList s2.data.toList M = refE [s, s2] M.left := by
      rw [refE2] at hr ⊢
      unfold rnE
      by_cases h1 : nameL s.data.toList = true ∧ nameL s2.data.toList = true
      · rw [if_pos h1] at hr ⊢
        by_cases h2 : M.left = 0
        · rw [if_pos h2, if_pos h1, if_pos h2]
        · rw [if_neg h2] at hr; exact absurd rfl hr
      · rw [if_neg h1, if_neg h1]
    refine (rename_bad s s2 p cnt bF bD M DF DD dn G w hd hr).mono ?_
    rintro e w' ⟨rfl, hb⟩
    refine ⟨_, by rw [e0], ?_, Fr.of_below hb⟩
    rw [mv_ne (by rw [e0]; exact hr)]
    exact ⟨(hS.below hb).more (by omega), hM⟩

theorem sync_st (p cnt : Nat) (M : Md) (F : Nat → Prop) (w : World) (h : Dsk w p M cnt F) (hc : cnt ≤ 2199023255552) : Calls Try.prog 20 #[.pointer (some ⟨p, 0, none⟩)] w fun e w' => ∃ F', e = .returned (.int .i64 (syE M)) ∧ Dsk w' p (mv (syE M) (syncM M) M) cnt F' ∧ Fr w w' F F' := by
  obtain ⟨hS, hM⟩ := h
  obtain ⟨bF, bD, DF, DD, dn, G, hd, rfl⟩ := id hS
  by_cases hl : M.left = 0
  · have e0 : syE M = 11 := if_pos hl
    refine (sync_cut p cnt bF bD M DF DD dn G w hd hl).mono ?_
    rintro e w' ⟨rfl, rfl⟩
    refine ⟨_, by rw [e0], ?_, Fr.refl _ _⟩
    rw [mv_ne (by rw [e0]; decide)]
    exact ⟨hS, hM⟩
  · have e0 : syE M = 0 := if_neg hl
    refine (sync_ok p cnt bF bD M DF DD dn G w hd hl hM.un hM.bd hc).mono ?_
    rintro e w' ⟨rfl, DD', g1, g2⟩
    refine ⟨_, by rw [e0], ?_, g2⟩
    rw [e0, mv_0]
    exact ⟨⟨_, _, _, _, _, _, g1, rfl⟩, hM.sync⟩
theorem crash_st (pick : Int) (p cnt : Nat) (M : Md) (F : Nat → Prop) (w : World) (h : Dsk w p M cnt F) (hc : cnt ≤ 2199023255552) : Calls Try.prog 21 #[.pointer (some ⟨p, 0, none⟩), .int .i64 pick] w fun e w' => ∃ F', e = .returned (.tuple #[]) ∧ Dsk w' p (crashM pick M) cnt F' ∧ Fr w w' F F' := by
  obtain ⟨hS, hM⟩ := h
  obtain ⟨bF, bD, DF, DD, dn, G, hd, rfl⟩ := id hS
  refine (crash_any pick p cnt bF bD M DF DD dn G w hd hM.un hM.bd hc).mono ?_
  rintro e w' ⟨rfl, bN, DN, DD', g1, g2⟩
  exact ⟨_, rfl, ⟨⟨_, _, _, _, _, _, g1, rfl⟩, hM.crash pick⟩, g2⟩
theorem cut_st (n : Int) (p cnt : Nat) (M : Md) (F : Nat → Prop) (w : World) (h : Dsk w p M cnt F) (hn : 0 ≤ n ∧ n ≤ 1099511627776) : Calls Try.prog 19 #[.pointer (some ⟨p, 0, none⟩), .int .i64 n] w fun e w' => e = .returned (.int .i64 0) ∧ Dsk w' p ⟨M.files, M.dur, M.done, n⟩ cnt F ∧ Fr w w' F F := by
  obtain ⟨hS, hM⟩ := h
  obtain ⟨bF, bD, DF, DD, dn, G, hd, rfl⟩ := id hS
  refine (cut_ok p bF bD dn M.left n w hd.blk hn.1 hn.2).mono ?_
  rintro e w' ⟨rfl, rfl⟩
  exact ⟨rfl, ⟨⟨_, _, _, _, _, _, hd.setLeft n (by omega), rfl⟩, hM.left n⟩, Fr.setp _ _ _ _ _ _ _ _ _⟩
theorem told_st (p cnt : Nat) (M : Md) (F : Nat → Prop) (w : World) (h : Dsk w p M cnt F) : Calls Try.prog 15 #[.pointer (some ⟨p, 0, none⟩)] w fun e w' => ∃ ks, Srt M.files ks ∧ e = .returned (.string (accB M.files ks)) ∧ Below w.heap.size w w' := by
  obtain ⟨hS, hM⟩ := h
  obtain ⟨bF, bD, DF, DD, dn, G, hd, rfl⟩ := id hS
  exact told_any p cnt bF bD M DF DD dn G w hd hM.files.1 hM.files.2
theorem new_st (w : World) : Calls Try.prog 9 #[] w fun e w' => ∃ F, e = .returned (.pointer (some ⟨w.heap.size + 1 + 1, 0, none⟩)) ∧ Dsk w' (w.heap.size + 1 + 1) M0 0 F ∧ (∀ k, F k → w.heap.size ≤ k) ∧ Below w.heap.size w w' := by
  refine (new_any w).mono ?_
  rintro e w' ⟨rfl, rfl⟩
  exact ⟨_, rfl, ⟨⟨_, _, _, _, _, _, newR w, rfl⟩, okM0⟩, new_foot w, ((below1 w _).alloc (by simp) _).alloc (by simp; omega) _⟩
end Go.Proofs.Ytkbmfookdhlphaa
