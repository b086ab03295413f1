/- A disk that was made behind the end of what there was, and what its calls answer. -/
import Derived.Test.YtkbmfookdhlphaaDopn
namespace Go.Proofs.Ytkbmfookdhlphaa
open Go.RowKit Go.Maps Go.Sort

def Cst (w wr : World) (p : Nat) (M : Md) (cnt : Nat) : Prop := ∃ F, Dsk wr p M cnt F ∧ (∀ k, F k → w.heap.size ≤ k) ∧ Below w.heap.size w wr
section
variable {w wr w' : World} {p : Nat} {M M' : Md} {cnt cnt' : Nat}
theorem Cst.bel (h : Cst w wr p M cnt) : Below w.heap.size w wr := by
  obtain ⟨F, _, _, h⟩ := h; exact h
theorem Cst.below (h : Cst w wr p M cnt) (hb : Below wr.heap.size wr w') : Cst w w' p M cnt := by
  obtain ⟨F, h1, h2, h3⟩ := h
  exact ⟨F, h1.below hb, h2, h3.trans (hb.mono h3.size)⟩
theorem cst_fr {F F' : Nat → Prop} (h2 : ∀ k, F k → w.heap.size ≤ k) (h3 : Below w.heap.size w wr) (g1 : Dsk w' p M' cnt' F') (g2 : Fr wr w' F F') : Cst w w' p M' cnt' :=
  ⟨F', g1, g2.above h3.size h2, h3.trans (g2.below h3.size h2)⟩
theorem Cst.more (h : Cst w wr p M cnt) (hc : cnt + 1 ≤ 4398046511104) : Cst w wr p M (cnt + 1) := by
  obtain ⟨F, h1, h2, h3⟩ := h
  exact ⟨F, ⟨h1.1.more hc, h1.2⟩, h2, h3⟩
theorem Cst.srt (h : Cst w wr p M cnt) : ∃ ks, Srt M.files ks := by
  obtain ⟨F, ⟨⟨bF, bD, DF, DD, dn, G, hd, _⟩, _⟩, _, _⟩ := h
  obtain ⟨ks, hks, _⟩ := hd.card
  exact ⟨ks, hks⟩
end
/- what a call answers, and what it leaves of a cut -/
structure Dn (M : Md) (E : Int) (M' : Md) : Prop where
  ok : E = 0 → M'.left = lessOne M.left
  no : E ≠ 0 → M' = M
  cut : M.left = 0 → E = 1 ∨ E = 11
  on : M.left ≠ 0 → E ≠ 11
theorem dn_of {M M' : Md} {E : Int} (h0 : M'.left = lessOne M.left) (h1 : M.left = 0 → E = 1 ∨ E = 11) (h2 : M.left ≠ 0 → E ≠ 11) : Dn M E (mv E M' M) :=
  ⟨fun e => by rw [e, mv_0]; exact h0, fun e => mv_ne e, h1, h2⟩
section
variable {w wr : World} {p : Nat} {M : Md} {cnt : Nat}
theorem new_c (w : World) : Calls Try.prog 9 #[] w fun e w' => e = .returned (.pointer (some ⟨w.heap.size + 1 + 1, 0, none⟩)) ∧ Cst w w' (w.heap.size + 1 + 1) M0 0 := by
  refine (new_st w).mono ?_
  rintro e w' ⟨F, rfl, h1, h2, h3⟩
  exact ⟨rfl, F, h1, h2, h3⟩
theorem cut_c (n : Int) (hn : 0 ≤ n ∧ n ≤ 1099511627776) (h : Cst w wr p M cnt) : Calls Try.prog 19 #[.pointer (some ⟨p, 0, none⟩), .int .i64 n] wr fun e w' => e = .returned (.int .i64 0) ∧ Cst w w' p ⟨M.files, M.dur, M.done, n⟩ cnt := by
  obtain ⟨F, q1, q2, q3⟩ := h
  refine (cut_st n p cnt M F wr q1 hn).mono ?_
  rintro e w' ⟨rfl, g1, g2⟩
  exact ⟨rfl, cst_fr q2 q3 g1 g2⟩
theorem crash_c (pick : Int) (h : Cst w wr p M cnt) (hc : cnt ≤ 2199023255552) : Calls Try.prog 21 #[.pointer (some ⟨p, 0, none⟩), .int .i64 pick] wr fun e w' => e = .returned (.tuple #[]) ∧ Cst w w' p (crashM pick M) cnt := by
  obtain ⟨F, q1, q2, q3⟩ := h
  refine (crash_st pick p cnt M F wr q1 hc).mono ?_
  rintro e w' ⟨F', rfl, g1, g2⟩
  exact ⟨rfl, cst_fr q2 q3 g1 g2⟩
theorem sync_d (h : Cst w wr p M cnt) (hc : cnt ≤ 2199023255552) (hl : M.left ≠ 0) : Calls Try.prog 20 #[.pointer (some ⟨p, 0, none⟩)] wr fun e w' => e = .returned (.int .i64 0) ∧ Cst w w' p (syncM M) cnt := by
  obtain ⟨F, q1, q2, q3⟩ := h
  refine (sync_st p cnt M F wr q1 hc).mono ?_
  rintro e w' ⟨F', rfl, g1, g2⟩
  have e0 : syE M = 0 := if_neg hl
  rw [e0, mv_0] at g1
  exact ⟨by rw [e0], cst_fr q2 q3 g1 g2⟩
theorem told_c (h : Cst w wr p M cnt) : ∃ T, ∀ cnt wq, Cst w wq p M cnt → Calls Try.prog 15 #[.pointer (some ⟨p, 0, none⟩)] wq fun e w' => e = .returned (.string T) ∧ Below wq.heap.size wq w' := by
  obtain ⟨ks, hks⟩ := h.srt
  refine ⟨accB M.files ks, fun cnt wq hq => ?_⟩
  obtain ⟨F, q1, q2, q3⟩ := hq
  refine (told_st p cnt M F wq q1).mono ?_
  rintro e w' ⟨ks', hk', rfl, hb⟩
  rw [hk'.uniq hks]
  exact ⟨rfl, hb⟩
theorem append_c (s : ByteArray) (a : Option Addr) (cap : Nat) (d : List UInt8) (h : Cst w wr p M cnt) (hB : Bs w a d) (hnn : a = none → d = []) (hc : cnt + 1 ≤ 2199023255552) : ∃ E M', Dn M E M' ∧ ∀ wq, Cst w wq p M cnt → Calls Try.prog 14 #[.pointer (some ⟨p, 0, none⟩), .string s, .slice a d.length cap] wq fun e w' => e = .returned (.int .i64 E) ∧ Cst w w' p M' (cnt + 1) := by
  obtain ⟨ks, hks⟩ := h.srt
  refine ⟨apE s.data.toList d.length M ks.length, mv _ (stepM M (.ap s.data.toList d) (max 1 d.length)) M, dn_of rfl (fun h => ?_) (fun h => ?_), fun wq hq => ?_⟩
  · unfold apE; rw [h]; split <;> simp
  · unfold apE; split <;> simp; split <;> simp
  · obtain ⟨F, q1, q2, q3⟩ := hq
    refine (append_st s a cap d p cnt M F wq q1 (hB.grow q3) hnn hc).mono ?_
    rintro e w' ⟨m, F', ⟨ks', hk', rfl⟩, rfl, g1, g2⟩
    rw [hk'.uniq hks] at g1 ⊢
    exact ⟨rfl, cst_fr q2 q3 g1 g2⟩
theorem put_c (s : ByteArray) (a : Option Addr) (cap : Nat) (d : List UInt8) (h : Cst w wr p M cnt) (hB : Bs w a d) (hnn : a = none → d = []) (hc : cnt + 1 ≤ 2199023255552) : ∃ E M', Dn M E M' ∧ ∀ wq, Cst w wq p M cnt → Calls Try.prog 16 #[.pointer (some ⟨p, 0, none⟩), .string s, .slice a d.length cap] wq fun e w' => e = .returned (.int .i64 E) ∧ Cst w w' p M' (cnt + 1) := by
  obtain ⟨ks, hks⟩ := h.srt
  refine ⟨ptE s.data.toList d.length M ks.length, mv _ (stepM M (.pt s.data.toList d) 1) M, dn_of rfl (fun h => ?_) (fun h => ?_), fun wq hq => ?_⟩
  · unfold ptE; rw [h]; split <;> simp
  · unfold ptE; split <;> simp; split <;> simp
  · obtain ⟨F, q1, q2, q3⟩ := hq
    refine (put_st s a cap d p cnt M F wq q1 (hB.grow q3) hnn hc).mono ?_
    rintro e w' ⟨m, F', ⟨ks', hk', rfl⟩, rfl, g1, g2⟩
    rw [hk'.uniq hks] at g1 ⊢
    exact ⟨rfl, cst_fr q2 q3 g1 g2⟩
theorem remove_c (s : ByteArray) (_h : Cst w wr p M cnt) (hc : cnt + 1 ≤ 2199023255552) : ∃ E M', Dn M E M' ∧ ∀ wq, Cst w wq p M cnt → Calls Try.prog 17 #[.pointer (some ⟨p, 0, none⟩), .string s] wq fun e w' => e = .returned (.int .i64 E) ∧ Cst w w' p M' (cnt + 1) := by
  refine ⟨rmE s.data.toList M, mv _ (stepM M (.rm s.data.toList) 1) M, dn_of rfl (fun h => ?_) (fun h => ?_), fun wq hq => ?_⟩
  · unfold rmE; rw [h]; split <;> simp
  · unfold rmE; split <;> simp; split <;> simp
  · obtain ⟨F, q1, q2, q3⟩ := hq
    refine (remove_st s p cnt M F wq q1 hc).mono ?_
    rintro e w' ⟨F', rfl, g1, g2⟩
    exact ⟨rfl, cst_fr q2 q3 g1 g2⟩
theorem rename_c (s s2 : ByteArray) (_h : Cst w wr p M cnt) (hc : cnt + 1 ≤ 2199023255552) : ∃ E M', Dn M E M' ∧ ∀ wq, Cst w wq p M cnt → Calls Try.prog 18 #[.pointer (some ⟨p, 0, none⟩), .string s, .string s2] wq fun e w' => e = .returned (.int .i64 E) ∧ Cst w w' p M' (cnt + 1) := by
  refine ⟨rnE s.data.toList s2.data.toList M, mv _ (stepM M (.rn s.data.toList s2.data.toList) 1) M, dn_of rfl (fun h => ?_) (fun h => ?_), fun wq hq => ?_⟩
  · unfold rnE; rw [h]; split <;> simp
  · unfold rnE; split <;> simp; split <;> simp
  · obtain ⟨F, q1, q2, q3⟩ := hq
    refine (rename_st s s2 p cnt M F wq q1 hc).mono ?_
    rintro e w' ⟨F', rfl, g1, g2⟩
    exact ⟨rfl, cst_fr q2 q3 g1 g2⟩
theorem sync_c (_h : Cst w wr p M cnt) (hc : cnt + 1 ≤ 2199023255552) : ∃ E M', Dn M E M' ∧ ∀ wq, Cst w wq p M cnt → Calls Try.prog 20 #[.pointer (some ⟨p, 0, none⟩)] wq fun e w' => e = .returned (.int .i64 E) ∧ Cst w w' p M' (cnt + 1) := by
  refine ⟨syE M, mv _ (syncM M) M, dn_of rfl (fun h => ?_) (fun h => ?_), fun wq hq => ?_⟩
  · unfold syE; rw [h]; simp
  · unfold syE; simp [h]
  · obtain ⟨F, q1, q2, q3⟩ := hq
    refine (sync_st p cnt M F wq q1 (by omega)).mono ?_
    rintro e w' ⟨F', rfl, g1, g2⟩
    exact ⟨rfl, (cst_fr q2 q3 g1 g2).more (by omega)⟩
end
end Go.Proofs.Ytkbmfookdhlphaa
