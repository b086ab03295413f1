/- Several texts in one (wip/gen/group.py). -/
import Derived.Test.YtkbmfookdhlphaaDkn
/- The calls of a disk, with all that is known of what it holds. -/
namespace Go.Proofs.Ytkbmfookdhlphaa
open Go.RowKit Go.Maps Go.Sort

def OkF (fs : FS) : Prop := Bd fs ∧ Nmd fs
structure OkM (M : Md) : Prop where
  un : ∀ x ∈ M.done, 1 ≤ x.1 ∧ x.1 ≤ 1048576
  ok : ∀ k, OkF (rep (M.done.take k) M.dur)
  fl : M.files = rep M.done M.dur
theorem OkM.files {M : Md} (h : OkM M) : OkF M.files := by
  have := h.ok M.done.length
  rw [List.take_length, ← h.fl] at this
  exact this
theorem OkM.bd {M : Md} (h : OkM M) : ∀ k, Bd (rep (M.done.take k) M.dur) := fun k => (h.ok k).1
def stepM (M : Md) (x : Dd) (u : Nat) : Md := ⟨doD x u M.files, M.dur, M.done ++ [(u, x)], lessOne M.left⟩
def syncM (M : Md) : Md := ⟨M.files, rep M.done M.dur, [], lessOne M.left⟩
def crashM (pick : Int) (M : Md) : Md := ⟨mkD M.done (pickN pick (sumU M.done)) M.dur, mkD M.done (pickN pick (sumU M.done)) M.dur, [], -1⟩
theorem rep_snoc (l : List (Nat × Dd)) (u : Nat) (x : Dd) (fs : FS) : rep (l ++ [(u, x)]) fs = doD x u (rep l fs) := by
  unfold rep; rw [List.foldl_append]; rfl
theorem OkM.step {M : Md} (h : OkM M) {x : Dd} {u : Nat} (hu : 1 ≤ u ∧ u ≤ 1048576) (hf : OkF (doD x u M.files)) : OkM (stepM M x u) := by
  refine ⟨fun y hy => ?_, fun k => ?_, ?_⟩
  · rcases List.mem_append.1 hy with hy | hy
    · exact h.un y hy
    · rw [List.mem_singleton.1 hy]; exact hu
  · show OkF (rep ((M.done ++ [(u, x)]).take k) M.dur)
    by_cases hk : k ≤ M.done.length
    · rw [List.take_append_of_le_length hk]
      exact h.ok k
    · rw [List.take_of_length_le (by simp; omega), rep_snoc, ← h.fl]
      exact hf
  · show doD x u M.files = rep (M.done ++ [(u, x)]) M.dur
    rw [rep_snoc, ← h.fl]
theorem OkM.sync {M : Md} (h : OkM M) : OkM (syncM M) := by
  refine ⟨fun y hy => (by cases hy), fun k => ?_, h.fl⟩
  show OkF (rep (([] : List (Nat × Dd)).take k) (rep M.done M.dur))
  rw [List.take_nil]
  show OkF (rep M.done M.dur)
  rw [← h.fl]
  exact h.files
theorem OkF.part {fs : FS} {x : Dd} {m v : Nat} (hm : m ≤ v) (h : OkF (doD x v fs)) : OkF (doD x m fs) := by
  cases x with
  | ap n d =>
    refine ⟨fun k => ?_, fun k hk => h.2 k ?_⟩
    · have := h.1 k
      rw [doD, cOf_fup] at this ⊢
      split
      · rename_i e
        rw [if_pos e] at this
        simp only [Option.getD_some, List.length_append, List.length_take] at this ⊢
        omega
      · rename_i e
        rw [if_neg e] at this
        exact this
    · rw [doD, isSome_fup] at hk ⊢
      exact hk
  | pt n d => exact h
  | rm n => exact h
  | rn a b => exact h
theorem OkF.mkD (l : List (Nat × Dd)) : ∀ (fs : FS) (u : Nat), (∀ k, OkF (rep (l.take k) fs)) → OkF (mkD l u fs) := by
  induction l with
  | nil => intro fs u h; exact h 0
  | cons y l ih =>
    intro fs u h
    obtain ⟨v, x⟩ := y
    unfold Proofs.Ytkbmfookdhlphaa.mkD
    by_cases h0 : min u v = 0
    · rw [if_pos h0]; exact h 0
    · rw [if_neg h0]
      by_cases hv : v ≤ u
      · rw [Nat.min_eq_right hv]
        exact ih _ _ (fun k => h (k + 1))
      · rw [Nat.min_eq_left (by omega), Nat.sub_self]
        have h1 := h 1
        have : OkF (doD x u fs) := OkF.part (by omega : u ≤ v) h1
        cases l with
        | nil => exact this
        | cons z l => simp only [Proofs.Ytkbmfookdhlphaa.mkD, Nat.zero_min, if_true]; exact this
theorem OkM.crash {M : Md} (h : OkM M) (pick : Int) : OkM (crashM pick M) := by
  have := OkF.mkD M.done M.dur (pickN pick (sumU M.done)) h.ok
  exact ⟨fun y hy => (by cases hy), fun k => (by show OkF (rep (([] : List (Nat × Dd)).take k) _); rw [List.take_nil]; exact this), rfl⟩
theorem OkM.left {M : Md} (h : OkM M) (n : Int) : OkM ⟨M.files, M.dur, M.done, n⟩ := ⟨h.un, h.ok, h.fl⟩
theorem okM0 : OkM M0 := ⟨fun x hx => (by cases hx), fun k => (by show OkF (rep (([] : List (Nat × Dd)).take k) fs0); rw [List.take_nil]; exact ⟨bd0, fun k hk => (by cases hk)⟩), rfl⟩
theorem Nmd.fup {fs : FS} (h : Nmd fs) {k : Nm} {v : Option (List UInt8)} (hk : v.isSome = true → nameL k = true) : Nmd (fup fs k v) := fun j hj => by
  rw [isSome_fup] at hj
  split at hj
  · rename_i e; rw [e]; exact hk hj
  · exact h j hj

/- what a call answers -/
def apE (nm : Nm) (n : Nat) (M : Md) (m : Nat) : Int := if nameL nm = true then (if M.left = 0 then 11 else if roomB (((cOf M.files nm).length + n : Nat) : Int) (M.files nm).isSome m = true then 0 else 2) else 1
def ptE (nm : Nm) (n : Nat) (M : Md) (m : Nat) : Int := if nameL nm = true then (if M.left = 0 then 11 else if roomB (n : Int) (M.files nm).isSome m = true then 0 else 2) else 1
def rmE (nm : Nm) (M : Md) : Int := if nameL nm = true then (if M.left = 0 then 11 else if (M.files nm).isSome = true then 0 else 12) else 1
def rnE (na nb : Nm) (M : Md) : Int := if nameL na = true ∧ nameL nb = true then (if M.left = 0 then 11 else if (M.files na).isSome = true then 0 else 12) else 1
def syE (M : Md) : Int := if M.left = 0 then 11 else 0
def mv (E : Int) (M' M : Md) : Md := if E = 0 then M' else M
theorem DkS.more {w : World} {p : Nat} {M : Md} {cnt : Nat} {F : Nat → Prop} (h : DkS w p M cnt F) (hc : cnt + 1 ≤ 4398046511104) : DkS w p M (cnt + 1) F := by
  obtain ⟨bF, bD, DF, DD, dn, G, h1, h2⟩ := h
  exact ⟨bF, bD, DF, DD, dn, G, h1.more hc, h2⟩
/- a disk of which all this is known -/
def Dsk (w : World) (p : Nat) (M : Md) (cnt : Nat) (F : Nat → Prop) : Prop := DkS w p M cnt F ∧ OkM M
theorem Dsk.below {w w' : World} {p : Nat} {M : Md} {cnt : Nat} {F : Nat → Prop} (h : Dsk w p M cnt F) (hb : Below w.heap.size w w') : Dsk w' p M cnt F := ⟨h.1.below hb, h.2⟩
theorem refE1 (s : ByteArray) (l : Int) : refE [s] l = if nameL s.data.toList = true then (if l = 0 then 11 else 0) else 1 := by
  unfold refE okNames; simp
theorem refE2 (s s2 : ByteArray) (l : Int) : refE [s, s2] l = if nameL s.data.toList = true ∧ nameL s2.data.toList = true then (if l = 0 then 11 else 0) else 1 := by
  unfold refE okNames; simp
theorem mv_ne {E : Int} {M' M : Md} (h : E ≠ 0) : mv E M' M = M := if_neg h
theorem mv_0 (M' M : Md) : mv 0 M' M = M' := if_pos rfl

theorem append_st (s : ByteArray) (a : Option Addr) (cap : Nat) (d : List UInt8) (p cnt : Nat) (M : Md) (F : Nat → Prop) (w : World) (h : Dsk w p M cnt F) (hB : Bs w a d) (hnn : a = none → d = []) (hc : cnt + 1 ≤ 2199023255552) : Calls Try.prog 14 #[.pointer (some ⟨p, 0, none⟩), .string s, .slice a d.length cap] w fun e w' => ∃ m F', Card M.files m ∧ e = .returned (.int .i64 (apE s.data.toList d.length M m)) ∧ Dsk w' p (mv (apE s.data.toList d.length M m) (stepM M (.ap s.data.toList d) (max 1 d.length)) M) (cnt + 1) F' ∧ Fr w w' F F' := by
  obtain ⟨hS, hM⟩ := h
  obtain ⟨bF, bD, DF, DD, dn, G, hd, rfl⟩ := id hS
  obtain ⟨ks, hks, hkl⟩ := hd.card
  have hcard : Card M.files (Maps.size DF) := ⟨ks, hks, hkl⟩
  by_cases hr : refE [s] M.left = 0
  · have hz := refE_zero hr
    have hn := okNames_one hz.1
    cases hroom : roomB (((cOf M.files s.data.toList).length + d.length : Nat) : Int) (M.files s.data.toList).isSome (Maps.size DF) with
    | true =>
      have e0 : apE s.data.toList d.length M (Maps.size DF) = 0 := by unfold apE; rw [if_pos hn, if_neg hz.2, if_pos hroom]
      have hlen : (cOf M.files s.data.toList).length + d.length ≤ 1048576 := by unfold roomB at hroom; simp at hroom; omega
      refine (append_ok s a cap d p cnt bF bD M DF DD dn G w hd hr hB hnn hM.files.1 hroom (by omega)).mono ?_
      rintro e w' ⟨rfl, DF', dn', G', g1, g2⟩
      refine ⟨_, _, hcard, by rw [e0], ?_, g2⟩
      rw [e0, mv_0]
      refine ⟨⟨_, _, _, _, _, _, g1, rfl⟩, hM.step (by omega) ⟨hM.files.1.fup ?_, hM.files.2.fup (fun _ => hn)⟩⟩
      show ((cOf M.files s.data.toList) ++ d.take (max 1 d.length)).length ≤ 1048576
      rw [List.length_append, List.length_take]
      omega
    | false =>
      have e0 : apE s.data.toList d.length M (Maps.size DF) = 2 := by unfold apE; rw [if_pos hn, if_neg hz.2, if_neg (by rw [hroom]; decide)]
      refine (append_full s a d.length cap p cnt bF bD M DF DD dn G w hd hr hB.1 hM.files.1 hroom).mono ?_
      rintro e w' ⟨rfl, hb⟩
      refine ⟨_, _, hcard, by rw [e0], ?_, Fr.of_below hb⟩
      rw [mv_ne (by rw [e0]; decide)]
      exact ⟨(hS.below hb).more (by omega), hM⟩
  · have e0 : apE s.data.toList d.length M (Maps.size DF) = refE [s] M.left := by
      rw [refE1] at hr ⊢
      unfold apE
      by_cases h1 : nameL s.data.toList = true
      · rw [if_pos h1] at hr ⊢
        by_cases h2 : M.left = 0
        · rw [if_pos h2, if_pos h1, if_pos h2]
        · rw [if_neg h2] at hr; exact absurd rfl hr
      · rw [if_neg h1, if_neg h1]
    refine (append_bad s a d.length cap p cnt bF bD M DF DD dn G w hd hr).mono ?_
    rintro e w' ⟨rfl, hb⟩
    refine ⟨_, _, hcard, by rw [e0], ?_, Fr.of_below hb⟩
    rw [mv_ne (by rw [e0]; exact hr)]
    exact ⟨(hS.below hb).more (by omega), hM⟩
end Go.Proofs.Ytkbmfookdhlphaa

/- The other calls of a disk, with all that is known. -/
namespace Go.Proofs.Ytkbmfookdhlphaa
open Go.RowKit Go.Maps Go.Sort

theorem put_st (s : ByteArray) (a : Option Addr) (cap : Nat) (d : List UInt8) (p cnt : Nat) (M : Md) (F : Nat → Prop) (w : World) (h : Dsk w p M cnt F) (hB : Bs w a d) (hnn : a = none → d = []) (hc : cnt + 1 ≤ 2199023255552) : Calls Try.prog 16 #[.pointer (some ⟨p, 0, none⟩), .string s, .slice a d.length cap] w fun e w' => ∃ m F', Card M.files m ∧ e = .returned (.int .i64 (ptE s.data.toList d.length M m)) ∧ Dsk w' p (mv (ptE s.data.toList d.length M m) (stepM M (.pt s.data.toList d) 1) M) (cnt + 1) F' ∧ Fr w w' F F' := by
  obtain ⟨hS, hM⟩ := h
  obtain ⟨bF, bD, DF, DD, dn, G, hd, rfl⟩ := id hS
  obtain ⟨ks, hks, hkl⟩ := hd.card
  have hcard : Card M.files (Maps.size DF) := ⟨ks, hks, hkl⟩
  by_cases hr : refE [s] M.left = 0
  · have hz := refE_zero hr
    have hn := okNames_one hz.1
    cases hroom : roomB (d.length : Int) (M.files s.data.toList).isSome (Maps.size DF) with
    | true =>
      have e0 : ptE s.data.toList d.length M (Maps.size DF) = 0 := by unfold ptE; rw [if_pos hn, if_neg hz.2, if_pos hroom]
      have hlen : d.length ≤ 1048576 := by unfold roomB at hroom; simp at hroom; omega
      refine (put_ok s a cap d p cnt bF bD M DF DD dn G w hd hr hB hnn hroom (by omega)).mono ?_
      rintro e w' ⟨rfl, DF', dn', G', g1, g2⟩
      refine ⟨_, _, hcard, by rw [e0], ?_, g2⟩
      rw [e0, mv_0]
      exact ⟨⟨_, _, _, _, _, _, g1, rfl⟩, hM.step (by omega) ⟨hM.files.1.fup hlen, hM.files.2.fup (fun _ => hn)⟩⟩
    | false =>
      have e0 : ptE s.data.toList d.length M (Maps.size DF) = 2 := by unfold ptE; rw [if_pos hn, if_neg hz.2, if_neg (by rw [hroom]; decide)]
      refine (put_full s a d.length cap p cnt bF bD M DF DD dn G w hd hr hroom).mono ?_
      rintro e w' ⟨rfl, hb⟩
      refine ⟨_, _, hcard, by rw [e0], ?_, Fr.of_below hb⟩
      rw [mv_ne (by rw [e0]; decide)]
      exact ⟨(hS.below hb).more (by omega), hM⟩
  · have e0 : ptE s.data.toList d.length M (Maps.size DF) = refE [s] M.left := by
      rw [refE1] at hr ⊢
      unfold ptE
      by_cases h1 : nameL s.data.toList = true
      · rw [if_pos h1] at hr ⊢
        by_cases h2 : M.left = 0
        · rw [if_pos h2, if_pos h1, if_pos h2]
        · rw [if_neg h2] at hr; exact absurd rfl hr
      · rw [if_neg h1, if_neg h1]
    refine (put_bad s a d.length cap p cnt bF bD M DF DD dn G w hd hr).mono ?_
    rintro e w' ⟨rfl, hb⟩
    refine ⟨_, _, hcard, by rw [e0], ?_, Fr.of_below hb⟩
    rw [mv_ne (by rw [e0]; exact hr)]
    exact ⟨(hS.below hb).more (by omega), hM⟩

theorem remove_st (s : ByteArray) (p cnt : Nat) (M : Md) (F : Nat → Prop) (w : World) (h : Dsk w p M cnt F) (hc : cnt + 1 ≤ 2199023255552) : Calls Try.prog 17 #[.pointer (some ⟨p, 0, none⟩), .string s] w fun e w' => ∃ F', e = .returned (.int .i64 (rmE s.data.toList M)) ∧ Dsk w' p (mv (rmE s.data.toList M) (stepM M (.rm s.data.toList) 1) M) (cnt + 1) F' ∧ Fr w w' F F' := by
  obtain ⟨hS, hM⟩ := h
  obtain ⟨bF, bD, DF, DD, dn, G, hd, rfl⟩ := id hS
  by_cases hr : refE [s] M.left = 0
  · have hz := refE_zero hr
    have hn := okNames_one hz.1
    by_cases hy : (M.files s.data.toList).isSome = true
    · have e0 : rmE s.data.toList M = 0 := by unfold rmE; rw [if_pos hn, if_neg hz.2, if_pos hy]
      refine (remove_ok s p cnt bF bD M DF DD dn G w hd hr hy (by omega)).mono ?_
      rintro e w' ⟨rfl, DF', dn', G', g1, g2⟩
      refine ⟨_, by rw [e0], ?_, g2⟩
      rw [e0, mv_0]
      exact ⟨⟨_, _, _, _, _, _, g1, rfl⟩, hM.step (by omega) ⟨hM.files.1.fup (by simp), hM.files.2.fup (fun e => by cases e)⟩⟩
    · have e0 : rmE s.data.toList M = 12 := by unfold rmE; rw [if_pos hn, if_neg hz.2, if_neg hy]
      refine (remove_none s p cnt bF bD M DF DD dn G w hd hr (by simpa using hy)).mono ?_
      rintro e w' ⟨rfl, hb⟩
      refine ⟨_, by rw [e0], ?_, Fr.of_below hb⟩
      rw [mv_ne (by rw [e0]; decide)]
      exact ⟨(hS.below hb).more (by omega), hM⟩
  · have e0 : rmE s.data.toList M = refE [s] M.left := by
      rw [refE1] at hr ⊢
      unfold rmE
      by_cases h1 : nameL s.data.toList = true
      · rw [if_pos h1] at hr ⊢
        by_cases h2 : M.left = 0
        · rw [if_pos h2, if_pos h1, if_pos h2]
        · rw [if_neg h2] at hr; exact absurd rfl hr
      · rw [if_neg h1, if_neg h1]
    refine (remove_bad s p cnt bF bD M DF DD dn G w hd hr).mono ?_
    rintro e w' ⟨rfl, hb⟩
    refine ⟨_, by rw [e0], ?_, Fr.of_below hb⟩
    rw [mv_ne (by rw [e0]; exact hr)]
    exact ⟨(hS.below hb).more (by omega), hM⟩

theorem rename_st (s s2 : ByteArray) (p cnt : Nat) (M : Md) (F : Nat → Prop) (w : World) (h : Dsk w p M cnt F) (hc : cnt + 1 ≤ 2199023255552) : Calls Try.prog 18 #[.pointer (some ⟨p, 0, none⟩), .string s, .string s2] w fun e w' => ∃ F', e = .returned (.int .i64 (rnE s.data.toList s2.data.toList M)) ∧ Dsk w' p (mv (rnE s.data.toList s2.data.toList M) (stepM M (.rn s.data.toList s2.data.toList) 1) M) (cnt + 1) F' ∧ Fr w w' F F' := by
  obtain ⟨hS, hM⟩ := h
  obtain ⟨bF, bD, DF, DD, dn, G, hd, rfl⟩ := id hS
  by_cases hr : refE [s, s2] M.left = 0
  · have hz := refE_zero hr
    have hn := okNames_two hz.1
    by_cases hy : (M.files s.data.toList).isSome = true
    · have e0 : rnE s.data.toList s2.data.toList M = 0 := by unfold rnE; rw [if_pos hn, if_neg hz.2, if_pos hy]
      refine (rename_ok s s2 p cnt bF bD M DF DD dn G w hd hr hy (by omega)).mono ?_
      rintro e w' ⟨rfl, DF', dn', G', g1, g2⟩
      refine ⟨_, by rw [e0], ?_, g2⟩
      rw [e0, mv_0]
      exact ⟨⟨_, _, _, _, _, _, g1, rfl⟩, hM.step (by omega) ⟨(hM.files.1.fup (by simp)).fup (hM.files.1 s.data.toList), (hM.files.2.fup (fun e => by cases e)).fup (fun _ => hn.2)⟩⟩
    · have e0 : rnE s.data.toList s2.data.toList M = 12 := by unfold rnE; rw [if_pos hn, if_neg hz.2, if_neg hy]
      refine (rename_none s s2 p cnt bF bD M DF DD dn G w hd hr (by simpa using hy)).mono ?_
      rintro e w' ⟨rfl, hb⟩
      refine ⟨_, by rw [e0], ?_, Fr.of_below hb⟩
      rw [mv_ne (by rw [e0]; decide)]
      exact ⟨(hS.below hb).more (by omega), hM⟩
  · have e0 : rnE s.data.toList s2.data.toList M = refE [s, s2] M.left := by
      rw [refE2] at hr ⊢
      unfold rnE
      by_cases h1 : nameL s.data.toList = true ∧ nameL s2.data.toList = true
      · rw [if_pos h1] at hr ⊢
        by_cases h2 : M.left = 0
        · rw [if_pos h2, if_pos h1, if_pos h2]
        · rw [if_neg h2] at hr; exact absurd rfl hr
      · rw [if_neg h1, if_neg h1]
    refine (rename_bad s s2 p cnt bF bD M DF DD dn G w hd hr).mono ?_
    rintro e w' ⟨rfl, hb⟩
    refine ⟨_, by rw [e0], ?_, Fr.of_below hb⟩
    rw [mv_ne (by rw [e0]; exact hr)]
    exact ⟨(hS.below hb).more (by omega), hM⟩

theorem sync_st (p cnt : Nat) (M : Md) (F : Nat → Prop) (w : World) (h : Dsk w p M cnt F) (hc : cnt ≤ 2199023255552) : Calls Try.prog 20 #[.pointer (some ⟨p, 0, none⟩)] w fun e w' => ∃ F', e = .returned (.int .i64 (syE M)) ∧ Dsk w' p (mv (syE M) (syncM M) M) cnt F' ∧ Fr w w' F F' := by
  obtain ⟨hS, hM⟩ := h
  obtain ⟨bF, bD, DF, DD, dn, G, hd, rfl⟩ := id hS
  by_cases hl : M.left = 0
  · have e0 : syE M = 11 := if_pos hl
    refine (sync_cut p cnt bF bD M DF DD dn G w hd hl).mono ?_
    rintro e w' ⟨rfl, rfl⟩
    refine ⟨_, by rw [e0], ?_, Fr.refl _ _⟩
    rw [mv_ne (by rw [e0]; decide)]
    exact ⟨hS, hM⟩
  · have e0 : syE M = 0 := if_neg hl
    refine (sync_ok p cnt bF bD M DF DD dn G w hd hl hM.un hM.bd hc).mono ?_
    rintro e w' ⟨rfl, DD', g1, g2⟩
    refine ⟨_, by rw [e0], ?_, g2⟩
    rw [e0, mv_0]
    exact ⟨⟨_, _, _, _, _, _, g1, rfl⟩, hM.sync⟩
theorem crash_st (pick : Int) (p cnt : Nat) (M : Md) (F : Nat → Prop) (w : World) (h : Dsk w p M cnt F) (hc : cnt ≤ 2199023255552) : Calls Try.prog 21 #[.pointer (some ⟨p, 0, none⟩), .int .i64 pick] w fun e w' => ∃ F', e = .returned (.tuple #[]) ∧ Dsk w' p (crashM pick M) cnt F' ∧ Fr w w' F F' := by
  obtain ⟨hS, hM⟩ := h
  obtain ⟨bF, bD, DF, DD, dn, G, hd, rfl⟩ := id hS
  refine (crash_any pick p cnt bF bD M DF DD dn G w hd hM.un hM.bd hc).mono ?_
  rintro e w' ⟨rfl, bN, DN, DD', g1, g2⟩
  exact ⟨_, rfl, ⟨⟨_, _, _, _, _, _, g1, rfl⟩, hM.crash pick⟩, g2⟩
theorem cut_st (n : Int) (p cnt : Nat) (M : Md) (F : Nat → Prop) (w : World) (h : Dsk w p M cnt F) (hn : 0 ≤ n ∧ n ≤ 1099511627776) : Calls Try.prog 19 #[.pointer (some ⟨p, 0, none⟩), .int .i64 n] w fun e w' => e = .returned (.int .i64 0) ∧ Dsk w' p ⟨M.files, M.dur, M.done, n⟩ cnt F ∧ Fr w w' F F := by
  obtain ⟨hS, hM⟩ := h
  obtain ⟨bF, bD, DF, DD, dn, G, hd, rfl⟩ := id hS
  refine (cut_ok p bF bD dn M.left n w hd.blk hn.1 hn.2).mono ?_
  rintro e w' ⟨rfl, rfl⟩
  exact ⟨rfl, ⟨⟨_, _, _, _, _, _, hd.setLeft n (by omega), rfl⟩, hM.left n⟩, Fr.setp _ _ _ _ _ _ _ _ _ _⟩
theorem told_st (p cnt : Nat) (M : Md) (F : Nat → Prop) (w : World) (h : Dsk w p M cnt F) : Calls Try.prog 15 #[.pointer (some ⟨p, 0, none⟩)] w fun e w' => ∃ ks, Srt M.files ks ∧ e = .returned (.string (accB M.files ks)) ∧ Below w.heap.size w w' := by
  obtain ⟨hS, hM⟩ := h
  obtain ⟨bF, bD, DF, DD, dn, G, hd, rfl⟩ := id hS
  exact told_any p cnt bF bD M DF DD dn G w hd hM.files.1 hM.files.2
theorem new_st (w : World) : Calls Try.prog 9 #[] w fun e w' => ∃ F, e = .returned (.pointer (some ⟨w.heap.size + 1 + 1, 0, none⟩)) ∧ Dsk w' (w.heap.size + 1 + 1) M0 0 F ∧ (∀ k, F k → w.heap.size ≤ k) ∧ Below w.heap.size w w' := by
  refine (new_any w).mono ?_
  rintro e w' ⟨rfl, rfl⟩
  exact ⟨_, rfl, ⟨⟨_, _, _, _, _, _, newR w, rfl⟩, okM0⟩, new_foot w, ((below1 w _).alloc (by simp) _).alloc (by simp; omega) _⟩
end Go.Proofs.Ytkbmfookdhlphaa
