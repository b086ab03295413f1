/- Plain facts of a plan. -/
import Derived.Test.YtblofbdncolikaaPc
import Derived.Test.YtblofbdncolikaaGz
import Derived.Test.YtblofbdncolikaaOu
namespace Go.Proofs.Ytblofbdncolikaa
/- how many slots there are at most -/
theorem slK_bd (ixs : Gp → List Int) (G : List Gp) (M : Nat) (h : ∀ g, (ixs g).length ≤ M) (k : Nat) : (slK ixs G k).length ≤ k * M := by
 induction k with
 | zero => simp [slK]
 | succ k ih =>
  rw [slK, List.length_append, List.length_map, Nat.add_mul]
  have := h (G[k]?.getD default)
  omega
theorem slV_bd (d : Jb) (Ln : List Nd) (M : Nat) (h4 : 4 ≤ M) (hn : Ln.length ≤ M) : (slV d Ln).length ≤ d.gs.length * M := by
 unfold slV
 split
 ·simp
 ·refine slK_bd _ _ _ (fun g => ?_) _
  unfold ixV
  split
  ·exact Nat.le_trans (opK_len Ln Ln.length) hn
  ·rw [ups_len]; unfold cnN; omega
theorem sl_ok {d : Jb} {Ln : List Nd} (hg : d.gs.length ≤ 1048576) (hn : Ln.length ≤ 1048576) : (slV d Ln).length * 16 ≤ 140737488355328 := by
 have h1 := slV_bd d Ln 1048576 (by omega) hn
 have h2 : d.gs.length * 1048576 ≤ 1048576 * 1048576 := Nat.mul_le_mul_right _ hg
 omega
theorem dfF_len (Lj : List Jb) (Ln : List Nd) (A : List Al) (job : Int) (h : ¬ dfI Lj job < 0) : (dfF Lj Ln A job).length ≤ (slV (dfJ Lj job) Ln).length := by
  unfold dfF
  rw [if_neg h]
  exact List.length_filter_le _ _
theorem fl_ok {Lj : List Jb} {Ln : List Nd} {A : List Al} {job : Int} (hg : ∀ x ∈ Lj, x.gs.length ≤ 1048576) (hn : Ln.length ≤ 1048576) : (dfF Lj Ln A job).length * 88 ≤ 140737488355328 := by
  by_cases h : dfI Lj job < 0
  · unfold dfF
    rw [if_pos h]
    decide
  · have h0 := dfF_len Lj Ln A job h
    have h1 := slV_bd (dfJ Lj job) Ln 1048576 (by omega) hn
    have h2 : (dfJ Lj job).gs.length * 1048576 ≤ 1048576 * 1048576 := Nat.mul_le_mul_right _ (hg _ (dfJ_id h).2)
    omega
def ky (x : Al) : Int × Int := (x.gr, x.ix)
theorem plS_sub (d : Jb) (Ln : List Nd) (A : List Al) (L : List (Int × Int)) : ∀ z : List Al × Bool, ((L.foldl (plS d Ln A) z).1.map ky).Sublist (z.1.map ky ++ L) ∧ ((∀ x ∈ z.1, x.jb = d.id) → ∀ x ∈ (L.foldl (plS d Ln A) z).1, x.jb = d.id) := by
  induction L with
  | nil => intro z; exact ⟨by simp, fun h => h⟩
  | cons y L ih =>
    intro z
    rw [List.foldl_cons]
    obtain ⟨h1, h2⟩ := ih (plS d Ln A z y)
    unfold plS at h1 h2 ⊢
    cases hn : nfV d Ln A z.1 y with
    | none =>
      rw [hn] at h1 h2
      simp only at h1 h2 ⊢
      exact ⟨h1.trans (List.Sublist.append (List.Sublist.refl _) (List.sublist_cons_self _ _)), h2⟩
    | some n =>
      rw [hn] at h1 h2
      simp only at h1 h2 ⊢
      refine ⟨?_, fun h => h2 (fun x hx => ?_)⟩
      · have e : (z.1 ++ [plA d n y]).map ky ++ L = z.1.map ky ++ y :: L := by simp [ky, plA]
        rw [e] at h1
        exact h1
      · rcases List.mem_append.1 hx with h3 | h3
        · exact h x h3
        · rw [List.mem_singleton] at h3
          subst h3
          rfl
theorem plV_sub (d : Jb) (Ln : List Nd) (A : List Al) (L : List (Int × Int)) : ((plV d Ln A L).1.map ky).Sublist L ∧ ∀ x ∈ (plV d Ln A L).1, x.jb = d.id := by
  obtain ⟨h1, h2⟩ := plS_sub d Ln A L ([], false)
  exact ⟨by unfold plV; simpa using h1, h2 (fun x hx => by cases hx)⟩
/- what SchedOnly asks -/
theorem pn_pl {Lj : List Jb} {Ln : List Nd} {A : List Al} {E : List Qd} {job : Int} : ((pnV Lj Ln A E job).pl.map ky).Nodup ∧ ∀ x ∈ (pnV Lj Ln A E job).pl, x.jb = job ∧ fi (slB job x.gr x.ix) A = -1 := by
  unfold pnV
  by_cases h : dfI Lj job < 0
  · rw [if_pos h]
    exact ⟨List.nodup_nil, fun x hx => by cases hx⟩
  · rw [if_neg h]
    obtain ⟨h1, h2⟩ := plV_sub (dfJ Lj job) Ln A (dfF Lj Ln A job)
    obtain ⟨h3, h4⟩ := dfF_ok (Lj := Lj) (Ln := Ln) (A := A) (job := job)
    refine ⟨h1.nodup h3, fun x hx => ⟨(h2 x hx).trans (dfJ_id h).1, ?_⟩⟩
    have hm : ky x ∈ dfF Lj Ln A job := h1.subset (List.mem_map_of_mem hx)
    exact h4 _ hm
def onB (job z : Int) (x : Al) : Bool := decide (x.id = z) && decide (x.jb = job)
theorem pn_st {Lj : List Jb} {Ln : List Nd} {A : List Al} {E : List Qd} {job : Int} : ∀ z ∈ (pnV Lj Ln A E job).st, A.any (onB job z) = true := by
  intro z hz
  have hz2 : z ∈ dfS Lj Ln A job := by
    unfold pnV at hz
    by_cases h : dfI Lj job < 0
    · rw [if_pos h] at hz; cases hz
    · rw [if_neg h] at hz; exact hz
  have h1 := dfS_ok z hz2
  rw [List.any_eq_true] at h1 ⊢
  obtain ⟨x, hx, hm⟩ := h1
  refine ⟨x, hx, ?_⟩
  unfold maB at hm
  unfold onB
  simp only [Bool.and_eq_true] at hm ⊢
  exact ⟨hm.1, hm.2.1⟩
theorem ky_ne {P : List Al} (h : (P.map ky).Nodup) {i k : Nat} (hi : i < P.length) (hk : k < i) : ¬ (P[k].gr = P[i].gr ∧ P[k].ix = P[i].ix) := by
  intro ⟨h1, h2⟩
  have hp := List.pairwise_iff_getElem.1 h k i (by rw [List.length_map]; omega) (by rw [List.length_map]; exact hi) hk
  rw [List.getElem_map, List.getElem_map] at hp
  exact hp (Prod.ext h1 h2)
end Go.Proofs.Ytblofbdncolikaa
