/- What Diff answers of a job that is stopped: plain facts. -/
import Derived.Test.YtaaodmagchpnbaaZi
namespace Go.Proofs.Ytaaodmagchpnbaa
theorem fi_congr {α β : Type} [Inhabited α] [Inhabited β] {P : α → Bool} {Q : β → Bool} {L : List α} {M : List β} (hl : L.length = M.length) (h : ∀ i, i < L.length → P (L[i]?.getD default) = Q (M[i]?.getD default)) : fi P L = fi Q M := by
  rw [← fiK_fi, ← fiK_fi, ← hl]
  have key : ∀ n, n ≤ L.length → fiK P L n = fiK Q M n := by
    intro n
    induction n with
    | zero => exact fun _ => rfl
    | succ n ih =>
      intro hn
      rw [fiK, fiK, ih (by omega), h n (by omega)]
  exact key _ (Nat.le_refl _)
theorem dfI_sd {Lj : List Jb} {job : Int} {m : Nat} (h : dfI Lj job = (m : Int)) (hm : m < Lj.length) : dfI (Lj.set m { Lj[m] with sd := true }) job = (m : Int) ∧ dfJ (Lj.set m { Lj[m] with sd := true }) job = { Lj[m] with sd := true } := by
  have h1 : dfI (Lj.set m { Lj[m] with sd := true }) job = (m : Int) := by
    rw [← h]
    unfold dfI
    refine fi_congr (by rw [List.length_set]) (fun i hi => ?_)
    have hi2 : i < Lj.length := by rw [List.length_set] at hi; exact hi
    rw [getD_at _ i hi, getD_at Lj i hi2]
    by_cases hmi : m = i
    · subst hmi; rw [List.getElem_set_self]
    · rw [List.getElem_set_ne hmi]
  refine ⟨h1, ?_⟩
  unfold dfJ
  rw [h1, Int.toNat_natCast, getD_at _ m (by rw [List.length_set]; exact hm), List.getElem_set_self]
theorem slV_sd (d : Jb) (Ln : List Nd) (h : d.sd = true) : slV d Ln = [] := by unfold slV; rw [if_pos h]
theorem suK_nil (d : Jb) (Ln : List Nd) (A : List Al) (k : Nat) (hk : k < A.length) : suK d Ln [] A (k + 1) = if skB d A[k] = false then suK d Ln [] A k ++ [(k : Int)] else suK d Ln [] A k := by
  rw [suK, getD_at A k hk]
  have : unB d Ln [] A[k] = true := by simp [unB]
  simp only [this, and_true]
theorem suK_pre (d : Jb) (Ln : List Nd) (S : List (Int × Int)) (A : List Al) (k n : Nat) (h : k ≤ n) : suK d Ln S A k <+: suK d Ln S A n := by
  induction n with
  | zero => have : k = 0 := by omega
            subst this; exact List.prefix_refl _
  | succ n ih =>
    by_cases hk : k = n + 1
    · subst hk; exact List.prefix_refl _
    · refine (ih (by omega)).trans ?_
      rw [suK]
      split
      · exact List.prefix_append _ _
      · exact List.prefix_refl _
theorem diT_sd (d : Jb) (Ln : List Nd) (A : List Al) (h : d.sd = true) : diT d Ln A = suK d Ln [] A A.length := by
  unfold diT
  rw [slV_sd d Ln h]
  split <;> rfl
/- of a job that is stopped: what is to stop, and where each stands -/
theorem stopped {Lj : List Jb} {Ln : List Nd} {A : List Al} {job : Int} {m : Nat} (h : dfI Lj job = (m : Int)) (hm : m < Lj.length) :
    ∃ d : Jb, d.id = job ∧ dfS (Lj.set m { Lj[m] with sd := true }) Ln A job = (suK d Ln [] A A.length).map (idA A) ∧ dfF (Lj.set m { Lj[m] with sd := true }) Ln A job = [] := by
  obtain ⟨h1, h2⟩ := dfI_sd h hm
  have hn : ¬ dfI (Lj.set m { Lj[m] with sd := true }) job < 0 := by omega
  refine ⟨{ Lj[m] with sd := true }, ?_, ?_, ?_⟩
  · have := (dfJ_id hn).1
    rw [h2] at this
    exact this
  · unfold dfS
    rw [if_neg hn, h2, diT_sd _ _ _ rfl]
  · unfold dfF
    rw [if_neg hn, h2, slV_sd _ _ rfl]
    rfl
theorem stop_nth (d : Jb) (Ln : List Nd) (A : List Al) (k : Nat) (hk : k < A.length) (h : skB d A[k] = false) : ∃ hl : (suK d Ln [] A k).length < ((suK d Ln [] A A.length).map (idA A)).length, ((suK d Ln [] A A.length).map (idA A))[(suK d Ln [] A k).length] = A[k].id := by
  have h1 := suK_nil d Ln A k hk
  rw [if_pos h] at h1
  obtain ⟨r, hr⟩ := suK_pre d Ln [] A (k + 1) A.length (by omega)
  rw [h1] at hr
  have e : (suK d Ln [] A A.length).map (idA A) = (suK d Ln [] A k).map (idA A) ++ (A[k].id :: r.map (idA A)) := by rw [← hr]; simp [idA_nat A k hk]
  refine ⟨by rw [e]; simp, ?_⟩
  have : ∀ (L M : List Int) (z : Int) (n : Nat) (hn : n = L.length) (hl : n < (L ++ z :: M).length), (L ++ z :: M)[n] = z := by
    intro L M z n hn hl
    subst hn
    simp
  have h3 := this ((suK d Ln [] A k).map (idA A)) (r.map (idA A)) A[k].id (suK d Ln [] A k).length (by simp) (by simp)
  simp only [e]
  exact h3
theorem skB_iff (d : Jb) (x : Al) (job : Int) (h : d.id = job) : skB d x = false ↔ x.jb = job ∧ ¬ 3 ≤ x.st ∧ x.sp = false := by
  subst h
  unfold skB ovr
  by_cases h1 : x.jb = d.id <;> by_cases h2 : 3 ≤ x.st <;> cases x.sp <;> simp [h1, h2]
end Go.Proofs.Ytaaodmagchpnbaa
