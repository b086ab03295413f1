/- A change rolls: what stands behind all that is to stop. -/
import Derived.Test.YtaaodmagchpnbaaMo
namespace Go.Proofs.Ytaaodmagchpnbaa
def spT (A : List Al) (T : List Int) : List Al := A.mapIdx (fun q x => if (q : Int) ∈ T then { x with sp := true } else x)
theorem spT_len (A : List Al) (T : List Int) : (spT A T).length = A.length := by simp [spT]
theorem spT_at (A : List Al) (T : List Int) (q : Nat) (h : q < A.length) : (spT A T)[q]'(by rw [spT_len]; exact h) = if (q : Int) ∈ T then { A[q] with sp := true } else A[q] := by simp [spT]
theorem spT_nil (A : List Al) : spT A [] = A := by
  apply List.ext_getElem (spT_len A [])
  intro q h1 h2
  rw [spT_at A [] q h2, if_neg (by simp)]
theorem spT_set (A : List Al) (T : List Int) (v : Nat) (hv : v < A.length) : (spT A T).set v { (spT A T)[v]'(by rw [spT_len]; exact hv) with sp := true } = spT A (T ++ [(v : Int)]) := by
  apply List.ext_getElem (by rw [List.length_set, spT_len, spT_len])
  intro q h1 h2
  have hq : q < A.length := by rw [spT_len] at h2; exact h2
  rw [spT_at A _ q hq]
  by_cases hvq : v = q
  · subst hvq
    rw [List.getElem_set_self]
    have e1 : (v : Int) ∈ T ++ [(v : Int)] := by simp
    rw [if_pos e1, spT_at A T v hv]
    split <;> rfl
  · rw [List.getElem_set_ne hvq, spT_at A T q hq]
    have e : ((q : Int) ∈ T ++ [(v : Int)]) ↔ (q : Int) ∈ T := by
      rw [List.mem_append, List.mem_singleton]
      exact ⟨fun h => h.elim id (fun h => absurd (by omega) hvq), .inl⟩
    simp only [e]
theorem fi_spT (A : List Al) (T : List Int) (P : Al → Bool) (hP : ∀ x : Al, P { x with sp := true } = P x) : fi P (spT A T) = fi P A := by
  refine fi_congr (spT_len A T) (fun i hi => ?_)
  have hi2 : i < A.length := by rw [spT_len] at hi; exact hi
  rw [getD_at _ i hi, getD_at A i hi2, spT_at A T i hi2]
  split
  · exact hP _
  · rfl
theorem mvN_spT (d : Jb) (A : List Al) (T : List Int) (S : List (Int × Int)) : mvN d (spT A T) [] S = mvN d A T S := by
  unfold mvN
  congr 1
  refine List.filter_congr (fun s _ => ?_)
  have e : hoV d (spT A T) s = hoV d A s := by rw [hoV_fi, hoV_fi]; exact fi_spT A T _ (fun _ => rfl)
  rw [e, hoV_fi]
  rcases fi_rng (slB d.id s.1 s.2) A with h | ⟨m, h, hm⟩
  · rw [h, mvB_no, mvB_no]
  · rw [h, mvB_at d A T m hm A[m] rfl, mvB_at d (spT A T) [] m (by rw [spT_len]; exact hm) _ (spT_at A T m hm)]
    by_cases hT : (m : Int) ∈ T
    · rw [if_pos hT]; simp [hT]
    · rw [if_neg hT]; simp [hT]
theorem ndD_fi {Ln : List Nd} {z : Int} {m : Nat} (h : fi (fun x : Nd => isI x.id z) Ln = (m : Int)) (hm : m < Ln.length) : ndD Ln z = Ln[m].dr := by
  obtain ⟨h1, h2⟩ := fi_at h hm
  unfold ndD
  rw [fnM_fi hm (by simpa [isI] using h1) (fun j hj => by have := h2 j hj; simpa [isI] using this)]
  rfl
theorem ndD_fn {Ln : List Nd} {z : Int} (h : fi (fun x : Nd => isI x.id z) Ln = -1) : ndD Ln z = false := ndD_none Ln z (fun x hx => by have := fi_none h x hx; simpa [isI] using this)
/- all that is to stop of such a job -/
theorem rolls {Lj : List Jb} {Ln : List Nd} {A : List Al} {job : Int} (d : Jb) (hj : ¬ dfI Lj job < 0) (hd : dfJ Lj job = d) (hty : d.ty = 1) (hR : RoP d Ln (slV d Ln) A A.length) :
    ∃ T : List Int, dfS Lj Ln A job = T.map (idA A) ∧ (∀ v ∈ T, ∃ k : Nat, v = (k : Int) ∧ ∃ hk : k < A.length, fi (fun x : Al => isI x.id A[k].id) A = (k : Int)) ∧ ((mvN d A T (slV d Ln) : Int) ≤ d.pa ∨ mvN d A T (slV d Ln) ≤ mvN d A [] (slV d Ln)) := by
  have hid : d.id = job := by rw [← hd]; exact (dfJ_id hj).1
  have hsu : suK d Ln (slV d Ln) A A.length = [] := suK_none d Ln _ A (fun x hx hs => by
    obtain ⟨i, hi, rfl⟩ := List.getElem_of_mem hx
    obtain ⟨h1, h2, h3⟩ := (skB_iff d A[i] job hid).1 hs
    obtain ⟨r1, r2, _, _⟩ := hR.ok i hi hi (by rw [hid]; exact h1) (by omega)
    simp [unB, r1, r2, hty]) _ (Nat.le_refl _)
  refine ⟨diT d Ln A, by unfold dfS; rw [if_neg hj, hd], ?_, ?_⟩
  · have h0 : ∀ v ∈ diT d Ln A, ∃ k : Nat, v = (k : Int) ∧ ∃ hk : k < A.length, skB d A[k] = false := by
      unfold diT
      rw [if_pos hty, hsu]
      exact rlV_of d A _ ([], _) (fun v hv => by cases hv)
    intro v hv
    obtain ⟨k, e, hk, hs⟩ := h0 v hv
    obtain ⟨h1, h2, _⟩ := (skB_iff d A[k] job hid).1 hs
    exact ⟨k, e, hk, (hR.ok k hk hk (by rw [hid]; exact h1) (by omega)).2.2.2⟩
  · unfold diT
    rw [if_pos hty, hsu]
    obtain ⟨h1, h2⟩ := rlV_roll d A (slV d Ln) (slV_nodup d Ln) _ (Int.le_refl _) (slV d Ln)
    rcases h2 with h2 | h2
    · left; omega
    · right
      rw [h2] at h1
      omega
theorem RoP.more {d : Jb} {Ln : List Nd} {S : List (Int × Int)} {A : List Al} {k : Nat} (h : RoP d Ln S A k) (x : Al) (hk : k < A.length) (hx : A[k] = x) (hn : x.jb = d.id → x.st < 3 → (x.gr, x.ix) ∈ S ∧ ndD Ln x.nd = false ∧ fi (slB d.id x.gr x.ix) A = (k : Int) ∧ fi (fun z : Al => isI z.id x.id) A = (k : Int)) : RoP d Ln S A (k + 1) := ⟨fun i hi h1 h2 h3 => by
  by_cases e : i = k
  · subst e
    rw [hx] at h2 h3 ⊢
    exact hn h2 h3
  · exact h.ok i hi (by omega) h2 h3⟩
theorem take_memP {L : List (Int × Int)} {k : Nat} (h : k < L.length) (z : Int × Int) : decide (z ∈ L.take (k + 1)) = (decide (z ∈ L.take k) || decide (L[k] = z)) := by
  have e : (z ∈ L.take (k + 1)) ↔ (z ∈ L.take k ∨ L[k] = z) := by
    rw [take_snoc L k h, List.mem_append, List.mem_singleton]
    exact ⟨fun h => h.elim .inl (fun e => .inr e.symm), fun h => h.elim .inl (fun e => .inr e.symm)⟩
  rw [decide_eq_decide.2 e, Bool.decide_or]
end Go.Proofs.Ytaaodmagchpnbaa
