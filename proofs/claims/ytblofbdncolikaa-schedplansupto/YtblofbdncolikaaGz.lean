/- Several texts in one (wip/gen/group.py). -/
import Derived.Test.YtblofbdncolikaaZf
/- What Diff answers: plain facts. -/
namespace Go.Proofs.Ytblofbdncolikaa
theorem fi_at {α : Type} [Inhabited α] {P : α → Bool} {L : List α} {m : Nat} (h : fi P L = (m : Int)) (hm : m < L.length) : P L[m] = true ∧ ∀ j (hj : j < m), P (L[j]'(by omega)) = false := by
 have key : ∀ n, n ≤ L.length → (fiK P L n = -1 → ∀ j (hj : j < n) (hl : j < L.length), P L[j] = false) ∧ (∀ m : Nat, fiK P L n = (m : Int) → ∃ hl : m < L.length, P L[m] = true ∧ ∀ j (hj : j < m), P (L[j]'(by omega)) = false) := by
  intro n
  induction n with
  | zero => exact fun _ => ⟨fun _ j hj => absurd hj (by omega), fun m h => by simp [fiK] at h <;> omega⟩
  | succ n ih =>
   intro hn
   obtain ⟨i1, i2⟩ := ih (by omega)
   rw [fiK, getD_at L n (by omega)]
   by_cases h0 : fiK P L n = -1
   ·rw [if_pos h0]
    by_cases hp : P (L[n]'(by omega)) = true
    ·rw [if_pos hp]
     refine ⟨fun h => by omega, fun m hm => ?_⟩
     have : n = m := by omega
     subst this
     exact ⟨by omega, hp, fun j hj => i1 h0 j hj (by omega)⟩
    ·rw [if_neg hp]
     refine ⟨fun _ j hj hl => ?_, fun m hm => by omega⟩
     by_cases hjn : j = n
     ·subst hjn; simpa using hp
     ·exact i1 h0 j (by omega) hl
   ·rw [if_neg h0]
    exact ⟨fun h => absurd h h0, i2⟩
 obtain ⟨_, h2⟩ := key L.length (Nat.le_refl _)
 obtain ⟨_, h3⟩ := h2 m (by rw [fiK_fi]; exact h)
 exact h3
theorem fi_none {α : Type} [Inhabited α] {P : α → Bool} {L : List α} (h : fi P L = -1) : ∀ x ∈ L, P x = false := by
 intro x hx
 obtain ⟨j, hj, rfl⟩ := List.getElem_of_mem hx
 have key : ∀ n, n ≤ L.length → fiK P L n = -1 → ∀ j (hj : j < n) (hl : j < L.length), P L[j] = false := by
  intro n
  induction n with
  | zero => exact fun _ _ j hj => absurd hj (by omega)
  | succ n ih =>
   intro hn h0 j hj hl
   rw [fiK, getD_at L n (by omega)] at h0
   by_cases h1 : fiK P L n = -1
   ·rw [if_pos h1] at h0
    by_cases hp : P (L[n]'(by omega)) = true
    ·rw [if_pos hp] at h0; omega
    ·by_cases hjn : j = n
     ·subst hjn; simpa using hp
     ·exact ih (by omega) h1 j (by omega) hl
   ·rw [if_neg h1] at h0; exact absurd h0 h1
 exact key L.length (Nat.le_refl _) (by rw [fiK_fi]; exact h) j hj hj
theorem dfJ_id {Lj : List Jb} {id : Int} (h : ¬ dfI Lj id < 0) : (dfJ Lj id).id = id ∧ dfJ Lj id ∈ Lj := by
 rcases fi_rng (fun x : Jb => isI x.id id) Lj with h1 | ⟨m, h1, hm⟩
 ·exact absurd (show dfI Lj id < 0 by unfold dfI; omega) h
 ·have e : dfJ Lj id = Lj[m] := by unfold dfJ dfI; rw [h1, Int.toNat_natCast, getD_at Lj m hm]
  rw [e]
  refine ⟨?_, List.getElem_mem hm⟩
  have := (fi_at h1 hm).1
  simpa [isI] using this
theorem suK_sub (d : Jb) (Ln : List Nd) (S : List (Int × Int)) (A : List Al) (k n : Nat) (h : k ≤ n) : suK d Ln S A k ⊆ suK d Ln S A n := by
 induction n with
 | zero =>
  have : k = 0 := by omega
  subst this; exact fun _ h => h
 | succ n ih =>
  by_cases hk : k = n + 1
  ·subst hk; exact fun _ h => h
  ·intro x hx
   have := ih (by omega) hx
   rw [suK]
   split
   ·exact List.mem_append_left _ this
   ·exact this
theorem suK_mem (d : Jb) (Ln : List Nd) (S : List (Int × Int)) (A : List Al) (k : Nat) (hk : k < A.length) (h1 : skB d A[k] = false) (h2 : unB d Ln S A[k] = true) : (k : Int) ∈ suK d Ln S A A.length := by
 refine suK_sub d Ln S A (k + 1) A.length (by omega) ?_
 rw [suK, getD_at A k hk, if_pos ⟨h1, h2⟩]
 simp
theorem rlS_sub (d : Jb) (A : List Al) (z : List Int × Int) (s : Int × Int) : z.1 ⊆ (rlS d A z s).1 := by
 unfold rlS
 split
 ·exact fun _ h => h
 ·split
  ·exact fun _ h => h
  ·exact fun _ h => List.mem_append_left _ h
theorem rlV_sub (d : Jb) (A : List Al) (L : List (Int × Int)) (z : List Int × Int) : z.1 ⊆ (rlV d A z L).1 := by
 induction L generalizing z with
 | nil => exact fun _ h => h
 | cons s L ih => exact fun x hx => ih _ (rlS_sub d A z s hx)
theorem diT_sub (d : Jb) (Ln : List Nd) (A : List Al) : suK d Ln (slV d Ln) A A.length ⊆ diT d Ln A := by
 unfold diT
 split
 ·exact rlV_sub d A _ (_, _)
 ·exact fun _ h => h
theorem idA_nat (A : List Al) (k : Nat) (hk : k < A.length) : idA A (k : Int) = A[k].id := by unfold idA alA; rw [Int.toNat_natCast, getD_at A k hk]
theorem fnM_fi {Ln : List Nd} {z : Int} {m : Nat} (hm : m < Ln.length) (h1 : Ln[m].id = z) (h2 : ∀ j (hj : j < m), ¬ (Ln[j]'(by omega)).id = z) : fnM Ln Ln.length z = some Ln[m] := by
 unfold fnM
 rw [List.take_length]
 induction Ln generalizing m with
 | nil => simp at hm
 | cons y L ih =>
  cases m with
  | zero => simp only [List.getElem_cons_zero] at h1 ⊢; rw [List.find?_cons, h1]; simp [isI]
  | succ m =>
   have h0 : ¬ y.id = z := h2 0 (by omega)
   rw [List.find?_cons]
   have e : isI y.id z = false := by simp [isI, h0]
   rw [e]
   simp only [List.getElem_cons_succ] at h1 ⊢
   exact ih (by simpa using hm) h1 (fun j hj => by have := h2 (j + 1) (by omega); simpa using this)
/- a node that is drained -/
theorem ndD_set {Ln : List Nd} {z : Int} {m : Nat} (h : fi (fun x : Nd => isI x.id z) Ln = (m : Int)) (hm : m < Ln.length) : ndD (Ln.set m { Ln[m] with dr := true }) z = true := by
 obtain ⟨h1, h2⟩ := fi_at h hm
 have hm' : m < (Ln.set m { Ln[m] with dr := true }).length := by rw [List.length_set]; exact hm
 unfold ndD
 rw [fnM_fi (Ln := Ln.set m { Ln[m] with dr := true }) (m := m) hm' (by rw [List.getElem_set_self]; simpa [isI] using h1) (fun j hj => by
  rw [List.getElem_set_ne (by omega)]
  have := h2 j hj
  simpa [isI] using this), List.getElem_set_self]
 rfl
theorem drain_stop {Lj : List Jb} {Ln : List Nd} {A : List Al} {job z : Int} (hj : ¬ dfI Lj job < 0) (hd : ndD Ln z = true) (k : Nat) (hk : k < A.length) (h1 : A[k].jb = job) (h2 : A[k].nd = z) (h3 : ovr A[k].st = false) (h4 : A[k].sp = false) : A[k].id ∈ dfS Lj Ln A job := by
 unfold dfS
 rw [if_neg hj, List.mem_map]
 refine ⟨(k : Int), diT_sub _ _ _ (suK_mem _ _ _ _ k hk ?_ ?_), idA_nat A k hk⟩
 ·simp [skB, (dfJ_id hj).1, h1, h3, h4]
 ·simp [unB, h2, hd]
theorem dfI_set_nodes (Lj : List Jb) (id : Int) : dfI Lj id = fi (fun x : Jb => isI x.id id) Lj := rfl
end Go.Proofs.Ytblofbdncolikaa

/- What Diff answers of a job that is stopped: plain facts. -/
namespace Go.Proofs.Ytblofbdncolikaa
theorem fi_congr {α β : Type} [Inhabited α] [Inhabited β] {P : α → Bool} {Q : β → Bool} {L : List α} {M : List β} (hl : L.length = M.length) (h : ∀ i, i < L.length → P (L[i]?.getD default) = Q (M[i]?.getD default)) : fi P L = fi Q M := by
 rw [← fiK_fi, ← fiK_fi, ← hl]
 have key : ∀ n, n ≤ L.length → fiK P L n = fiK Q M n := by
  intro n
  induction n with
  | zero => exact fun _ => rfl
  | succ n ih =>
   intro hn
   rw [fiK, fiK, ih (by omega), h n (by omega)]
 exact key _ (Nat.le_refl _)
theorem dfI_sd {Lj : List Jb} {job : Int} {m : Nat} (h : dfI Lj job = (m : Int)) (hm : m < Lj.length) : dfI (Lj.set m { Lj[m] with sd := true }) job = (m : Int) ∧ dfJ (Lj.set m { Lj[m] with sd := true }) job = { Lj[m] with sd := true } := by
 have h1 : dfI (Lj.set m { Lj[m] with sd := true }) job = (m : Int) := by
  rw [← h]
  unfold dfI
  refine fi_congr (by rw [List.length_set]) (fun i hi => ?_)
  have hi2 : i < Lj.length := by rw [List.length_set] at hi; exact hi
  rw [getD_at _ i hi, getD_at Lj i hi2]
  by_cases hmi : m = i
  ·subst hmi; rw [List.getElem_set_self]
  ·rw [List.getElem_set_ne hmi]
 refine ⟨h1, ?_⟩
 unfold dfJ
 rw [h1, Int.toNat_natCast, getD_at _ m (by rw [List.length_set]; exact hm), List.getElem_set_self]
theorem slV_sd (d : Jb) (Ln : List Nd) (h : d.sd = true) : slV d Ln = [] := by unfold slV; rw [if_pos h]
theorem suK_nil (d : Jb) (Ln : List Nd) (A : List Al) (k : Nat) (hk : k < A.length) : suK d Ln [] A (k + 1) = if skB d A[k] = false then suK d Ln [] A k ++ [(k : Int)] else suK d Ln [] A k := by
 rw [suK, getD_at A k hk]
 have : unB d Ln [] A[k] = true := by simp [unB]
 simp only [this, and_true]
theorem suK_pre (d : Jb) (Ln : List Nd) (S : List (Int × Int)) (A : List Al) (k n : Nat) (h : k ≤ n) : suK d Ln S A k <+: suK d Ln S A n := by
 induction n with
 | zero =>
  have : k = 0 := by omega
  subst this; exact List.prefix_refl _
 | succ n ih =>
  by_cases hk : k = n + 1
  ·subst hk; exact List.prefix_refl _
  ·refine (ih (by omega)).trans ?_
   rw [suK]
   split
   ·exact List.prefix_append _ _
   ·exact List.prefix_refl _
theorem diT_sd (d : Jb) (Ln : List Nd) (A : List Al) (h : d.sd = true) : diT d Ln A = suK d Ln [] A A.length := by
 unfold diT
 rw [slV_sd d Ln h]
 split <;> rfl
/- of a job that is stopped: what is to stop, and where each stands -/
theorem stopped {Lj : List Jb} {Ln : List Nd} {A : List Al} {job : Int} {m : Nat} (h : dfI Lj job = (m : Int)) (hm : m < Lj.length) :
  ∃ d : Jb, d.id = job ∧ dfS (Lj.set m { Lj[m] with sd := true }) Ln A job = (suK d Ln [] A A.length).map (idA A) ∧ dfF (Lj.set m { Lj[m] with sd := true }) Ln A job = [] := by
 obtain ⟨h1, h2⟩ := dfI_sd h hm
 have hn : ¬ dfI (Lj.set m { Lj[m] with sd := true }) job < 0 := by omega
 refine ⟨{ Lj[m] with sd := true }, ?_, ?_, ?_⟩
 ·have := (dfJ_id hn).1
  rw [h2] at this
  exact this
 ·unfold dfS
  rw [if_neg hn, h2, diT_sd _ _ _ rfl]
 ·unfold dfF
  rw [if_neg hn, h2, slV_sd _ _ rfl]
  rfl
theorem stop_nth (d : Jb) (Ln : List Nd) (A : List Al) (k : Nat) (hk : k < A.length) (h : skB d A[k] = false) : ∃ hl : (suK d Ln [] A k).length < ((suK d Ln [] A A.length).map (idA A)).length, ((suK d Ln [] A A.length).map (idA A))[(suK d Ln [] A k).length] = A[k].id := by
 have h1 := suK_nil d Ln A k hk
 rw [if_pos h] at h1
 obtain ⟨r, hr⟩ := suK_pre d Ln [] A (k + 1) A.length (by omega)
 rw [h1] at hr
 have e : (suK d Ln [] A A.length).map (idA A) = (suK d Ln [] A k).map (idA A) ++ (A[k].id :: r.map (idA A)) := by rw [← hr]; simp [idA_nat A k hk]
 refine ⟨by rw [e]; simp, ?_⟩
 have : ∀ (L M : List Int) (z : Int) (n : Nat) (hn : n = L.length) (hl : n < (L ++ z :: M).length), (L ++ z :: M)[n] = z := by
  intro L M z n hn hl
  subst hn
  simp
 have h3 := this ((suK d Ln [] A k).map (idA A)) (r.map (idA A)) A[k].id (suK d Ln [] A k).length (by simp) (by simp)
 simp only [e]
 exact h3
theorem skB_iff (d : Jb) (x : Al) (job : Int) (h : d.id = job) : skB d x = false ↔ x.jb = job ∧ ¬ 3 ≤ x.st ∧ x.sp = false := by
 subst h
 unfold skB ovr
 by_cases h1 : x.jb = d.id <;> by_cases h2 : 3 ≤ x.st <;> cases x.sp <;> simp [h1, h2]
end Go.Proofs.Ytblofbdncolikaa

/- What Diff answers: slots that nobody holds, none twice; allocations that may stop. -/
namespace Go.Proofs.Ytblofbdncolikaa
theorem opK_nodup (L : List Nd) (k : Nat) : (opK L k).Nodup := by
 induction k with
 | zero => exact List.nodup_nil
 | succ k ih =>
  rw [opK]
  split
  ·exact ih
  ·rename_i h
   rw [List.nodup_append]
   refine ⟨ih, by simp, fun a ha b hb => ?_⟩
   simp only [List.mem_singleton] at hb
   subst hb
   exact fun e => h (.inl (e ▸ ha))
theorem ups_nodup (k : Nat) : (ups k).Nodup := by
 induction k with
 | zero => simp [ups]
 | succ k ih =>
  rw [ups_succ, List.nodup_append]
  refine ⟨ih, by simp, fun a ha b hb => ?_⟩
  simp only [List.mem_singleton] at hb
  subst hb
  have h2 : ∃ j : Nat, j < k ∧ (j : Int) = a := by simpa [ups] using ha
  intro e
  obtain ⟨j, hj, hja⟩ := h2
  omega
theorem slK_fst (ixs : Gp → List Int) (G : List Gp) (k : Nat) : ∀ s ∈ slK ixs G k, s.1 < (k : Int) := by
 induction k with
 | zero => intro s hs; simp [slK] at hs
 | succ k ih =>
  intro s hs
  rw [slK, List.mem_append, List.mem_map] at hs
  rcases hs with h | ⟨i, _, rfl⟩
  ·have := ih s h; omega
  ·show (k : Int) < _; omega
theorem slK_nodup (ixs : Gp → List Int) (G : List Gp) (h : ∀ g, (ixs g).Nodup) (k : Nat) : (slK ixs G k).Nodup := by
 induction k with
 | zero => exact List.nodup_nil
 | succ k ih =>
  rw [slK, List.nodup_append]
  refine ⟨ih, ?_, fun a ha b hb => ?_⟩
  ·have := h (G[k]?.getD default)
   exact List.Pairwise.map _ (fun a b hab e => hab (by cases e; rfl)) this
  ·obtain ⟨i, _, rfl⟩ := List.mem_map.1 hb
   have := slK_fst ixs G k a ha
   intro e
   rw [e] at this
   simp at this
theorem slV_nodup (d : Jb) (Ln : List Nd) : (slV d Ln).Nodup := by
 unfold slV
 split
 ·exact List.nodup_nil
 ·refine slK_nodup _ _ (fun g => ?_) _
  unfold ixV
  split
  ·exact opK_nodup Ln _
  ·exact ups_nodup _
theorem dfF_ok {Lj : List Jb} {Ln : List Nd} {A : List Al} {job : Int} : (dfF Lj Ln A job).Nodup ∧ ∀ s ∈ dfF Lj Ln A job, fi (slB job s.1 s.2) A = -1 := by
 unfold dfF
 by_cases h : dfI Lj job < 0
 ·rw [if_pos h]
  exact ⟨List.nodup_nil, fun s hs => by cases hs⟩
 ·rw [if_neg h]
  refine ⟨(slV_nodup _ _).filter _, fun s hs => ?_⟩
  unfold emV at hs
  have h1 := (List.mem_filter.1 hs).2
  simp only [Bool.and_eq_true, decide_eq_true_eq] at h1
  have h2 := h1.2
  unfold hoV at h2
  rw [fiK_fi, (dfJ_id h).1] at h2
  exact h2
def maB (job z : Int) (x : Al) : Bool := decide (x.id = z) && (decide (x.jb = job) && (decide (x.st < 3) && !x.sp))
theorem maB_of {d : Jb} {job : Int} {x : Al} (hd : d.id = job) (h : skB d x = false) : maB job x.id x = true := by
 obtain ⟨h1, h2, h3⟩ := (skB_iff d x job hd).1 h
 unfold maB
 simp [h1, h3]
 omega
theorem suK_of (d : Jb) (Ln : List Nd) (S : List (Int × Int)) (A : List Al) (n : Nat) (hn : n ≤ A.length) : ∀ z ∈ suK d Ln S A n, ∃ k : Nat, z = (k : Int) ∧ ∃ hk : k < A.length, skB d A[k] = false := by
 induction n with
 | zero => intro z hz; simp [suK] at hz
 | succ n ih =>
  intro z hz
  rw [suK, getD_at A n (by omega)] at hz
  split at hz
  ·rename_i hc
   rcases List.mem_append.1 hz with h | h
   ·exact ih (by omega) z h
   ·simp only [List.mem_singleton] at h
    exact ⟨n, h, by omega, hc.1⟩
  ·exact ih (by omega) z hz
theorem rlS_of (d : Jb) (A : List Al) (z : List Int × Int) (s : Int × Int) (h : ∀ v ∈ z.1, ∃ k : Nat, v = (k : Int) ∧ ∃ hk : k < A.length, skB d A[k] = false) : ∀ v ∈ (rlS d A z s).1, ∃ k : Nat, v = (k : Int) ∧ ∃ hk : k < A.length, skB d A[k] = false := by
 unfold rlS
 split
 ·exact h
 ·split
  ·exact h
  ·rename_i h1
   intro v hv
   rcases List.mem_append.1 hv with h2 | h2
   ·exact h v h2
   ·simp only [List.mem_singleton] at h2
    subst h2
    have hmv : mvB d A z.1 (hoV d A s) = false := by
     cases hb : mvB d A z.1 (hoV d A s) with
     | false => rfl
     | true => exact absurd (.inl hb) h1
    have hf : hoV d A s = fi (slB d.id s.1 s.2) A := by unfold hoV; rw [fiK_fi]
    rcases fi_rng (slB d.id s.1 s.2) A with h3 | ⟨m, h3, hm⟩
    ·rw [hf, h3, mvB_no] at hmv; cases hmv
    ·refine ⟨m, by rw [hf, h3], hm, ?_⟩
     have h4 := (fi_at h3 hm).1
     rw [hf, h3, mvB_at d A z.1 m hm A[m] rfl] at hmv
     simp only [Bool.or_eq_false_iff] at hmv
     simp only [slB, isI, Bool.and_eq_true, decide_eq_true_eq, Bool.not_eq_true'] at h4
     simp [skB, h4.1, h4.2.2.2, hmv.2.1]
theorem rlV_of (d : Jb) (A : List Al) (L : List (Int × Int)) (z : List Int × Int) (h : ∀ v ∈ z.1, ∃ k : Nat, v = (k : Int) ∧ ∃ hk : k < A.length, skB d A[k] = false) : ∀ v ∈ (rlV d A z L).1, ∃ k : Nat, v = (k : Int) ∧ ∃ hk : k < A.length, skB d A[k] = false := by
 induction L generalizing z with
 | nil => exact h
 | cons s L ih => exact ih _ (rlS_of d A z s h)
theorem dfS_ok {Lj : List Jb} {Ln : List Nd} {A : List Al} {job : Int} : ∀ z ∈ dfS Lj Ln A job, A.any (maB job z) = true := by
 intro z hz
 unfold dfS at hz
 by_cases h : dfI Lj job < 0
 ·rw [if_pos h] at hz; cases hz
 ·rw [if_neg h] at hz
  obtain ⟨v, hv, rfl⟩ := List.mem_map.1 hz
  have h0 := suK_of (dfJ Lj job) Ln (slV (dfJ Lj job) Ln) A A.length (Nat.le_refl _)
  have : ∃ k : Nat, v = (k : Int) ∧ ∃ hk : k < A.length, skB (dfJ Lj job) A[k] = false := by
   unfold diT at hv
   split at hv
   ·exact rlV_of _ A _ (_, _) h0 v hv
   ·exact h0 v hv
  obtain ⟨k, rfl, hk, hs⟩ := this
  rw [idA_nat A k hk, List.any_eq_true]
  exact ⟨A[k], List.getElem_mem hk, maB_of (dfJ_id h).1 hs⟩
theorem any_take {A : List Al} {k : Nat} (h : k < A.length) (P : Al → Bool) : (A.take (k + 1)).any P = ((A.take k).any P || P A[k]) := by
 rw [take_snoc A k h, List.any_append]
 simp
end Go.Proofs.Ytblofbdncolikaa
