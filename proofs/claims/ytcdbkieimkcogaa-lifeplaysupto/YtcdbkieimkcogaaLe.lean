/- What Tick's model does; pick; the laws' example. -/
import Derived.Test.YtcdbkieimkcogaaLd
namespace Go.Proofs.Ytcdbkieimkcogaa
open Go.RowKit
variable {D : Nat}

theorem dueN_ok {mo mn : Mp} {k : Sg} {e : Int} (ho : Okm mo) (hn : Okm mn) (hk : (k.kd = 1 ∧ e = 20) ∨ (k.kd = 2 ∧ e = 40)) : Okm (dueN mo mn k e) := by
  unfold dueN
  cases hm : mn k with
  | some v => exact hn
  | none =>
    intro j v hv
    by_cases hj : j = k
    · subst hj
      simp only [if_true] at hv
      have ha : 0 ≤ atM (mo j) ∧ atM (mo j) ≤ e := by
        cases hmo : mo j with
        | none => simp only [atM]; omega
        | some x =>
          have := ho j x hmo
          simp only [atM]; omega
      have hv' := Option.some.inj hv
      by_cases he : atM (mo j) = e
      · rw [if_pos he] at hv'; omega
      · rw [if_neg he] at hv'; omega
    · simp only [if_neg hj] at hv
      exact hn j v hv
theorem fN_okm {mo : Mp} (ho : Okm mo) : ∀ (L : List Nd) (s : Ac), Okm s.1 → Okm (L.foldl (stN mo) s).1
  | [], s, h => h
  | n :: L, s, h => by
    refine fN_okm ho L (stN mo s n) ?_
    unfold stN
    by_cases hu : n.up = true
    · rw [if_pos hu]; exact dueN_ok ho h (.inl ⟨rfl, rfl⟩)
    · rw [if_neg hu]; exact h
theorem fD_okm {mo : Mp} (ho : Okm mo) : ∀ (L : List Dp) (s : Ac), Okm s.1 → Okm (L.foldl (stD mo) s).1
  | [], s, h => h
  | n :: L, s, h => by
    refine fD_okm ho L (stD mo s n) ?_
    unfold stD
    by_cases hu : n.st = 1
    · rw [if_pos hu]; exact dueN_ok ho h (.inr ⟨rfl, rfl⟩)
    · rw [if_neg hu]; exact h
theorem Okm.nil : Okm (fun _ => none) := fun k v h => by cases h
theorem Okm.tick {mo : Mp} (ho : Okm mo) (L : List Nd) (P : List Dp) : Okm (tkM mo L P).1 := fD_okm ho P _ (fN_okm ho L _ Okm.nil)
theorem tkM_len (mo : Mp) (L : List Nd) (P : List Dp) : (tkM mo L P).2.length ≤ L.length + P.length := by
  have h1 := fN_len mo L (fun _ => none, [])
  have h2 := fD_len mo P (fN mo L)
  simp only [List.length_nil, Nat.zero_add] at h1
  unfold tkM; unfold fN at h2 ⊢; omega

/- nodes of different numbers, all seen alike -/
def mU (L : List Nd) (c : Option Int) : Mp := fun k => if ∃ n ∈ L, n.up = true ∧ nSg n = k then c else none
def ups (L : List Nd) : List Cm := (L.filter (·.up)).map dnC
def nxV (c : Option Int) : Int := if atM c = 20 then atM c - 3 else atM c
theorem fN_uni (mo : Mp) (c : Option Int) : ∀ (L : List Nd) (s : Ac), (L.map (·.id)).Nodup → (∀ n ∈ L, n.up = true → mo (nSg n) = c) → (∀ n ∈ L, s.1 (nSg n) = none) →
    L.foldl (stN mo) s = (fun k => if ∃ n ∈ L, n.up = true ∧ nSg n = k then some (nxV c) else s.1 k, s.2 ++ if atM c = 20 then ups L else [])
  | [], s, _, _, _ => by
    have : ups [] = [] := rfl
    simp [this]
  | n :: L, s, hd, hc, hs => by
    obtain ⟨hd1, hd2⟩ := List.nodup_cons.1 hd
    have hne : ∀ x ∈ L, nSg x ≠ nSg n := fun x hx e => hd1 (List.mem_map.2 ⟨x, hx, by unfold nSg at e; injection e⟩)
    rw [List.foldl_cons]
    by_cases hu : n.up = true
    · have hmn := hc n (by simp) hu
      have hsn := hs n (by simp)
      have e1 : dueN mo s.1 (nSg n) 20 = fun j => if j = nSg n then some (nxV c) else s.1 j := by
        unfold dueN; rw [hsn, hmn]; rfl
      have e2 : dueB mo s.1 (nSg n) 20 = decide (atM c = 20) := by
        unfold dueB; rw [hsn, hmn]; rfl
      have e3 : stN mo s n = (fun j => if j = nSg n then some (nxV c) else s.1 j, if atM c = 20 then s.2 ++ [dnC n] else s.2) := by
        unfold stN; rw [if_pos hu, e1, e2]; simp
      rw [e3, fN_uni mo c L _ hd2 (fun x hx => hc x (List.mem_cons_of_mem _ hx)) (fun x hx => by
        show (if nSg x = nSg n then _ else _) = _
        rw [if_neg (hne x hx)]; exact hs x (List.mem_cons_of_mem _ hx))]
      refine Prod.ext (funext fun k => ?_) ?_
      · show (if _ then _ else if k = nSg n then _ else _) = _
        by_cases h1 : ∃ x ∈ L, x.up = true ∧ nSg x = k
        · have h2 : ∃ x ∈ n :: L, x.up = true ∧ nSg x = k := by obtain ⟨x, hx, h⟩ := h1; exact ⟨x, List.mem_cons_of_mem _ hx, h⟩
          rw [if_pos h1]; exact (if_pos h2).symm
        · rw [if_neg h1]
          by_cases h3 : k = nSg n
          · have h2 : ∃ x ∈ n :: L, x.up = true ∧ nSg x = k := ⟨n, by simp, hu, h3.symm⟩
            rw [if_pos h3]; exact (if_pos h2).symm
          · have h2 : ¬ ∃ x ∈ n :: L, x.up = true ∧ nSg x = k := by
              rintro ⟨x, hx, h4, h5⟩
              rcases List.mem_cons.1 hx with rfl | hx
              · exact h3 h5.symm
              · exact h1 ⟨x, hx, h4, h5⟩
            rw [if_neg h3]; exact (if_neg h2).symm
      · show (if atM c = 20 then s.2 ++ [dnC n] else s.2) ++ _ = _
        have hups : ups (n :: L) = dnC n :: ups L := by unfold ups; simp [hu]
        by_cases h20 : atM c = 20
        · simp [h20, hups]
        · simp [h20]
    · have e3 : stN mo s n = s := by unfold stN; rw [if_neg hu]
      rw [e3, fN_uni mo c L _ hd2 (fun x hx => hc x (List.mem_cons_of_mem _ hx)) (fun x hx => hs x (List.mem_cons_of_mem _ hx))]
      have hups : ups (n :: L) = ups L := by unfold ups; simp [hu]
      rw [hups]
      refine Prod.ext (funext fun k => ?_) rfl
      show (if _ then _ else _) = (if _ then _ else _)
      have hi : (∃ x ∈ L, x.up = true ∧ nSg x = k) ↔ ∃ x ∈ n :: L, x.up = true ∧ nSg x = k := by
        constructor
        · rintro ⟨x, hx, h⟩; exact ⟨x, List.mem_cons_of_mem _ hx, h⟩
        · rintro ⟨x, hx, h4, h5⟩
          rcases List.mem_cons.1 hx with rfl | hx
          · exact absurd h4 hu
          · exact ⟨x, hx, h4, h5⟩
      by_cases h1 : ∃ x ∈ L, x.up = true ∧ nSg x = k
      · rw [if_pos h1, if_pos (hi.1 h1)]
      · rw [if_neg h1, if_neg (fun h => h1 (hi.2 h))]
def csT (t : Nat) : Option Int := if t = 0 then none else if t ≤ 20 then some ((t : Int) - 1) else some (17 + ((t : Int) - 21) % 3)
def ask (t : Nat) : Bool := decide (21 ≤ t) && decide ((t - 21) % 3 = 0)
theorem cs_step : ∀ t, t < 90 → csT (t + 1) = some (nxV (csT t)) ∧ (atM (csT t) = 20 ↔ ask (t + 1) = true) := by decide
theorem uni_step {L : List Nd} (hd : (L.map (·.id)).Nodup) {t : Nat} (ht : t < 90) : tkM (mU L (csT t)) L [] = (mU L (csT (t + 1)), if ask (t + 1) then ups L else []) := by
  obtain ⟨h1, h2⟩ := cs_step t ht
  have h := fN_uni (mU L (csT t)) (csT t) L (fun _ => none, []) hd (fun n hn hu => by
    unfold mU; exact if_pos ⟨n, hn, hu, rfl⟩) (fun _ _ => rfl)
  show L.foldl _ _ = _
  rw [h, h1]
  refine Prod.ext rfl ?_
  show [] ++ _ = _
  rw [List.nil_append]
  by_cases h3 : atM (csT t) = 20
  · rw [if_pos h3, if_pos (h2.1 h3)]
  · rw [if_neg h3, if_neg (fun e => h3 (h2.2 e))]
theorem cs_rng : ∀ t, t < 100 → ∀ v, csT t = some v → 0 ≤ v ∧ v < 20 := by
  intro t ht v hv
  unfold csT at hv
  split at hv
  · cases hv
  · split at hv <;> (cases hv; omega)
theorem mU_okm {L : List Nd} {t : Nat} (ht : t < 100) : Okm (mU L (csT t)) := by
  intro k v hv
  unfold mU at hv
  split at hv
  · rename_i h
    obtain ⟨n, _, _, rfl⟩ := h
    have := cs_rng t ht v hv
    exact ⟨this.1, .inl ⟨rfl, this.2⟩⟩
  · cases hv
theorem mU_zero (L : List Nd) : mU L (csT 0) = fun _ => none := by
  funext k
  unfold mU
  split <;> rfl
end Go.Proofs.Ytcdbkieimkcogaa
