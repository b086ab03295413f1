/- How many slots run: counted on one way through the allocations, and slot by slot. Plain mathematics. -/
import Derived.Test.YtkokkdekbilkjaaHo
namespace Go.Proofs.Ytkokkdekbilkjaa
open Go.RowKit

def good (ve : Int) (x : Al) : Bool := isI x.ve ve && (isI x.st 2 && !x.sp)
def slt (x : Al) : Int × Int := (x.gr, x.ix)
def rS (ve : Int) (s : List (Int × Int) × Int) (x : Al) : List (Int × Int) × Int := if s.1.contains (slt x) = true then s else (slt x :: s.1, s.2 + (if good ve x = true then 1 else 0))
def rF (ve : Int) (L : List Al) : List (Int × Int) × Int := L.foldl (rS ve) ([], 0)
theorem rF_snoc (ve : Int) (L : List Al) (x : Al) : rF ve (L ++ [x]) = rS ve (rF ve L) x := by simp [rF]
def fg (ve : Int) (M : List Al) (s : Int × Int) : Bool := (M.find? (fun x => slt x == s)).any (good ve)
theorem snoc_ind {α : Type} {P : List α → Prop} (h0 : P []) (h1 : ∀ l x, P l → P (l ++ [x])) (l : List α) : P l := by
  have : ∀ n (l : List α), l.length = n → P l := by
    intro n
    induction n with
    | zero => intro l hl; rw [List.eq_nil_of_length_eq_zero hl]; exact h0
    | succ n ih =>
      intro l hl
      have hne : l ≠ [] := by intro e; subst e; simp at hl
      rw [← List.dropLast_concat_getLast hne]
      exact h1 _ _ (ih _ (by simp [hl]))
  exact this _ l rfl
theorem rF_has (ve : Int) (M : List Al) (s : Int × Int) : (rF ve M).1.contains s = M.any (fun x => slt x == s) := by
  induction M using snoc_ind with
  | h0 => rfl
  | h1 M x ih =>
    rw [rF_snoc, rS, List.any_append]
    by_cases h : (rF ve M).1.contains (slt x) = true
    · rw [if_pos h, ih]
      by_cases e : slt x = s
      · rw [e] at h; rw [ih] at h; rw [h]; rfl
      · simp [e]
    · rw [if_neg h, List.contains_cons, ih]
      by_cases e : s = slt x
      · subst e; simp
      · have e1 : (s == slt x) = false := by simp [e]
        have e2 : (slt x == s) = false := by simp; exact fun h => e h.symm
        rw [e1, Bool.false_or]
        simp [e2]
theorem countP_upd {p q : Int × Int → Bool} {a : Int × Int} (hp : p a = false) : ∀ {T : List (Int × Int)}, T.Nodup → a ∈ T → (∀ s, s ≠ a → q s = p s) → T.countP q = T.countP p + (if q a = true then 1 else 0) := by
  intro T
  induction T with
  | nil => intro _ h; cases h
  | cons t T ih =>
    intro hn hm hq
    rw [List.nodup_cons] at hn
    rw [List.countP_cons, List.countP_cons]
    by_cases e : t = a
    · subst e
      have : T.countP q = T.countP p := by
        apply List.countP_congr
        intro s hs
        have : s ≠ t := by intro e; subst e; exact hn.1 hs
        rw [hq s this]
      rw [this, hp]
      simp
    · have hm2 : a ∈ T := by
        rcases List.mem_cons.1 hm with h | h
        · exact absurd h.symm e
        · exact h
      rw [ih hn.2 hm2 hq, hq t e]
      omega
theorem fg_snoc (ve : Int) (M : List Al) (x : Al) (s : Int × Int) : fg ve (M ++ [x]) s = if M.any (fun x => slt x == s) = true then fg ve M s else (if slt x = s then good ve x else false) := by
  unfold fg
  rw [List.find?_append]
  by_cases h : M.any (fun x => slt x == s) = true
  · rw [if_pos h]
    cases hf : M.find? (fun x => slt x == s) with
    | some y => simp
    | none =>
      rw [List.find?_eq_none] at hf
      rw [List.any_eq_true] at h
      obtain ⟨y, hy, hs⟩ := h
      exact absurd hs (hf y hy)
  · rw [if_neg h]
    have hf : M.find? (fun x => slt x == s) = none := by
      rw [List.find?_eq_none]
      intro y hy hs
      exact h (List.any_eq_true.2 ⟨y, hy, hs⟩)
    rw [hf]
    by_cases e : slt x = s
    · rw [if_pos e]; simp [List.find?, e]
    · rw [if_neg e]
      have : (slt x == s) = false := by simp [e]
      simp [List.find?, this]
theorem fg_none (ve : Int) (M : List Al) (s : Int × Int) (h : M.any (fun x => slt x == s) = false) : fg ve M s = false := by
  unfold fg
  have hf : M.find? (fun x => slt x == s) = none := by
    rw [List.find?_eq_none]
    intro y hy hs
    rw [List.any_eq_false] at h
    exact h y hy hs
  rw [hf]; rfl
theorem rF_cnt (ve : Int) {T : List (Int × Int)} (hT : T.Nodup) (M : List Al) (hM : ∀ x ∈ M, slt x ∈ T) : (rF ve M).2 = (T.countP (fg ve M) : Int) := by
  induction M using snoc_ind with
  | h0 =>
    have : T.countP (fg ve []) = 0 := by rw [List.countP_eq_zero]; intro s _; simp [fg]
    rw [this]; rfl
  | h1 M x ih =>
    have ih' := ih (fun y hy => hM y (by simp [hy]))
    have hx := hM x (by simp)
    rw [rF_snoc, rS]
    by_cases h : (rF ve M).1.contains (slt x) = true
    · rw [if_pos h, ih']
      rw [rF_has] at h
      congr 1
      apply List.countP_congr
      intro s _
      rw [fg_snoc]
      by_cases e : slt x = s
      · subst e; rw [if_pos h]
      · by_cases h2 : M.any (fun x => slt x == s) = true
        · rw [if_pos h2]
        · rw [if_neg h2, if_neg e, fg_none ve M s (by simpa using h2)]
    · rw [if_neg h]
      rw [rF_has] at h
      have h' : M.any (fun y => slt y == slt x) = false := by simpa using h
      have hfa : fg ve M (slt x) = false := fg_none ve M _ h'
      have := countP_upd (q := fg ve (M ++ [x])) hfa hT hx (fun s hs => by
        rw [fg_snoc]
        by_cases h2 : M.any (fun x => slt x == s) = true
        · rw [if_pos h2]
        · rw [if_neg h2, if_neg (fun e => hs e.symm), fg_none ve M s (by simpa using h2)])
      rw [this]
      have e2 : fg ve (M ++ [x]) (slt x) = good ve x := by rw [fg_snoc, if_neg (by rw [h']; simp), if_pos rfl]
      simp only [e2]
      rw [ih']
      split <;> simp

/- the slots of a job, in order -/
def cnN (G : List Gp) (g : Nat) : Nat := (cn (gat G (g : Int))).toNat
def slg (G : List Gp) : Nat → List (Int × Int)
  | 0 => []
  | g + 1 => slg G g ++ (List.range (cnN G g)).map (fun k : Nat => ((g : Int), (k : Int)))
theorem cn_pos (n : Int) : 0 ≤ cn n ∧ cn n ≤ 4 := by unfold cn; split <;> (try split) <;> omega
theorem slg_mem (G : List Gp) (n : Nat) (s : Int × Int) : s ∈ slg G n ↔ 0 ≤ s.1 ∧ s.1 < n ∧ 0 ≤ s.2 ∧ s.2 < cn (gat G s.1) := by
  induction n with
  | zero => simp [slg]; omega
  | succ n ih =>
    rw [slg, List.mem_append, ih]
    constructor
    · rintro (⟨a, b, c, d⟩ | h)
      · exact ⟨a, by omega, c, d⟩
      · obtain ⟨k, hk, rfl⟩ := List.mem_map.1 h
        rw [List.mem_range] at hk
        unfold cnN at hk
        exact ⟨by simp, by simp only; omega, by simp, by simp only; omega⟩
    · rintro ⟨a, b, c, d⟩
      by_cases e : s.1 < n
      · exact .inl ⟨a, e, c, d⟩
      · have e2 : s.1 = (n : Int) := by omega
        refine .inr (List.mem_map.2 ⟨s.2.toNat, ?_, ?_⟩)
        · rw [List.mem_range, cnN, ← e2]; omega
        · rw [← e2, Int.toNat_of_nonneg c]
theorem slg_nodup (G : List Gp) (n : Nat) : (slg G n).Nodup := by
  induction n with
  | zero => simp [slg]
  | succ n ih =>
    rw [slg, List.nodup_append]
    refine ⟨ih, ?_, ?_⟩
    · rw [List.nodup_iff_pairwise_ne, List.pairwise_map]
      exact List.Pairwise.imp (fun {a b} h e => h (by have e2 := (Prod.mk.inj e).2; omega)) (List.nodup_iff_pairwise_ne.1 List.nodup_range)
    · intro a ha b hb e
      subst e
      obtain ⟨k, _, rfl⟩ := List.mem_map.1 hb
      have := (slg_mem G n _).1 ha
      simp only at this
      omega
def runV (id ve : Int) (G : List Gp) (L : List Al) : Int := (rF ve (L.filter (hoB id G))).2
theorem hoB_slt {id : Int} {G : List Gp} {x : Al} (h : hoB id G x = true) : slt x ∈ slg G G.length := by
  unfold hoB at h
  simp only [Bool.and_eq_true, decide_eq_true_eq] at h
  exact (slg_mem G _ _).2 ⟨h.2.2.1, h.2.2.2.1, h.2.2.2.2.1, h.2.2.2.2.2⟩
theorem runV_cnt (id ve : Int) (G : List Gp) (L : List Al) : runV id ve G L = ((slg G G.length).countP (fg ve (L.filter (hoB id G))) : Int) :=
  rF_cnt ve (slg_nodup G _) _ (fun _ hx => hoB_slt (List.mem_filter.1 hx).2)
theorem ho_sl {id : Int} {G : List Gp} {s : Int × Int} (hs : s ∈ slg G G.length) (x : Al) : (hoB id G x && (slt x == s)) = slB id s.1 s.2 x := by
  obtain ⟨a, b, c, d⟩ := (slg_mem G _ _).1 hs
  obtain ⟨s1, s2⟩ := s
  simp only at a b c d
  rw [Bool.eq_iff_iff]
  simp only [hoB, slB, slt, isI, Bool.and_eq_true, decide_eq_true_eq, beq_iff_eq, Prod.mk.injEq, Bool.not_eq_true']
  constructor
  · rintro ⟨⟨h1, h2, _⟩, h3, h4⟩
    exact ⟨h1, h3, h4, h2⟩
  · rintro ⟨h1, h2, h3, h4⟩
    subst h2
    subst h3
    exact ⟨⟨h1, h4, a, b, c, d⟩, rfl, rfl⟩
/- the place of the first one, and the first one -/
theorem sel_find {α : Type} [Inhabited α] (P : α → Bool) (L : List α) (k : Nat) (hk : k ≤ L.length) : (sel P L k).map (·.2) = (L.take k).filter P := by
  induction k with
  | zero => simp [sel]
  | succ k ih =>
    have hlt : k < L.length := by omega
    rw [sel, List.map_append, ih (by omega), List.take_succ_eq_append_getElem hlt, List.filter_append, getD_at L k hlt]
    congr 1
    by_cases h : P L[k] = true
    · simp [h]
    · simp [h]
theorem sel_at {α : Type} [Inhabited α] (P : α → Bool) (L : List α) (k : Nat) (hk : k ≤ L.length) : ∀ p ∈ sel P L k, ∃ h : p.1 < L.length, p.2 = L[p.1] := by
  induction k with
  | zero => intro p hp; simp [sel] at hp
  | succ k ih =>
    have hlt : k < L.length := by omega
    intro p hp
    rw [sel, List.mem_append] at hp
    rcases hp with hp | hp
    · exact ih (by omega) p hp
    · split at hp
      · rw [List.mem_singleton] at hp
        subst hp
        exact ⟨hlt, getD_at L k hlt⟩
      · cases hp
theorem fi_spec {α : Type} [Inhabited α] (P : α → Bool) (L : List α) : (fi P L = -1 ∧ L.find? P = none) ∨ ∃ (i : Nat) (h : i < L.length), fi P L = (i : Int) ∧ L.find? P = some L[i] := by
  have hm := sel_find P L L.length (Nat.le_refl _)
  rw [List.take_length] at hm
  have hh : L.find? P = (L.filter P).head? := by simp [List.head?_filter]
  cases hs : sel P L L.length with
  | nil =>
    rw [hs] at hm
    exact .inl ⟨fi_nil hs, by rw [hh, ← hm]; rfl⟩
  | cons p r =>
    obtain ⟨h1, h2⟩ := sel_at P L L.length (Nat.le_refl _) p (by rw [hs]; simp)
    rw [hs] at hm
    exact .inr ⟨p.1, h1, by rw [fi, hs], by rw [hh, ← hm, ← h2]; rfl⟩
def rg (id ve : Int) (L : List Al) (s : Int × Int) : Bool := (L.find? (slB id s.1 s.2)).any (good ve)
theorem rg_fg {id ve : Int} {G : List Gp} {L : List Al} {s : Int × Int} (hs : s ∈ slg G G.length) : fg ve (L.filter (hoB id G)) s = rg id ve L s := by
  unfold fg rg
  rw [List.find?_filter]
  congr 1
  have : (fun x => decide (hoB id G x = true ∧ (slt x == s) = true)) = slB id s.1 s.2 := by
    funext x
    rw [← ho_sl hs x]
    rw [Bool.eq_iff_iff]; simp
  rw [this]
theorem runV_rg (id ve : Int) (G : List Gp) (L : List Al) : runV id ve G L = ((slg G G.length).countP (rg id ve L) : Int) := by
  rw [runV_cnt]
  congr 1
  apply List.countP_congr
  intro s hs
  rw [rg_fg hs]
theorem countP_snoc (p : Int × Int → Bool) (T : List (Int × Int)) (s : Int × Int) : ((T ++ [s]).countP p : Int) = T.countP p + (if p s = true then 1 else 0) := by
  rw [List.countP_append, List.countP_singleton]
  split <;> simp_all
/- slots in order, up to group g and k of it -/
def slk (G : List Gp) (g k : Nat) : List (Int × Int) := slg G g ++ (List.range k).map (fun k : Nat => ((g : Int), (k : Int)))
theorem slk_zero (G : List Gp) (g : Nat) : slk G g 0 = slg G g := by simp [slk]
theorem slk_succ (G : List Gp) (g k : Nat) : slk G g (k + 1) = slk G g k ++ [((g : Int), (k : Int))] := by simp [slk, List.range_succ]
theorem slk_next (G : List Gp) (g : Nat) : slk G g (cnN G g) = slg G (g + 1) := rfl
theorem slg_len (G : List Gp) (n : Nat) : (slg G n).length ≤ 4 * n := by
  induction n with
  | zero => simp [slg]
  | succ n ih =>
    have : cnN G n ≤ 4 := by unfold cnN; have := cn_pos (gat G (n : Int)); omega
    rw [slg, List.length_append, List.length_map, List.length_range]; omega
theorem slk_len (G : List Gp) (g k : Nat) : (slk G g k).length = (slg G g).length + k := by simp [slk]
end Go.Proofs.Ytkokkdekbilkjaa
