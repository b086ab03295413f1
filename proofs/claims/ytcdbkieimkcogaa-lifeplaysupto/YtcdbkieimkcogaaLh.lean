/- What is asked was seen: plain facts. -/
import Derived.Test.YtcdbkieimkcogaaLe
namespace Go.Proofs.Ytcdbkieimkcogaa
open Go.RowKit

theorem dueN_at {mo mn : Mp} {k j : Sg} {e v : Int} (he : 3 ≤ e) (ho : Okm mo) (h : dueN mo mn k e j = some v) : mn j = some v ∨ (j = k ∧ v ≤ atM (mo k) ∧ (0 ≤ v)) := by
  unfold dueN at h
  cases hm : mn k with
  | some x => rw [hm] at h; exact .inl h
  | none =>
    rw [hm] at h
    by_cases hj : j = k
    · simp only [if_pos hj] at h
      have h' := Option.some.inj h
      have ha : 0 ≤ atM (mo k) := by
        cases hmo : mo k with
        | none => simp [atM]
        | some x => have := ho k x hmo; simp only [atM]; omega
      refine .inr ⟨hj, ?_, ?_⟩
      · split at h' <;> omega
      · split at h' <;> omega
    · simp only [if_neg hj] at h; exact .inl h
def hasN (N : List Nd) (k : Sg) : Prop := ∃ n ∈ N, n.up = true ∧ nSg n = k
theorem fN_from {mo : Mp} (ho : Okm mo) : ∀ (L : List Nd) (s : Ac) (k : Sg) (v : Int), (L.foldl (stN mo) s).1 k = some v → s.1 k = some v ∨ (hasN L k ∧ v ≤ atM (mo k) ∧ 0 ≤ v)
  | [], s, k, v, h => .inl h
  | n :: L, s, k, v, h => by
    rcases fN_from ho L (stN mo s n) k v h with h1 | ⟨⟨x, hx, h2⟩, h3⟩
    · unfold stN at h1
      by_cases hu : n.up = true
      · rw [if_pos hu] at h1
        rcases dueN_at (by decide) ho h1 with h4 | ⟨h4, h5, h6⟩
        · exact .inl h4
        · exact .inr ⟨⟨n, by simp, hu, h4.symm⟩, by rw [h4]; exact h5, h6⟩
      · rw [if_neg hu] at h1; exact .inl h1
    · exact .inr ⟨⟨x, List.mem_cons_of_mem _ hx, h2⟩, h3⟩
theorem fD_kd1 (mo : Mp) : ∀ (P : List Dp) (s : Ac) (k : Sg), k.kd = 1 → (P.foldl (stD mo) s).1 k = s.1 k
  | [], s, k, h => rfl
  | d :: P, s, k, h => by
    rw [List.foldl_cons, fD_kd1 mo P _ k h]
    unfold stD
    by_cases hs : d.st = 1
    · rw [if_pos hs]
      show dueN mo s.1 (dSg d) 40 k = _
      unfold dueN
      cases hm : s.1 (dSg d) with
      | some x => rfl
      | none =>
        have hne : k ≠ dSg d := fun e => by rw [e] at h; exact absurd h (show ¬ (2 : Int) = 1 by decide)
        simp only [if_neg hne]
    · rw [if_neg hs]
theorem tk_from {mo : Mp} (ho : Okm mo) (N : List Nd) (P : List Dp) {k : Sg} {v : Int} (hk : k.kd = 1) (h : (tkM mo N P).1 k = some v) : hasN N k ∧ v ≤ atM (mo k) ∧ 0 ≤ v := by
  have h1 : (fN mo N).1 k = some v := (fD_kd1 mo P (fN mo N) k hk).symm.trans h
  rcases fN_from ho N _ k v h1 with h2 | h2
  · cases h2
  · exact h2
theorem fN_ask (mo : Mp) : ∀ (L : List Nd) (s : Ac) (c : Cm), c ∈ (L.foldl (stN mo) s).2 → c ∈ s.2 ∨ ∃ n ∈ L, n.up = true ∧ c = dnC n ∧ atM (mo (nSg n)) = 20
  | [], s, c, h => .inl h
  | n :: L, s, c, h => by
    rcases fN_ask mo L (stN mo s n) c h with h1 | ⟨x, hx, h2⟩
    · unfold stN at h1
      by_cases hu : n.up = true
      · rw [if_pos hu] at h1
        by_cases hb : dueB mo s.1 (nSg n) 20 = true
        · simp only [hb, if_true] at h1
          rcases List.mem_append.1 h1 with h3 | h3
          · exact .inl h3
          · refine .inr ⟨n, by simp, hu, List.mem_singleton.1 h3, ?_⟩
            unfold dueB at hb
            cases hm : s.1 (nSg n) with
            | some y => rw [hm] at hb; cases hb
            | none => rw [hm] at hb; simpa using hb
        · simp only [hb, if_false, Bool.false_eq_true] at h1; exact .inl h1
      · rw [if_neg hu] at h1; exact .inl h1
    · exact .inr ⟨x, List.mem_cons_of_mem _ hx, h2⟩
theorem fD_ask (mo : Mp) : ∀ (P : List Dp) (s : Ac) (c : Cm), c ∈ (P.foldl (stD mo) s).2 → c ∈ s.2 ∨ c.op = 10
  | [], s, c, h => .inl h
  | d :: P, s, c, h => by
    rcases fD_ask mo P (stD mo s d) c h with h1 | h1
    · unfold stD at h1
      by_cases hu : d.st = 1
      · rw [if_pos hu] at h1
        by_cases hb : dueB mo s.1 (dSg d) 40 = true
        · simp only [hb, if_true] at h1
          rcases List.mem_append.1 h1 with h3 | h3
          · exact .inl h3
          · exact .inr (by rw [List.mem_singleton.1 h3]; rfl)
        · simp only [hb, if_false, Bool.false_eq_true] at h1; exact .inl h1
      · rw [if_neg hu] at h1; exact .inl h1
    · exact .inr h1
theorem tk_ask {mo : Mp} {N : List Nd} {P : List Dp} {c : Cm} (h : c ∈ (tkM mo N P).2) (h7 : c.op = 7) : ∃ n ∈ N, n.up = true ∧ c = dnC n ∧ mo (nSg n) = some 19 := by
  rcases fD_ask mo P (fN mo N) c h with h1 | h1
  · rcases fN_ask mo N _ c h1 with h2 | ⟨n, h2, h3, h4, h5⟩
    · cases h2
    · refine ⟨n, h2, h3, h4, ?_⟩
      cases hm : mo (nSg n) with
      | none => rw [hm] at h5; simp [atM] at h5
      | some v => rw [hm] at h5; simp only [atM] at h5; rw [show v = 19 by omega]
  · rw [h7] at h1; cases h1
/- what was seen, Tick by Tick -/
structure Sn where
  a : Option Addr
  N : List Nd
  c : Nat
instance : Inhabited Sn := ⟨⟨none, [], 0⟩⟩
def snC (x : Sn) : Array Value := #[.slice x.a x.N.length x.c]
def SeenI (m : Mp) (S : List Sn) : Prop := ∀ k v, k.kd = 1 → m k = some v → v + 1 ≤ (S.length : Int) ∧ ∀ (j : Nat) x, S[j]? = some x → (S.length : Int) - (v + 1) ≤ j → hasN x.N k
theorem SeenI.nil : SeenI (fun _ => none) [] := fun k v _ h => by cases h
theorem SeenI.tick {m : Mp} {S : List Sn} (h : SeenI m S) (ho : Okm m) (x : Sn) (P : List Dp) : SeenI (tkM m x.N P).1 (S ++ [x]) := by
  intro k v hk hv
  obtain ⟨h1, h2, h3⟩ := tk_from ho x.N P hk hv
  rw [List.length_append, List.length_singleton]
  cases hm : m k with
  | none =>
    rw [hm] at h2
    simp only [atM] at h2
    refine ⟨by omega, fun j y hj hl => ?_⟩
    have hjl := (List.getElem?_eq_some_iff.1 hj).1
    simp only [List.length_append, List.length_singleton] at hjl
    have : j = S.length := by omega
    rw [this, List.getElem?_append_right (Nat.le_refl _)] at hj
    simp at hj
    rw [← hj]; exact h1
  | some u =>
    rw [hm] at h2
    simp only [atM] at h2
    obtain ⟨g1, g2⟩ := h k u hk hm
    refine ⟨by omega, fun j y hj hl => ?_⟩
    by_cases hjs : j < S.length
    · rw [List.getElem?_append_left hjs] at hj
      exact g2 j y hj (by omega)
    · have hjl := (List.getElem?_eq_some_iff.1 hj).1
      simp only [List.length_append, List.length_singleton] at hjl
      have : j = S.length := by omega
      rw [this, List.getElem?_append_right (Nat.le_refl _)] at hj
      simp at hj
      rw [← hj]; exact h1
theorem SeenI.ask {m : Mp} {S : List Sn} (h : SeenI m S) {N : List Nd} {P : List Dp} {c : Cm} (hc : c ∈ (tkM m N P).2) (h7 : c.op = 7) : 20 ≤ S.length ∧ ∀ (j : Nat) x, S[j]? = some x → S.length - 20 ≤ j → ∃ n ∈ x.N, n.up = true ∧ n.id = c.nd ∧ n.ep = c.ep ∧ n.sq = c.sq := by
  obtain ⟨n, _, h3, rfl, h5⟩ := tk_ask hc h7
  obtain ⟨g1, g2⟩ := h (nSg n) 19 rfl h5
  refine ⟨by omega, fun j x hj hl => ?_⟩
  obtain ⟨y, hy, hu, he⟩ := g2 j x hj (by omega)
  unfold nSg at he
  injection he with e1 e2 e3 e4
  exact ⟨y, hy, hu, e2, e3, e4⟩
end Go.Proofs.Ytcdbkieimkcogaa
