/- The files and the durable files, as what is known of their slices; deeds on them. -/
import Derived.Test.YtkienmncifonnaaDoorDfs
namespace Go.Proofs.YtkienmncifonnaaDoor
open Go.RowKit Go.Maps

abbrev Nm := List UInt8
abbrev FS := List UInt8 → Option (List UInt8)
inductive Dd where
  | pt (n d : List UInt8)
def fup (fs : FS) (k : Nm) (v : Option (List UInt8)) : FS := fun j => if j = k then v else fs j
/- the first u units of a deed, done on files -/
def doD (x : Dd) (_u : Nat) (fs : FS) : FS :=
  match x with
  | .pt n d => fup fs n (some d)
/- the slices of the files (s = false) and of the durable ones (s = true), their bytes, and those that deeds keep -/
structure Liv (w : World) (E : Bool → Nm → Value) (C : Bool → Nm → List UInt8) (Z : List Value) : Prop where
  r : ∀ s k, SlR w (E s k) (C s k)
  sep : ∀ s k s' k', ¬ (s = s' ∧ k = k') → Sep (E s k) (E s' k')
  kz : ∀ s k z, z ∈ Z → SepK (E s k) z

def eup {α : Type} (E : Bool → Nm → α) (s : Bool) (k : Nm) (v : α) : Bool → Nm → α := fun s' k' => if s' = s ∧ k' = k then v else E s' k'
theorem eup_same {α : Type} (E : Bool → Nm → α) (s : Bool) (k : Nm) (v : α) : eup E s k v s k = v := by simp [eup]
theorem eup_other {α : Type} {E : Bool → Nm → α} {s : Bool} {k : Nm} {v : α} {s' : Bool} {k' : Nm} (h : ¬ (s' = s ∧ k' = k)) : eup E s k v s' k' = E s' k' := by simp [eup, h]

/- one of them grows -/
theorem Liv.grow {w w' : World} {E : Bool → Nm → Value} {C : Bool → Nm → List UInt8} {Z : List Value} (h : Liv w E C Z) {b : Nat} {s : Bool} {k : Nm} {v' : Value} {l' : List UInt8} (ha : App w w' (some b) (E s k) v') (hb : ∀ s k, (E s k).ownBlock ≠ some b) (hv : SlR w' v' l') (hz : ∀ z ∈ Z, ∃ lz, SlR w z lz) : Liv w' (eup E s k v') (eup C s k l') Z := by
  have hne : ∀ s' k', ¬ (s' = s ∧ k' = k) → Sep (E s k) (E s' k') := fun s' k' hn => h.sep s k s' k' (fun e => hn ⟨e.1.symm, e.2.symm⟩)
  refine ⟨fun s' k' => ?_, fun s1 k1 s2 k2 hn => ?_, fun s' k' z hzm => ?_⟩
  · by_cases e : s' = s ∧ k' = k
    · obtain ⟨rfl, rfl⟩ := e
      rw [eup_same, eup_same]
      exact hv
    · rw [eup_other e, eup_other e]
      exact (h.r s' k').app ha (fun g e2 => by cases e2; exact hb s' k') (hne s' k' e)
  · by_cases e1 : s1 = s ∧ k1 = k
    · obtain ⟨rfl, rfl⟩ := e1
      have e2 : ¬ (s2 = s1 ∧ k2 = k1) := fun e => hn ⟨e.1.symm, e.2.symm⟩
      rw [eup_same, eup_other e2]
      exact (hne s2 k2 e2).app ha (h.r s2 k2) hv
    · by_cases e2 : s2 = s ∧ k2 = k
      · obtain ⟨rfl, rfl⟩ := e2
        rw [eup_same, eup_other e1]
        exact ((hne s1 k1 e1).app ha (h.r s1 k1) hv).symm
      · rw [eup_other e1, eup_other e2]
        exact h.sep s1 k1 s2 k2 hn
  · by_cases e : s' = s ∧ k' = k
    · obtain ⟨rfl, rfl⟩ := e
      rw [eup_same]
      obtain ⟨lz, hlz⟩ := hz z hzm
      exact (h.kz s' k' z hzm).app ha hlz
    · rw [eup_other e]
      exact h.kz s' k' z hzm
/- one of them is set to a slice without room that stands in no grower's way -/
theorem Liv.put {w w' : World} {E : Bool → Nm → Value} {C : Bool → Nm → List UInt8} {Z : List Value} (h : Liv w E C Z) {s : Bool} {k : Nm} {v' : Value} {l' : List UInt8} (hk : ∀ s k, SlR w' (E s k) (C s k)) (hv : SlR w' v' l') (hg : ¬ Gr v') (hs : ∀ s' k', ¬ (s' = s ∧ k' = k) → ∀ g, (E s' k').ownBlock = some g → v'.ownBlock = some g → Gr (E s' k') → lenV v' ≤ lenV (E s' k')) : Liv w' (eup E s k v') (eup C s k l') Z := by
  have hne : ∀ s' k', ¬ (s' = s ∧ k' = k) → Sep v' (E s' k') := fun s' k' hn g h1 h2 => ⟨fun h => absurd h hg, fun h => ⟨hg, hs s' k' hn g h2 h1 h⟩⟩
  refine ⟨fun s' k' => ?_, fun s1 k1 s2 k2 hn => ?_, fun s' k' z hzm => ?_⟩
  · by_cases e : s' = s ∧ k' = k
    · obtain ⟨rfl, rfl⟩ := e
      rw [eup_same, eup_same]
      exact hv
    · rw [eup_other e, eup_other e]
      exact hk s' k'
  · by_cases e1 : s1 = s ∧ k1 = k
    · obtain ⟨rfl, rfl⟩ := e1
      have e2 : ¬ (s2 = s1 ∧ k2 = k1) := fun e => hn ⟨e.1.symm, e.2.symm⟩
      rw [eup_same, eup_other e2]
      exact hne s2 k2 e2
    · by_cases e2 : s2 = s ∧ k2 = k
      · obtain ⟨rfl, rfl⟩ := e2
        rw [eup_same, eup_other e1]
        exact (hne s1 k1 e1).symm
      · rw [eup_other e1, eup_other e2]
        exact h.sep s1 k1 s2 k2 hn
  · by_cases e : s' = s ∧ k' = k
    · obtain ⟨rfl, rfl⟩ := e
      rw [eup_same]
      exact fun g _ _ h => hg h
    · rw [eup_other e]
      exact h.kz s' k' z hzm
theorem not_gr_nil : ¬ Gr (.slice none 0 0) := Nat.lt_irrefl 0
theorem Liv.del {w : World} {E : Bool → Nm → Value} {C : Bool → Nm → List UInt8} {Z : List Value} (h : Liv w E C Z) (s : Bool) (k : Nm) : Liv w (eup E s k (.slice none 0 0)) (eup C s k []) Z :=
  h.put h.r (SlR.nil w) not_gr_nil (fun _ _ _ g _ h2 => by cases h2)
/- one of them goes to another name -/
theorem Liv.move {w : World} {E : Bool → Nm → Value} {C : Bool → Nm → List UInt8} {Z : List Value} (h : Liv w E C Z) (s : Bool) (a b : Nm) : Liv w (eup (eup E s a (.slice none 0 0)) s b (E s a)) (eup (eup C s a []) s b (C s a)) Z := by
  have hd := h.del s a
  have hne : ∀ s' k', ¬ (s' = s ∧ k' = b) → Sep (E s a) (eup E s a (.slice none 0 0) s' k') := fun s' k' _ => by
    by_cases e : s' = s ∧ k' = a
    · obtain ⟨rfl, rfl⟩ := e
      rw [eup_same]
      exact Sep.nil _
    · rw [eup_other e]
      exact h.sep s a s' k' (fun x => e ⟨x.1.symm, x.2.symm⟩)
  refine ⟨fun s' k' => ?_, fun s1 k1 s2 k2 hn => ?_, fun s' k' z hzm => ?_⟩
  · by_cases e : s' = s ∧ k' = b
    · obtain ⟨rfl, rfl⟩ := e
      rw [eup_same, eup_same]
      exact h.r s' a
    · rw [eup_other e, eup_other e]
      exact hd.r s' k'
  · by_cases e1 : s1 = s ∧ k1 = b
    · obtain ⟨rfl, rfl⟩ := e1
      have e2 : ¬ (s2 = s1 ∧ k2 = k1) := fun e => hn ⟨e.1.symm, e.2.symm⟩
      rw [eup_same, eup_other e2]
      exact hne s2 k2 e2
    · by_cases e2 : s2 = s ∧ k2 = b
      · obtain ⟨rfl, rfl⟩ := e2
        rw [eup_same, eup_other e1]
        exact (hne s1 k1 e1).symm
      · rw [eup_other e1, eup_other e2]
        exact hd.sep s1 k1 s2 k2 hn
  · by_cases e : s' = s ∧ k' = b
    · obtain ⟨rfl, rfl⟩ := e
      rw [eup_same]
      exact h.kz s' a z hzm
    · rw [eup_other e]
      exact hd.kz s' k' z hzm
/- nothing that they look at has turned -/
theorem Liv.kept {w w' : World} {E : Bool → Nm → Value} {C : Bool → Nm → List UInt8} {Z : List Value} (h : Liv w E C Z) (hb : ∀ s k g, (E s k).ownBlock = some g → w'.heap[g]? = w.heap[g]?) : Liv w' E C Z :=
  ⟨fun s k => (h.r s k).kept (hb s k), h.sep, h.kz⟩
theorem Liv.below {w w' : World} {E : Bool → Nm → Value} {C : Bool → Nm → List UInt8} {Z : List Value} (h : Liv w E C Z) (hb : Below w.heap.size w w') : Liv w' E C Z :=
  h.kept fun s k g hg => hb.block g ((h.r s k).lt g hg)
/- one more is kept, in a row of its own -/
theorem Liv.keep {w : World} {E : Bool → Nm → Value} {C : Bool → Nm → List UInt8} {Z : List Value} (h : Liv w E C Z) (z : Value) (hz : ∀ s k g, (E s k).ownBlock = some g → z.ownBlock ≠ some g) : Liv w E C (Z ++ [z]) :=
  ⟨h.r, h.sep, fun s k x hx => by
    rcases List.mem_append.1 hx with hx | hx
    · exact h.kz s k x hx
    · rw [List.mem_singleton.1 hx]
      exact fun g h1 h2 => absurd h2 (hz s k g h1)⟩
theorem Liv.forget {w : World} {E : Bool → Nm → Value} {C : Bool → Nm → List UInt8} {Z : List Value} (h : Liv w E C Z) : Liv w E C [] := ⟨h.r, h.sep, fun _ _ z hz => by cases hz⟩
def clipV : Value → Value
  | .slice a n _ => .slice a n n
  | v => v
theorem clipV_gr (v : Value) : ¬ Gr (clipV v) := by
  cases v <;> simp [clipV, Gr, lenV, capV]
theorem clipV_own (v : Value) : (clipV v).ownBlock = v.ownBlock := by
  cases v with
  | slice a n c => cases a <;> rfl
  | _ => rfl
theorem clipV_len (v : Value) : lenV (clipV v) = lenV v := by
  cases v <;> rfl
theorem SlR.clip {w : World} {v : Value} {l : List UInt8} (h : SlR w v l) : SlR w (clipV v) l := by
  rcases h with ⟨rfl, rfl⟩ | ⟨g, cap, cur, rfl, hg, h1, h2, h3, h4⟩
  · exact .inl ⟨rfl, rfl⟩
  · exact .inr ⟨g, l.length, cur, rfl, hg, Nat.le_refl _, by omega, h3, h4⟩
end Go.Proofs.YtkienmncifonnaaDoor
