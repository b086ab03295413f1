/- Both disks behind the end of what there was, for the laws. -/
import Derived.Test.YtkbmfookdhlphaaRdt
import Derived.Test.YtkbmfookdhlphaaDopm
import Derived.Test.YtkbmfookdhlphaaGpy
namespace Go.Proofs.Ytkbmfookdhlphaa
open Go.RowKit Go.Maps Go.Sort

def Tw2 (w0 w : World) (p q : Nat) (M N : Md) (k : Nat) : Prop := ∃ F R, Two w0 w p q M N k k F R
section
variable {w0 w w' : World} {p q k : Nat} {M N : Md}
theorem Tw2.bel (h : Tw2 w0 w p q M N k) : Below w0.heap.size w0 w := by
  obtain ⟨F, R, h⟩ := h; exact h.bel
theorem Tw2.below (h : Tw2 w0 w p q M N k) (hb : Below w.heap.size w w') : Tw2 w0 w' p q M N k := by
  obtain ⟨F, R, h⟩ := h; exact ⟨F, R, h.below hb⟩
theorem Tw2.cst (h : Tw2 w0 w p q M N k) : Cst w0 w p M k := by
  obtain ⟨F, R, h⟩ := h; exact ⟨F, h.d, h.loF, h.bel⟩
theorem rfR0 (w : World) : RfR (w.alloc (.cells #[.slice none 0 0, .slice none 0 0, .int .i64 (-1)] 60)) w.heap.size M0 none 0 [] (.slice none 0 0) [] := by
  refine ⟨heap_alloc_new w _, ⟨fun e => absurd rfl e, fun f hf => (by cases hf), Lst.nil⟩, ⟨rfl, .inl ⟨rfl, rfl⟩⟩, rfl, fun i g y hg => (by simp at hg), fun g hg => (by cases hg), fun j hj => ?_⟩
  rcases hj with (⟨_, e, _⟩ | ⟨f, hf, _⟩) | ⟨g, hg, _⟩
  · cases e
  · cases hf
  · cases hg
theorem tw2_new {F : Nat → Prop} (hd : Dsk w p M0 0 F) (hF : ∀ k, F k → w0.heap.size ≤ k) (hb : Below w0.heap.size w0 w) : Tw2 w0 (w.alloc (.cells #[.slice none 0 0, .slice none 0 0, .int .i64 (-1)] 60)) p w.heap.size M0 M0 0 := by
  refine ⟨F, _, hd.below (below1 w _), ⟨none, 0, [], _, [], rfR0 w, rfl⟩, rcN0, fun j hj hr => ?_, hF, fun j hr => ?_, hb.trans ((below1 w _).mono hb.size)⟩
  · have := hd.fLt j hj
    rcases hr with e | e | (⟨_, e, _⟩ | ⟨f, hf, _⟩) | ⟨g, hg, _⟩
    · omega
    · cases e
    · cases e
    · cases hf
    · cases hg
  · rcases hr with e | e | (⟨_, e, _⟩ | ⟨f, hf, _⟩) | ⟨g, hg, _⟩
    · have := hb.size; omega
    · cases e
    · cases e
    · cases hf
    · cases hg
theorem NxM.uniq {kd : Int} {s t : Nm} {d : List UInt8} {n : Int} {M A B : Md} (h : NxM kd s t d n M A) (h' : NxM kd s t d n M B) : A = B := by
  obtain ⟨m, hm, rfl⟩ := h
  obtain ⟨m', hm', rfl⟩ := h'
  rw [Card.uniq hm hm']
def StP (w0 : World) (p q : Nat) (M N : Md) (k : Nat) (x : Stp1) (e : Ending) (w' : World) : Prop := ∃ b M' N', e = .returned (.bool b) ∧ Tw2 w0 w' p q M' N' (k + 1) ∧ (M = N → M' = N' ∧ b = true) ∧ NxM x.k x.nm.data.toList x.to.data.toList x.d x.n M M'
def StK (w0 w : World) (p q : Nat) (M N : Md) (k : Nat) (F R : Nat → Prop) (x : Stp1) (e : Ending) (w' : World) : Prop := StP w0 p q M N k x e w' ∧ Keep w w' F R
theorem does_k {F R : Nat → Prop} (h : Two w0 w p q M N k k F R) (hk : k + 1 ≤ 2199023255552) (x : Stp1) (hx : Bs w0 x.a x.d) (h1 : x.nm.size ≤ maxLen) (h2 : x.to.size ≤ maxLen) : Calls Try.prog 12 #[.pointer (some ⟨p, 0, none⟩), .pointer (some ⟨q, 0, none⟩), .agg #[.int .i64 x.k, .string x.nm, .string x.to, .slice x.a x.d.length x.cap, .int .i64 x.n]] w (StK w0 w p q M N k F R x) := by
  refine (does_any w0 w p q M N k k F R h hk hk x.nm x.to h1 h2 x.a x.cap x.d hx x.n x.k).mono ?_
  rintro e w' ⟨b, rfl, hb, M', N', F', R', ht, n1, n2, hkp⟩
  exact ⟨⟨b, M', N', rfl, ⟨F', R', ht⟩, fun e => ⟨by subst e; exact n1.uniq n2, hb e⟩, n1⟩, hkp⟩
theorem does_t (h : Tw2 w0 w p q M N k) (hk : k + 1 ≤ 2199023255552) (x : Stp1) (hx : Bs w0 x.a x.d) (h1 : x.nm.size ≤ maxLen) (h2 : x.to.size ≤ maxLen) : Calls Try.prog 12 #[.pointer (some ⟨p, 0, none⟩), .pointer (some ⟨q, 0, none⟩), .agg #[.int .i64 x.k, .string x.nm, .string x.to, .slice x.a x.d.length x.cap, .int .i64 x.n]] w (StP w0 p q M N k x) := by
  obtain ⟨F, R, h⟩ := h
  exact (does_k h hk x hx h1 h2).mono fun _ _ h => h.1
end
section
variable {w wr : World} {p : Nat} {M : Md} {cnt : Nat}
theorem told_f (h : Cst w wr p M cnt) : ∃ T, ∀ M2 cnt wq, M2.files = M.files → Cst w wq p M2 cnt → Calls Try.prog 15 #[.pointer (some ⟨p, 0, none⟩)] wq fun e w' => e = .returned (.string T) ∧ Below wq.heap.size wq w' := by
  obtain ⟨ks, hks⟩ := h.srt
  refine ⟨accB M.files ks, fun M2 cnt wq hf hq => ?_⟩
  obtain ⟨F, q1, q2, q3⟩ := hq
  refine (told_st p cnt M2 F wq q1).mono ?_
  rintro e w' ⟨ks', hk', rfl, hb⟩
  rw [hf] at hk' ⊢
  rw [hk'.uniq hks]
  exact ⟨rfl, hb⟩
end
end Go.Proofs.Ytkbmfookdhlphaa
