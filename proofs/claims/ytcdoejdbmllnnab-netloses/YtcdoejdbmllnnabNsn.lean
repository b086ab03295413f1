/- Messages are sent one by one, and it is written down which were taken: what the net holds then. -/
import Derived.Test.YtcdoejdbmllnnabNkno
namespace Go.Proofs.Ytcdoejdbmllnnab
open Go.RowKit

theorem cut_more (R : Nat) (l : List (List UInt8)) (b : List UInt8) : cutM R (cutM R l ++ [b]) = cutM R (l ++ [b]) := by
  unfold cutM
  simp only [List.length_append, List.length_drop, List.length_cons, List.length_nil]
  by_cases h : l.length ≤ R
  · rw [show l.length - R = 0 by omega]; simp
  · rw [show l.length - (l.length - R) + (0 + 1) - R = 1 - (l.length - (l.length - R) - R) by omega, show l.length - (l.length - R) - R = 0 by omega, List.drop_append, List.drop_append, List.drop_drop]
    simp only [List.length_drop]
    rw [show l.length + (0 + 1) - R = l.length - R + (1 - 0) by omega, show 1 - 0 - (l.length - (l.length - R)) = l.length - R + (1 - 0) - l.length by omega]
theorem cut_le (R : Nat) (l : List (List UInt8)) : (cutM R l).length ≤ R := by unfold cutM; simp; omega

theorem row_kept {w w' : World} {base e size : Nat} {v : Value} {n : Nat} {xs : List Value} (h : w.ownsRow base e size v n xs) (hb : ∀ g cs, v.ownBlock = some g → w.heap[g]? = some (.cells cs e (0, 0)) → w'.heap[g]? = w.heap[g]?) : w'.ownsRow base e size v n xs := by
  refine ⟨h.1, ?_⟩
  rcases h.2 with h1 | ⟨g, cap, cur, e1, e2, e3, e4⟩
  · exact .inl h1
  · exact .inr ⟨g, cap, cur, e1, e2, (hb g cur (by rw [e1]; rfl) e3).trans e3, e4⟩
theorem row_ns {w w' : World} {p most base e size : Nat} {L : List (List UInt8)} {r r' : Option Nat} {v : Value} {n : Nat} {xs : List Value} (h : w.ownsRow base e size v n xs) (hn : NetR w p most L r) (hs : NS w w' p r r') (h60 : e ≠ 60) (h30 : e ≠ 30) : w'.ownsRow base e size v n xs :=
  row_kept h fun g _ _ hg => hs.block g (Array.getElem?_eq_some_iff.1 hg).1 (hn.apart hg h60 h30).1 (hn.apart hg h60 h30).2
theorem row_below {w w' : World} {base e size : Nat} {v : Value} {n : Nat} {xs : List Value} (h : w.ownsRow base e size v n xs) (hs : Below w.heap.size w w') : w'.ownsRow base e size v n xs :=
  row_kept h fun g _ _ hg => hs.block g (Array.getElem?_eq_some_iff.1 hg).1
theorem NetR.grown {w w' : World} {p most base e size : Nat} {L : List (List UInt8)} {r : Option Nat} {v : Value} {n : Nat} {xs : List Value} (h : NetR w p most L r) (ho : w.ownsRow base e size v n xs) (hg : w.grownBy w' v.ownBlock) (h5 : e ≠ 5) (h60 : e ≠ 60) (h30 : e ≠ 30) : NetR w' p most L r := by
  rcases ho.2 with ⟨e1, _⟩ | ⟨g, cap, cur, e1, e2, e3, e4⟩
  · exact h.kept (fun k hk => hg.block k hk (by rw [e1]; exact fun x => by cases x)) hg.size
  · have ha := h.apart e3 h60 h30
    exact h.kept1 e3 h5 (fun x => ha.1 x.symm) (fun x => ha.2 x.symm) (fun k hk hne => hg.block k hk (by rw [e1]; exact fun x => hne (Option.some.inj x))) hg.size

/- k messages g 0, g 1, .. were handed in; those of is were taken; they are written down in the row v -/
def pkG (g : Nat → Vl F_msg) (i : Nat) : List UInt8 := (en F_msg (g i)).1
def OkG (g : Nat → Vl F_msg) (k : Nat) (is : List Nat) : Prop := is.length ≤ k ∧ (∀ i ∈ is, i < k ∧ (en F_msg (g i)).2 = false) ∧ is.Pairwise (· < ·)
theorem OkG.next {g : Nat → Vl F_msg} {k : Nat} {is : List Nat} (h : OkG g k is) : OkG g (k + 1) is := ⟨by have := h.1; omega, fun i hi => ⟨by have := (h.2.1 i hi).1; omega, (h.2.1 i hi).2⟩, h.2.2⟩
theorem OkG.more {g : Nat → Vl F_msg} {k : Nat} {is : List Nat} (h : OkG g k is) (hk : (en F_msg (g k)).2 = false) : OkG g (k + 1) (is ++ [k]) := by
  refine ⟨by have := h.1; simp; omega, fun i hi => ?_, ?_⟩
  · rcases List.mem_append.1 hi with h1 | h1
    · exact h.next.2.1 i h1
    · simp at h1; subst h1; exact ⟨by omega, hk⟩
  · rw [List.pairwise_append]
    exact ⟨h.2.2, by simp, fun a ha b hb => by simp at hb; subst hb; exact (h.2.1 a ha).1⟩
def NetG (W wr : World) (p R : Nat) (g : Nat → Vl F_msg) (is : List Nat) : Prop :=
  Below W.heap.size W wr ∧ W.heap.size ≤ p ∧ ∃ r, NetR wr p R (cutM R (is.map (pkG g))) r ∧ ∀ q, r = some q → W.heap.size ≤ q
theorem NetG.below {W wr w1 : World} {p R : Nat} {g : Nat → Vl F_msg} {is : List Nat} (h : NetG W wr p R g is) (hb : Below wr.heap.size wr w1) : NetG W w1 p R g is := by
  obtain ⟨h1, h2, r, h3, h4⟩ := h
  exact ⟨h1.trans (hb.mono h1.size), h2, r, h3.grow hb, h4⟩
theorem netG_sent {W w1 w2 : World} {p R k : Nat} {g : Nat → Vl F_msg} {is : List Nat} {r r2 : Option Nat} (h1 : Below W.heap.size W w1) (h2 : W.heap.size ≤ p) (h4 : ∀ q, r = some q → W.heap.size ≤ q)
    (hn : NetR w2 p R (cutM R (cutM R (is.map (pkG g)) ++ [(en F_msg (g k)).1])) r2) (hs : NS w1 w2 p r r2) : NetG W w2 p R g (is ++ [k]) := by
  rw [cut_more] at hn
  refine ⟨h1.trans (hs.below h1.size h2 h4), h2, r2, ?_, hs.rowD h1.size h4⟩
  rw [List.map_append]
  exact hn
theorem NetG.grown {W w w' : World} {p R e size : Nat} {g : Nat → Vl F_msg} {is : List Nat} {v : Value} {n : Nat} {xs : List Value} (h : NetG W w p R g is) (ho : w.ownsRow W.heap.size e size v n xs) (hg : w.grownBy w' v.ownBlock) (h5 : e ≠ 5) (h60 : e ≠ 60) (h30 : e ≠ 30) : NetG W w' p R g is := by
  obtain ⟨h1, h2, r, h3, h4⟩ := h
  exact ⟨h1.grown hg h1.size (fun j hj => (ho.lt j hj).1), h2, r, h3.grown ho hg h5 h60 h30, h4⟩

end Go.Proofs.Ytcdoejdbmllnnab
