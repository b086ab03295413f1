/- Two logs that agree up to where they meet; and two logs in memory, both the code's. -/
import Derived.Test.YtdkmlgkljhhokaaLpla
namespace Go.Proofs.Ytdkmlgkljhhokaa
open Go.RowKit

def Agr (A B : List En) : Prop := ∀ (j : Nat) (a b : En), A[j]? = some a → B[j]? = some b → a.tm = b.tm → A.take (j + 1) = B.take (j + 1)
theorem agr_take (A : List En) (m : Nat) : Agr A (A.take m) := fun j a b _ hb _ => by
  have hj := (List.getElem?_eq_some_iff.1 hb).1
  rw [List.length_take] at hj
  rw [List.take_take, Nat.min_eq_left (by omega)]
theorem agr_odd {A B : List En} (hA : ∀ e ∈ A, e.tm % 2 = 0) (hB : ∀ e ∈ B, e.tm % 2 = 1) : Agr A B := fun j a b ha hb e => by
  have h1 := hA a (List.mem_of_getElem? ha)
  have h2 := hB b (List.mem_of_getElem? hb)
  omega
theorem slice_nat {A : Lg} (h0 : A.bi = 0) {f : Nat} (hf : f ≤ A.L.length) (n : Int) : sliceM A (f + 1) n = (A.L.drop f).take n.toNat := by
  unfold sliceM lastI
  rw [h0]
  by_cases h1 : f = A.L.length
  · rw [if_pos (by omega), h1, List.drop_length, List.take_nil]
  by_cases h2 : n < 1
  · rw [if_pos (by omega), show n.toNat = 0 by omega]; rfl
  · rw [if_neg (by omega), show ((f : Int) + 1 - 0 - 1).toNat = f by omega]
theorem term_nat {A : Lg} (h0 : A.bi = 0) {p : Nat} {a : En} (ha : A.L[p]? = some a) : termT A ((p + 1 : Nat) : Int) = a.tm := by
  have := termT_at ha
  rw [h0, show (0 : Int) + 1 + p = ((p + 1 : Nat) : Int) by omega] at this
  exact this
theorem agr_to {A B : Lg} (hA : A.bi = 0) (hB : B.bi = 0) (h : Agr A.L B.L) {p : Nat} (hp : p ≤ A.L.length) (hh : hasB B p (termT A p) = true) : A.L.take p = B.L.take p := by
  cases p with
  | zero => rfl
  | succ p =>
    obtain ⟨a, ha⟩ : ∃ a, A.L[p]? = some a := ⟨_, List.getElem?_eq_getElem (by omega)⟩
    obtain ⟨⟨_, h2⟩, h3⟩ := hasB_iff.1 hh
    obtain ⟨b, hb⟩ : ∃ b, B.L[p]? = some b := ⟨_, List.getElem?_eq_getElem (by unfold lastI at h2; omega)⟩
    rw [term_nat hA ha, term_nat hB hb] at h3
    exact h p a b ha hb h3.symm
theorem acc_agr {A B : Lg} (wA : Wf A) (hA : A.bi = 0) (hB : B.bi = 0) (h : Agr A.L B.L) {f : Nat} (hf : f ≤ A.L.length) (n : Nat) : accM B f (termT A f) ((A.L.drop f).take n) = B ∨ accM B f (termT A f) ((A.L.drop f).take n) = ⟨B.bi, B.bt, A.L.take (f + n)⟩ := by
  unfold accM
  split
  · rename_i ha
    unfold accB at ha
    rw [Bool.and_eq_true] at ha
    obtain ⟨⟨g1, g2⟩, g3⟩ := hasB_iff.1 ha.1
    rcases freshD_suffix g1 g2 g3 ha.2 with e | ⟨k, x, E, e1, e2, e3, e4, _, _, _, _⟩
    · left; rw [e]; rfl
    · right
      rw [e1]
      rw [List.length_take, List.length_drop] at e3
      have hx : A.L[f + k]? = some x := by
        have h1 : (((A.L.drop f).take n).drop k)[0]? = some x := by rw [e2]; rfl
        rw [List.getElem?_drop, List.getElem?_take_of_lt (by omega), List.getElem?_drop] at h1
        exact h1
      have hix := (wA.at hx).1
      rw [hA] at hix
      have hh : hasB B ((f + k : Nat) : Int) (termT A ((f + k : Nat) : Int)) = true := by
        cases k with
        | zero => exact ha.1
        | succ k =>
          obtain ⟨y, hy⟩ : ∃ y, A.L[f + k]? = some y := ⟨_, List.getElem?_eq_getElem (by omega)⟩
          have h1 := e4 k y (by omega) (by rw [List.getElem?_take_of_lt (by omega), List.getElem?_drop]; exact hy)
          have h2 := (wA.at hy).1
          rw [hA] at h2
          rw [show (((f + (k + 1) : Nat)) : Int) = ((f + k + 1 : Nat) : Int) by omega, term_nat hA hy]
          rw [h2, show (0 : Int) + 1 + ((f + k : Nat) : Int) = ((f + k + 1 : Nat) : Int) by omega] at h1
          exact h1
      have ht := agr_to hA hB h (p := f + k) (by omega) hh
      show Lg.mk B.bi B.bt (B.L.take (x.ix - B.bi - 1).toNat ++ x :: E) = _
      rw [hB, hix, show ((0 : Int) + 1 + ((f + k : Nat) : Int) - 0 - 1).toNat = f + k by omega, ← ht, ← e2, List.drop_take, List.drop_drop, ← List.take_add, show f + k + (n - k) = f + n by omega]
  · left; rfl
/- two logs, both the code's -/
structure TwA (w0 w : World) (p q : Nat) (A B : Lg) (v u : Value) : Prop where
  c : LgR w0 w 72 p A v
  r : LgR w0 w 72 q B u
  pq : q ≠ p
  ap : ∀ k, v.ownBlock = some k → u.ownBlock ≠ some k
  bel : Below w0.heap.size w0 w
section
variable {w0 w w' : World} {p q : Nat} {A B A' : Lg} {v u v' : Value}
theorem TwA.swap (h : TwA w0 w p q A B v u) : TwA w0 w q p B A u v := ⟨h.r, h.c, fun e => h.pq e.symm, fun k hk e => h.ap k e hk, h.bel⟩
theorem TwA.w0le (h : TwA w0 w p q A B v u) : w0.heap.size ≤ w.heap.size := h.bel.size
theorem TwA.below (h : TwA w0 w p q A B v u) (hb : Below w.heap.size w w') : TwA w0 w' p q A B v u := ⟨h.c.below hb, h.r.below hb, h.pq, h.ap, h.bel.trans (hb.mono h.bel.size)⟩
theorem TwA.first (h : TwA w0 w p q A B v u) (hl : LgR w0 w' 72 p A' v') (hc : Chg w w' (Sp p v)) (hn : Nx w v v') : TwA w0 w' p q A' B v' u := by
  have hk : Kp w0 w w' := hc.kp h.w0le (fun k hk e => by
    rcases e with e | e
    · rw [e]; exact ⟨h.c.lo, _, 72, (0, 0), h.c.blk, .inr (.inl rfl)⟩
    · obtain ⟨a, cur, hb⟩ := h.c.own.blk e; exact ⟨a, cur, 51, (0, 0), hb, .inl rfl⟩)
  have hq : ¬ Sp p v q := fun e => by
    rcases e with e | e
    · exact h.pq e
    · obtain ⟨_, cur, hb⟩ := h.c.own.blk e; rw [h.r.blk] at hb; cases hb
  have hu : ∀ k, u.ownBlock = some k → ¬ Sp p v k := fun k hk e => by
    rcases e with e | e
    · obtain ⟨_, cur, hb⟩ := h.r.own.blk hk; rw [e, h.c.blk] at hb; cases hb
    · exact h.ap k e hk
  refine ⟨hl, ⟨(hc.block q (heap_lt h.r.blk) hq).trans h.r.blk, h.r.lo, h.r.own.kept hk (fun b e => hc.block b (h.r.olt e).2 (hu b e)), h.r.wf, h.r.len⟩, h.pq, fun k hk e => ?_, h.bel.trans (hc.below h.w0le (fun k e => ?_))⟩
  · rcases hn k hk with e2 | e2
    · exact h.ap k e2 e
    · have := (h.r.olt e).2; omega
  · rcases e with e | e
    · rw [e]; exact h.c.lo
    · exact (h.c.olt e).1
theorem TwA.notP (h : TwA w0 w p q A B v u) {k : Nat} (hk : w.heap.size ≤ k) : ¬ Sp p v k := fun e => by
  rcases e with e | e
  · have := heap_lt h.c.blk; omega
  · have := h.c.olt e; omega
end
theorem putM_facts {M : Lg} {t op : Int} : (putM M t op 0).bi = M.bi ∧ (putM M t op 0).bt = M.bt ∧ (putM M t op 0).L.length ≤ M.L.length + 1 ∧ ∀ r : Int, t % 2 = r → (∀ e ∈ M.L, e.tm % 2 = r) → ∀ e ∈ (putM M t op 0).L, e.tm % 2 = r := by
  unfold putM
  split
  · refine ⟨rfl, rfl, by simp, fun r hr h e he => ?_⟩
    rcases List.mem_append.1 he with he | he
    · exact h e he
    · rw [List.mem_singleton.1 he]; exact hr
  · exact ⟨rfl, rfl, by omega, fun _ _ h => h⟩
end Go.Proofs.Ytdkmlgkljhhokaa
