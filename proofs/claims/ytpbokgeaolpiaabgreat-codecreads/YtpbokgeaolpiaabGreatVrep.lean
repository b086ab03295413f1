/- Values in memory: what cells hold a record's value, and that they go on holding it while its blocks stay. -/
import Derived.Test.YtpbokgeaolpiaabGreatVmat
import Derived.Deep.MidRow
namespace Go.Proofs.YtpbokgeaolpiaabGreat
open Go.RowKit

def wd : Fm → Nat
  | .num | .tru | .byt | .lst _ => 1
  | .cat a b => wd a + wd b
/- the cells cs hold the value; what lies behind them lies in blocks of S -/
def Rep (w : World) (S : Nat → Prop) : (f : Fm) → List Value → Vl f → Prop
  | .num, cs, n => cs = [.int .i64 n]
  | .tru, cs, b => cs = [.bool b]
  | .byt, cs, l => ∃ a cap, cs = [.slice a l.length cap] ∧ l.length ≤ cap ∧ Bs w a l ∧ (l ≠ [] → ∀ x, a = some x → S x.block)
  | .lst f, cs, vs => ∃ a cap, cs = [.slice a vs.length cap] ∧ vs.length ≤ 9223372036854775807 ∧
      (vs ≠ [] → ∃ b off, a = some ⟨b, off, none⟩ ∧ S b ∧ ∀ i (h : i < vs.length), ∃ es, Rep w S f es vs[i] ∧ w.rangeAt b (off + i * wd f) es)
  | .cat f g, cs, v => ∃ xs ys, cs = xs ++ ys ∧ Rep w S f xs v.1 ∧ Rep w S g ys v.2
/- the same of a list behind its address -/
def RepL (w : World) (S : Nat → Prop) (f : Fm) (a : Option Addr) (vs : List (Vl f)) : Prop :=
  vs.length ≤ 9223372036854775807 ∧ (vs ≠ [] → ∃ b off, a = some ⟨b, off, none⟩ ∧ S b ∧ ∀ i (h : i < vs.length), ∃ es, Rep w S f es vs[i] ∧ w.rangeAt b (off + i * wd f) es)
/- and of bytes -/
def RepB (w : World) (S : Nat → Prop) (a : Option Addr) (l : List UInt8) : Prop := Bs w a l ∧ (l ≠ [] → ∀ x, a = some x → S x.block)

theorem Rep.len {w : World} {S : Nat → Prop} {f : Fm} {cs : List Value} {v : Vl f} (h : Rep w S f cs v) : cs.length = wd f := by
  induction f generalizing cs with
  | num => rw [show cs = _ from h]; rfl
  | tru => rw [show cs = _ from h]; rfl
  | byt => obtain ⟨a, cap, rfl, _⟩ := h; rfl
  | lst f _ => obtain ⟨a, cap, rfl, _⟩ := h; rfl
  | cat f g ihf ihg =>
    obtain ⟨xs, ys, rfl, h1, h2⟩ := h
    rw [List.length_append, ihf h1, ihg h2]; rfl
theorem rangeAt_kept {w w' : World} {b o : Nat} {cs : List Value} (h : w.rangeAt b o cs) (hb : w'.heap[b]? = w.heap[b]?) : w'.rangeAt b o cs :=
  fun j v hv => (World.cell?_of_block (a := ⟨b, o + j, none⟩) hb).trans (h j v hv)
theorem RepB.kept {w w' : World} {S S' : Nat → Prop} {a : Option Addr} {l : List UInt8} (h : RepB w S a l) (hs : w.heap.size ≤ w'.heap.size) (hb : ∀ b, S b → w'.heap[b]? = w.heap[b]?) (hm : ∀ b, S b → S' b) : RepB w' S' a l := by
  refine ⟨⟨h.1.1, fun hne => ?_⟩, fun hne x hx => hm _ (h.2 hne x hx)⟩
  obtain ⟨b, off, rfl, hlt, hc⟩ := h.1.2 hne
  have := h.2 hne _ rfl
  exact ⟨b, off, rfl, Nat.lt_of_lt_of_le hlt hs, fun j hj => (World.cell?_of_block (a := ⟨b, off + j, none⟩) (hb b this)).trans (hc j hj)⟩
theorem Rep.kept {w w' : World} {S S' : Nat → Prop} {f : Fm} {cs : List Value} {v : Vl f} (h : Rep w S f cs v) (hs : w.heap.size ≤ w'.heap.size) (hb : ∀ b, S b → w'.heap[b]? = w.heap[b]?) (hm : ∀ b, S b → S' b) : Rep w' S' f cs v := by
  induction f generalizing cs with
  | num => exact h
  | tru => exact h
  | byt =>
    obtain ⟨a, cap, rfl, hc, h1, h2⟩ := h
    have := RepB.kept (S' := S') ⟨h1, h2⟩ hs hb hm
    exact ⟨a, cap, rfl, hc, this.1, this.2⟩
  | lst f ih =>
    obtain ⟨a, cap, rfl, hc, h1⟩ := h
    refine ⟨a, cap, rfl, hc, fun hne => ?_⟩
    obtain ⟨b, off, rfl, hS, he⟩ := h1 hne
    refine ⟨b, off, rfl, hm b hS, fun i hi => ?_⟩
    obtain ⟨es, h3, h4⟩ := he i hi
    exact ⟨es, ih h3, rangeAt_kept h4 (hb b hS)⟩
  | cat f g ihf ihg =>
    obtain ⟨xs, ys, rfl, h1, h2⟩ := h
    exact ⟨xs, ys, rfl, ihf h1, ihg h2⟩
theorem RepL.kept {w w' : World} {S S' : Nat → Prop} {f : Fm} {a : Option Addr} {vs : List (Vl f)} (h : RepL w S f a vs) (hs : w.heap.size ≤ w'.heap.size) (hb : ∀ b, S b → w'.heap[b]? = w.heap[b]?) (hm : ∀ b, S b → S' b) : RepL w' S' f a vs := by
  refine ⟨h.1, fun hne => ?_⟩
  obtain ⟨b, off, rfl, hS, he⟩ := h.2 hne
  refine ⟨b, off, rfl, hm b hS, fun i hi => ?_⟩
  obtain ⟨es, h3, h4⟩ := he i hi
  exact ⟨es, h3.kept hs hb hm, rangeAt_kept h4 (hb b hS)⟩
theorem RepL.keep {w w' : World} {S prot : Nat → Prop} {f : Fm} {a : Option Addr} {vs : List (Vl f)} (h : RepL w S f a vs) (hk : Kp w w' prot) (hS : ∀ b, S b → prot b) : RepL w' S f a vs := h.kept hk.size (fun b hb => hk.block b (hS b hb)) (fun _ x => x)
theorem RepB.keep {w w' : World} {S prot : Nat → Prop} {a : Option Addr} {l : List UInt8} (h : RepB w S a l) (hk : Kp w w' prot) (hS : ∀ b, S b → prot b) : RepB w' S a l := h.kept hk.size (fun b hb => hk.block b (hS b hb)) (fun _ x => x)

theorem Rep.one {w : World} {S : Nat → Prop} {f : Fm} {cs : List Value} {v : Vl f} (h : Rep w S f cs v) : ∀ c ∈ cs, c.oneCell' = true := by
  induction f generalizing cs with
  | num => rw [show cs = _ from h]; intro c hc; simp at hc; subst hc; rfl
  | tru => rw [show cs = _ from h]; intro c hc; simp at hc; subst hc; rfl
  | byt => obtain ⟨a, cap, rfl, _⟩ := h; intro c hc; simp at hc; subst hc; rfl
  | lst f _ => obtain ⟨a, cap, rfl, _⟩ := h; intro c hc; simp at hc; subst hc; rfl
  | cat f g ihf ihg =>
    obtain ⟨xs, ys, rfl, h1, h2⟩ := h
    intro c hc
    rcases List.mem_append.1 hc with hc | hc
    · exact ihf h1 c hc
    · exact ihg h2 c hc
theorem Rep.all {w : World} {S : Nat → Prop} {f : Fm} {cs : List Value} {v : Vl f} (h : Rep w S f cs v) : cs.toArray.all (·.oneCell') = true := by
  rw [Array.all_eq_true_iff_forall_mem]
  intro c hc
  exact h.one c (by simpa using hc)
/- how many bytes a record has at most -/
def mx : Fm → Nat
  | .num | .tru => 6
  | .byt => 65542
  | .lst f => 6 + 64 * mx f
  | .cat a b => mx a + mx b
theorem mx_cat (a b : Fm) : mx (.cat a b) = mx a + mx b := rfl
theorem enN_len (n : Int) : (enN n).1.length ≤ 6 := by
  unfold enN
  split
  · next h => exact enc_length n h.1 h.2
  · simp
theorem flat_len {α : Type} (g : α → List UInt8) (m : Nat) (h : ∀ v, (g v).length ≤ m) (vs : List α) : (vs.flatMap g).length ≤ vs.length * m := by
  induction vs with
  | nil => simp
  | cons v vs ih => rw [List.flatMap_cons, List.length_append, List.length_cons, Nat.add_mul]; have := h v; omega
theorem en_len (f : Fm) (v : Vl f) : (en f v).1.length ≤ mx f := by
  induction f with
  | num => exact enN_len v
  | tru =>
    show (enc (if v = true then 1 else 0)).length ≤ 6
    split
    · exact enc_length _ (by omega) (by omega)
    · exact enc_length _ (by omega) (by omega)
  | byt =>
    show (if (v : List UInt8).length ≤ 65536 then (enc ((v : List UInt8).length : Int) ++ v, false) else ([], true) : List UInt8 × Bool).1.length ≤ 65542
    split
    · next h =>
      rw [List.length_append]
      have := enc_length ((v : List UInt8).length : Int) (by omega) (by omega)
      omega
    · simp
  | lst f ih =>
    show (if (v : List (Vl f)).length ≤ 64 then (enc ((v : List (Vl f)).length : Int) ++ (v : List (Vl f)).flatMap fun v => (en f v).1, (v : List (Vl f)).any fun v => (en f v).2) else ([], true) : List UInt8 × Bool).1.length ≤ 6 + 64 * mx f
    split
    · next h =>
      rw [List.length_append]
      have h1 := enc_length ((v : List (Vl f)).length : Int) (by omega) (by omega)
      have h2 := flat_len (fun v => (en f v).1) (mx f) (fun v => ih v) v
      have h3 : (v : List (Vl f)).length * mx f ≤ 64 * mx f := Nat.mul_le_mul_right _ h
      omega
    · simp
  | cat a b iha ihb =>
    show ((en a v.1).1 ++ (en b v.2).1).length ≤ mx a + mx b
    rw [List.length_append]
    have := iha v.1
    have := ihb v.2
    omega
theorem en_cat (a b : Fm) (x : Vl a) (y : Vl b) : en (.cat a b) (x, y) = ((en a x).1 ++ (en b y).1, (en a x).2 || (en b y).2) := rfl
end Go.Proofs.YtpbokgeaolpiaabGreat
