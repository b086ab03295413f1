/- Records as the document's own writer writes them: the same bytes wherever they may be written, and refused just where they may not. Plain mathematics. -/
import Derived.Test.YtpbokgeaolpiaabGreatVrep
namespace Go.Proofs.YtpbokgeaolpiaabGreat
open Go.RowKit

def enR : (f : Fm) → Vl f → List UInt8 × Bool
  | .num, n => enN n
  | .tru, b => (enc (if b = true then 1 else 0), false)
  | .byt, l => ((enN (l.length : Int)).1 ++ l, decide (65536 < (l.length : Int)) || (enN (l.length : Int)).2)
  | .lst f, vs => ((enN (vs.length : Int)).1 ++ vs.flatMap fun v => (enR f v).1, decide (64 < (vs.length : Int)) || (enN (vs.length : Int)).2 || vs.any fun v => (enR f v).2)
  | .cat a b, v => ((enR a v.1).1 ++ (enR b v.2).1, (enR a v.1).2 || (enR b v.2).2)
/- how many bytes that are at most -/
def szb : (f : Fm) → Vl f → Nat
  | .num, _ => 6
  | .tru, _ => 6
  | .byt, l => 6 + l.length
  | .lst f, vs => 6 + (vs.map fun v => szb f v).sum
  | .cat a b, v => szb a v.1 + szb b v.2
theorem enN_ok (n : Int) (h0 : -1099511627776 ≤ n) (h1 : n ≤ 1099511627776) : enN n = (enc n, false) := by unfold enN; rw [if_pos ⟨h0, h1⟩]
theorem any_congr {α : Type} (f g : α → Bool) (h : ∀ x, f x = g x) (l : List α) : l.any f = l.any g := by rw [show f = g from funext h]
theorem flat_congr {α : Type} (f g : α → List UInt8) (l : List α) (h : ∀ x ∈ l, f x = g x) : l.flatMap f = l.flatMap g := by
  induction l with
  | nil => rfl
  | cons x l ih => rw [List.flatMap_cons, List.flatMap_cons, h x (by simp), ih (fun y hy => h y (by simp [hy]))]
theorem enR_eq (f : Fm) (v : Vl f) : (enR f v).2 = (en f v).2 ∧ ((en f v).2 = false → (enR f v).1 = (en f v).1) := by
  induction f with
  | num => exact ⟨rfl, fun _ => rfl⟩
  | tru => exact ⟨rfl, fun _ => rfl⟩
  | byt =>
    show (decide (65536 < ((v : List UInt8).length : Int)) || (enN ((v : List UInt8).length : Int)).2) = (if (v : List UInt8).length ≤ 65536 then (enc ((v : List UInt8).length : Int) ++ v, false) else ([], true) : List UInt8 × Bool).2 ∧
      ((if (v : List UInt8).length ≤ 65536 then (enc ((v : List UInt8).length : Int) ++ v, false) else ([], true) : List UInt8 × Bool).2 = false → (enN ((v : List UInt8).length : Int)).1 ++ v = (if (v : List UInt8).length ≤ 65536 then (enc ((v : List UInt8).length : Int) ++ v, false) else ([], true) : List UInt8 × Bool).1)
    by_cases hv : (v : List UInt8).length ≤ 65536
    · rw [if_pos hv, enN_ok _ (by omega) (by omega)]
      simp; omega
    · rw [if_neg hv]
      refine ⟨?_, fun h => by cases h⟩
      rw [decide_eq_true (by omega)]; rfl
  | lst f ih =>
    show (decide (64 < ((v : List (Vl f)).length : Int)) || (enN ((v : List (Vl f)).length : Int)).2 || (v : List (Vl f)).any fun v => (enR f v).2) = (if (v : List (Vl f)).length ≤ 64 then (enc ((v : List (Vl f)).length : Int) ++ (v : List (Vl f)).flatMap fun v => (en f v).1, (v : List (Vl f)).any fun v => (en f v).2) else ([], true) : List UInt8 × Bool).2 ∧
      ((if (v : List (Vl f)).length ≤ 64 then (enc ((v : List (Vl f)).length : Int) ++ (v : List (Vl f)).flatMap fun v => (en f v).1, (v : List (Vl f)).any fun v => (en f v).2) else ([], true) : List UInt8 × Bool).2 = false →
        (enN ((v : List (Vl f)).length : Int)).1 ++ (v : List (Vl f)).flatMap (fun v => (enR f v).1) = (if (v : List (Vl f)).length ≤ 64 then (enc ((v : List (Vl f)).length : Int) ++ (v : List (Vl f)).flatMap fun v => (en f v).1, (v : List (Vl f)).any fun v => (en f v).2) else ([], true) : List UInt8 × Bool).1)
    by_cases hv : (v : List (Vl f)).length ≤ 64
    · rw [if_pos hv, enN_ok _ (by omega) (by omega)]
      refine ⟨?_, fun h => ?_⟩
      · rw [decide_eq_false (by omega), any_congr _ _ (fun x => (ih x).1)]; rfl
      · have h' : (v : List (Vl f)).any (fun v => (en f v).2) = false := h
        show _ ++ _ = _ ++ _
        rw [flat_congr (fun v => (enR f v).1) (fun v => (en f v).1) v (fun x hx => (ih x).2 (by have := List.any_eq_false.1 h' x hx; simpa using this))]
    · rw [if_neg hv]
      refine ⟨?_, fun h => by cases h⟩
      rw [decide_eq_true (by omega)]; rfl
  | cat a b iha ihb =>
    show ((enR a v.1).2 || (enR b v.2).2) = ((en a v.1).2 || (en b v.2).2) ∧ (((en a v.1).2 || (en b v.2).2) = false → (enR a v.1).1 ++ (enR b v.2).1 = (en a v.1).1 ++ (en b v.2).1)
    refine ⟨by rw [(iha v.1).1, (ihb v.2).1], fun h => ?_⟩
    rw [Bool.or_eq_false_iff] at h
    rw [(iha v.1).2 h.1, (ihb v.2).2 h.2]
theorem flat_sum {α : Type} (g : α → List UInt8) (m : α → Nat) (h : ∀ v, (g v).length ≤ m v) (vs : List α) : (vs.flatMap g).length ≤ (vs.map m).sum := by
  induction vs with
  | nil => simp
  | cons v vs ih => rw [List.flatMap_cons, List.length_append, List.map_cons, List.sum_cons]; have := h v; omega
theorem enR_len (f : Fm) (v : Vl f) : (enR f v).1.length ≤ szb f v := by
  induction f with
  | num => exact enN_len v
  | tru => exact en_len .tru v
  | byt =>
    show ((enN ((v : List UInt8).length : Int)).1 ++ v).length ≤ 6 + (v : List UInt8).length
    rw [List.length_append]
    have := enN_len ((v : List UInt8).length : Int)
    omega
  | lst f ih =>
    show ((enN ((v : List (Vl f)).length : Int)).1 ++ (v : List (Vl f)).flatMap fun v => (enR f v).1).length ≤ 6 + ((v : List (Vl f)).map fun v => szb f v).sum
    rw [List.length_append]
    have := enN_len ((v : List (Vl f)).length : Int)
    have := flat_sum (fun v => (enR f v).1) (fun v => szb f v) (fun v => ih v) v
    omega
  | cat a b iha ihb =>
    show ((enR a v.1).1 ++ (enR b v.2).1).length ≤ szb a v.1 + szb b v.2
    rw [List.length_append]
    have := iha v.1
    have := ihb v.2
    omega
theorem enR_l1 (f : Fm) (vs : List (Vl f)) : (enR (.lst f) vs).1 = (enN (vs.length : Int)).1 ++ vs.flatMap fun v => (enR f v).1 := rfl
theorem enR_l2 (f : Fm) (vs : List (Vl f)) : (enR (.lst f) vs).2 = (decide (64 < (vs.length : Int)) || (enN (vs.length : Int)).2 || vs.any fun v => (enR f v).2) := rfl
theorem szb_l (f : Fm) (vs : List (Vl f)) : szb (.lst f) vs = 6 + (vs.map fun v => szb f v).sum := rfl
/- the first of a list and the next one -/
theorem sum_take {α : Type} (m : α → Nat) (vs : List α) (k : Nat) (h : k < vs.length) : ((vs.take k).map m).sum + m vs[k] ≤ (vs.map m).sum := by
  have e : vs = vs.take k ++ (vs[k] :: vs.drop (k + 1)) := by rw [← List.drop_eq_getElem_cons h, List.take_append_drop]
  have e2 : (vs.map m).sum = ((vs.take k).map m).sum + (m vs[k] + ((vs.drop (k + 1)).map m).sum) := by
    conv => lhs; rw [e]
    rw [List.map_append, List.sum_append, List.map_cons, List.sum_cons]
  omega
end Go.Proofs.YtpbokgeaolpiaabGreat
