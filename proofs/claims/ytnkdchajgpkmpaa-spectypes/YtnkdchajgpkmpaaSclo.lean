/- What may be, asked by closures: between, the closure that it makes, countsOf, both. -/
import Derived.Test.YtnkdchajgpkmpaaProg
import Derived.WalkLawsBesides
import Derived.KernelRfl
import Derived.ProofKit
import Derived.WalkKit
namespace Go.Proofs.Ytnkdchajgpkmpaa
open Go.RowKit

theorem hidOf {p : Prop} (h : p) : Hid p := h
def inB (a b n : Int) : Bool := decide (a ≤ n ∧ n ≤ b)
theorem inB_true {a b n : Int} : inB a b n = true ↔ a ≤ n ∧ n ≤ b := by unfold inB; simp
theorem inB_false {a b n : Int} : inB a b n = false ↔ n < a ∨ b < n := by unfold inB; simp; omega

/- the closure's two numbers stand in the blocks p and q -/
structure Btw (w : World) (p q : Nat) (a b : Int) : Prop where
  cp : w.cell? ⟨p, 0, none⟩ = some (.int .i64 a)
  cq : w.cell? ⟨q, 0, none⟩ = some (.int .i64 b)
  lp : p < w.heap.size
  lq : q < w.heap.size
theorem Btw.grow {w w' : World} {p q : Nat} {a b : Int} (h : Btw w p q a b) (hb : Below w.heap.size w w') : Btw w' p q a b :=
  ⟨(hb.cell (p := ⟨p, 0, none⟩) h.lp).trans h.cp, (hb.cell (p := ⟨q, 0, none⟩) h.lq).trans h.cq, Nat.lt_of_lt_of_le h.lp hb.size, Nat.lt_of_lt_of_le h.lq hb.size⟩
theorem Btw.mono {w w' : World} {p q n : Nat} {a b : Int} (h : Btw w p q a b) (hb : Below n w w') (hn : w.heap.size ≤ n) : Btw w' p q a b := h.grow (hb.mono hn)
theorem below1 (w : World) (a : Obj) : Below w.heap.size w (w.alloc a) := (Below.refl _ w).alloc (Nat.le_refl _) _
theorem below2 (w : World) (a b : Obj) : Below w.heap.size w ((w.alloc a).alloc b) := ((Below.refl _ w).alloc (Nat.le_refl _) _).alloc (by simp) _

/- the function value that between makes -/
def clo (p q : Nat) : Value := .func (.func 21) #[] #[.pointer (some ⟨p, 0, none⟩), .pointer (some ⟨q, 0, none⟩)]

set_option maxHeartbeats 400000 in
theorem between_any (a b : Int) (w : World) : Calls Try.prog 17 #[.int .i64 a, .int .i64 b] w fun e w' => ∃ p q, e = .returned (.func (.func 21) #[] #[.pointer (some ⟨p, 0, none⟩), .pointer (some ⟨q, 0, none⟩)]) ∧ Btw w' p q a b ∧ Below w.heap.size w w' := by
  have hmf : ∀ (fn : Fn) (first cap : Array Value) (w : World), (Instr.makeFunc fn first cap).run Try.prog w = .ok (.func fn first cap) w := fun _ _ _ _ => rfl
  go_enter Try.func17, Try.ntmps17
  go_wp2
  go_ret
  refine ⟨_, _, rfl, ⟨?_, ?_, ?_, ?_⟩, below2 w _ _⟩
  · simp [go_sem]
  · simp [go_sem]
  · simp; omega
  · simp

set_option maxHeartbeats 400000 in
theorem clo_any (a b n : Int) (p q : Nat) (w : World) (h : Btw w p q a b) : Calls Try.prog 21 #[.int .i64 n, .pointer (some ⟨p, 0, none⟩), .pointer (some ⟨q, 0, none⟩)] w fun e w' => e = .returned (.bool (inB a b n)) ∧ w' = w := by
  obtain ⟨cp, cq, lp, lq⟩ := h
  by_cases h1 : a ≤ n
  · by_cases h2 : n ≤ b
    · rw [inB_true.2 ⟨h1, h2⟩]
      go_enter Try.func21, Try.ntmps21
      go_wp2
      go_ret
      exact ⟨rfl, rfl⟩
    · rw [inB_false.2 (by omega)]
      go_enter Try.func21, Try.ntmps21
      go_wp2
      go_ret
      exact ⟨rfl, rfl⟩
  · rw [inB_false.2 (by omega)]
    go_enter Try.func21, Try.ntmps21
    go_wp2
    go_ret
    exact ⟨rfl, rfl⟩

set_option maxHeartbeats 400000 in
theorem countsOf_any (k : Int) (w : World) : Calls Try.prog 18 #[.int .i64 k] w fun e w' => ∃ p q, e = .returned (.func (.func 21) #[] #[.pointer (some ⟨p, 0, none⟩), .pointer (some ⟨q, 0, none⟩)]) ∧ Btw w' p q (if k = 3 then 1 else 0) (if k = 3 then 1 else 4) ∧ Below w.heap.size w w' := by
  by_cases h : k = 3
  · subst h
    go_enter Try.func18, Try.ntmps18
    go_wp2_with (go_at_call 17; refine (between_any 1 1 _).mono ?_; rintro e w' ⟨p, q, rfl, hq, hb⟩)
    go_ret
    exact ⟨p, q, rfl, hq, hb⟩
  · rw [if_neg h, if_neg h]
    have e2 : (k == 3) = false := by simp [h]
    clear h
    go_enter Try.func18, Try.ntmps18
    go_wp2_with (go_at_call 17; refine (between_any 0 4 _).mono ?_; rintro e w' ⟨p, q, rfl, hq, hb⟩)
    go_ret
    exact ⟨p, q, rfl, hq, hb⟩

set_option maxHeartbeats 400000 in
theorem both_any (a b x y : Int) (p q : Nat) (w : World) (h : Btw w p q a b) : Calls Try.prog 19 #[.agg #[.int .i64 x, .int .i64 y], .func (.func 21) #[] #[.pointer (some ⟨p, 0, none⟩), .pointer (some ⟨q, 0, none⟩)]] w fun e w' => e = .returned (.bool (inB a b x && inB a b y)) ∧ Below w.heap.size w w' := by
  have hc1 := fun o : Obj => clo_any a b x p q (w.alloc o) (h.grow (below1 w o))
  have hc2 := fun o : Obj => clo_any a b y p q (w.alloc o) (h.grow (below1 w o))
  have HC1 := hidOf hc1
  have HC2 := hidOf hc2
  clear hc1 hc2 h
  generalize inB a b x = d1 at *
  generalize inB a b y = d2 at *
  cases d1
  · go_enter Try.func19, Try.ntmps19
    go_wp2_with (go_at_call 21; refine (HC1.out _).mono ?_; rintro e w' ⟨rfl, rfl⟩)
    go_ret
    exact ⟨rfl, below1 w _⟩
  · go_enter Try.func19, Try.ntmps19
    go_wp2_with (first
      | (go_at_call 21; refine (HC1.out _).mono ?_; rintro e w' ⟨rfl, rfl⟩; clear HC1)
      | (go_at_call 21; refine (HC2.out _).mono ?_; rintro e w' ⟨rfl, rfl⟩))
    go_ret
    exact ⟨by simp, below1 w _⟩
end Go.Proofs.Ytnkdchajgpkmpaa
