/- The states that lives goes through, on plain data. -/
import Derived.Test.YtkienmncifonnaaDoorAn
import Derived.Test.YtkienmncifonnaaDoorEx
namespace Go.Proofs.YtkienmncifonnaaDoor
open Go.RowKit Go.Maps
variable {D : Nat} {w w' : World} {p : Nat} {s : Sg} {n c pd : Nat} {mv : Value} {G : Nat → Prop}
def dzC (vl : Int) (v : Value) : Array Value := #[.int .i64 0, .int .i64 0, .bool false, .int .i64 0, .int .i64 vl, v, .int .i64 0, .int .i64 0, .int .i64 0, .int .i64 0, .int .i64 0, .int .i64 0, .int .i64 0, .bool false, .int .i64 0, .int .i64 0, .int .i64 0, .int .i64 0, .slice none 0 0, .slice none 0 0, .slice none 0 0, .slice none 0 0, .int .i64 0, .int .i64 0, .int .i64 0, .int .i64 0, .int .i64 0, .int .i64 0, .int .i64 0, .slice none 0 0, .int .i64 0, .bool false, .int .i64 0, .int .i64 0, .int .i64 0, .bool false, .bool false, .int .i64 0, .int .i64 0, .int .i64 0, .slice none 0 0, .int .i64 0, .int .i64 0, .int .i64 0, .slice none 0 0, .slice none 0 0, .bool false, .slice none 0 0, .slice none 0 0, .int .i64 0, .int .i64 0, .slice none 0 0]
set_option maxRecDepth 100000 in
theorem built53a (vl : Int) : Tryd.prog.built 53 [(4, .int .i64 vl)] = some (dzC vl nilS) := by kernel_rfl
set_option maxRecDepth 100000 in
theorem built53b (vl : Int) (a : Option Addr) (l k : Nat) : Tryd.prog.built 53 [(4, .int .i64 vl), (5, .slice a l k)] = some (dzC vl (.slice a l k)) := by kernel_rfl
theorem dzR (vl : Int) (a : Option Addr) (l k : Nat) : DyR (dzC vl (.slice a l k)) 0 0 vl a l k := ⟨rfl, rfl, rfl, rfl, rfl⟩
theorem Tb.mono {D D' : Nat} (h : Tb D w) (hD : D ≤ D') : Tb D' w := by
  obtain ⟨h1, g, h2, h3⟩ := h
  exact ⟨h1, g, h2, Nat.lt_of_lt_of_le h3 hD⟩
def sgb (s : Sg) (B : Int) : Bool := decide (0 ≤ s.a.id ∧ s.a.id ≤ 4) && decide (1 ≤ s.a.sv ∧ s.a.sv ≤ 5) && decide (0 ≤ s.a.sn ∧ s.a.sn ≤ B) && decide (0 ≤ s.a.ck ∧ s.a.ck ≤ B) && decide (0 ≤ s.a.bs ∧ s.a.bs ≤ B) && decide ((s.f : Int) ≤ B)
theorem sgB_of {B : Int} (h : sgb s B = true) (hT : TkOk s.T) : SgB s B := by
  simp only [sgb, Bool.and_eq_true, decide_eq_true_eq] at h
  exact ⟨h.1.1.1.1.1, h.1.1.1.1.2, h.1.1.1.2, h.1.1.2, h.1.2, h.2, hT⟩
def tkb (s : Sg) (m : Ms) (B : Int) : Bool := decide (0 ≤ s.a.tk) && decide (0 ≤ tkV s.a m.cx ∧ tkV s.a m.cx ≤ B)
theorem tkB_of {B : Int} {m : Ms} {N : Nat} (h : SgB s B) (hB : B ≤ 1099511627776) (h2 : tkb s m B = true) (hc : c + 1 ≤ 2199023255552) (hl : m.al.length ≤ 1099511627776) (hw : ∀ x ∈ m.al, wf64 x.id) (hN : n ≤ N ∧ m.al.length ≤ N) : TkB s m n c N := by
  simp only [tkb, Bool.and_eq_true, decide_eq_true_eq] at h2
  obtain ⟨a1, a2, a3, a4, a5, a6, a7⟩ := h
  exact ⟨a1, by omega, by omega, h2.1, by omega, by omega, hc, hl, hw, hN⟩
theorem runT_ok {T : TM} {id ep : Int} (hT : TkOk T) : ∀ (L : List Al), (∀ x ∈ L, wf64 x.id) → TkOk (runT T id ep L) := by
  have key : ∀ (x : Al), (tkF T x).al.id = x.id := by
    intro x
    have h1 : (tk1 T x).al.id = x.id := by
      unfold tk1
      cases h : T x.id with
      | none => rfl
      | some a => exact (hT.ok _ _ h).1
    unfold tkF
    split <;> exact h1
  have gen : ∀ (L : List Al) (M : TM), TkOk M → (∀ x ∈ L, wf64 x.id) → TkOk (L.foldl (rnS T id ep) M) := by
    intro L
    induction L with
    | nil => intro M hM _; exact hM
    | cons x L ih =>
      intro M hM hL
      refine ih _ ?_ (fun y hy => hL y (by simp [hy]))
      unfold rnS
      split
      · refine ⟨fun k a ha => ?_⟩
        unfold tup at ha
        split at ha
        · cases ha; rename_i e; subst e; exact ⟨key x, hL x (by simp)⟩
        · exact hM.ok k a ha
      · exact hM
  exact fun L hL => gen L tk0 tk0_ok hL
def al7 : Al := ⟨7, 0, 0, 0, 0, 2, 5, 0, 0, false, 0⟩
def q0 : Sg := s1 3 0
def q1 : Sg := tnS q0
def q2 : Sg := tnS q1
def q3 : Sg := tnS q2
def m3 : Ms := ⟨10, 1, 102, 1, 0, 5, 1, 0, 0, 5, none, [], 0⟩
def q4 : Sg := tkeS q3 m3
def q5 : Sg := tnS q4
def q6 : Sg := tnS q5
def q7 : Sg := tnS q6
def m7 (b : Nat) : Ms := ⟨10, 2, 102, 1, 0, 6, 0, 5, 0, 5, some ⟨b, 0, none⟩, [al7], 1⟩
def q8 : Sg := { q7 with a := { q7.a with tk := 1, le := 14 }, T := tup tk0 7 ⟨al7, 2⟩ }
def q9 : Sg := { q8 with T := tup q8.T 7 ⟨al7, 3⟩ }
set_option maxRecDepth 100000
theorem qe : tcE q0 = 0 ∧ tcE q1 = 0 ∧ tcE q2 = 0 ∧ tcE q4 = 0 ∧ tcE q5 = 0 ∧ tcE q6 = 0 := ⟨by kernel_rfl, by kernel_rfl, by kernel_rfl, by kernel_rfl, by kernel_rfl, by kernel_rfl⟩
theorem qb : tcB q0 = false ∧ tcB q1 = false ∧ tcB q2 = true ∧ tcB q4 = false ∧ tcB q5 = false ∧ tcB q6 = true := ⟨by kernel_rfl, by kernel_rfl, by kernel_rfl, by kernel_rfl, by kernel_rfl, by kernel_rfl⟩
theorem qT : q0.T = tk0 ∧ q1.T = tk0 ∧ q2.T = tk0 ∧ q3.T = tk0 ∧ q4.T = tk0 ∧ q5.T = tk0 ∧ q6.T = tk0 ∧ q7.T = tk0 := ⟨by kernel_rfl, by kernel_rfl, by kernel_rfl, by kernel_rfl, by kernel_rfl, by kernel_rfl, by kernel_rfl, by kernel_rfl⟩
theorem qm2 {X : Array Value} (h : MgX (tcS q2) X) : X = mgC 9 102 1 1 5 2 0 0 1 0 0 (.slice none 0 0) := by
  unfold MgX at h
  rw [if_pos (show (tcS q2).a.ep = 0 by kernel_rfl)] at h
  rw [h]; kernel_rfl
theorem qm6 {X : Array Value} (h : MgX (tcS q6) X) : ∃ a l k, X = mgC 9 102 2 1 6 2 0 0 0 5 1 (.slice a l k) := by
  unfold MgX at h
  rw [if_neg (show ¬ (tcS q6).a.ep = 0 by have : (tcS q6).a.ep = 5 := by kernel_rfl
                                          omega)] at h
  obtain ⟨a, l, k, h⟩ := h
  exact ⟨a, l, k, by rw [h]; kernel_rfl⟩
theorem q4ep : q7.a.ep = 5 := by kernel_rfl
theorem q8s (b : Nat) : tkeS q7 (m7 b) = q8 := by kernel_rfl
theorem sB0 (h : s.T = tk0) : TkOk s.T := by rw [h]; exact tk0_ok
theorem q8ok : TkOk q8.T := ⟨fun k a h => by
  have e : q8.T = tup tk0 7 ⟨al7, 2⟩ := rfl
  rw [e] at h
  unfold tup at h
  split at h
  · cases h; rename_i e; subst e; exact ⟨rfl, by unfold wf64; decide⟩
  · cases h⟩
theorem q9ok : TkOk q9.T := ⟨fun k a h => by
  have e : q9.T = tup q8.T 7 ⟨al7, 3⟩ := rfl
  rw [e] at h
  unfold tup at h
  split at h
  · cases h; rename_i e; subst e; exact ⟨rfl, by unfold wf64; decide⟩
  · exact q8ok.ok k a h⟩
theorem qB : SgB q0 100 ∧ SgB q1 100 ∧ SgB q2 100 ∧ SgB q3 100 ∧ SgB q4 100 ∧ SgB q5 100 ∧ SgB q6 100 ∧ SgB q7 100 :=
  ⟨sgB_of (by kernel_rfl) (sB0 qT.1), sgB_of (by kernel_rfl) (sB0 qT.2.1), sgB_of (by kernel_rfl) (sB0 qT.2.2.1), sgB_of (by kernel_rfl) (sB0 qT.2.2.2.1), sgB_of (by kernel_rfl) (sB0 qT.2.2.2.2.1), sgB_of (by kernel_rfl) (sB0 qT.2.2.2.2.2.1), sgB_of (by kernel_rfl) (sB0 qT.2.2.2.2.2.2.1), sgB_of (by kernel_rfl) (sB0 qT.2.2.2.2.2.2.2)⟩
theorem one_mem : ∀ (L : List Int) (k : Int), L.Pairwise (fun x y => x < y) → (∀ j, j ∈ L ↔ j = k) → L = [k]
  | [], k, _, h => by have := (h k).2 rfl; cases this
  | [a], k, _, h => by rw [(h a).1 (by simp)]
  | a :: b :: L, k, ho, h => by
    have h1 := (h a).1 (by simp)
    have h2 := (h b).1 (by simp)
    rw [List.pairwise_cons] at ho
    have := ho.1 b (by simp)
    omega
theorem q8k {L : List Int} (h : Kn q8.T L) : runL q8.T L = [al7] := by
  have : L = [7] := one_mem L 7 h.ord (fun j => by
    rw [h.mem]
    have e : q8.T j = if j = 7 then some ⟨al7, 2⟩ else none := rfl
    rw [e]
    by_cases hj : j = 7 <;> simp [hj])
  rw [this]
  show runL q8.T [7] = [al7]
  kernel_rfl
theorem q9k {L : List Int} (h : Kn q9.T L) : runL q9.T L = [] := by
  have : L = [7] := one_mem L 7 h.ord (fun j => by
    rw [h.mem]
    have e : q9.T j = if j = 7 then some ⟨al7, 3⟩ else if j = 7 then some ⟨al7, 2⟩ else none := rfl
    rw [e]
    by_cases hj : j = 7 <;> simp [hj])
  rw [this]
  show runL q9.T [7] = []
  kernel_rfl
theorem q8x : exB q8.T 7 = true ∧ exS q8 7 false = q9 ∧ exB q9.T 7 = false ∧ exS q9 7 false = q9 := ⟨by kernel_rfl, by kernel_rfl, by kernel_rfl, by kernel_rfl⟩
end Go.Proofs.YtkienmncifonnaaDoor
