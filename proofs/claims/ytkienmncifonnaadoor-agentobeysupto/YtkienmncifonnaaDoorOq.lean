/- The states that AgentObeys goes through. -/
import Derived.Test.YtkienmncifonnaaDoorPl
namespace Go.Proofs.YtkienmncifonnaaDoor
open Go.RowKit Go.Maps
variable {D : Nat} {w w' : World} {p : Nat} {s : Sg} {n c pd : Nat} {mv : Value} {G : Nat → Prop}
set_option maxRecDepth 100000
def tkn : Nat → Sg → Sg
  | 0, s => s
  | k + 1, s => tnS (tkn k s)
def z0 : Sg := s1 1 0
def oA : Nat → Ag
  | 0 => ⟨2, 0, 0, 1, 1, 3, 1, 0, 5, 11, 0, 0, 0, 0, 0, 0, 0, 0, 0, 0⟩
  | 1 => ⟨2, 0, 0, 1, 1, 6, 2, 0, 5, 14, 1, 1, 0, 6, 0, 0, 0, 0, 0, 0⟩
  | _ => ⟨2, 0, 0, 1, 1, 9, 3, 0, 5, 17, 2, 2, 0, 6, 9, 0, 0, 0, 0, 0⟩
def oS (n : Nat) (T : TM) : Sg := ⟨oA n, T, 1, 1, [], -1⟩
def oK (n k : Nat) (T : TM) : Sg := tkn k (oS n T)
def zm : Ms := ⟨10, 1, 102, 1, 0, 5, 1, 0, 0, 5, none, [], 0⟩
def mO (n : Nat) (a : Option Addr) (L : List Al) (c : Nat) : Ms := ⟨10, 1, 102, (n : Int) + 1, 0, 6, 0, 5, 0, 5, a, L, c⟩
def X0 : Array Value := mgC 9 102 1 1 5 2 0 0 1 0 0 (.slice none 0 0)
theorem c2 {n : Nat} (h : n < 2) : n = 0 ∨ n = 1 := by omega
theorem c3 {n : Nat} (h : n < 3) : n = 0 ∨ n = 1 ∨ n = 2 := by omega
theorem c4 {n : Nat} (h : n ≤ 3) : n = 0 ∨ n = 1 ∨ n = 2 ∨ n = 3 := by omega
theorem c9 {n : Nat} (h : n < 9) : n = 0 ∨ n = 1 ∨ n = 2 ∨ n = 3 ∨ n = 4 ∨ n = 5 ∨ n = 6 ∨ n = 7 ∨ n = 8 := by omega
theorem zK_e {k : Nat} (hk : k < 3) : tcE (tkn k z0) = 0 := by rcases c3 hk with rfl | rfl | rfl <;> kernel_rfl
theorem zK_b {k : Nat} (hk : k < 3) : tcB (tkn k z0) = decide (k = 2) := by rcases c3 hk with rfl | rfl | rfl <;> kernel_rfl
theorem zK_B {k : Nat} (hk : k ≤ 3) : SgB (tkn k z0) 100 := by
  have : k = 0 ∨ k = 1 ∨ k = 2 ∨ k = 3 := by omega
  rcases this with rfl | rfl | rfl | rfl <;> exact sgB_of (by kernel_rfl) (sB0 (by kernel_rfl))
theorem zK_m {X : Array Value} (h : MgX (tcS (tkn 2 z0)) X) : X = X0 := by
  unfold MgX at h
  rw [if_pos (show (tcS (tkn 2 z0)).a.ep = 0 by kernel_rfl)] at h
  rw [h]; kernel_rfl
theorem zK_t : tkeS (tkn 3 z0) zm = oS 0 tk0 := by kernel_rfl
theorem oK_e {n k : Nat} (T : TM) (hn : n < 2) (hk : k < 3) : tcE (oK n k T) = 0 := by rcases c2 hn with rfl | rfl <;> rcases c3 hk with rfl | rfl | rfl <;> kernel_rfl
theorem oK_b {n k : Nat} (T : TM) (hn : n < 2) (hk : k < 3) : tcB (oK n k T) = decide (k = 2) := by rcases c2 hn with rfl | rfl <;> rcases c3 hk with rfl | rfl | rfl <;> kernel_rfl
theorem oK_T {n k : Nat} (T : TM) (hn : n < 2) (hk : k ≤ 3) : (oK n k T).T = T := by
  rcases c2 hn with rfl | rfl <;> rcases c4 hk with rfl | rfl | rfl | rfl <;> kernel_rfl
theorem oK_B {n k : Nat} {T : TM} (hT : TkOk T) (hn : n < 2) (hk : k ≤ 3) : SgB (oK n k T) 100 := by
  have hs : sgb (oK n k T) 100 = true := by
    rcases c2 hn with rfl | rfl <;> rcases c4 hk with rfl | rfl | rfl | rfl <;> kernel_rfl
  exact sgB_of hs (by rw [oK_T T hn hk]; exact hT)
theorem oK_m {n : Nat} {T : TM} {X : Array Value} (hn : n < 2) (h : MgX (tcS (oK n 2 T)) X) : ∃ a l k, X = mgC 9 102 1 ((n : Int) + 1) 6 2 0 0 0 5 ((n : Int) + 1) (.slice a l k) := by
  unfold MgX at h
  rcases c2 hn with rfl | rfl
  · rw [if_neg (show ¬ (tcS (oK 0 2 T)).a.ep = 0 by have : (tcS (oK 0 2 T)).a.ep = 5 := by kernel_rfl
                                                    omega)] at h
    obtain ⟨a, l, k, h⟩ := h
    exact ⟨a, l, k, by rw [h]; kernel_rfl⟩
  · rw [if_neg (show ¬ (tcS (oK 1 2 T)).a.ep = 0 by have : (tcS (oK 1 2 T)).a.ep = 5 := by kernel_rfl
                                                    omega)] at h
    obtain ⟨a, l, k, h⟩ := h
    exact ⟨a, l, k, by rw [h]; kernel_rfl⟩
theorem oK_t {n : Nat} (T : TM) (hn : n < 2) (a : Option Addr) (L : List Al) (c : Nat) : tkeS (oK n 3 T) (mO n a L c) = oS (n + 1) (runT T 2 5 L) := by rcases c2 hn with rfl | rfl <;> kernel_rfl
theorem oK_k {n : Nat} (T : TM) (hn : n < 2) (a : Option Addr) (L : List Al) (c : Nat) : tkb (oK n 3 T) (mO n a L c) 100 = true := by rcases c2 hn with rfl | rfl <;> kernel_rfl
theorem fK_e {k : Nat} (T : TM) (hk : k < 9) : tcE (oK 2 k T) = 0 := by rcases c9 hk with rfl | rfl | rfl | rfl | rfl | rfl | rfl | rfl | rfl <;> kernel_rfl
theorem fK_B {k : Nat} {T : TM} (hT : TkOk T) (hk : k < 9) : SgB (oK 2 k T) 100 := by
  have h1 : (oK 2 k T).T = T := by rcases c9 hk with rfl | rfl | rfl | rfl | rfl | rfl | rfl | rfl | rfl <;> kernel_rfl
  have hs : sgb (oK 2 k T) 100 = true := by rcases c9 hk with rfl | rfl | rfl | rfl | rfl | rfl | rfl | rfl | rfl <;> kernel_rfl
  exact sgB_of hs (by rw [h1]; exact hT)
theorem fK_T (T : TM) : (oK 2 9 T).T = tk0 ∧ (oK 2 9 T).a.ep = 0 := ⟨by kernel_rfl, by kernel_rfl⟩
theorem kn0 {L : List Int} (h : Kn tk0 L) : L = [] := by
  cases L with
  | nil => rfl
  | cons k L => have := (h.mem k).1 (by simp); cases this
end Go.Proofs.YtkienmncifonnaaDoor
