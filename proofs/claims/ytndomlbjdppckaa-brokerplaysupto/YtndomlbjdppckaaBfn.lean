/- Who is looked for by a closure: IndexFunc, find, heldBy, Held. -/
import Derived.Test.YtndomlbjdppckaaBst
namespace Go.Proofs.Ytndomlbjdppckaa
open Go.RowKit
variable {D : Nat}

/- K is the first place that P holds of; the length: none -/
structure FI (P : Nat × Itm → Bool) (L : List (Nat × Itm)) (K : Nat) : Prop where
  le : K ≤ L.length
  miss : ∀ j x, j < K → L[j]? = some x → P x = false
  hit : ∀ x, L[K]? = some x → P x = true
theorem FI.ex (P : Nat × Itm → Bool) (L : List (Nat × Itm)) : ∃ K, FI P L K := by
  induction L with
  | nil => exact ⟨0, Nat.le_refl _, fun j x h => by omega, fun x h => by simp at h⟩
  | cons y L ih =>
    by_cases hy : P y = true
    · exact ⟨0, Nat.zero_le _, fun j x h => by omega, fun x h => by simp at h; rw [← h]; exact hy⟩
    · obtain ⟨K, h1, h2, h3⟩ := ih
      refine ⟨K + 1, by simpa using h1, fun j x hj hx => ?_, fun x hx => h3 x (by simpa using hx)⟩
      cases j with
      | zero => simp at hx; rw [← hx]; simpa using hy
      | succ j => exact h2 j x (by omega) (by simpa using hx)
theorem FI.uniq {P : Nat × Itm → Bool} {L : List (Nat × Itm)} {K K' : Nat} (h : FI P L K) (h' : FI P L K') : K = K' := by
  have key : ∀ {a b : Nat}, FI P L a → FI P L b → ¬ a < b := fun {a b} ha hb hl => by
    have hlt : a < L.length := Nat.lt_of_lt_of_le hl hb.le
    have e := List.getElem?_eq_getElem hlt
    have h1 := ha.hit _ e
    rw [hb.miss a _ hl e] at h1
    cases h1
  rcases Nat.lt_trichotomy K K' with hl | hl | hl
  · exact absurd hl (key h h')
  · exact hl
  · exact absurd hl (key h' h)
def hb (wk : Int) (x : Itm) : Bool := x.tk && x.wk == wk
def hbP (wk : Int) (x : Nat × Itm) : Bool := hb wk x.2

set_option maxHeartbeats 1000000 in
theorem clo39_any (q b : Nat) (wk : Int) (x : Itm) (w : World) (hx : ItR w b x) (h0 : w.cell? ⟨q, 0, none⟩ = some (.int .i64 wk)) :
    Calls Try.prog 39 #[.pointer (some ⟨b, 0, none⟩), .pointer (some ⟨q, 0, none⟩)] w fun e w' => e = .returned (.bool (hb wk x)) ∧ Below w.heap.size w w' := by
  obtain ⟨-, -, -, -, -, -, c6, c7, -⟩ := hx.cells
  have hbl := hx.lt
  have HR : Hid (hb wk x = (x.tk && (x.wk == wk))) := hidOf rfl
  rw [HR.out]
  clear HR hx
  generalize x.tk = tk at *
  generalize x.wk = xk at *
  cases tk
  · go_enter Try.func39, Try.ntmps39
    go_wp2
    go_region
    all_goals (go_wp2; go_ret; exact ⟨by simp, (Below.refl _ w).drew⟩)
  · generalize hd : (xk == wk) = d
    go_enter Try.func39, Try.ntmps39
    go_wp2
    go_region
    all_goals (go_wp2; go_ret; exact ⟨by simp, (Below.refl _ w).drew⟩)

set_option maxHeartbeats 4000000 in
set_option maxRecDepth 100000 in
theorem idx39_any (q : Nat) (v : Value) (L : List (Nat × Itm)) (P : Nat × Itm → Bool) (K : Nat) (w : World) (hr : w.ownsRow 0 55 1 v L.length (ptrs L)) (hF : FI P L K)
    (hP : ∀ (W : World) (x : Nat × Itm), Below w.heap.size w W → x ∈ L → Calls Try.prog 39 #[.pointer (some ⟨x.1, 0, none⟩), .pointer (some ⟨q, 0, none⟩)] W fun e W' => e = .returned (.bool (P x)) ∧ Below W.heap.size W W') :
    Calls Try.prog 36 #[v, .func (.func 39) #[] #[.pointer (some ⟨q, 0, none⟩)]] w fun e w' => e = .returned (.int .i64 (if K < L.length then (K : Int) else -1)) ∧ Below w.heap.size w w' := by
  have hlm : L.length ≤ maxLen := by
    rcases hr.2 with ⟨rfl, e⟩ | ⟨g, cap, cur, rfl, _, _, h1, h2, _⟩
    · rw [e]; exact Nat.zero_le _
    · exact Nat.le_trans h1 h2
  unfold maxLen at hlm
  obtain ⟨a, cap, rfl⟩ : ∃ a cap, v = .slice a L.length cap := by
    rcases hr.2 with ⟨rfl, e⟩ | ⟨g, cap, cur, rfl, _⟩
    · exact ⟨none, 0, by rw [e]⟩
    · exact ⟨_, cap, rfl⟩
  have HR := hidOf hr
  have HF := hidOf hF
  have HP := hidOf hP
  have hKl := hF.le
  clear hr hF hP
  go_enter Try.func36, Try.ntmps36
  go_wp2
  go_loopw [8] (fun i wr => ∃ (k : Nat), i = .int .i64 (k : Int) ∧ k ≤ K ∧ Hid (Below w.heap.size w wr)) (fun i _ => K + 1 - (intOf i).toNat)
  case atStart => exact ⟨0, rfl, Nat.zero_le _, hidOf (Below.refl _ _)⟩
  case round =>
    obtain ⟨k, rfl, hk, HB⟩ := hrel
    by_cases hlt : k < L.length
    · have hltz : (k : Int) < (L.length : Int) := by omega
      obtain ⟨x, hx⟩ : ∃ x, L[k]? = some x := ⟨L[k], List.getElem?_eq_getElem hlt⟩
      have hRr := own_keepT (D := 0) (T := []) HR.out (FrT.of_below HB.out) (by simp)
      obtain ⟨g, cap', hv, hgl, hcc⟩ := row_at hRr k hlt
      have a0 := hcc _ (ptrs_get hx)
      have HC := hidOf (HP.out wr x HB.out (List.mem_of_getElem? hx))
      have HX := hidOf hx
      obtain ⟨rfl, rfl⟩ : a = some ⟨g, 0, none⟩ ∧ cap = cap' := by cases hv; exact ⟨rfl, rfl⟩
      simp only [ptr] at a0
      clear hRr hv hcc hx
      by_cases hkN : k = K
      · subst hkN
        have hkk : P x = true := HF.out.hit x HX.out
        rw [hkk] at HC
        clear hkk
        go_wp2_with (go_at_call 39; refine HC.out.mono ?_; rintro e w2 ⟨rfl, hb2⟩)
        go_ret
        (try rw [if_pos hlt])
        exact ⟨rfl, HB.out.trans (hb2.mono HB.out.size)⟩
      · have hkk : P x = false := HF.out.miss k x (by omega) HX.out
        rw [hkk] at HC
        clear hkk
        go_wp2_with (go_at_call 39; refine HC.out.mono ?_; rintro e w2 ⟨rfl, hb2⟩)
        go_roundw
        case rel => exact ⟨k + 1, by go_num, by omega, hidOf (HB.out.trans (hb2.mono HB.out.size))⟩
        case measure => simp [intOf]; omega
    · have hltz : ¬ (k : Int) < (L.length : Int) := by omega
      go_wp2
      go_ret
      (try rw [if_neg (by omega)])
      exact ⟨rfl, HB.out⟩

set_option maxHeartbeats 2000000 in
theorem find39_any (pB pH q : Nat) (v : Value) (L : List (Nat × Itm)) (P : Nat × Itm → Bool) (K : Nat) (rv : Value) (w : World) (hL : Lst D w pB pH v L) (hF : FI P L K) (hrv : ((L[K]?).map fun x => ptr x.1).getD (.pointer none) = rv)
    (hP : ∀ (W : World) (x : Nat × Itm), Below w.heap.size w W → x ∈ L → Calls Try.prog 39 #[.pointer (some ⟨x.1, 0, none⟩), .pointer (some ⟨q, 0, none⟩)] W fun e W' => e = .returned (.bool (P x)) ∧ Below W.heap.size W W') :
    Calls Try.prog 38 #[.pointer (some ⟨pB, 0, none⟩), .func (.func 39) #[] #[.pointer (some ⟨q, 0, none⟩)]] w fun e w' => e = .returned rv ∧ Below w.heap.size w w' := by
  have HI := hidOf (idx39_any q v L P K w hL.row hF hP)
  obtain ⟨c0, c1, z0, z1⟩ := hL.cells
  obtain ⟨a, cap, rfl, hlm⟩ := hL.slice
  unfold maxLen at hlm
  have hpl := heap_lt hL.blk
  have HL := hidOf hL
  have hKl := hF.le
  clear hL hF hP
  by_cases hK : K < L.length
  · simp only [if_pos hK] at HI
    obtain ⟨x, hx⟩ : ∃ x, L[K]? = some x := ⟨L[K], List.getElem?_eq_getElem hK⟩
    have hrv' : rv = ptr x.1 := by rw [← hrv, hx]; rfl
    obtain ⟨g, cap', hv, hgl, hcc⟩ := row_at HL.out.row K hK
    have a0 := hcc _ (ptrs_get hx)
    obtain ⟨rfl, rfl⟩ : a = some ⟨g, 0, none⟩ ∧ cap = cap' := by cases hv; exact ⟨rfl, rfl⟩
    simp only [ptr] at a0 hrv'
    have hKz : ¬ (K : Int) < 0 := by omega
    have hKz2 : (K : Int) < (L.length : Int) := by omega
    have HRV := hidOf hrv'
    clear hrv hv hcc hx hrv' HL c1
    go_enter Try.func38, Try.ntmps38
    go_wp2_with (go_at_call 36; refine HI.out.mono ?_; rintro e w1 ⟨rfl, hb1⟩; have HB := hidOf hb1; have d0 := (hb1.cell (p := ⟨pB, 0, none⟩) hpl).trans c0; have d1 := (hb1.cell (p := ⟨g, K, none⟩) hgl).trans a0; clear hb1)
    go_ret
    exact ⟨by (rw [HRV.out]); first | done | rfl, HB.out⟩
  · simp only [if_neg hK] at HI
    have hrv' : rv = .pointer none := by rw [← hrv, List.getElem?_eq_none (by omega)]; rfl
    have HRV := hidOf hrv'
    clear hrv hrv' HL c1
    go_enter Try.func38, Try.ntmps38
    go_wp2_with (go_at_call 36; refine HI.out.mono ?_; rintro e w1 ⟨rfl, hb1⟩; have HB := hidOf hb1; clear hb1)
    go_ret
    exact ⟨by (rw [HRV.out]); first | done | rfl, HB.out⟩

set_option maxHeartbeats 2000000 in
theorem heldBy_any (pB pH : Nat) (v : Value) (L : List (Nat × Itm)) (wk : Int) (K : Nat) (rv : Value) (w : World) (hL : Lst D w pB pH v L) (hF : FI (hbP wk) L K) (hrv : ((L[K]?).map fun x => ptr x.1).getD (.pointer none) = rv) :
    Calls Try.prog 29 #[.pointer (some ⟨pB, 0, none⟩), .int .i64 wk] w fun e w' => e = .returned rv ∧ Below w.heap.size w w' := by
  have hmf : ∀ (fn : Fn) (first cap : Array Value) (w : World), (Instr.makeFunc fn first cap).run Try.prog w = .ok (.func fn first cap) w := fun _ _ _ _ => rfl
  have HB0 : Hid (Below w.heap.size w (w.alloc (.cells #[.int .i64 wk] 3))) := hidOf ((Below.refl _ w).alloc (Nat.le_refl _) _)
  have HL := hidOf hL
  have hb0 : (w.alloc (.cells #[.int .i64 wk] 3)).heap[w.heap.size]? = some (.cells #[.int .i64 wk] 3 (0, 0)) := heap_alloc_new w _
  have HC := hidOf (find39_any pB pH w.heap.size v L (hbP wk) K rv (w.alloc (.cells #[.int .i64 wk] 3)) (hL.grow HB0.out) hF hrv (fun W x hW hx => clo39_any w.heap.size x.1 wk x.2 W (((hL.grow HB0.out).grow hW).its x hx) (by
    have h1 := (hW.block w.heap.size (by simp)).trans hb0
    rw [cell_of_row W w.heap.size 0 _ 3 (0, 0) h1]; rfl)))
  clear hL hF hrv hb0
  go_enter Try.func29, Try.ntmps29
  go_wp2_with (go_at_call 38; refine HC.out.mono ?_; rintro e w1 ⟨rfl, hb1⟩; have HB := hidOf (HB0.out.trans (hb1.mono HB0.out.size)); clear hb1)
  go_ret
  exact ⟨rfl, HB.out⟩

def evV (x : Itm) : Value := .agg #[.int .i64 x.jb, .int .i64 x.pr, .int .i64 x.st, .int .i64 x.ix]
def zeV : Value := .agg #[.int .i64 0, .int .i64 0, .int .i64 0, .int .i64 0]
end Go.Proofs.Ytndomlbjdppckaa
