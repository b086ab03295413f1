/- Deeds one behind the other, of both logs. -/
import Derived.Test.YtdkmlgkljhhokaaAlk
import Derived.Test.YtdkmlgkljhhokaaLgl
import Derived.Test.YtdkmlgkljhhokaaOpr
namespace Go.Proofs.Ytdkmlgkljhhokaa
open Go.RowKit

theorem tw_new (w : World) {i t : Int} (h : newB i t = true) : TwL w ((w.alloc (.cells #[.int .i64 i, .int .i64 t, .slice none 0 0] 72)).alloc (.cells #[.int .i64 i, .int .i64 t, .slice none 0 0] 69)) w.heap.size (w.alloc (.cells #[.int .i64 i, .int .i64 t, .slice none 0 0] 72)).heap.size ⟨i, t, []⟩ :=
  ⟨.slice none 0 0, .slice none 0 0, (lg_new (Nat.le_refl _) 72 h).below (below1 _ _), lg_new (by simp) 69 h, fun k hk => (by cases hk), (below1 w _).trans ((below1 _ _).mono (by simp))⟩
theorem TwL.bel {w0 w : World} {p q : Nat} {M : Lg} (h : TwL w0 w p q M) : Below w0.heap.size w0 w := by
  obtain ⟨v, u, h⟩ := h
  exact h.bel
theorem TwL.below {w0 w w' : World} {p q : Nat} {M : Lg} (h : TwL w0 w p q M) (hb : Below w.heap.size w w') : TwL w0 w' p q M := by
  obtain ⟨v, u, h⟩ := h
  exact ⟨v, u, h.below hb⟩
theorem freshD_len (M : Lg) : ∀ D : List En, (freshD M D).length ≤ D.length
  | [] => Nat.le_refl _
  | x :: D => by
    unfold freshD
    split
    · have := freshD_len M D; simp; omega
    · simp
theorem stepL_len (kd ix tm op : Int) (D : List En) (M : Lg) : (stepL kd ix tm op D M).L.length ≤ M.L.length + D.length + 1 := by
  unfold stepL
  split
  · unfold putM; split
    · simp
    · omega
  split
  · unfold accM; split
    · have h1 := freshD_len M D
      cases hf : freshD M D with
      | nil => show M.L.length ≤ _; omega
      | cons x E =>
        rw [hf] at h1
        show (M.L.take _ ++ x :: E).length ≤ _
        rw [List.length_append, List.length_take]
        simp only [List.length_cons] at h1 ⊢
        omega
    · omega
  split
  · unfold compM; split
    · omega
    · show (M.L.drop _).length ≤ _; rw [List.length_drop]; omega
  · omega
def nxL (x : Dee) (M : Lg) : Lg := stepL x.kd x.ix x.tm x.op x.D M
theorem nxL_len {L : List Dee} {j : Nat} {M : Lg} (hj : j < L.length) (h : M.L.length ≤ pre L j) : (nxL (dt L j) M).L.length ≤ pre L (j + 1) := by
  have := stepL_len (dt L j).kd (dt L j).ix (dt L j).tm (dt L j).op (dt L j).D M
  rw [pre_succ L j hj]
  unfold nxL
  omega
theorem does_t {w0 w : World} {p q : Nat} {M : Lg} (h : TwL w0 w p q M) {L : List Dee} {j : Nat} (hj : j < L.length) (hd : DeR w0 (dt L j)) (hw : wt L ≤ 1048576) (hm : M.L.length ≤ pre L j) : Calls Try.prog 11 #[.pointer (some ⟨p, 0, none⟩), .pointer (some ⟨q, 0, none⟩), .agg #[.int .i64 (dt L j).kd, .int .i64 (dt L j).ix, .int .i64 (dt L j).tm, .int .i64 (dt L j).op, .slice (dt L j).xa (dt L j).D.length (dt L j).xc]] w fun e w' => e = .returned (.bool true) ∧ TwL w0 w' p q (nxL (dt L j) M) ∧ (nxL (dt L j) M).L.length ≤ pre L (j + 1) := by
  have h1 := pre_le L (j + 1)
  have h2 := pre_succ L j hj
  exact (does_any h _ _ _ _ _ _ _ hd.2 hd.1.1 (by omega)).mono fun e w' ⟨a, b⟩ => ⟨a, b, nxL_len hj hm⟩
end Go.Proofs.Ytdkmlgkljhhokaa
