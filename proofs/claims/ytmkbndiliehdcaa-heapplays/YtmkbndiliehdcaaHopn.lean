/- A list of numbers that comes in; what the laws push. -/
import Derived.Test.YtmkbndiliehdcaaHkno
import Derived.Test.YtmkbndiliehdcaaRows
import Derived.ChangeSlices
import Derived.OpenShut
namespace Go.Proofs.Ytmkbndiliehdcaa
open Go.RowKit Go.ChangeShapes Go.WideShapes Go.ChangeAt

def nth (l : List Int) (j : Nat) : Int := l.getD j 0
/- the numbers l lie behind the address a -/
def Ints (w : World) (a : Option Addr) (l : List Int) : Prop := l ≠ [] → ∃ b off, a = some ⟨b, off, none⟩ ∧ b < w.heap.size ∧ ∀ j, j < l.length → w.cell? ⟨b, off + j, none⟩ = some (.int .i64 (nth l j))

theorem bulk_mem {H : Type} {d : DataW H} {l : List (DataW H)} (h : d ∈ l) : Rows.uptoBulk d ≤ Rows.uptoBulkAll l := by
  induction l with
  | nil => cases h
  | cons x r ih =>
    simp only [Rows.uptoBulkAll]
    rcases List.mem_cons.1 h with e | e
    · subst e; omega
    · have := ih e; omega
set_option maxRecDepth 100000 in
theorem upto_le {H : Type} {l : List (DataW H)} (hk : Rows.uptoSmall H l = true) : Rows.uptoBulkAll l ≤ 1048576 := by
  unfold Rows.uptoSmall at hk
  exact of_decide_eq_true hk
theorem bulk_len {H : Type} (k : IntKind) (zs : List Int) : zs.length ≤ Rows.uptoBulkAll (Go.ChangeShapes.lits (H := H) k zs) := by
  induction zs with
  | nil => simp
  | cons z r ih =>
    simp only [Go.ChangeShapes.lits, List.map_cons, Rows.uptoBulkAll, Rows.uptoBulk, List.length_cons] at ih ⊢
    omega
theorem open_il {H : Type} {enc : TypeId × Value → H} {w : World} {a : Option Addr} {len cap : Nat} {d : DataW H} {p : List MemPlace} (h : DataW.Trod enc Try.prog w 0 (fun _ => true) true 41 (.slice a len cap) d p) :
    ∃ l : List Int, len = l.length ∧ Ints w a l ∧ l.length ≤ Rows.uptoBulk d ∧ l.length ≤ cap := by
  obtain ⟨fuel, hf⟩ := h
  rcases open_ints (k := .i64) Try.underlying41 Try.underlying3 (by kernel_rfl) hf with ⟨e, _⟩ | ⟨a', len', cap', zs, e, _, hlc, hcm, hz, hx, hc, _⟩
  · simp [Value.cells] at e
    obtain ⟨rfl, rfl, rfl⟩ := e
    exact ⟨[], rfl, fun h => absurd rfl h, by simp, by simp⟩
  · simp [Value.cells] at e
    obtain ⟨rfl, rfl, rfl⟩ := e
    have hzl : len ≤ zs.length := by rw [hz]; simp; exact hlc
    have htl : (zs.take len).length = len := by simp; omega
    refine ⟨zs.take len, htl.symm, fun hne => ?_, ?_, by rw [htl]; exact hlc⟩
    · have h0 : 0 < len := by rw [← htl]; exact List.length_pos_iff.2 hne
      obtain ⟨b, off, spot⟩ := a'
      have hc0 := hc 0 (by omega)
      have hspot : spot = none := by simpa [Addr.add] using World.cell?_spot hc0
      subst hspot
      refine ⟨b, off, rfl, World.block_lt_of_cell? w _ hc0, fun j hj => ?_⟩
      rw [htl] at hj
      have := hc j (by omega)
      rw [Addr.add_lit] at this
      rw [this]
      simp [nth, List.getD, hj]
    · have e1 : d = (Go.DataW.slice (Go.ChangeShapes.lits .i64 (zs.take len)) (Go.ChangeShapes.lits .i64 (zs.drop len))) := congrArg Prod.fst hx
      rw [e1]
      have := bulk_len (H := H) .i64 (zs.take len)
      simp only [Rows.uptoBulk]
      omega

/- what was pushed of l, k of them -/
def psh (l : List Int) (k : Nat) : List It := (List.range k).map fun j => ⟨nth l j, j, j⟩
theorem psh_succ (l : List Int) (k : Nat) : psh l (k + 1) = psh l k ++ [⟨nth l k, k, k⟩] := by simp [psh, List.range_succ]
theorem psh_length (l : List Int) (k : Nat) : (psh l k).length = k := by simp [psh]
theorem psh_mem {l : List Int} {k : Nat} {a : It} (h : a ∈ psh l k) : ∃ j, j < k ∧ a = ⟨nth l j, j, j⟩ := by
  simp only [psh, List.mem_map, List.mem_range] at h
  obtain ⟨j, h1, h2⟩ := h
  exact ⟨j, h1, h2.symm⟩
theorem mem_psh {l : List Int} {k j : Nat} (h : j < k) : (⟨nth l j, j, j⟩ : It) ∈ psh l k := by
  simp only [psh, List.mem_map, List.mem_range]
  exact ⟨j, h, rfl⟩
theorem Ints.at {w w' : World} {a : Option Addr} {l : List Int} (h : Ints w a l) (hb : Below w.heap.size w w') (k : Nat) (hk : k < l.length) : ∃ b off, a = some ⟨b, off, none⟩ ∧ b < w.heap.size ∧ ∀ j, j < l.length → w'.cell? ⟨b, off + j, none⟩ = some (.int .i64 (nth l j)) := by
  obtain ⟨b, off, h1, h2, h3⟩ := h (fun e => by subst e; simp at hk)
  exact ⟨b, off, h1, h2, fun j hj => (hb.cell (p := ⟨b, off + j, none⟩) h2).trans (h3 j hj)⟩

end Go.Proofs.Ytmkbndiliehdcaa
