/- What comes in: numbers, lists of numbers, servers, two lists. -/
import Derived.Test.YteaohmlbioooaaaCbas
import Derived.Test.YteaohmlbioooaaaRows
import Derived.ChangeSlices
import Derived.OpenShut
namespace Go.Proofs.Yteaohmlbioooaaa
open Go.RowKit Go.ChangeShapes Go.WideShapes Go.ChangeAt

theorem bulk_mem {H : Type} {d : DataW H} {l : List (DataW H)} (h : d ∈ l) : Rows.uptoBulk d ≤ Rows.uptoBulkAll l := by
  induction l with
  | nil => cases h
  | cons x r ih =>
    simp only [Rows.uptoBulkAll]
    rcases List.mem_cons.1 h with e | e
    · subst e; omega
    · have := ih e; omega
set_option maxRecDepth 100000 in
theorem upto_le {H : Type} {l : List (DataW H)} (hk : Rows.uptoSmall H l = true) : Rows.uptoBulkAll l ≤ 1048576 := by
  unfold Rows.uptoSmall at hk
  exact of_decide_eq_true hk
theorem bulk_len {H : Type} (k : IntKind) (zs : List Int) : zs.length ≤ Rows.uptoBulkAll (Go.ChangeShapes.lits (H := H) k zs) := by
  induction zs with
  | nil => simp
  | cons z r ih =>
    simp only [Go.ChangeShapes.lits, List.map_cons, Rows.uptoBulkAll, Rows.uptoBulk, List.length_cons] at ih ⊢
    omega
theorem len2 {α : Type} {l : List α} (h : l.length = 2) : ∃ a b, l = [a, b] := by
  match l, h with
  | [a, b], _ => exact ⟨a, b, rfl⟩
theorem weights_mem_all {H : Type} {P : Program} {e : TypeId} : ∀ {l : List (DataW H)} {d : DataW H}, d ∈ l → ∀ n ∈ d.weights P e, n ∈ DataW.weightsAll P e l := by
  intro l
  induction l with
  | nil => intro d h; cases h
  | cons x l ih =>
    intro d h n hn
    rw [DataW.weightsAll, List.mem_append]
    rcases List.mem_cons.1 h with rfl | h
    · exact .inl hn
    · exact .inr (ih h n hn)
def Wf (l : List Int) : Prop := ∀ n ∈ l, -9223372036854775808 ≤ n ∧ n ≤ 9223372036854775807
/- that what comes in is no greater than the row lets it be: B numbers in each list -/
def Fits {H : Type} (B : Nat) (t : TypeId) (d : DataW H) : Prop := (B = 17592186043904 ∧ ∀ n ∈ d.weights Try.prog t, n ≤ reachBytes) ∨ Rows.uptoBulk d ≤ B
section
variable {H : Type} {enc : TypeId × Value → H} {w : World}
theorem tr_ints {B fuel : Nat} {cs : List Value} {x : DataW H × List MemPlace} (hB : B ≤ 17592186044416) (h : DataW.trod enc Try.prog w 0 (fun _ => true) true fuel 22 cs = some x) (hf : Fits B 22 x.1) : ∃ (a : Option Addr) (cap : Nat) (l : List Int), cs = [.slice a l.length cap] ∧ Ints w a l ∧ l.length ≤ B ∧ l.length ≤ cap ∧ Wf l := by
  rcases open_ints (k := .i64) Try.underlying22 Try.underlying3 (by kernel_rfl) h with ⟨rfl, _⟩ | ⟨a', len, cap, zs, rfl, _, hlc, _, hz, rfl, hc, hwz⟩
  · exact ⟨none, 0, [], rfl, Ints.nil _ _, by simp, by simp, fun n hn => by cases hn⟩
  · have hzl : len ≤ zs.length := by rw [hz]; simp; exact hlc
    have htl : (zs.take len).length = len := by simp; omega
    have hlB : len ≤ B := by
      rcases hf with ⟨rfl, hw⟩ | hu
      · simp only [DataW.weights, Try.underlying22, show Try.prog.bytesOf 3 = 8 from by kernel_rfl] at hw
        have hr := hw _ List.mem_cons_self
        simp only [lits, List.length_map, List.length_take, List.length_drop, reachBytes] at hr
        omega
      · have := bulk_len (H := H) .i64 (zs.take len)
        simp only [Rows.uptoBulk] at hu
        omega
    refine ⟨some a', cap, zs.take len, by rw [htl], ⟨by rw [htl]; omega, fun hne => ?_⟩, by rw [htl]; exact hlB, by rw [htl]; exact hlc, fun n hn => bounds_i64 (hwz n (List.mem_of_mem_take hn))⟩
    have h0 : 0 < len := by rw [← htl]; exact List.length_pos_iff.2 hne
    obtain ⟨b, off, spot⟩ := a'
    have hc0 := hc 0 (by omega)
    have hspot : spot = none := by simpa [Addr.add] using World.cell?_spot hc0
    subst hspot
    refine ⟨b, off, rfl, World.block_lt_of_cell? w _ hc0, fun j hj => ?_⟩
    rw [htl] at hj
    have := hc j (by omega)
    rw [Addr.add_lit] at this
    rw [this]
    simp [nth, List.getD, hj]
theorem Fits.part {B : Nat} {t e : TypeId} {ds : List (DataW H)} {d : DataW H} (h : Fits B t (.agg ds)) (hd : d ∈ ds) (hw : ∀ n ∈ d.weights Try.prog e, n ∈ (DataW.agg ds).weights Try.prog t) : Fits B e d := by
  rcases h with ⟨h1, h2⟩ | h2
  · exact .inl ⟨h1, fun n hn => h2 n (hw n hn)⟩
  · refine .inr (Nat.le_trans (bulk_mem hd) (Nat.le_trans ?_ h2))
    simp [Rows.uptoBulk]
theorem tr_conf {B fuel : Nat} {cs : List Value} {x : DataW H × List MemPlace} (hB : B ≤ 17592186044416) (h : DataW.trod enc Try.prog w 0 (fun _ => true) true fuel 24 cs = some x) (hf : Fits B 24 x.1) : ∃ (av al : Option Addr) (cv cl : Nat) (V L : List Int), cs = [.slice av V.length cv, .slice al L.length cl] ∧ Ints w av V ∧ Ints w al L ∧ V.length ≤ B ∧ L.length ≤ B ∧ V.length ≤ cv ∧ L.length ≤ cl ∧ Wf V ∧ Wf L := by
  obtain ⟨xs, n, rfl, rfl, hl, hlen, hF⟩ := DataW.trod_struct Try.underlying24 h
  rw [show Try.prog.cellsOf 24 = 2 from by kernel_rfl] at hl
  have hlen : xs.length = 2 := hlen
  obtain ⟨c0, c1, rfl⟩ := len2 hl
  obtain ⟨x0, x1, rfl⟩ := len2 hlen
  have g0 : DataW.trod enc Try.prog w 0 (fun _ => true) true n 22 (([c0, c1].drop 0).take (Try.prog.cellsOf 22)) = some x0 := hF 0 _ rfl
  have g1 : DataW.trod enc Try.prog w 0 (fun _ => true) true n 22 (([c0, c1].drop 1).take (Try.prog.cellsOf 22)) = some x1 := hF 1 _ rfl
  rw [show Try.prog.cellsOf 22 = 1 from by kernel_rfl] at g0 g1
  obtain ⟨av, cv, V, e0, hV, bV, kV, wV⟩ := tr_ints hB g0 (hf.part (by simp) (fun m hm => by
    simp only [DataW.weights, Try.underlying24]
    exact DataW.weights_mem_each (j := 0) rfl rfl m hm))
  obtain ⟨al, cl, L, e1, hL, bL, kL, wL⟩ := tr_ints hB g1 (hf.part (by simp) (fun m hm => by
    simp only [DataW.weights, Try.underlying24]
    exact DataW.weights_mem_each (j := 1) rfl rfl m hm))
  simp at e0 e1
  exact ⟨av, al, cv, cl, V, L, by rw [e0, e1], hV, hL, bV, bL, kV, kL, wV, wL⟩
theorem agg_of {v : Value} {cs : Array Value} {l : List Value} (hv : v = .agg cs) (h : cs.toList = l) : v = .agg l.toArray := by
  subst h; simpa using hv
theorem open_conf {B base : Nat} {v : Value} {d : DataW H} {p : List MemPlace} (hB : B ≤ 17592186044416) (hv : Value.okWide Try.prog w .any base 24 v) (h : DataW.Trod enc Try.prog w 0 (fun _ => true) true 24 v d p) (hf : Fits B 24 d) : ∃ (av al : Option Addr) (cv cl : Nat) (V L : List Int), v = .agg #[.slice av V.length cv, .slice al L.length cl] ∧ Ints w av V ∧ Ints w al L ∧ V.length ≤ B ∧ L.length ≤ B ∧ V.length ≤ cv ∧ L.length ≤ cl ∧ Wf V ∧ Wf L := by
  obtain ⟨cs, rfl, _⟩ := okWide_struct Try.underlying24 hv
  obtain ⟨m, hm⟩ := h
  obtain ⟨av, al, cv, cl, V, L, e, hr⟩ := tr_conf hB hm hf
  exact ⟨av, al, cv, cl, V, L, agg_of rfl e, hr⟩
theorem open_list {B base : Nat} {v : Value} {d : DataW H} {p : List MemPlace} (hB : B ≤ 17592186044416) (hv : Value.okWide Try.prog w .any base 22 v) (h : DataW.Trod enc Try.prog w 0 (fun _ => true) true 22 v d p) (hf : Fits B 22 d) : ∃ (a : Option Addr) (cap : Nat) (l : List Int), v = .slice a l.length cap ∧ Ints w a l ∧ l.length ≤ B ∧ l.length ≤ cap ∧ Wf l := by
  obtain ⟨a1, len1, cap1, rfl⟩ := okWide_slice Try.underlying22 hv
  obtain ⟨m, hm⟩ := h
  obtain ⟨a, cap, l, e, hr⟩ := tr_ints hB hm hf
  refine ⟨a, cap, l, ?_, hr⟩
  simpa [Value.cells] using e
end
end Go.Proofs.Yteaohmlbioooaaa
