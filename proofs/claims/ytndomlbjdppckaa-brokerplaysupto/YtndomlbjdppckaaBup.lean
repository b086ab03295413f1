/- Update. -/
import Derived.Test.YtndomlbjdppckaaBby
namespace Go.Proofs.Ytndomlbjdppckaa
open Go.RowKit
variable {D : Nat}

structure Ev where
  jb : Int
  pr : Int
  st : Int
  ix : Int
deriving DecidableEq
instance : Inhabited Ev := ⟨⟨0, 0, 0, 0⟩⟩
/- evaluations that lie behind an address -/
def EvR (D : Nat) (w : World) (a : Option Addr) (es : List Ev) : Prop := es ≠ [] → ∃ b off, a = some ⟨b, off, none⟩ ∧ b < w.heap.size ∧ (b < D ∨ ∃ cs, w.heap[b]? = some (.cells cs 42 (0, 0))) ∧
  ∀ i e, es[i]? = some e → w.cell? ⟨b, off + i * 4, none⟩ = some (.int .i64 e.jb) ∧ w.cell? ⟨b, off + i * 4 + 1, none⟩ = some (.int .i64 e.pr) ∧ w.cell? ⟨b, off + i * 4 + 2, none⟩ = some (.int .i64 e.st) ∧ w.cell? ⟨b, off + i * 4 + 3, none⟩ = some (.int .i64 e.ix)
theorem EvR.frt {T : List Nat} {w w' : World} {a : Option Addr} {es : List Ev} (h : EvR D w a es) (hf : FrT D T w w') (hT : 42 ∉ T) : EvR D w' a es := by
  intro hne
  obtain ⟨b, off, rfl, hb, hk, hc⟩ := h hne
  have e : w'.heap[b]? = w.heap[b]? := by
    rcases hk with hk | ⟨cs, hk⟩
    · have h1 := Array.getElem?_eq_getElem (xs := w.heap) (i := b) hb
      rw [h1]; exact hf.block b _ h1 (.inr hk)
    · rw [hk]; exact hf.cells hk hT
  refine ⟨b, off, rfl, Nat.lt_of_lt_of_le hb hf.size, hk.imp id (fun ⟨cs, hk⟩ => ⟨cs, e.trans hk⟩), fun i x hx => ?_⟩
  obtain ⟨h0, h1, h2, h3⟩ := hc i x hx
  exact ⟨(World.cell?_of_block e).trans h0, (World.cell?_of_block e).trans h1, (World.cell?_of_block e).trans h2, (World.cell?_of_block e).trans h3⟩

def evI (e : Ev) (x : Itm) : Itm := { x with jb := e.jb, pr := e.pr, st := e.st, ix := e.ix }
def newI (e : Ev) : Itm := ⟨e.jb, e.pr, e.st, e.ix, 0, 0, false, 0, 0⟩
def u1 (R : List Itm) (e : Ev) : List Itm := if e.st = 1 then (match R.findIdx? (fun x => x.jb == e.jb) with | some i => if (R.getD i default).tk = true then R else R.set i (evI e (R.getD i default)) | none => R ++ [newI e]) else R
def pend (es : List Ev) (j : Int) : Bool := es.any (fun e => e.st == 1 && e.jb == j)
def upM (R : List Itm) (es : List Ev) : List Itm := (es.foldl u1 R).filter (fun x => pend es x.jb || x.tk)
theorem pend_snoc (es : List Ev) (e : Ev) (j : Int) : pend (es ++ [e]) j = (pend es j || (e.st == 1 && e.jb == j)) := by simp [pend]
def pmV (es : List Ev) (j : Int) : Option Value := if pend es j = true then some (.agg #[]) else none
theorem pmV_yes {es : List Ev} {e : Ev} (h : e.st = 1) : (fun j => if j = e.jb then some (.agg #[]) else pmV es j) = pmV (es ++ [e]) := by
  funext j
  unfold pmV
  rw [pend_snoc]
  by_cases hj : j = e.jb
  · subst hj; simp [h]
  · have : ¬ e.jb = j := fun x => hj x.symm
    simp [hj, this]
theorem pmV_no {es : List Ev} {e : Ev} (h : e.st ≠ 1) : pmV (es ++ [e]) = pmV es := by
  funext j
  unfold pmV
  rw [pend_snoc]
  simp [h]

/- the item of a job -/
theorem find_at {L : List (Nat × Itm)} (hJ : JN L) {i b : Nat} {x : Itm} (h : L[i]? = some (b, x)) {j : Int} (e : x.jb = j) : (L.map (·.2)).findIdx? (fun x => x.jb == j) = some i := by
  have hl := (List.getElem?_eq_some_iff.1 h).1
  rw [List.findIdx?_eq_some_iff_getElem]
  refine ⟨by simpa using hl, ?_, fun k hk => ?_⟩
  · have := (List.getElem?_eq_some_iff.1 h).2
    simp [this, e]
  · have hkl : k < L.length := by omega
    have hp := List.pairwise_iff_getElem.1 hJ
    have h9 := hp k i (by simpa using hkl) (by simpa using hl) hk
    simp only [List.getElem_map] at h9 ⊢
    rw [(List.getElem?_eq_some_iff.1 h).2] at h9
    simp only [← e]
    simpa using h9
theorem find_no {L : List (Nat × Itm)} {j : Int} (h : ∀ z ∈ L, z.2.jb ≠ j) : (L.map (·.2)).findIdx? (fun x => x.jb == j) = none := by
  rw [List.findIdx?_eq_none_iff]
  intro x hx
  obtain ⟨z, hz, rfl⟩ := List.mem_map.1 hx
  simpa using h z hz
theorem JN.set {L : List (Nat × Itm)} (hJ : JN L) {i b : Nat} {x y : Itm} (h : L[i]? = some (b, x)) (e : y.jb = x.jb) : JN (L.set i (b, y)) := by
  have : (L.set i (b, y)).map (fun z => z.2.jb) = L.map (fun z => z.2.jb) := by
    rw [List.map_set]
    apply List.ext_getElem?
    intro j
    by_cases hj : i = j
    · subst hj
      rw [List.getElem?_set_self (by simpa using (List.getElem?_eq_some_iff.1 h).1)]
      simp [h, e]
    · rw [List.getElem?_set_ne hj]
  unfold JN
  rw [this]; exact hJ
theorem JN.snoc {L : List (Nat × Itm)} (hJ : JN L) {b : Nat} {x : Itm} (h : ∀ z ∈ L, z.2.jb ≠ x.jb) : JN (L ++ [(b, x)]) := by
  unfold JN
  rw [List.map_append]
  refine List.nodup_append.2 ⟨hJ, by simp, fun a ha b' hb' => ?_⟩
  obtain ⟨z, hz, rfl⟩ := List.mem_map.1 ha
  simp at hb'
  rw [hb']; exact h z hz
theorem MJ.set {m : Int → Option Value} {L : List (Nat × Itm)} (h : MJ m L) (hn : (L.map (·.1)).Nodup) {i b : Nat} {x y : Itm} (hi : L[i]? = some (b, x)) (e : y.jb = x.jb) : MJ m (L.set i (b, y)) := by
  refine ⟨fun z hz => ?_, fun j hj => h.no j (fun z hz e2 => ?_)⟩
  · rcases mem_set hn hi hz with rfl | ⟨h1, _⟩
    · have := h.yes _ (List.mem_of_getElem? hi)
      simp only [e]; exact this
    · exact h.yes z h1
  · by_cases hb : z.1 = b
    · obtain ⟨k, hk⟩ := List.mem_iff_getElem?.1 hz
      have := nd_inj hn hi hk hb.symm
      subst this
      rw [hi] at hk
      have h3 := Option.some.inj hk
      subst h3
      exact hj _ (set_self hi) (e.trans e2)
    · exact hj z (set_mem hi hz hb) e2
theorem MJ.look {m : Int → Option Value} {L : List (Nat × Itm)} (h : MJ m L) (j : Int) : (∃ (i b : Nat) (x : Itm), L[i]? = some (b, x) ∧ x.jb = j ∧ m j = some (ptr b)) ∨ ((∀ z ∈ L, z.2.jb ≠ j) ∧ m j = none) := by
  by_cases hj : ∃ z ∈ L, z.2.jb = j
  · obtain ⟨⟨b, x⟩, hz, e⟩ := hj
    obtain ⟨i, hi⟩ := List.mem_iff_getElem?.1 hz
    exact .inl ⟨i, b, x, hi, e, by rw [← e]; exact h.yes _ hz⟩
  · have : ∀ z ∈ L, z.2.jb ≠ j := fun z hz e => hj ⟨z, hz, e⟩
    exact .inr ⟨this, h.no j this⟩

theorem MpR.keepT {T : List Nat} {w w' : World} {b : Nat} {m : Int → Option Value} (h : MpR w b kI m) (hf : FrT D T w w') (hT : 9999 ∉ T) : MpR w' b kI m := by
  obtain ⟨L, c, h1, h2⟩ := h
  exact ⟨L, c, hf.block b _ h1 (.inl (by simpa [isT] using hT)), h2⟩
set_option maxHeartbeats 2000000 in
theorem clo26_any (q mp b : Nat) (x : Itm) (es : List Ev) (w : World) (hx : ItR w b x) (hq : w.cell? ⟨q, 0, none⟩ = some (.map (some mp))) (hm : MpR w mp kI (pmV es)) :
    Calls Try.prog 26 #[.pointer (some ⟨b, 0, none⟩), .pointer (some ⟨q, 0, none⟩)] w fun e w' => e = .returned (.bool (!pend es x.jb && !x.tk)) ∧ Below w.heap.size w w' := by
  obtain ⟨x0, -, -, -, -, -, x6, -, -⟩ := ItR.cells hx
  have hbl := ItR.lt hx
  have hql : q < w.heap.size := World.block_lt_of_cell? w _ hq
  have hlk := (hm.keep (w' := w.drew) rfl).look kyI Try.underlying61 (z := .agg #[]) (Try.zeroValue62 w.drew) x.jb true
  have hlk2 := (hm.keep (w' := (w.alloc (.cells #[] 62)).drew) ((below1 w _).block _ hm.lt)).look kyI Try.underlying61 (z := .agg #[]) (Try.zeroValue62 _) x.jb true
  have e1 : (pmV es x.jb).getD (.agg #[]) = .agg #[] := by unfold pmV; split <;> rfl
  have e2 : (pmV es x.jb).isSome = pend es x.jb := by unfold pmV; cases pend es x.jb <;> rfl
  rw [if_pos rfl, e1, e2] at hlk hlk2
  simp only [kI] at hlk hlk2
  clear hx hm e1 e2
  generalize pend es x.jb = pb at *
  generalize x.tk = tk at *
  generalize x.jb = j at *
  cases pb <;> cases tk
  all_goals (
    go_enter Try.func26, Try.ntmps26
    go_wp2
    go_region)
  all_goals (go_wp2; go_ret; exact ⟨rfl, (below1 w _).drew⟩)

end Go.Proofs.Ytndomlbjdppckaa
