/- A leader's clocks in memory: New, Lead, due. -/
import Derived.Test.YtcdbkieimkcogaaLa
namespace Go.Proofs.Ytcdbkieimkcogaa
open Go.RowKit
variable {D : Nat}

abbrev Mp := Sg → Option Int
def vI (m : Mp) : Sg → Option Value := fun k => (m k).map (Value.int .i64)
def ptr (b : Nat) : Value := .pointer (some ⟨b, 0, none⟩)
structure LfR (D : Nat) (w : World) (p mb : Nat) (m : Mp) : Prop where
  blk : w.heap[p]? = some (.cells #[.map (some mb)] 65 (0, 0))
  mp : MpR w mb kS (vI m)
  lo : D ≤ p
  ml : D ≤ mb
theorem LfR.cell {w : World} {p mb : Nat} {m : Mp} (h : LfR D w p mb m) : w.cell? ⟨p, 0, none⟩ = some (.map (some mb)) := by rw [cell_of_row w p 0 _ 65 (0, 0) h.blk]; rfl
theorem LfR.ne {w : World} {p mb : Nat} {m : Mp} (h : LfR D w p mb m) : p ≠ mb := by
  intro e
  obtain ⟨L, c, h1, _⟩ := h.mp
  have h2 := h.blk
  rw [e, h1] at h2; cases h2
theorem LfR.keep {w w' : World} {p mb : Nat} {m : Mp} (h : LfR D w p mb m) (h1 : w'.heap[p]? = w.heap[p]?) (h2 : w'.heap[mb]? = w.heap[mb]?) : LfR D w' p mb m := ⟨h1.trans h.blk, h.mp.keep h2, h.lo, h.ml⟩
theorem LfR.grow {w w' : World} {p mb : Nat} {m : Mp} (h : LfR D w p mb m) (hb : Below w.heap.size w w') : LfR D w' p mb m := h.keep (hb.block p (heap_lt h.blk)) (hb.block mb h.mp.lt)
theorem MpR.keepT {D : Nat} {T : List Nat} {w w' : World} {b : Nat} {m : Sg → Option Value} (h : MpR w b kS m) (hf : FrT D T w w') (hT : 9999 ∉ T) : MpR w' b kS m := by
  obtain ⟨L, c, h1, h2⟩ := h
  exact ⟨L, c, hf.block b _ h1 (.inl (by simpa [isT] using hT)), h2⟩
theorem LfR.keepT {D' : Nat} {T : List Nat} {w w' : World} {p mb : Nat} {m : Mp} (h : LfR D w p mb m) (hf : FrT D' T w w') (h1 : 65 ∉ T) (h2 : 9999 ∉ T) : LfR D w' p mb m := ⟨hf.cells h.blk h1, h.mp.keepT hf h2, h.lo, h.ml⟩
theorem LfR.low {T : List Nat} {w w' : World} {p mb : Nat} {m : Mp} {D D' : Nat} (h : LfR D w p mb m) (hf : FrT D' T w w') (h1 : p < D') (h2 : mb < D') : LfR D w' p mb m := by
  refine h.keep ?_ ?_
  · rw [hf.block p _ h.blk (.inr h1), h.blk]
  · obtain ⟨L, c, e1, e2⟩ := h.mp
    rw [hf.block mb _ e1 (.inr h2), e1]

set_option maxHeartbeats 400000 in
theorem new_any (w : World) (hD : D ≤ w.heap.size) : Calls Try.prog 6 #[] w fun e w' => ∃ p mb, e = .returned (ptr p) ∧ w.heap.size ≤ p ∧ w.heap.size ≤ mb ∧ LfR D w' p mb (fun _ => none) ∧ Below w.heap.size w w' := by
  have hmm := @run_makeMap Try.prog
  go_enter Try.func6, Try.ntmps6
  go_wp2
  go_ret
  have h1 := MpR.new w kS
  have hb : Below (w.alloc (.map #[] 0)).heap.size (w.alloc (.map #[] 0)) ((w.alloc (.map #[] 0)).alloc (.cells #[.map (some w.heap.size)] 65)) := below1 _ _
  have h2 := heap_alloc_new (w.alloc (.map #[] 0)) (.cells #[.map (some w.heap.size)] 65)
  rw [World.size_alloc] at h2
  exact ⟨w.heap.size + 1, w.heap.size, rfl, by omega, Nat.le_refl _, ⟨h2, h1.keep (hb.block _ (by simp)), by omega, hD⟩, (below1 w _).trans (hb.mono (by simp))⟩

set_option maxHeartbeats 400000 in
theorem lead_any (p mb : Nat) (m : Mp) (w : World) (h : LfR D w p mb m) : Calls Try.prog 7 #[ptr p] w fun e w' => e = .returned (.tuple #[]) ∧ LfR D w' p mb (fun _ => none) ∧ FrT D [9999] w w' := by
  have c0 := h.cell
  obtain ⟨w', hr, h1, h2, h3, h4⟩ := h.mp.clear Try.underlying63 63
  have hx : ∀ r, (Builtin.clear_ #[63] r #[.map (some mb)]).run Try.prog w = .ok (.tuple #[]) w' := fun r => by
    obtain ⟨w2, hr2, _⟩ := h.mp.clear Try.underlying63 r
    have : (Builtin.clear_ #[63] r #[.map (some mb)]) = (Builtin.clear_ #[63] 63 #[.map (some mb)]) := rfl
    rw [this]; exact hr
  have hpost : LfR D w' p mb (fun _ => none) ∧ FrT D [9999] w w' := by
    refine ⟨⟨(h2 p h.ne).trans h.blk, h1, h.lo, h.ml⟩, h4.os, h4.tape, h4.output, by omega, fun k o hk ho => ?_⟩
    rcases ho with ho | ho
    · by_cases e : k = mb
      · subst e
        obtain ⟨L, c, e1, _⟩ := h.mp
        rw [e1] at hk; cases hk; simp [isT] at ho
      · rw [h2 k e, hk]
    · rw [h2 k (by have := h.ml; omega), hk]
  have HP := hidOf hpost
  clear hpost h h1 h2 h3 h4 hr
  unfold ptr
  go_enter Try.func7, Try.ntmps7
  go_wp2
  go_end0
  exact ⟨rfl, HP.out⟩

def atM (o : Option Int) : Int := match o with | some v => v + 1 | none => 0
def dueN (mo mn : Mp) (k : Sg) (e : Int) : Mp := match mn k with
  | some _ => mn
  | none => fun j => if j = k then some (if atM (mo k) = e then atM (mo k) - 3 else atM (mo k)) else mn j
def dueB (mo mn : Mp) (k : Sg) (e : Int) : Bool := match mn k with
  | some _ => false
  | none => atM (mo k) == e
theorem look2 {m : Mp} {w : World} {b : Nat} (h : MpR w b kS (vI m)) (k : Sg) : (Instr.lookup 63 (.map (some b)) (kS k) true).run Try.prog w = .ok (.tuple #[.int .i64 ((m k).getD 0), .bool (m k).isSome]) w := by
  have := h.look kyS Try.underlying63 (Try.zeroValue3 w) k true
  rw [if_pos rfl] at this
  rw [this]
  unfold vI
  cases m k <;> rfl
theorem below_gb {w w' : World} (h : Below w.heap.size w w') (r : Option Nat) : w.grownBy w' r := ⟨h.os, h.tape, h.output, h.size, fun k hk _ => h.block k hk⟩
theorem dueN_upd (mn : Mp) (k : Sg) (v : Int) : (fun j => if j = k then some (Value.int .i64 v) else vI mn j) = vI (fun j => if j = k then some v else mn j) := by
  funext j
  unfold vI
  by_cases h : j = k <;> simp [h]

set_option maxHeartbeats 4000000 in
set_option maxRecDepth 100000 in
theorem due_any (p mb now : Nat) (mo mn : Mp) (k : Sg) (e : Int) (w : World) (h : LfR D w p mb mo) (hn : MpR w now kS (vI mn)) (_hb : now ≠ mb) (hv : ∀ v, mo k = some v → 0 ≤ v ∧ v < 100) (he : 3 ≤ e ∧ e < 100) :
    Calls Try.prog 15 #[ptr p, .map (some now), kS k, .int .i64 e] w fun r w' => r = .returned (.bool (dueB mo mn k e)) ∧ MpR w' now kS (vI (dueN mo mn k e)) ∧ w.grownBy w' (some now) := by
  have hB1 := below1 w (.cells #[.int .i64 k.kd, .int .i64 k.id, .int .i64 k.er, .int .i64 k.la] 68)
  have h1 := h.grow hB1
  have c0 := h1.cell
  have hn1 := hn.keep (hB1.block now hn.lt)
  have l1 := look2 hn1 k
  have l2 := look2 (w := (w.alloc (.cells #[.int .i64 k.kd, .int .i64 k.id, .int .i64 k.er, .int .i64 k.la] 68)).drew) (h1.mp.keep rfl) k
  have HB := hidOf hB1
  have HN := hidOf hn1
  have HL := hidOf h1
  have hkS : kS k = .agg #[.int .i64 k.kd, .int .i64 k.id, .int .i64 k.er, .int .i64 k.la] := rfl
  have HKS := hidOf hkS
  rw [hkS] at l1 l2 ⊢
  have HNL := hidOf hn.lt
  clear h hn h1 hB1 hn1 hkS
  unfold ptr
  cases hmn : mn k with
  | some v =>
    rw [hmn] at l1
    simp only [Option.getD_some, Option.isSome_some] at l1
    have hd : dueB mo mn k e = false := by unfold dueB; rw [hmn]
    have hd2 : dueN mo mn k e = mn := by unfold dueN; rw [hmn]
    rw [hd, hd2]
    clear hmn l2 hd hd2
    go_enter Try.func15, Try.ntmps15
    go_wp2
    go_ret
    exact ⟨rfl, HN.out, below_gb HB.out _⟩
  | none =>
    rw [hmn] at l1
    simp only [Option.getD_none, Option.isSome_none] at l1
    have hd : dueB mo mn k e = (atM (mo k) == e) := by unfold dueB; rw [hmn]
    have hd2 : vI (dueN mo mn k e) = (fun j => if j = k then some (Value.int .i64 (if atM (mo k) = e then atM (mo k) - 3 else atM (mo k))) else vI mn j) := by
      rw [dueN_upd]; unfold dueN; rw [hmn]
    obtain ⟨x, hx⟩ : ∃ x, x = (if atM (mo k) = e then atM (mo k) - 3 else atM (mo k)) := ⟨_, rfl⟩
    obtain ⟨b, hbq⟩ : ∃ b, b = (atM (mo k) == e) := ⟨_, rfl⟩
    rw [hd, hd2, ← hx, ← hbq]
    clear hmn hd hd2
    obtain ⟨w2, r1, r2, r3, r4, r5⟩ := (HN.out.keep (w' := (w.alloc (.cells #[.int .i64 k.kd, .int .i64 k.id, .int .i64 k.er, .int .i64 k.la] 68)).drew) rfl).up kyS Try.underlying63 k (.int .i64 x)
    rw [HKS.out] at r1
    have H2 := hidOf r2
    have H5 := hidOf ((below_gb HB.out.drew (some now)).trans r5)
    clear r2 r3 r4 r5
    cases hmo : mo k with
    | none =>
      rw [hmo] at l2
      simp only [Option.getD_none, Option.isSome_none] at l2
      have hee : ((0 : Int) == e) = false := by simp; omega
      have hee2 : ¬ ((0 : Int) = e) := by omega
      have hx2 : x = (0 : Int) := hx.trans (by rw [hmo]; exact if_neg hee2)
      have hb2 : b = false := hbq.trans (by rw [hmo]; exact hee)
      clear hx hbq hv hmo hee2
      subst hx2 hb2
      go_enter Try.func15, Try.ntmps15
      go_wp2
      go_region
      all_goals (go_wp2; go_ret; exact ⟨rfl, H2.out, H5.out⟩)
    | some v =>
      obtain ⟨hv0, hv1⟩ := hv v hmo
      rw [hmo] at l2
      simp only [Option.getD_some, Option.isSome_some] at l2
      by_cases hve : v + 1 = e
      · have hee : (v + 1 == e) = true := by simp [hve]
        have hx2 : x = v + 1 - 3 := hx.trans (by rw [hmo]; exact if_pos hve)
        have hb2 : b = true := hbq.trans (by rw [hmo]; exact hee)
        clear hx hbq hv hmo hve
        subst hx2 hb2
        go_enter Try.func15, Try.ntmps15
        go_wp2
        go_region
        all_goals (go_wp2; go_ret; exact ⟨rfl, H2.out, H5.out⟩)
      · have hee : (v + 1 == e) = false := by simp [hve]
        have hx2 : x = v + 1 := hx.trans (by rw [hmo]; exact if_neg hve)
        have hb2 : b = false := hbq.trans (by rw [hmo]; exact hee)
        clear hx hbq hv hmo hve
        subst hx2 hb2
        go_enter Try.func15, Try.ntmps15
        go_wp2
        go_region
        all_goals (go_wp2; go_ret; exact ⟨rfl, H2.out, H5.out⟩)
end Go.Proofs.Ytcdbkieimkcogaa
