/- The document's clocks: goes, Lead. -/
import Derived.Test.YtcdbkieimkcogaaLk
namespace Go.Proofs.Ytcdbkieimkcogaa
open Go.RowKit
variable {D : Nat}
theorem RdR.top {D ty s : Nat} {α : Type} {f : α → Array Value} {w : World} {a : Option Addr} {L : List α} (h : RdR D ty s f w a L) : RdR w.heap.size ty s f w a L := by
  intro hne
  obtain ⟨b, off, h1, h2, _, h3⟩ := h hne
  exact ⟨b, off, h1, h2, .inl h2, h3⟩
theorem OwR.hi2 {lo ty s : Nat} {α : Type} {f : α → Array Value} {w : World} {v : Value} {R : List α} (h : OwR lo ty s f w v R) : ∀ k, v.ownBlock = some k → k < w.heap.size := by
  intro k hk
  rcases h.2 with ⟨rfl, _⟩ | ⟨g, cap, cur, rfl, h3, h4, h5⟩
  · cases hk
  · cases hk; exact heap_lt h4
theorem OwR.frt2 {lo ty s : Nat} {α : Type} {f : α → Array Value} {w w' : World} {v : Value} {R : List α} (h : OwR lo ty s f w v R) (hg : w.grownBy w' v.ownBlock) : FrT lo [ty] w w' := by
  refine ⟨hg.os, hg.tape, hg.output, hg.size, fun k o hk ho => (hg.block k (heap_lt hk) (fun e2 => ?_)).trans hk⟩
  rcases ho with ho | ho
  · rcases h.2 with ⟨rfl, _⟩ | ⟨g, cap, cur, rfl, _, h4, _⟩
    · cases e2
    · cases e2; rw [h4] at hk; cases hk; simp [isT] at ho
  · have := h.lo k e2.symm; omega
theorem gb_set (w : World) (b j : Nat) (u : Value) : w.grownBy (w.setCell ⟨b, j, none⟩ u) (some b) := ⟨rfl, rfl, rfl, by simp, fun k _ hne => Below.heap_setCell w ⟨b, j, none⟩ u k (fun e => hne (by rw [e]))⟩
theorem if76 : IfR 76 5 40 := IfR.of (z := .agg #[.bool false, .int .i64 0, .int .i64 0, .int .i64 0, .int .i64 0]) (by kernel_rfl) rfl
structure RfR (D : Nat) (w : World) (pR : Nat) (R : List Ck) : Prop where
  ex : ∃ v, w.heap[pR]? = some (.cells #[v] 28 (0, 0)) ∧ OwR D 76 5 ckC w v R
  lo : D ≤ pR
theorem RfR.keepT {D' : Nat} {T : List Nat} {w w' : World} {pR : Nat} {R : List Ck} (h : RfR D w pR R) (hf : FrT D' T w w') (h1 : 28 ∉ T) (h2 : 76 ∉ T) : RfR D w' pR R := by
  obtain ⟨v, h3, h4⟩ := h.ex
  exact ⟨⟨v, hf.cells h3 h1, h4.keepT hf h2⟩, h.lo⟩
theorem RfR.grow {w w' : World} {pR : Nat} {R : List Ck} (h : RfR D w pR R) (hb : Below w.heap.size w w') : RfR D w' pR R := h.keepT (D' := 0) (T := []) (FrT.of_below hb) (by simp) (by simp)
def look (R : List Ck) : Mp := fun k => (R.find? (fun c => decide (sgOf c = k))).map (·.n)
theorem look_nil : look [] = fun _ => none := rfl
theorem look_at {R : List Ck} {x : Ck} {K : Nat} (h : FR (isC x) R K) : look R (sgOf x) = (R[K]?).map (·.n) := by
  unfold look
  have e : (fun c => decide (sgOf c = sgOf x)) = isC x := by
    funext c
    cases hc : isC x c with
    | true => exact decide_eq_true ((isC_iff x c).1 hc)
    | false =>
      refine decide_eq_false (fun e => ?_)
      rw [(isC_iff x c).2 e] at hc; cases hc
  rw [e]
  cases hx : R[K]? with
  | none =>
    have : R.find? (isC x) = none := by
      rw [List.find?_eq_none]
      intro y hy
      obtain ⟨j, hj⟩ := List.mem_iff_getElem?.1 hy
      rw [List.getElem?_eq_none_iff] at hx
      have hjl := (List.getElem?_eq_some_iff.1 hj).1
      rw [h.miss j y (by omega) hj]; simp
    rw [this]
  | some y =>
    have : R.find? (isC x) = some y := by
      have hK := List.getElem?_eq_some_iff.1 hx
      rw [List.find?_eq_some_iff_getElem]
      refine ⟨h.hit y hx, K, hK.1, hK.2, fun j hj => ?_⟩
      have hK1 := hK.1
      rw [h.miss j _ hj (List.getElem?_eq_getElem (by omega))]; rfl
    rw [this]
theorem look_snoc {X : List Ck} {x : Ck} (h : look X (sgOf x) = none) : look (X ++ [x]) = fun j => if j = sgOf x then some x.n else look X j := by
  funext j
  unfold look at h ⊢
  rw [List.find?_append]
  by_cases hj : j = sgOf x
  · subst hj
    have h2 : X.find? (fun c => decide (sgOf c = sgOf x)) = none := by simpa using h
    rw [h2]; simp
  · have h3 : [x].find? (fun c => decide (sgOf c = j)) = none := by
      have h4 : ¬ sgOf x = j := fun e => hj e.symm
      simp [h4]
    rw [h3, if_neg hj]; simp
set_option maxHeartbeats 8000000 in
set_option maxRecDepth 100000 in
theorem goes_any (pR lo : Nat) (R X : List Ck) (x : Ck) (e : Int) (xa : Option Addr) (xc : Nat) (w : World) (h : RfR D w pR R) (hX : OwR lo 76 5 ckC w (.slice xa X.length xc) X) (hlo : lo ≤ w.heap.size) (hN : (X.length + 1) * 40 ≤ 140737488355328) (hv : ∀ v, look R (sgOf x) = some v → 0 ≤ v ∧ v < e) (he : 3 ≤ e ∧ e < 100) (hx0 : x.n = 0) :
    Calls Try.prog 18 #[ptr pR, .slice xa X.length xc, .agg #[.bool x.dp, .int .i64 x.id, .int .i64 x.ep, .int .i64 x.sq, .int .i64 0], .int .i64 e] w fun r w' => ∃ xa' xc' X', r = .returned (.tuple #[.slice xa' X'.length xc', .bool (dueB (look R) (look X) (sgOf x) e)]) ∧ OwR lo 76 5 ckC w' (.slice xa' X'.length xc') X' ∧ look X' = dueN (look R) (look X) (sgOf x) e ∧ X'.length ≤ X.length + 1 ∧ FrT lo [76] w w' := by
  obtain ⟨vR, hR1, hR2⟩ := h.ex
  obtain ⟨ra, rc, hvr, hrl⟩ := hR2.slice
  subst hvr
  obtain ⟨K1, hF1⟩ := FR.ex (isC x) X
  obtain ⟨K2, hF2⟩ := FR.ex (isC x) R
  have hlx := look_at hF1
  have hlr := look_at hF2
  have hXm := hX.slice
  have HIF := hidOf if76
  have HXhi := hidOf hX.hi2
  have hB1 := below1 w (.cells #[.bool x.dp, .int .i64 x.id, .int .i64 x.ep, .int .i64 x.sq, .int .i64 0] 76)
  have HQ := hidOf (heap_alloc_new w (.cells #[.bool x.dp, .int .i64 x.id, .int .i64 x.ep, .int .i64 x.sq, .int .i64 0] 76))
  have HX := hidOf (hX.grow hB1)
  have HR := hidOf (hR2.grow hB1)
  have HP := hidOf ((hB1.block pR (heap_lt hR1)).trans hR1)
  have hpl := heap_lt hR1
  obtain ⟨W, hW⟩ : ∃ y, y = w.alloc (.cells #[.bool x.dp, .int .i64 x.id, .int .i64 x.ep, .int .i64 x.sq, .int .i64 0] 76) := ⟨_, rfl⟩
  have HBw := hidOf hB1
  have hbW : w.heap.size < W.heap.size := by rw [hW]; simp
  rw [← hW] at HQ HX HR HP HBw
  have hfx : ∀ (W1 : World), Below W.heap.size W W1 → Calls Try.prog 19 #[.slice xa X.length xc, .agg #[.bool x.dp, .int .i64 x.id, .int .i64 x.ep, .int .i64 x.sq, .int .i64 0]] W1 fun e w' => e = .returned (.int .i64 (if K1 < X.length then (K1 : Int) else -1)) ∧ Below W1.heap.size W1 w' := fun W1 hb => by
    obtain ⟨a, cap, hva, hrd⟩ := OwR.rd (D := W1.heap.size) ck_size (HX.out.grow hb)
    cases hva
    have := find_any xa xc X x K1 W1 hrd.top (by obtain ⟨_, _, _, h9⟩ := hXm; exact h9) hF1
    rw [hx0] at this
    exact this
  have hfr : ∀ (W1 : World), Below W.heap.size W W1 → Calls Try.prog 19 #[.slice ra R.length rc, .agg #[.bool x.dp, .int .i64 x.id, .int .i64 x.ep, .int .i64 x.sq, .int .i64 0]] W1 fun e w' => e = .returned (.int .i64 (if K2 < R.length then (K2 : Int) else -1)) ∧ Below W1.heap.size W1 w' := fun W1 hb => by
    obtain ⟨a, cap, hva, hrd⟩ := OwR.rd (D := W1.heap.size) ck_size (HR.out.grow hb)
    cases hva
    have := find_any ra rc R x K2 W1 hrd.top hrl hF2
    rw [hx0] at this
    exact this
  have HF1 := hidOf hfx
  have HF2a := hidOf hfr
  clear hfx hfr hB1 hR1 hR2 hX h hXm
  unfold ptr
  by_cases hk1 : K1 < X.length
  · have hd : look X = dueN (look R) (look X) (sgOf x) e ∧ dueB (look R) (look X) (sgOf x) e = false := by
      have h1 : look X (sgOf x) = some (X[K1]'hk1).n := by rw [hlx, List.getElem?_eq_getElem hk1]; rfl
      exact ⟨by unfold dueN; rw [h1], by unfold dueB; rw [h1]⟩
    have HD := hidOf hd
    rw [if_pos hk1] at HF1
    have hk1z : (0 : Int) ≤ (K1 : Int) := by omega
    clear hd hlx hlr HF2a
    go_enter Try.func18, Try.ntmps18
    go_upto_region 1 with (fail)
    rw [← hW]
    clear hW
    go_wp2_with (first | (refine wpList_load_row rfl 76 (.tmp 6) rfl w.heap.size rfl 76 #[.bool x.dp, .int .i64 x.id, .int .i64 x.ep, .int .i64 x.sq, .int .i64 0] (0, 0) _ HQ.out Try.underlying76 rfl (by kernel_rfl) ?_) | (go_at_call 19; refine (HF1.out _ (Below.refl _ _)).mono ?_; rintro e w1 ⟨rfl, hb1⟩; have HB1 := hidOf hb1; clear hb1))
    go_ret2
    exact ⟨xa, xc, X, by rw [HD.out.2]; rfl, HX.out.grow HB1.out, HD.out.1, by omega, FrT.of_below (HBw.out.trans (HB1.out.mono (by omega)))⟩
  · have hnx : look X (sgOf x) = none := by rw [hlx, List.getElem?_eq_none (by omega)]; rfl
    rw [if_neg hk1] at HF1
    have HDN0 : Hid (dueN (look R) (look X) (sgOf x) e = (fun j => if j = sgOf x then some (if atM (look R (sgOf x)) = e then atM (look R (sgOf x)) - 3 else atM (look R (sgOf x))) else look X j) ∧ dueB (look R) (look X) (sgOf x) e = (atM (look R (sgOf x)) == e)) := hidOf ⟨by unfold dueN; rw [hnx], by unfold dueB; rw [hnx]⟩
    go_enter Try.func18, Try.ntmps18
    go_upto_region 1 with (fail)
    rw [← hW]
    clear hW
    go_upto_region 3 with (first | (refine wpList_load_row rfl 76 (.tmp 6) rfl w.heap.size rfl 76 #[.bool x.dp, .int .i64 x.id, .int .i64 x.ep, .int .i64 x.sq, .int .i64 0] (0, 0) _ HQ.out Try.underlying76 rfl (by kernel_rfl) ?_) | (go_at_call 19; refine (HF1.out _ (Below.refl _ _)).mono ?_; rintro e w1 ⟨rfl, hb1⟩; have HB1 := hidOf hb1; clear hb1))
    have hsz1 := HB1.out.size
    have HQ1 := hidOf ((HB1.out.block _ (heap_lt HQ.out)).trans HQ.out)
    have HP1 := hidOf ((HB1.out.block _ (heap_lt HP.out)).trans HP.out)
    have HX1 := hidOf (HX.out.grow HB1.out)
    have HR1 := hidOf (HR.out.grow HB1.out)
    have HBw1 := hidOf (HBw.out.trans (HB1.out.mono (by omega)))
    have q0 : w1.cell? ⟨w.heap.size, 0, none⟩ = some (.bool x.dp) := by rw [cell_of_row _ _ 0 _ 76 (0, 0) HQ1.out]; rfl
    have q1 : w1.cell? ⟨w.heap.size, 1, none⟩ = some (.int .i64 x.id) := by rw [cell_of_row _ _ 1 _ 76 (0, 0) HQ1.out]; rfl
    have q2 : w1.cell? ⟨w.heap.size, 2, none⟩ = some (.int .i64 x.ep) := by rw [cell_of_row _ _ 2 _ 76 (0, 0) HQ1.out]; rfl
    have q3 : w1.cell? ⟨w.heap.size, 3, none⟩ = some (.int .i64 x.sq) := by rw [cell_of_row _ _ 3 _ 76 (0, 0) HQ1.out]; rfl
    have q4 : w1.cell? ⟨w.heap.size, 4, none⟩ = some (.int .i64 0) := by rw [cell_of_row _ _ 4 _ 76 (0, 0) HQ1.out]; rfl
    have p0 : w1.cell? ⟨pR, 0, none⟩ = some (.slice ra R.length rc) := by rw [cell_of_row _ _ 0 _ 28 (0, 0) HP1.out]; rfl
    have hpl1 : pR < w1.heap.size := by omega
    have hbx1 : w.heap.size < w1.heap.size := by omega
    have HF2 := hidOf (fun (W1 : World) (hb : Below w1.heap.size w1 W1) => HF2a.out W1 (HB1.out.trans (hb.mono hsz1)))
    clear HF2a HF1 HX HR HBw HQ HP HB1
    by_cases hk2 : K2 < R.length
    · obtain ⟨y, hy⟩ : ∃ y, R[K2]? = some y := ⟨_, List.getElem?_eq_getElem hk2⟩
      have hlr2 : look R (sgOf x) = some y.n := by rw [hlr, hy]; rfl
      obtain ⟨hy0, hye⟩ := hv _ hlr2
      rw [if_pos hk2] at HF2
      rw [hlr2] at HDN0
      have hk2z : (0 : Int) ≤ (K2 : Int) := by omega
      have hk2l : (K2 : Int) < (R.length : Int) := by omega
      refine wp_region_held_drew (S := fun (Y : World) => Y.cell? ⟨pR, 0, none⟩ = some (.slice ra R.length rc) ∧ Y.cell? ⟨w.heap.size, 0, none⟩ = some (.bool x.dp) ∧ Y.cell? ⟨w.heap.size, 1, none⟩ = some (.int .i64 x.id) ∧ Y.cell? ⟨w.heap.size, 2, none⟩ = some (.int .i64 x.ep) ∧ Y.cell? ⟨w.heap.size, 3, none⟩ = some (.int .i64 x.sq) ∧ Y.cell? ⟨w.heap.size, 4, none⟩ = some (.int .i64 0) ∧ Hid (Below w1.heap.size w1 Y)) (by kernel_rfl) ⟨p0, q0, q1, q2, q3, q4, hidOf ((Below.refl _ _).drew)⟩ (fun hHeld => ?_)
      refine wpAnyH_take (i := 0) (oi := { dst := some 17, op := Op.move (Operand.tmp 0), type := 25, pos := "ref.go:33", after := #[], guard := none }) (v := .pointer (some ⟨pR, 0, none⟩)) rfl (by kernel_rfl) (by kernel_rfl) (by kernel_rfl) (fun _ _ _ h => h) (Or.inl ⟨by rfl, ?_⟩) hHeld ?_
      · (intro w hSw; (try dsimp only at hSw); go_simp)
      try simp only [Act.put, List.setIfInBounds_toArray, List.set_cons_zero, List.set_cons_succ]
      refine wpAnyH_take (i := 1) (oi := { dst := some 18, op := Op.nilCheck (Operand.tmp 17), type := 0, pos := "ref.go:33", after := #[{ on := 0, ground := Ground.data }], guard := none }) (v := .pointer (some ⟨pR, 0, none⟩)) rfl (by kernel_rfl) (by kernel_rfl) (by kernel_rfl) (fun _ _ _ h => h) (Or.inl ⟨by rfl, ?_⟩) hHeld ?_
      · (intro w hSw; (try dsimp only at hSw); go_simp)
      try simp only [Act.put, List.setIfInBounds_toArray, List.set_cons_zero, List.set_cons_succ]
      refine wpAnyH_take (i := 2) (oi := { dst := some 19, op := Op.fieldAddr 28 (Operand.tmp 18) 0, type := 0, pos := "ref.go:33", after := #[{ on := 1, ground := Ground.data }], guard := none }) (v := .pointer (some ⟨pR, 0, none⟩)) rfl (by kernel_rfl) (by kernel_rfl) (by kernel_rfl) (fun _ _ _ h => h) (Or.inl ⟨by rfl, ?_⟩) hHeld ?_
      · (intro w hSw; (try dsimp only at hSw); go_simp)
      try simp only [Act.put, List.setIfInBounds_toArray, List.set_cons_zero, List.set_cons_succ]
      refine wpAnyH_take (i := 3) (oi := { dst := some 20, op := Op.load 26 (Operand.tmp 19), type := 26, pos := "ref.go:33", after := #[{ on := 2, ground := Ground.data }], guard := none }) (v := .slice ra R.length rc) rfl (by kernel_rfl) (by kernel_rfl) (by kernel_rfl) (fun _ _ _ h => h) (Or.inl ⟨by rfl, ?_⟩) hHeld ?_
      · (intro w hSw; (try dsimp only at hSw); go_simp)
      try simp only [Act.put, List.setIfInBounds_toArray, List.set_cons_zero, List.set_cons_succ]
      refine wpAnyH_take (i := 4) (oi := { dst := some 21, op := Op.load 76 (Operand.tmp 6), type := 76, pos := "ref.go:33", after := #[], guard := none }) (v := .agg #[.bool x.dp, .int .i64 x.id, .int .i64 x.ep, .int .i64 x.sq, .int .i64 0]) rfl (by kernel_rfl) (by kernel_rfl) (by kernel_rfl) (fun _ _ _ h => h) (Or.inl ⟨by rfl, ?_⟩) hHeld ?_
      · (intro w hSw; (try dsimp only at hSw); go_simp)
      try simp only [Act.put, List.setIfInBounds_toArray, List.set_cons_zero, List.set_cons_succ]
      refine wpAnyH_ready (rs := [5]) (by kernel_rfl) (by simp) ?_
      refine AllReadyH.cons (o := { dst := some 22, op := Op.call { callee := Callee.value (Operand.func 19), args := #[Operand.tmp 20, Operand.tmp 21], argTypes := #[26, 76] }, type := 3, pos := "ref.go:33", after := #[{ on := 3, ground := Ground.data }, { on := 4, ground := Ground.data }], guard := none }) rfl (fun K hK => ?_) AllReadyH.nil
      go_simp
      refine (HF2.out _ (hHeld.2.2.2.2.2.2.out)).mono ?_
      rintro e w6 ⟨rfl, hb6⟩
      have HY6 := hidOf (hHeld.2.2.2.2.2.2.out.trans (hb6.mono hHeld.2.2.2.2.2.2.out.size))
      clear hb6
      refine hK.out _ _ ⟨(HY6.out.cell (p := ⟨pR, 0, none⟩) (by have := hpl1; have := hbx1; omega)).trans p0, (HY6.out.cell (p := ⟨w.heap.size, 0, none⟩) (by have := hpl1; have := hbx1; omega)).trans q0, (HY6.out.cell (p := ⟨w.heap.size, 1, none⟩) (by have := hpl1; have := hbx1; omega)).trans q1, (HY6.out.cell (p := ⟨w.heap.size, 2, none⟩) (by have := hpl1; have := hbx1; omega)).trans q2, (HY6.out.cell (p := ⟨w.heap.size, 3, none⟩) (by have := hpl1; have := hbx1; omega)).trans q3, (HY6.out.cell (p := ⟨w.heap.size, 4, none⟩) (by have := hpl1; have := hbx1; omega)).trans q4, HY6⟩ (fun hHeld1 => ?_)
      clear hK K
      try simp only [Act.put, List.setIfInBounds_toArray, List.set_cons_zero, List.set_cons_succ]
      refine wpAnyH_take (i := 6) (oi := { dst := some 10, op := Op.assign (Operand.tmp 22), type := 3, pos := "ref.go:33", after := #[{ on := 5, ground := Ground.data }, { on := 5, ground := Ground.chain }, { on := 0, ground := Ground.phase }, { on := 1, ground := Ground.phase }, { on := 2, ground := Ground.phase }, { on := 3, ground := Ground.phase }, { on := 4, ground := Ground.phase }, { on := 5, ground := Ground.phase }], guard := none }) (v := .int .i64 (K2 : Int)) rfl (by kernel_rfl) (by kernel_rfl) (by kernel_rfl) (fun _ _ _ h => h) (Or.inl ⟨by rfl, ?_⟩) hHeld1 ?_
      · (intro w hSw; (try dsimp only at hSw); go_simp)
      try simp only [Act.put, List.setIfInBounds_toArray, List.set_cons_zero, List.set_cons_succ]
      refine wpAnyH_done (by kernel_rfl) ?_ _
      have HQ6 := hidOf ((HY6.out.block _ hbx1).trans HQ1.out)
      have HX6 := hidOf (HX1.out.grow HY6.out)
      have HBw6 := hidOf (HBw1.out.trans (HY6.out.mono (by omega)))
      obtain ⟨ra', rc', hvr, hrd⟩ := OwR.rd (D := w6.heap.size) ck_size (HR1.out.grow HY6.out)
      cases hvr
      obtain ⟨b, off, rfl, hbl, _, _, _, _, y4⟩ := ck_at hrd hy
      have p6 := (HY6.out.cell (p := ⟨pR, 0, none⟩) hpl1).trans p0
      have z4 : w6.cell? ⟨w.heap.size, 4, none⟩ = some (.int .i64 0) := (HY6.out.cell (p := ⟨w.heap.size, 4, none⟩) hbx1).trans q4
      have f4 : w6.frozen? ⟨w.heap.size, 4, none⟩ = false := by have := HQ6.out; simp [World.frozen?, this]
      clear q0 q1 q2 q3 q4 p0 hrd hy hlr hlr2 HR1 HX1 HP1 HQ1 HBw1 HF2 hv
      go_upto_region 6 with (fail)
      obtain ⟨W7, hW7⟩ : ∃ z, z = w6.setCell ⟨w.heap.size, 4, none⟩ (.int .i64 (y.n + 1)) := ⟨_, rfl⟩
      have HQ7 : Hid (W7.heap[w.heap.size]? = some (.cells #[.bool x.dp, .int .i64 x.id, .int .i64 x.ep, .int .i64 x.sq, .int .i64 (y.n + 1)] 76 (0, 0))) := hidOf (by rw [hW7, heap_setCell_same w6 w.heap.size 4 _ 76 (.int .i64 (y.n + 1)) HQ6.out]; rfl)
      have HB7 : Hid (Below w.heap.size w W7) := hidOf (by rw [hW7]; exact HBw6.out.setCell (Nat.le_refl _) _)
      have HX7 : Hid (OwR lo 76 5 ckC W7 (.slice xa X.length xc) X) := hidOf (by rw [hW7]; exact HX6.out.gb (gb_set _ _ _ _) (fun q hq e => by cases hq; have := HXhi.out _ e; omega))
      rw [← hW7]
      have z7 : W7.cell? ⟨w.heap.size, 4, none⟩ = some (.int .i64 (y.n + 1)) := by rw [cell_of_row _ _ 4 _ 76 (0, 0) HQ7.out]; rfl
      have f7 : W7.frozen? ⟨w.heap.size, 4, none⟩ = false := by have := HQ7.out; simp [World.frozen?, this]
      have hs7 := HB7.out.size
      clear hW7 HQ6 HX6 HBw6 p6 z4 f4 y4
      by_cases hye2 : y.n + 1 = e
      · have hgz : e ≤ y.n + 1 := by omega
        have HDN : Hid (_ = _) := hidOf HDN0.out.1
        have HDB : Hid (_ = _) := hidOf HDN0.out.2.symm
        simp only [atM, hye2, if_true, beq_self_eq_true] at HDN HDB
        go_upto_region 9 with (fail)
        obtain ⟨W8, hW8⟩ : ∃ z, z = W7.setCell ⟨w.heap.size, 4, none⟩ (.int .i64 (e - 3)) := ⟨_, rfl⟩
        have HQ8 : Hid (W8.heap[w.heap.size]? = some (.cells #[.bool x.dp, .int .i64 x.id, .int .i64 x.ep, .int .i64 x.sq, .int .i64 (e - 3)] 76 (0, 0))) := hidOf (by rw [hW8, heap_setCell_same W7 w.heap.size 4 _ 76 (.int .i64 (e - 3)) HQ7.out]; rfl)
        have HB8 : Hid (Below w.heap.size w W8) := hidOf (by rw [hW8]; exact HB7.out.setCell (Nat.le_refl _) _)
        have HX8 : Hid (OwR lo 76 5 ckC W8 (.slice xa X.length xc) X) := hidOf (by rw [hW8]; exact HX7.out.gb (gb_set _ _ _ _) (fun q hq e => by cases hq; have := HXhi.out _ e; omega))
        have hs8 := HB8.out.size
        rw [← hW8]
        clear hW8 HQ7 HX7 z7 f7
        go_wp2_with (first | (refine wpList_load_row rfl 76 (.tmp 6) rfl w.heap.size rfl 76 #[.bool x.dp, .int .i64 x.id, .int .i64 x.ep, .int .i64 x.sq, .int .i64 (e - 3)] (0, 0) _ HQ8.out Try.underlying76 rfl (by kernel_rfl) ?_) | (at_builtin; refine wpList_appR _ rfl _ _ 26 rfl lo 76 5 40 Try.underlying26 HIF.out (by decide) ck_size (.slice xa X.length xc) X rfl (HX8.out.grow (below1 _ (.cells #[.bool x.dp, .int .i64 x.id, .int .i64 x.ep, .int .i64 x.sq, .int .i64 (e - 3)] 76))) { x with n := (e - 3) } ⟨W8.heap.size, 0, none⟩ 1 rfl (fun j u hj => cell_news W8 #[.bool x.dp, .int .i64 x.id, .int .i64 x.ep, .int .i64 x.sq, .int .i64 (e - 3)] 76 j u hj) (ck_one _) (by unfold maxLen; omega) (by omega) (by simp; omega) ?_; intro v5 w5 ho5 hg5 hv5; have HO5 := hidOf ho5; have HG5 := hidOf hg5; obtain ⟨a5, c5, hv5e, -⟩ := ho5.slice; subst hv5e; clear ho5 hg5 hv5))
        go_ret2
        refine ⟨_, _, X ++ [{ x with n := (e - 3) }], by rw [← HDB.out, List.length_append]; rfl, HO5.out, (look_snoc (x := { x with n := (e - 3) }) hnx).trans HDN.out.symm, by simp, ?_⟩
        exact (FrT.of_below (HB8.out.trans ((below1 _ _).mono (by omega)))).trans ((HX8.out.grow (below1 _ _)).frt2 HG5.out)
      · have hgz : ¬ e ≤ y.n + 1 := by omega
        have hnb : (y.n + 1 == e) = false := by simp [hye2]
        have HDN : Hid (_ = _) := hidOf HDN0.out.1
        have HDB : Hid (_ = _) := hidOf HDN0.out.2.symm
        simp only [atM, hye2, if_false, hnb] at HDN HDB
        clear hye2 hnb
        go_wp2_with (first | (refine wpList_load_row rfl 76 (.tmp 6) rfl w.heap.size rfl 76 #[.bool x.dp, .int .i64 x.id, .int .i64 x.ep, .int .i64 x.sq, .int .i64 (y.n + 1)] (0, 0) _ HQ7.out Try.underlying76 rfl (by kernel_rfl) ?_) | (at_builtin; refine wpList_appR _ rfl _ _ 26 rfl lo 76 5 40 Try.underlying26 HIF.out (by decide) ck_size (.slice xa X.length xc) X rfl (HX7.out.grow (below1 _ (.cells #[.bool x.dp, .int .i64 x.id, .int .i64 x.ep, .int .i64 x.sq, .int .i64 (y.n + 1)] 76))) { x with n := (y.n + 1) } ⟨W7.heap.size, 0, none⟩ 1 rfl (fun j u hj => cell_news W7 #[.bool x.dp, .int .i64 x.id, .int .i64 x.ep, .int .i64 x.sq, .int .i64 (y.n + 1)] 76 j u hj) (ck_one _) (by unfold maxLen; omega) (by omega) (by simp; omega) ?_; intro v5 w5 ho5 hg5 hv5; have HO5 := hidOf ho5; have HG5 := hidOf hg5; obtain ⟨a5, c5, hv5e, -⟩ := ho5.slice; subst hv5e; clear ho5 hg5 hv5))
        go_ret2
        refine ⟨_, _, X ++ [{ x with n := (y.n + 1) }], by rw [← HDB.out, List.length_append]; rfl, HO5.out, (look_snoc (x := { x with n := (y.n + 1) }) hnx).trans HDN.out.symm, by simp, ?_⟩
        exact (FrT.of_below (HB7.out.trans ((below1 _ _).mono (by omega)))).trans ((HX7.out.grow (below1 _ _)).frt2 HG5.out)
    · have hk2l : K2 = R.length := by have := hF2.le; omega
      have hlr2 : look R (sgOf x) = none := by rw [hlr, List.getElem?_eq_none (by omega)]; rfl
      rw [if_neg hk2] at HF2
      rw [hlr2] at HDN0
      have he0 : ¬ (0 : Int) = e := by omega
      have he0b : ((0 : Int) == e) = false := by simp; omega
      have hgz : ¬ e ≤ (0 : Int) := by omega
      have HDN : Hid (_ = _) := hidOf HDN0.out.1
      have HDB : Hid (_ = _) := hidOf HDN0.out.2.symm
      simp only [atM, he0, if_false, he0b] at HDN HDB
      clear he0 he0b hk2
      refine wp_region_held_drew (S := fun (Y : World) => Y.cell? ⟨pR, 0, none⟩ = some (.slice ra R.length rc) ∧ Y.cell? ⟨w.heap.size, 0, none⟩ = some (.bool x.dp) ∧ Y.cell? ⟨w.heap.size, 1, none⟩ = some (.int .i64 x.id) ∧ Y.cell? ⟨w.heap.size, 2, none⟩ = some (.int .i64 x.ep) ∧ Y.cell? ⟨w.heap.size, 3, none⟩ = some (.int .i64 x.sq) ∧ Y.cell? ⟨w.heap.size, 4, none⟩ = some (.int .i64 0) ∧ Hid (Below w1.heap.size w1 Y)) (by kernel_rfl) ⟨p0, q0, q1, q2, q3, q4, hidOf ((Below.refl _ _).drew)⟩ (fun hHeld => ?_)
      refine wpAnyH_take (i := 0) (oi := { dst := some 17, op := Op.move (Operand.tmp 0), type := 25, pos := "ref.go:33", after := #[], guard := none }) (v := .pointer (some ⟨pR, 0, none⟩)) rfl (by kernel_rfl) (by kernel_rfl) (by kernel_rfl) (fun _ _ _ h => h) (Or.inl ⟨by rfl, ?_⟩) hHeld ?_
      · (intro w hSw; (try dsimp only at hSw); go_simp)
      try simp only [Act.put, List.setIfInBounds_toArray, List.set_cons_zero, List.set_cons_succ]
      refine wpAnyH_take (i := 1) (oi := { dst := some 18, op := Op.nilCheck (Operand.tmp 17), type := 0, pos := "ref.go:33", after := #[{ on := 0, ground := Ground.data }], guard := none }) (v := .pointer (some ⟨pR, 0, none⟩)) rfl (by kernel_rfl) (by kernel_rfl) (by kernel_rfl) (fun _ _ _ h => h) (Or.inl ⟨by rfl, ?_⟩) hHeld ?_
      · (intro w hSw; (try dsimp only at hSw); go_simp)
      try simp only [Act.put, List.setIfInBounds_toArray, List.set_cons_zero, List.set_cons_succ]
      refine wpAnyH_take (i := 2) (oi := { dst := some 19, op := Op.fieldAddr 28 (Operand.tmp 18) 0, type := 0, pos := "ref.go:33", after := #[{ on := 1, ground := Ground.data }], guard := none }) (v := .pointer (some ⟨pR, 0, none⟩)) rfl (by kernel_rfl) (by kernel_rfl) (by kernel_rfl) (fun _ _ _ h => h) (Or.inl ⟨by rfl, ?_⟩) hHeld ?_
      · (intro w hSw; (try dsimp only at hSw); go_simp)
      try simp only [Act.put, List.setIfInBounds_toArray, List.set_cons_zero, List.set_cons_succ]
      refine wpAnyH_take (i := 3) (oi := { dst := some 20, op := Op.load 26 (Operand.tmp 19), type := 26, pos := "ref.go:33", after := #[{ on := 2, ground := Ground.data }], guard := none }) (v := .slice ra R.length rc) rfl (by kernel_rfl) (by kernel_rfl) (by kernel_rfl) (fun _ _ _ h => h) (Or.inl ⟨by rfl, ?_⟩) hHeld ?_
      · (intro w hSw; (try dsimp only at hSw); go_simp)
      try simp only [Act.put, List.setIfInBounds_toArray, List.set_cons_zero, List.set_cons_succ]
      refine wpAnyH_take (i := 4) (oi := { dst := some 21, op := Op.load 76 (Operand.tmp 6), type := 76, pos := "ref.go:33", after := #[], guard := none }) (v := .agg #[.bool x.dp, .int .i64 x.id, .int .i64 x.ep, .int .i64 x.sq, .int .i64 0]) rfl (by kernel_rfl) (by kernel_rfl) (by kernel_rfl) (fun _ _ _ h => h) (Or.inl ⟨by rfl, ?_⟩) hHeld ?_
      · (intro w hSw; (try dsimp only at hSw); go_simp)
      try simp only [Act.put, List.setIfInBounds_toArray, List.set_cons_zero, List.set_cons_succ]
      refine wpAnyH_ready (rs := [5]) (by kernel_rfl) (by simp) ?_
      refine AllReadyH.cons (o := { dst := some 22, op := Op.call { callee := Callee.value (Operand.func 19), args := #[Operand.tmp 20, Operand.tmp 21], argTypes := #[26, 76] }, type := 3, pos := "ref.go:33", after := #[{ on := 3, ground := Ground.data }, { on := 4, ground := Ground.data }], guard := none }) rfl (fun K hK => ?_) AllReadyH.nil
      go_simp
      refine (HF2.out _ (hHeld.2.2.2.2.2.2.out)).mono ?_
      rintro e w6 ⟨rfl, hb6⟩
      have HY6 := hidOf (hHeld.2.2.2.2.2.2.out.trans (hb6.mono hHeld.2.2.2.2.2.2.out.size))
      clear hb6
      refine hK.out _ _ ⟨(HY6.out.cell (p := ⟨pR, 0, none⟩) (by have := hpl1; have := hbx1; omega)).trans p0, (HY6.out.cell (p := ⟨w.heap.size, 0, none⟩) (by have := hpl1; have := hbx1; omega)).trans q0, (HY6.out.cell (p := ⟨w.heap.size, 1, none⟩) (by have := hpl1; have := hbx1; omega)).trans q1, (HY6.out.cell (p := ⟨w.heap.size, 2, none⟩) (by have := hpl1; have := hbx1; omega)).trans q2, (HY6.out.cell (p := ⟨w.heap.size, 3, none⟩) (by have := hpl1; have := hbx1; omega)).trans q3, (HY6.out.cell (p := ⟨w.heap.size, 4, none⟩) (by have := hpl1; have := hbx1; omega)).trans q4, HY6⟩ (fun hHeld1 => ?_)
      clear hK K
      try simp only [Act.put, List.setIfInBounds_toArray, List.set_cons_zero, List.set_cons_succ]
      refine wpAnyH_take (i := 6) (oi := { dst := some 10, op := Op.assign (Operand.tmp 22), type := 3, pos := "ref.go:33", after := #[{ on := 5, ground := Ground.data }, { on := 5, ground := Ground.chain }, { on := 0, ground := Ground.phase }, { on := 1, ground := Ground.phase }, { on := 2, ground := Ground.phase }, { on := 3, ground := Ground.phase }, { on := 4, ground := Ground.phase }, { on := 5, ground := Ground.phase }], guard := none }) (v := .int .i64 (-1)) rfl (by kernel_rfl) (by kernel_rfl) (by kernel_rfl) (fun _ _ _ h => h) (Or.inl ⟨by rfl, ?_⟩) hHeld1 ?_
      · (intro w hSw; (try dsimp only at hSw); go_simp)
      try simp only [Act.put, List.setIfInBounds_toArray, List.set_cons_zero, List.set_cons_succ]
      refine wpAnyH_done (by kernel_rfl) ?_ _
      have HQ6 := hidOf ((HY6.out.block _ hbx1).trans HQ1.out)
      have HX6 := hidOf (HX1.out.grow HY6.out)
      have HBw6 := hidOf (HBw1.out.trans (HY6.out.mono (by omega)))
      have z4 : w6.cell? ⟨w.heap.size, 4, none⟩ = some (.int .i64 0) := (HY6.out.cell (p := ⟨w.heap.size, 4, none⟩) hbx1).trans q4
      have hs6 := HBw6.out.size
      clear q0 q1 q2 q3 q4 p0 hlr HR1 HX1 HP1 HQ1 HBw1 HF2 hv
      go_wp2_with (first | (refine wpList_load_row rfl 76 (.tmp 6) rfl w.heap.size rfl 76 #[.bool x.dp, .int .i64 x.id, .int .i64 x.ep, .int .i64 x.sq, .int .i64 0] (0, 0) _ HQ6.out Try.underlying76 rfl (by kernel_rfl) ?_) | (at_builtin; refine wpList_appR _ rfl _ _ 26 rfl lo 76 5 40 Try.underlying26 HIF.out (by decide) ck_size (.slice xa X.length xc) X rfl (HX6.out.grow (below1 _ (.cells #[.bool x.dp, .int .i64 x.id, .int .i64 x.ep, .int .i64 x.sq, .int .i64 0] 76))) { x with n := 0 } ⟨w6.heap.size, 0, none⟩ 1 rfl (fun j u hj => cell_news w6 #[.bool x.dp, .int .i64 x.id, .int .i64 x.ep, .int .i64 x.sq, .int .i64 0] 76 j u hj) (ck_one _) (by unfold maxLen; omega) (by omega) (by simp; omega) ?_; intro v5 w5 ho5 hg5 hv5; have HO5 := hidOf ho5; have HG5 := hidOf hg5; obtain ⟨a5, c5, hv5e, -⟩ := ho5.slice; subst hv5e; clear ho5 hg5 hv5))
      go_ret2
      refine ⟨_, _, X ++ [{ x with n := 0 }], by rw [← HDB.out, List.length_append]; rfl, HO5.out, (look_snoc (x := { x with n := 0 }) hnx).trans HDN.out.symm, by simp, ?_⟩
      exact (FrT.of_below (HBw6.out.trans ((below1 _ _).mono (by omega)))).trans ((HX6.out.grow (below1 _ _)).frt2 HG5.out)
end Go.Proofs.Ytcdbkieimkcogaa
