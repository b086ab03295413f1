/- A log in memory, and what is read of it. -/
import Derived.Test.YtdkmlgkljhhokaaCpz
import Derived.Deep.Cut
import Derived.Deep.RegionHeld3
import Derived.BigQuiet
import Derived.Deep.QuietTactic
namespace Go.Proofs.Ytdkmlgkljhhokaa
open Go.RowKit

/- only the order was drawn -/
def Dr (w w' : World) : Prop := ∃ n, w' = w.drewN n
theorem Dr.refl (w : World) : Dr w w := ⟨0, rfl⟩
theorem Dr.dn {w w' : World} (h : Dr w w') (n : Nat) : Dr w (w'.drewN n) := by
  obtain ⟨m, rfl⟩ := h
  exact ⟨_, World.drewN_drewN _ _ _⟩
theorem Dr.d {w w' : World} (h : Dr w w') : Dr w w'.drew := by
  obtain ⟨m, rfl⟩ := h
  exact ⟨m + 1, rfl⟩
theorem Dr.bel {w w' : World} (h : Dr w w') : Below w.heap.size w w' := by
  obtain ⟨m, rfl⟩ := h
  exact bdrewN w m
structure LgR (w0 w : World) (ty : TypeId) (p : Nat) (M : Lg) (v : Value) : Prop where
  blk : w.heap[p]? = some (.cells #[.int .i64 M.bi, .int .i64 M.bt, v] ty (0, 0))
  lo : w0.heap.size ≤ p
  own : OwR w0 w v M.L
  wf : Wf M
  len : M.L.length ≤ 33554432
theorem LgR.cells {w0 w : World} {ty : TypeId} {p : Nat} {M : Lg} {v : Value} (h : LgR w0 w ty p M v) : w.cell? ⟨p, 0, none⟩ = some (.int .i64 M.bi) ∧ w.cell? ⟨p, 1, none⟩ = some (.int .i64 M.bt) ∧ w.cell? ⟨p, 2, none⟩ = some v ∧ p < w.heap.size ∧ ∀ o, w.frozen? ⟨p, o, none⟩ = false := by
  refine ⟨?_, ?_, ?_, heap_lt h.blk, fun o => by simp [World.frozen?, h.blk]⟩ <;> rw [cell_of_row _ _ _ _ ty (0, 0) h.blk] <;> rfl
theorem LgR.form {w0 w : World} {ty : TypeId} {p : Nat} {M : Lg} {v : Value} (h : LgR w0 w ty p M v) : ∃ a c, v = .slice a M.L.length c := h.own.es.form
theorem EsR.at {w0 w : World} {v : Value} {L : List En} (h : EsR w0 w v L) {j : Nat} {e : En} (hj : L[j]? = some e) : ∃ b off cap c, v = .slice (some ⟨b, off, none⟩) L.length cap ∧ b < w.heap.size ∧ w.cell? ⟨b, off + j * 29, none⟩ = some (.int .i64 e.ix) ∧ w.cell? ⟨b, off + j * 29 + 1, none⟩ = some (.int .i64 e.tm) ∧ EnR w0 w c e ∧ w.rangeAt b (off + j * 29) c := by
  rcases h with ⟨_, rfl⟩ | ⟨b, off, cap, C, h1, _, h3⟩
  · simp at hj
  · obtain ⟨g1, g2⟩ := h3 j e hj
    exact ⟨b, off, cap, C j, h1, h3.blt (fun e => by subst e; simp at hj), g2 0 _ g1.c0, g2 1 _ g1.c1, g1, g2⟩
theorem LgR.below {w0 w w' : World} {ty : TypeId} {p : Nat} {M : Lg} {v : Value} (h : LgR w0 w ty p M v) (hb : Below w.heap.size w w') : LgR w0 w' ty p M v :=
  ⟨(hb.block p (heap_lt h.blk)).trans h.blk, h.lo, h.own.below (by have := h.lo; have := heap_lt h.blk; omega) hb, h.wf, h.len⟩
theorem LgR.w0le {w0 w : World} {ty : TypeId} {p : Nat} {M : Lg} {v : Value} (h : LgR w0 w ty p M v) : w0.heap.size ≤ w.heap.size := by have := h.lo; have := heap_lt h.blk; omega

section
variable {w0 w : World} {p : Nat} {M : Lg} {v : Value}
theorem base_any (h : LgR w0 w 72 p M v) : Calls Try.prog 21 #[.pointer (some ⟨p, 0, none⟩)] w fun e w' => e = .returned (.tuple #[.int .i64 M.bi, .int .i64 M.bt]) ∧ Dr w w' := by
  obtain ⟨c0, c1, c2, hp, _⟩ := h.cells
  go_enter Try.func21, Try.ntmps21
  go_wp2
  go_quiet (fail)
  go_wp2
  go_ret2
  exact ⟨rfl, by first | exact Dr.refl _ | exact (Dr.refl _).dn _ | exact ((Dr.refl _).dn _).dn _ | exact (((Dr.refl _).dn _).dn _).dn _⟩
theorem lastI_snoc {bi bt : Int} {C : List En} {x : En} (h : Wf ⟨bi, bt, C ++ [x]⟩) : lastI ⟨bi, bt, C ++ [x]⟩ = x.ix ∧ lastT ⟨bi, bt, C ++ [x]⟩ = x.tm := by
  have := h.at (j := C.length) (e := x) (by simp)
  refine ⟨?_, endT_snoc x C bt⟩
  unfold lastI
  simp
  have h2 := this.1
  dsimp only at h2
  omega
theorem last_any (h : LgR w0 w 72 p M v) : Calls Try.prog 16 #[.pointer (some ⟨p, 0, none⟩)] w fun e w' => e = .returned (.tuple #[.int .i64 (lastI M), .int .i64 (lastT M)]) ∧ Dr w w' := by
  have HB := hidOf (base_any h)
  obtain ⟨c0, c1, c2, hp, _⟩ := h.cells
  obtain ⟨va, vc, hv⟩ := h.form
  rcases List.eq_nil_or_concat M.L with e | ⟨C, x, e⟩
  · have HE : Hid (lastI M = M.bi ∧ lastT M = M.bt) := hidOf ⟨by unfold lastI; rw [e]; simp, by unfold lastT; rw [e]; rfl⟩
    rw [HE.out.1, HE.out.2]
    rw [hv, e, List.length_nil] at c2
    clear e hv h
    go_enter Try.func16, Try.ntmps16
    go_wp2_with (go_at_call 21; refine HB.out.mono ?_; rintro e w1 ⟨rfl, nq, rfl⟩)
    go_ret2
    exact ⟨rfl, by first | exact Dr.refl _ | exact (Dr.refl _).dn _ | exact ((Dr.refl _).dn _).dn _ | exact (((Dr.refl _).dn _).dn _).dn _⟩
  · rw [List.concat_eq_append] at e
    have hj : M.L[C.length]? = some x := by rw [e]; simp
    obtain ⟨b, off, cap, c, hv2, hb, d0, d1, _, _⟩ := h.own.es.at hj
    rw [hv] at hv2
    cases hv2
    have HE : Hid (lastI M = x.ix ∧ lastT M = x.tm) := by
      obtain ⟨bi, bt, L⟩ := M
      dsimp only at e
      subst e
      exact hidOf (lastI_snoc h.wf)
    rw [HE.out.1, HE.out.2]
    have hlen : M.L.length = C.length + 1 := by rw [e]; simp
    have hl2 := h.len
    rw [hv, hlen] at c2
    rw [hlen] at hl2
    clear e hv h hj hlen
    generalize C.length = n at *
    obtain ⟨ix, tm, op, id⟩ := x
    dsimp only at d0 d1 ⊢
    go_enter Try.func16, Try.ntmps16
    go_wp2
    go_quiet (fail)
    go_wp2
    go_quiet (fail)
    go_wp2
    go_ret2
    exact ⟨rfl, by first | exact Dr.refl _ | exact (Dr.refl _).dn _ | exact ((Dr.refl _).dn _).dn _ | exact (((Dr.refl _).dn _).dn _).dn _⟩
theorem place_any (h : LgR w0 w 72 p M v) (i : Int) (hi : -4398046511104 ≤ i ∧ i ≤ 4398046511104) : Calls Try.prog 34 #[.pointer (some ⟨p, 0, none⟩), .int .i64 i] w fun e w' => e = .returned (.int .i64 (i - M.bi - 1)) ∧ Dr w w' := by
  obtain ⟨c0, c1, c2, hp, _⟩ := h.cells
  have h1 := h.wf.b0
  have h2 := h.wf.b1
  obtain ⟨i1, i2⟩ := hi
  clear h
  generalize M.bi = bi at *
  go_enter Try.func34, Try.ntmps34
  go_wp2
  go_ret
  exact ⟨rfl, by first | exact Dr.refl _ | exact (Dr.refl _).dn _ | exact ((Dr.refl _).dn _).dn _ | exact (((Dr.refl _).dn _).dn _).dn _⟩
theorem term_any (h : LgR w0 w 72 p M v) (i : Int) : Calls Try.prog 17 #[.pointer (some ⟨p, 0, none⟩), .int .i64 i] w fun e w' => e = .returned (.tuple #[.int .i64 (termT M i), .int .i64 (termE M i)]) ∧ Dr w w' := by
  have HL := hidOf (last_any h)
  obtain ⟨c0, c1, c2, hp, _⟩ := h.cells
  obtain ⟨va, vc, hv⟩ := h.form
  by_cases h1 : i < M.bi
  · have HE : Hid (termT M i = 0 ∧ termE M i = 23) := hidOf ⟨if_pos h1, if_pos h1⟩
    rw [HE.out.1, HE.out.2]
    generalize lastI M = li at *
    generalize lastT M = lt at *
    clear h hv HE
    go_enter Try.func17, Try.ntmps17
    go_wp2_with (go_at_call 16; refine HL.out.mono ?_; rintro e w1 ⟨rfl, nq, rfl⟩)
    go_ret2
    exact ⟨rfl, by first | exact Dr.refl _ | exact (Dr.refl _).dn _ | exact ((Dr.refl _).dn _).dn _ | exact (((Dr.refl _).dn _).dn _).dn _⟩
  · by_cases h2 : lastI M < i
    · have HE : Hid (termT M i = 0 ∧ termE M i = 3) := hidOf ⟨by unfold termT; rw [if_neg h1, if_pos h2], by unfold termE; rw [if_neg h1, if_pos h2]⟩
      rw [HE.out.1, HE.out.2]
      generalize lastI M = li at *
      generalize lastT M = lt at *
      clear h hv HE
      go_enter Try.func17, Try.ntmps17
      go_wp2_with (go_at_call 16; refine HL.out.mono ?_; rintro e w1 ⟨rfl, nq, rfl⟩)
      go_ret2
      exact ⟨rfl, by first | exact Dr.refl _ | exact (Dr.refl _).dn _ | exact ((Dr.refl _).dn _).dn _ | exact (((Dr.refl _).dn _).dn _).dn _⟩
    · by_cases h3 : i = M.bi
      · have HE : Hid (termT M i = M.bt ∧ termE M i = 0) := hidOf ⟨by unfold termT; rw [if_neg h1, if_neg h2, if_pos h3], by unfold termE; rw [if_neg h1, if_neg h2]⟩
        rw [HE.out.1, HE.out.2]
        subst h3
        have h4 := h.wf.lastI_le.1
        generalize lastI M = li at *
        generalize lastT M = lt at *
        clear h hv HE
        go_enter Try.func17, Try.ntmps17
        go_wp2_with (go_at_call 16; refine HL.out.mono ?_; rintro e w1 ⟨rfl, nq, rfl⟩)
        go_ret2
        exact ⟨rfl, by first | exact Dr.refl _ | exact (Dr.refl _).dn _ | exact ((Dr.refl _).dn _).dn _ | exact (((Dr.refl _).dn _).dn _).dn _⟩
      · have hlen : (i - M.bi - 1).toNat < M.L.length := by unfold lastI at h2; omega
        obtain ⟨x, hx⟩ : ∃ x, M.L[(i - M.bi - 1).toNat]? = some x := ⟨_, List.getElem?_eq_getElem hlen⟩
        obtain ⟨j, hj⟩ : ∃ j : Nat, i = M.bi + 1 + j := ⟨(i - M.bi - 1).toNat, by omega⟩
        subst hj
        rw [show (M.bi + 1 + (j : Int) - M.bi - 1).toNat = j by omega] at hx hlen
        obtain ⟨b, off, cap, c, hv2, hb, d0, d1, _, _⟩ := h.own.es.at hx
        rw [hv] at hv2
        cases hv2
        have HE : Hid (termT M (M.bi + 1 + j) = x.tm ∧ termE M (M.bi + 1 + j) = 0) := hidOf ⟨termT_at hx, by unfold termE; rw [if_neg h1, if_neg h2]⟩
        rw [HE.out.1, HE.out.2]
        have HP : Hid (∀ w', Dr w w' → Calls Try.prog 34 #[.pointer (some ⟨p, 0, none⟩), .int .i64 (M.bi + 1 + j)] w' fun e w2 => e = .returned (.int .i64 (j : Int)) ∧ Dr w' w2) := hidOf (fun w' hd => by
          have := place_any (h.below hd.bel) (M.bi + 1 + j) (by have := h.wf.b0; have := h.wf.lastI_le; omega)
          rw [show M.bi + 1 + (j : Int) - M.bi - 1 = (j : Int) by omega] at this
          exact this)
        rw [hv] at c2
        have h4 := h.wf.lastI_le
        generalize hli : lastI M = li at *
        generalize hlt : lastT M = lt at *
        generalize hML : M.L.length = ml at *
        have hbi : (M.bi + 1 + (j : Int) == M.bi) = false := beq_false_of_ne h3
        obtain ⟨bi, bt, L⟩ := M
        dsimp only at *
        have hml : ml ≤ 33554432 := by rw [← hML]; exact h.len
        have hiv : bi + 1 + (j : Int) ≤ li := by omega
        have hib : ¬ bi + 1 + (j : Int) < bi := by omega
        clear h hv HE hx hli hlt hML h1 h2 h3
        obtain ⟨ix, tm, op, id⟩ := x
        dsimp only at d0 d1 ⊢
        generalize hI : bi + 1 + (j : Int) = I at *
        clear hI
        go_enter Try.func17, Try.ntmps17
        go_wp2_with (go_at_call 16; refine HL.out.mono ?_; rintro e w1 ⟨rfl, nq, rfl⟩)
        go_region_held3 (fun w' => w'.cell? ⟨p, 2, none⟩ = some (.slice (some ⟨b, off, none⟩) ml vc) ∧ w'.cell? ⟨b, off + j * 29 + 1, none⟩ = some (.int .i64 tm)) (go_keep) (first | (go_at_call 34; refine (HP.out _ (((Dr.refl w).dn _).d)).mono ?_; rintro e w1 ⟨rfl, nq2, rfl⟩))
        go_wp2
        go_ret2
        exact ⟨rfl, by first | exact Dr.refl _ | exact (Dr.refl _).dn _ | exact ((Dr.refl _).dn _).dn _ | exact (((Dr.refl _).dn _).dn _).dn _⟩
theorem has_any (h : LgR w0 w 72 p M v) (i t : Int) : Calls Try.prog 35 #[.pointer (some ⟨p, 0, none⟩), .int .i64 i, .int .i64 t] w fun e w' => e = .returned (.bool (hasB M i t)) ∧ Dr w w' := by
  have HT := hidOf (term_any h i)
  have HH : Hid (hasB M i t = (decide (termE M i = 0) && decide (termT M i = t))) := hidOf rfl
  rw [HH.out]
  generalize termT M i = tt at *
  generalize termE M i = te at *
  clear h HH
  by_cases h1 : te = 0
  · subst h1
    go_enter Try.func35, Try.ntmps35
    go_wp2_with (go_at_call 17; refine HT.out.mono ?_; rintro e w1 ⟨rfl, nq, rfl⟩)
    go_ret
    exact ⟨by simp; rfl, by first | exact Dr.refl _ | exact (Dr.refl _).dn _ | exact ((Dr.refl _).dn _).dn _⟩
  · have hb : (te == 0) = false := beq_false_of_ne h1
    go_enter Try.func35, Try.ntmps35
    go_wp2_with (go_at_call 17; refine HT.out.mono ?_; rintro e w1 ⟨rfl, nq, rfl⟩)
    go_ret
    exact ⟨by simp [h1], by first | exact Dr.refl _ | exact (Dr.refl _).dn _ | exact ((Dr.refl _).dn _).dn _⟩
end
end Go.Proofs.Ytdkmlgkljhhokaa
