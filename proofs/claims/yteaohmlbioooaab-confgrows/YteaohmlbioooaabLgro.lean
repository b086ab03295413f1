/- ConfGrows, walked. -/
import Derived.Test.YteaohmlbioooaabCliv
import Derived.Test.YteaohmlbioooaabCopn
import Derived.Deep.RegionHeld3
import Derived.Deep.Cut
namespace Go.Proofs.Yteaohmlbioooaab
open Go.RowKit

/- the numbers l lie behind a, in a block below B -/
structure IntsU (B : Nat) (w : World) (a : Option Addr) (l : List Int) : Prop where
  len : l.length ≤ 17592186044416
  cells : l ≠ [] → ∃ b off, a = some ⟨b, off, none⟩ ∧ b < B ∧ ∀ j, j < l.length → w.cell? ⟨b, off + j, none⟩ = some (.int .i64 (nth l j))
theorem IntsU.ints {B : Nat} {w : World} {a : Option Addr} {l : List Int} (h : IntsU B w a l) (hB : B ≤ w.heap.size) : Ints w a l := by
  refine ⟨h.len, fun hne => ?_⟩
  obtain ⟨b, off, h1, h2, h3⟩ := h.cells hne
  exact ⟨b, off, h1, Nat.lt_of_lt_of_le h2 hB, h3⟩
theorem Ints.up {w : World} {a : Option Addr} {l : List Int} (h : Ints w a l) : IntsU w.heap.size w a l := ⟨h.len, h.cells⟩
theorem IntsU.keep {B : Nat} {w w' : World} {a : Option Addr} {l : List Int} (h : IntsU B w a l) (hb : Below B w w') : IntsU B w' a l := by
  refine ⟨h.len, fun hne => ?_⟩
  obtain ⟨b, off, h1, h2, h3⟩ := h.cells hne
  exact ⟨b, off, h1, h2, fun j hj => (hb.cell (p := ⟨b, off + j, none⟩) h2).trans (h3 j hj)⟩
/- servers in the first new block, their lists in blocks below B -/
structure Cq (w wk : World) (B : Nat) (av al : Option Addr) (V L : List Int) (cv cl : Nat) : Prop where
  v : IntsU B wk av V
  l : IntsU B wk al L
  bx : Bx wk w.heap.size (.slice av V.length cv) (.slice al L.length cl)
  nb : w.heap.size < B
  bs : B ≤ wk.heap.size
  bel : Below w.heap.size w wk
theorem Cq.cs {w wk : World} {B : Nat} {av al : Option Addr} {V L : List Int} {cv cl : Nat} (h : Cq w wk B av al V L cv cl) : Cs w wk w.heap.size av al V L cv cl := ⟨⟨h.v.ints h.bs, h.l.ints h.bs⟩, h.bx, h.bel⟩
theorem Cs.cq {w wk : World} {av al : Option Addr} {V L : List Int} {cv cl : Nat} (h : Cs w wk w.heap.size av al V L cv cl) : Cq w wk wk.heap.size av al V L cv cl := ⟨h.cf.v.up, h.cf.l.up, h.bx, h.bx.lt, Nat.le_refl _, h.bel⟩
theorem Cq.keep {w wk w' : World} {B : Nat} {av al : Option Addr} {V L : List Int} {cv cl : Nat} (h : Cq w wk B av al V L cv cl) (hb : Below B wk w') : Cq w w' B av al V L cv cl :=
  ⟨h.v.keep hb, h.l.keep hb, (hb.block _ h.nb).trans h.bx, h.nb, Nat.le_trans h.bs hb.size, h.bel.trans (hb.mono (Nat.le_of_lt h.nb))⟩
theorem Bx.other {w : World} {k k' : Nat} {x y : Value} (h : Bx w k x y) (hk : k ≠ k') (u v : Value) : Bx ((w.setCell ⟨k', 0, none⟩ u).setCell ⟨k', 1, none⟩ v) k x y := by
  show _ = _
  rw [Below.heap_setCell _ ⟨k', 1, none⟩ _ k hk, Below.heap_setCell _ ⟨k', 0, none⟩ _ k hk]
  exact h
theorem Row.up {w w1 : World} {D n : Nat} {a : Option Addr} {cap : Nat} {l : List Int} (h : Row w D (.slice a l.length cap) l) (hb : Below w.heap.size w w1) (hn : n < D) (u v : Value) : IntsU w.heap.size ((w1.setCell ⟨n, 0, none⟩ u).setCell ⟨n, 1, none⟩ v) a l := by
  obtain ⟨a', cap', e, hi, _, hD, _⟩ := h.slice
  injection e with e1 _ _
  subst e1
  refine ⟨hi.len, fun hne => ?_⟩
  obtain ⟨b, off, h1, h2, h3⟩ := hi.cells hne
  refine ⟨b, off, h1, h2, fun j hj => ?_⟩
  have hbn := (hD _ h1).1
  have hk : b ≠ n := by show b ≠ n; exact fun e => by rw [e] at hbn; exact absurd hbn (by show ¬ D ≤ n; omega)
  have : ((w1.setCell ⟨n, 0, none⟩ u).setCell ⟨n, 1, none⟩ v).heap[b]? = w1.heap[b]? := by
    rw [Below.heap_setCell _ ⟨n, 1, none⟩ _ b hk, Below.heap_setCell _ ⟨n, 0, none⟩ _ b hk]
  rw [World.cell?_of_block (a := ⟨b, off + j, none⟩) this, hb.cell (p := ⟨b, off + j, none⟩) h2]
  exact h3 j hj
theorem Cs.put {w wk w1 : World} {av al : Option Addr} {V L : List Int} {cv cl : Nat} (h : Cs w wk w.heap.size av al V L cv cl) (hb : Below wk.heap.size wk w1) {D : Nat} (hD : w.heap.size < D) {a b : Option Addr} {V' L' : List Int} {c d : Nat}
    (r1 : Row wk D (.slice a V'.length c) V') (r2 : Row wk D (.slice b L'.length d) L') : Cq w ((w1.setCell ⟨w.heap.size, 0, none⟩ (.slice a V'.length c)).setCell ⟨w.heap.size, 1, none⟩ (.slice b L'.length d)) wk.heap.size a b V' L' c d :=
  ⟨r1.up hb hD _ _, r2.up hb hD _ _, (h.bx.grow hb).set _ _, h.bx.lt, by simp only [World.size_setCell]; exact hb.size, ((below_then h.bel hb).setCell (Nat.le_refl _) _).setCell (Nat.le_refl _) _⟩

theorem below_set (w : World) (n : Nat) (x y : Value) : Below n w ((w.setCell ⟨n, 0, none⟩ x).setCell ⟨n, 1, none⟩ y) :=
  ((Below.refl n w).setCell (p := ⟨n, 0, none⟩) (Nat.le_refl _) x).setCell (p := ⟨n, 1, none⟩) (Nat.le_refl _) y
theorem row_other {wk : World} {D n : Nat} {v : Value} {l : List Int} (h : Row wk D v l) (hD : n < D) (x y : Value) : Row ((wk.setCell ⟨n, 0, none⟩ x).setCell ⟨n, 1, none⟩ y) D v l := by
  refine ⟨⟨h.own.1, ?_⟩, h.len⟩
  rcases h.own.2 with h2 | ⟨g, cap, cur, rfl, h3, h4, h5⟩
  · exact .inl h2
  · refine .inr ⟨g, cap, cur, rfl, h3, ?_, h5⟩
    rw [Below.heap_setCell _ ⟨n, 1, none⟩ _ g (by show g ≠ n; omega), Below.heap_setCell _ ⟨n, 0, none⟩ _ g (by show g ≠ n; omega)]
    exact h4
theorem Row.ints {w : World} {D : Nat} {a : Option Addr} {n cap : Nat} {l : List Int} (h : Row w D (.slice a n cap) l) : Ints w a l := by
  obtain ⟨a', cap', e, hi, _, _, _⟩ := h.slice
  injection e with e1 _ _
  subst e1
  exact hi
theorem Ints.head {w : World} {b off : Nat} {t : Int} (h : Ints w (some ⟨b, off, none⟩) [t]) : w.cell? ⟨b, off, none⟩ = some (.int .i64 t) := by
  obtain ⟨b', off', e, _, hc⟩ := h.at (k := 0) (by simp)
  cases e
  exact hc 0 (by simp)
theorem may_add {U M : List Int} (h : MayP U M) {s : Int} (h1 : 1 ≤ s) (h5 : s ≤ 5) (hu : s ∉ U) (hm : s ∉ M) : MayP U (wth M s) :=
  ⟨h.1, h.2.1, h.2.2.1.wth h1 h5 hm, fun x hx hy => by
    rcases (wth_mem M s x).1 hy with hy | rfl
    · exact h.2.2.2 x hx hy
    · exact hu hx⟩
theorem may_pro {U M : List Int} (h : MayP U M) {s : Int} (hm : s ∈ M) : MayP (wth U s) (wto M s) := by
  have hs := h.2.2.1.2 s hm
  refine ⟨fun e => ?_, h.2.1.wth hs.1 hs.2 (fun hu => h.2.2.2 s hu hm), h.2.2.1.wto s, fun x hx hy => ?_⟩
  · have : s ∈ wth U s := (wth_mem U s s).2 (Or.inr rfl)
    rw [e] at this; cases this
  · obtain ⟨y1, y2⟩ := (wto_mem M s x).1 hy
    rcases (wth_mem U s x).1 hx with hx | rfl
    · exact h.2.2.2 x hx y1
    · exact y2 rfl
theorem sgl_of {U M U' M' : List Int} (h : MayP U M) (h' : MayP U' M') (s : Int) (hd : ∀ x, x ≠ s → (x ∈ U ↔ x ∈ U')) : sglB U M U' M' = true := by
  unfold sglB
  rw [(may_iff U M).2 h, (may_iff U' M').2 h', decide_eq_true (dif_le s hd 5)]
  rfl
theorem pro_all {U M : List Int} {k : Nat} (h : MayP U M) (hin : ∀ j : Int, 1 ≤ j → j ≤ k → j ∈ U) (hm : ((k : Int) + 1) ∈ M) :
    proB U M ((k : Int) + 1) = true ∧ sglB U M (wth U ((k : Int) + 1)) (wto M ((k : Int) + 1)) = true ∧ (wth U ((k : Int) + 1)).contains ((k : Int) + 1) = true ∧ MayP (wth U ((k : Int) + 1)) (wto M ((k : Int) + 1)) ∧ ∀ j : Int, 1 ≤ j → j ≤ ((k + 1 : Nat) : Int) → j ∈ wth U ((k : Int) + 1) := by
  have hp := may_pro h hm
  refine ⟨?_, sgl_of h hp ((k : Int) + 1) (fun x hx => ?_), contains_eq.2 ((wth_mem _ _ _).2 (Or.inr rfl)), hp, fun j h1 h2 => ?_⟩
  · unfold proB
    rw [(may_iff U M).2 h, contains_eq.2 hm]; rfl
  · rw [wth_mem]
    exact ⟨Or.inl, fun h => h.elim id (fun e => absurd e hx)⟩
  · rw [wth_mem]
    by_cases e : j = (k : Int) + 1
    · exact Or.inr e
    · exact Or.inl (hin j h1 (by omega))
theorem add_parts {U M : List Int} {s : Int} (h : addB U M s = true) : 1 ≤ s ∧ s ≤ 5 ∧ s ∉ U ∧ s ∉ M := by
  unfold addB at h
  simp only [Bool.and_eq_true, decide_eq_true_eq, Bool.not_eq_true', contains_no] at h
  exact ⟨h.2.1, h.2.2.1, h.2.2.2.1, h.2.2.2.2⟩
theorem grow_new {U M : List Int} {k : Nat} (h : MayP U M) (hin : ∀ j : Int, 1 ≤ j → j ≤ k → j ∈ U) (_hk : (k : Int) + 1 ≤ 5) (ha : addB U M ((k : Int) + 1) = true) :
    proB U (wth M ((k : Int) + 1)) ((k : Int) + 1) = true ∧ sglB U (wth M ((k : Int) + 1)) (wth U ((k : Int) + 1)) (wto (wth M ((k : Int) + 1)) ((k : Int) + 1)) = true ∧ (wth U ((k : Int) + 1)).contains ((k : Int) + 1) = true ∧ MayP (wth U ((k : Int) + 1)) (wto (wth M ((k : Int) + 1)) ((k : Int) + 1)) ∧ ∀ j : Int, 1 ≤ j → j ≤ ((k + 1 : Nat) : Int) → j ∈ wth U ((k : Int) + 1) := by
  obtain ⟨h1, h5, hu, hm⟩ := add_parts ha
  exact pro_all (may_add h h1 h5 hu hm) hin ((wth_mem _ _ _).2 (Or.inr rfl))
theorem grow_old {U M : List Int} {k : Nat} (h : MayP U M) (hin : ∀ j : Int, 1 ≤ j → j ≤ k → j ∈ U) (_hk : (k : Int) + 1 ≤ 5) (hm : M.contains ((k : Int) + 1) = true) :
    proB U M ((k : Int) + 1) = true ∧ sglB U M (wth U ((k : Int) + 1)) (wto M ((k : Int) + 1)) = true ∧ (wth U ((k : Int) + 1)).contains ((k : Int) + 1) = true ∧ MayP (wth U ((k : Int) + 1)) (wto M ((k : Int) + 1)) ∧ ∀ j : Int, 1 ≤ j → j ≤ ((k + 1 : Nat) : Int) → j ∈ wth U ((k : Int) + 1) :=
  pro_all h hin (contains_eq.1 hm)
theorem grow_not {U M : List Int} {k : Nat} (h : MayP U M) (hin : ∀ j : Int, 1 ≤ j → j ≤ k → j ∈ U) (hk : (k : Int) + 1 ≤ 5) (ha : addB U M ((k : Int) + 1) = false) (hm : M.contains ((k : Int) + 1) = false) :
    proB U M ((k : Int) + 1) = false ∧ U.contains ((k : Int) + 1) = true ∧ ∀ j : Int, 1 ≤ j → j ≤ ((k + 1 : Nat) : Int) → j ∈ U := by
  have hu : U.contains ((k : Int) + 1) = true := by
    unfold addB at ha
    rw [(may_iff U M).2 h, decide_eq_true (show 1 ≤ (k : Int) + 1 by omega), decide_eq_true hk, hm] at ha
    simpa using ha
  refine ⟨by unfold proB; rw [hm, Bool.and_false], hu, fun j h1 h2 => ?_⟩
  by_cases e : j = (k : Int) + 1
  · rw [e]; exact contains_eq.1 hu
  · exact hin j h1 (by omega)
theorem grow_all {U M : List Int} (h : MayP U M) (hin : ∀ j : Int, 1 ≤ j → j ≤ ((5 : Nat) : Int) → j ∈ U) : U = [1, 2, 3, 4, 5] ∧ M = [] := by
  constructor
  · refine h.2.1.ext ⟨by decide, fun x hx => ?_⟩ fun x => ⟨fun hx => ?_, fun hx => ?_⟩
    · simp only [List.mem_cons, List.not_mem_nil, or_false] at hx; omega
    · have := h.2.1.2 x hx
      simp only [List.mem_cons, List.not_mem_nil, or_false]; omega
    · simp only [List.mem_cons, List.not_mem_nil, or_false] at hx
      exact hin x (by omega) (by omega)
  · apply List.eq_nil_iff_forall_not_mem.2
    intro x hx
    have := h.2.2.1.2 x hx
    exact h.2.2.2 x (hin x (by omega) (by omega)) hx
/- the voters that are left behind k steps -/
def fv (t : Int) (k : Nat) : List Int := [1, 2, 3, 4, 5].filter (fun x => decide ((k : Int) < x) || x == t)
theorem fv_zero {t : Int} (_h : 1 ≤ t) : fv t 0 = [1, 2, 3, 4, 5] := by
  unfold fv
  rw [List.filter_eq_self]
  intro x hx
  simp only [List.mem_cons, List.not_mem_nil, or_false] at hx
  rw [decide_eq_true (show ((0 : Nat) : Int) < x by omega)]; rfl
theorem fv_skip {t : Int} {k : Nat} (h : (k : Int) + 1 = t) : fv t k = fv t (k + 1) := by
  unfold fv
  apply List.filter_congr
  intro x _
  rw [Bool.eq_iff_iff]
  simp only [Bool.or_eq_true, decide_eq_true_eq, beq_iff_eq]
  omega
theorem fv_step {t : Int} {k : Nat} (h1 : 1 ≤ t) (h5 : t ≤ 5) (hk : k < 5) (hne : ¬ (k : Int) + 1 = t) : remB (fv t k) [] ((k : Int) + 1) = true ∧ sglB (fv t k) [] (fv t (k + 1)) [] = true ∧ mayB (fv t (k + 1)) [] = true ∧ wto (fv t k) ((k : Int) + 1) = fv t (k + 1) := by
  have ht : t = 1 ∨ t = 2 ∨ t = 3 ∨ t = 4 ∨ t = 5 := by omega
  have hk' : k = 0 ∨ k = 1 ∨ k = 2 ∨ k = 3 ∨ k = 4 := by omega
  rcases hk' with rfl | rfl | rfl | rfl | rfl <;> rcases ht with rfl | rfl | rfl | rfl | rfl <;> first | exact absurd rfl hne | decide
theorem fv_five {t : Int} (h1 : 1 ≤ t) (h5 : t ≤ 5) : fv t 5 = [t] := by
  have ht : t = 1 ∨ t = 2 ∨ t = 3 ∨ t = 4 ∨ t = 5 := by omega
  rcases ht with rfl | rfl | rfl | rfl | rfl <;> decide
theorem rem_one (t : Int) : remB [t] [] t = false := by
  unfold remB
  rw [show [t].contains t = true from by simp]
  simp
set_option maxHeartbeats 8000000 in
theorem lawGrows (w : World) (av al : Option Addr) (V L : List Int) (cv cl : Nat) (hV : Ints w av V) (hL : Ints w al L) (_bV : V.length ≤ 17592186043904) (_bL : L.length ≤ 17592186043904) (_kV : V.length ≤ cv) (_kL : L.length ≤ cl) (_wV : Wf V) (_wL : Wf L) (last : Int) (hl : (Lit.int .i64 last).wf = true) : Calls Try.prog 3 #[.agg #[.slice av V.length cv, .slice al L.length cl], .int .i64 last] w fun e w' => e = .returned (.bool true) ∧ Below w.heap.size w w' := by
  obtain ⟨hl1, hl2⟩ := bounds_i64 hl
  clear hl
  have H0 := hidOf (Cs.begin cv cl ⟨hV, hL⟩)
  have hm := may_any _ av al V L cv cl H0.out.cf
  clear hV hL
  cases e1 : mayB V L with
  | false =>
    rw [e1] at hm
    have HM := hidOf hm
    clear hm e1
    go_enter Try.func3, Try.ntmps3
    go_wp2_with (first
      | (go_at_call 6; refine HM.out.mono ?_; rintro e w1 ⟨rfl, hb⟩; have H1 := hidOf (H0.out.grow hb); clear hb)
      | (go_at_call 7; refine (lives_any _).mono ?_; rintro e wl ⟨rfl, hb⟩; have HBL := hidOf hb; clear hb))
    go_ret
    exact ⟨rfl, below_then H1.out.bel HBL.out⟩
  | true =>
    rw [e1] at hm
    have HM := hidOf hm
    have HMP := hidOf ((may_iff V L).1 e1)
    clear hm e1
    by_cases h0 : last < 0
    · obtain ⟨m, hm⟩ : ∃ m : Int, -(last + 1) = m := ⟨_, rfl⟩
      have hm0 : 0 ≤ m := by omega
      have ht1 : 1 ≤ 1 + m % 5 := by omega
      have ht5 : 1 + m % 5 ≤ 5 := by omega
      go_enter Try.func3, Try.ntmps3
      go_upto_region 6 with (go_at_call 6; refine HM.out.mono ?_; rintro e w1 ⟨rfl, hb⟩; have H1 := hidOf (H0.out.grow hb); clear hb)
      clear hm
      generalize 1 + m % 5 = t at ht1 ht5 ⊢
      go_wp2_with (fail)
      go_loopw [5] (fun i wr => ∃ k : Nat, i = .int .i64 ((k : Int) + 1) ∧ k ≤ 5 ∧ Hid (∃ pv pl U M cu cm, Cs w wr w.heap.size pv pl U M cu cm ∧ MayP U M ∧ ∀ j : Int, 1 ≤ j → j ≤ k → j ∈ U)) (fun i _ => 6 - (intOf i).toNat)
      case atStart => exact ⟨0, rfl, Nat.zero_le _, hidOf ⟨av, al, V, L, cv, cl, H1.out, HMP.out, fun j h1 h2 => absurd h1 (by omega)⟩⟩
      case round =>
        obtain ⟨k, rfl, hk, HG⟩ := hrel
        obtain ⟨pv, pl, U, M, cu, cm, hC, hP, hIN⟩ := HG.out
        have HC := hidOf hC
        have HP := hidOf hP
        have HIN := hidOf hIN
        clear hC hP hIN HG
        by_cases hlt : k < 5
        · have hltz : (k : Int) + 1 ≤ 5 := by omega
          have hk5 : (k : Int) + 1 ≤ 5 := hltz
          cases e1 : addB U M ((k : Int) + 1) with
          | true =>
            have HAY := hidOf (add_yes wr pv pl U M cu cm ((k : Int) + 1) HC.out.cf e1)
            obtain ⟨HPB, HSB, HVB, HGM, HGI⟩ := grow_new HP.out HIN.out hk5 e1
            replace HPB := hidOf HPB
            replace HSB := hidOf HSB
            replace HVB := hidOf HVB
            replace HGM := hidOf HGM
            replace HGI := hidOf HGI
            clear e1
            have c0 : wr.cell? ⟨w.heap.size, 0, none⟩ = _ := HC.out.bx.c0
            have c1 : wr.cell? ⟨w.heap.size, 1, none⟩ = _ := HC.out.bx.c1
            have lt : w.heap.size < wr.heap.size := HC.out.bx.lt
            have fr : ∀ j, wr.frozen? ⟨w.heap.size, j, none⟩ = false := HC.out.bx.fr
            go_upto_region 12 with (go_at_call 8; refine HAY.out.mono ?_; rintro e w2 ⟨a1, k1, a2, k2, rfl, hr1, hr2, hb⟩; have HC2 := hidOf (HC.out.grow hb); have HR1 := hidOf hr1; have HR2 := hidOf hr2; clear hr1 hr2 hb; clear c0 c1 lt fr; have c0 : (w2.alloc (.cells #[.slice a1 U.length k1, .slice a2 (wth M ((k : Int) + 1)).length k2] 24)).cell? ⟨w.heap.size, 0, none⟩ = _ := (HC2.out.bx.grow (below1 w2 _)).c0; have c1 : (w2.alloc (.cells #[.slice a1 U.length k1, .slice a2 (wth M ((k : Int) + 1)).length k2] 24)).cell? ⟨w.heap.size, 1, none⟩ = _ := (HC2.out.bx.grow (below1 w2 _)).c1; have lt : w.heap.size < (w2.alloc (.cells #[.slice a1 U.length k1, .slice a2 (wth M ((k : Int) + 1)).length k2] 24)).heap.size := (HC2.out.bx.grow (below1 w2 _)).lt; have fr : ∀ j, (w2.alloc (.cells #[.slice a1 U.length k1, .slice a2 (wth M ((k : Int) + 1)).length k2] 24)).frozen? ⟨w.heap.size, j, none⟩ = false := (HC2.out.bx.grow (below1 w2 _)).fr)
            obtain ⟨w3, hw3⟩ : ∃ x, x = ((w2.alloc (.cells #[.slice a1 U.length k1, .slice a2 (wth M ((k : Int) + 1)).length k2] 24)).setCell ⟨w.heap.size, 0, none⟩ (.slice a1 U.length k1)).setCell ⟨w.heap.size, 1, none⟩ (.slice a2 (wth M ((k : Int) + 1)).length k2) := ⟨_, rfl⟩
            have HQ : Hid (Cq w w3 w2.heap.size a1 a2 U (wth M ((k : Int) + 1)) k1 k2) := hidOf (by rw [hw3]; exact HC2.out.put (below1 w2 _) HC.out.bx.lt HR1.out HR2.out)
            have HD : Hid (Bx w3 w2.heap.size (.slice a1 U.length k1) (.slice a2 (wth M ((k : Int) + 1)).length k2)) := hidOf (by rw [hw3]; exact (bx_new w2 _ _).other (Nat.ne_of_gt HC2.out.bx.lt) _ _)
            rw [← hw3]
            clear hw3
            clear c0 c1 lt fr
            have HPR := hidOf (promote_yes w3 a1 a2 U (wth M ((k : Int) + 1)) k1 k2 ((k : Int) + 1) HQ.out.cs.cf HPB.out)
            have c0 : w3.cell? ⟨w.heap.size, 0, none⟩ = _ := HQ.out.bx.c0
            have c1 : w3.cell? ⟨w.heap.size, 1, none⟩ = _ := HQ.out.bx.c1
            have lt : w.heap.size < w3.heap.size := HQ.out.bx.lt
            have fr : ∀ j, w3.frozen? ⟨w.heap.size, j, none⟩ = false := HQ.out.bx.fr
            have dc0 : w3.cell? ⟨w2.heap.size, 0, none⟩ = _ := HD.out.c0
            have dc1 : w3.cell? ⟨w2.heap.size, 1, none⟩ = _ := HD.out.c1
            have dlt : w2.heap.size < w3.heap.size := HD.out.lt
            have dfr : ∀ j, w3.frozen? ⟨w2.heap.size, j, none⟩ = false := HD.out.fr
            go_upto_region 14 with (go_at_call 9; refine HPR.out.mono ?_; rintro e w4 ⟨a3, k3, a4, k4, rfl, hr3, hr4, hb⟩; have HQ4 := hidOf (HQ.out.keep (hb.mono HQ.out.bs)); have HD4 := hidOf (HD.out.grow hb); have HR3 := hidOf hr3; have HR4 := hidOf hr4; have HB4 := hidOf hb; clear hr3 hr4 hb; clear c0 c1 lt fr; clear dc0 dc1 dlt dfr; have c0 : w4.cell? ⟨w.heap.size, 0, none⟩ = _ := HQ4.out.bx.c0; have c1 : w4.cell? ⟨w.heap.size, 1, none⟩ = _ := HQ4.out.bx.c1; have lt : w.heap.size < w4.heap.size := HQ4.out.bx.lt; have fr : ∀ j, w4.frozen? ⟨w.heap.size, j, none⟩ = false := HQ4.out.bx.fr; have dc0 : w4.cell? ⟨w2.heap.size, 0, none⟩ = _ := HD4.out.c0; have dc1 : w4.cell? ⟨w2.heap.size, 1, none⟩ = _ := HD4.out.c1; have dlt : w2.heap.size < w4.heap.size := HD4.out.lt; have dfr : ∀ j, w4.frozen? ⟨w2.heap.size, j, none⟩ = false := HD4.out.fr)
            obtain ⟨w5, hw5⟩ : ∃ x, x = (w4.setCell ⟨w2.heap.size, 0, none⟩ (.slice a3 (wth U ((k : Int) + 1)).length k3)).setCell ⟨w2.heap.size, 1, none⟩ (.slice a4 (wto (wth M ((k : Int) + 1)) ((k : Int) + 1)).length k4) := ⟨_, rfl⟩
            have HQ5 : Hid (Cq w w5 w2.heap.size a1 a2 U (wth M ((k : Int) + 1)) k1 k2) := hidOf (by rw [hw5]; exact HQ4.out.keep (below_set _ _ _ _))
            have HD5 : Hid (Bx w5 w2.heap.size (.slice a3 (wth U ((k : Int) + 1)).length k3) (.slice a4 (wto (wth M ((k : Int) + 1)) ((k : Int) + 1)).length k4)) := hidOf (by rw [hw5]; exact HD4.out.set _ _)
            have HR35 : Hid (Row w5 w3.heap.size (.slice a3 (wth U ((k : Int) + 1)).length k3) (wth U ((k : Int) + 1))) := hidOf (by rw [hw5]; exact row_other HR3.out HD.out.lt _ _)
            have HR45 : Hid (Row w5 w3.heap.size (.slice a4 (wto (wth M ((k : Int) + 1)) ((k : Int) + 1)).length k4) (wto (wth M ((k : Int) + 1)) ((k : Int) + 1))) := hidOf (by rw [hw5]; exact row_other HR4.out HD.out.lt _ _)
            rw [← hw5]
            clear hw5
            clear c0 c1 lt fr
            clear dc0 dc1 dlt dfr
            have hsg := single_any w5 a1 a2 U (wth M ((k : Int) + 1)) k1 k2 a3 a4 (wth U ((k : Int) + 1)) (wto (wth M ((k : Int) + 1)) ((k : Int) + 1)) k3 k4 HQ5.out.cs.cf ⟨HR35.out.ints, HR45.out.ints⟩
            rw [HSB.out] at hsg
            have HSG := hidOf hsg
            clear hsg
            have c0 : w5.cell? ⟨w.heap.size, 0, none⟩ = _ := HQ5.out.bx.c0
            have c1 : w5.cell? ⟨w.heap.size, 1, none⟩ = _ := HQ5.out.bx.c1
            have lt : w.heap.size < w5.heap.size := HQ5.out.bx.lt
            have fr : ∀ j, w5.frozen? ⟨w.heap.size, j, none⟩ = false := HQ5.out.bx.fr
            have dc0 : w5.cell? ⟨w2.heap.size, 0, none⟩ = _ := HD5.out.c0
            have dc1 : w5.cell? ⟨w2.heap.size, 1, none⟩ = _ := HD5.out.c1
            have dlt : w2.heap.size < w5.heap.size := HD5.out.lt
            have dfr : ∀ j, w5.frozen? ⟨w2.heap.size, j, none⟩ = false := HD5.out.fr
            go_upto_region 17 with (go_at_call 10; refine HSG.out.mono ?_; rintro e w6 ⟨rfl, hb⟩; have HC6 := hidOf (HQ5.out.cs.grow hb); have HD6 := hidOf (HD5.out.grow hb); have HR36 := hidOf (HR35.out.grow hb); have HR46 := hidOf (HR45.out.grow hb); clear hb; clear c0 c1 lt fr; clear dc0 dc1 dlt dfr; have c0 : w6.cell? ⟨w.heap.size, 0, none⟩ = _ := HC6.out.bx.c0; have c1 : w6.cell? ⟨w.heap.size, 1, none⟩ = _ := HC6.out.bx.c1; have lt : w.heap.size < w6.heap.size := HC6.out.bx.lt; have fr : ∀ j, w6.frozen? ⟨w.heap.size, j, none⟩ = false := HC6.out.bx.fr; have dc0 : w6.cell? ⟨w2.heap.size, 0, none⟩ = _ := HD6.out.c0; have dc1 : w6.cell? ⟨w2.heap.size, 1, none⟩ = _ := HD6.out.c1; have dlt : w2.heap.size < w6.heap.size := HD6.out.lt; have dfr : ∀ j, w6.frozen? ⟨w2.heap.size, j, none⟩ = false := HD6.out.fr)
            obtain ⟨w7, hw7⟩ : ∃ x, x = (w6.setCell ⟨w.heap.size, 0, none⟩ (.slice a3 (wth U ((k : Int) + 1)).length k3)).setCell ⟨w.heap.size, 1, none⟩ (.slice a4 (wto (wth M ((k : Int) + 1)) ((k : Int) + 1)).length k4) := ⟨_, rfl⟩
            have HQ7 : Hid (Cq w w7 w6.heap.size a3 a4 (wth U ((k : Int) + 1)) (wto (wth M ((k : Int) + 1)) ((k : Int) + 1)) k3 k4) := hidOf (by rw [hw7]; exact HC6.out.put (Below.refl _ _) (Nat.lt_of_lt_of_le HQ.out.nb HQ.out.bs) HR36.out HR46.out)
            rw [← hw7]
            clear hw7
            clear c0 c1 lt fr
            clear dc0 dc1 dlt dfr
            have hvo := voter_any w7 a3 a4 (wth U ((k : Int) + 1)) (wto (wth M ((k : Int) + 1)) ((k : Int) + 1)) k3 k4 ((k : Int) + 1) HQ7.out.cs.cf.v
            rw [HVB.out] at hvo
            have HVO := hidOf hvo
            clear hvo
            have c0 : w7.cell? ⟨w.heap.size, 0, none⟩ = _ := HQ7.out.bx.c0
            have c1 : w7.cell? ⟨w.heap.size, 1, none⟩ = _ := HQ7.out.bx.c1
            have lt : w.heap.size < w7.heap.size := HQ7.out.bx.lt
            have fr : ∀ j, w7.frozen? ⟨w.heap.size, j, none⟩ = false := HQ7.out.bx.fr
            go_wp2_with (go_at_call 11; refine HVO.out.mono ?_; rintro e w8 ⟨rfl, hb⟩; have HC8 := hidOf (HQ7.out.cs.grow hb); clear hb)
            go_roundw
            case rel => exact ⟨k + 1, by go_num, by omega, hidOf ⟨a3, a4, (wth U ((k : Int) + 1)), (wto (wth M ((k : Int) + 1)) ((k : Int) + 1)), k3, k4, HC8.out, HGM.out, HGI.out⟩⟩
            case measure => simp [intOf]; omega
          | false =>
            have HAN := hidOf (add_no wr pv pl U M cu cm ((k : Int) + 1) HC.out.cf e1)
            have c0 : wr.cell? ⟨w.heap.size, 0, none⟩ = _ := HC.out.bx.c0
            have c1 : wr.cell? ⟨w.heap.size, 1, none⟩ = _ := HC.out.bx.c1
            have lt : w.heap.size < wr.heap.size := HC.out.bx.lt
            have fr : ∀ j, wr.frozen? ⟨w.heap.size, j, none⟩ = false := HC.out.bx.fr
            go_upto_region 12 with (go_at_call 8; refine HAN.out.mono ?_; rintro e w2 ⟨rfl, hb⟩; have HC2 := hidOf (HC.out.grow hb); clear hb; clear c0 c1 lt fr; have c0 : (w2.alloc (.cells #[.slice none 0 0, .slice none 0 0] 24)).cell? ⟨w.heap.size, 0, none⟩ = _ := (HC2.out.bx.grow (below1 w2 _)).c0; have c1 : (w2.alloc (.cells #[.slice none 0 0, .slice none 0 0] 24)).cell? ⟨w.heap.size, 1, none⟩ = _ := (HC2.out.bx.grow (below1 w2 _)).c1; have lt : w.heap.size < (w2.alloc (.cells #[.slice none 0 0, .slice none 0 0] 24)).heap.size := (HC2.out.bx.grow (below1 w2 _)).lt; have fr : ∀ j, (w2.alloc (.cells #[.slice none 0 0, .slice none 0 0] 24)).frozen? ⟨w.heap.size, j, none⟩ = false := (HC2.out.bx.grow (below1 w2 _)).fr)
            obtain ⟨w3, hw3⟩ : ∃ x, x = w2.alloc (.cells #[.slice none 0 0, .slice none 0 0] 24) := ⟨_, rfl⟩
            have HQ : Hid (Cq w w3 w2.heap.size pv pl U M cu cm) := hidOf (by rw [hw3]; exact HC2.out.cq.keep (below1 w2 _))
            have HD : Hid (Bx w3 w2.heap.size (.slice none 0 0) (.slice none 0 0)) := hidOf (by rw [hw3]; exact bx_new w2 _ _)
            rw [← hw3]
            clear hw3
            clear c0 c1 lt fr
            cases e2 : M.contains ((k : Int) + 1) with
            | true =>
              obtain ⟨HPB, HSB, HVB, HGM, HGI⟩ := grow_old HP.out HIN.out hk5 e2
              replace HPB := hidOf HPB
              replace HSB := hidOf HSB
              replace HVB := hidOf HVB
              replace HGM := hidOf HGM
              replace HGI := hidOf HGI
              clear e1 e2
              have HPR := hidOf (promote_yes w3 pv pl U M cu cm ((k : Int) + 1) HQ.out.cs.cf HPB.out)
              have c0 : w3.cell? ⟨w.heap.size, 0, none⟩ = _ := HQ.out.bx.c0
              have c1 : w3.cell? ⟨w.heap.size, 1, none⟩ = _ := HQ.out.bx.c1
              have lt : w.heap.size < w3.heap.size := HQ.out.bx.lt
              have fr : ∀ j, w3.frozen? ⟨w.heap.size, j, none⟩ = false := HQ.out.bx.fr
              have dc0 : w3.cell? ⟨w2.heap.size, 0, none⟩ = _ := HD.out.c0
              have dc1 : w3.cell? ⟨w2.heap.size, 1, none⟩ = _ := HD.out.c1
              have dlt : w2.heap.size < w3.heap.size := HD.out.lt
              have dfr : ∀ j, w3.frozen? ⟨w2.heap.size, j, none⟩ = false := HD.out.fr
              go_upto_region 14 with (go_at_call 9; refine HPR.out.mono ?_; rintro e w4 ⟨a3, k3, a4, k4, rfl, hr3, hr4, hb⟩; have HQ4 := hidOf (HQ.out.keep (hb.mono HQ.out.bs)); have HD4 := hidOf (HD.out.grow hb); have HR3 := hidOf hr3; have HR4 := hidOf hr4; have HB4 := hidOf hb; clear hr3 hr4 hb; clear c0 c1 lt fr; clear dc0 dc1 dlt dfr; have c0 : w4.cell? ⟨w.heap.size, 0, none⟩ = _ := HQ4.out.bx.c0; have c1 : w4.cell? ⟨w.heap.size, 1, none⟩ = _ := HQ4.out.bx.c1; have lt : w.heap.size < w4.heap.size := HQ4.out.bx.lt; have fr : ∀ j, w4.frozen? ⟨w.heap.size, j, none⟩ = false := HQ4.out.bx.fr; have dc0 : w4.cell? ⟨w2.heap.size, 0, none⟩ = _ := HD4.out.c0; have dc1 : w4.cell? ⟨w2.heap.size, 1, none⟩ = _ := HD4.out.c1; have dlt : w2.heap.size < w4.heap.size := HD4.out.lt; have dfr : ∀ j, w4.frozen? ⟨w2.heap.size, j, none⟩ = false := HD4.out.fr)
              obtain ⟨w5, hw5⟩ : ∃ x, x = (w4.setCell ⟨w2.heap.size, 0, none⟩ (.slice a3 (wth U ((k : Int) + 1)).length k3)).setCell ⟨w2.heap.size, 1, none⟩ (.slice a4 (wto M ((k : Int) + 1)).length k4) := ⟨_, rfl⟩
              have HQ5 : Hid (Cq w w5 w2.heap.size pv pl U M cu cm) := hidOf (by rw [hw5]; exact HQ4.out.keep (below_set _ _ _ _))
              have HD5 : Hid (Bx w5 w2.heap.size (.slice a3 (wth U ((k : Int) + 1)).length k3) (.slice a4 (wto M ((k : Int) + 1)).length k4)) := hidOf (by rw [hw5]; exact HD4.out.set _ _)
              have HR35 : Hid (Row w5 w3.heap.size (.slice a3 (wth U ((k : Int) + 1)).length k3) (wth U ((k : Int) + 1))) := hidOf (by rw [hw5]; exact row_other HR3.out HD.out.lt _ _)
              have HR45 : Hid (Row w5 w3.heap.size (.slice a4 (wto M ((k : Int) + 1)).length k4) (wto M ((k : Int) + 1))) := hidOf (by rw [hw5]; exact row_other HR4.out HD.out.lt _ _)
              rw [← hw5]
              clear hw5
              clear c0 c1 lt fr
              clear dc0 dc1 dlt dfr
              have hsg := single_any w5 pv pl U M cu cm a3 a4 (wth U ((k : Int) + 1)) (wto M ((k : Int) + 1)) k3 k4 HQ5.out.cs.cf ⟨HR35.out.ints, HR45.out.ints⟩
              rw [HSB.out] at hsg
              have HSG := hidOf hsg
              clear hsg
              have c0 : w5.cell? ⟨w.heap.size, 0, none⟩ = _ := HQ5.out.bx.c0
              have c1 : w5.cell? ⟨w.heap.size, 1, none⟩ = _ := HQ5.out.bx.c1
              have lt : w.heap.size < w5.heap.size := HQ5.out.bx.lt
              have fr : ∀ j, w5.frozen? ⟨w.heap.size, j, none⟩ = false := HQ5.out.bx.fr
              have dc0 : w5.cell? ⟨w2.heap.size, 0, none⟩ = _ := HD5.out.c0
              have dc1 : w5.cell? ⟨w2.heap.size, 1, none⟩ = _ := HD5.out.c1
              have dlt : w2.heap.size < w5.heap.size := HD5.out.lt
              have dfr : ∀ j, w5.frozen? ⟨w2.heap.size, j, none⟩ = false := HD5.out.fr
              go_upto_region 17 with (go_at_call 10; refine HSG.out.mono ?_; rintro e w6 ⟨rfl, hb⟩; have HC6 := hidOf (HQ5.out.cs.grow hb); have HD6 := hidOf (HD5.out.grow hb); have HR36 := hidOf (HR35.out.grow hb); have HR46 := hidOf (HR45.out.grow hb); clear hb; clear c0 c1 lt fr; clear dc0 dc1 dlt dfr; have c0 : w6.cell? ⟨w.heap.size, 0, none⟩ = _ := HC6.out.bx.c0; have c1 : w6.cell? ⟨w.heap.size, 1, none⟩ = _ := HC6.out.bx.c1; have lt : w.heap.size < w6.heap.size := HC6.out.bx.lt; have fr : ∀ j, w6.frozen? ⟨w.heap.size, j, none⟩ = false := HC6.out.bx.fr; have dc0 : w6.cell? ⟨w2.heap.size, 0, none⟩ = _ := HD6.out.c0; have dc1 : w6.cell? ⟨w2.heap.size, 1, none⟩ = _ := HD6.out.c1; have dlt : w2.heap.size < w6.heap.size := HD6.out.lt; have dfr : ∀ j, w6.frozen? ⟨w2.heap.size, j, none⟩ = false := HD6.out.fr)
              obtain ⟨w7, hw7⟩ : ∃ x, x = (w6.setCell ⟨w.heap.size, 0, none⟩ (.slice a3 (wth U ((k : Int) + 1)).length k3)).setCell ⟨w.heap.size, 1, none⟩ (.slice a4 (wto M ((k : Int) + 1)).length k4) := ⟨_, rfl⟩
              have HQ7 : Hid (Cq w w7 w6.heap.size a3 a4 (wth U ((k : Int) + 1)) (wto M ((k : Int) + 1)) k3 k4) := hidOf (by rw [hw7]; exact HC6.out.put (Below.refl _ _) (Nat.lt_of_lt_of_le HQ.out.nb HQ.out.bs) HR36.out HR46.out)
              rw [← hw7]
              clear hw7
              clear c0 c1 lt fr
              clear dc0 dc1 dlt dfr
              have hvo := voter_any w7 a3 a4 (wth U ((k : Int) + 1)) (wto M ((k : Int) + 1)) k3 k4 ((k : Int) + 1) HQ7.out.cs.cf.v
              rw [HVB.out] at hvo
              have HVO := hidOf hvo
              clear hvo
              have c0 : w7.cell? ⟨w.heap.size, 0, none⟩ = _ := HQ7.out.bx.c0
              have c1 : w7.cell? ⟨w.heap.size, 1, none⟩ = _ := HQ7.out.bx.c1
              have lt : w.heap.size < w7.heap.size := HQ7.out.bx.lt
              have fr : ∀ j, w7.frozen? ⟨w.heap.size, j, none⟩ = false := HQ7.out.bx.fr
              go_wp2_with (go_at_call 11; refine HVO.out.mono ?_; rintro e w8 ⟨rfl, hb⟩; have HC8 := hidOf (HQ7.out.cs.grow hb); clear hb)
              go_roundw
              case rel => exact ⟨k + 1, by go_num, by omega, hidOf ⟨a3, a4, (wth U ((k : Int) + 1)), (wto M ((k : Int) + 1)), k3, k4, HC8.out, HGM.out, HGI.out⟩⟩
              case measure => simp [intOf]; omega
            | false =>
              obtain ⟨HPB, HVB, HGI⟩ := grow_not HP.out HIN.out hk5 e1 e2
              replace HPB := hidOf HPB
              replace HVB := hidOf HVB
              replace HGI := hidOf HGI
              clear e1 e2
              have HPR := hidOf (promote_no w3 pv pl U M cu cm ((k : Int) + 1) HQ.out.cs.cf HPB.out)
              have c0 : w3.cell? ⟨w.heap.size, 0, none⟩ = _ := HQ.out.bx.c0
              have c1 : w3.cell? ⟨w.heap.size, 1, none⟩ = _ := HQ.out.bx.c1
              have lt : w.heap.size < w3.heap.size := HQ.out.bx.lt
              have fr : ∀ j, w3.frozen? ⟨w.heap.size, j, none⟩ = false := HQ.out.bx.fr
              have dc0 : w3.cell? ⟨w2.heap.size, 0, none⟩ = _ := HD.out.c0
              have dc1 : w3.cell? ⟨w2.heap.size, 1, none⟩ = _ := HD.out.c1
              have dlt : w2.heap.size < w3.heap.size := HD.out.lt
              have dfr : ∀ j, w3.frozen? ⟨w2.heap.size, j, none⟩ = false := HD.out.fr
              go_upto_region 17 with (go_at_call 9; refine HPR.out.mono ?_; rintro e w4 ⟨rfl, hb⟩; have HQ4 := hidOf (HQ.out.keep (hb.mono HQ.out.bs)); have HD4 := hidOf (HD.out.grow hb); clear hb; clear c0 c1 lt fr; clear dc0 dc1 dlt dfr; have c0 : w4.cell? ⟨w.heap.size, 0, none⟩ = _ := HQ4.out.bx.c0; have c1 : w4.cell? ⟨w.heap.size, 1, none⟩ = _ := HQ4.out.bx.c1; have lt : w.heap.size < w4.heap.size := HQ4.out.bx.lt; have fr : ∀ j, w4.frozen? ⟨w.heap.size, j, none⟩ = false := HQ4.out.bx.fr; have dc0 : w4.cell? ⟨w2.heap.size, 0, none⟩ = _ := HD4.out.c0; have dc1 : w4.cell? ⟨w2.heap.size, 1, none⟩ = _ := HD4.out.c1; have dlt : w2.heap.size < w4.heap.size := HD4.out.lt; have dfr : ∀ j, w4.frozen? ⟨w2.heap.size, j, none⟩ = false := HD4.out.fr)
              obtain ⟨w5, hw5⟩ : ∃ x, x = (w4.setCell ⟨w2.heap.size, 0, none⟩ (.slice none 0 0)).setCell ⟨w2.heap.size, 1, none⟩ (.slice none 0 0) := ⟨_, rfl⟩
              have HQ5 : Hid (Cq w w5 w2.heap.size pv pl U M cu cm) := hidOf (by rw [hw5]; exact HQ4.out.keep (below_set _ _ _ _))
              rw [← hw5]
              clear hw5
              clear c0 c1 lt fr
              clear dc0 dc1 dlt dfr
              have hvo := voter_any w5 pv pl U M cu cm ((k : Int) + 1) HQ5.out.cs.cf.v
              rw [HVB.out] at hvo
              have HVO := hidOf hvo
              clear hvo
              have c0 : w5.cell? ⟨w.heap.size, 0, none⟩ = _ := HQ5.out.bx.c0
              have c1 : w5.cell? ⟨w.heap.size, 1, none⟩ = _ := HQ5.out.bx.c1
              have lt : w.heap.size < w5.heap.size := HQ5.out.bx.lt
              have fr : ∀ j, w5.frozen? ⟨w.heap.size, j, none⟩ = false := HQ5.out.bx.fr
              go_wp2_with (go_at_call 11; refine HVO.out.mono ?_; rintro e w8 ⟨rfl, hb⟩; have HC8 := hidOf (HQ5.out.cs.grow hb); clear hb)
              go_roundw
              case rel => exact ⟨k + 1, by go_num, by omega, hidOf ⟨pv, pl, U, M, cu, cm, HC8.out, HP.out, HGI.out⟩⟩
              case measure => simp [intOf]; omega
        · obtain rfl : k = 5 := by omega
          have hltz : ¬ ((5 : Nat) : Int) + 1 ≤ 5 := by omega
          obtain ⟨rfl, rfl⟩ := grow_all HP.out HIN.out
          have HC0 := HC
          go_wp2_with (fail)
          go_loopw [8] (fun i wr => ∃ k : Nat, i = .int .i64 ((k : Int) + 1) ∧ k ≤ 5 ∧ Hid (∃ qv ql cu cm, Cs w wr w.heap.size qv ql (fv t k) [] cu cm)) (fun i _ => 6 - (intOf i).toNat)
          case atStart => exact ⟨0, rfl, Nat.zero_le _, hidOf ⟨pv, pl, cu, cm, by rw [fv_zero ht1]; exact HC.out⟩⟩
          case round =>
            obtain ⟨k, rfl, hk, HG2⟩ := hrel
            obtain ⟨qv, ql, du, dm, hC⟩ := HG2.out
            have HK := hidOf hC
            clear hC
            by_cases hlt : k < 5
            · have hltz : (k : Int) + 1 ≤ 5 := by omega
              by_cases het : (k : Int) + 1 = t
              · have hetb : (((k : Int) + 1) == t) = true := by rw [beq_iff_eq]; exact het
                have HF := hidOf (fv_skip het)
                clear het
                go_wp2
                go_roundw
                case rel => exact ⟨k + 1, by go_num, by omega, hidOf ⟨qv, ql, du, dm, by rw [← HF.out]; exact HK.out⟩⟩
                case measure => simp [intOf]; omega
              · have hetb : (((k : Int) + 1) == t) = false := by rw [beq_eq_false_iff_ne]; exact het
                obtain ⟨f1, f2, f3, f4⟩ := fv_step ht1 ht5 hlt het
                have hrm := remove_yes wr qv ql (fv t k) [] du dm ((k : Int) + 1) HK.out.cf f1
                rw [f4, show wto [] ((k : Int) + 1) = [] from rfl] at hrm
                have HRM := hidOf hrm
                have HF2 := hidOf f2
                have HF3 := hidOf f3
                clear hrm f1 f2 f3 f4 het
                have c0 : wr.cell? ⟨w.heap.size, 0, none⟩ = _ := HK.out.bx.c0
                have c1 : wr.cell? ⟨w.heap.size, 1, none⟩ = _ := HK.out.bx.c1
                have lt : w.heap.size < wr.heap.size := HK.out.bx.lt
                have fr : ∀ j, wr.frozen? ⟨w.heap.size, j, none⟩ = false := HK.out.bx.fr
                go_upto_region 24 with (go_at_call 12; refine HRM.out.mono ?_; rintro e w2 ⟨a1, k1, a2, k2, rfl, hr1, hr2, hb⟩; have HC2 := hidOf (HK.out.grow hb); have HR1 := hidOf hr1; have HR2 := hidOf hr2; clear hr1 hr2 hb; clear c0 c1 lt fr; have c0 : (w2.alloc (.cells #[.slice a1 (fv t (k + 1)).length k1, .slice a2 0 k2] 24)).cell? ⟨w.heap.size, 0, none⟩ = _ := (HC2.out.bx.grow (below1 w2 _)).c0; have c1 : (w2.alloc (.cells #[.slice a1 (fv t (k + 1)).length k1, .slice a2 0 k2] 24)).cell? ⟨w.heap.size, 1, none⟩ = _ := (HC2.out.bx.grow (below1 w2 _)).c1; have lt : w.heap.size < (w2.alloc (.cells #[.slice a1 (fv t (k + 1)).length k1, .slice a2 0 k2] 24)).heap.size := (HC2.out.bx.grow (below1 w2 _)).lt; have fr : ∀ j, (w2.alloc (.cells #[.slice a1 (fv t (k + 1)).length k1, .slice a2 0 k2] 24)).frozen? ⟨w.heap.size, j, none⟩ = false := (HC2.out.bx.grow (below1 w2 _)).fr)
                obtain ⟨w3, hw3⟩ : ∃ x, x = w2.alloc (.cells #[.slice a1 (fv t (k + 1)).length k1, .slice a2 0 k2] 24) := ⟨_, rfl⟩
                have HC3 : Hid (Cs w w3 w.heap.size qv ql (fv t k) [] du dm) := hidOf (by rw [hw3]; exact HC2.out.grow (below1 w2 _))
                have HD3 : Hid (Bx w3 w2.heap.size (.slice a1 (fv t (k + 1)).length k1) (.slice a2 0 k2)) := hidOf (by rw [hw3]; exact bx_new w2 _ _)
                have HR13 : Hid (Row w3 wr.heap.size (.slice a1 (fv t (k + 1)).length k1) (fv t (k + 1))) := hidOf (by rw [hw3]; exact HR1.out.grow (below1 w2 _))
                have HR23 : Hid (Row w3 wr.heap.size (.slice a2 0 k2) []) := hidOf (by rw [hw3]; exact HR2.out.grow (below1 w2 _))
                rw [← hw3]
                clear hw3 HR1 HR2
                clear c0 c1 lt fr
                have hsg := single_any w3 qv ql (fv t k) [] du dm a1 a2 (fv t (k + 1)) [] k1 k2 HC3.out.cf ⟨HR13.out.ints, Ints.nil _ _⟩
                rw [HF2.out] at hsg
                have HSG := hidOf hsg
                clear hsg
                have c0 : w3.cell? ⟨w.heap.size, 0, none⟩ = _ := HC3.out.bx.c0
                have c1 : w3.cell? ⟨w.heap.size, 1, none⟩ = _ := HC3.out.bx.c1
                have lt : w.heap.size < w3.heap.size := HC3.out.bx.lt
                have fr : ∀ j, w3.frozen? ⟨w.heap.size, j, none⟩ = false := HC3.out.bx.fr
                have dc0 : w3.cell? ⟨w2.heap.size, 0, none⟩ = _ := HD3.out.c0
                have dc1 : w3.cell? ⟨w2.heap.size, 1, none⟩ = _ := HD3.out.c1
                have dlt : w2.heap.size < w3.heap.size := HD3.out.lt
                have dfr : ∀ j, w3.frozen? ⟨w2.heap.size, j, none⟩ = false := HD3.out.fr
                go_upto_region 21 with (first
                  | (go_at_call 10; refine HSG.out.mono ?_; rintro e w4 ⟨rfl, hb⟩; have HC4 := hidOf (HC3.out.grow hb); have HD4 := hidOf (HD3.out.grow hb); have HR14 := hidOf (HR13.out.grow hb); have HR24 := hidOf (HR23.out.grow hb); clear hb; clear c0 c1 lt fr; clear dc0 dc1 dlt dfr; have c0 : w4.cell? ⟨w.heap.size, 0, none⟩ = _ := HC4.out.bx.c0; have c1 : w4.cell? ⟨w.heap.size, 1, none⟩ = _ := HC4.out.bx.c1; have lt : w.heap.size < w4.heap.size := HC4.out.bx.lt; have fr : ∀ j, w4.frozen? ⟨w.heap.size, j, none⟩ = false := HC4.out.bx.fr; have dc0 : w4.cell? ⟨w2.heap.size, 0, none⟩ = _ := HD4.out.c0; have dc1 : w4.cell? ⟨w2.heap.size, 1, none⟩ = _ := HD4.out.c1; have dlt : w2.heap.size < w4.heap.size := HD4.out.lt; have dfr : ∀ j, w4.frozen? ⟨w2.heap.size, j, none⟩ = false := HD4.out.fr; have hmy := may_any w4 a1 a2 (fv t (k + 1)) [] k1 k2 ⟨HR14.out.ints, Ints.nil _ _⟩; rw [HF3.out] at hmy; have HMY := hidOf hmy; clear hmy)
                  | (go_at_call 6; refine HMY.out.mono ?_; rintro e w6 ⟨rfl, hb⟩; have HC6 := hidOf (HC4.out.grow hb); have HD6 := hidOf (HD4.out.grow hb); have HR16 := hidOf (HR14.out.grow hb); have HR26 := hidOf (HR24.out.grow hb); clear hb; clear c0 c1 lt fr; clear dc0 dc1 dlt dfr; have c0 : w6.cell? ⟨w.heap.size, 0, none⟩ = _ := HC6.out.bx.c0; have c1 : w6.cell? ⟨w.heap.size, 1, none⟩ = _ := HC6.out.bx.c1; have lt : w.heap.size < w6.heap.size := HC6.out.bx.lt; have fr : ∀ j, w6.frozen? ⟨w.heap.size, j, none⟩ = false := HC6.out.bx.fr; have dc0 : w6.cell? ⟨w2.heap.size, 0, none⟩ = _ := HD6.out.c0; have dc1 : w6.cell? ⟨w2.heap.size, 1, none⟩ = _ := HD6.out.c1; have dlt : w2.heap.size < w6.heap.size := HD6.out.lt; have dfr : ∀ j, w6.frozen? ⟨w2.heap.size, j, none⟩ = false := HD6.out.fr))
                obtain ⟨w7, hw7⟩ : ∃ x, x = (w6.setCell ⟨w.heap.size, 0, none⟩ (.slice a1 (fv t (k + 1)).length k1)).setCell ⟨w.heap.size, 1, none⟩ (.slice a2 0 k2) := ⟨_, rfl⟩
                have HQ7 : Hid (Cq w w7 w6.heap.size a1 a2 (fv t (k + 1)) [] k1 k2) := hidOf (by rw [hw7]; exact Cs.put (L' := []) HC6.out (Below.refl _ _) HK.out.bx.lt HR16.out HR26.out)
                rw [← hw7]
                clear hw7
                clear c0 c1 lt fr
                clear dc0 dc1 dlt dfr
                go_wp2
                go_roundw
                case rel => exact ⟨k + 1, by go_num, by omega, hidOf ⟨a1, a2, k1, k2, HQ7.out.cs⟩⟩
                case measure => simp [intOf]; omega
            · obtain rfl : k = 5 := by omega
              have hltz : ¬ ((5 : Nat) : Int) + 1 ≤ 5 := by omega
              have hK := HK.out
              rw [fv_five ht1 ht5] at hK
              have hrm := remove_no wr qv ql [t] [] du dm t hK.cf (rem_one t)
              have HRM := hidOf hrm
              obtain ⟨b, off, hqv, _, hcc⟩ := hK.cf.v.at (k := 0) (by simp)
              subst hqv
              have HK5 := hidOf hK
              have hcc0 := hcc 0 (by simp)
              have HCC : Hid (wr.cell? ⟨b, off, none⟩ = some (.int .i64 t)) := hidOf hcc0
              clear hrm hK hcc hcc0
              have c0 : wr.cell? ⟨w.heap.size, 0, none⟩ = _ := HK5.out.bx.c0
              have c1 : wr.cell? ⟨w.heap.size, 1, none⟩ = _ := HK5.out.bx.c1
              have lt : w.heap.size < wr.heap.size := HK5.out.bx.lt
              have fr : ∀ j, wr.frozen? ⟨w.heap.size, j, none⟩ = false := HK5.out.bx.fr
              go_wp2_with (first
                | (go_at_call 12; refine HRM.out.mono ?_; rintro e w2 ⟨rfl, hb⟩; have HC2 := hidOf (HK5.out.grow hb); clear c0 c1 lt fr; have c0 : (w2.alloc (.cells #[.slice none 0 0, .slice none 0 0] 24)).cell? ⟨w.heap.size, 0, none⟩ = _ := (HC2.out.bx.grow (below1 w2 _)).c0; have c1 : (w2.alloc (.cells #[.slice none 0 0, .slice none 0 0] 24)).cell? ⟨w.heap.size, 1, none⟩ = _ := (HC2.out.bx.grow (below1 w2 _)).c1; have lt : w.heap.size < (w2.alloc (.cells #[.slice none 0 0, .slice none 0 0] 24)).heap.size := (HC2.out.bx.grow (below1 w2 _)).lt; have fr : ∀ j, (w2.alloc (.cells #[.slice none 0 0, .slice none 0 0] 24)).frozen? ⟨w.heap.size, j, none⟩ = false := (HC2.out.bx.grow (below1 w2 _)).fr; have x0 : (w2.alloc (.cells #[.slice none 0 0, .slice none 0 0] 24)).cell? ⟨b, off, none⟩ = _ := (HC2.out.grow (below1 w2 _)).cf.v.head; clear hb)
                | (go_at_call 7; refine (lives_any _).mono ?_; rintro e wl ⟨rfl, hb⟩; have HBL := hidOf hb; clear hb))
              go_ret
              exact ⟨rfl, below_then (below_then HC2.out.bel (below1 w2 _)) HBL.out⟩

    · have ht1 : 1 ≤ 1 + last % 5 := by omega
      have ht5 : 1 + last % 5 ≤ 5 := by omega
      go_enter Try.func3, Try.ntmps3
      go_upto_region 6 with (go_at_call 6; refine HM.out.mono ?_; rintro e w1 ⟨rfl, hb⟩; have H1 := hidOf (H0.out.grow hb); clear hb)
      generalize 1 + last % 5 = t at ht1 ht5 ⊢
      go_wp2_with (fail)
      go_loopw [5] (fun i wr => ∃ k : Nat, i = .int .i64 ((k : Int) + 1) ∧ k ≤ 5 ∧ Hid (∃ pv pl U M cu cm, Cs w wr w.heap.size pv pl U M cu cm ∧ MayP U M ∧ ∀ j : Int, 1 ≤ j → j ≤ k → j ∈ U)) (fun i _ => 6 - (intOf i).toNat)
      case atStart => exact ⟨0, rfl, Nat.zero_le _, hidOf ⟨av, al, V, L, cv, cl, H1.out, HMP.out, fun j h1 h2 => absurd h1 (by omega)⟩⟩
      case round =>
        obtain ⟨k, rfl, hk, HG⟩ := hrel
        obtain ⟨pv, pl, U, M, cu, cm, hC, hP, hIN⟩ := HG.out
        have HC := hidOf hC
        have HP := hidOf hP
        have HIN := hidOf hIN
        clear hC hP hIN HG
        by_cases hlt : k < 5
        · have hltz : (k : Int) + 1 ≤ 5 := by omega
          have hk5 : (k : Int) + 1 ≤ 5 := hltz
          cases e1 : addB U M ((k : Int) + 1) with
          | true =>
            have HAY := hidOf (add_yes wr pv pl U M cu cm ((k : Int) + 1) HC.out.cf e1)
            obtain ⟨HPB, HSB, HVB, HGM, HGI⟩ := grow_new HP.out HIN.out hk5 e1
            replace HPB := hidOf HPB
            replace HSB := hidOf HSB
            replace HVB := hidOf HVB
            replace HGM := hidOf HGM
            replace HGI := hidOf HGI
            clear e1
            have c0 : wr.cell? ⟨w.heap.size, 0, none⟩ = _ := HC.out.bx.c0
            have c1 : wr.cell? ⟨w.heap.size, 1, none⟩ = _ := HC.out.bx.c1
            have lt : w.heap.size < wr.heap.size := HC.out.bx.lt
            have fr : ∀ j, wr.frozen? ⟨w.heap.size, j, none⟩ = false := HC.out.bx.fr
            go_upto_region 12 with (go_at_call 8; refine HAY.out.mono ?_; rintro e w2 ⟨a1, k1, a2, k2, rfl, hr1, hr2, hb⟩; have HC2 := hidOf (HC.out.grow hb); have HR1 := hidOf hr1; have HR2 := hidOf hr2; clear hr1 hr2 hb; clear c0 c1 lt fr; have c0 : (w2.alloc (.cells #[.slice a1 U.length k1, .slice a2 (wth M ((k : Int) + 1)).length k2] 24)).cell? ⟨w.heap.size, 0, none⟩ = _ := (HC2.out.bx.grow (below1 w2 _)).c0; have c1 : (w2.alloc (.cells #[.slice a1 U.length k1, .slice a2 (wth M ((k : Int) + 1)).length k2] 24)).cell? ⟨w.heap.size, 1, none⟩ = _ := (HC2.out.bx.grow (below1 w2 _)).c1; have lt : w.heap.size < (w2.alloc (.cells #[.slice a1 U.length k1, .slice a2 (wth M ((k : Int) + 1)).length k2] 24)).heap.size := (HC2.out.bx.grow (below1 w2 _)).lt; have fr : ∀ j, (w2.alloc (.cells #[.slice a1 U.length k1, .slice a2 (wth M ((k : Int) + 1)).length k2] 24)).frozen? ⟨w.heap.size, j, none⟩ = false := (HC2.out.bx.grow (below1 w2 _)).fr)
            obtain ⟨w3, hw3⟩ : ∃ x, x = ((w2.alloc (.cells #[.slice a1 U.length k1, .slice a2 (wth M ((k : Int) + 1)).length k2] 24)).setCell ⟨w.heap.size, 0, none⟩ (.slice a1 U.length k1)).setCell ⟨w.heap.size, 1, none⟩ (.slice a2 (wth M ((k : Int) + 1)).length k2) := ⟨_, rfl⟩
            have HQ : Hid (Cq w w3 w2.heap.size a1 a2 U (wth M ((k : Int) + 1)) k1 k2) := hidOf (by rw [hw3]; exact HC2.out.put (below1 w2 _) HC.out.bx.lt HR1.out HR2.out)
            have HD : Hid (Bx w3 w2.heap.size (.slice a1 U.length k1) (.slice a2 (wth M ((k : Int) + 1)).length k2)) := hidOf (by rw [hw3]; exact (bx_new w2 _ _).other (Nat.ne_of_gt HC2.out.bx.lt) _ _)
            rw [← hw3]
            clear hw3
            clear c0 c1 lt fr
            have HPR := hidOf (promote_yes w3 a1 a2 U (wth M ((k : Int) + 1)) k1 k2 ((k : Int) + 1) HQ.out.cs.cf HPB.out)
            have c0 : w3.cell? ⟨w.heap.size, 0, none⟩ = _ := HQ.out.bx.c0
            have c1 : w3.cell? ⟨w.heap.size, 1, none⟩ = _ := HQ.out.bx.c1
            have lt : w.heap.size < w3.heap.size := HQ.out.bx.lt
            have fr : ∀ j, w3.frozen? ⟨w.heap.size, j, none⟩ = false := HQ.out.bx.fr
            have dc0 : w3.cell? ⟨w2.heap.size, 0, none⟩ = _ := HD.out.c0
            have dc1 : w3.cell? ⟨w2.heap.size, 1, none⟩ = _ := HD.out.c1
            have dlt : w2.heap.size < w3.heap.size := HD.out.lt
            have dfr : ∀ j, w3.frozen? ⟨w2.heap.size, j, none⟩ = false := HD.out.fr
            go_upto_region 14 with (go_at_call 9; refine HPR.out.mono ?_; rintro e w4 ⟨a3, k3, a4, k4, rfl, hr3, hr4, hb⟩; have HQ4 := hidOf (HQ.out.keep (hb.mono HQ.out.bs)); have HD4 := hidOf (HD.out.grow hb); have HR3 := hidOf hr3; have HR4 := hidOf hr4; have HB4 := hidOf hb; clear hr3 hr4 hb; clear c0 c1 lt fr; clear dc0 dc1 dlt dfr; have c0 : w4.cell? ⟨w.heap.size, 0, none⟩ = _ := HQ4.out.bx.c0; have c1 : w4.cell? ⟨w.heap.size, 1, none⟩ = _ := HQ4.out.bx.c1; have lt : w.heap.size < w4.heap.size := HQ4.out.bx.lt; have fr : ∀ j, w4.frozen? ⟨w.heap.size, j, none⟩ = false := HQ4.out.bx.fr; have dc0 : w4.cell? ⟨w2.heap.size, 0, none⟩ = _ := HD4.out.c0; have dc1 : w4.cell? ⟨w2.heap.size, 1, none⟩ = _ := HD4.out.c1; have dlt : w2.heap.size < w4.heap.size := HD4.out.lt; have dfr : ∀ j, w4.frozen? ⟨w2.heap.size, j, none⟩ = false := HD4.out.fr)
            obtain ⟨w5, hw5⟩ : ∃ x, x = (w4.setCell ⟨w2.heap.size, 0, none⟩ (.slice a3 (wth U ((k : Int) + 1)).length k3)).setCell ⟨w2.heap.size, 1, none⟩ (.slice a4 (wto (wth M ((k : Int) + 1)) ((k : Int) + 1)).length k4) := ⟨_, rfl⟩
            have HQ5 : Hid (Cq w w5 w2.heap.size a1 a2 U (wth M ((k : Int) + 1)) k1 k2) := hidOf (by rw [hw5]; exact HQ4.out.keep (below_set _ _ _ _))
            have HD5 : Hid (Bx w5 w2.heap.size (.slice a3 (wth U ((k : Int) + 1)).length k3) (.slice a4 (wto (wth M ((k : Int) + 1)) ((k : Int) + 1)).length k4)) := hidOf (by rw [hw5]; exact HD4.out.set _ _)
            have HR35 : Hid (Row w5 w3.heap.size (.slice a3 (wth U ((k : Int) + 1)).length k3) (wth U ((k : Int) + 1))) := hidOf (by rw [hw5]; exact row_other HR3.out HD.out.lt _ _)
            have HR45 : Hid (Row w5 w3.heap.size (.slice a4 (wto (wth M ((k : Int) + 1)) ((k : Int) + 1)).length k4) (wto (wth M ((k : Int) + 1)) ((k : Int) + 1))) := hidOf (by rw [hw5]; exact row_other HR4.out HD.out.lt _ _)
            rw [← hw5]
            clear hw5
            clear c0 c1 lt fr
            clear dc0 dc1 dlt dfr
            have hsg := single_any w5 a1 a2 U (wth M ((k : Int) + 1)) k1 k2 a3 a4 (wth U ((k : Int) + 1)) (wto (wth M ((k : Int) + 1)) ((k : Int) + 1)) k3 k4 HQ5.out.cs.cf ⟨HR35.out.ints, HR45.out.ints⟩
            rw [HSB.out] at hsg
            have HSG := hidOf hsg
            clear hsg
            have c0 : w5.cell? ⟨w.heap.size, 0, none⟩ = _ := HQ5.out.bx.c0
            have c1 : w5.cell? ⟨w.heap.size, 1, none⟩ = _ := HQ5.out.bx.c1
            have lt : w.heap.size < w5.heap.size := HQ5.out.bx.lt
            have fr : ∀ j, w5.frozen? ⟨w.heap.size, j, none⟩ = false := HQ5.out.bx.fr
            have dc0 : w5.cell? ⟨w2.heap.size, 0, none⟩ = _ := HD5.out.c0
            have dc1 : w5.cell? ⟨w2.heap.size, 1, none⟩ = _ := HD5.out.c1
            have dlt : w2.heap.size < w5.heap.size := HD5.out.lt
            have dfr : ∀ j, w5.frozen? ⟨w2.heap.size, j, none⟩ = false := HD5.out.fr
            go_upto_region 17 with (go_at_call 10; refine HSG.out.mono ?_; rintro e w6 ⟨rfl, hb⟩; have HC6 := hidOf (HQ5.out.cs.grow hb); have HD6 := hidOf (HD5.out.grow hb); have HR36 := hidOf (HR35.out.grow hb); have HR46 := hidOf (HR45.out.grow hb); clear hb; clear c0 c1 lt fr; clear dc0 dc1 dlt dfr; have c0 : w6.cell? ⟨w.heap.size, 0, none⟩ = _ := HC6.out.bx.c0; have c1 : w6.cell? ⟨w.heap.size, 1, none⟩ = _ := HC6.out.bx.c1; have lt : w.heap.size < w6.heap.size := HC6.out.bx.lt; have fr : ∀ j, w6.frozen? ⟨w.heap.size, j, none⟩ = false := HC6.out.bx.fr; have dc0 : w6.cell? ⟨w2.heap.size, 0, none⟩ = _ := HD6.out.c0; have dc1 : w6.cell? ⟨w2.heap.size, 1, none⟩ = _ := HD6.out.c1; have dlt : w2.heap.size < w6.heap.size := HD6.out.lt; have dfr : ∀ j, w6.frozen? ⟨w2.heap.size, j, none⟩ = false := HD6.out.fr)
            obtain ⟨w7, hw7⟩ : ∃ x, x = (w6.setCell ⟨w.heap.size, 0, none⟩ (.slice a3 (wth U ((k : Int) + 1)).length k3)).setCell ⟨w.heap.size, 1, none⟩ (.slice a4 (wto (wth M ((k : Int) + 1)) ((k : Int) + 1)).length k4) := ⟨_, rfl⟩
            have HQ7 : Hid (Cq w w7 w6.heap.size a3 a4 (wth U ((k : Int) + 1)) (wto (wth M ((k : Int) + 1)) ((k : Int) + 1)) k3 k4) := hidOf (by rw [hw7]; exact HC6.out.put (Below.refl _ _) (Nat.lt_of_lt_of_le HQ.out.nb HQ.out.bs) HR36.out HR46.out)
            rw [← hw7]
            clear hw7
            clear c0 c1 lt fr
            clear dc0 dc1 dlt dfr
            have hvo := voter_any w7 a3 a4 (wth U ((k : Int) + 1)) (wto (wth M ((k : Int) + 1)) ((k : Int) + 1)) k3 k4 ((k : Int) + 1) HQ7.out.cs.cf.v
            rw [HVB.out] at hvo
            have HVO := hidOf hvo
            clear hvo
            have c0 : w7.cell? ⟨w.heap.size, 0, none⟩ = _ := HQ7.out.bx.c0
            have c1 : w7.cell? ⟨w.heap.size, 1, none⟩ = _ := HQ7.out.bx.c1
            have lt : w.heap.size < w7.heap.size := HQ7.out.bx.lt
            have fr : ∀ j, w7.frozen? ⟨w.heap.size, j, none⟩ = false := HQ7.out.bx.fr
            go_wp2_with (go_at_call 11; refine HVO.out.mono ?_; rintro e w8 ⟨rfl, hb⟩; have HC8 := hidOf (HQ7.out.cs.grow hb); clear hb)
            go_roundw
            case rel => exact ⟨k + 1, by go_num, by omega, hidOf ⟨a3, a4, (wth U ((k : Int) + 1)), (wto (wth M ((k : Int) + 1)) ((k : Int) + 1)), k3, k4, HC8.out, HGM.out, HGI.out⟩⟩
            case measure => simp [intOf]; omega
          | false =>
            have HAN := hidOf (add_no wr pv pl U M cu cm ((k : Int) + 1) HC.out.cf e1)
            have c0 : wr.cell? ⟨w.heap.size, 0, none⟩ = _ := HC.out.bx.c0
            have c1 : wr.cell? ⟨w.heap.size, 1, none⟩ = _ := HC.out.bx.c1
            have lt : w.heap.size < wr.heap.size := HC.out.bx.lt
            have fr : ∀ j, wr.frozen? ⟨w.heap.size, j, none⟩ = false := HC.out.bx.fr
            go_upto_region 12 with (go_at_call 8; refine HAN.out.mono ?_; rintro e w2 ⟨rfl, hb⟩; have HC2 := hidOf (HC.out.grow hb); clear hb; clear c0 c1 lt fr; have c0 : (w2.alloc (.cells #[.slice none 0 0, .slice none 0 0] 24)).cell? ⟨w.heap.size, 0, none⟩ = _ := (HC2.out.bx.grow (below1 w2 _)).c0; have c1 : (w2.alloc (.cells #[.slice none 0 0, .slice none 0 0] 24)).cell? ⟨w.heap.size, 1, none⟩ = _ := (HC2.out.bx.grow (below1 w2 _)).c1; have lt : w.heap.size < (w2.alloc (.cells #[.slice none 0 0, .slice none 0 0] 24)).heap.size := (HC2.out.bx.grow (below1 w2 _)).lt; have fr : ∀ j, (w2.alloc (.cells #[.slice none 0 0, .slice none 0 0] 24)).frozen? ⟨w.heap.size, j, none⟩ = false := (HC2.out.bx.grow (below1 w2 _)).fr)
            obtain ⟨w3, hw3⟩ : ∃ x, x = w2.alloc (.cells #[.slice none 0 0, .slice none 0 0] 24) := ⟨_, rfl⟩
            have HQ : Hid (Cq w w3 w2.heap.size pv pl U M cu cm) := hidOf (by rw [hw3]; exact HC2.out.cq.keep (below1 w2 _))
            have HD : Hid (Bx w3 w2.heap.size (.slice none 0 0) (.slice none 0 0)) := hidOf (by rw [hw3]; exact bx_new w2 _ _)
            rw [← hw3]
            clear hw3
            clear c0 c1 lt fr
            cases e2 : M.contains ((k : Int) + 1) with
            | true =>
              obtain ⟨HPB, HSB, HVB, HGM, HGI⟩ := grow_old HP.out HIN.out hk5 e2
              replace HPB := hidOf HPB
              replace HSB := hidOf HSB
              replace HVB := hidOf HVB
              replace HGM := hidOf HGM
              replace HGI := hidOf HGI
              clear e1 e2
              have HPR := hidOf (promote_yes w3 pv pl U M cu cm ((k : Int) + 1) HQ.out.cs.cf HPB.out)
              have c0 : w3.cell? ⟨w.heap.size, 0, none⟩ = _ := HQ.out.bx.c0
              have c1 : w3.cell? ⟨w.heap.size, 1, none⟩ = _ := HQ.out.bx.c1
              have lt : w.heap.size < w3.heap.size := HQ.out.bx.lt
              have fr : ∀ j, w3.frozen? ⟨w.heap.size, j, none⟩ = false := HQ.out.bx.fr
              have dc0 : w3.cell? ⟨w2.heap.size, 0, none⟩ = _ := HD.out.c0
              have dc1 : w3.cell? ⟨w2.heap.size, 1, none⟩ = _ := HD.out.c1
              have dlt : w2.heap.size < w3.heap.size := HD.out.lt
              have dfr : ∀ j, w3.frozen? ⟨w2.heap.size, j, none⟩ = false := HD.out.fr
              go_upto_region 14 with (go_at_call 9; refine HPR.out.mono ?_; rintro e w4 ⟨a3, k3, a4, k4, rfl, hr3, hr4, hb⟩; have HQ4 := hidOf (HQ.out.keep (hb.mono HQ.out.bs)); have HD4 := hidOf (HD.out.grow hb); have HR3 := hidOf hr3; have HR4 := hidOf hr4; have HB4 := hidOf hb; clear hr3 hr4 hb; clear c0 c1 lt fr; clear dc0 dc1 dlt dfr; have c0 : w4.cell? ⟨w.heap.size, 0, none⟩ = _ := HQ4.out.bx.c0; have c1 : w4.cell? ⟨w.heap.size, 1, none⟩ = _ := HQ4.out.bx.c1; have lt : w.heap.size < w4.heap.size := HQ4.out.bx.lt; have fr : ∀ j, w4.frozen? ⟨w.heap.size, j, none⟩ = false := HQ4.out.bx.fr; have dc0 : w4.cell? ⟨w2.heap.size, 0, none⟩ = _ := HD4.out.c0; have dc1 : w4.cell? ⟨w2.heap.size, 1, none⟩ = _ := HD4.out.c1; have dlt : w2.heap.size < w4.heap.size := HD4.out.lt; have dfr : ∀ j, w4.frozen? ⟨w2.heap.size, j, none⟩ = false := HD4.out.fr)
              obtain ⟨w5, hw5⟩ : ∃ x, x = (w4.setCell ⟨w2.heap.size, 0, none⟩ (.slice a3 (wth U ((k : Int) + 1)).length k3)).setCell ⟨w2.heap.size, 1, none⟩ (.slice a4 (wto M ((k : Int) + 1)).length k4) := ⟨_, rfl⟩
              have HQ5 : Hid (Cq w w5 w2.heap.size pv pl U M cu cm) := hidOf (by rw [hw5]; exact HQ4.out.keep (below_set _ _ _ _))
              have HD5 : Hid (Bx w5 w2.heap.size (.slice a3 (wth U ((k : Int) + 1)).length k3) (.slice a4 (wto M ((k : Int) + 1)).length k4)) := hidOf (by rw [hw5]; exact HD4.out.set _ _)
              have HR35 : Hid (Row w5 w3.heap.size (.slice a3 (wth U ((k : Int) + 1)).length k3) (wth U ((k : Int) + 1))) := hidOf (by rw [hw5]; exact row_other HR3.out HD.out.lt _ _)
              have HR45 : Hid (Row w5 w3.heap.size (.slice a4 (wto M ((k : Int) + 1)).length k4) (wto M ((k : Int) + 1))) := hidOf (by rw [hw5]; exact row_other HR4.out HD.out.lt _ _)
              rw [← hw5]
              clear hw5
              clear c0 c1 lt fr
              clear dc0 dc1 dlt dfr
              have hsg := single_any w5 pv pl U M cu cm a3 a4 (wth U ((k : Int) + 1)) (wto M ((k : Int) + 1)) k3 k4 HQ5.out.cs.cf ⟨HR35.out.ints, HR45.out.ints⟩
              rw [HSB.out] at hsg
              have HSG := hidOf hsg
              clear hsg
              have c0 : w5.cell? ⟨w.heap.size, 0, none⟩ = _ := HQ5.out.bx.c0
              have c1 : w5.cell? ⟨w.heap.size, 1, none⟩ = _ := HQ5.out.bx.c1
              have lt : w.heap.size < w5.heap.size := HQ5.out.bx.lt
              have fr : ∀ j, w5.frozen? ⟨w.heap.size, j, none⟩ = false := HQ5.out.bx.fr
              have dc0 : w5.cell? ⟨w2.heap.size, 0, none⟩ = _ := HD5.out.c0
              have dc1 : w5.cell? ⟨w2.heap.size, 1, none⟩ = _ := HD5.out.c1
              have dlt : w2.heap.size < w5.heap.size := HD5.out.lt
              have dfr : ∀ j, w5.frozen? ⟨w2.heap.size, j, none⟩ = false := HD5.out.fr
              go_upto_region 17 with (go_at_call 10; refine HSG.out.mono ?_; rintro e w6 ⟨rfl, hb⟩; have HC6 := hidOf (HQ5.out.cs.grow hb); have HD6 := hidOf (HD5.out.grow hb); have HR36 := hidOf (HR35.out.grow hb); have HR46 := hidOf (HR45.out.grow hb); clear hb; clear c0 c1 lt fr; clear dc0 dc1 dlt dfr; have c0 : w6.cell? ⟨w.heap.size, 0, none⟩ = _ := HC6.out.bx.c0; have c1 : w6.cell? ⟨w.heap.size, 1, none⟩ = _ := HC6.out.bx.c1; have lt : w.heap.size < w6.heap.size := HC6.out.bx.lt; have fr : ∀ j, w6.frozen? ⟨w.heap.size, j, none⟩ = false := HC6.out.bx.fr; have dc0 : w6.cell? ⟨w2.heap.size, 0, none⟩ = _ := HD6.out.c0; have dc1 : w6.cell? ⟨w2.heap.size, 1, none⟩ = _ := HD6.out.c1; have dlt : w2.heap.size < w6.heap.size := HD6.out.lt; have dfr : ∀ j, w6.frozen? ⟨w2.heap.size, j, none⟩ = false := HD6.out.fr)
              obtain ⟨w7, hw7⟩ : ∃ x, x = (w6.setCell ⟨w.heap.size, 0, none⟩ (.slice a3 (wth U ((k : Int) + 1)).length k3)).setCell ⟨w.heap.size, 1, none⟩ (.slice a4 (wto M ((k : Int) + 1)).length k4) := ⟨_, rfl⟩
              have HQ7 : Hid (Cq w w7 w6.heap.size a3 a4 (wth U ((k : Int) + 1)) (wto M ((k : Int) + 1)) k3 k4) := hidOf (by rw [hw7]; exact HC6.out.put (Below.refl _ _) (Nat.lt_of_lt_of_le HQ.out.nb HQ.out.bs) HR36.out HR46.out)
              rw [← hw7]
              clear hw7
              clear c0 c1 lt fr
              clear dc0 dc1 dlt dfr
              have hvo := voter_any w7 a3 a4 (wth U ((k : Int) + 1)) (wto M ((k : Int) + 1)) k3 k4 ((k : Int) + 1) HQ7.out.cs.cf.v
              rw [HVB.out] at hvo
              have HVO := hidOf hvo
              clear hvo
              have c0 : w7.cell? ⟨w.heap.size, 0, none⟩ = _ := HQ7.out.bx.c0
              have c1 : w7.cell? ⟨w.heap.size, 1, none⟩ = _ := HQ7.out.bx.c1
              have lt : w.heap.size < w7.heap.size := HQ7.out.bx.lt
              have fr : ∀ j, w7.frozen? ⟨w.heap.size, j, none⟩ = false := HQ7.out.bx.fr
              go_wp2_with (go_at_call 11; refine HVO.out.mono ?_; rintro e w8 ⟨rfl, hb⟩; have HC8 := hidOf (HQ7.out.cs.grow hb); clear hb)
              go_roundw
              case rel => exact ⟨k + 1, by go_num, by omega, hidOf ⟨a3, a4, (wth U ((k : Int) + 1)), (wto M ((k : Int) + 1)), k3, k4, HC8.out, HGM.out, HGI.out⟩⟩
              case measure => simp [intOf]; omega
            | false =>
              obtain ⟨HPB, HVB, HGI⟩ := grow_not HP.out HIN.out hk5 e1 e2
              replace HPB := hidOf HPB
              replace HVB := hidOf HVB
              replace HGI := hidOf HGI
              clear e1 e2
              have HPR := hidOf (promote_no w3 pv pl U M cu cm ((k : Int) + 1) HQ.out.cs.cf HPB.out)
              have c0 : w3.cell? ⟨w.heap.size, 0, none⟩ = _ := HQ.out.bx.c0
              have c1 : w3.cell? ⟨w.heap.size, 1, none⟩ = _ := HQ.out.bx.c1
              have lt : w.heap.size < w3.heap.size := HQ.out.bx.lt
              have fr : ∀ j, w3.frozen? ⟨w.heap.size, j, none⟩ = false := HQ.out.bx.fr
              have dc0 : w3.cell? ⟨w2.heap.size, 0, none⟩ = _ := HD.out.c0
              have dc1 : w3.cell? ⟨w2.heap.size, 1, none⟩ = _ := HD.out.c1
              have dlt : w2.heap.size < w3.heap.size := HD.out.lt
              have dfr : ∀ j, w3.frozen? ⟨w2.heap.size, j, none⟩ = false := HD.out.fr
              go_upto_region 17 with (go_at_call 9; refine HPR.out.mono ?_; rintro e w4 ⟨rfl, hb⟩; have HQ4 := hidOf (HQ.out.keep (hb.mono HQ.out.bs)); have HD4 := hidOf (HD.out.grow hb); clear hb; clear c0 c1 lt fr; clear dc0 dc1 dlt dfr; have c0 : w4.cell? ⟨w.heap.size, 0, none⟩ = _ := HQ4.out.bx.c0; have c1 : w4.cell? ⟨w.heap.size, 1, none⟩ = _ := HQ4.out.bx.c1; have lt : w.heap.size < w4.heap.size := HQ4.out.bx.lt; have fr : ∀ j, w4.frozen? ⟨w.heap.size, j, none⟩ = false := HQ4.out.bx.fr; have dc0 : w4.cell? ⟨w2.heap.size, 0, none⟩ = _ := HD4.out.c0; have dc1 : w4.cell? ⟨w2.heap.size, 1, none⟩ = _ := HD4.out.c1; have dlt : w2.heap.size < w4.heap.size := HD4.out.lt; have dfr : ∀ j, w4.frozen? ⟨w2.heap.size, j, none⟩ = false := HD4.out.fr)
              obtain ⟨w5, hw5⟩ : ∃ x, x = (w4.setCell ⟨w2.heap.size, 0, none⟩ (.slice none 0 0)).setCell ⟨w2.heap.size, 1, none⟩ (.slice none 0 0) := ⟨_, rfl⟩
              have HQ5 : Hid (Cq w w5 w2.heap.size pv pl U M cu cm) := hidOf (by rw [hw5]; exact HQ4.out.keep (below_set _ _ _ _))
              rw [← hw5]
              clear hw5
              clear c0 c1 lt fr
              clear dc0 dc1 dlt dfr
              have hvo := voter_any w5 pv pl U M cu cm ((k : Int) + 1) HQ5.out.cs.cf.v
              rw [HVB.out] at hvo
              have HVO := hidOf hvo
              clear hvo
              have c0 : w5.cell? ⟨w.heap.size, 0, none⟩ = _ := HQ5.out.bx.c0
              have c1 : w5.cell? ⟨w.heap.size, 1, none⟩ = _ := HQ5.out.bx.c1
              have lt : w.heap.size < w5.heap.size := HQ5.out.bx.lt
              have fr : ∀ j, w5.frozen? ⟨w.heap.size, j, none⟩ = false := HQ5.out.bx.fr
              go_wp2_with (go_at_call 11; refine HVO.out.mono ?_; rintro e w8 ⟨rfl, hb⟩; have HC8 := hidOf (HQ5.out.cs.grow hb); clear hb)
              go_roundw
              case rel => exact ⟨k + 1, by go_num, by omega, hidOf ⟨pv, pl, U, M, cu, cm, HC8.out, HP.out, HGI.out⟩⟩
              case measure => simp [intOf]; omega
        · obtain rfl : k = 5 := by omega
          have hltz : ¬ ((5 : Nat) : Int) + 1 ≤ 5 := by omega
          obtain ⟨rfl, rfl⟩ := grow_all HP.out HIN.out
          have HC0 := HC
          go_wp2_with (fail)
          go_loopw [8] (fun i wr => ∃ k : Nat, i = .int .i64 ((k : Int) + 1) ∧ k ≤ 5 ∧ Hid (∃ qv ql cu cm, Cs w wr w.heap.size qv ql (fv t k) [] cu cm)) (fun i _ => 6 - (intOf i).toNat)
          case atStart => exact ⟨0, rfl, Nat.zero_le _, hidOf ⟨pv, pl, cu, cm, by rw [fv_zero ht1]; exact HC.out⟩⟩
          case round =>
            obtain ⟨k, rfl, hk, HG2⟩ := hrel
            obtain ⟨qv, ql, du, dm, hC⟩ := HG2.out
            have HK := hidOf hC
            clear hC
            by_cases hlt : k < 5
            · have hltz : (k : Int) + 1 ≤ 5 := by omega
              by_cases het : (k : Int) + 1 = t
              · have hetb : (((k : Int) + 1) == t) = true := by rw [beq_iff_eq]; exact het
                have HF := hidOf (fv_skip het)
                clear het
                go_wp2
                go_roundw
                case rel => exact ⟨k + 1, by go_num, by omega, hidOf ⟨qv, ql, du, dm, by rw [← HF.out]; exact HK.out⟩⟩
                case measure => simp [intOf]; omega
              · have hetb : (((k : Int) + 1) == t) = false := by rw [beq_eq_false_iff_ne]; exact het
                obtain ⟨f1, f2, f3, f4⟩ := fv_step ht1 ht5 hlt het
                have hrm := remove_yes wr qv ql (fv t k) [] du dm ((k : Int) + 1) HK.out.cf f1
                rw [f4, show wto [] ((k : Int) + 1) = [] from rfl] at hrm
                have HRM := hidOf hrm
                have HF2 := hidOf f2
                have HF3 := hidOf f3
                clear hrm f1 f2 f3 f4 het
                have c0 : wr.cell? ⟨w.heap.size, 0, none⟩ = _ := HK.out.bx.c0
                have c1 : wr.cell? ⟨w.heap.size, 1, none⟩ = _ := HK.out.bx.c1
                have lt : w.heap.size < wr.heap.size := HK.out.bx.lt
                have fr : ∀ j, wr.frozen? ⟨w.heap.size, j, none⟩ = false := HK.out.bx.fr
                go_upto_region 24 with (go_at_call 12; refine HRM.out.mono ?_; rintro e w2 ⟨a1, k1, a2, k2, rfl, hr1, hr2, hb⟩; have HC2 := hidOf (HK.out.grow hb); have HR1 := hidOf hr1; have HR2 := hidOf hr2; clear hr1 hr2 hb; clear c0 c1 lt fr; have c0 : (w2.alloc (.cells #[.slice a1 (fv t (k + 1)).length k1, .slice a2 0 k2] 24)).cell? ⟨w.heap.size, 0, none⟩ = _ := (HC2.out.bx.grow (below1 w2 _)).c0; have c1 : (w2.alloc (.cells #[.slice a1 (fv t (k + 1)).length k1, .slice a2 0 k2] 24)).cell? ⟨w.heap.size, 1, none⟩ = _ := (HC2.out.bx.grow (below1 w2 _)).c1; have lt : w.heap.size < (w2.alloc (.cells #[.slice a1 (fv t (k + 1)).length k1, .slice a2 0 k2] 24)).heap.size := (HC2.out.bx.grow (below1 w2 _)).lt; have fr : ∀ j, (w2.alloc (.cells #[.slice a1 (fv t (k + 1)).length k1, .slice a2 0 k2] 24)).frozen? ⟨w.heap.size, j, none⟩ = false := (HC2.out.bx.grow (below1 w2 _)).fr)
                obtain ⟨w3, hw3⟩ : ∃ x, x = w2.alloc (.cells #[.slice a1 (fv t (k + 1)).length k1, .slice a2 0 k2] 24) := ⟨_, rfl⟩
                have HC3 : Hid (Cs w w3 w.heap.size qv ql (fv t k) [] du dm) := hidOf (by rw [hw3]; exact HC2.out.grow (below1 w2 _))
                have HD3 : Hid (Bx w3 w2.heap.size (.slice a1 (fv t (k + 1)).length k1) (.slice a2 0 k2)) := hidOf (by rw [hw3]; exact bx_new w2 _ _)
                have HR13 : Hid (Row w3 wr.heap.size (.slice a1 (fv t (k + 1)).length k1) (fv t (k + 1))) := hidOf (by rw [hw3]; exact HR1.out.grow (below1 w2 _))
                have HR23 : Hid (Row w3 wr.heap.size (.slice a2 0 k2) []) := hidOf (by rw [hw3]; exact HR2.out.grow (below1 w2 _))
                rw [← hw3]
                clear hw3 HR1 HR2
                clear c0 c1 lt fr
                have hsg := single_any w3 qv ql (fv t k) [] du dm a1 a2 (fv t (k + 1)) [] k1 k2 HC3.out.cf ⟨HR13.out.ints, Ints.nil _ _⟩
                rw [HF2.out] at hsg
                have HSG := hidOf hsg
                clear hsg
                have c0 : w3.cell? ⟨w.heap.size, 0, none⟩ = _ := HC3.out.bx.c0
                have c1 : w3.cell? ⟨w.heap.size, 1, none⟩ = _ := HC3.out.bx.c1
                have lt : w.heap.size < w3.heap.size := HC3.out.bx.lt
                have fr : ∀ j, w3.frozen? ⟨w.heap.size, j, none⟩ = false := HC3.out.bx.fr
                have dc0 : w3.cell? ⟨w2.heap.size, 0, none⟩ = _ := HD3.out.c0
                have dc1 : w3.cell? ⟨w2.heap.size, 1, none⟩ = _ := HD3.out.c1
                have dlt : w2.heap.size < w3.heap.size := HD3.out.lt
                have dfr : ∀ j, w3.frozen? ⟨w2.heap.size, j, none⟩ = false := HD3.out.fr
                go_upto_region 21 with (first
                  | (go_at_call 10; refine HSG.out.mono ?_; rintro e w4 ⟨rfl, hb⟩; have HC4 := hidOf (HC3.out.grow hb); have HD4 := hidOf (HD3.out.grow hb); have HR14 := hidOf (HR13.out.grow hb); have HR24 := hidOf (HR23.out.grow hb); clear hb; clear c0 c1 lt fr; clear dc0 dc1 dlt dfr; have c0 : w4.cell? ⟨w.heap.size, 0, none⟩ = _ := HC4.out.bx.c0; have c1 : w4.cell? ⟨w.heap.size, 1, none⟩ = _ := HC4.out.bx.c1; have lt : w.heap.size < w4.heap.size := HC4.out.bx.lt; have fr : ∀ j, w4.frozen? ⟨w.heap.size, j, none⟩ = false := HC4.out.bx.fr; have dc0 : w4.cell? ⟨w2.heap.size, 0, none⟩ = _ := HD4.out.c0; have dc1 : w4.cell? ⟨w2.heap.size, 1, none⟩ = _ := HD4.out.c1; have dlt : w2.heap.size < w4.heap.size := HD4.out.lt; have dfr : ∀ j, w4.frozen? ⟨w2.heap.size, j, none⟩ = false := HD4.out.fr; have hmy := may_any w4 a1 a2 (fv t (k + 1)) [] k1 k2 ⟨HR14.out.ints, Ints.nil _ _⟩; rw [HF3.out] at hmy; have HMY := hidOf hmy; clear hmy)
                  | (go_at_call 6; refine HMY.out.mono ?_; rintro e w6 ⟨rfl, hb⟩; have HC6 := hidOf (HC4.out.grow hb); have HD6 := hidOf (HD4.out.grow hb); have HR16 := hidOf (HR14.out.grow hb); have HR26 := hidOf (HR24.out.grow hb); clear hb; clear c0 c1 lt fr; clear dc0 dc1 dlt dfr; have c0 : w6.cell? ⟨w.heap.size, 0, none⟩ = _ := HC6.out.bx.c0; have c1 : w6.cell? ⟨w.heap.size, 1, none⟩ = _ := HC6.out.bx.c1; have lt : w.heap.size < w6.heap.size := HC6.out.bx.lt; have fr : ∀ j, w6.frozen? ⟨w.heap.size, j, none⟩ = false := HC6.out.bx.fr; have dc0 : w6.cell? ⟨w2.heap.size, 0, none⟩ = _ := HD6.out.c0; have dc1 : w6.cell? ⟨w2.heap.size, 1, none⟩ = _ := HD6.out.c1; have dlt : w2.heap.size < w6.heap.size := HD6.out.lt; have dfr : ∀ j, w6.frozen? ⟨w2.heap.size, j, none⟩ = false := HD6.out.fr))
                obtain ⟨w7, hw7⟩ : ∃ x, x = (w6.setCell ⟨w.heap.size, 0, none⟩ (.slice a1 (fv t (k + 1)).length k1)).setCell ⟨w.heap.size, 1, none⟩ (.slice a2 0 k2) := ⟨_, rfl⟩
                have HQ7 : Hid (Cq w w7 w6.heap.size a1 a2 (fv t (k + 1)) [] k1 k2) := hidOf (by rw [hw7]; exact Cs.put (L' := []) HC6.out (Below.refl _ _) HK.out.bx.lt HR16.out HR26.out)
                rw [← hw7]
                clear hw7
                clear c0 c1 lt fr
                clear dc0 dc1 dlt dfr
                go_wp2
                go_roundw
                case rel => exact ⟨k + 1, by go_num, by omega, hidOf ⟨a1, a2, k1, k2, HQ7.out.cs⟩⟩
                case measure => simp [intOf]; omega
            · obtain rfl : k = 5 := by omega
              have hltz : ¬ ((5 : Nat) : Int) + 1 ≤ 5 := by omega
              have hK := HK.out
              rw [fv_five ht1 ht5] at hK
              have hrm := remove_no wr qv ql [t] [] du dm t hK.cf (rem_one t)
              have HRM := hidOf hrm
              obtain ⟨b, off, hqv, _, hcc⟩ := hK.cf.v.at (k := 0) (by simp)
              subst hqv
              have HK5 := hidOf hK
              have hcc0 := hcc 0 (by simp)
              have HCC : Hid (wr.cell? ⟨b, off, none⟩ = some (.int .i64 t)) := hidOf hcc0
              clear hrm hK hcc hcc0
              have c0 : wr.cell? ⟨w.heap.size, 0, none⟩ = _ := HK5.out.bx.c0
              have c1 : wr.cell? ⟨w.heap.size, 1, none⟩ = _ := HK5.out.bx.c1
              have lt : w.heap.size < wr.heap.size := HK5.out.bx.lt
              have fr : ∀ j, wr.frozen? ⟨w.heap.size, j, none⟩ = false := HK5.out.bx.fr
              go_wp2_with (first
                | (go_at_call 12; refine HRM.out.mono ?_; rintro e w2 ⟨rfl, hb⟩; have HC2 := hidOf (HK5.out.grow hb); clear c0 c1 lt fr; have c0 : (w2.alloc (.cells #[.slice none 0 0, .slice none 0 0] 24)).cell? ⟨w.heap.size, 0, none⟩ = _ := (HC2.out.bx.grow (below1 w2 _)).c0; have c1 : (w2.alloc (.cells #[.slice none 0 0, .slice none 0 0] 24)).cell? ⟨w.heap.size, 1, none⟩ = _ := (HC2.out.bx.grow (below1 w2 _)).c1; have lt : w.heap.size < (w2.alloc (.cells #[.slice none 0 0, .slice none 0 0] 24)).heap.size := (HC2.out.bx.grow (below1 w2 _)).lt; have fr : ∀ j, (w2.alloc (.cells #[.slice none 0 0, .slice none 0 0] 24)).frozen? ⟨w.heap.size, j, none⟩ = false := (HC2.out.bx.grow (below1 w2 _)).fr; have x0 : (w2.alloc (.cells #[.slice none 0 0, .slice none 0 0] 24)).cell? ⟨b, off, none⟩ = _ := (HC2.out.grow (below1 w2 _)).cf.v.head; clear hb)
                | (go_at_call 7; refine (lives_any _).mono ?_; rintro e wl ⟨rfl, hb⟩; have HBL := hidOf hb; clear hb))
              go_ret
              exact ⟨rfl, below_then (below_then HC2.out.bel (below1 w2 _)) HBL.out⟩

end Go.Proofs.Yteaohmlbioooaab
