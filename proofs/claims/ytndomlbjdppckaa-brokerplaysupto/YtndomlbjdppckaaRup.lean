/- The document's Update. -/
import Derived.Test.YtndomlbjdppckaaRde
import Derived.Deep.RegionLaw
namespace Go.Proofs.Ytndomlbjdppckaa
open Go.RowKit
variable {D : Nat}

set_option maxHeartbeats 4000000 in
set_option maxRecDepth 100000 in
theorem rfind_any (pR : Nat) (v : Value) (R : List Itm) (j : Int) (K : Nat) (w : World) (h : RefR D w pR v R) (hF : FR (fun x => x.jb == j) R K) : Calls Try.prog 28 #[.pointer (some ⟨pR, 0, none⟩), .int .i64 j] w fun e w' => e = .returned (.int .i64 (if K < R.length then (K : Int) else -1)) ∧ w' = w := by
  obtain ⟨a, cap, rfl, hlm⟩ := h.slice
  unfold maxLen at hlm
  have c0 := h.cell
  have HH := hidOf h
  have HF := hidOf hF
  have hKl := hF.le
  clear h hF
  go_enter Try.func28, Try.ntmps28
  go_wp2
  go_loopw [5] (fun i wr => ∃ (k : Nat), i = .int .i64 (k : Int) ∧ k ≤ K ∧ wr = w) (fun i _ => K + 1 - (intOf i).toNat)
  case atStart => exact ⟨0, rfl, Nat.zero_le _, rfl⟩
  case round =>
    obtain ⟨k, rfl, hk, hwr⟩ := hrel
    subst hwr
    by_cases hlt : k < R.length
    · have hltz : (k : Int) < (R.length : Int) := by omega
      obtain ⟨x, hx⟩ : ∃ x, R[k]? = some x := ⟨R[k], List.getElem?_eq_getElem hlt⟩
      obtain ⟨g, cap', hv, hR, hpg, _⟩ := HH.out.at_ hx
      obtain ⟨rfl, rfl⟩ : a = some ⟨g, 0, none⟩ ∧ cap = cap' := by cases hv; exact ⟨rfl, rfl⟩
      obtain ⟨x0, _⟩ := hR.cells hx
      have HX := hidOf hx
      clear hv hR hpg hx
      by_cases hkN : k = K
      · subst hkN
        have hkk : (x.jb == j) = true := HF.out.hit x HX.out
        go_wp2
        go_ret
        (try rw [if_pos hlt])
        exact ⟨rfl, rfl⟩
      · have hkk : (x.jb == j) = false := HF.out.miss k x (by omega) HX.out
        go_wp2
        go_roundw
        case rel => exact ⟨k + 1, by go_num, by omega, by first | rfl | trivial⟩
        case measure => simp [intOf]; omega
    · have hltz : ¬ (k : Int) < (R.length : Int) := by omega
      go_wp2
      go_ret
      (try rw [if_neg (by omega)])
      exact ⟨rfl, rfl⟩

theorem u1_K {R : List Itm} {e : Ev} {K : Nat} (hF : FR (fun x => x.jb == e.jb) R K) (hs : e.st = 1) {x : Itm} (hx : R[K]? = some x) : u1 R e = if x.tk = true then R else R.set K (evI e x) := by
  have hK := (List.getElem?_eq_some_iff.1 hx).1
  unfold u1
  rw [if_pos hs, hF.idx, if_pos hK]
  have hg : R.getD K default = x := by simp [List.getD, hx]
  show (if (R.getD K default).tk = true then R else R.set K (evI e (R.getD K default))) = _
  rw [hg]
theorem u1_N {R : List Itm} {e : Ev} {K : Nat} (hF : FR (fun x => x.jb == e.jb) R K) (hs : e.st = 1) (hK : ¬ K < R.length) : u1 R e = R ++ [newI e] := by
  unfold u1
  rw [if_pos hs, hF.idx, if_neg hK]
theorem RefR.snoc {w w6 : World} {pR : Nat} {v v' : Value} {R : List Itm} {x : Itm} (h : RefR D w pR v R) (hr : w6.ownsRow 0 71 9 v' (R.length + 1) (rows R ++ itL x)) (hg : w.grownBy w6 v.ownBlock) (hv : v'.ownBlock = v.ownBlock ∨ v'.ownBlock = some w.heap.size) :
    RefR D (w6.setCell ⟨pR, 0, none⟩ v') pR v' (R ++ [x]) ∧ FrT D TR w (w6.setCell ⟨pR, 0, none⟩ v') ∧ w6.heap[pR]? = some (.cells #[v] 28 (0, 0)) := by
  have hF : FrT D [71] w w6 := grown_frt h.row h.lr hg
  have hb6 := hF.cells h.blk (by decide)
  refine ⟨⟨?_, ?_, h.lo, fun k hk => ?_⟩, FrT.set (hF.mono (by decide)) hb6 (by decide) h.lo 0 v', hb6⟩
  · rw [heap_setCell_same w6 pR 0 _ 28 _ hb6]; rfl
  · rw [List.length_append, rows_snoc]
    refine own_of_set hr (fun e => ?_) 0 v'
    rcases hr.2 with ⟨rfl, _⟩ | ⟨g, cap, cur, rfl, _, h4, _⟩
    · cases e
    · have e2 : g = pR := Option.some.inj e
      rw [e2, hb6] at h4; cases h4
  · rcases hv with hv | hv
    · exact h.lr k (hv.symm.trans hk)
    · rw [hv] at hk; cases hk
      exact Nat.le_of_lt (Nat.lt_of_le_of_lt h.lo (heap_lt h.blk))
theorem FrT.mono' {T : List Nat} {a b : World} (h : FrT 0 [] a b) : FrT D T a b := ⟨h.os, h.tape, h.output, h.size, fun k o hk _ => h.block k o hk (.inl (by cases o <;> rfl))⟩
theorem FrT.belowS {a b : World} (h : FrT 0 [] a b) : Below a.heap.size a b := ⟨h.os, h.tape, h.output, h.size, fun k hk => by
  have h1 := Array.getElem?_eq_getElem (xs := a.heap) (i := k) hk
  rw [h1]; exact h.block k _ h1 (.inl (by cases a.heap[k] <;> rfl))⟩
def fk (R : List Itm) (es : List Ev) (k : Nat) : List Itm := (R.take k).filter (fun x => pend es x.jb || x.tk)
theorem fk_yes {R : List Itm} {es : List Ev} {k : Nat} {x : Itm} (h : R[k]? = some x) (hp : (pend es x.jb || x.tk) = true) : fk R es (k + 1) = fk R es k ++ [x] := by
  unfold fk
  rw [List.take_add_one, h, List.filter_append]
  simp only [Option.toList_some, List.filter_cons, hp, if_true, List.filter_nil]
theorem fk_no {R : List Itm} {es : List Ev} {k : Nat} {x : Itm} (h : R[k]? = some x) (hp : (pend es x.jb || x.tk) = false) : fk R es (k + 1) = fk R es k := by
  unfold fk
  rw [List.take_add_one, h, List.filter_append]
  simp [hp]
theorem fk_len (R : List Itm) (es : List Ev) (k : Nat) : (fk R es k).length ≤ R.length := by
  unfold fk
  exact Nat.le_trans (List.length_filter_le _ _) (by simp; omega)

set_option maxHeartbeats 16000000 in
set_option maxRecDepth 100000 in
theorem rupd_any (pR : Nat) (v : Value) (R : List Itm) (a : Option Addr) (c : Nat) (es : List Ev) (w : World) (h : RefR D w pR v R) (hE : EvR D w a es) (hN : R.length + es.length ≤ 1048576000) :
    Calls Try.prog 10 #[.pointer (some ⟨pR, 0, none⟩), .agg #[.int .i64 0, .int .i64 0, .slice none 0 0, .slice none 0 0, .slice none 0 0, .slice none 0 0, .slice a es.length c, .slice none 0 0, .slice none 0 0]] w fun e w' => e = .returned (.tuple #[]) ∧ (∃ v', RefR D w' pR v' (upM R es)) ∧ FrT D TR w w' := by
  have hDw : D ≤ w.heap.size := Nat.le_of_lt (Nat.lt_of_le_of_lt h.lo (heap_lt h.blk))
  obtain ⟨i0, hi0, hz0, hz1, hz2⟩ := info_parts info71
  have HI := hidOf hi0
  have HZ0 := hidOf hz0
  have HZ1 := hidOf hz1
  have HZ2 := hidOf hz2
  have HE := hidOf hE
  have HR0 : Hid (RefR D (w.alloc (.cells #[.int .i64 0, .int .i64 0, .slice none 0 0, .slice none 0 0, .slice none 0 0, .slice none 0 0, .slice a es.length c, .slice none 0 0, .slice none 0 0] 40)) pR v R) := hidOf (h.grow (below1 w _))
  have HQ0 : Hid ((w.alloc (.cells #[.int .i64 0, .int .i64 0, .slice none 0 0, .slice none 0 0, .slice none 0 0, .slice none 0 0, .slice a es.length c, .slice none 0 0, .slice none 0 0] 40)).heap[w.heap.size]? = some (.cells #[.int .i64 0, .int .i64 0, .slice none 0 0, .slice none 0 0, .slice none 0 0, .slice none 0 0, .slice a es.length c, .slice none 0 0, .slice none 0 0] 40 (0, 0))) := hidOf (heap_alloc_new w _)
  have HF0 : Hid (FrT D TR w (w.alloc (.cells #[.int .i64 0, .int .i64 0, .slice none 0 0, .slice none 0 0, .slice none 0 0, .slice none 0 0, .slice a es.length c, .slice none 0 0, .slice none 0 0] 40))) := hidOf (FrT.of_below (below1 w _))
  have hs3 : ∀ W : World, W.heap[w.heap.size]? = some (.cells #[.int .i64 0, .int .i64 0, .slice none 0 0, .slice none 0 0, .slice none 0 0, .slice none 0 0, .slice a es.length c, .slice none 0 0, .slice none 0 0] 40 (0, 0)) → W.cell? ⟨w.heap.size, 6, none⟩ = some (.slice a es.length c) := fun W hW => by rw [cell_of_row W _ 6 _ 40 (0, 0) hW]; rfl
  have HS3 := hidOf hs3
  clear h hE hi0 hz0 hz1 hz2 hs3
  go_enter Try.func10, Try.ntmps10
  go_wp2
  go_loopw [4] (fun i wr => ∃ (k : Nat) (vk : Value) (Rk : List Itm), k ≤ es.length ∧ i = .int .i64 (k : Int) ∧ Hid (RefR D wr pR vk Rk) ∧ Hid (Rk = (es.take k).foldl u1 R ∧ Rk.length ≤ R.length + k) ∧ Hid (wr.heap[w.heap.size]? = some (.cells #[.int .i64 0, .int .i64 0, .slice none 0 0, .slice none 0 0, .slice none 0 0, .slice none 0 0, .slice a es.length c, .slice none 0 0, .slice none 0 0] 40 (0, 0))) ∧ Hid (FrT D TR w wr)) (fun i _ => es.length - (intOf i).toNat)
  case atStart => exact ⟨0, v, R, Nat.zero_le _, rfl, HR0, hidOf ⟨rfl, Nat.le_refl _⟩, HQ0, HF0⟩
  case round =>
    obtain ⟨k, vk, Rk, hk, rfl, HRk, HEk, HQk, HFk⟩ := hrel
    clear HR0 HQ0 HF0
    have s6 := HS3.out wr HQk.out
    have hql := heap_lt HQk.out
    have hRl : Rk.length ≤ 1048576000 := by have := HEk.out.2; omega
    by_cases hlt : k < es.length
    · have hltz : (k : Int) < (es.length : Int) := by omega
      obtain ⟨e, he⟩ : ∃ e, es[k]? = some e := ⟨es[k], List.getElem?_eq_getElem hlt⟩
      obtain ⟨b0, off, rfl, hbl, _, hcc⟩ := (HE.out.frt HFk.out (by decide)) (fun x => by subst x; simp at hlt)
      obtain ⟨c0, c1, c2, c3⟩ := hcc k e he
      have HFO := hidOf (foldl_succ he R)
      have HBa : Hid (Below wr.heap.size wr (wr.alloc (.cells #[.int .i64 e.jb, .int .i64 e.pr, .int .i64 e.st, .int .i64 e.ix] 42))) := hidOf (below1 _ _)
      have HRa := hidOf (HRk.out.grow HBa.out)
      have HQa : Hid ((wr.alloc (.cells #[.int .i64 e.jb, .int .i64 e.pr, .int .i64 e.st, .int .i64 e.ix] 42)).heap[w.heap.size]? = some (.cells #[.int .i64 0, .int .i64 0, .slice none 0 0, .slice none 0 0, .slice none 0 0, .slice none 0 0, .slice (some ⟨b0, off, none⟩) es.length c, .slice none 0 0, .slice none 0 0] 40 (0, 0))) := hidOf ((HBa.out.block _ hql).trans HQk.out)
      have HFa : Hid (FrT D TR w (wr.alloc (.cells #[.int .i64 e.jb, .int .i64 e.pr, .int .i64 e.st, .int .i64 e.ix] 42))) := hidOf (HFk.out.trans (FrT.of_below HBa.out))
      clear hcc he
      by_cases hst : e.st = 1
      · have hstb : (e.st == 1) = true := by simp [hst]
        have HST := hidOf hst
        obtain ⟨K, hF⟩ := FR.ex (fun x : Itm => x.jb == e.jb) Rk
        have HC := hidOf (rfind_any pR vk Rk e.jb K (wr.alloc (.cells #[.int .i64 e.jb, .int .i64 e.pr, .int .i64 e.st, .int .i64 e.ix] 42)) HRa.out hF)
        have HFR := hidOf hF
        have hKl := hF.le
        obtain ⟨av, cv, hvk, hlm⟩ := HRa.out.slice
        subst hvk
        have d0 := HRa.out.cell
        have zp : (wr.alloc (.cells #[.int .i64 e.jb, .int .i64 e.pr, .int .i64 e.st, .int .i64 e.ix] 42)).frozen? ⟨pR, 0, none⟩ = false := by simp [World.frozen?, HRa.out.blk]
        have hpa := heap_lt HRa.out.blk
        clear hst hF
        by_cases hK : K < Rk.length
        · simp only [if_pos hK] at HC
          have hKz : ¬ (K : Int) < 0 := by omega
          have hKz2 : (K : Int) < (Rk.length : Int) := by omega
          obtain ⟨x, hx⟩ : ∃ x, Rk[K]? = some x := ⟨Rk[K], List.getElem?_eq_getElem hK⟩
          obtain ⟨g, cap', hv, hR, hpg, _⟩ := HRa.out.at_ hx
          obtain ⟨rfl, rfl⟩ : av = some ⟨g, 0, none⟩ ∧ cv = cap' := by cases hv; exact ⟨rfl, rfl⟩
          obtain ⟨x0, x1, x2, x3, _, _, x6, _, _⟩ := hR.cells hx
          have zg := hR.frozen
          have hgl := hR.lt
          have HU := hidOf (u1_K HFR.out HST.out hx)
          have hgp : g ≠ pR := fun e => hpg e.symm
          have hgw : g ≠ wr.heap.size := fun e9 => by
            obtain ⟨cur, hc, _⟩ := hR.at_
            rw [e9, heap_alloc_new] at hc; cases hc
          have hwg : wr.heap.size ≠ g := fun e9 => hgw e9.symm
          cases ht : x.tk with
          | true =>
            rw [ht] at x6
            rw [ht, if_pos rfl] at HU
            clear hv hR hx ht
            go_wp2_with (go_at_call 28; refine HC.out.mono ?_; rintro e w9 ⟨rfl, h9⟩; subst w9)
            go_roundw
            case rel => exact ⟨k + 1, _, Rk, by omega, by go_num, HRa, hidOf ⟨by rw [HFO.out, ← HEk.out.1, HU.out], by have := HEk.out.2; omega⟩, HQa, HFa⟩
            case measure => simp [intOf]; omega
          | false =>
            rw [ht] at x6
            rw [ht, if_neg (by simp)] at HU
            obtain ⟨A1, A2, A3, A4, A5⟩ := HRa.out.setn hR hpg rfl hx 0 (by omega) (.int .i64 e.jb) (y := { x with jb := e.jb }) rfl
            obtain ⟨B1, B2, B3, B4, B5⟩ := A1.setn A2 hpg A4 A5 1 (by omega) (.int .i64 e.pr) (y := { x with jb := e.jb, pr := e.pr }) rfl
            obtain ⟨C1, C2, C3, C4, C5⟩ := B1.setn B2 hpg B4 B5 2 (by omega) (.int .i64 e.st) (y := { x with jb := e.jb, pr := e.pr, st := e.st }) rfl
            obtain ⟨D1, D2, D3, D4, D5⟩ := C1.setn C2 hpg C4 C5 3 (by omega) (.int .i64 e.ix) (y := evI e x) rfl
            simp only [List.set_set, Nat.add_zero] at D1 D3 A3 B3 C3
            have HD1 := hidOf D1
            have HD3 := hidOf (((A3.trans B3).trans C3).trans D3)
            clear hv hR hx ht A1 A2 A3 A4 A5 B1 B2 B3 B4 B5 C1 C2 C3 C4 C5 D1 D2 D3 D4 D5
            go_wp2_with (go_at_call 28; refine HC.out.mono ?_; rintro e w9 ⟨rfl, h9⟩; subst w9)
            go_region
            all_goals (
              go_wp2
              go_roundw
              case rel => exact ⟨k + 1, _, Rk.set K (evI e x), by omega, by go_num, hidOf (HD1.out.keepT (FrT.refl 0 [] _).drew (by simp) (by simp)), hidOf ⟨by rw [HFO.out, ← HEk.out.1, HU.out], by have := HEk.out.2; rw [List.length_set]; omega⟩, hidOf (HD3.out.drew.cells HQa.out (by decide)), hidOf (HFa.out.trans (HD3.out.drew.mono (by decide)))⟩
              case measure => simp [intOf]; omega)
        · simp only [if_neg hK] at HC
          have HU := hidOf (u1_N HFR.out HST.out hK)
          have HOB : Hid (∀ o : Obj, ((wr.alloc (.cells #[.int .i64 e.jb, .int .i64 e.pr, .int .i64 e.st, .int .i64 e.ix] 42)).alloc o).ownsRow 0 71 9 (.slice av Rk.length cv) Rk.length (rows Rk)) := hidOf (fun o => own_keepT (D := 0) (T := []) HRa.out.row (FrT.of_below (below1 _ o)) (by simp))
          go_wp2_with (go_at_call 28; refine HC.out.mono ?_; rintro e w9 ⟨rfl, h9⟩; subst w9)
          have HFZ : Hid (∀ o : Obj, FrT D TR (wr.alloc (.cells #[.int .i64 e.jb, .int .i64 e.pr, .int .i64 e.st, .int .i64 e.ix] 42)) ((wr.alloc (.cells #[.int .i64 e.jb, .int .i64 e.pr, .int .i64 e.st, .int .i64 e.ix] 42)).alloc o).drew) := hidOf (fun o => (FrT.of_below (below1 _ o)).drew)
          have HRZ : Hid (∀ o : Obj, RefR D ((wr.alloc (.cells #[.int .i64 e.jb, .int .i64 e.pr, .int .i64 e.st, .int .i64 e.ix] 42)).alloc o).drew pR (.slice av Rk.length cv) Rk) := hidOf (fun o => HRa.out.keepT (D' := 0) (T := []) ((FrT.of_below (below1 _ o)).drew) (by simp) (by simp))
          have d0b : ∀ o : Obj, ((wr.alloc (.cells #[.int .i64 e.jb, .int .i64 e.pr, .int .i64 e.st, .int .i64 e.ix] 42)).alloc o).cell? ⟨pR, 0, none⟩ = some (.slice av Rk.length cv) := fun o => ((below1 (wr.alloc (.cells #[.int .i64 e.jb, .int .i64 e.pr, .int .i64 e.st, .int .i64 e.ix] 42)) o).cell (p := ⟨pR, 0, none⟩) hpa).trans d0
          go_region_law (first | (refine step_app _ rfl (.tmp 36) (.tmp 39) 26 rfl 0 71 i0 (.agg #[.int .i64 0, .int .i64 0, .int .i64 0, .int .i64 0, .int .i64 0, .int .i64 0, .bool false, .int .i64 0, .int .i64 0]) 9 72 Try.underlying26 HI.out HZ0.out HZ1.out HZ2.out rfl (by decide) (.slice av Rk.length cv) Rk.length (rows Rk) rfl (HRZ.out _).row ⟨wr.heap.size + 1, 0, none⟩ 1 1 [.int .i64 e.jb, .int .i64 e.pr, .int .i64 e.st, .int .i64 e.ix, .int .i64 0, .int .i64 0, .bool false, .int .i64 0, .int .i64 0] rfl rfl (fun j u hj => by have h9 := cell_news (wr.alloc (.cells #[.int .i64 e.jb, .int .i64 e.pr, .int .i64 e.st, .int .i64 e.ix] 42)) ([.int .i64 e.jb, .int .i64 e.pr, .int .i64 e.st, .int .i64 e.ix, .int .i64 0, .int .i64 0, .bool false, .int .i64 0, .int .i64 0] : List Value).toArray 71 j u (by simpa using hj); rw [World.size_alloc] at h9; exact h9) (itL_one (newI e)) (by unfold maxLen; omega) (by omega) (Nat.zero_le _) ?_; intro v6 w6 ho6 hg6 hv6; obtain ⟨hls, hfs, hb6⟩ := RefR.snoc (x := newI e) (HRZ.out _) ho6 hg6 hv6; obtain ⟨a6, c6, rfl⟩ := own_slice ho6; have z6 : w6.frozen? ⟨pR, 0, none⟩ = false := (by simp [World.frozen?, hb6]); have z7 : w6.cell? ⟨pR, 0, none⟩ = some (.slice av Rk.length cv) := (by rw [cell_of_row w6 pR 0 _ 28 (0, 0) hb6]; rfl); have HLS := hidOf hls; have HFS := hidOf ((HFZ.out _).trans hfs); clear ho6 hg6 hv6 hls hfs hb6))
          all_goals (
            go_wp2
            go_roundw
            case rel => exact ⟨k + 1, _, Rk ++ [newI e], by omega, by go_num, HLS, hidOf ⟨by rw [HFO.out, ← HEk.out.1, HU.out], by have := HEk.out.2; simp; omega⟩, hidOf (HFS.out.cells HQa.out (by decide)), hidOf (HFa.out.trans HFS.out)⟩
            case measure => simp [intOf]; omega)
      · have hstb : (e.st == 1) = false := by simp [hst]
        have HU := hidOf (u1_no (R := Rk) hst)
        clear hst
        go_wp2
        go_roundw
        case rel => exact ⟨k + 1, vk, Rk, by omega, by go_num, HRa, hidOf ⟨by rw [HFO.out, ← HEk.out.1, HU.out], by have := HEk.out.2; omega⟩, HQa, HFa⟩
        case measure => simp [intOf]; omega
    · obtain rfl : k = es.length := by omega
      have hltz : ¬ (es.length : Int) < (es.length : Int) := by omega
      obtain ⟨wo, hwo⟩ : ∃ x, x = wr := ⟨_, rfl⟩
      subst hwo
      obtain ⟨av, cv, hvk, hlm⟩ := HRk.out.slice
      subst hvk
      have HUP : Hid (upM R es = fk Rk es Rk.length) := hidOf (by unfold upM fk; rw [List.take_length, HEk.out.1, List.take_length])
      clear hlt
      go_wp2
      go_loopw [7, 8] (fun o i wz => ∃ (k : Nat) (az : Option Addr) (cz : Nat), k ≤ Rk.length ∧ i = .int .i64 (k : Int) ∧ o = .slice az (fk Rk es k).length cz ∧ Hid (wz.ownsRow 0 71 9 (.slice az (fk Rk es k).length cz) (fk Rk es k).length (rows (fk Rk es k))) ∧ Hid (∀ q, (Value.slice az (fk Rk es k).length cz).ownBlock = some q → wo.heap.size ≤ q) ∧ Hid (Below wo.heap.size wo wz)) (fun _ i _ => Rk.length - (intOf i).toNat)
      case atStart => exact ⟨0, none, 0, Nat.zero_le _, rfl, rfl, hidOf ⟨rfl, .inl ⟨rfl, rfl⟩⟩, hidOf (fun q hq => by cases hq), hidOf (Below.refl _ _)⟩
      case round =>
        obtain ⟨k, az, cz, hk2, rfl, rfl, HO, HD, HB⟩ := hrel
        obtain ⟨wz, hwz⟩ : ∃ x, x = wr := ⟨_, rfl⟩
        subst hwz
        have hHr := HRk.out.grow HB.out
        have c0 := hHr.cell
        have hpl := heap_lt hHr.blk
        by_cases hlt : k < Rk.length
        · have hltz : (k : Int) < (Rk.length : Int) := by omega
          obtain ⟨x, hx⟩ : ∃ x, Rk[k]? = some x := ⟨Rk[k], List.getElem?_eq_getElem hlt⟩
          obtain ⟨g, cap', hv, hR, hpg, _⟩ := hHr.at_ hx
          obtain ⟨rfl, rfl⟩ : av = some ⟨g, 0, none⟩ ∧ cv = cap' := by cases hv; exact ⟨rfl, rfl⟩
          have HRI := hidOf hR
          have HX := hidOf hx
          clear hv hR hHr hx
          go_wp2
          clear c0 s6 hpl
          go_loopw [9, 10] (fun f i wy => ∃ m : Nat, m ≤ es.length ∧ i = .int .i64 (m : Int) ∧ f = .bool (pend (es.take m) x.jb) ∧ Hid (FrT 0 [] wz wy)) (fun _ i _ => es.length - (intOf i).toNat)
          case atStart => exact ⟨0, Nat.zero_le _, rfl, rfl, hidOf (FrT.refl _ _ _)⟩
          case round =>
            obtain ⟨m, hm, rfl, rfl, HY⟩ := hrel
            obtain ⟨wy, hwy⟩ : ∃ x, x = wr := ⟨_, rfl⟩
            subst hwy
            have HBY : Hid (FrT 0 [] wo wy) := hidOf ((FrT.of_below HB.out).trans HY.out)
            have s6 := HS3.out wy (HBY.out.cells HQk.out (by simp))
            have hyr := HRk.out.keepT HBY.out (by simp) (by simp)
            have c0 := hyr.cell
            by_cases hml : m < es.length
            · have hmz : (m : Int) < (es.length : Int) := by omega
              obtain ⟨e, he⟩ : ∃ e, es[m]? = some e := ⟨es[m], List.getElem?_eq_getElem hml⟩
              obtain ⟨b0, off, rfl, hbl, _, hcc⟩ := (HE.out.frt (HFk.out.trans (HBY.out.mono' (D := D) (T := TR))) (by decide)) (fun x => by subst x; simp at hml)
              obtain ⟨e0, _, e2, _⟩ := hcc m e he
              obtain ⟨g2, cap2, hv2, hR2, _⟩ := hyr.at_ HX.out
              obtain ⟨rfl, rfl⟩ : g = g2 ∧ cv = cap2 := by cases hv2; exact ⟨rfl, rfl⟩
              obtain ⟨x0, _⟩ := hR2.cells HX.out
              have hgl := hR2.lt
              have HPS : Hid (pend (es.take (m + 1)) x.jb = (pend (es.take m) x.jb || (e.st == 1 && e.jb == x.jb))) := hidOf (by rw [List.take_add_one, he]; exact pend_snoc _ _ _)
              have hql2 := heap_lt (HBY.out.cells HQk.out (by simp))
              have hpl2 := heap_lt hyr.blk
              clear hv2 hR2 hcc he hyr
              cases hp : pend (es.take m) x.jb with
              | true =>
                rw [hp] at HPS
                clear hp
                go_wp2
                go_region
                all_goals (
                  go_wp2
                  go_roundw
                  case rel => exact ⟨m + 1, by omega, by go_num, by rw [HPS.out]; rfl, hidOf HY.out.drew⟩
                  case measure => simp [intOf]; omega)
              | false =>
                rw [hp] at HPS
                clear hp
                cases hs : e.st == 1 with
                | false =>
                  rw [hs] at HPS
                  go_wp2
                  go_region
                  all_goals (
                    go_wp2
                    go_roundw
                    case rel => exact ⟨m + 1, by omega, by go_num, by rw [HPS.out]; rfl, hidOf HY.out.drew⟩
                    case measure => simp [intOf]; omega)
                | true =>
                  rw [hs] at HPS
                  generalize hj : (e.jb == x.jb) = bj at HPS
                  go_wp2
                  go_region
                  all_goals (
                    go_wp2
                    go_roundw
                    case rel => exact ⟨m + 1, by omega, by go_num, by rw [HPS.out]; simp, hidOf HY.out.drew⟩
                    case measure => simp [intOf]; omega)
            · obtain rfl : m = es.length := by omega
              have hmz : ¬ (es.length : Int) < (es.length : Int) := by omega
              have hte : es.take es.length = es := List.take_length
              rw [hte]
              obtain ⟨g2, cap2, hv2, hR2, _⟩ := hyr.at_ HX.out
              obtain ⟨rfl, rfl⟩ : g = g2 ∧ cv = cap2 := by cases hv2; exact ⟨rfl, rfl⟩
              obtain ⟨x0, x1, x2, x3, x4, x5, x6, x7, x8⟩ := hR2.cells HX.out
              have hgl := hR2.lt
              have hql2 := heap_lt (HBY.out.cells HQk.out (by simp))
              have hpl2 := heap_lt hyr.blk
              have hel := fk_len Rk es k
              have HOB : Hid (∀ o : Obj, (wy.alloc o).ownsRow 0 71 9 (.slice az (fk Rk es k).length cz) (fk Rk es k).length (rows (fk Rk es k))) := hidOf (fun o => own_keepT (D := 0) (T := []) HO.out (HY.out.trans (FrT.of_below (below1 wy o))) (by simp))
              have HBY2 : Hid (Below wo.heap.size wo wy) := hidOf (HBY.out.belowS)
              clear hv2 hR2 hyr hte
              cases hp : (pend es x.jb || x.tk) with
              | false =>
                have HE2 := hidOf (fk_no HX.out hp)
                have hp1 : pend es x.jb = false := by cases h1 : pend es x.jb <;> simp_all
                have hp2 : x.tk = false := by cases h1 : x.tk <;> simp_all
                rw [hp1]
                rw [hp2] at x6
                clear hp hp1 hp2
                go_wp2
                go_roundw
                case rel => exact ⟨k + 1, az, cz, by omega, by go_num, by rw [HE2.out], hidOf (by rw [HE2.out]; exact own_keepT HO.out HY.out (by simp)), hidOf (by rw [HE2.out]; exact HD.out), HBY2⟩
                case measure => simp [intOf]; omega
              | true =>
                have HE2 := hidOf (fk_yes HX.out hp)
                cases hp1 : pend es x.jb with
                | true =>
                  clear hp hp1
                  go_upto_region 21 with (fail)
                  go_wp2_with (at_builtin; refine wpList_appP _ rfl _ _ 26 rfl 0 71 i0 (.agg #[.int .i64 0, .int .i64 0, .int .i64 0, .int .i64 0, .int .i64 0, .int .i64 0, .bool false, .int .i64 0, .int .i64 0]) 9 72 Try.underlying26 HI.out HZ0.out HZ1.out HZ2.out rfl (by decide) (.slice az (fk Rk es k).length cz) (fk Rk es k).length (rows (fk Rk es k)) rfl (HOB.out _) ⟨wy.heap.size, 0, none⟩ 1 1 (itL x) rfl rfl (fun j u hj => cell_news wy (itC x) 71 j u hj) (itL_one x) (by unfold maxLen; omega) (by omega) (Nat.zero_le _) ?_; intro v6 w6 ho6 hg6 hv6; obtain ⟨a6, c6, rfl⟩ := own_slice ho6; have HO6 := hidOf ho6; have HV6 := hidOf hv6; have HB6 : Hid (Below wo.heap.size wo w6) := hidOf ((HBY2.out.trans ((below1 wy _).mono HBY2.out.size)).grown hg6 (Nat.le_trans HBY2.out.size (below1 wy _).size) (fun q hq => HD.out q hq)); clear ho6 hg6 hv6)
                  go_roundw
                  case rel => exact ⟨k + 1, a6, c6, by omega, by go_num, by rw [HE2.out, List.length_append]; rfl, hidOf (by rw [HE2.out, List.length_append, rows_snoc]; exact HO6.out), hidOf (fun q hq => by
                      rw [HE2.out, List.length_append] at hq
                      rcases HV6.out with h9 | h9
                      · exact HD.out q (h9.symm.trans hq)
                      · have h8 := h9.symm.trans hq
                        have h7 := Option.some.inj h8
                        rw [World.size_alloc] at h7
                        have h6 := HBY2.out.size
                        omega), HB6⟩
                  case measure => simp [intOf]; omega
                | false =>
                  have hp2 : x.tk = true := by simpa [hp1] using hp
                  have HXE : Hid (({ x with tk := true } : Itm) = x) := hidOf (by cases x; simp_all)
                  rw [hp2] at x6
                  clear hp hp1
                  go_upto_region 21 with (fail)
                  go_wp2_with (at_builtin; refine wpList_appP _ rfl _ _ 26 rfl 0 71 i0 (.agg #[.int .i64 0, .int .i64 0, .int .i64 0, .int .i64 0, .int .i64 0, .int .i64 0, .bool false, .int .i64 0, .int .i64 0]) 9 72 Try.underlying26 HI.out HZ0.out HZ1.out HZ2.out rfl (by decide) (.slice az (fk Rk es k).length cz) (fk Rk es k).length (rows (fk Rk es k)) rfl (HOB.out _) ⟨wy.heap.size, 0, none⟩ 1 1 (itL { x with tk := true }) rfl rfl (fun j u hj => cell_news wy (itC { x with tk := true }) 71 j u hj) (itL_one { x with tk := true }) (by unfold maxLen; omega) (by omega) (Nat.zero_le _) ?_; intro v6 w6 ho6 hg6 hv6; obtain ⟨a6, c6, rfl⟩ := own_slice ho6; have HO6 := hidOf ho6; have HV6 := hidOf hv6; have HB6 : Hid (Below wo.heap.size wo w6) := hidOf ((HBY2.out.trans ((below1 wy _).mono HBY2.out.size)).grown hg6 (Nat.le_trans HBY2.out.size (below1 wy _).size) (fun q hq => HD.out q hq)); clear ho6 hg6 hv6)
                  go_roundw
                  case rel => exact ⟨k + 1, a6, c6, by omega, by go_num, by rw [HE2.out, List.length_append]; rfl, hidOf (by rw [HE2.out, List.length_append, rows_snoc]; have h9 := HO6.out; rw [HXE.out] at h9; exact h9), hidOf (fun q hq => by
                      rw [HE2.out, List.length_append] at hq
                      rcases HV6.out with h9 | h9
                      · exact HD.out q (h9.symm.trans hq)
                      · have h8 := h9.symm.trans hq
                        have h7 := Option.some.inj h8
                        rw [World.size_alloc] at h7
                        have h6 := HBY2.out.size
                        omega), HB6⟩
                  case measure => simp [intOf]; omega
        · obtain rfl : k = Rk.length := by omega
          have hltz : ¬ (Rk.length : Int) < (Rk.length : Int) := by omega
          have zf : wz.frozen? ⟨pR, 0, none⟩ = false := by simp [World.frozen?, hHr.blk]
          have HHR := hidOf hHr
          clear hHr
          generalize hgF : fk Rk es Rk.length = F at HO HD HUP
          go_wp2
          go_end0
          have hF9 : FrT D TR wz (wz.setCell ⟨pR, 0, none⟩ (.slice az F.length cz)) := FrT.set (FrT.refl _ _ _) HHR.out.blk (by decide) HHR.out.lo 0 _
          rw [HUP.out]
          have hDr : D ≤ wo.heap.size := Nat.le_trans hDw HFk.out.size
          refine ⟨rfl, ⟨.slice az F.length cz, ⟨?_, ?_, HHR.out.lo, fun q hq => Nat.le_trans hDr (HD.out q hq)⟩⟩, (HFk.out.trans (FrT.of_below HB.out)).trans hF9⟩
          · rw [heap_setCell_same wz pR 0 _ 28 _ HHR.out.blk]; rfl
          · refine own_of_set HO.out (fun e => ?_) 0 _
            have h1 := HD.out pR e
            have h2 := heap_lt HRk.out.blk
            omega
end Go.Proofs.Ytndomlbjdppckaa
