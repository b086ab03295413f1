/- LifeAsks walked. -/
import Derived.Test.YtcdbkieimkcogaaLf
namespace Go.Proofs.Ytcdbkieimkcogaa
open Go.RowKit
variable {D : Nat}

def IdR (R : List Nd) : Prop := ∀ (i : Nat) x, R[i]? = some x → x.id = (i : Int)
theorem IdR.nodup {R : List Nd} (h : IdR R) : (R.map (·.id)).Nodup := by
  refine List.pairwise_iff_getElem.2 fun i j hi hj hij => ?_
  simp only [List.length_map] at hi hj
  simp only [List.getElem_map]
  rw [h i _ (List.getElem?_eq_getElem hi), h j _ (List.getElem?_eq_getElem hj)]
  omega
theorem IdR.snoc {R : List Nd} (h : IdR R) (x : Nd) : IdR (R ++ [{ x with id := (R.length : Int) }]) := by
  intro i y hy
  by_cases hi : i < R.length
  · rw [List.getElem?_append_left hi] at hy; exact h i y hy
  · rw [List.getElem?_append_right (by omega)] at hy
    have : i - R.length = 0 := by
      have := (List.getElem?_eq_some_iff.1 hy).1
      simp at this; omega
    rw [this] at hy
    simp at hy
    rw [← hy]
    show (R.length : Int) = i
    omega
def nUp (R : List Nd) : Nat := (R.filter (·.up)).length
theorem nUp_snoc (R : List Nd) (x : Nd) : nUp (R ++ [x]) = nUp R + if x.up then 1 else 0 := by
  unfold nUp
  rw [List.filter_append, List.length_append]
  cases h : x.up <;> simp [h]
theorem ups_len (R : List Nd) : (ups R).length = nUp R := by simp [ups, nUp]
theorem nUp_le (R : List Nd) : nUp R ≤ R.length := List.length_filter_le _ _
theorem ups_at {R : List Nd} (h : IdR R) {k : Nat} {c : Cm} (hc : (ups R)[k]? = some c) : ∃ (j : Nat) (x : Nd), R[j]? = some x ∧ c.op = 7 ∧ c.nd = (j : Int) ∧ x.up = true ∧ c.ep = x.ep := by
  have hm := List.mem_of_getElem? hc
  obtain ⟨x, hx, rfl⟩ := List.mem_map.1 hm
  obtain ⟨hx1, hx2⟩ := List.mem_filter.1 hx
  obtain ⟨j, hj⟩ := List.mem_iff_getElem?.1 hx1
  exact ⟨j, x, hj, rfl, h j x hj, hx2, rfl⟩
theorem if52 : IfR 52 8 56 := IfR.of (z := .agg #[.int .i64 0, .int .i64 0, .int .i64 0, .bool false, .bool false, .int .i64 0, .int .i64 0, .int .i64 0]) (by kernel_rfl) rfl
theorem nd_size (n : Nd) : (ndC n).size = 8 := rfl
theorem nd_one (n : Nd) : ∀ u ∈ (ndC n).toList, u.oneCell' = true := by
  intro u hu
  simp [ndC] at hu
  rcases hu with rfl | rfl | rfl | rfl | rfl | rfl | rfl | rfl <;> rfl

theorem OwR.hi {lo ty s : Nat} {α : Type} {f : α → Array Value} {w : World} {v : Value} {R : List α} (h : OwR lo ty s f w v R) : ∀ k, v.ownBlock = some k → k < w.heap.size := by
  intro k hk
  rcases h.2 with ⟨rfl, _⟩ | ⟨g, cap, cur, rfl, h3, h4, h5⟩
  · cases hk
  · cases hk; exact heap_lt h4
theorem asks_tick (D : Nat) (w : World) (p mb : Nat) (a : Option Addr) (c : Nat) (R : List Nd) (hI : IdR R) (hR : R.length ≤ 20) (s : Nat) (hs : s < 90) (b : Bool) (hb : ask (s + 1) = b) (h : LfR D w p mb (mU R (csT s))) (hn : NdR D w a R) :
    Calls Try.prog 11 #[.pointer (some ⟨p, 0, none⟩), .agg #[.int .i64 0, .int .i64 0, .slice none 0 0, .slice none 0 0, .slice a R.length c, .slice none 0 0, .slice none 0 0, .slice none 0 0, .slice none 0 0]] w fun e w' => ∃ mb' a' c', e = .returned (.slice a' (if b then nUp R else 0) c') ∧ LfR D w' p mb' (mU R (csT (s + 1))) ∧ FrT D [65] w w' ∧ (∀ k c, b = true → (ups R)[k]? = some c → ∃ g, a' = some ⟨g, 0, none⟩ ∧ g < w'.heap.size ∧ ∀ j u, (cmC c)[j]? = some u → w'.cell? ⟨g, k * 27 + j, none⟩ = some u) := by
  refine (tick_any p mb _ R [] a c none 0 w h (mU_okm (by omega)) hn (DpR.nil _ _ _) (by unfold maxLen; omega) (by unfold maxLen; simp) (by simp; omega)).mono ?_
  rintro e w' ⟨v, mb', rfl, h1, h2, h3⟩
  rw [uni_step hI.nodup hs, hb] at h1 h2
  cases b with
  | false =>
    obtain ⟨a', cap, rfl, -⟩ := h2.slice
    exact ⟨mb', a', cap, rfl, h1, h3, fun k c hb => by cases hb⟩
  | true =>
    have h4 : OwR w.heap.size 60 27 cmC w' v (ups R) := h2
    obtain ⟨a', cap, rfl, -⟩ := h4.slice
    refine ⟨mb', a', cap, by rw [ups_len]; rfl, h1, h3, fun k c _ hc => ?_⟩
    obtain ⟨g, cap', hv, _, ⟨cur, hcur⟩, hcc⟩ := cm_at h4 hc
    cases hv
    exact ⟨g, rfl, heap_lt hcur, hcc⟩
theorem ask_no1 {t : Nat} (h : t < 21) : ask t = false := by unfold ask; simp; omega
theorem ask_yes {t : Nat} (h : 21 ≤ t) : ask t = decide (((t : Int) - 21).tmod 3 = 0) := by
  unfold ask
  have h2 : ((t : Int) - 21).tmod 3 = ((t - 21) % 3 : Nat) := by
    rw [Int.tmod_eq_emod_of_nonneg (by omega)]; omega
  rw [h2]
  simp [h]
  omega
set_option maxHeartbeats 8000000 in
set_option maxRecDepth 100000 in
theorem asks_any (a : Option Addr) (c : Nat) (L : List Nd) (ti : Int) (w : World) (hL : NdR w.heap.size w a L) (_hLn : L.length ≤ maxLen) (hti : -9223372036854775808 ≤ ti ∧ ti ≤ 9223372036854775807) :
    Calls Try.prog 5 #[.slice a L.length c, .int .i64 ti] w fun e w' => e = .returned (.bool true) ∧ Below w.heap.size w w' := by
  have HC := hidOf (new_any (D := w.heap.size) w (Nat.le_refl _))
  simp only [ptr] at HC
  have HIF := hidOf if52
  have HNd := hidOf hL
  have HLV := hidOf lives_any
  have HPK := hidOf (pick_any ti 60 hti (by decide) (by decide))
  have hpr := pkM_rng ti 60 (by decide)
  obtain ⟨pt, hpt⟩ : ∃ pt : Nat, pkM ti 60 = (pt : Int) := ⟨(pkM ti 60).toNat, by omega⟩
  rw [hpt] at HPK hpr
  have hpt2 : pt < 60 := by omega
  clear hL hpt hpr
  go_enter Try.func5, Try.ntmps5
  go_wp2_with (go_at_call 6; refine HC.out.mono ?_; rintro e w1 ⟨p, mb, rfl, hp, hmb, h1, hb1⟩; have H1 := hidOf h1; have HB1 := hidOf hb1; clear h1 hb1 HC)
  go_loopw [6, 7, 8] (fun o u i wr => ∃ (k : Nat) (R : List Nd), k ≤ L.length ∧ k ≤ 20 ∧ R.length = k ∧ i = .int .i64 (k : Int) ∧ u = .int .i64 (nUp R : Int) ∧ Hid (IdR R) ∧ Hid (OwR w1.heap.size 52 8 ndC wr o R) ∧ Hid (Below w1.heap.size w1 wr)) (fun _ _ i _ => L.length - (intOf i).toNat)
  case atStart => exact ⟨0, [], Nat.zero_le _, by omega, rfl, rfl, rfl, hidOf (fun i x hx => by simp at hx), hidOf OwR.nil, hidOf (Below.refl _ _)⟩
  case round =>
    obtain ⟨k, R, hk, hk20, hRk, rfl, rfl, HI, HO, HB⟩ := hrel
    have HBw := hidOf (HB1.out.trans (HB.out.mono HB1.out.size))
    by_cases hlt : k < L.length ∧ k < 20
    · obtain ⟨hl1, hl2⟩ := hlt
      have hltz : (k : Int) < (L.length : Int) := by omega
      have hltz2 : (k : Int) < 20 := by omega
      obtain ⟨x, hx⟩ : ∃ x, L[k]? = some x := ⟨L[k], List.getElem?_eq_getElem hl1⟩
      obtain ⟨b, off, rfl, hbl, x0, x1, x2, x3, x4, x5, x6, x7⟩ := nd_at (HNd.out.grow HBw.out) hx
      clear hx
      cases hup : x.up with
      | true =>
        rw [hup] at x3
        have HX2 : Hid (({ x with id := (k : Int) } : Nd) = ⟨k, x.c1, x.c2, true, x.dr, x.bt, x.ep, x.sq⟩) := hidOf (by rw [← hup])
        have HBa := hidOf (below1 wr (.cells #[.int .i64 (k : Int), .int .i64 x.c1, .int .i64 x.c2, .bool true, .bool x.dr, .int .i64 x.bt, .int .i64 x.ep, .int .i64 x.sq] 52))
        have HQa := hidOf (heap_alloc_new wr (.cells #[.int .i64 (k : Int), .int .i64 x.c1, .int .i64 x.c2, .bool true, .bool x.dr, .int .i64 x.bt, .int .i64 x.ep, .int .i64 x.sq] 52))
        have HBb := hidOf (below1 (wr.alloc (.cells #[.int .i64 (k : Int), .int .i64 x.c1, .int .i64 x.c2, .bool true, .bool x.dr, .int .i64 x.bt, .int .i64 x.ep, .int .i64 x.sq] 52)) (.cells #[.int .i64 (k : Int), .int .i64 x.c1, .int .i64 x.c2, .bool true, .bool x.dr, .int .i64 x.bt, .int .i64 x.ep, .int .i64 x.sq] 52))
        have hqb := (HBb.out.block _ (heap_lt HQa.out)).trans HQa.out
        have HQb := hidOf hqb
        have HNU : Hid (nUp (R ++ [{ x with id := (k : Int) }]) = nUp R + 1) := hidOf (by rw [nUp_snoc]; show _ + (if x.up then 1 else 0) = _; rw [hup]; rfl)
        have hnu : nUp R ≤ 20 := by have := nUp_le R; omega
        clear hqb hup
        go_wp2_with (at_builtin; refine wpList_appR _ rfl _ _ 29 rfl w1.heap.size 52 8 56 Try.underlying29 HIF.out (by decide) nd_size u6 R rfl ((HO.out.grow HBa.out).grow HBb.out) { x with id := (k : Int) } ⟨wr.heap.size + 1, 0, none⟩ 1 rfl (fun j u hj => by rw [HX2.out] at hj; have := cell_news (wr.alloc (.cells #[.int .i64 (k : Int), .int .i64 x.c1, .int .i64 x.c2, .bool true, .bool x.dr, .int .i64 x.bt, .int .i64 x.ep, .int .i64 x.sq] 52)) #[.int .i64 (k : Int), .int .i64 x.c1, .int .i64 x.c2, .bool true, .bool x.dr, .int .i64 x.bt, .int .i64 x.ep, .int .i64 x.sq] 52 j u hj; rw [World.size_alloc] at this; exact this) (nd_one _) (by unfold maxLen; omega) (by omega) (by have := HB.out.size; simp; omega) ?_; intro v5 w5 ho5 hg5 hv5; have hq5 := (hg5.block _ (heap_lt HQb.out) (fun e => by have := HO.out.hi _ e.symm; omega)).trans HQb.out; have u3 := (cell_of_row w5 wr.heap.size 3 _ 52 (0, 0) hq5).trans rfl; have HO5 := hidOf ho5; have HG5 := hidOf hg5; clear ho5 hg5 hv5 hq5)
        go_roundw
        case rel => exact ⟨k + 1, R ++ [{ x with id := (k : Int) }], by omega, by omega, by simp [hRk], by go_num, by rw [HNU.out]; go_num, hidOf (by have := HI.out.snoc x; rw [hRk] at this; exact this), HO5, hidOf (((HB.out.trans (HBa.out.mono HB.out.size)).trans (HBb.out.mono (by have := HB.out.size; simp; omega))).grown HG5.out (by have := HB.out.size; simp; omega) (fun q hq => HO.out.lo q hq))⟩
        case measure => simp [intOf]; omega
      | false =>
        rw [hup] at x3
        have HX2 : Hid (({ x with id := (k : Int) } : Nd) = ⟨k, x.c1, x.c2, false, x.dr, x.bt, x.ep, x.sq⟩) := hidOf (by rw [← hup])
        have HBa := hidOf (below1 wr (.cells #[.int .i64 (k : Int), .int .i64 x.c1, .int .i64 x.c2, .bool false, .bool x.dr, .int .i64 x.bt, .int .i64 x.ep, .int .i64 x.sq] 52))
        have HQa := hidOf (heap_alloc_new wr (.cells #[.int .i64 (k : Int), .int .i64 x.c1, .int .i64 x.c2, .bool false, .bool x.dr, .int .i64 x.bt, .int .i64 x.ep, .int .i64 x.sq] 52))
        have HBb := hidOf (below1 (wr.alloc (.cells #[.int .i64 (k : Int), .int .i64 x.c1, .int .i64 x.c2, .bool false, .bool x.dr, .int .i64 x.bt, .int .i64 x.ep, .int .i64 x.sq] 52)) (.cells #[.int .i64 (k : Int), .int .i64 x.c1, .int .i64 x.c2, .bool false, .bool x.dr, .int .i64 x.bt, .int .i64 x.ep, .int .i64 x.sq] 52))
        have hqb := (HBb.out.block _ (heap_lt HQa.out)).trans HQa.out
        have HQb := hidOf hqb
        have HNU : Hid (nUp (R ++ [{ x with id := (k : Int) }]) = nUp R + 0) := hidOf (by rw [nUp_snoc]; show _ + (if x.up then 1 else 0) = _; rw [hup]; rfl)
        have hnu : nUp R ≤ 20 := by have := nUp_le R; omega
        clear hqb hup
        go_wp2_with (at_builtin; refine wpList_appR _ rfl _ _ 29 rfl w1.heap.size 52 8 56 Try.underlying29 HIF.out (by decide) nd_size u6 R rfl ((HO.out.grow HBa.out).grow HBb.out) { x with id := (k : Int) } ⟨wr.heap.size + 1, 0, none⟩ 1 rfl (fun j u hj => by rw [HX2.out] at hj; have := cell_news (wr.alloc (.cells #[.int .i64 (k : Int), .int .i64 x.c1, .int .i64 x.c2, .bool false, .bool x.dr, .int .i64 x.bt, .int .i64 x.ep, .int .i64 x.sq] 52)) #[.int .i64 (k : Int), .int .i64 x.c1, .int .i64 x.c2, .bool false, .bool x.dr, .int .i64 x.bt, .int .i64 x.ep, .int .i64 x.sq] 52 j u hj; rw [World.size_alloc] at this; exact this) (nd_one _) (by unfold maxLen; omega) (by omega) (by have := HB.out.size; simp; omega) ?_; intro v5 w5 ho5 hg5 hv5; have hq5 := (hg5.block _ (heap_lt HQb.out) (fun e => by have := HO.out.hi _ e.symm; omega)).trans HQb.out; have u3 := (cell_of_row w5 wr.heap.size 3 _ 52 (0, 0) hq5).trans rfl; have HO5 := hidOf ho5; have HG5 := hidOf hg5; clear ho5 hg5 hv5 hq5)
        go_roundw
        case rel => exact ⟨k + 1, R ++ [{ x with id := (k : Int) }], by omega, by omega, by simp [hRk], by go_num, by rw [HNU.out]; go_num, hidOf (by have := HI.out.snoc x; rw [hRk] at this; exact this), HO5, hidOf (((HB.out.trans (HBa.out.mono HB.out.size)).trans (HBb.out.mono (by have := HB.out.size; simp; omega))).grown HG5.out (by have := HB.out.size; simp; omega) (fun q hq => HO.out.lo q hq))⟩
        case measure => simp [intOf]; omega
    · have HRl : Hid (R.length ≤ 20) := hidOf (by omega)
      obtain ⟨a6, c6, ho6, hrd⟩ := OwR.rd (D := w.heap.size) nd_size HO.out
      subst ho6
      have hx9 : (¬ (k : Int) < (L.length : Int)) ∨ ((k : Int) < (L.length : Int) ∧ ¬ (k : Int) < 20) := by omega
      obtain ⟨W, hW⟩ : ∃ y, y = wr.alloc (.cells #[.int .i64 0, .int .i64 0, .slice none 0 0, .slice none 0 0, .slice a6 R.length c6, .slice none 0 0, .slice none 0 0, .slice none 0 0, .slice none 0 0] 38) := ⟨_, rfl⟩
      obtain ⟨bx, hbx⟩ : ∃ y, y = wr.heap.size := ⟨_, rfl⟩
      have HBW := hidOf (below1 wr (.cells #[.int .i64 0, .int .i64 0, .slice none 0 0, .slice none 0 0, .slice a6 R.length c6, .slice none 0 0, .slice none 0 0, .slice none 0 0, .slice none 0 0] 38))
      have HQW := hidOf (heap_alloc_new wr (.cells #[.int .i64 0, .int .i64 0, .slice none 0 0, .slice none 0 0, .slice a6 R.length c6, .slice none 0 0, .slice none 0 0, .slice none 0 0, .slice none 0 0] 38))
      have HNW := hidOf (hrd.grow HBW.out)
      have HLW := hidOf ((H1.out.grow HB.out).grow HBW.out)
      have HBt := hidOf (HBw.out.trans (HBW.out.mono HBw.out.size))
      rw [← hW, ← hbx] at HQW
      rw [← hW] at HNW HLW HBt
      clear hlt hrd HO hRk
      rcases hx9 with hltz | ⟨hltz, hltz2⟩
      all_goals
        go_upto_region 15 with (fail)
        rw [← hW, ← hbx]
        clear hW hbx HBW H1 HB HBw hltz
        go_wp2
        go_loopw [11] (fun i W2 => ∃ (t mb2 : Nat), t ≤ 21 + pt ∧ i = .int .i64 ((t : Int) + 1) ∧ Hid (LfR w.heap.size W2 p mb2 (mU R (csT t))) ∧ Hid (NdR w.heap.size W2 a6 R) ∧ Hid (W2.heap[bx]? = some (.cells #[.int .i64 0, .int .i64 0, .slice none 0 0, .slice none 0 0, .slice a6 R.length c6, .slice none 0 0, .slice none 0 0, .slice none 0 0, .slice none 0 0] 38 (0, 0))) ∧ Hid (Below w.heap.size w W2)) (fun i _ => 100 - (intOf i).toNat)
        case atStart => exact ⟨0, mb, by omega, rfl, hidOf (by rw [mU_zero]; exact HLW.out), HNW, HQW, HBt⟩
        case round =>
          obtain ⟨t, mb2, ht, rfl, HL2, HN2, HX2, HB2⟩ := hrel
          by_cases hgo : t < 21 + pt
          · have hgz : (t : Int) + 1 ≤ 21 + (pt : Int) := by omega
            have HPK2 := HPK
            by_cases h21 : t < 20
            · have h21z : ¬ (21 : Int) ≤ (t : Int) + 1 := by omega
              have HASK : Hid (ask (t + 1) = false) := hidOf (ask_no1 (by omega))
              go_wp2_with (first
                | (go_at_call 9; refine (HPK.out _).mono ?_; rintro e w2 ⟨rfl, rfl⟩)
                | (refine wpList_load_row rfl 38 (.tmp 10) rfl bx rfl 38 #[.int .i64 0, .int .i64 0, .slice none 0 0, .slice none 0 0, .slice a6 R.length c6, .slice none 0 0, .slice none 0 0, .slice none 0 0, .slice none 0 0] (0, 0) _ HX2.out Try.underlying38 rfl (by kernel_rfl) ?_)
                | (go_at_call 11; refine (asks_tick w.heap.size _ p mb2 a6 c6 R HI.out HRl.out t (by omega) false HASK.out HL2.out HN2.out).mono ?_; rintro e w3 ⟨mb3, a9, c9, rfl, h1, h2, h3⟩; simp only [Bool.false_eq_true, if_false]; have HL3 := hidOf h1; have HF3 := hidOf h2; have HC3 := hidOf h3; clear h1 h2 h3))
              have HN3 := hidOf (RdR.frt HN2.out HF3.out (by decide))
              have HX3 := hidOf (HF3.out.cells HX2.out (by decide))
              have HB3 := hidOf (HB2.out.trans (HF3.out.below HB2.out.size))
              clear HF3 HL2 HN2 HX2 HB2 HASK
              go_loopw [14] (fun i W2 => ∃ (k : Nat), k ≤ 0 ∧ i = .int .i64 (k : Int) ∧ Hid (Below w3.heap.size w3 W2)) (fun i _ => 0 - (intOf i).toNat)
              case atStart => exact ⟨0, Nat.zero_le _, rfl, hidOf (Below.refl _ _)⟩
              case round =>
                obtain ⟨k, hk, rfl, HBk⟩ := hrel
                by_cases hlt2 : k < 0
                · omega
                · obtain rfl : k = 0 := by omega
                  have hltz3 : ¬ 0 < 0 := by omega
                  go_wp2
                  go_roundw
                  case rel => exact ⟨t + 1, mb3, by omega, by go_num, hidOf (HL3.out.grow HBk.out), hidOf (HN3.out.grow HBk.out), hidOf ((HBk.out.block _ (heap_lt HX3.out)).trans HX3.out), hidOf (HB3.out.trans (HBk.out.mono HB3.out.size))⟩
                  case measure => simp [intOf]; omega
            · have h21z : (21 : Int) ≤ (t : Int) + 1 := by omega
              have hak := ask_yes (t := t + 1) (by omega)
              obtain ⟨r, hr⟩ : ∃ r, ((t : Int) + 1 - 21).tmod 3 = r := ⟨_, rfl⟩
              have hak2 : ask (t + 1) = decide (r = 0) := by rw [hak, ← hr]; simp
              clear hak
              by_cases hr0 : r = 0
              · have HASK : Hid (ask (t + 1) = true) := hidOf (by rw [hak2, hr0]; rfl)
                subst hr0
                clear hak2
                go_wp2_with (first
                  | (go_at_call 9; refine (HPK.out _).mono ?_; rintro e w2 ⟨rfl, rfl⟩)
                  | (refine wpList_load_row rfl 38 (.tmp 10) rfl bx rfl 38 #[.int .i64 0, .int .i64 0, .slice none 0 0, .slice none 0 0, .slice a6 R.length c6, .slice none 0 0, .slice none 0 0, .slice none 0 0, .slice none 0 0] (0, 0) _ HX2.out Try.underlying38 rfl (by kernel_rfl) ?_)
                  | (go_at_call 11; refine (asks_tick w.heap.size _ p mb2 a6 c6 R HI.out HRl.out t (by omega) true HASK.out HL2.out HN2.out).mono ?_; rintro e w3 ⟨mb3, a9, c9, rfl, h1, h2, h3⟩; simp only [if_true]; have HL3 := hidOf h1; have HF3 := hidOf h2; have HC3 := hidOf h3; clear h1 h2 h3))
                have HN3 := hidOf (RdR.frt HN2.out HF3.out (by decide))
                have HX3 := hidOf (HF3.out.cells HX2.out (by decide))
                have HB3 := hidOf (HB2.out.trans (HF3.out.below HB2.out.size))
                clear HF3 HL2 HN2 HX2 HB2 HASK
                go_loopw [14] (fun i W2 => ∃ (k : Nat), k ≤ nUp R ∧ i = .int .i64 (k : Int) ∧ Hid (Below w3.heap.size w3 W2)) (fun i _ => nUp R - (intOf i).toNat)
                case atStart => exact ⟨0, Nat.zero_le _, rfl, hidOf (Below.refl _ _)⟩
                case round =>
                  obtain ⟨k, hk, rfl, HBk⟩ := hrel
                  by_cases hlt2 : k < nUp R
                  · have hltz3 : (k : Int) < (nUp R : Int) := by omega
                    have hnu20 : nUp R ≤ 20 := by have := nUp_le R; have := HRl.out; omega
                    have hkl : k < (ups R).length := by rw [ups_len]; exact hlt2
                    obtain ⟨q, hq⟩ : ∃ q, (ups R)[k]? = some q := ⟨_, List.getElem?_eq_getElem hkl⟩
                    obtain ⟨g, rfl, hgl, hcc0⟩ := HC3.out k q trivial hq
                    obtain ⟨j, x, hxj, e1, e2, e3, e4⟩ := ups_at HI.out hq
                    obtain ⟨b, off, ha6, hbl, y0, y1, y2, y3, y4, y5, y6, y7⟩ := nd_at (HN3.out.grow HBk.out) hxj
                    have hjl := (List.getElem?_eq_some_iff.1 hxj).1
                    subst ha6
                    have hcc := fun (jj : Nat) (u : Value) (hu : (cmC q)[jj]? = some u) => (HBk.out.cell (p := ⟨g, k * 27 + jj, none⟩) hgl).trans (hcc0 jj u hu)
                    have q0 : wr.cell? ⟨g, k * 27, none⟩ = some (.int .i64 q.op) := hcc 0 _ rfl
                    have q10 : wr.cell? ⟨g, k * 27 + 10, none⟩ = some (.int .i64 q.nd) := hcc 10 _ rfl
                    have q16 : wr.cell? ⟨g, k * 27 + 16, none⟩ = some (.int .i64 q.ep) := hcc 16 _ rfl
                    rw [e1] at q0
                    rw [e2] at q10
                    rw [e4] at q16
                    rw [e3] at y3
                    have hjz : (j : Int) < (R.length : Int) := by omega
                    have hjn : ¬ (j : Int) < 0 := by omega
                    have hjn2 : ¬ (R.length : Int) ≤ (j : Int) := by omega
                    clear hcc hcc0 hq hxj e1 e2 e3 e4
                    go_wp2
                    refine wp_region_held_drew (S := fun (Y : World) => Y.cell? ⟨g, k * 27, none⟩ = some (.int .i64 7) ∧ Y.cell? ⟨g, k * 27 + 10, none⟩ = some (.int .i64 (j : Int)) ∧ Y.cell? ⟨b, off + j * 8 + 3, none⟩ = some (.bool true) ∧ Y.cell? ⟨g, k * 27 + 16, none⟩ = some (.int .i64 x.ep) ∧ Y.cell? ⟨b, off + j * 8 + 6, none⟩ = some (.int .i64 x.ep)) (by kernel_rfl) ⟨q0, q10, y3, q16, y6⟩ (fun hHeld => ?_)
                    refine wpAnyH_take (i := 0) (oi := { dst := some 73, op := Op.move (Operand.tmp 13), type := 41, pos := "law.go:152", after := #[], guard := none }) (v := .slice (some ⟨g, 0, none⟩) (nUp R) c9) rfl (by kernel_rfl) (by kernel_rfl) (by kernel_rfl) (fun _ _ _ h => h) (Or.inl ⟨by rfl, ?_⟩) hHeld ?_
                    · (intro w hSw; (try dsimp only at hSw); go_simp)
                    try simp only [Act.put, List.setIfInBounds_toArray, List.set_cons_zero, List.set_cons_succ]
                    refine wpAnyH_take (i := 1) (oi := { dst := some 74, op := Op.move (Operand.tmp 14), type := 3, pos := "law.go:152", after := #[], guard := none }) (v := .int .i64 (k : Int)) rfl (by kernel_rfl) (by kernel_rfl) (by kernel_rfl) (fun _ _ _ h => h) (Or.inl ⟨by rfl, ?_⟩) hHeld ?_
                    · (intro w hSw; (try dsimp only at hSw); go_simp)
                    try simp only [Act.put, List.setIfInBounds_toArray, List.set_cons_zero, List.set_cons_succ]
                    refine wpAnyH_take (i := 2) (oi := { dst := some 75, op := Op.indexAddr 41 (Operand.tmp 73) (Operand.tmp 74), type := 0, pos := "law.go:152", after := #[{ on := 0, ground := Ground.data }, { on := 1, ground := Ground.data }], guard := none }) (v := .pointer (some ⟨g, k * 27, none⟩)) rfl (by kernel_rfl) (by kernel_rfl) (by kernel_rfl) (fun _ _ _ h => h) (Or.inl ⟨by rfl, ?_⟩) hHeld ?_
                    · (intro w hSw; (try dsimp only at hSw); go_simp)
                    try simp only [Act.put, List.setIfInBounds_toArray, List.set_cons_zero, List.set_cons_succ]
                    refine wpAnyH_take (i := 3) (oi := { dst := some 76, op := Op.fieldAddr 60 (Operand.tmp 75) 0, type := 0, pos := "law.go:152", after := #[{ on := 2, ground := Ground.data }], guard := none }) (v := .pointer (some ⟨g, k * 27, none⟩)) rfl (by kernel_rfl) (by kernel_rfl) (by kernel_rfl) (fun _ _ _ h => h) (Or.inl ⟨by rfl, ?_⟩) hHeld ?_
                    · (intro w hSw; (try dsimp only at hSw); go_simp)
                    try simp only [Act.put, List.setIfInBounds_toArray, List.set_cons_zero, List.set_cons_succ]
                    refine wpAnyH_take (i := 4) (oi := { dst := some 77, op := Op.load 3 (Operand.tmp 76), type := 3, pos := "law.go:152", after := #[{ on := 3, ground := Ground.data }], guard := none }) (v := .int .i64 7) rfl (by kernel_rfl) (by kernel_rfl) (by kernel_rfl) (fun _ _ _ h => h) (Or.inl ⟨by rfl, ?_⟩) hHeld ?_
                    · (intro w hSw; (try dsimp only at hSw); go_simp)
                    try simp only [Act.put, List.setIfInBounds_toArray, List.set_cons_zero, List.set_cons_succ]
                    refine wpAnyH_take (i := 5) (oi := { dst := some 78, op := Op.binOp BinOp.neq 3 (Operand.tmp 77) (Operand.const (Value.int IntKind.i64 7)) 3, type := 4, pos := "law.go:152", after := #[{ on := 4, ground := Ground.data }], guard := none }) (v := .bool false) rfl (by kernel_rfl) (by kernel_rfl) (by kernel_rfl) (fun _ _ _ h => h) (Or.inl ⟨by rfl, ?_⟩) hHeld ?_
                    · (intro w hSw; (try dsimp only at hSw); go_simp)
                    try simp only [Act.put, List.setIfInBounds_toArray, List.set_cons_zero, List.set_cons_succ]
                    refine wpAnyH_take (i := 6) (oi := { dst := some 79, op := Op.move (Operand.tmp 78), type := 4, pos := "law.go:152", after := #[{ on := 5, ground := Ground.data }], guard := none }) (v := .bool false) rfl (by kernel_rfl) (by kernel_rfl) (by kernel_rfl) (fun _ _ _ h => h) (Or.inl ⟨by rfl, ?_⟩) hHeld ?_
                    · (intro w hSw; (try dsimp only at hSw); go_simp)
                    try simp only [Act.put, List.setIfInBounds_toArray, List.set_cons_zero, List.set_cons_succ]
                    refine wpAnyH_take (i := 7) (oi := { dst := some 80, op := Op.move (Operand.tmp 13), type := 41, pos := "law.go:152", after := #[{ on := 6, ground := Ground.guard }], guard := some (6, false) }) (v := .slice (some ⟨g, 0, none⟩) (nUp R) c9) rfl (by kernel_rfl) (by kernel_rfl) (by kernel_rfl) (fun _ _ _ h => h) (Or.inl ⟨by rfl, ?_⟩) hHeld ?_
                    · (intro w hSw; (try dsimp only at hSw); go_simp)
                    try simp only [Act.put, List.setIfInBounds_toArray, List.set_cons_zero, List.set_cons_succ]
                    refine wpAnyH_take (i := 8) (oi := { dst := some 81, op := Op.move (Operand.tmp 14), type := 3, pos := "law.go:152", after := #[{ on := 6, ground := Ground.guard }], guard := some (6, false) }) (v := .int .i64 (k : Int)) rfl (by kernel_rfl) (by kernel_rfl) (by kernel_rfl) (fun _ _ _ h => h) (Or.inl ⟨by rfl, ?_⟩) hHeld ?_
                    · (intro w hSw; (try dsimp only at hSw); go_simp)
                    try simp only [Act.put, List.setIfInBounds_toArray, List.set_cons_zero, List.set_cons_succ]
                    refine wpAnyH_take (i := 9) (oi := { dst := some 82, op := Op.indexAddr 41 (Operand.tmp 80) (Operand.tmp 81), type := 0, pos := "law.go:152", after := #[{ on := 7, ground := Ground.data }, { on := 8, ground := Ground.data }, { on := 6, ground := Ground.guard }], guard := some (6, false) }) (v := .pointer (some ⟨g, k * 27, none⟩)) rfl (by kernel_rfl) (by kernel_rfl) (by kernel_rfl) (fun _ _ _ h => h) (Or.inl ⟨by rfl, ?_⟩) hHeld ?_
                    · (intro w hSw; (try dsimp only at hSw); go_simp)
                    try simp only [Act.put, List.setIfInBounds_toArray, List.set_cons_zero, List.set_cons_succ]
                    refine wpAnyH_take (i := 10) (oi := { dst := some 83, op := Op.fieldAddr 60 (Operand.tmp 82) 4, type := 0, pos := "law.go:152", after := #[{ on := 9, ground := Ground.data }, { on := 6, ground := Ground.guard }], guard := some (6, false) }) (v := .pointer (some ⟨g, k * 27 + 10, none⟩)) rfl (by kernel_rfl) (by kernel_rfl) (by kernel_rfl) (fun _ _ _ h => h) (Or.inl ⟨by rfl, ?_⟩) hHeld ?_
                    · (intro w hSw; (try dsimp only at hSw); go_simp)
                    try simp only [Act.put, List.setIfInBounds_toArray, List.set_cons_zero, List.set_cons_succ]
                    refine wpAnyH_take (i := 11) (oi := { dst := some 84, op := Op.fieldAddr 52 (Operand.tmp 83) 0, type := 0, pos := "law.go:152", after := #[{ on := 10, ground := Ground.data }, { on := 6, ground := Ground.guard }], guard := some (6, false) }) (v := .pointer (some ⟨g, k * 27 + 10, none⟩)) rfl (by kernel_rfl) (by kernel_rfl) (by kernel_rfl) (fun _ _ _ h => h) (Or.inl ⟨by rfl, ?_⟩) hHeld ?_
                    · (intro w hSw; (try dsimp only at hSw); go_simp)
                    try simp only [Act.put, List.setIfInBounds_toArray, List.set_cons_zero, List.set_cons_succ]
                    refine wpAnyH_take (i := 12) (oi := { dst := some 85, op := Op.load 3 (Operand.tmp 84), type := 3, pos := "law.go:152", after := #[{ on := 11, ground := Ground.data }, { on := 6, ground := Ground.guard }], guard := some (6, false) }) (v := .int .i64 (j : Int)) rfl (by kernel_rfl) (by kernel_rfl) (by kernel_rfl) (fun _ _ _ h => h) (Or.inl ⟨by rfl, ?_⟩) hHeld ?_
                    · (intro w hSw; (try dsimp only at hSw); go_simp)
                    try simp only [Act.put, List.setIfInBounds_toArray, List.set_cons_zero, List.set_cons_succ]
                    refine wpAnyH_take (i := 13) (oi := { dst := some 86, op := Op.binOp BinOp.lss 3 (Operand.tmp 85) (Operand.const (Value.int IntKind.i64 0)) 3, type := 4, pos := "law.go:152", after := #[{ on := 12, ground := Ground.data }, { on := 6, ground := Ground.guard }], guard := some (6, false) }) (v := .bool false) rfl (by kernel_rfl) (by kernel_rfl) (by kernel_rfl) (fun _ _ _ h => h) (Or.inl ⟨by rfl, ?_⟩) hHeld ?_
                    · (intro w hSw; (try dsimp only at hSw); go_simp)
                    try simp only [Act.put, List.setIfInBounds_toArray, List.set_cons_zero, List.set_cons_succ]
                    refine wpAnyH_take (i := 14) (oi := { dst := some 87, op := Op.pick (Operand.tmp 79) (Operand.const (Value.bool true)) (Operand.tmp 86), type := 4, pos := "law.go:152", after := #[{ on := 6, ground := Ground.data }, { on := 13, ground := Ground.data }], guard := none }) (v := .bool false) rfl (by kernel_rfl) (by kernel_rfl) (by kernel_rfl) (fun _ _ _ h => h) (Or.inl ⟨by rfl, ?_⟩) hHeld ?_
                    · (intro w hSw; (try dsimp only at hSw); go_simp)
                    try simp only [Act.put, List.setIfInBounds_toArray, List.set_cons_zero, List.set_cons_succ]
                    refine wpAnyH_take (i := 15) (oi := { dst := some 88, op := Op.move (Operand.tmp 87), type := 4, pos := "law.go:152", after := #[{ on := 14, ground := Ground.data }, { on := 6, ground := Ground.chain }], guard := none }) (v := .bool false) rfl (by kernel_rfl) (by kernel_rfl) (by kernel_rfl) (fun _ _ _ h => h) (Or.inl ⟨by rfl, ?_⟩) hHeld ?_
                    · (intro w hSw; (try dsimp only at hSw); go_simp)
                    try simp only [Act.put, List.setIfInBounds_toArray, List.set_cons_zero, List.set_cons_succ]
                    refine wpAnyH_take (i := 16) (oi := { dst := some 89, op := Op.move (Operand.tmp 13), type := 41, pos := "law.go:152", after := #[{ on := 15, ground := Ground.guard }], guard := some (15, false) }) (v := .slice (some ⟨g, 0, none⟩) (nUp R) c9) rfl (by kernel_rfl) (by kernel_rfl) (by kernel_rfl) (fun _ _ _ h => h) (Or.inl ⟨by rfl, ?_⟩) hHeld ?_
                    · (intro w hSw; (try dsimp only at hSw); go_simp)
                    try simp only [Act.put, List.setIfInBounds_toArray, List.set_cons_zero, List.set_cons_succ]
                    refine wpAnyH_take (i := 17) (oi := { dst := some 90, op := Op.move (Operand.tmp 14), type := 3, pos := "law.go:152", after := #[{ on := 15, ground := Ground.guard }], guard := some (15, false) }) (v := .int .i64 (k : Int)) rfl (by kernel_rfl) (by kernel_rfl) (by kernel_rfl) (fun _ _ _ h => h) (Or.inl ⟨by rfl, ?_⟩) hHeld ?_
                    · (intro w hSw; (try dsimp only at hSw); go_simp)
                    try simp only [Act.put, List.setIfInBounds_toArray, List.set_cons_zero, List.set_cons_succ]
                    refine wpAnyH_take (i := 18) (oi := { dst := some 91, op := Op.indexAddr 41 (Operand.tmp 89) (Operand.tmp 90), type := 0, pos := "law.go:152", after := #[{ on := 16, ground := Ground.data }, { on := 17, ground := Ground.data }, { on := 15, ground := Ground.guard }], guard := some (15, false) }) (v := .pointer (some ⟨g, k * 27, none⟩)) rfl (by kernel_rfl) (by kernel_rfl) (by kernel_rfl) (fun _ _ _ h => h) (Or.inl ⟨by rfl, ?_⟩) hHeld ?_
                    · (intro w hSw; (try dsimp only at hSw); go_simp)
                    try simp only [Act.put, List.setIfInBounds_toArray, List.set_cons_zero, List.set_cons_succ]
                    refine wpAnyH_take (i := 19) (oi := { dst := some 92, op := Op.fieldAddr 60 (Operand.tmp 91) 4, type := 0, pos := "law.go:152", after := #[{ on := 18, ground := Ground.data }, { on := 15, ground := Ground.guard }], guard := some (15, false) }) (v := .pointer (some ⟨g, k * 27 + 10, none⟩)) rfl (by kernel_rfl) (by kernel_rfl) (by kernel_rfl) (fun _ _ _ h => h) (Or.inl ⟨by rfl, ?_⟩) hHeld ?_
                    · (intro w hSw; (try dsimp only at hSw); go_simp)
                    try simp only [Act.put, List.setIfInBounds_toArray, List.set_cons_zero, List.set_cons_succ]
                    refine wpAnyH_take (i := 20) (oi := { dst := some 93, op := Op.fieldAddr 52 (Operand.tmp 92) 0, type := 0, pos := "law.go:152", after := #[{ on := 19, ground := Ground.data }, { on := 15, ground := Ground.guard }], guard := some (15, false) }) (v := .pointer (some ⟨g, k * 27 + 10, none⟩)) rfl (by kernel_rfl) (by kernel_rfl) (by kernel_rfl) (fun _ _ _ h => h) (Or.inl ⟨by rfl, ?_⟩) hHeld ?_
                    · (intro w hSw; (try dsimp only at hSw); go_simp)
                    try simp only [Act.put, List.setIfInBounds_toArray, List.set_cons_zero, List.set_cons_succ]
                    refine wpAnyH_take (i := 21) (oi := { dst := some 94, op := Op.load 3 (Operand.tmp 93), type := 3, pos := "law.go:152", after := #[{ on := 20, ground := Ground.data }, { on := 15, ground := Ground.guard }], guard := some (15, false) }) (v := .int .i64 (j : Int)) rfl (by kernel_rfl) (by kernel_rfl) (by kernel_rfl) (fun _ _ _ h => h) (Or.inl ⟨by rfl, ?_⟩) hHeld ?_
                    · (intro w hSw; (try dsimp only at hSw); go_simp)
                    try simp only [Act.put, List.setIfInBounds_toArray, List.set_cons_zero, List.set_cons_succ]
                    refine wpAnyH_take (i := 22) (oi := { dst := some 95, op := Op.move (Operand.tmp 6), type := 29, pos := "law.go:152", after := #[{ on := 15, ground := Ground.guard }], guard := some (15, false) }) (v := .slice (some ⟨b, off, none⟩) R.length c6) rfl (by kernel_rfl) (by kernel_rfl) (by kernel_rfl) (fun _ _ _ h => h) (Or.inl ⟨by rfl, ?_⟩) hHeld ?_
                    · (intro w hSw; (try dsimp only at hSw); go_simp)
                    try simp only [Act.put, List.setIfInBounds_toArray, List.set_cons_zero, List.set_cons_succ]
                    refine wpAnyH_take (i := 23) (oi := { dst := some 96, op := Op.call { callee := Callee.builtin Builtin.len, args := #[Operand.tmp 95], argTypes := #[29] }, type := 3, pos := "law.go:152", after := #[{ on := 22, ground := Ground.data }, { on := 15, ground := Ground.guard }], guard := some (15, false) }) (v := .int .i64 (R.length : Int)) rfl (by kernel_rfl) (by kernel_rfl) (by kernel_rfl) (fun _ _ _ h => h) (Or.inl ⟨by rfl, ?_⟩) hHeld ?_
                    · (intro w hSw; (try dsimp only at hSw); go_simp)
                    try simp only [Act.put, List.setIfInBounds_toArray, List.set_cons_zero, List.set_cons_succ]
                    refine wpAnyH_take (i := 24) (oi := { dst := some 97, op := Op.binOp BinOp.geq 3 (Operand.tmp 94) (Operand.tmp 96) 3, type := 4, pos := "law.go:152", after := #[{ on := 21, ground := Ground.data }, { on := 23, ground := Ground.data }, { on := 15, ground := Ground.guard }], guard := some (15, false) }) (v := .bool false) rfl (by kernel_rfl) (by kernel_rfl) (by kernel_rfl) (fun _ _ _ h => h) (Or.inl ⟨by rfl, ?_⟩) hHeld ?_
                    · (intro w hSw; (try dsimp only at hSw); go_simp)
                    try simp only [Act.put, List.setIfInBounds_toArray, List.set_cons_zero, List.set_cons_succ]
                    refine wpAnyH_take (i := 25) (oi := { dst := some 98, op := Op.pick (Operand.tmp 88) (Operand.const (Value.bool true)) (Operand.tmp 97), type := 4, pos := "law.go:152", after := #[{ on := 15, ground := Ground.data }, { on := 24, ground := Ground.data }], guard := none }) (v := .bool false) rfl (by kernel_rfl) (by kernel_rfl) (by kernel_rfl) (fun _ _ _ h => h) (Or.inl ⟨by rfl, ?_⟩) hHeld ?_
                    · (intro w hSw; (try dsimp only at hSw); go_simp)
                    try simp only [Act.put, List.setIfInBounds_toArray, List.set_cons_zero, List.set_cons_succ]
                    refine wpAnyH_take (i := 26) (oi := { dst := some 99, op := Op.move (Operand.tmp 98), type := 4, pos := "law.go:152", after := #[{ on := 25, ground := Ground.data }, { on := 15, ground := Ground.chain }], guard := none }) (v := .bool false) rfl (by kernel_rfl) (by kernel_rfl) (by kernel_rfl) (fun _ _ _ h => h) (Or.inl ⟨by rfl, ?_⟩) hHeld ?_
                    · (intro w hSw; (try dsimp only at hSw); go_simp)
                    try simp only [Act.put, List.setIfInBounds_toArray, List.set_cons_zero, List.set_cons_succ]
                    refine wpAnyH_take (i := 27) (oi := { dst := some 100, op := Op.move (Operand.tmp 6), type := 29, pos := "law.go:152", after := #[{ on := 26, ground := Ground.guard }], guard := some (26, false) }) (v := .slice (some ⟨b, off, none⟩) R.length c6) rfl (by kernel_rfl) (by kernel_rfl) (by kernel_rfl) (fun _ _ _ h => h) (Or.inl ⟨by rfl, ?_⟩) hHeld ?_
                    · (intro w hSw; (try dsimp only at hSw); go_simp)
                    try simp only [Act.put, List.setIfInBounds_toArray, List.set_cons_zero, List.set_cons_succ]
                    refine wpAnyH_take (i := 28) (oi := { dst := some 101, op := Op.move (Operand.tmp 13), type := 41, pos := "law.go:152", after := #[{ on := 26, ground := Ground.guard }], guard := some (26, false) }) (v := .slice (some ⟨g, 0, none⟩) (nUp R) c9) rfl (by kernel_rfl) (by kernel_rfl) (by kernel_rfl) (fun _ _ _ h => h) (Or.inl ⟨by rfl, ?_⟩) hHeld ?_
                    · (intro w hSw; (try dsimp only at hSw); go_simp)
                    try simp only [Act.put, List.setIfInBounds_toArray, List.set_cons_zero, List.set_cons_succ]
                    refine wpAnyH_take (i := 29) (oi := { dst := some 102, op := Op.move (Operand.tmp 14), type := 3, pos := "law.go:152", after := #[{ on := 26, ground := Ground.guard }], guard := some (26, false) }) (v := .int .i64 (k : Int)) rfl (by kernel_rfl) (by kernel_rfl) (by kernel_rfl) (fun _ _ _ h => h) (Or.inl ⟨by rfl, ?_⟩) hHeld ?_
                    · (intro w hSw; (try dsimp only at hSw); go_simp)
                    try simp only [Act.put, List.setIfInBounds_toArray, List.set_cons_zero, List.set_cons_succ]
                    refine wpAnyH_take (i := 30) (oi := { dst := some 103, op := Op.indexAddr 41 (Operand.tmp 101) (Operand.tmp 102), type := 0, pos := "law.go:152", after := #[{ on := 28, ground := Ground.data }, { on := 29, ground := Ground.data }, { on := 26, ground := Ground.guard }], guard := some (26, false) }) (v := .pointer (some ⟨g, k * 27, none⟩)) rfl (by kernel_rfl) (by kernel_rfl) (by kernel_rfl) (fun _ _ _ h => h) (Or.inl ⟨by rfl, ?_⟩) hHeld ?_
                    · (intro w hSw; (try dsimp only at hSw); go_simp)
                    try simp only [Act.put, List.setIfInBounds_toArray, List.set_cons_zero, List.set_cons_succ]
                    refine wpAnyH_take (i := 31) (oi := { dst := some 104, op := Op.fieldAddr 60 (Operand.tmp 103) 4, type := 0, pos := "law.go:152", after := #[{ on := 30, ground := Ground.data }, { on := 26, ground := Ground.guard }], guard := some (26, false) }) (v := .pointer (some ⟨g, k * 27 + 10, none⟩)) rfl (by kernel_rfl) (by kernel_rfl) (by kernel_rfl) (fun _ _ _ h => h) (Or.inl ⟨by rfl, ?_⟩) hHeld ?_
                    · (intro w hSw; (try dsimp only at hSw); go_simp)
                    try simp only [Act.put, List.setIfInBounds_toArray, List.set_cons_zero, List.set_cons_succ]
                    refine wpAnyH_take (i := 32) (oi := { dst := some 105, op := Op.fieldAddr 52 (Operand.tmp 104) 0, type := 0, pos := "law.go:152", after := #[{ on := 31, ground := Ground.data }, { on := 26, ground := Ground.guard }], guard := some (26, false) }) (v := .pointer (some ⟨g, k * 27 + 10, none⟩)) rfl (by kernel_rfl) (by kernel_rfl) (by kernel_rfl) (fun _ _ _ h => h) (Or.inl ⟨by rfl, ?_⟩) hHeld ?_
                    · (intro w hSw; (try dsimp only at hSw); go_simp)
                    try simp only [Act.put, List.setIfInBounds_toArray, List.set_cons_zero, List.set_cons_succ]
                    refine wpAnyH_take (i := 33) (oi := { dst := some 106, op := Op.load 3 (Operand.tmp 105), type := 3, pos := "law.go:152", after := #[{ on := 32, ground := Ground.data }, { on := 26, ground := Ground.guard }], guard := some (26, false) }) (v := .int .i64 (j : Int)) rfl (by kernel_rfl) (by kernel_rfl) (by kernel_rfl) (fun _ _ _ h => h) (Or.inl ⟨by rfl, ?_⟩) hHeld ?_
                    · (intro w hSw; (try dsimp only at hSw); go_simp)
                    try simp only [Act.put, List.setIfInBounds_toArray, List.set_cons_zero, List.set_cons_succ]
                    refine wpAnyH_take (i := 34) (oi := { dst := some 107, op := Op.indexAddr 29 (Operand.tmp 100) (Operand.tmp 106), type := 0, pos := "law.go:152", after := #[{ on := 27, ground := Ground.data }, { on := 33, ground := Ground.data }, { on := 26, ground := Ground.guard }], guard := some (26, false) }) (v := .pointer (some ⟨b, off + j * 8, none⟩)) rfl (by kernel_rfl) (by kernel_rfl) (by kernel_rfl) (fun _ _ _ h => h) (Or.inl ⟨by rfl, ?_⟩) hHeld ?_
                    · (intro w hSw; (try dsimp only at hSw); go_simp)
                    try simp only [Act.put, List.setIfInBounds_toArray, List.set_cons_zero, List.set_cons_succ]
                    refine wpAnyH_take (i := 35) (oi := { dst := some 108, op := Op.fieldAddr 52 (Operand.tmp 107) 2, type := 0, pos := "law.go:152", after := #[{ on := 34, ground := Ground.data }, { on := 26, ground := Ground.guard }], guard := some (26, false) }) (v := .pointer (some ⟨b, off + j * 8 + 3, none⟩)) rfl (by kernel_rfl) (by kernel_rfl) (by kernel_rfl) (fun _ _ _ h => h) (Or.inl ⟨by rfl, ?_⟩) hHeld ?_
                    · (intro w hSw; (try dsimp only at hSw); go_simp)
                    try simp only [Act.put, List.setIfInBounds_toArray, List.set_cons_zero, List.set_cons_succ]
                    refine wpAnyH_take (i := 36) (oi := { dst := some 109, op := Op.load 4 (Operand.tmp 108), type := 4, pos := "law.go:152", after := #[{ on := 35, ground := Ground.data }, { on := 26, ground := Ground.guard }], guard := some (26, false) }) (v := .bool true) rfl (by kernel_rfl) (by kernel_rfl) (by kernel_rfl) (fun _ _ _ h => h) (Or.inl ⟨by rfl, ?_⟩) hHeld ?_
                    · (intro w hSw; (try dsimp only at hSw); go_simp)
                    try simp only [Act.put, List.setIfInBounds_toArray, List.set_cons_zero, List.set_cons_succ]
                    refine wpAnyH_take (i := 37) (oi := { dst := some 110, op := Op.unOp UnOp.not 4 (Operand.tmp 109), type := 4, pos := "law.go:152", after := #[{ on := 36, ground := Ground.data }, { on := 26, ground := Ground.guard }], guard := some (26, false) }) (v := .bool false) rfl (by kernel_rfl) (by kernel_rfl) (by kernel_rfl) (fun _ _ _ h => h) (Or.inl ⟨by rfl, ?_⟩) hHeld ?_
                    · (intro w hSw; (try dsimp only at hSw); go_simp)
                    try simp only [Act.put, List.setIfInBounds_toArray, List.set_cons_zero, List.set_cons_succ]
                    refine wpAnyH_take (i := 38) (oi := { dst := some 111, op := Op.pick (Operand.tmp 99) (Operand.const (Value.bool true)) (Operand.tmp 110), type := 4, pos := "law.go:152", after := #[{ on := 26, ground := Ground.data }, { on := 37, ground := Ground.data }], guard := none }) (v := .bool false) rfl (by kernel_rfl) (by kernel_rfl) (by kernel_rfl) (fun _ _ _ h => h) (Or.inl ⟨by rfl, ?_⟩) hHeld ?_
                    · (intro w hSw; (try dsimp only at hSw); go_simp)
                    try simp only [Act.put, List.setIfInBounds_toArray, List.set_cons_zero, List.set_cons_succ]
                    refine wpAnyH_take (i := 39) (oi := { dst := some 112, op := Op.move (Operand.tmp 111), type := 4, pos := "law.go:152", after := #[{ on := 38, ground := Ground.data }, { on := 26, ground := Ground.chain }], guard := none }) (v := .bool false) rfl (by kernel_rfl) (by kernel_rfl) (by kernel_rfl) (fun _ _ _ h => h) (Or.inl ⟨by rfl, ?_⟩) hHeld ?_
                    · (intro w hSw; (try dsimp only at hSw); go_simp)
                    try simp only [Act.put, List.setIfInBounds_toArray, List.set_cons_zero, List.set_cons_succ]
                    refine wpAnyH_take (i := 40) (oi := { dst := some 113, op := Op.move (Operand.tmp 13), type := 41, pos := "law.go:152", after := #[{ on := 39, ground := Ground.guard }], guard := some (39, false) }) (v := .slice (some ⟨g, 0, none⟩) (nUp R) c9) rfl (by kernel_rfl) (by kernel_rfl) (by kernel_rfl) (fun _ _ _ h => h) (Or.inl ⟨by rfl, ?_⟩) hHeld ?_
                    · (intro w hSw; (try dsimp only at hSw); go_simp)
                    try simp only [Act.put, List.setIfInBounds_toArray, List.set_cons_zero, List.set_cons_succ]
                    refine wpAnyH_take (i := 41) (oi := { dst := some 114, op := Op.move (Operand.tmp 14), type := 3, pos := "law.go:152", after := #[{ on := 39, ground := Ground.guard }], guard := some (39, false) }) (v := .int .i64 (k : Int)) rfl (by kernel_rfl) (by kernel_rfl) (by kernel_rfl) (fun _ _ _ h => h) (Or.inl ⟨by rfl, ?_⟩) hHeld ?_
                    · (intro w hSw; (try dsimp only at hSw); go_simp)
                    try simp only [Act.put, List.setIfInBounds_toArray, List.set_cons_zero, List.set_cons_succ]
                    refine wpAnyH_take (i := 42) (oi := { dst := some 115, op := Op.indexAddr 41 (Operand.tmp 113) (Operand.tmp 114), type := 0, pos := "law.go:152", after := #[{ on := 40, ground := Ground.data }, { on := 41, ground := Ground.data }, { on := 39, ground := Ground.guard }], guard := some (39, false) }) (v := .pointer (some ⟨g, k * 27, none⟩)) rfl (by kernel_rfl) (by kernel_rfl) (by kernel_rfl) (fun _ _ _ h => h) (Or.inl ⟨by rfl, ?_⟩) hHeld ?_
                    · (intro w hSw; (try dsimp only at hSw); go_simp)
                    try simp only [Act.put, List.setIfInBounds_toArray, List.set_cons_zero, List.set_cons_succ]
                    refine wpAnyH_take (i := 43) (oi := { dst := some 116, op := Op.fieldAddr 60 (Operand.tmp 115) 4, type := 0, pos := "law.go:152", after := #[{ on := 42, ground := Ground.data }, { on := 39, ground := Ground.guard }], guard := some (39, false) }) (v := .pointer (some ⟨g, k * 27 + 10, none⟩)) rfl (by kernel_rfl) (by kernel_rfl) (by kernel_rfl) (fun _ _ _ h => h) (Or.inl ⟨by rfl, ?_⟩) hHeld ?_
                    · (intro w hSw; (try dsimp only at hSw); go_simp)
                    try simp only [Act.put, List.setIfInBounds_toArray, List.set_cons_zero, List.set_cons_succ]
                    refine wpAnyH_take (i := 44) (oi := { dst := some 117, op := Op.fieldAddr 52 (Operand.tmp 116) 5, type := 0, pos := "law.go:152", after := #[{ on := 43, ground := Ground.data }, { on := 39, ground := Ground.guard }], guard := some (39, false) }) (v := .pointer (some ⟨g, k * 27 + 16, none⟩)) rfl (by kernel_rfl) (by kernel_rfl) (by kernel_rfl) (fun _ _ _ h => h) (Or.inl ⟨by rfl, ?_⟩) hHeld ?_
                    · (intro w hSw; (try dsimp only at hSw); go_simp)
                    try simp only [Act.put, List.setIfInBounds_toArray, List.set_cons_zero, List.set_cons_succ]
                    refine wpAnyH_take (i := 45) (oi := { dst := some 118, op := Op.load 3 (Operand.tmp 117), type := 3, pos := "law.go:152", after := #[{ on := 44, ground := Ground.data }, { on := 39, ground := Ground.guard }], guard := some (39, false) }) (v := .int .i64 x.ep) rfl (by kernel_rfl) (by kernel_rfl) (by kernel_rfl) (fun _ _ _ h => h) (Or.inl ⟨by rfl, ?_⟩) hHeld ?_
                    · (intro w hSw; (try dsimp only at hSw); go_simp)
                    try simp only [Act.put, List.setIfInBounds_toArray, List.set_cons_zero, List.set_cons_succ]
                    refine wpAnyH_take (i := 46) (oi := { dst := some 119, op := Op.move (Operand.tmp 6), type := 29, pos := "law.go:152", after := #[{ on := 39, ground := Ground.guard }], guard := some (39, false) }) (v := .slice (some ⟨b, off, none⟩) R.length c6) rfl (by kernel_rfl) (by kernel_rfl) (by kernel_rfl) (fun _ _ _ h => h) (Or.inl ⟨by rfl, ?_⟩) hHeld ?_
                    · (intro w hSw; (try dsimp only at hSw); go_simp)
                    try simp only [Act.put, List.setIfInBounds_toArray, List.set_cons_zero, List.set_cons_succ]
                    refine wpAnyH_take (i := 47) (oi := { dst := some 120, op := Op.move (Operand.tmp 13), type := 41, pos := "law.go:152", after := #[{ on := 39, ground := Ground.guard }], guard := some (39, false) }) (v := .slice (some ⟨g, 0, none⟩) (nUp R) c9) rfl (by kernel_rfl) (by kernel_rfl) (by kernel_rfl) (fun _ _ _ h => h) (Or.inl ⟨by rfl, ?_⟩) hHeld ?_
                    · (intro w hSw; (try dsimp only at hSw); go_simp)
                    try simp only [Act.put, List.setIfInBounds_toArray, List.set_cons_zero, List.set_cons_succ]
                    refine wpAnyH_take (i := 48) (oi := { dst := some 121, op := Op.move (Operand.tmp 14), type := 3, pos := "law.go:152", after := #[{ on := 39, ground := Ground.guard }], guard := some (39, false) }) (v := .int .i64 (k : Int)) rfl (by kernel_rfl) (by kernel_rfl) (by kernel_rfl) (fun _ _ _ h => h) (Or.inl ⟨by rfl, ?_⟩) hHeld ?_
                    · (intro w hSw; (try dsimp only at hSw); go_simp)
                    try simp only [Act.put, List.setIfInBounds_toArray, List.set_cons_zero, List.set_cons_succ]
                    refine wpAnyH_take (i := 49) (oi := { dst := some 122, op := Op.indexAddr 41 (Operand.tmp 120) (Operand.tmp 121), type := 0, pos := "law.go:152", after := #[{ on := 47, ground := Ground.data }, { on := 48, ground := Ground.data }, { on := 39, ground := Ground.guard }], guard := some (39, false) }) (v := .pointer (some ⟨g, k * 27, none⟩)) rfl (by kernel_rfl) (by kernel_rfl) (by kernel_rfl) (fun _ _ _ h => h) (Or.inl ⟨by rfl, ?_⟩) hHeld ?_
                    · (intro w hSw; (try dsimp only at hSw); go_simp)
                    try simp only [Act.put, List.setIfInBounds_toArray, List.set_cons_zero, List.set_cons_succ]
                    refine wpAnyH_take (i := 50) (oi := { dst := some 123, op := Op.fieldAddr 60 (Operand.tmp 122) 4, type := 0, pos := "law.go:152", after := #[{ on := 49, ground := Ground.data }, { on := 39, ground := Ground.guard }], guard := some (39, false) }) (v := .pointer (some ⟨g, k * 27 + 10, none⟩)) rfl (by kernel_rfl) (by kernel_rfl) (by kernel_rfl) (fun _ _ _ h => h) (Or.inl ⟨by rfl, ?_⟩) hHeld ?_
                    · (intro w hSw; (try dsimp only at hSw); go_simp)
                    try simp only [Act.put, List.setIfInBounds_toArray, List.set_cons_zero, List.set_cons_succ]
                    refine wpAnyH_take (i := 51) (oi := { dst := some 124, op := Op.fieldAddr 52 (Operand.tmp 123) 0, type := 0, pos := "law.go:152", after := #[{ on := 50, ground := Ground.data }, { on := 39, ground := Ground.guard }], guard := some (39, false) }) (v := .pointer (some ⟨g, k * 27 + 10, none⟩)) rfl (by kernel_rfl) (by kernel_rfl) (by kernel_rfl) (fun _ _ _ h => h) (Or.inl ⟨by rfl, ?_⟩) hHeld ?_
                    · (intro w hSw; (try dsimp only at hSw); go_simp)
                    try simp only [Act.put, List.setIfInBounds_toArray, List.set_cons_zero, List.set_cons_succ]
                    refine wpAnyH_take (i := 52) (oi := { dst := some 125, op := Op.load 3 (Operand.tmp 124), type := 3, pos := "law.go:152", after := #[{ on := 51, ground := Ground.data }, { on := 39, ground := Ground.guard }], guard := some (39, false) }) (v := .int .i64 (j : Int)) rfl (by kernel_rfl) (by kernel_rfl) (by kernel_rfl) (fun _ _ _ h => h) (Or.inl ⟨by rfl, ?_⟩) hHeld ?_
                    · (intro w hSw; (try dsimp only at hSw); go_simp)
                    try simp only [Act.put, List.setIfInBounds_toArray, List.set_cons_zero, List.set_cons_succ]
                    refine wpAnyH_take (i := 53) (oi := { dst := some 126, op := Op.indexAddr 29 (Operand.tmp 119) (Operand.tmp 125), type := 0, pos := "law.go:152", after := #[{ on := 46, ground := Ground.data }, { on := 52, ground := Ground.data }, { on := 39, ground := Ground.guard }], guard := some (39, false) }) (v := .pointer (some ⟨b, off + j * 8, none⟩)) rfl (by kernel_rfl) (by kernel_rfl) (by kernel_rfl) (fun _ _ _ h => h) (Or.inl ⟨by rfl, ?_⟩) hHeld ?_
                    · (intro w hSw; (try dsimp only at hSw); go_simp)
                    try simp only [Act.put, List.setIfInBounds_toArray, List.set_cons_zero, List.set_cons_succ]
                    refine wpAnyH_take (i := 54) (oi := { dst := some 127, op := Op.fieldAddr 52 (Operand.tmp 126) 5, type := 0, pos := "law.go:152", after := #[{ on := 53, ground := Ground.data }, { on := 39, ground := Ground.guard }], guard := some (39, false) }) (v := .pointer (some ⟨b, off + j * 8 + 6, none⟩)) rfl (by kernel_rfl) (by kernel_rfl) (by kernel_rfl) (fun _ _ _ h => h) (Or.inl ⟨by rfl, ?_⟩) hHeld ?_
                    · (intro w hSw; (try dsimp only at hSw); go_simp)
                    try simp only [Act.put, List.setIfInBounds_toArray, List.set_cons_zero, List.set_cons_succ]
                    refine wpAnyH_take (i := 55) (oi := { dst := some 128, op := Op.load 3 (Operand.tmp 127), type := 3, pos := "law.go:152", after := #[{ on := 54, ground := Ground.data }, { on := 39, ground := Ground.guard }], guard := some (39, false) }) (v := .int .i64 x.ep) rfl (by kernel_rfl) (by kernel_rfl) (by kernel_rfl) (fun _ _ _ h => h) (Or.inl ⟨by rfl, ?_⟩) hHeld ?_
                    · (intro w hSw; (try dsimp only at hSw); go_simp)
                    try simp only [Act.put, List.setIfInBounds_toArray, List.set_cons_zero, List.set_cons_succ]
                    refine wpAnyH_take (i := 56) (oi := { dst := some 129, op := Op.binOp BinOp.neq 3 (Operand.tmp 118) (Operand.tmp 128) 3, type := 4, pos := "law.go:152", after := #[{ on := 45, ground := Ground.data }, { on := 55, ground := Ground.data }, { on := 39, ground := Ground.guard }], guard := some (39, false) }) (v := .bool false) rfl (by kernel_rfl) (by kernel_rfl) (by kernel_rfl) (fun _ _ _ h => h) (Or.inl ⟨by rfl, ?_⟩) hHeld ?_
                    · (intro w hSw; (try dsimp only at hSw); go_simp)
                    try simp only [Act.put, List.setIfInBounds_toArray, List.set_cons_zero, List.set_cons_succ]
                    refine wpAnyH_take (i := 57) (oi := { dst := some 130, op := Op.pick (Operand.tmp 112) (Operand.const (Value.bool true)) (Operand.tmp 129), type := 4, pos := "law.go:152", after := #[{ on := 39, ground := Ground.data }, { on := 56, ground := Ground.data }], guard := none }) (v := .bool false) rfl (by kernel_rfl) (by kernel_rfl) (by kernel_rfl) (fun _ _ _ h => h) (Or.inl ⟨by rfl, ?_⟩) hHeld ?_
                    · (intro w hSw; (try dsimp only at hSw); go_simp)
                    try simp only [Act.put, List.setIfInBounds_toArray, List.set_cons_zero, List.set_cons_succ]
                    refine wpAnyH_done (by kernel_rfl) ?_ _
                    go_wp2
                    go_roundw
                    case rel => exact ⟨k + 1, by omega, by go_num, hidOf (HBk.out.drew)⟩
                    case measure => simp [intOf]; omega
                  · obtain rfl : k = nUp R := by omega
                    have hltz3 : ¬ (nUp R : Int) < (nUp R : Int) := by omega
                    go_wp2
                    go_roundw
                    case rel => exact ⟨t + 1, mb3, by omega, by go_num, hidOf (HL3.out.grow HBk.out), hidOf (HN3.out.grow HBk.out), hidOf ((HBk.out.block _ (heap_lt HX3.out)).trans HX3.out), hidOf (HB3.out.trans (HBk.out.mono HB3.out.size))⟩
                    case measure => simp [intOf]; omega
              · have HASK : Hid (ask (t + 1) = false) := hidOf (by rw [hak2]; simp [hr0])
                have hrb : (r == 0) = false := by simp [hr0]
                clear hak2 hr0
                go_wp2_with (first
                  | (go_at_call 9; refine (HPK.out _).mono ?_; rintro e w2 ⟨rfl, rfl⟩)
                  | (refine wpList_load_row rfl 38 (.tmp 10) rfl bx rfl 38 #[.int .i64 0, .int .i64 0, .slice none 0 0, .slice none 0 0, .slice a6 R.length c6, .slice none 0 0, .slice none 0 0, .slice none 0 0, .slice none 0 0] (0, 0) _ HX2.out Try.underlying38 rfl (by kernel_rfl) ?_)
                  | (go_at_call 11; refine (asks_tick w.heap.size _ p mb2 a6 c6 R HI.out HRl.out t (by omega) false HASK.out HL2.out HN2.out).mono ?_; rintro e w3 ⟨mb3, a9, c9, rfl, h1, h2, h3⟩; simp only [Bool.false_eq_true, if_false]; have HL3 := hidOf h1; have HF3 := hidOf h2; have HC3 := hidOf h3; clear h1 h2 h3))
                have HN3 := hidOf (RdR.frt HN2.out HF3.out (by decide))
                have HX3 := hidOf (HF3.out.cells HX2.out (by decide))
                have HB3 := hidOf (HB2.out.trans (HF3.out.below HB2.out.size))
                clear HF3 HL2 HN2 HX2 HB2 HASK
                go_loopw [14] (fun i W2 => ∃ (k : Nat), k ≤ 0 ∧ i = .int .i64 (k : Int) ∧ Hid (Below w3.heap.size w3 W2)) (fun i _ => 0 - (intOf i).toNat)
                case atStart => exact ⟨0, Nat.zero_le _, rfl, hidOf (Below.refl _ _)⟩
                case round =>
                  obtain ⟨k, hk, rfl, HBk⟩ := hrel
                  by_cases hlt2 : k < 0
                  · omega
                  · obtain rfl : k = 0 := by omega
                    have hltz3 : ¬ 0 < 0 := by omega
                    go_wp2
                    go_roundw
                    case rel => exact ⟨t + 1, mb3, by omega, by go_num, hidOf (HL3.out.grow HBk.out), hidOf (HN3.out.grow HBk.out), hidOf ((HBk.out.block _ (heap_lt HX3.out)).trans HX3.out), hidOf (HB3.out.trans (HBk.out.mono HB3.out.size))⟩
                    case measure => simp [intOf]; omega
          · obtain rfl : t = 21 + pt := by omega
            have hgz : ¬ ((21 + pt : Nat) : Int) + 1 ≤ 21 + (pt : Int) := by omega
            go_wp2_with (first
              | (go_at_call 9; refine (HPK.out _).mono ?_; rintro e w2 ⟨rfl, rfl⟩)
              | (go_at_call 13; refine (HLV.out _).mono ?_; rintro e w3 ⟨rfl, hb3⟩; have HB3 := hidOf hb3; clear hb3))
            go_ret
            exact ⟨rfl, HB2.out.trans (HB3.out.mono HB2.out.size)⟩
end Go.Proofs.Ytcdbkieimkcogaa
