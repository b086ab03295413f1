/- The document's Tick. -/
import Derived.Test.YtndomlbjdppckaaRup
import Derived.Test.YtndomlbjdppckaaLke
namespace Go.Proofs.Ytndomlbjdppckaa
open Go.RowKit
variable {D : Nat}

/- what the first round of a Tick leaves of an item -/
def t1 (x : Itm) : Itm := { x with dl := if 0 < x.dl then x.dl - 1 else x.dl, tc := if x.tk = true then x.tc + 1 else x.tc }
def late (x : Itm) : Bool := x.tk && decide (12 ≤ x.tc + 1)
def lateW (R : List Itm) : List Int := (R.filter late).map (·.wk)
theorem t1_tk1 {x : Itm} (h : IvI x) : tk1 x = if late x = true then nk (t1 x) else t1 x := by
  unfold tk1 late t1
  cases ht : x.tk with
  | true =>
    have hh := h.had ht
    have hd : ¬ 0 < x.dl := by omega
    by_cases h12 : x.tc + 1 = 12
    · have h13 : (12 : Int) ≤ x.tc + 1 := by omega
      simp [h12, hd]
    · have h13 : ¬ (12 : Int) ≤ x.tc + 1 := by omega
      simp [h12, h13, hd]
  | false =>
    by_cases hd : 0 < x.dl
    · simp [hd]
    · simp [hd]
      cases x; simp_all
/- behind j of those that are late -/
def mid (W : List Int) (x : Itm) : Itm := if late x = true ∧ x.wk ∈ W then nk (t1 x) else t1 x
theorem mid_nil (R : List Itm) : R.map (mid []) = R.map t1 := by
  apply List.map_congr_left
  intro x _
  simp [mid]
theorem mid_all {R : List Itm} (h : IvR R) : R.map (mid (lateW R)) = R.map tk1 := by
  apply List.map_congr_left
  intro x hx
  rw [t1_tk1 (h x hx)]
  unfold mid
  by_cases hl : late x = true
  · have : x.wk ∈ lateW R := List.mem_map.2 ⟨x, List.mem_filter.2 ⟨hx, hl⟩, rfl⟩
    simp [hl, this]
  · simp [hl]
theorem mid_tk {W : List Int} {x : Itm} (h : (mid W x).tk = true) : x.tk = true ∧ (mid W x).wk = x.wk ∧ ¬ (late x = true ∧ x.wk ∈ W) := by
  unfold mid at *
  split at h
  · rw [nk_tk] at h; cases h
  · rename_i h1
    rw [if_neg h1]
    exact ⟨h, rfl, h1⟩
/- one more of them -/
theorem mid_step {R : List Itm} (hw : WU R) {W : List Int} {x : Itm} (hx : x ∈ R) (hl : late x = true) (hn : x.wk ∉ W) : nackM x.wk (R.map (mid W)) = R.map (mid (W ++ [x.wk])) := by
  obtain ⟨i, hi⟩ := List.mem_iff_getElem?.1 hx
  obtain ⟨hil, hie⟩ := List.getElem?_eq_some_iff.1 hi
  have htk : x.tk = true := by unfold late at hl; simp at hl; exact hl.1
  have hmx : mid W x = t1 x := by unfold mid; rw [if_neg (fun h => hn h.2)]
  have huniq : ∀ j (hj : j < R.length), R[j].tk = true → R[j].wk = x.wk → j = i := by
    intro j hj h1 h2
    have hp := List.pairwise_iff_getElem.1 hw
    rcases Nat.lt_trichotomy j i with hl | hl | hl
    · have := hp j i hj hil hl h1 (by rw [hie]; exact htk)
      rw [hie] at this; exact absurd h2 this
    · exact hl
    · have := hp i j hil hj hl (by rw [hie]; exact htk) h1
      rw [hie] at this; exact absurd h2.symm this
  have hidx : (R.map (mid W)).findIdx? (hb x.wk) = some i := by
    rw [List.findIdx?_eq_some_iff_getElem]
    refine ⟨by simpa using hil, ?_, fun j hj => ?_⟩
    · rw [List.getElem_map, hie, hmx]
      simp [hb, t1, htk]
    · rw [List.getElem_map]
      cases hb1 : hb x.wk (mid W R[j]) with
      | false => simp
      | true =>
        simp [hb] at hb1
        obtain ⟨h1, h2, _⟩ := mid_tk hb1.1
        have := huniq j (by omega) h1 (h2.symm.trans hb1.2)
        omega
  unfold nackM
  rw [hidx]
  have hg : (R.map (mid W)).getD i default = t1 x := by simp [List.getD, hi, hmx]
  show (R.map (mid W)).set i (nk ((R.map (mid W)).getD i default)) = _
  rw [hg]
  apply List.ext_getElem?
  intro j
  by_cases hj : i = j
  · subst hj
    rw [List.getElem?_set_self (by simpa using hil), List.getElem?_map, hi]
    simp [mid, hl]
  · rw [List.getElem?_set_ne hj, List.getElem?_map, List.getElem?_map]
    cases hr : R[j]? with
    | none => rfl
    | some y =>
      obtain ⟨hjl, hje⟩ := List.getElem?_eq_some_iff.1 hr
      simp only [Option.map_some]
      congr 1
      unfold mid
      by_cases hly : late y = true
      · have hne : y.wk ≠ x.wk := fun e => by
          have hyt : y.tk = true := by unfold late at hly; simp at hly; exact hly.1
          exact hj (huniq j hjl (by rw [hje]; exact hyt) (by rw [hje]; exact e)).symm
        simp [hly, hne]
      · simp [hly]
theorem FrT.grownNew {T : List Nat} {a b c : World} {r : Option Nat} (h : FrT D T a b) (hg : b.grownBy c r) (hr : ∀ q, r = some q → a.heap.size ≤ q) : FrT D T a c :=
  ⟨hg.os.trans h.os, hg.tape.trans h.tape, hg.output.trans h.output, Nat.le_trans h.size hg.size, fun k o hk ho => (hg.block k (Nat.lt_of_lt_of_le (heap_lt hk) h.size) (fun e => by have h1 := hr k e.symm; have h2 := heap_lt hk; omega)).trans (h.block k o hk ho)⟩
def mk (R : List Itm) (k : Nat) : List Itm := (R.take k).map t1 ++ R.drop k
theorem mk_zero (R : List Itm) : mk R 0 = R := by simp [mk]
theorem mk_all (R : List Itm) : mk R R.length = R.map t1 := by simp [mk]
theorem mk_len (R : List Itm) (k : Nat) : (mk R k).length = R.length := by simp [mk]; omega
theorem mk_get {R : List Itm} {k : Nat} {z : Itm} (h : R[k]? = some z) : (mk R k)[k]? = some z := by
  have hk := (List.getElem?_eq_some_iff.1 h).1
  unfold mk
  rw [List.getElem?_append_right (by simp; omega)]
  simp only [List.length_map, List.length_take, List.getElem?_drop]
  rw [show k + (k - min k R.length) = k by omega]; exact h
theorem mk_succ {R : List Itm} {k : Nat} {x : Itm} (h : R[k]? = some x) : mk R (k + 1) = (mk R k).set k (t1 x) := by
  have hk := (List.getElem?_eq_some_iff.1 h).1
  unfold mk
  rw [List.take_add_one, h, List.map_append, List.set_append_right _ _ (by simp; omega)]
  have e : k - ((R.take k).map t1).length = 0 := by simp; omega
  rw [e, List.append_assoc]
  congr 1
  have h2 : R.drop k = x :: R.drop (k + 1) := by
    rw [List.drop_eq_getElem_cons hk]
    congr 1
    exact (List.getElem?_eq_some_iff.1 h).2
  rw [h2]; rfl
theorem late_yes {R : List Itm} {k : Nat} {x : Itm} (h : R[k]? = some x) (hl : late x = true) : lateW (R.take (k + 1)) = lateW (R.take k) ++ [x.wk] := by
  unfold lateW
  rw [List.take_add_one, h, List.filter_append]
  simp [hl]
theorem late_no {R : List Itm} {k : Nat} {x : Itm} (h : R[k]? = some x) (hl : late x = false) : lateW (R.take (k + 1)) = lateW (R.take k) := by
  unfold lateW
  rw [List.take_add_one, h, List.filter_append]
  simp [hl]
theorem late_len (R : List Itm) (k : Nat) : (lateW (R.take k)).length ≤ R.length := by
  unfold lateW
  rw [List.length_map]
  exact Nat.le_trans (List.length_filter_le _ _) (by simp; omega)
theorem late_nodup {R : List Itm} (hw : WU R) : (lateW R).Nodup := by
  unfold lateW
  rw [List.nodup_iff_pairwise_ne, List.pairwise_map]
  have h1 : (R.filter late).Pairwise (fun a b => a.tk = true → b.tk = true → a.wk ≠ b.wk) := List.Pairwise.sublist List.filter_sublist hw
  have h2 : ∀ x ∈ R.filter late, x.tk = true := fun x hx => by
    have := (List.mem_filter.1 hx).2
    unfold late at this; simp at this; exact this.1
  exact h1.imp_of_mem (fun {a b} ha hb h => h (h2 a ha) (h2 b hb))

set_option maxHeartbeats 16000000 in
set_option maxRecDepth 100000 in
theorem rtick_any (pR : Nat) (v : Value) (R : List Itm) (w : World) (h : RefR D w pR v R) (hok : Ok R) (hN : R.length ≤ 1048576000) : Calls Try.prog 18 #[.pointer (some ⟨pR, 0, none⟩)] w fun e w' => e = .returned (.tuple #[]) ∧ RefR D w' pR v (R.map tk1) ∧ FrT D [71] w w' := by
  obtain ⟨i0, hi0, hz0, hz1, hz2⟩ := info_parts info3
  have HI := hidOf hi0
  have HZ0 := hidOf hz0
  have HZ1 := hidOf hz1
  have HZ2 := hidOf hz2
  have HOK := hidOf hok
  obtain ⟨a, cap, rfl, hlm⟩ := h.slice
  have HDW : Hid (D ≤ w.heap.size) := hidOf (Nat.le_of_lt (Nat.lt_of_le_of_lt h.lo (heap_lt h.blk)))
  have HH : Hid (RefR D w pR (.slice a R.length cap) (mk R 0)) := hidOf (by rw [mk_zero]; exact h)
  clear h hok hi0 hz0 hz1 hz2
  go_enter Try.func18, Try.ntmps18
  go_wp2
  go_loopw [2, 3] (fun o i wr => ∃ (k : Nat) (av : Option Addr) (cv : Nat), k ≤ R.length ∧ i = .int .i64 (k : Int) ∧ o = .slice av (lateW (R.take k)).length cv ∧ Hid (RefR D wr pR (.slice a R.length cap) (mk R k)) ∧ Hid (wr.ownsRow 0 3 1 (.slice av (lateW (R.take k)).length cv) (lateW (R.take k)).length (nums (lateW (R.take k)))) ∧ Hid (∀ q, (Value.slice av (lateW (R.take k)).length cv).ownBlock = some q → w.heap.size ≤ q) ∧ Hid (FrT D [71] w wr)) (fun _ i _ => R.length - (intOf i).toNat)
  case atStart => exact ⟨0, none, 0, Nat.zero_le _, rfl, rfl, HH, hidOf ⟨rfl, .inl ⟨rfl, rfl⟩⟩, hidOf (fun q hq => by cases hq), hidOf (FrT.refl _ _ _)⟩
  case round =>
    obtain ⟨k, av, cv, hk, rfl, rfl, HR, HO, HD, HF⟩ := hrel
    have c0 := HR.out.cell
    have hpl := heap_lt HR.out.blk
    by_cases hlt : k < R.length
    · have hltz : (k : Int) < (R.length : Int) := by omega
      obtain ⟨x, hx⟩ : ∃ x, R[k]? = some x := ⟨R[k], List.getElem?_eq_getElem hlt⟩
      have hxk := mk_get hx
      obtain ⟨g, cap', hv, hRI, hpg, hDg⟩ := HR.out.at_ hxk
      rw [mk_len] at hv
      obtain ⟨rfl, rfl⟩ : a = some ⟨g, 0, none⟩ ∧ cap = cap' := by cases hv; exact ⟨rfl, rfl⟩
      obtain ⟨x0, x1, x2, x3, x4, x5, x6, x7, x8⟩ := hRI.cells hxk
      have zg := hRI.frozen
      have hgl := hRI.lt
      have hgp : g ≠ pR := fun e => hpg e.symm
      have hIx := HOK.out.i x (List.mem_of_getElem? hx)
      have HX := hidOf hx
      have HXK := hidOf hxk
      have HMS := hidOf (mk_succ hx)
      have HRI := hidOf hRI
      have hll := late_len R k
      clear hv hRI hx hxk
      cases ht : x.tk with
      | true =>
        rw [ht] at x6
        have hh := hIx.had ht
        rw [hh.1] at x5
        obtain ⟨A1, A2, A3, A4, A5⟩ := HR.out.setn HRI.out hpg (mk_len R k) HXK.out 8 (by omega) (.int .i64 (x.tc + 1)) (y := { x with tc := x.tc + 1 }) rfl
        have HE1 : Hid (t1 x = { x with tc := x.tc + 1 }) := hidOf (by unfold t1; simp [ht, hh.1])
        have HA1 := hidOf A1
        have HA3 := hidOf A3
        have htc0 := hh.2.1
        have htc := hh.2.2
        by_cases h12 : (12 : Int) ≤ x.tc + 1
        · have HLA := hidOf (late_yes HX.out (by unfold late; simp [ht, h12]))
          have hW0 : ∀ o : Obj, ((wr.setCell ⟨g, k * 9 + 8, none⟩ (.int .i64 (x.tc + 1))).alloc o).ownsRow 0 3 1 (.slice av (lateW (R.take k)).length cv) (lateW (R.take k)).length (nums (lateW (R.take k))) := fun o => own_keepT (own_keepT HO.out A3 (by decide)) (FrT.of_below (D := 0) (T := []) (below1 _ o)) (by simp)
          have HW0 := hidOf hW0
          have y0 := A1.cell
          have y7 := (A2.cells A5).2.2.2.2.2.2.2.1
          simp only at y7
          clear ht hh hIx A1 A2 A3 A4 A5 hW0
          go_upto_region 9 with (fail)
          go_wp2_with (at_builtin; refine wpList_appP _ rfl _ _ 50 rfl 0 3 i0 (.int .i64 0) 1 8 Try.underlying50 HI.out HZ0.out HZ1.out HZ2.out rfl (by decide) (.slice av (lateW (R.take k)).length cv) (lateW (R.take k)).length (nums (lateW (R.take k))) rfl (HW0.out _) ⟨wr.heap.size, 0, none⟩ 1 1 [.int .i64 x.wk] rfl rfl (fun j u hj => by have h9 := cell_news (wr.setCell ⟨g, k * 9 + 8, none⟩ (.int .i64 (x.tc + 1))) #[.int .i64 x.wk] 3 j u hj; simpa using h9) (by intro u hu; simp at hu; rw [hu]; rfl) (by unfold maxLen; omega) (by omega) (Nat.zero_le _) ?_; intro v8 w8 ho8 hg8 hv8; obtain ⟨a8, c8, rfl⟩ := own_slice ho8; have HG8 := hidOf hg8; have HO8 := hidOf ho8; have HV8 := hidOf hv8; clear ho8 hg8 hv8)
          have hF8 : FrT D [71] w w8 := ((HF.out.trans HA3.out).trans (FrT.of_below (below1 _ (.cells #[.int .i64 x.wk] 3)))).grownNew HG8.out HD.out
          have hG3 : FrT D [3] ((wr.setCell ⟨g, k * 9 + 8, none⟩ (.int .i64 (x.tc + 1))).alloc (.cells #[.int .i64 x.wk] 3)) w8 := grown_frt (HW0.out _) (fun q hq => Nat.le_trans HDW.out (HD.out q hq)) HG8.out
          have HR8 := hidOf ((HA1.out.keepT (FrT.of_below (D := D) (T := []) (below1 _ (.cells #[.int .i64 x.wk] 3))) (by simp) (by simp)).keepT hG3 (by decide) (by decide))
          have HF8 := hidOf hF8
          clear hF8 hG3
          go_roundw
          case rel => exact ⟨k + 1, a8, c8, by omega, by go_num, by rw [HLA.out, List.length_append]; rfl, hidOf (by rw [HMS.out, HE1.out]; exact HR8.out), hidOf (by rw [HLA.out, List.length_append, show nums (lateW (R.take k) ++ [x.wk]) = nums (lateW (R.take k)) ++ [.int .i64 x.wk] by simp [nums]]; exact HO8.out), hidOf (fun q hq => by
              rw [HLA.out, List.length_append] at hq
              rcases HV8.out with h9 | h9
              · exact HD.out q (h9.symm.trans hq)
              · have h8 := h9.symm.trans hq
                have h7 := Option.some.inj h8
                rw [World.size_alloc] at h7
                have h6 := HF.out.size
                simp at h7
                omega), HF8⟩
          case measure => simp [intOf]; omega
        · have HLA := hidOf (late_no HX.out (by unfold late; simp [h12]))
          have y0 := A1.cell
          clear ht hh hIx A1 A2 A3 A4 A5
          go_wp2
          go_roundw
          case rel => exact ⟨k + 1, av, cv, by omega, by go_num, by rw [HLA.out], hidOf (by rw [HMS.out, HE1.out]; exact HA1.out), hidOf (by rw [HLA.out]; exact own_keepT HO.out HA3.out (by decide)), hidOf (by rw [HLA.out]; exact HD.out), hidOf (HF.out.trans HA3.out)⟩
          case measure => simp [intOf]; omega
      | false =>
        rw [ht] at x6
        have HLA := hidOf (late_no HX.out (by unfold late; simp [ht]))
        by_cases hd : 0 < x.dl
        · have hd6 := hIx.d6
          obtain ⟨A1, A2, A3, A4, A5⟩ := HR.out.setn HRI.out hpg (mk_len R k) HXK.out 5 (by omega) (.int .i64 (x.dl - 1)) (y := { x with dl := x.dl - 1 }) rfl
          have HE1 : Hid (t1 x = { x with dl := x.dl - 1 }) := hidOf (by unfold t1; simp [ht, hd])
          have HA1 := hidOf A1
          have HA3 := hidOf A3
          clear ht hIx A1 A2 A3 A4 A5
          go_wp2
          go_roundw
          case rel => exact ⟨k + 1, av, cv, by omega, by go_num, by rw [HLA.out], hidOf (by rw [HMS.out, HE1.out]; exact HA1.out), hidOf (by rw [HLA.out]; exact own_keepT HO.out HA3.out (by decide)), hidOf (by rw [HLA.out]; exact HD.out), hidOf (HF.out.trans HA3.out)⟩
          case measure => simp [intOf]; omega
        · have HE1 : Hid (t1 x = x) := hidOf (by unfold t1; simp [hd]; cases x; simp_all)
          have HSE : Hid ((mk R k).set k x = mk R k) := hidOf (by
            apply List.ext_getElem?
            intro j
            by_cases e : k = j
            · subst e
              rw [List.getElem?_set_self (List.getElem?_eq_some_iff.1 HXK.out).1, HXK.out]
            · rw [List.getElem?_set_ne e])
          clear ht hIx
          go_wp2
          go_roundw
          case rel => exact ⟨k + 1, av, cv, by omega, by go_num, by rw [HLA.out], hidOf (by rw [HMS.out, HE1.out, HSE.out]; exact HR.out), hidOf (by rw [HLA.out]; exact HO.out), hidOf (by rw [HLA.out]; exact HD.out), HF⟩
          case measure => simp [intOf]; omega
    · obtain rfl : k = R.length := by omega
      have hltz : ¬ (R.length : Int) < (R.length : Int) := by omega
      have hte : R.take R.length = R := List.take_length
      obtain ⟨wo, hwo⟩ : ∃ x, x = wr := ⟨_, rfl⟩
      subst hwo
      rw [hte] at HO HD ⊢
      have HR1 : Hid (RefR D wo pR (.slice a R.length cap) (R.map (mid ((lateW R).take 0)))) := hidOf (by rw [List.take_zero, mid_nil, ← mk_all]; exact HR.out)
      have hll := late_len R R.length
      rw [hte] at hll
      obtain ⟨ln, hln⟩ : ∃ n, (lateW R).length = n := ⟨_, rfl⟩
      rw [hln] at HO HD hll ⊢
      have HLN := hidOf hln
      clear hlt hte hln
      go_wp2
      clear c0 hpl
      go_loopw [4] (fun i wr => ∃ m : Nat, m ≤ ln ∧ i = .int .i64 (m : Int) ∧ Hid (RefR D wr pR (.slice a R.length cap) (R.map (mid ((lateW R).take m)))) ∧ Hid (wr.ownsRow 0 3 1 (.slice av ln cv) ln (nums (lateW R))) ∧ Hid (FrT D [71] w wr)) (fun i _ => ln - (intOf i).toNat)
      case atStart => exact ⟨0, Nat.zero_le _, rfl, HR1, HO, HF⟩
      case round =>
        obtain ⟨m, hm, rfl, HR2, HO2, HF2⟩ := hrel
        by_cases hml : m < ln
        · have hmz : (m : Int) < (ln : Int) := by omega
          obtain ⟨g, hg⟩ : ∃ g, (lateW R)[m]? = some g := ⟨(lateW R)[m]'(by have := HLN.out; omega), List.getElem?_eq_getElem (by have := HLN.out; omega)⟩
          obtain ⟨gb, gc, hgv, hgl, g0⟩ := int_row HO2.out hg HLN.out
          obtain ⟨rfl, rfl⟩ : av = some ⟨gb, 0, none⟩ ∧ cv = gc := by cases hgv; exact ⟨rfl, rfl⟩
          obtain ⟨x, hxf, hxw⟩ := List.mem_map.1 (List.mem_of_getElem? hg)
          obtain ⟨hxR, hxl⟩ := List.mem_filter.1 hxf
          have hnot : g ∉ (lateW R).take m := fun hmem => by
            obtain ⟨j, hj⟩ := List.mem_iff_getElem?.1 hmem
            have hjl := (List.getElem?_eq_some_iff.1 hj).1
            have hjm : j < m := by simp at hjl; omega
            rw [List.getElem?_take, if_pos hjm] at hj
            have hp := List.pairwise_iff_getElem.1 (late_nodup HOK.out.w)
            obtain ⟨l1, e1⟩ := List.getElem?_eq_some_iff.1 hj
            obtain ⟨l2, e2⟩ := List.getElem?_eq_some_iff.1 hg
            exact hp j m l1 l2 hjm (e1.trans e2.symm)
          have HST : Hid (nackM g (R.map (mid ((lateW R).take m))) = R.map (mid ((lateW R).take (m + 1)))) := hidOf (by
            rw [List.take_add_one, hg, ← hxw]
            exact mid_step HOK.out.w hxR hxl (by rw [hxw]; exact hnot))
          have HNK := hidOf (rnack_any pR (.slice (a : Option Addr) R.length cap) (R.map (mid ((lateW R).take m))) g wr HR2.out (fun y hy => by
            obtain ⟨z, hz, rfl⟩ := List.mem_map.1 hy
            have h3 := (HOK.out.i z hz).c3
            unfold mid
            split
            · unfold nk
              split
              · simp
              · simpa [t1] using h3
            · simpa [t1] using h3))
          clear hgv hg hxf hxw hxR hxl hnot
          go_wp2_with (go_at_call 16; refine HNK.out.mono ?_; rintro e w9 ⟨he, h1, h2⟩; obtain ⟨rv, hrv⟩ : ∃ y : Int, (if (heldM g (R.map (mid ((lateW R).take m)))).isSome = true then (0 : Int) else 3) = y := ⟨_, rfl⟩; rw [hrv] at he; clear hrv; subst he; rw [HST.out] at h1; have HR9 := hidOf h1; have HF9 := hidOf (HF2.out.trans h2); have HO9 := hidOf (own_keepT HO2.out h2 (by decide)); clear h1 h2)
          go_roundw
          case rel => exact ⟨m + 1, by omega, by go_num, HR9, HO9, HF9⟩
          case measure => simp [intOf]; omega
        · obtain rfl : m = ln := by omega
          have hmz : ¬ (m : Int) < (m : Int) := by omega
          have hta : (lateW R).take m = lateW R := by rw [← HLN.out]; exact List.take_length
          have HRZ : Hid (RefR D wr pR (.slice a R.length cap) (R.map tk1)) := hidOf (by have h9 := HR2.out; rw [hta, mid_all HOK.out.i] at h9; exact h9)
          clear hta
          go_wp2
          go_end0
          exact ⟨rfl, HRZ.out, HF2.out⟩
end Go.Proofs.Ytndomlbjdppckaa
