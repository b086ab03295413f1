/- Members of the code: slices.Grow, Concat, Compact. -/
import Derived.Test.YteaohmlbioooaaaCliv
import Derived.Lib.AppendZeros
import Derived.Lib.RowBridge
import Derived.Laws.IdiomCopy
namespace Go.Proofs.Yteaohmlbioooaaa
open Go.RowKit

theorem grownCap_in (w : World) (n : Nat) (_h0 : 0 < n) (h : n ≤ 17592186044416) : n ≤ grownCap w n 0 3 ∧ grownCap w n 0 3 ≤ maxLen := by
  exact ⟨grownCap_ge w n 0 3, grownCap_le_maxLen w n 0 3 (by unfold maxLen; omega)⟩
set_option maxHeartbeats 1000000 in
theorem grow_any (w : World) (n : Nat) (hn : n ≤ 17592186044416) : Calls Try.prog 49 #[.slice none 0 0, .int .i64 (n : Int)] w fun e w' => ∃ v, e = .returned v ∧ Row w' w.heap.size v [] ∧ Below w.heap.size w w' := by
  obtain ⟨i0, hi, hz0, hz1, hz2⟩ := info_parts info3'
  by_cases h0 : n = 0
  · subst h0
    go_enter Try.func49, Try.ntmps49
    go_wp2
    go_ret
    exact ⟨_, rfl, Row.nil _ _, Below.refl _ _⟩
  · have hp : 0 < n := by omega
    have hpz : (0 : Int) < (n : Int) := by omega
    have hpn : ¬ (n : Int) < 0 := by omega
    have HR := hidOf (Lib.run_append_nil_zeros (P := Try.prog) w 22 3 22 3 i0 (.int .i64 0) .i64 .i64 Try.underlying22 Try.underlying3 hi hz0 n hp (by rw [hz1]; decide) (by omega) (by rw [hz2]; omega))
    have hg := grownCap_in w n hp hn
    have HG := hidOf hg
    generalize hC : grownCap w n 0 3 = C at HR hg HG
    clear hC
    obtain ⟨hg1, hg2⟩ := hg
    have hg3 : 0 ≤ C := Nat.zero_le _
    generalize hZ : (Builtin.zeroCells (Value.int IntKind.i64 0).cells n ++ Builtin.zeroCells (Value.int IntKind.i64 0).cells (C - n)) = zs at HR
    have hzs : zs.size = C := by rw [← hZ]; simp [Builtin.zeroCells, Value.cells]; omega
    have HZS := hidOf hzs
    clear hZ hzs hi hz0 hz1 hz2 h0
    go_enter Try.func49, Try.ntmps49
    go_wp2_with (at_builtin; refine Lib.wpList_append_run _ rfl (.tmp 20) (.tmp 21) 22 3 rfl (.slice none 0 0) (.int .i64 (n : Int)) rfl rfl _ _ HR.out ?_)
    go_ret
    have hb : Below w.heap.size w (w.drew.alloc (.cells zs 3)) := ((Below.refl _ w).drew).alloc (Nat.le_refl _) _
    exact ⟨_, rfl, ⟨World.ownsRow_made (size := 1) (e := 3) (base := w.heap.size) w.drew zs C (Nat.le_refl _) HG.out.2 (by rw [HZS.out, Nat.mul_one]), by simp⟩, hb⟩

/- two lists, in a row of two -/
def Pair2 (w : World) (q : Nat) (x y : Value) : Prop := w.heap[q]? = some (.cells #[x, y] 22 (0, 0))
theorem Pair2.c0 {w : World} {k : Nat} {x y : Value} (h : Pair2 w k x y) : w.cell? ⟨k, 0, none⟩ = some x := by rw [cell_of_row w k 0 _ 22 (0, 0) h]; rfl
theorem Pair2.c1 {w : World} {k : Nat} {x y : Value} (h : Pair2 w k x y) : w.cell? ⟨k, 1, none⟩ = some y := by rw [cell_of_row w k 1 _ 22 (0, 0) h]; rfl
theorem Pair2.lt {w : World} {k : Nat} {x y : Value} (h : Pair2 w k x y) : k < w.heap.size := heap_lt h
theorem Pair2.grow {w w' : World} {k : Nat} {x y : Value} (h : Pair2 w k x y) (hb : Below w.heap.size w w') : Pair2 w' k x y := (hb.block k h.lt).trans h
set_option maxHeartbeats 4000000 in
theorem concat_any (w : World) (q : Nat) (av al : Option Addr) (V L : List Int) (cv cl : Nat) (h : Cf w av al V L) (hq : Pair2 w q (.slice av V.length cv) (.slice al L.length cl)) (hl : V.length + L.length ≤ 17592186044416) : Calls Try.prog 33 #[.slice (some ⟨q, 0, none⟩) 2 2] w fun e w' => ∃ v, e = .returned v ∧ Row w' w.heap.size v (V ++ L) ∧ Below w.heap.size w w' := by
  have c0 := hq.c0
  have c1 := hq.c1
  have lt0 := hq.lt
  have HQ := hidOf hq
  have HF := hidOf h
  have HG := hidOf (grow_any w (V.length + L.length) hl)
  have s1 : ¬ ((V.length : Nat) : Int) < 0 := by omega
  have s2 : ¬ ((V.length : Nat) : Int) + ((L.length : Nat) : Int) < 0 := by omega
  have s3 : (((V.length + L.length : Nat)) : Int) = (V.length : Int) + (L.length : Int) := by omega
  have HL1 : Hid (([] : List Int).length + V.length ≤ 17592186044416) := hidOf (by simp; omega)
  have HL2 : Hid (V.length + L.length ≤ 17592186044416) := hidOf hl
  clear h hq
  go_enter Try.func33, Try.ntmps33
  go_wp2
  go_loop [3, 11] (fun z i => ∃ k : Nat, i = .int .i64 (k : Int) ∧ k ≤ 2 ∧ z = .int .i64 (if k = 0 then 0 else if k = 1 then (V.length : Int) else (V.length : Int) + (L.length : Int))) (fun _ i => 2 - (intOf i).toNat)
  case atStart => exact ⟨0, rfl, Nat.zero_le _, rfl⟩
  case round =>
    obtain ⟨k, rfl, hk, rfl⟩ := hrel
    have hk3 : k = 0 ∨ k = 1 ∨ k = 2 := by omega
    rcases hk3 with rfl | rfl | rfl
    · go_wp2
      go_round
      case rel => exact ⟨1, by go_num, by omega, by go_num⟩
      case measure => simp [intOf]
    · go_wp2
      go_round
      case rel => exact ⟨2, by go_num, by omega, by go_num⟩
      case measure => simp [intOf]
    · rw [s3] at HG
      go_wp2_with (go_at_call 49; refine HG.out.mono ?_; rintro e w1 ⟨v0, rfl, hr, hb⟩; have HR0 := hidOf hr; have HB0 := hidOf hb; clear hr hb)
      go_loopw [6, 27] (fun vv i wr => ∃ (k : Nat) (v : Value), v = vv ∧ i = .int .i64 (k : Int) ∧ k ≤ 2 ∧ Hid (Row wr w.heap.size v (if k = 0 then [] else if k = 1 then V else V ++ L)) ∧ Hid (Below w.heap.size w wr)) (fun _ i _ => 2 - (intOf i).toNat)
      case atStart => exact ⟨0, v0, rfl, rfl, Nat.zero_le _, HR0, HB0⟩
      case round =>
        obtain ⟨k, v, rfl, rfl, hk2, HR, HB⟩ := hrel
        have hk3 : k = 0 ∨ k = 1 ∨ k = 2 := by omega
        have hD : Hid (w.heap.size ≤ wr.heap.size) := hidOf HB.out.size
        have HQr := hidOf (HQ.out.grow HB.out)
        have HFr := hidOf (HF.out.grow HB.out)
        have d0 := HQr.out.c0
        have d1 := HQr.out.c1
        have dlt := HQr.out.lt
        rcases hk3 with rfl | rfl | rfl
        · have hR : Row wr w.heap.size v [] := HR.out
          have HRa := hidOf hR
          clear hR HR
          go_wp2_with (at_builtin; refine wpList_app wr rfl (.tmp 31) (.tmp 32) rfl w.heap.size v [] rfl HRa.out av cv V rfl HFr.out.v HL1.out hD.out ?next)
          case next =>
            intro v1 w2 hr2 hg2 _
            have HR2 := hidOf hr2
            have HB2 := hidOf (HB.out.trans (grown_below HRa.out hg2 hD.out))
            clear hr2 hg2
            go_wp2
            go_roundw
            case rel => exact ⟨1, _, rfl, by go_num, by omega, HR2, HB2⟩
            case measure => simp [intOf]
        · have hR : Row wr w.heap.size v V := HR.out
          have HRa := hidOf hR
          clear hR HR
          go_wp2_with (at_builtin; refine wpList_app wr rfl (.tmp 31) (.tmp 32) rfl w.heap.size v V rfl HRa.out al cl L rfl HFr.out.l HL2.out hD.out ?next)
          case next =>
            intro v1 w2 hr2 hg2 _
            have HR2 := hidOf hr2
            have HB2 := hidOf (HB.out.trans (grown_below HRa.out hg2 hD.out))
            clear hr2 hg2
            go_wp2
            go_roundw
            case rel => exact ⟨2, _, rfl, by go_num, by omega, HR2, HB2⟩
            case measure => simp [intOf]
        · have hR : Row wr w.heap.size v (V ++ L) := HR.out
          have HRa := hidOf hR
          clear hR HR
          go_wp2
          go_ret
          exact ⟨v, rfl, HRa.out, HB.out⟩

/- of a list that is sorted, equal ones once -/
theorem getB_nth (l : List Int) (j : Nat) (h : j < l.length) : l.toArray[j]! = nth l j := by simp [nth, h]
theorem compact_lt {S : List Int} (h : S.Pairwise (· ≤ ·)) : (Lib.compact S).Pairwise (· < ·) := by
  unfold Lib.compact Lib.compactUpTo
  rw [List.pairwise_map]
  have hp : (List.range S.length).Pairwise (· < ·) := List.pairwise_lt_range
  refine List.Pairwise.imp_of_mem ?_ (hp.filter _)
  intro i j hi hj hij
  have hi1 := List.mem_range.1 (List.mem_filter.1 hi).1
  have hj1 := List.mem_range.1 (List.mem_filter.1 hj).1
  have hk := (List.mem_filter.1 hj).2
  rw [getB_nth S i hi1, getB_nth S j hj1]
  unfold Lib.keeps at hk
  have hne : nth S j ≠ nth S (j - 1) := by
    rw [← getB_nth S j hj1, ← getB_nth S (j - 1) (by omega)]
    intro e
    simp [e] at hk
    omega
  have a1 := sorted_get h (i := i) (j := j - 1) (by omega) (by omega)
  have a2 := sorted_get h (i := j - 1) (j := j) (by omega) hj1
  omega
theorem compact_mem {S : List Int} (x : Int) : x ∈ Lib.compact S ↔ x ∈ S := by
  unfold Lib.compact Lib.compactUpTo
  rw [List.mem_map]
  constructor
  · rintro ⟨j, hj, rfl⟩
    have hj1 := List.mem_range.1 (List.mem_filter.1 hj).1
    rw [getB_nth S j hj1]
    exact nth_mem hj1
  · intro hx
    obtain ⟨i, hi, rfl⟩ := List.getElem_of_mem hx
    rw [← nth_get hi]
    clear hx
    induction i with
    | zero => exact ⟨0, List.mem_filter.2 ⟨List.mem_range.2 hi, Lib.keeps_lt_one _ 0 (by omega)⟩, getB_nth S 0 hi⟩
    | succ i ih =>
      by_cases e : nth S (i + 1) = nth S i
      · rw [e]; exact ih (by omega)
      · exact ⟨i + 1, List.mem_filter.2 ⟨List.mem_range.2 hi, Lib.keeps_pos (by rw [getB_nth S _ hi, Nat.add_sub_cancel, getB_nth S i (by omega)]; exact e)⟩, getB_nth S _ hi⟩
def mem (V L : List Int) : List Int := Lib.compact (srt (V ++ L))
theorem mem_lt (V L : List Int) : (mem V L).Pairwise (· < ·) := compact_lt (srt_sorted _)
theorem mem_iff (V L : List Int) (x : Int) : x ∈ mem V L ↔ x ∈ V ∨ x ∈ L := by unfold mem; rw [compact_mem, srt_mem, List.mem_append]
theorem mem_len (V L : List Int) : (mem V L).length ≤ V.length + L.length := by
  have := Lib.compact_length_le (srt (V ++ L))
  rw [srt_length, List.length_append] at this
  exact this
theorem below_cells {D g : Nat} (hg : D ≤ g) : ∀ (vs : List Value) (o : Nat) (w : World), Below D w (w.setCells g o vs)
  | [], _, w => Below.refl D w
  | v :: vs, o, w => ((Below.refl D w).setCell (p := ⟨g, o, none⟩) hg v).trans (below_cells hg vs (o + 1) _)
theorem compact_any (w : World) (D : Nat) (v : Value) (l : List Int) (h : Row w D v l) (_hD : D ≤ w.heap.size) : Calls Try.prog 31 #[v] w fun e w' => ∃ a cap, e = .returned (.slice a (Lib.compact l).length cap) ∧ Ints w' a (Lib.compact l) ∧ Below D w w' := by
  rcases h.own.2 with ⟨rfl, e⟩ | ⟨g, cap, cur, rfl, h3, h4, h5, h6, h7, h8⟩
  · obtain rfl := List.eq_nil_of_length_eq_zero e
    exact (Try.slices_Compact_int_empty none 0 w).mono fun e w' ⟨h1, h2⟩ => ⟨none, 0, h1, Ints.nil _ _, by rw [h2]; exact Below.refl _ _⟩
  · have hl := h.len
    have hle := Lib.compact_length_le l
    by_cases hne : l = []
    · subst hne
      exact (Try.slices_Compact_int_empty (some ⟨g, 0, none⟩) cap w).mono fun e w' ⟨h1, h2⟩ => ⟨_, cap, h1, Ints.nil _ _, by rw [h2]; exact Below.refl _ _⟩
    · obtain ⟨a, cap', e, hi, _, _, _⟩ := h.slice
      obtain ⟨b, off, e1, hb, hc⟩ := hi.cells hne
      injection e with e2 _ _
      rw [e1] at e2
      cases e2
      have hfz : ∀ j, j < l.length → w.frozen? ⟨g, 0 + j, none⟩ = false := fun j _ => by simp [World.frozen?, h4]
      have := Try.slices_Compact_int_cells g 0 l.length cap l w (Nat.le_refl _) (by omega) h5 hc hfz
      rw [List.take_length] at this
      refine this.mono fun e w' ⟨h1, q, h2⟩ => ⟨_, cap, h1, ?_, ?_⟩
      · have hL : ((Lib.compact l ++ List.replicate (l.length - (Lib.compact l).length) 0).map (Value.int .i64)).length = l.length := by simp; omega
        have hbel := below_cells h3 ((Lib.compact l ++ List.replicate (l.length - (Lib.compact l).length) 0).map (Value.int .i64)) 0 (w.drewN q)
        refine ⟨by omega, fun _ => ⟨g, 0, rfl, by rw [h2]; exact Nat.lt_of_lt_of_le (heap_lt h4) hbel.size, fun j hj => ?_⟩⟩
        rw [h2]
        have := World.cell?_setCells_in g ((Lib.compact l ++ List.replicate (l.length - (Lib.compact l).length) 0).map (Value.int .i64)) 0 (w.drewN q) (fun j hj => by
          rw [hL] at hj
          have := hc j hj
          show ((w.drewN q).cell? ⟨g, 0 + j, none⟩).isSome = true
          rw [show (w.drewN q).cell? ⟨g, 0 + j, none⟩ = w.cell? ⟨g, 0 + j, none⟩ from rfl, this]
          rfl) j (by rw [hL]; omega)
        rw [this, nth_get hj]
        simp only [List.getElem_map]
        rw [List.getElem_append_left hj]
      · rw [h2]
        exact Below.trans (b := w.drewN q) ⟨rfl, rfl, rfl, Nat.le_refl _, fun _ _ => rfl⟩ (below_cells h3 _ 0 (w.drewN q))
set_option maxHeartbeats 1000000 in
theorem members_any (w : World) (av al : Option Addr) (V L : List Int) (cv cl : Nat) (h : Cf w av al V L) (hl : V.length + L.length ≤ 17592186044416) : Calls Try.prog 10 #[.agg #[.slice av V.length cv, .slice al L.length cl]] w fun e w' => ∃ a cap, e = .returned (.slice a (mem V L).length cap) ∧ Ints w' a (mem V L) ∧ Below w.heap.size w w' := by
  have H0 := hidOf ((Cs.begin cv cl h).grow (below1 _ (.cells #[.slice av V.length cv, .slice al L.length cl] 22)))
  have hq : Pair2 ((w.alloc (.cells #[.slice av V.length cv, .slice al L.length cl] 24)).alloc (.cells #[.slice av V.length cv, .slice al L.length cl] 22)) (w.heap.size + 1) (.slice av V.length cv) (.slice al L.length cl) := by
    have := heap_alloc_new (w.alloc (.cells #[.slice av V.length cv, .slice al L.length cl] 24)) (.cells #[.slice av V.length cv, .slice al L.length cl] 22)
    rw [World.size_alloc] at this
    exact this
  have HC := hidOf (concat_any _ (w.heap.size + 1) av al V L cv cl H0.out.cf hq hl)
  clear h hq
  go_enter Try.func10, Try.ntmps10
  go_wp2_with (first
    | (go_at_call 33; refine HC.out.mono ?_; rintro e w1 ⟨v, rfl, hr, hb⟩; obtain ⟨a1, k1, hv1, hi1, _, _, _⟩ := hr.slice; have H1 := hidOf (below_then H0.out.bel hb); have hs := sorted_any w1 a1 (V ++ L) k1 hi1; rw [← hv1] at hs; have HS := hidOf hs; clear hs hr hb hi1 hv1)
    | (go_at_call 32; refine HS.out.mono ?_; rintro e w2 ⟨v2, rfl, hr, hb⟩; have HK := hidOf (compact_any w2 w1.heap.size v2 (srt (V ++ L)) hr hb.size); have H2 := hidOf (below_then H1.out hb); clear hr hb)
    | (go_at_call 31; refine HK.out.mono ?_; rintro e w3 ⟨a3, k3, rfl, hi3, hb⟩; have H3 := hidOf (H2.out.trans (hb.mono H1.out.size)); have HI3 := hidOf hi3; clear hb hi3))
  go_ret
  exact ⟨a3, k3, rfl, HI3.out, H3.out⟩
end Go.Proofs.Yteaohmlbioooaaa
