/- Update, walked. -/
import Derived.Test.YtndomlbjdppckaaBup
namespace Go.Proofs.Ytndomlbjdppckaa
open Go.RowKit
variable {D : Nat}

theorem up_frt {w w' : World} {b : Nat} {mm mm2 : Int → Option Value} (h : MpR w b kI mm) (_hs : ∀ (i : Nat), i ≠ b → w'.heap[i]? = w.heap[i]?) (_hz : w'.heap.size = w.heap.size) (hg : w.grownBy w' (some b)) (hDb : D ≤ b := by assumption) (_h2 : MpR w' b kI mm2 := by assumption) : FrT D [9999] w w' := by
  obtain ⟨L, c, h1, _⟩ := h
  refine ⟨hg.os, hg.tape, hg.output, hg.size, fun k o hk ho => (hg.block k (heap_lt hk) (fun e => ?_)).trans hk⟩
  have e2 : k = b := Option.some.inj e
  subst e2
  rcases ho with ho | ho
  · rw [h1] at hk; cases hk; simp [isT] at ho
  · omega
theorem Lst.snoc {w w6 : World} {pB pH nb : Nat} {v v' : Value} {L : List (Nat × Itm)} {x : Itm} (h : Lst D w pB pH v L) (hx : ItR w nb x) (hnb : ∀ z ∈ L, z.1 ≠ nb) (hD : D ≤ nb) (hr : w6.ownsRow 0 55 1 v' (L.length + 1) (ptrs L ++ [ptr nb])) (hg : w.grownBy w6 v.ownBlock) (hv : v'.ownBlock = v.ownBlock ∨ v'.ownBlock = some w.heap.size) :
    Lst D (w6.setCell ⟨pB, 0, none⟩ v') pB pH v' (L ++ [(nb, x)]) ∧ FrT D [55, 58] w (w6.setCell ⟨pB, 0, none⟩ v') ∧ w6.heap[pB]? = some (.cells #[v, ptr pH] 58 (0, 0)) := by
  have hF : FrT D [55] w w6 := grown_frt h.row h.lr hg
  have hb6 := hF.cells h.blk (by decide)
  have hF2 : FrT D [55, 58] w (w6.setCell ⟨pB, 0, none⟩ v') := FrT.set (hF.mono (by decide)) hb6 (by decide) h.lo 0 v'
  have e1 : ptrs (L ++ [(nb, x)]) = ptrs L ++ [ptr nb] := by simp [ptrs]
  refine ⟨⟨?_, ?_, fun z hz => ?_, ?_, h.lo, fun k hk => ?_, fun z hz => ?_⟩, hF2, hb6⟩
  · rw [heap_setCell_same w6 pB 0 _ 58 _ hb6]; rfl
  · rw [e1, List.length_append]
    refine own_of_set hr (fun e => ?_) 0 v'
    rcases hr.2 with ⟨rfl, _⟩ | ⟨g, cap, cur, rfl, _, h4, _⟩
    · cases e
    · have e2 : g = pB := Option.some.inj e
      rw [e2, hb6] at h4; cases h4
  · rcases List.mem_append.1 hz with hz | hz
    · exact hF2.item (h.its z hz) (by decide)
    · rw [List.mem_singleton.1 hz]; exact hF2.item hx (by decide)
  · rw [List.map_append]
    refine List.nodup_append.2 ⟨h.nd, by simp, fun a ha b' hb' => ?_⟩
    obtain ⟨z, hz, rfl⟩ := List.mem_map.1 ha
    simp at hb'
    rw [hb']; exact hnb z hz
  · rcases hv with hv | hv
    · exact h.lr k (hv.symm.trans hk)
    · rw [hv] at hk; cases hk
      exact Nat.le_of_lt (Nat.lt_of_le_of_lt h.lo (heap_lt h.blk))
  · rcases List.mem_append.1 hz with hz | hz
    · exact h.li z hz
    · rw [List.mem_singleton.1 hz]; exact hD
theorem Lst.cut {w w3 : World} {pB pH : Nat} {v v' : Value} {L : List (Nat × Itm)} {q : Nat × Itm → Bool} (h : Lst D w pB pH v L) (hr : w3.ownsRow 0 55 1 v' (L.filter q).length (ptrs (L.filter q))) (ho : v'.ownBlock = v.ownBlock) (hs : RSo w w3 v.ownBlock) :
    Lst D (w3.setCell ⟨pB, 0, none⟩ v') pB pH v' (L.filter q) ∧ FrT D [55, 58] w (w3.setCell ⟨pB, 0, none⟩ v') ∧ w3.heap[pB]? = some (.cells #[v, ptr pH] 58 (0, 0)) := by
  have hf : FrT D [55] w w3 := by
    rcases h.row.2 with ⟨e2, _⟩ | ⟨g, cap, cur, e2, _, h4, _⟩
    · rw [e2] at hs
      exact ⟨hs.os, hs.tape, hs.output, hs.size, fun k o hk _ => (hs.block k (heap_lt hk) (by simp [Value.ownBlock])).trans hk⟩
    · have hg := h.lr g (by rw [e2]; rfl)
      rw [e2] at hs
      exact FrT.of_one h4 (by decide) hg hs.os hs.tape hs.output hs.size (fun k hk hne => hs.block k hk (fun e => hne (Option.some.inj e)))
  have hb3 := hf.cells h.blk (by decide)
  have hF2 : FrT D [55, 58] w (w3.setCell ⟨pB, 0, none⟩ v') := FrT.set (hf.mono (by decide)) hb3 (by decide) h.lo 0 v'
  refine ⟨⟨?_, ?_, fun z hz => hF2.item (h.its z (List.mem_filter.1 hz).1) (by decide), List.Nodup.sublist (List.Sublist.map _ List.filter_sublist) h.nd, h.lo, fun k hk => h.lr k (ho.symm.trans hk), fun z hz => h.li z (List.mem_filter.1 hz).1⟩, hF2, hb3⟩
  · rw [heap_setCell_same w3 pB 0 _ 58 _ hb3]; rfl
  · refine own_of_set hr (fun e => ?_) 0 v'
    rcases hr.2 with ⟨rfl, _⟩ | ⟨g, cap, cur, rfl, _, h4, _⟩
    · cases e
    · have e2 : g = pB := Option.some.inj e
      rw [e2, hb3] at h4; cases h4
theorem u1_no {R : List Itm} {e : Ev} (h : e.st ≠ 1) : u1 R e = R := by unfold u1; rw [if_neg h]
theorem u1_had {L : List (Nat × Itm)} {e : Ev} (hJ : JN L) {i b : Nat} {x : Itm} (h : L[i]? = some (b, x)) (hj : x.jb = e.jb) (hs : e.st = 1) (ht : x.tk = true) : u1 (L.map (·.2)) e = L.map (·.2) := by
  unfold u1
  rw [if_pos hs, find_at hJ h hj]
  have : (L.map (·.2)).getD i default = x := by simp [List.getD, h]
  show (if ((L.map (fun z : Nat × Itm => z.2)).getD i default).tk = true then _ else _) = _
  rw [this, if_pos ht]
theorem u1_set {L : List (Nat × Itm)} {e : Ev} (hJ : JN L) {i b : Nat} {x : Itm} (h : L[i]? = some (b, x)) (hj : x.jb = e.jb) (hs : e.st = 1) (ht : x.tk = false) : u1 (L.map (·.2)) e = (L.set i (b, evI e x)).map (·.2) := by
  unfold u1
  rw [if_pos hs, find_at hJ h hj]
  have : (L.map (·.2)).getD i default = x := by simp [List.getD, h]
  show (if ((L.map (fun z : Nat × Itm => z.2)).getD i default).tk = true then _ else (L.map (fun z : Nat × Itm => z.2)).set i (evI e ((L.map (fun z : Nat × Itm => z.2)).getD i default))) = _
  rw [this, if_neg (by simp [ht]), List.map_set]
theorem u1_new {L : List (Nat × Itm)} {e : Ev} (h : ∀ z ∈ L, z.2.jb ≠ e.jb) (hs : e.st = 1) (b : Nat) : u1 (L.map (·.2)) e = (L ++ [(b, newI e)]).map (·.2) := by
  unfold u1
  rw [if_pos hs, find_no h]
  simp
theorem foldl_succ {es : List Ev} {k : Nat} {e : Ev} (h : es[k]? = some e) (R : List Itm) : (es.take (k + 1)).foldl u1 R = u1 ((es.take k).foldl u1 R) e := by
  rw [List.take_add_one, h]; simp
theorem info55 : (Try.prog.info? 55).map (fun i => (i.zero, i.size, i.bytes)) = some (some (.pointer none), 1, 8) := by kernel_rfl
theorem Bk.lst {w : World} {pB N : Nat} {L : List (Nat × Itm)} (h : Bk D w pB L N) : ∃ v pH, Lst D w pB pH v L := by
  obtain ⟨v, pH, M, n, r, h1, _⟩ := h.ex
  exact ⟨v, pH, h1⟩

set_option maxHeartbeats 16000000 in
set_option maxRecDepth 100000 in
theorem upl_any (pB pH : Nat) (v : Value) (a : Option Addr) (c : Nat) (es : List Ev) (L : List (Nat × Itm)) (w : World) (hL : Lst D w pB pH v L) (hJ : JN L) (hE : EvR D w a es) (hEn : es.length ≤ 4398046511104) (hLn : L.length + es.length < 8796093022207) :
    Calls Try.prog 9 #[.pointer (some ⟨pB, 0, none⟩), .agg #[.int .i64 0, .int .i64 0, .slice none 0 0, .slice none 0 0, .slice none 0 0, .slice none 0 0, .slice a es.length c, .slice none 0 0, .slice none 0 0]] w fun e w' => e = .returned (.tuple #[]) ∧ ∃ L', Bk D w' pB L' L'.length ∧ L'.map (·.2) = upM (L.map (·.2)) es ∧ JN L' ∧ L'.length ≤ L.length + es.length ∧ FrT D TB w w' := by
  have hmm := @run_makeMap Try.prog
  have hmf : ∀ (fn : Fn) (first cap : Array Value) (w : World), (Instr.makeFunc fn first cap).run Try.prog w = .ok (.func fn first cap) w := fun _ _ _ _ => rfl
  have hDw : D ≤ w.heap.size := Nat.le_of_lt (Nat.lt_of_le_of_lt hL.lo (heap_lt hL.blk))
  obtain ⟨i0, hi0, hz0, hz1, hz2⟩ := info_parts info55
  have HI := hidOf hi0
  have HZ0 := hidOf hz0
  have HZ1 := hidOf hz1
  have HZ2 := hidOf hz2
  have HB0 : Hid (∀ o : Obj, Below w.heap.size w (w.alloc o)) := hidOf (below1 w)
  have HC := hidOf (fun o => byJob_any pB pH v L (w.alloc o) (hL.grow (below1 w o)) hJ)
  have HL := hidOf hL
  have HJ := hidOf hJ
  have HE := hidOf hE
  clear hL hJ hE hi0 hz0 hz1 hz2
  go_enter Try.func9, Try.ntmps9
  go_wp2_with (go_at_call 24; refine (HC.out _).mono ?_; rintro e w2 ⟨mk, rfl, hmk, hb2, m0, hm0, hj0⟩; have hq3 := (box_keep hb2).1; have HQ3 := hidOf hq3; have HB2 := hidOf ((HB0.out _).trans (hb2.mono (by simp))); have hw2 : w.heap.size < w2.heap.size := (box_keep hb2).2; have s6 : ∀ o1 o2 : Obj, ((w2.alloc o1).alloc o2).cell? ⟨w.heap.size, 6, none⟩ = some (.slice a es.length c) := (fun o1 o2 => ((below2 w2 o1 o2).cell (p := ⟨w.heap.size, 6, none⟩) hw2).trans (by rw [cell_of_row w2 _ 6 _ 40 (0, 0) hq3]; rfl)); have HM0 := hidOf hm0; have HJ0 := hidOf hj0; have hmkl : mk < w2.heap.size := hm0.lt; have hmk1 : w.heap.size < mk := (by have := hmk; rw [World.size_alloc] at this; omega); clear hb2 hm0 hj0 hq3 hmk)
  obtain ⟨W4, hW4⟩ : ∃ y, y = (w2.alloc (.map #[] 0)).alloc (.cells #[.map (some w2.heap.size)] 61) := ⟨_, rfl⟩
  obtain ⟨mp, hmp⟩ : ∃ y, y = w2.heap.size := ⟨_, rfl⟩
  obtain ⟨q5, hq5⟩ : ∃ y, y = w2.heap.size + 1 := ⟨_, rfl⟩
  have hbz : Below w2.heap.size w2 W4 := by rw [hW4]; exact below2 w2 _ _
  have HQ50 : Hid (W4.heap[q5]? = some (.cells #[.map (some mp)] 61 (0, 0))) := hidOf (by
    have := heap_alloc_new (w2.alloc (.map #[] 0)) (.cells #[.map (some w2.heap.size)] 61)
    rw [World.size_alloc] at this
    rw [hW4, hq5, hmp]; exact this)
  have HMP0 : Hid (MpR W4 mp kI (fun _ => none)) := hidOf (by
    rw [hmp]
    refine (MpR.new w2 kI).keep ?_
    rw [hW4]
    exact (below1 _ _).block _ (by simp))
  have HMK0 : Hid (MpR W4 mk kI m0) := hidOf (HM0.out.keep (hbz.block mk hmkl))
  have HBW : Hid (Below w.heap.size w W4) := hidOf (HB2.out.trans (hbz.mono HB2.out.size))
  have HL4 := hidOf (HL.out.grow HBW.out)
  have HF4 : Hid (FrT D TB w W4) := hidOf (FrT.of_below HBW.out)
  have hDmp : D ≤ mp := by omega
  have hDmk : D ≤ mk := by omega
  have hmkp : mk ≠ mp := by omega
  have hmpk : mp ≠ mk := by omega
  rw [← hW4, ← hq5, ← hmp]
  have s6' := s6 (.map #[] 0) (.cells #[.map (some w2.heap.size)] 61)
  have s6'' : W4.cell? ⟨w.heap.size, 6, none⟩ = some (.slice a es.length c) := by rw [hW4]; exact s6'
  have HMPE := hidOf hmp
  clear s6' hq5 hmp hW4 s6 hbz HM0 HB2 HB0 HC HQ3
  have hxx := HE.out
  go_loopw [16] (fun i wr => ∃ (k : Nat) (Lk : List (Nat × Itm)) (vk : Value) (m : Int → Option Value), k ≤ es.length ∧ i = .int .i64 (k : Int) ∧ Hid (Lst D wr pB pH vk Lk) ∧ Hid (JN Lk ∧ Lk.map (·.2) = (es.take k).foldl u1 (L.map (·.2)) ∧ Lk.length ≤ L.length + k) ∧ Hid (MpR wr mk kI m ∧ MJ m Lk) ∧ Hid (MpR wr mp kI (pmV (es.take k))) ∧ Hid (wr.heap[q5]? = some (.cells #[.map (some mp)] 61 (0, 0))) ∧ Hid (FrT D TB w wr)) (fun i _ => es.length - (intOf i).toNat)
  case atStart => exact ⟨0, L, v, m0, Nat.zero_le _, rfl, HL4, hidOf ⟨HJ.out, rfl, Nat.le_refl _⟩, hidOf ⟨HMK0.out, HJ0.out⟩, HMP0, HQ50, HF4⟩
  case round =>
    obtain ⟨k, Lk, vk, m, hk, rfl, HLk, HJk, HMk, HMPk, HQ5k, HFk⟩ := hrel
    clear hxx HL4 HF4 HMK0 HMP0 HQ50 HBW HJ0
    by_cases hlt : k < es.length
    · have hltz : (k : Int) < (es.length : Int) := by omega
      obtain ⟨e, he⟩ : ∃ e, es[k]? = some e := ⟨es[k], List.getElem?_eq_getElem hlt⟩
      have hEr := HE.out.frt HFk.out (by decide)
      obtain ⟨b0, off, rfl, hbl, _, hcc⟩ := hEr (fun x => by subst x; simp at hlt)
      obtain ⟨c0, c1, c2, c3⟩ := hcc k e he
      have HBa : Hid (Below wr.heap.size wr (wr.alloc (.cells #[.int .i64 e.jb, .int .i64 e.pr, .int .i64 e.st, .int .i64 e.ix] 42))) := hidOf (below1 _ _)
      have HQ7 : Hid ((wr.alloc (.cells #[.int .i64 e.jb, .int .i64 e.pr, .int .i64 e.st, .int .i64 e.ix] 42)).heap[wr.heap.size]? = some (.cells #[.int .i64 e.jb, .int .i64 e.pr, .int .i64 e.st, .int .i64 e.ix] 42 (0, 0))) := hidOf (heap_alloc_new _ _)
      have HLa := hidOf (HLk.out.grow HBa.out)
      have HMPa := hidOf (HMPk.out.keep (HBa.out.block mp HMPk.out.lt))
      have HMKa := hidOf (HMk.out.1.keep (HBa.out.block mk HMk.out.1.lt))
      have HQ5a : Hid ((wr.alloc (.cells #[.int .i64 e.jb, .int .i64 e.pr, .int .i64 e.st, .int .i64 e.ix] 42)).heap[q5]? = some (.cells #[.map (some mp)] 61 (0, 0))) := hidOf ((HBa.out.block q5 (heap_lt HQ5k.out)).trans HQ5k.out)
      have f5 : (wr.alloc (.cells #[.int .i64 e.jb, .int .i64 e.pr, .int .i64 e.st, .int .i64 e.ix] 42)).cell? ⟨q5, 0, none⟩ = some (.map (some mp)) := by rw [cell_of_row _ q5 0 _ 61 (0, 0) HQ5a.out]; rfl
      have HFO := hidOf (foldl_succ he (L.map (·.2)))
      have HTK : Hid (es.take (k + 1) = es.take k ++ [e]) := hidOf (by rw [List.take_add_one, he]; rfl)
      clear hcc hEr
      by_cases hst : e.st = 1
      · have hstb : (e.st == 1) = true := by simp [hst]
        have HST := hidOf hst
        have HPM : Hid ((fun j => if j = e.jb then some (.agg #[]) else pmV (es.take k) j) = pmV (es.take (k + 1))) := hidOf (by rw [HTK.out]; exact pmV_yes hst)
        rcases HMk.out.2.look e.jb with ⟨i, b, x, hi, hxj, hmj⟩ | ⟨hno, hmj⟩
        · have HLK : Hid (∀ W, MpR W mk kI m → (Instr.lookup 59 (.map (some mk)) (.int .i64 e.jb) true).run Try.prog W = .ok (.tuple #[.pointer (some ⟨b, 0, none⟩), .bool true]) W) := hidOf (fun W hW => by
            have := hW.look kyI Try.underlying59 (Try.zeroValue55 W) e.jb true
            rw [if_pos rfl, hmj] at this
            exact this)
          have HI2 := hidOf hi
          have HXJ := hidOf hxj
          clear hi hxj hmj hst
          cases htk : x.tk with
          | true =>
            have HT := hidOf htk
            have HU := hidOf (u1_had HJk.out.1 HI2.out HXJ.out HST.out HT.out)
            have hit := HLa.out.its _ (List.mem_of_getElem? HI2.out)
            have HIT := hidOf hit
            clear htk hit
            go_wp2_with (first | (at_mapUpdate; refine wpList_mapX _ rfl _ _ _ 61 rfl 3 62 kyI Try.underlying61 mp _ rfl HMPa.out e.jb (.agg #[]) rfl rfl ?_; intro w2 hm2 hs2 hz2 hg2; have hf2 : FrT D [9999] (wr.alloc (.cells #[.int .i64 e.jb, .int .i64 e.pr, .int .i64 e.st, .int .i64 e.ix] 42)) w2 := up_frt HMPa.out hs2 hz2 hg2; obtain ⟨e0, e1, e2, e3, _⟩ := box4 (hf2.cells HQ7.out (by decide)); have hmk2 : MpR w2 mk kI m := HMKa.out.keep (hs2 mk hmkp); have hlk := HLK.out w2 hmk2; have hl2 := HLa.out.keepT hf2 (by decide) (by decide) (by decide); have HM2 := hidOf hm2; have HF2 := hidOf hf2; have HL2 := hidOf hl2; have HMK2 := hidOf hmk2; have HQ2 : Hid (w2.heap[q5]? = some (.cells #[.map (some mp)] 61 (0, 0))) := hidOf (hf2.cells HQ5a.out (by decide)); have hq7l : wr.heap.size < w2.heap.size := (by rw [hz2]; simp); clear hm2 hs2 hz2 hg2 hf2 hl2 hmk2; have hit2 := HF2.out.item HIT.out (by decide); obtain ⟨_, _, _, _, _, _, y6, _, _⟩ := ItR.cells hit2; simp only [HT.out] at y6; clear hit2))
            go_roundw
            case rel => exact ⟨k + 1, Lk, vk, m, by omega, by go_num, HL2, hidOf ⟨HJk.out.1, by rw [HFO.out, ← HJk.out.2.1, HU.out], by have := HJk.out.2.2; omega⟩, hidOf ⟨HMK2.out, HMk.out.2⟩, hidOf (by rw [← HPM.out]; exact HM2.out), HQ2, hidOf ((HFk.out.trans (FrT.of_below HBa.out)).trans (HF2.out.mono (by decide)))⟩
            case measure => simp [intOf]; omega
          | false =>
            have HT := hidOf htk
            have HU := hidOf (u1_set HJk.out.1 HI2.out HXJ.out HST.out HT.out)
            have hit := HLa.out.its _ (List.mem_of_getElem? HI2.out)
            have HIT := hidOf hit
            have hbne : b ≠ wr.heap.size := by have := ItR.lt (HLk.out.its _ (List.mem_of_getElem? HI2.out)); simp only at this; omega
            clear htk hit
            go_wp2_with (first | (at_mapUpdate; refine wpList_mapX _ rfl _ _ _ 61 rfl 3 62 kyI Try.underlying61 mp _ rfl HMPa.out e.jb (.agg #[]) rfl rfl ?_; intro w2 hm2 hs2 hz2 hg2; have hf2 : FrT D [9999] (wr.alloc (.cells #[.int .i64 e.jb, .int .i64 e.pr, .int .i64 e.st, .int .i64 e.ix] 42)) w2 := up_frt HMPa.out hs2 hz2 hg2; obtain ⟨e0, e1, e2, e3, _⟩ := box4 (hf2.cells HQ7.out (by decide)); have hmk2 : MpR w2 mk kI m := HMKa.out.keep (hs2 mk hmkp); have hlk := HLK.out w2 hmk2; have hl2 := HLa.out.keepT hf2 (by decide) (by decide) (by decide); have HM2 := hidOf hm2; have HF2 := hidOf hf2; have HL2 := hidOf hl2; have HMK2 := hidOf hmk2; have HQ2 : Hid (w2.heap[q5]? = some (.cells #[.map (some mp)] 61 (0, 0))) := hidOf (hf2.cells HQ5a.out (by decide)); have hq7l : wr.heap.size < w2.heap.size := (by rw [hz2]; simp); clear hm2 hs2 hz2 hg2 hf2 hl2 hmk2; have hit2 := HF2.out.item HIT.out (by decide); obtain ⟨y0, y1, y2, y3, _, _, y6, _, _⟩ := ItR.cells hit2; have zy := ItR.frozen hit2; have hbl2 := ItR.lt hit2; simp only [HT.out] at y6; clear hit2))
            have L1 := HL2.out.setc HI2.out 0 (.int .i64 e.jb) (y := { x with jb := e.jb }) rfl
            have L2 := L1.setc (get_set HI2.out) 1 (.int .i64 e.pr) (y := { x with jb := e.jb, pr := e.pr }) rfl
            have L3 := L2.setc (get_set (get_set HI2.out)) 2 (.int .i64 e.st) (y := { x with jb := e.jb, pr := e.pr, st := e.st }) rfl
            have L4 := L3.setc (get_set (get_set (get_set HI2.out))) 3 (.int .i64 e.ix) (y := evI e x) rfl
            have F1 := HL2.out.frt (T := [65]) (by decide) (FrT.refl _ _ _) HI2.out 0 (.int .i64 e.jb)
            have F2 := L1.frt (by decide) F1 (get_set HI2.out) 1 (.int .i64 e.pr)
            have F3 := L2.frt (by decide) F2 (get_set (get_set HI2.out)) 2 (.int .i64 e.st)
            have F4 := L3.frt (by decide) F3 (get_set (get_set (get_set HI2.out))) 3 (.int .i64 e.ix)
            simp only [set_set] at L4
            have HL9 := hidOf L4
            have HF9 := hidOf F4
            clear L1 L2 L3 L4 F1 F2 F3 F4
            go_roundw
            case rel => exact ⟨k + 1, Lk.set i (b, evI e x), vk, m, by omega, by go_num, HL9, hidOf ⟨HJk.out.1.set HI2.out HXJ.out.symm, by rw [HFO.out, ← HJk.out.2.1, HU.out], by have := HJk.out.2.2; rw [List.length_set]; omega⟩, hidOf ⟨HMK2.out.keepT HF9.out (by decide), HMk.out.2.set HLk.out.nd HI2.out HXJ.out.symm⟩, hidOf (by rw [← HPM.out]; exact HM2.out.keepT HF9.out (by decide)), hidOf (HF9.out.cells HQ2.out (by decide)), hidOf (((HFk.out.trans (FrT.of_below HBa.out)).trans (HF2.out.mono (by decide))).trans (HF9.out.mono (by decide)))⟩
            case measure => simp [intOf]; omega
        · have HLK : Hid (∀ W, MpR W mk kI m → (Instr.lookup 59 (.map (some mk)) (.int .i64 e.jb) true).run Try.prog W = .ok (.tuple #[.pointer none, .bool false]) W) := hidOf (fun W hW => by
            have := hW.look kyI Try.underlying59 (Try.zeroValue55 W) e.jb true
            rw [if_pos rfl, hmj] at this
            exact this)
          have HNO := hidOf hno
          clear hno hmj hst
          obtain ⟨av, cv, hvk, hlm⟩ := HLk.out.slice
          subst hvk
          have hlk3 : Lk.length + 1 ≤ 8796093022208 := by have := HJk.out.2.2; omega
          go_wp2_with (first
            | (at_mapUpdate; refine wpList_mapX _ rfl _ _ _ 61 rfl 3 62 kyI Try.underlying61 mp _ rfl HMPa.out e.jb (.agg #[]) rfl rfl ?_; intro w2 hm2 hs2 hz2 hg2; have hf2 : FrT D [9999] (wr.alloc (.cells #[.int .i64 e.jb, .int .i64 e.pr, .int .i64 e.st, .int .i64 e.ix] 42)) w2 := up_frt HMPa.out hs2 hz2 hg2; obtain ⟨e0, e1, e2, e3, _⟩ := box4 (hf2.cells HQ7.out (by decide)); have hmk2 : MpR w2 mk kI m := HMKa.out.keep (hs2 mk hmkp); have hlk := HLK.out w2 hmk2; have hl2 := HLa.out.keepT hf2 (by decide) (by decide) (by decide); have HM2 := hidOf hm2; have HF2 := hidOf hf2; have HL2 := hidOf hl2; have HMK2 := hidOf hmk2; have HQ2 : Hid (w2.heap[q5]? = some (.cells #[.map (some mp)] 61 (0, 0))) := hidOf (hf2.cells HQ5a.out (by decide)); have hq7l : wr.heap.size < w2.heap.size := (by rw [hz2]; simp); clear hm2 hs2 hz2 hg2 hf2 hl2 hmk2; obtain ⟨nb, hnb⟩ : ∃ y, Hid (y = w2.heap.size) := ⟨_, hidOf rfl⟩; have HB3 : Hid (Below w2.heap.size w2 (w2.alloc (.cells #[.int .i64 0, .int .i64 0, .int .i64 0, .int .i64 0, .int .i64 0, .int .i64 0, .bool false, .int .i64 0, .int .i64 0] 65))) := hidOf (below1 _ _); have HN3 : Hid ((w2.alloc (.cells #[.int .i64 0, .int .i64 0, .int .i64 0, .int .i64 0, .int .i64 0, .int .i64 0, .bool false, .int .i64 0, .int .i64 0] 65)).heap[w2.heap.size]? = some (.cells #[.int .i64 0, .int .i64 0, .int .i64 0, .int .i64 0, .int .i64 0, .int .i64 0, .bool false, .int .i64 0, .int .i64 0] 65 (0, 0))) := hidOf (heap_alloc_new _ _); have HMK3 := hidOf (HMK2.out.keep (HB3.out.block mk HMK2.out.lt)); have p0 : ∀ o, (w2.alloc o).cell? ⟨wr.heap.size, 0, none⟩ = some (.int .i64 e.jb) := (fun o => ((below1 w2 o).cell (p := ⟨wr.heap.size, 0, none⟩) hq7l).trans e0))
            | (at_mapUpdate; refine wpList_mapX _ rfl _ _ _ 59 rfl 3 55 kyI Try.underlying59 mk _ rfl HMK3.out e.jb (ptr w2.heap.size) rfl rfl ?_; intro w4 hm4 hs4 hz4 hg4; have hf4 : FrT D [9999] (w2.alloc (.cells #[.int .i64 0, .int .i64 0, .int .i64 0, .int .i64 0, .int .i64 0, .int .i64 0, .bool false, .int .i64 0, .int .i64 0] 65)) w4 := up_frt HMK3.out hs4 hz4 hg4; have hf24 : FrT D [9999] w2 w4 := (FrT.of_below HB3.out).trans hf4; have hl4 := HL2.out.keepT hf24 (by decide) (by decide) (by decide); have d0 : ∀ o, (w4.alloc o).cell? ⟨pB, 0, none⟩ = some (.slice av Lk.length cv) := (fun o => ((below1 w4 o).cell (p := ⟨pB, 0, none⟩) (heap_lt hl4.blk)).trans hl4.cells.1); have d00 := hl4.cells.1; have HM4 := hidOf hm4; have HF4 := hidOf hf4; have HF24 := hidOf hf24; have HL4 := hidOf hl4; have HMP4 : Hid (MpR w4 mp kI (fun j => if j = e.jb then some (.agg #[]) else pmV (es.take k) j)) := hidOf (HM2.out.keep ((hs4 mp hmpk).trans (HB3.out.block mp HM2.out.lt))); clear hm4 hs4 hz4 hg4 hf4 hf24 hl4 p0 hlk)
            | (at_builtin; refine wpList_appP _ rfl _ _ 56 rfl 0 55 i0 (.pointer none) 1 8 Try.underlying56 HI.out HZ0.out HZ1.out HZ2.out rfl (by decide) (.slice av Lk.length cv) Lk.length (ptrs Lk) rfl (HL4.out.grow (below1 w4 (.cells #[.pointer (some ⟨w2.heap.size, 0, none⟩)] 55))).row ⟨w4.heap.size, 0, none⟩ 1 1 [.pointer (some ⟨w2.heap.size, 0, none⟩)] rfl rfl (fun j u hj => cell_news w4 #[.pointer (some ⟨w2.heap.size, 0, none⟩)] 55 j u hj) (by intro u hu; simp at hu; rw [hu]; rfl) (by unfold maxLen; omega) (by omega) (Nat.zero_le _) ?_; intro v6 w6 ho6 hg6 hv6; obtain ⟨hls, hfs, hb6⟩ := Lst.snoc (x := ⟨0, 0, 0, 0, 0, 0, false, 0, 0⟩) (HL4.out.grow (below1 w4 (.cells #[.pointer (some ⟨w2.heap.size, 0, none⟩)] 55))) (nb := w2.heap.size) (ItR.grow (HF4.out.cells HN3.out (by decide)) (below1 w4 _)) (fun z hz e9 => by have h9 := ItR.lt (HL2.out.its z hz); omega) (Nat.le_trans hDw (Nat.le_trans HFk.out.size (Nat.le_of_lt hq7l))) ho6 hg6 hv6; obtain ⟨a6, c6, rfl⟩ := own_slice ho6; have z6 : w6.frozen? ⟨pB, 0, none⟩ = false := (by simp [World.frozen?, hb6]); have z7 : w6.cell? ⟨pB, 0, none⟩ = some (.slice av Lk.length cv) := (by rw [cell_of_row w6 pB 0 _ 58 (0, 0) hb6]; rfl); have hnw := hls.its (w2.heap.size, ⟨0, 0, 0, 0, 0, 0, false, 0, 0⟩) (by simp); obtain ⟨y0, y1, y2, y3, _, _, y6, _, _⟩ := ItR.cells hnw; have zy := ItR.frozen hnw; simp only at y0 y1 y2 y3 y6; have hq9 := (((HF24.out.trans (FrT.of_below (below1 w4 (.cells #[.pointer (some ⟨w2.heap.size, 0, none⟩)] 55)))).mono (T' := TB) (by decide)).trans (hfs.mono (T' := TB) (by decide))).cells (HF2.out.cells HQ7.out (by decide)) (by decide); obtain ⟨g0, g1, g2, g3, _⟩ := box4 hq9; have HLS := hidOf hls; have HFS := hidOf hfs; clear ho6 hg6 hv6 hls hfs hb6 hnw hq9 e0 e1 e2 e3))
          have hI0 : (Lk ++ [(w2.heap.size, (⟨0, 0, 0, 0, 0, 0, false, 0, 0⟩ : Itm))])[Lk.length]? = some (w2.heap.size, ⟨0, 0, 0, 0, 0, 0, false, 0, 0⟩) := by simp
          have L1 := HLS.out.setc hI0 0 (.int .i64 e.jb) (y := ⟨e.jb, 0, 0, 0, 0, 0, false, 0, 0⟩) rfl
          have L2 := L1.setc (get_set hI0) 1 (.int .i64 e.pr) (y := ⟨e.jb, e.pr, 0, 0, 0, 0, false, 0, 0⟩) rfl
          have L3 := L2.setc (get_set (get_set hI0)) 2 (.int .i64 e.st) (y := ⟨e.jb, e.pr, e.st, 0, 0, 0, false, 0, 0⟩) rfl
          have L4 := L3.setc (get_set (get_set (get_set hI0))) 3 (.int .i64 e.ix) (y := newI e) rfl
          have F1 := HLS.out.frt (T := [65]) (by decide) (FrT.refl _ _ _) hI0 0 (.int .i64 e.jb)
          have F2 := L1.frt (by decide) F1 (get_set hI0) 1 (.int .i64 e.pr)
          have F3 := L2.frt (by decide) F2 (get_set (get_set hI0)) 2 (.int .i64 e.st)
          have F4 := L3.frt (by decide) F3 (get_set (get_set (get_set hI0))) 3 (.int .i64 e.ix)
          simp only [set_set] at L4
          have hsn : (Lk ++ [(w2.heap.size, (⟨0, 0, 0, 0, 0, 0, false, 0, 0⟩ : Itm))]).set Lk.length (w2.heap.size, newI e) = Lk ++ [(w2.heap.size, newI e)] := by simp
          rw [hsn] at L4
          have HL9 := hidOf L4
          have HF9 := hidOf F4
          have FZ := hidOf ((FrT.of_below (D := D) (T := TB) (below1 w4 (.cells #[.pointer (some ⟨w2.heap.size, 0, none⟩)] 55))).trans ((HFS.out.mono (T' := TB) (by decide)).trans (F4.mono (T' := TB) (by decide))))
          have FZ2 := hidOf ((FrT.of_below (D := D) (T := [55, 58, 65]) (below1 w4 (.cells #[.pointer (some ⟨w2.heap.size, 0, none⟩)] 55))).trans ((HFS.out.mono (T' := [55, 58, 65]) (by decide)).trans (F4.mono (T' := [55, 58, 65]) (by decide))))
          have HU := hidOf (u1_new HNO.out HST.out w2.heap.size)
          clear L1 L2 L3 L4 F1 F2 F3 F4 hsn hI0
          go_roundw
          case rel => exact ⟨k + 1, Lk ++ [(w2.heap.size, newI e)], _, _, by omega, by go_num, HL9, hidOf ⟨HJk.out.1.snoc HNO.out, by rw [HFO.out, ← HJk.out.2.1, HU.out], by have := HJk.out.2.2; simp; omega⟩, hidOf ⟨HM4.out.keepT FZ2.out (by decide), HMk.out.2.snoc (b := w2.heap.size) (x := newI e) HNO.out⟩, hidOf (by rw [← HPM.out]; exact HMP4.out.keepT FZ2.out (by decide)), hidOf (FZ2.out.cells (HF24.out.cells HQ2.out (by decide)) (by decide)), hidOf ((((HFk.out.trans (FrT.of_below HBa.out)).trans (HF2.out.mono (by decide))).trans (HF24.out.mono (by decide))).trans FZ.out)⟩
          case measure => simp [intOf]; omega
      · have hstb : (e.st == 1) = false := by simp [hst]
        have HU := hidOf (u1_no (R := (es.take k).foldl u1 (L.map (·.2))) hst)
        have HPM : Hid (pmV (es.take (k + 1)) = pmV (es.take k)) := hidOf (by rw [HTK.out]; exact pmV_no hst)
        clear hst
        go_wp2
        go_roundw
        case rel => exact ⟨k + 1, Lk, vk, m, by omega, by go_num, HLa, hidOf ⟨HJk.out.1, by rw [HFO.out, HU.out]; exact HJk.out.2.1, by have := HJk.out.2.2; omega⟩, hidOf ⟨HMKa.out, HMk.out.2⟩, hidOf (by rw [HPM.out]; exact HMPa.out), HQ5a, hidOf (HFk.out.trans (FrT.of_below HBa.out))⟩
        case measure => simp [intOf]; omega
    · obtain rfl : k = es.length := by omega
      have hltz : ¬ (es.length : Int) < (es.length : Int) := by omega
      have hJl := HJk.out.2.2
      have hpl := heap_lt HLk.out.blk
      have HQL := heap_lt HQ5k.out
      obtain ⟨av, cv, hvk, hlm⟩ := HLk.out.slice
      subst hvk
      have d0 := HLk.out.cells.1
      have hpe : es.take es.length = es := List.take_length
      rw [hpe] at HJk HMPk
      have HD := hidOf (del26_any q5 (.slice av Lk.length cv) Lk (fun y => !pend es y.2.jb && !y.2.tk) wr HLk.out.row (fun W2 y h2 hy => by
        have hf : FrT D [55] wr W2 := by
          rcases HLk.out.row.2 with ⟨e2, _⟩ | ⟨g, cap, cur, e2, _, h4, _⟩
          · rw [e2] at h2
            exact ⟨h2.os, h2.tape, h2.output, h2.size, fun k o hk _ => (h2.block k (heap_lt hk) (by simp [Value.ownBlock])).trans hk⟩
          · have hg := HLk.out.lr g (by rw [e2]; rfl)
            rw [e2] at h2
            exact FrT.of_one h4 (by decide) hg h2.os h2.tape h2.output h2.size (fun k hk hne => h2.block k hk (fun e => hne (Option.some.inj e)))
        have hq2 := hf.cells HQ5k.out (by decide)
        exact clo26_any q5 mp y.1 y.2 es W2 (hf.item (HLk.out.its y hy) (by decide)) (by rw [cell_of_row W2 q5 0 _ 61 (0, 0) hq2]; rfl) (HMPk.out.keepT hf (by decide))))
      have HFE : Hid (Lk.filter (fun x => !(fun y : Nat × Itm => !pend es y.2.jb && !y.2.tk) x) = Lk.filter (fun x => pend es x.2.jb || x.2.tk)) := hidOf (by apply List.filter_congr; intro y _; simp)
      go_wp2_with (first | (go_at_call 25; (refine HD.out.mono ?_; rintro e w3 ⟨v', rfl, h31, h32, h33⟩; rw [HFE.out] at h31; obtain ⟨hl3, hf3, hb3⟩ := Lst.cut HLk.out h31 h32 h33; obtain ⟨a', cap', hv'⟩ := own_slice h31; subst hv'; have z3 : w3.frozen? ⟨pB, 0, none⟩ = false := (by simp [World.frozen?, hb3]); have d3 : w3.cell? ⟨pB, 0, none⟩ = some (.slice av Lk.length cv) := (by rw [cell_of_row w3 pB 0 _ 58 (0, 0) hb3]; rfl); have HL3 := hidOf hl3; have HF3 := hidOf hf3; have HLU := hidOf (lineUp_any pB pH _ _ _ hl3 (Nat.lt_of_le_of_lt (List.length_filter_le _ _) (by omega))); clear h31 h32 h33 hl3 hf3 hb3)) | (go_at_call 27; (refine HLU.out.mono ?_; rintro e w5 ⟨rfl, h51, h52⟩; have HR := hidOf (And.intro h51 h52); clear h51 h52)))
      go_end0
      have e9 : (Lk.filter (fun y => pend es y.2.jb || y.2.tk)).map (·.2) = upM (L.map (·.2)) es := by
        unfold upM
        rw [← HJk.out.2.1, List.filter_map]
        rfl
      exact ⟨rfl, _, HR.out.1, e9, List.Nodup.sublist (List.Sublist.map _ List.filter_sublist) HJk.out.1, Nat.le_trans (List.length_filter_le _ _) hJl, (HFk.out.trans (HF3.out.mono (by decide))).trans (HR.out.2.mono (by decide))⟩

end Go.Proofs.Ytndomlbjdppckaa
