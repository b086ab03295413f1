/- The walk of NetAll: whatever messages and picks, it returns true and changes nothing that was there. -/
import Derived.Test.YtcdoejdbmllnnabNmrg
import Derived.Deep.RegionHeld3
namespace Go.Proofs.Ytcdoejdbmllnnab
open Go.RowKit

theorem sent_more {W w' : World} {g : Nat → Vl F_msg} {v' : Value} {is : List Nat} {k : Nat} {ess : List (List Value)} {csl : List Value} (hel : ess.length = is.length) (hes : ∀ j (h1 : j < ess.length) (h2 : j < is.length), Rep W (fun b => b < W.heap.size) F_msg ess[j] (g is[j]))
    (hr : Rep W (fun b => b < W.heap.size) F_msg csl (g k)) (ho : w'.ownsRow W.heap.size 48 46 v' (is.length + 1) (ess.flatten ++ csl)) : SentR W w' g v' (is ++ [k]) := by
  refine ⟨ess ++ [csl], by simp [hel], fun j h1 h2 => ?_, ?_⟩
  · by_cases hj : j < ess.length
    · rw [List.getElem_append_left hj, List.getElem_append_left (by omega)]
      exact hes j hj (by omega)
    · have he : j = ess.length := by simp at h1; omega
      subst he
      rw [List.getElem_append_right (by omega), List.getElem_append_right (by omega)]
      simpa [hel] using hr
  · rw [List.flatten_append, List.length_append]
    simpa using ho
theorem zr_cells : (Value.agg Zr_msg).cells.size = 46 := by kernel_rfl
theorem range_map (is : List Nat) (f : Nat → List UInt8) : (List.range is.length).map (fun j => f (is.getD j 0)) = is.map f := by
  apply List.ext_getElem
  · simp
  · intro j h1 h2
    simp at h1 h2
    simp [h1]

theorem mk_taken (n : Nat) (h : n ≤ 100) (w : World) : (Instr.makeSlice 51 (.int .i64 (n : Int)) (.int .i64 (n : Int))).run Try.prog w = .ok (.slice (some ⟨w.heap.size, 0, none⟩) n n) (w.alloc (.cells (tkA n (List.range n)) 4)) := by
  obtain ⟨i0, hi, hz0, hz1, hz2⟩ := info_parts (show (Try.prog.info? 4).map (fun i => (i.zero, i.size, i.bytes)) = some (some (.bool false), 1, 1) from by kernel_rfl)
  rw [run_makeSlice w 51 4 i0 (.bool false) (by kernel_rfl) hi hz0 .i64 .i64 n n (by omega) (by omega) (by rw [hz1]; omega) (by rw [hz2]; omega) (by omega), hz1]
  have : madeCells (Value.bool false).cells (((n : Nat) : Int).toNat * 1) = tkA n (List.range n) := by
    rw [tk_new]
    apply Array.ext_getElem?
    intro j
    by_cases hj : j < n
    · simp [madeCells, Value.cells, hj, Nat.mod_one]
    · rw [Array.getElem?_eq_none (by simp [madeCells]; omega), Array.getElem?_eq_none (by simp; omega)]
  rw [this]
  simp
theorem len_is (p : Nat) (L : List (List UInt8)) (r : Option Nat) (m : Nat) (w : World) (h : NetR w p 256 L r) (hm : L.length = m) : Calls Try.prog 9 #[.pointer (some ⟨p, 0, none⟩)] w fun e w' => e = .returned (.int .i64 (m : Int)) ∧ w' = w := by
  subst hm
  exact len_any p 256 L r w h
theorem wrap_i (n : Int) (h0 : -9223372036854775808 ≤ n) (h1 : n < 9223372036854775808) : IntKind.i64.wrap n = n := by
  unfold IntKind.wrap
  simp [IntKind.bits, IntKind.signed]
  omega
def atV (jj q : Nat) : Int := if jj < q then (jj : Int) else -1
theorem at_same (jj : Nat) : (jj : Int) = atV jj (jj + 1) := by unfold atV; rw [if_pos (by omega)]
theorem at_next (jj q : Nat) (h : q ≠ jj) : atV jj q = atV jj (q + 1) := by
  unfold atV
  by_cases h1 : jj < q
  · rw [if_pos h1, if_pos (by omega)]
  · rw [if_neg h1, if_neg (by omega)]
theorem at_end (jj n : Nat) (h : jj < n) : atV jj n = (jj : Int) := by unfold atV; rw [if_pos h]
theorem pick_in (x : Int) (n : Nat) (hn : 0 < n) : -(n : Int) < x.tmod n ∧ x.tmod n < n :=
  ⟨Int.lt_tmod_of_pos x (show (0 : Int) < n by omega), Int.tmod_lt_of_pos x (show (0 : Int) < n by omega)⟩
theorem inj_is {is : List Nat} (h : is.Pairwise (· < ·)) {q j nq nj : Nat} (hq : is[q]? = some nq) (hj : is[j]? = some nj) (hne : q ≠ j) : ¬ ((nq : Int) = (nj : Int)) := by
  obtain ⟨hq1, rfl⟩ := List.getElem?_eq_some_iff.1 hq
  obtain ⟨hj1, rfl⟩ := List.getElem?_eq_some_iff.1 hj
  have hp := List.pairwise_iff_getElem.1 h
  rcases Nat.lt_or_gt_of_ne hne with h1 | h1
  · have := hp q j hq1 hj1 h1; omega
  · have := hp j q hj1 hq1 h1; omega

set_option maxHeartbeats 8000000 in
set_option maxRecDepth 100000 in
theorem lawAllX (W : World) (a : Option Addr) (cap : Nat) (vs : List (Vl F_msg)) (hR : RepL W (fun b => b < W.heap.size) F_msg a vs) (a2 : Option Addr) (cap2 : Nat) (ls : List Int) (hS : RepL W (fun b => b < W.heap.size) .num a2 ls) :
    Calls Try.prog 3 #[.slice a vs.length cap, .slice a2 ls.length cap2] W fun e w' => e = .returned (.bool true) ∧ Below W.heap.size W w' := by
  have hvl := hR.1
  have hll := hS.1
  obtain ⟨i0, hi0, hz0, hz1, hz2⟩ := info_parts info48'
  have HI := hidOf hi0
  have HZ0 := hidOf hz0
  have HZ1 := hidOf hz1
  have HZ2 := hidOf hz2
  have HZS := hidOf zr_cells
  have HR := hidOf hR
  have HS := hidOf hS
  have hB1 : Below W.heap.size W (W.alloc (.cells #[.int .i64 256, .slice none 0 0] 60)) := (Below.refl _ _).alloc (Nat.le_refl _) _
  have HB1 := hidOf hB1
  have HN1 := hidOf (netR_new W 256 (by omega))
  clear hR hS hB1 hi0 hz0 hz1 hz2
  go_enter Try.func3, Try.ntmps3
  go_wp2_with fail
  refine (new_ok 256 W (by omega) (by omega)).mono ?_
  rintro e w1 ⟨rfl, rfl⟩
  go_wp2_with fail
  refine (known_any _).mono ?_
  rintro e w2 ⟨rfl, hb⟩
  have HG : Hid (NetG W w2 W.heap.size 256 (gAt vs) []) := ⟨HB1.out.trans (hb.mono HB1.out.size), Nat.le_refl _, none, (by rw [List.map_nil, cut_all 256 [] (by simp)]; exact HN1.out.grow hb), fun q hq => by cases hq⟩
  clear hb
  go_wp2_with fail
  go_loopw [6, 7] (fun v i wr => ∃ k : Nat, ∃ is : List Nat, k ≤ 100 ∧ k ≤ vs.length ∧ i = .int .i64 (k : Int) ∧ Hid (SentR W wr (gAt vs) v is) ∧ Hid (OkG (gAt vs) k is) ∧ Hid (NetG W wr W.heap.size 256 (gAt vs) is)) (fun _ i _ => 100 - (intOf i).toNat)
  case atStart => exact ⟨0, [], Nat.zero_le _, Nat.zero_le _, rfl, ⟨[], rfl, fun j h1 => by simp at h1, rfl, .inl ⟨rfl, rfl⟩⟩, ⟨Nat.le_refl _, fun i hi => (by cases hi), List.Pairwise.nil⟩, HG⟩
  case round =>
    obtain ⟨k, is, hk4, hkl, rfl, HSR, HOK, HNG⟩ := hrel
    by_cases hlt : k < vs.length
    · by_cases h100 : k < 100
      · obtain ⟨b, off, rfl, hbW, hat⟩ := HR.out.2 (fun e => by rw [e] at hlt; simp at hlt)
        obtain ⟨es, hrep, hrg⟩ := hat k hlt
        rw [show wd F_msg = 46 from by kernel_rfl] at hrg
        have hB := HNG.out.1
        have HRG := hidOf (rangeAt_kept hrg (hB.block b hbW))
        have hes : es.length = 46 := by rw [hrep.len]; kernel_rfl
        have HEI : Hid ((Try.prog.info? 48).map (·.size) = some es.length) := by show _ = _; rw [hes]; kernel_rfl
        have HEI2 : Hid ((Try.prog.info? 48).map (·.size) = some es.toArray.size) := by show _ = _; rw [List.size_toArray, hes]; kernel_rfl
        have HES : Hid (Zr_msg.size = es.toArray.size) := zr_size es hes
        have HEO : Hid (es.toArray.all (·.oneCell') = true) := hrep.all
        have HREP := hidOf hrep
        have HES0 := hidOf hes
        have hB2' := hidOf hB
        clear hrg hrep hat hbW hB hes
        go_wp2_with (first
          | (refine wpList_load_mid rfl 48 (.tmp 36) rfl b (off + k * 46) rfl es _ HRG.out Try.underlying48 rfl HEI.out ?_)
          | (refine wpList_store_rowF rfl 48 (.tmp 8) (.tmp 37) rfl wr.heap.size es.toArray rfl rfl 48 Zr_msg (heap_alloc_new wr (.cells Zr_msg 48)) HEI2.out HES.out HEO.out ?next))
        case next =>
          intro w3 hw3h
          have hw3 := hw3h.out
          have hB3 : Below wr.heap.size wr w3 := by rw [hw3]; exact ((Below.refl _ _).alloc (Nat.le_refl _) _).trans ⟨rfl, rfl, rfl, by simp [World.setRow], fun k hk => setRow_other _ _ _ _ (by omega)⟩
          have g3 : w3.heap[wr.heap.size]? = some (.cells es.toArray 48 (0, 0)) := by rw [hw3]; exact setRow_heap _ _ _ _ 48 _ (heap_alloc_new wr _)
          obtain ⟨c8, hc8⟩ : ∃ c, w3.cell? ⟨wr.heap.size, 8, none⟩ = some c := ⟨es[8]'(by rw [HES0.out]; omega), by rw [cell_of_row w3 _ 8 _ 48 (0, 0) g3, List.getElem?_toArray, List.getElem?_eq_getElem]⟩
          have f8 : w3.frozen? ⟨wr.heap.size, 8, none⟩ = false := by simp [World.frozen?, g3]
          have hp8 : wr.heap.size < w3.heap.size := (Array.getElem?_eq_some_iff.1 g3).1
          have G4 : Hid ((w3.setCell ⟨wr.heap.size, 8, none⟩ (.int .i64 (k : Int))).heap[wr.heap.size]? = some (.cells (es.set 8 (.int .i64 (k : Int))).toArray 48 (0, 0))) := by
            show _ = _
            rw [heap_setCell_same w3 _ 8 _ 48 _ g3, List.setIfInBounds_toArray]
          have HB4 : Hid (Below wr.heap.size wr (w3.setCell ⟨wr.heap.size, 8, none⟩ (.int .i64 (k : Int)))) := hB3.trans ⟨rfl, rfl, rfl, by simp, fun j hj => Below.heap_setCell _ _ _ _ (by simp; omega)⟩
          have HREP4 := hidOf (rep_gAt hlt HREP.out (hB2'.out.trans (HB4.out.mono hB2'.out.size)))
          have HI4 : Hid ((Try.prog.info? 48).map (·.size) = some (es.set 8 (.int .i64 (k : Int))).toArray.size) := by
            show _ = _
            rw [show (es.set 8 (.int .i64 (k : Int))).toArray.size = 46 from by simpa using HES0.out]; kernel_rfl
          obtain ⟨_, hpW, r, hn, hr⟩ := HNG.out
          have HN4 := hidOf (hn.grow HB4.out)
          have HRR := hidOf hr
          have HSR4 := hidOf (HSR.out.to (fun q _ _ hq => HB4.out.block q (Array.getElem?_eq_some_iff.1 hq).1))
          have HREPW := hidOf (rep_gAt hlt HREP.out (Below.refl _ _))
          clear hw3h hw3 g3 hB3 HREP HRG HEI HEI2 HES HEO hn hr
          cases hen : (en F_msg (gAt vs k)).2 with
          | true =>
            have HEN := hidOf hen
            clear hen
            go_wp2_with (refine wpList_load_row rfl 48 (.tmp 8) rfl wr.heap.size rfl 48 (es.set 8 (.int .i64 (k : Int))).toArray (0, 0) _ G4.out Try.underlying48 rfl HI4.out ?_)
            refine (send_no W.heap.size 256 _ r _ (gAt vs k) _ HN4.out HREP4.out HEN.out).mono ?_
            rintro e w5 ⟨rfl, hn5, hB5⟩
            have HNG5 := hidOf (HNG.out.below (HB4.out.trans (hB5.mono HB4.out.size)))
            have HSR5 := hidOf (HSR4.out.to (fun q _ _ hq => hB5.block q (Array.getElem?_eq_some_iff.1 hq).1))
            clear hn5 hB5
            go_wp2
            exact ⟨⟨k + 1, is, by omega, by omega, by go_num, HSR5, HOK.out.next, HNG5⟩, by simp [intOf]; omega⟩
          | false =>
            have HEN := hidOf hen
            clear hen
            go_wp2_with (refine wpList_load_row rfl 48 (.tmp 8) rfl wr.heap.size rfl 48 (es.set 8 (.int .i64 (k : Int))).toArray (0, 0) _ G4.out Try.underlying48 rfl HI4.out ?_)
            refine (send_ok W.heap.size 256 _ r _ (gAt vs k) _ HN4.out (cut_le _ _) HREP4.out HEN.out).mono ?_
            rintro e w5 ⟨rfl, r5, hn5, hs5⟩
            have HNG5 := hidOf (netG_sent (hB2'.out.trans (HB4.out.mono hB2'.out.size)) hpW HRR.out hn5 hs5)
            have hap := HN4.out.apart G4.out (by decide) (by decide)
            have G5 := hidOf ((hs5.block _ (Array.getElem?_eq_some_iff.1 G4.out).1 hap.1 hap.2).trans G4.out)
            have HSR5 := hidOf (HSR4.out.to (fun q _ _ hq => hs5.block q (Array.getElem?_eq_some_iff.1 hq).1 (HN4.out.apart hq (by decide) (by decide)).1 (HN4.out.apart hq (by decide) (by decide)).2))
            obtain ⟨ess, hel, hes, ok5⟩ := HSR5.out
            have HEL := hidOf hel
            have HESS := hidOf hes
            have HOK5 := hidOf ok5
            have hil := HOK.out.1
            have HSZ : Hid ((es.set 8 (.int .i64 (k : Int))).toArray.size = 46) := by show _ = _; simpa using HES0.out
            have O1 : Hid (∀ u ∈ ((es.set 8 (.int .i64 (k : Int))).toArray : Array Value).toList, u.oneCell' = true) := HREP4.out.one
            have HNL : Hid (((es.set 8 (.int .i64 (k : Int))).toArray : Array Value).toList.length = 1 * 46) := by show _ = _; simpa using HES0.out
            clear hn5 hs5 HN4 HB4 G4 ok5 hel hes hap
            go_wp2_with (first
              | (refine wpList_load_row rfl 48 (.tmp 8) rfl wr.heap.size rfl 48 (es.set 8 (.int .i64 (k : Int))).toArray (0, 0) _ G5.out Try.underlying48 rfl HI4.out ?_)
              | (refine wpList_build48 rfl (.tmp 45) rfl (es.set 8 (.int .i64 (k : Int))).toArray rfl HSZ.out ?_)
              | (at_builtin; refine wpList_append_own2 _ rfl (.tmp 44) (.tmp 46) 22 rfl W.heap.size 48 i0 (.agg Zr_msg) 46 536 Try.underlying22 HI.out HZ0.out HZ1.out HZ2.out HZS.out (by decide) _ _ _ rfl (HOK5.out.alloc _) ⟨w5.heap.size, 0, none⟩ 1 1 ((es.set 8 (.int .i64 (k : Int))).toArray : Array Value).toList rfl HNL.out (fun j u hj => cell_news w5 _ _ j u hj) O1.out ?c3 ?c4 ?c5 ?next2))
            case c3 => unfold maxLen; omega
            case c4 => omega
            case c5 => have := HNG5.out.1.size; rw [World.size_alloc]; omega
            case next2 =>
              intro v6 w6 ho6 hg6 hw6
              have HNG6 := hidOf ((HNG5.out.below ((Below.refl _ _).alloc (Nat.le_refl _) _)).grown (HOK5.out.alloc _) hg6 (by decide) (by decide) (by decide))
              have HSR6 := hidOf (sent_more HEL.out HESS.out HREPW.out ho6)
              have HOK6 := hidOf (HOK.out.more HEN.out)
              clear ho6 hg6 hw6 HNG5 HOK5 HSR5
              go_wp2
              exact ⟨⟨k + 1, is ++ [k], by omega, by omega, by go_num, HSR6, HOK6, HNG6⟩, by simp [intOf]; omega⟩
      · -- a hundred
        obtain ⟨_, hpW, r, hn, hr⟩ := HNG.out
        have hil := HOK.out.1
        rw [cut_all 256 _ (by rw [List.length_map]; omega)] at hn
        have HN := hidOf hn
        have HRR := hidOf hr
        obtain ⟨a1, c1, hv, hc1, hc2⟩ := HSR.out.form
        subst hv
        obtain ⟨n, hn0⟩ : ∃ n, Hid (is.length = n) := ⟨_, hidOf rfl⟩
        have HL : Hid ((is.map (pkG (gAt vs))).length = n) := by show _ = _; rw [List.length_map, hn0.out]
        rw [hn0.out] at hc1 hil ⊢
        have hmk := mk_taken n (by omega)
        clear hn hr
        go_wp2_with fail
        refine (len_any W.heap.size 256 _ r wr HN.out).mono ?_
        rintro e w5 ⟨rfl, hw⟩
        subst hw
        rw [HL.out]
        have HAI := hidOf (show AI W (w5.alloc (.cells (tkA n (List.range n)) 4)) W.heap.size r (gAt vs) is (List.range n) (List.range n) w5.heap.size (.slice a1 n c1) from by
          have hb5 : Below w5.heap.size w5 (w5.alloc (.cells (tkA n (List.range n)) 4)) := (Below.refl _ _).alloc (Nat.le_refl _) _
          refine ⟨HNG.out.1.trans (hb5.mono HNG.out.1.size), ?_, ?_, ?_, HNG.out.1.size, Nat.le_refl _, HRR.out⟩
          · rw [← hn0.out, range_map is (pkG (gAt vs))]; rw [hn0.out]; exact HN.out.grow hb5
          · have := HSR.out.to (w' := w5.alloc (.cells (tkA n (List.range n)) 4)) (fun q _ _ hq => hb5.block q (Array.getElem?_eq_some_iff.1 hq).1)
            rw [hn0.out] at this; exact this
          · rw [hn0.out]; exact heap_alloc_new w5 _)
        clear HSR HNG HN
        go_wp2_with fail
        go_loopw [10] (fun i wq => ∃ q : Nat, ∃ js : List Nat, i = .int .i64 (q : Int) ∧ Hid (q + js.length = n) ∧ Hid (js.Nodup) ∧ Hid (∀ j ∈ js, j < n) ∧ Hid (AI W wq W.heap.size r (gAt vs) is js js w5.heap.size (.slice a1 n c1))) (fun i _ => n - (intOf i).toNat)
        case atStart => exact ⟨0, List.range n, by go_num, by show _ = _; simp, List.nodup_range, by intro j hj; simpa using hj, HAI⟩
        case round =>
          obtain ⟨q, js, rfl, HQN, HND, HLT, HA⟩ := hrel
          obtain ⟨m, HM⟩ : ∃ m, Hid (js.length = m) := ⟨_, hidOf rfl⟩
          have hqm1 : q + m ≤ n := by have := HQN.out; have := HM.out; omega
          have hqm2 : n ≤ q + m := by have := HQN.out; have := HM.out; omega
          have HLJ : Hid ((js.map fun j => pkG (gAt vs) (is.getD j 0)).length = m) := by show _ = _; rw [List.length_map, HM.out]
          clear HQN
          by_cases hpos : 0 < m
          · by_cases hpk : q < ls.length
            · obtain ⟨b2, off2, rfl, hb2, hat2⟩ := HS.out.2 (fun e => by rw [e] at hpk; simp at hpk)
              -- PICKS
              obtain ⟨es2, hrep2, hrg2⟩ := hat2 q hpk
              obtain rfl : es2 = [.int .i64 ls[q]] := hrep2
              have hcx := rangeAt_kept hrg2 (HA.out.below.block b2 hb2) 0 _ rfl
              rw [show wd .num = 1 from rfl, Nat.mul_one, Nat.add_zero] at hcx
              obtain ⟨x, hx⟩ : ∃ x : Int, Hid (ls[q] = x) := ⟨ls[q], hidOf rfl⟩
              rw [hx.out] at hcx
              have hp1 := (pick_in x m hpos).1
              have hp2 := (pick_in x m hpos).2
              obtain ⟨tm, htm⟩ : ∃ tm, x.tmod (m : Int) = tm := ⟨_, rfl⟩
              rw [htm] at hp1 hp2
              have hmz : ¬ (m = 0) := by omega
              have hwr : IntKind.i64.wrap tm = tm := wrap_i tm (by omega) (by omega)
              clear hat2 hrg2 hb2
              by_cases hneg : tm < 0
              · obtain ⟨κ, hκ⟩ : ∃ κ : Nat, tm + (m : Int) = (κ : Int) := ⟨(tm + m).toNat, by omega⟩
                have hκm : κ < m := by omega
                go_wp2_with fail
                refine (len_is W.heap.size _ r m _ HA.out.net HLJ.out).mono ?_
                rintro e w6 ⟨rfl, hw⟩
                subst hw
                have HAD := hidOf (HA.out.to ((Below.refl _ _).drew))
                go_wp2
                go_region_held3 (fun w' => w'.cell? ⟨b2, off2 + q, none⟩ = some (.int .i64 x)) (go_keep) (first | (go_at_call 9; refine (len_is W.heap.size _ r m _ HAD.out.net HLJ.out).mono ?_; rintro e w' ⟨rfl, rfl⟩))
                clear hwr hmz
                go_wp2_with fail
                refine (len_is W.heap.size _ r m _ HAD.out.net HLJ.out).mono ?_
                rintro e w6 ⟨rfl, hw⟩
                subst hw
                have HAE := HAD
                obtain ⟨jj, hjj⟩ : ∃ jj, js[κ]? = some jj := ⟨_, List.getElem?_eq_getElem (by rw [HM.out]; exact hκm)⟩
                have hjn : jj < n := HLT.out jj (List.mem_of_getElem? hjj)
                obtain ⟨nj, hnj⟩ : ∃ nj, is[jj]? = some nj := ⟨_, List.getElem?_eq_getElem (by rw [hn0.out]; exact hjn)⟩
                have HNJ := hidOf hnj
                have HJJ := hidOf hjj
                have HOKN := hidOf (HOK.out.2.1 nj (List.mem_of_getElem? hnj)).2
                obtain ⟨bS, cS, esJ, hvS, _, _, hrepJ, hrgJ0⟩ := HAE.out.sent.at jj nj hnj
                have ha1 : a1 = some ⟨bS, 0, none⟩ := by injection hvS
                subst ha1
                clear hrgJ0 hvS
                have HREPJ := hidOf hrepJ
                clear hrepJ
                obtain ⟨lj, hlj⟩ : ∃ lj, pkG (gAt vs) nj = lj := ⟨_, rfl⟩
                have HDE0 := de_pk (gAt vs) nj HOKN.out
                have HGET0 : (js.map fun j => pkG (gAt vs) (is.getD j 0))[κ]? = some (pkG (gAt vs) nj) := by rw [List.getElem?_map, hjj]; show some (pkG (gAt vs) (is.getD jj 0)) = _; rw [List.getD_eq_getElem?_getD, hnj]; rfl
                rw [hlj] at HDE0 HGET0
                have HDE := hidOf HDE0
                have HGET := hidOf HGET0
                clear HDE0 HGET0 hnj hlj hjj
                go_wp2_with fail
                refine (deliver_ok W.heap.size 256 _ r κ lj _ HAE.out.net HGET.out).mono ?_
                rintro e w7 ⟨cl, vv, he, hrep, hval, hn7, hs7⟩
                have hv : vv = gAt vs nj := (hval HDE.out.1).trans HDE.out.2
                subst hv
                rw [show (js.map fun j => pkG (gAt vs) (is.getD j 0)).take κ ++ (js.map fun j => pkG (gAt vs) (is.getD j 0)).drop (κ + 1) = (js.take κ ++ js.drop (κ + 1)).map fun j => pkG (gAt vs) (is.getD j 0) from by rw [List.map_append, List.map_take, List.map_drop]] at hn7
                have hcs : cl.toArray.size = Zr_msg.size := by rw [List.size_toArray, hrep.len]; kernel_rfl
                have hco : cl.toArray.all (·.oneCell') = true := hrep.all
                have hcl46 : cl.length = 46 := by rw [hrep.len]; kernel_rfl
                have hctx : cl.toArray[8]? = some (.int .i64 (nj : Int)) := by rw [List.getElem?_toArray, (ctx_cells hrep).2.1, ctx_gAt]
                rw [show decide ((de F_msg (some lj)).2 = some []) = true from by simp [HDE.out.1]] at he
                subst he
                have HA7 := hidOf (HAE.out.step hs7 hn7)
                have HREP7 : Hid (Rep w7 (fun b => b < w7.heap.size) F_msg cl (gAt vs nj)) := hrep.kept (Nat.le_refl _) (fun _ _ => rfl) (fun b hb => hb.2.1)
                have HCS := hidOf hcs
                have HCO := hidOf hco
                have HCTX := hidOf hctx
                have HC46 := hidOf hcl46
                have HCI : Hid ((Try.prog.info? 48).map (·.size) = some cl.toArray.size) := by show _ = _; rw [hcs]; exact Zr_msg_i
                clear hn7 hs7 hrep hval hcs hco hctx hcl46 HA HAE HGET
                go_wp2_with (refine wpList_store_rowF rfl 48 (.tmp 12) (.tmp 82) rfl w7.heap.size cl.toArray rfl rfl 48 Zr_msg (heap_alloc_new w7 (.cells Zr_msg 48)) HCI.out HCS.out.symm HCO.out ?next)
                case next =>
                  intro w8 hw8h
                  have hw8 := hw8h.out
                  have hB8 : Below w7.heap.size w7 w8 := by rw [hw8]; exact ((Below.refl _ _).alloc (Nat.le_refl _) _).trans ⟨rfl, rfl, rfl, by simp [World.setRow], fun k hk => setRow_other _ _ _ _ (by omega)⟩
                  have G8 := hidOf (show w8.heap[w7.heap.size]? = some (.cells cl.toArray 48 (0, 0)) by rw [hw8]; exact setRow_heap _ _ _ _ 48 _ (heap_alloc_new w7 _))
                  have HA8 := hidOf (HA7.out.to hB8)
                  have HREP8 : Hid (Rep w8 (fun b => b < w8.heap.size) F_msg cl (gAt vs nj)) := HREP7.out.kept hB8.size (fun b x => hB8.block b x) (fun b x => Nat.lt_of_lt_of_le x hB8.size)
                  clear hw8 hw8h hB8 HA7 HREP7
                  go_wp2_with fail
                  go_loopw [14, 15] (fun at_ j wq => ∃ q2 : Nat, q2 ≤ n ∧ at_ = .int .i64 (atV jj q2) ∧ j = .int .i64 (q2 : Int) ∧ Hid (Below w8.heap.size w8 wq)) (fun _ j _ => n - (intOf j).toNat)
                  case atStart => exact ⟨0, Nat.zero_le _, by simp [atV], by go_num, Below.refl _ _⟩
                  case round =>
                    obtain ⟨q2, hq2, rfl, rfl, HB9⟩ := hrel
                    by_cases hlt2 : q2 < n
                    · obtain ⟨n2, hn2⟩ : ∃ n2, is[q2]? = some n2 := ⟨_, List.getElem?_eq_getElem (by rw [hn0.out]; exact hlt2)⟩
                      obtain ⟨bT, cT, esT, hvT, _, _, hrT, hrgT⟩ := (HA8.out.to HB9.out).sent.at q2 n2 hn2
                      have hbT : bT = bS := by injection hvT with h1; injection h1 with h2; injection h2 with h3; exact h3.symm
                      subst hbT
                      have c8s := hrgT 8 _ (ctx_cells hrT).2.1
                      rw [ctx_gAt] at c8s
                      have c8m : wr.cell? ⟨w7.heap.size, 8, none⟩ = some (.int .i64 (nj : Int)) := by
                        rw [cell_of_row wr _ 8 _ 48 (0, 0) ((HB9.out.block _ (Array.getElem?_eq_some_iff.1 G8.out).1).trans G8.out)]; exact HCTX.out
                      have HBD := hidOf (HB9.out.trans ((Below.refl w8.heap.size wr).drew))
                      clear hvT hrT hrgT
                      by_cases hqj : q2 = jj
                      · subst hqj
                        have hnn : n2 = nj := by have := HNJ.out; rw [hn2] at this; exact Option.some.inj this
                        subst hnn
                        clear hn2
                        go_wp2
                        go_region
                        go_wp2
                        exact ⟨⟨q2 + 1, by omega, by rw [at_same], by go_num, HBD⟩, by simp [intOf]; omega⟩
                      · have hne := inj_is HOK.out.2.2 hn2 HNJ.out hqj
                        have HAT := hidOf (at_next jj q2 hqj)
                        clear hn2
                        go_wp2
                        go_region
                        go_wp2
                        exact ⟨⟨q2 + 1, by omega, by rw [HAT.out], by go_num, HBD⟩, by simp [intOf]; omega⟩
                    · have hqe : q2 = n := by omega
                      subst hqe
                      rw [at_end jj q2 hjn]
                      have HAQ := hidOf (HA8.out.to HB9.out)
                      obtain ⟨bT, cT, esT, hvT, _, _, hrT, hrgT⟩ := HAQ.out.sent.at jj nj HNJ.out
                      have hbT : bT = bS := by injection hvT with h1; injection h1 with h2; injection h2 with h3; exact h3.symm
                      subst hbT
                      have htk : wr.cell? ⟨w5.heap.size, jj, none⟩ = some (.bool false) := by
                        rw [cell_of_row wr _ jj _ 4 (0, 0) HAQ.out.taken, hn0.out, tk_get _ _ _ hjn]
                        have := List.mem_of_getElem? HJJ.out
                        simp [this]
                      have hrgM : wr.rangeAt w7.heap.size 0 cl := by
                        intro jx u hu
                        rw [cell_of_row wr _ _ _ 48 (0, 0) ((HB9.out.block _ (Array.getElem?_eq_some_iff.1 G8.out).1).trans G8.out), Nat.zero_add, List.getElem?_toArray]
                        exact hu
                      have hBd : Below wr.heap.size wr wr.drew := (Below.refl _ _).drew
                      have HBd := hidOf hBd
                      have hWd : Below W.heap.size W wr.drew := HAQ.out.below.trans (hBd.mono HAQ.out.below.size)
                      have hesL : esT.length = 46 := by rw [hrT.len]; kernel_rfl
                      have HRA : Hid (Rep wr.drew (fun b => b < wr.drew.heap.size) F_msg esT (gAt vs nj)) := hrT.kept hWd.size (fun b x => hWd.block b x) (fun b x => Nat.lt_of_lt_of_le x hWd.size)
                      have hWm : Below w8.heap.size w8 wr.drew := HB9.out.trans (hBd.mono HB9.out.size)
                      have HRB : Hid (Rep wr.drew (fun b => b < wr.drew.heap.size) F_msg cl (gAt vs nj)) := HREP8.out.kept hWm.size (fun b x => hWm.block b x) (fun b x => Nat.lt_of_lt_of_le x hWm.size)
                      have hi48T : (Try.prog.info? 48).map (·.size) = some esT.length := by rw [hesL]; kernel_rfl
                      have hi48C : (Try.prog.info? 48).map (·.size) = some cl.length := by rw [HC46.out]; kernel_rfl
                      have hctxT := (ctx_cells hrT).2.1
                      have hctxM : cl[8]? = some (.int .i64 (nj : Int)) := by have := HCTX.out; rwa [List.getElem?_toArray] at this
                      have hjnn : ¬ ((jj : Int) < 0) := by omega
                      clear hvT hrT hBd hWd hWm
                      go_wp2
                      refine wp_region_held_drew (S := fun w' => w'.cell? ⟨w5.heap.size, jj, none⟩ = some (.bool false) ∧ w'.rangeAt bT (jj * 46) esT ∧ w'.rangeAt w7.heap.size 0 cl) (by kernel_rfl) ⟨htk, hrgT, hrgM⟩ (fun hHeld => ?_)
                      refine wpAnyH_take (i := 0) (oi := { dst := some 101, op := Op.move (Operand.tmp 14), type := 3, pos := "law.go:113", after := #[], guard := none }) (v := .int .i64 (jj : Int)) rfl (by kernel_rfl) (by kernel_rfl) (by kernel_rfl) (fun _ _ _ h => h) (Or.inl ⟨by rfl, ?_⟩) hHeld ?_
                      · (intro w hSw; (try dsimp only at hSw); go_simp)
                      try simp only [Act.put, List.setIfInBounds_toArray, List.set_cons_zero, List.set_cons_succ]
                      refine wpAnyH_take (i := 1) (oi := { dst := some 102, op := Op.binOp BinOp.lss 3 (Operand.tmp 101) (Operand.const (Value.int IntKind.i64 0)) 3, type := 4, pos := "law.go:113", after := #[{ on := 0, ground := Ground.data }], guard := none }) (v := .bool false) rfl (by kernel_rfl) (by kernel_rfl) (by kernel_rfl) (fun _ _ _ h => h) (Or.inl ⟨by rfl, ?_⟩) hHeld ?_
                      · (intro w hSw; (try dsimp only at hSw); go_simp)
                      try simp only [Act.put, List.setIfInBounds_toArray, List.set_cons_zero, List.set_cons_succ]
                      refine wpAnyH_take (i := 2) (oi := { dst := some 103, op := Op.move (Operand.tmp 102), type := 4, pos := "law.go:113", after := #[{ on := 1, ground := Ground.data }], guard := none }) (v := .bool false) rfl (by kernel_rfl) (by kernel_rfl) (by kernel_rfl) (fun _ _ _ h => h) (Or.inl ⟨by rfl, ?_⟩) hHeld ?_
                      · (intro w hSw; (try dsimp only at hSw); go_simp)
                      try simp only [Act.put, List.setIfInBounds_toArray, List.set_cons_zero, List.set_cons_succ]
                      refine wpAnyH_take (i := 3) (oi := { dst := some 104, op := Op.move (Operand.tmp 9), type := 51, pos := "law.go:113", after := #[{ on := 2, ground := Ground.guard }], guard := some (2, false) }) (v := .slice (some ⟨w5.heap.size, 0, none⟩) q2 q2) rfl (by kernel_rfl) (by kernel_rfl) (by kernel_rfl) (fun _ _ _ h => h) (Or.inl ⟨by rfl, ?_⟩) hHeld ?_
                      · (intro w hSw; (try dsimp only at hSw); go_simp)
                      try simp only [Act.put, List.setIfInBounds_toArray, List.set_cons_zero, List.set_cons_succ]
                      refine wpAnyH_take (i := 4) (oi := { dst := some 105, op := Op.move (Operand.tmp 14), type := 3, pos := "law.go:113", after := #[{ on := 2, ground := Ground.guard }], guard := some (2, false) }) (v := .int .i64 (jj : Int)) rfl (by kernel_rfl) (by kernel_rfl) (by kernel_rfl) (fun _ _ _ h => h) (Or.inl ⟨by rfl, ?_⟩) hHeld ?_
                      · (intro w hSw; (try dsimp only at hSw); go_simp)
                      try simp only [Act.put, List.setIfInBounds_toArray, List.set_cons_zero, List.set_cons_succ]
                      refine wpAnyH_take (i := 5) (oi := { dst := some 106, op := Op.indexAddr 51 (Operand.tmp 104) (Operand.tmp 105), type := 0, pos := "law.go:113", after := #[{ on := 3, ground := Ground.data }, { on := 4, ground := Ground.data }, { on := 2, ground := Ground.guard }], guard := some (2, false) }) (v := .pointer (some ⟨w5.heap.size, jj, none⟩)) rfl (by kernel_rfl) (by kernel_rfl) (by kernel_rfl) (fun _ _ _ h => h) (Or.inl ⟨by rfl, ?_⟩) hHeld ?_
                      · (intro w hSw; (try dsimp only at hSw); go_simp)
                      try simp only [Act.put, List.setIfInBounds_toArray, List.set_cons_zero, List.set_cons_succ]
                      refine wpAnyH_take (i := 6) (oi := { dst := some 107, op := Op.load 4 (Operand.tmp 106), type := 4, pos := "law.go:113", after := #[{ on := 5, ground := Ground.data }, { on := 2, ground := Ground.guard }], guard := some (2, false) }) (v := .bool false) rfl (by kernel_rfl) (by kernel_rfl) (by kernel_rfl) (fun _ _ _ h => h) (Or.inl ⟨by rfl, ?_⟩) hHeld ?_
                      · (intro w hSw; (try dsimp only at hSw); go_simp)
                      try simp only [Act.put, List.setIfInBounds_toArray, List.set_cons_zero, List.set_cons_succ]
                      refine wpAnyH_take (i := 7) (oi := { dst := some 108, op := Op.pick (Operand.tmp 103) (Operand.const (Value.bool true)) (Operand.tmp 107), type := 4, pos := "law.go:113", after := #[{ on := 2, ground := Ground.data }, { on := 6, ground := Ground.data }], guard := none }) (v := .bool false) rfl (by kernel_rfl) (by kernel_rfl) (by kernel_rfl) (fun _ _ _ h => h) (Or.inl ⟨by rfl, ?_⟩) hHeld ?_
                      · (intro w hSw; (try dsimp only at hSw); go_simp)
                      try simp only [Act.put, List.setIfInBounds_toArray, List.set_cons_zero, List.set_cons_succ]
                      refine wpAnyH_take (i := 8) (oi := { dst := some 109, op := Op.move (Operand.tmp 108), type := 4, pos := "law.go:113", after := #[{ on := 7, ground := Ground.data }, { on := 2, ground := Ground.chain }], guard := none }) (v := .bool false) rfl (by kernel_rfl) (by kernel_rfl) (by kernel_rfl) (fun _ _ _ h => h) (Or.inl ⟨by rfl, ?_⟩) hHeld ?_
                      · (intro w hSw; (try dsimp only at hSw); go_simp)
                      try simp only [Act.put, List.setIfInBounds_toArray, List.set_cons_zero, List.set_cons_succ]
                      refine wpAnyH_take (i := 9) (oi := { dst := some 110, op := Op.move (Operand.tmp 6), type := 22, pos := "law.go:113", after := #[{ on := 8, ground := Ground.guard }], guard := some (8, false) }) (v := .slice (some ⟨bT, 0, none⟩) q2 c1) rfl (by kernel_rfl) (by kernel_rfl) (by kernel_rfl) (fun _ _ _ h => h) (Or.inl ⟨by rfl, ?_⟩) hHeld ?_
                      · (intro w hSw; (try dsimp only at hSw); go_simp)
                      try simp only [Act.put, List.setIfInBounds_toArray, List.set_cons_zero, List.set_cons_succ]
                      refine wpAnyH_take (i := 10) (oi := { dst := some 111, op := Op.move (Operand.tmp 14), type := 3, pos := "law.go:113", after := #[{ on := 8, ground := Ground.guard }], guard := some (8, false) }) (v := .int .i64 (jj : Int)) rfl (by kernel_rfl) (by kernel_rfl) (by kernel_rfl) (fun _ _ _ h => h) (Or.inl ⟨by rfl, ?_⟩) hHeld ?_
                      · (intro w hSw; (try dsimp only at hSw); go_simp)
                      try simp only [Act.put, List.setIfInBounds_toArray, List.set_cons_zero, List.set_cons_succ]
                      refine wpAnyH_take (i := 11) (oi := { dst := some 112, op := Op.indexAddr 22 (Operand.tmp 110) (Operand.tmp 111), type := 0, pos := "law.go:113", after := #[{ on := 9, ground := Ground.data }, { on := 10, ground := Ground.data }, { on := 8, ground := Ground.guard }], guard := some (8, false) }) (v := .pointer (some ⟨bT, jj * 46, none⟩)) rfl (by kernel_rfl) (by kernel_rfl) (by kernel_rfl) (fun _ _ _ h => h) (Or.inl ⟨by rfl, ?_⟩) hHeld ?_
                      · (intro w hSw; (try dsimp only at hSw); go_simp)
                      try simp only [Act.put, List.setIfInBounds_toArray, List.set_cons_zero, List.set_cons_succ]
                      refine wpAnyH_take (i := 12) (oi := { dst := some 113, op := Op.load 48 (Operand.tmp 112), type := 48, pos := "law.go:113", after := #[{ on := 11, ground := Ground.data }, { on := 8, ground := Ground.guard }], guard := some (8, false) }) (v := .agg esT.toArray) rfl (by kernel_rfl) (by kernel_rfl) (by kernel_rfl) (fun _ _ _ h => h) (yieldsIf_load_mid (by rfl) 48 (.tmp 112) rfl bT (jj * 46) rfl esT _ (fun _ h => h.2.1) Try.underlying48 rfl hi48T) hHeld ?_
                      try simp only [Act.put, List.setIfInBounds_toArray, List.set_cons_zero, List.set_cons_succ]
                      refine wpAnyH_take (i := 13) (oi := { dst := some 114, op := Op.load 48 (Operand.tmp 12), type := 48, pos := "law.go:113", after := #[{ on := 8, ground := Ground.guard }], guard := some (8, false) }) (v := .agg cl.toArray) rfl (by kernel_rfl) (by kernel_rfl) (by kernel_rfl) (fun _ _ _ h => h) (yieldsIf_load_mid (by rfl) 48 (.tmp 12) rfl w7.heap.size 0 rfl cl _ (fun _ h => h.2.2) Try.underlying48 rfl hi48C) hHeld ?_
                      try simp only [Act.put, List.setIfInBounds_toArray, List.set_cons_zero, List.set_cons_succ]
                      refine wpAnyH_ready (rs := [14]) (by kernel_rfl) (by simp) ?_
                      refine AllReadyH.cons (o := { dst := some 115, op := Op.call { callee := Callee.value (Operand.func 11), args := #[Operand.tmp 113, Operand.tmp 114], argTypes := #[48, 48] }, type := 4, pos := "law.go:113", after := #[{ on := 12, ground := Ground.data }, { on := 13, ground := Ground.data }, { on := 8, ground := Ground.chain }, { on := 8, ground := Ground.guard }], guard := some (8, false) }) rfl (fun K hK => ?_) AllReadyH.nil
                      go_simp
                      refine (same_ok esT cl (gAt vs nj) _ HRA.out HRB.out HOKN.out).mono ?_
                      rintro e wx ⟨rfl, hbx⟩
                      have hltT : bT < wr.heap.size := World.block_lt_of_cell? wr ⟨bT, _, none⟩ (hrgT 8 _ hctxT)
                      have hltM : w7.heap.size < wr.heap.size := World.block_lt_of_cell? wr ⟨w7.heap.size, _, none⟩ (hrgM 8 _ hctxM)
                      have hltK : w5.heap.size < wr.heap.size := World.block_lt_of_cell? wr ⟨w5.heap.size, _, none⟩ htk
                      refine hK.out _ _ ⟨(World.cell?_of_block (a := ⟨w5.heap.size, jj, none⟩) (hbx.block _ hltK)).trans htk, rangeAt_kept hrgT (hbx.block _ hltT), rangeAt_kept hrgM (hbx.block _ hltM)⟩ (fun hHeld2 => ?_)
                      clear hK K
                      try simp only [Act.put, List.setIfInBounds_toArray, List.set_cons_zero, List.set_cons_succ]
                      refine wpAnyH_take (i := 15) (oi := { dst := some 116, op := Op.unOp UnOp.not 4 (Operand.tmp 115), type := 4, pos := "law.go:113", after := #[{ on := 14, ground := Ground.data }, { on := 8, ground := Ground.guard }], guard := some (8, false) }) (v := .bool false) rfl (by kernel_rfl) (by kernel_rfl) (by kernel_rfl) (fun _ _ _ h => h) (Or.inl ⟨by rfl, ?_⟩) hHeld2 ?_
                      · (intro w hSw; (try dsimp only at hSw); go_simp)
                      try simp only [Act.put, List.setIfInBounds_toArray, List.set_cons_zero, List.set_cons_succ]
                      refine wpAnyH_take (i := 16) (oi := { dst := some 117, op := Op.pick (Operand.tmp 109) (Operand.const (Value.bool true)) (Operand.tmp 116), type := 4, pos := "law.go:113", after := #[{ on := 8, ground := Ground.data }, { on := 15, ground := Ground.data }], guard := none }) (v := .bool false) rfl (by kernel_rfl) (by kernel_rfl) (by kernel_rfl) (fun _ _ _ h => h) (Or.inl ⟨by rfl, ?_⟩) hHeld2 ?_
                      · (intro w hSw; (try dsimp only at hSw); go_simp)
                      try simp only [Act.put, List.setIfInBounds_toArray, List.set_cons_zero, List.set_cons_succ]
                      refine wpAnyH_done (by kernel_rfl) ?_ _
                      have HAX := hidOf (HAQ.out.to (HBd.out.trans hbx))
                      have hcx2 := hHeld2.1
                      have hfx2 : wx.frozen? ⟨w5.heap.size, jj, none⟩ = false := by simp [World.frozen?, HAX.out.taken]
                      have HAY := hidOf (HAX.out.take HND.out HJJ.out)
                      have HN3 : Hid (q + 1 + (js.take κ ++ js.drop (κ + 1)).length = q2) := by show _ = _; have := HM.out; simp; omega
                      have HL3 : Hid (∀ j ∈ js.take κ ++ js.drop (κ + 1), j < q2) := by
                        intro j hj
                        rcases List.mem_append.1 hj with h1 | h1
                        · exact HLT.out j (List.mem_of_mem_take h1)
                        · exact HLT.out j (List.mem_of_mem_drop h1)
                      have HD3 := hidOf (nodup_out κ HND.out)
                      have hltK2 : w5.heap.size < wx.heap.size := (Array.getElem?_eq_some_iff.1 HAX.out.taken).1
                      clear hHeld hHeld2 hbx hltT hltM hltK hrgT hrgM htk hctxT hctxM hi48T hi48C hesL
                      go_wp2
                      exact ⟨⟨q + 1, js.take κ ++ js.drop (κ + 1), by go_num, HN3, HD3, HL3, HAY⟩, by simp [intOf]; omega⟩

              · obtain ⟨κ, hκ0⟩ : ∃ κ : Nat, tm = (κ : Int) := ⟨tm.toNat, by omega⟩
                have hκm : κ < m := by omega
                have HK := hidOf hκ0
                clear hκ0
                go_wp2_with fail
                refine (len_is W.heap.size _ r m _ HA.out.net HLJ.out).mono ?_
                rintro e w6 ⟨rfl, hw⟩
                subst hw
                have HAD := hidOf (HA.out.to ((Below.refl _ _).drew))
                go_wp2
                go_region_held3 (fun w' => w'.cell? ⟨b2, off2 + q, none⟩ = some (.int .i64 x)) (go_keep) (first | (go_at_call 9; refine (len_is W.heap.size _ r m _ HAD.out.net HLJ.out).mono ?_; rintro e w' ⟨rfl, rfl⟩))
                clear hwr hmz
                have hκ1 := HK.out
                clear HK
                subst hκ1
                have HAE := HAD
                obtain ⟨jj, hjj⟩ : ∃ jj, js[κ]? = some jj := ⟨_, List.getElem?_eq_getElem (by rw [HM.out]; exact hκm)⟩
                have hjn : jj < n := HLT.out jj (List.mem_of_getElem? hjj)
                obtain ⟨nj, hnj⟩ : ∃ nj, is[jj]? = some nj := ⟨_, List.getElem?_eq_getElem (by rw [hn0.out]; exact hjn)⟩
                have HNJ := hidOf hnj
                have HJJ := hidOf hjj
                have HOKN := hidOf (HOK.out.2.1 nj (List.mem_of_getElem? hnj)).2
                obtain ⟨bS, cS, esJ, hvS, _, _, hrepJ, hrgJ0⟩ := HAE.out.sent.at jj nj hnj
                have ha1 : a1 = some ⟨bS, 0, none⟩ := by injection hvS
                subst ha1
                clear hrgJ0 hvS
                have HREPJ := hidOf hrepJ
                clear hrepJ
                obtain ⟨lj, hlj⟩ : ∃ lj, pkG (gAt vs) nj = lj := ⟨_, rfl⟩
                have HDE0 := de_pk (gAt vs) nj HOKN.out
                have HGET0 : (js.map fun j => pkG (gAt vs) (is.getD j 0))[κ]? = some (pkG (gAt vs) nj) := by rw [List.getElem?_map, hjj]; show some (pkG (gAt vs) (is.getD jj 0)) = _; rw [List.getD_eq_getElem?_getD, hnj]; rfl
                rw [hlj] at HDE0 HGET0
                have HDE := hidOf HDE0
                have HGET := hidOf HGET0
                clear HDE0 HGET0 hnj hlj hjj
                go_wp2_with fail
                refine (deliver_ok W.heap.size 256 _ r κ lj _ HAE.out.net HGET.out).mono ?_
                rintro e w7 ⟨cl, vv, he, hrep, hval, hn7, hs7⟩
                have hv : vv = gAt vs nj := (hval HDE.out.1).trans HDE.out.2
                subst hv
                rw [show (js.map fun j => pkG (gAt vs) (is.getD j 0)).take κ ++ (js.map fun j => pkG (gAt vs) (is.getD j 0)).drop (κ + 1) = (js.take κ ++ js.drop (κ + 1)).map fun j => pkG (gAt vs) (is.getD j 0) from by rw [List.map_append, List.map_take, List.map_drop]] at hn7
                have hcs : cl.toArray.size = Zr_msg.size := by rw [List.size_toArray, hrep.len]; kernel_rfl
                have hco : cl.toArray.all (·.oneCell') = true := hrep.all
                have hcl46 : cl.length = 46 := by rw [hrep.len]; kernel_rfl
                have hctx : cl.toArray[8]? = some (.int .i64 (nj : Int)) := by rw [List.getElem?_toArray, (ctx_cells hrep).2.1, ctx_gAt]
                rw [show decide ((de F_msg (some lj)).2 = some []) = true from by simp [HDE.out.1]] at he
                subst he
                have HA7 := hidOf (HAE.out.step hs7 hn7)
                have HREP7 : Hid (Rep w7 (fun b => b < w7.heap.size) F_msg cl (gAt vs nj)) := hrep.kept (Nat.le_refl _) (fun _ _ => rfl) (fun b hb => hb.2.1)
                have HCS := hidOf hcs
                have HCO := hidOf hco
                have HCTX := hidOf hctx
                have HC46 := hidOf hcl46
                have HCI : Hid ((Try.prog.info? 48).map (·.size) = some cl.toArray.size) := by show _ = _; rw [hcs]; exact Zr_msg_i
                clear hn7 hs7 hrep hval hcs hco hctx hcl46 HA HAE HGET
                go_wp2_with (refine wpList_store_rowF rfl 48 (.tmp 12) (.tmp 82) rfl w7.heap.size cl.toArray rfl rfl 48 Zr_msg (heap_alloc_new w7 (.cells Zr_msg 48)) HCI.out HCS.out.symm HCO.out ?next)
                case next =>
                  intro w8 hw8h
                  have hw8 := hw8h.out
                  have hB8 : Below w7.heap.size w7 w8 := by rw [hw8]; exact ((Below.refl _ _).alloc (Nat.le_refl _) _).trans ⟨rfl, rfl, rfl, by simp [World.setRow], fun k hk => setRow_other _ _ _ _ (by omega)⟩
                  have G8 := hidOf (show w8.heap[w7.heap.size]? = some (.cells cl.toArray 48 (0, 0)) by rw [hw8]; exact setRow_heap _ _ _ _ 48 _ (heap_alloc_new w7 _))
                  have HA8 := hidOf (HA7.out.to hB8)
                  have HREP8 : Hid (Rep w8 (fun b => b < w8.heap.size) F_msg cl (gAt vs nj)) := HREP7.out.kept hB8.size (fun b x => hB8.block b x) (fun b x => Nat.lt_of_lt_of_le x hB8.size)
                  clear hw8 hw8h hB8 HA7 HREP7
                  go_wp2_with fail
                  go_loopw [14, 15] (fun at_ j wq => ∃ q2 : Nat, q2 ≤ n ∧ at_ = .int .i64 (atV jj q2) ∧ j = .int .i64 (q2 : Int) ∧ Hid (Below w8.heap.size w8 wq)) (fun _ j _ => n - (intOf j).toNat)
                  case atStart => exact ⟨0, Nat.zero_le _, by simp [atV], by go_num, Below.refl _ _⟩
                  case round =>
                    obtain ⟨q2, hq2, rfl, rfl, HB9⟩ := hrel
                    by_cases hlt2 : q2 < n
                    · obtain ⟨n2, hn2⟩ : ∃ n2, is[q2]? = some n2 := ⟨_, List.getElem?_eq_getElem (by rw [hn0.out]; exact hlt2)⟩
                      obtain ⟨bT, cT, esT, hvT, _, _, hrT, hrgT⟩ := (HA8.out.to HB9.out).sent.at q2 n2 hn2
                      have hbT : bT = bS := by injection hvT with h1; injection h1 with h2; injection h2 with h3; exact h3.symm
                      subst hbT
                      have c8s := hrgT 8 _ (ctx_cells hrT).2.1
                      rw [ctx_gAt] at c8s
                      have c8m : wr.cell? ⟨w7.heap.size, 8, none⟩ = some (.int .i64 (nj : Int)) := by
                        rw [cell_of_row wr _ 8 _ 48 (0, 0) ((HB9.out.block _ (Array.getElem?_eq_some_iff.1 G8.out).1).trans G8.out)]; exact HCTX.out
                      have HBD := hidOf (HB9.out.trans ((Below.refl w8.heap.size wr).drew))
                      clear hvT hrT hrgT
                      by_cases hqj : q2 = jj
                      · subst hqj
                        have hnn : n2 = nj := by have := HNJ.out; rw [hn2] at this; exact Option.some.inj this
                        subst hnn
                        clear hn2
                        go_wp2
                        go_region
                        go_wp2
                        exact ⟨⟨q2 + 1, by omega, by rw [at_same], by go_num, HBD⟩, by simp [intOf]; omega⟩
                      · have hne := inj_is HOK.out.2.2 hn2 HNJ.out hqj
                        have HAT := hidOf (at_next jj q2 hqj)
                        clear hn2
                        go_wp2
                        go_region
                        go_wp2
                        exact ⟨⟨q2 + 1, by omega, by rw [HAT.out], by go_num, HBD⟩, by simp [intOf]; omega⟩
                    · have hqe : q2 = n := by omega
                      subst hqe
                      rw [at_end jj q2 hjn]
                      have HAQ := hidOf (HA8.out.to HB9.out)
                      obtain ⟨bT, cT, esT, hvT, _, _, hrT, hrgT⟩ := HAQ.out.sent.at jj nj HNJ.out
                      have hbT : bT = bS := by injection hvT with h1; injection h1 with h2; injection h2 with h3; exact h3.symm
                      subst hbT
                      have htk : wr.cell? ⟨w5.heap.size, jj, none⟩ = some (.bool false) := by
                        rw [cell_of_row wr _ jj _ 4 (0, 0) HAQ.out.taken, hn0.out, tk_get _ _ _ hjn]
                        have := List.mem_of_getElem? HJJ.out
                        simp [this]
                      have hrgM : wr.rangeAt w7.heap.size 0 cl := by
                        intro jx u hu
                        rw [cell_of_row wr _ _ _ 48 (0, 0) ((HB9.out.block _ (Array.getElem?_eq_some_iff.1 G8.out).1).trans G8.out), Nat.zero_add, List.getElem?_toArray]
                        exact hu
                      have hBd : Below wr.heap.size wr wr.drew := (Below.refl _ _).drew
                      have HBd := hidOf hBd
                      have hWd : Below W.heap.size W wr.drew := HAQ.out.below.trans (hBd.mono HAQ.out.below.size)
                      have hesL : esT.length = 46 := by rw [hrT.len]; kernel_rfl
                      have HRA : Hid (Rep wr.drew (fun b => b < wr.drew.heap.size) F_msg esT (gAt vs nj)) := hrT.kept hWd.size (fun b x => hWd.block b x) (fun b x => Nat.lt_of_lt_of_le x hWd.size)
                      have hWm : Below w8.heap.size w8 wr.drew := HB9.out.trans (hBd.mono HB9.out.size)
                      have HRB : Hid (Rep wr.drew (fun b => b < wr.drew.heap.size) F_msg cl (gAt vs nj)) := HREP8.out.kept hWm.size (fun b x => hWm.block b x) (fun b x => Nat.lt_of_lt_of_le x hWm.size)
                      have hi48T : (Try.prog.info? 48).map (·.size) = some esT.length := by rw [hesL]; kernel_rfl
                      have hi48C : (Try.prog.info? 48).map (·.size) = some cl.length := by rw [HC46.out]; kernel_rfl
                      have hctxT := (ctx_cells hrT).2.1
                      have hctxM : cl[8]? = some (.int .i64 (nj : Int)) := by have := HCTX.out; rwa [List.getElem?_toArray] at this
                      have hjnn : ¬ ((jj : Int) < 0) := by omega
                      clear hvT hrT hBd hWd hWm
                      go_wp2
                      refine wp_region_held_drew (S := fun w' => w'.cell? ⟨w5.heap.size, jj, none⟩ = some (.bool false) ∧ w'.rangeAt bT (jj * 46) esT ∧ w'.rangeAt w7.heap.size 0 cl) (by kernel_rfl) ⟨htk, hrgT, hrgM⟩ (fun hHeld => ?_)
                      refine wpAnyH_take (i := 0) (oi := { dst := some 101, op := Op.move (Operand.tmp 14), type := 3, pos := "law.go:113", after := #[], guard := none }) (v := .int .i64 (jj : Int)) rfl (by kernel_rfl) (by kernel_rfl) (by kernel_rfl) (fun _ _ _ h => h) (Or.inl ⟨by rfl, ?_⟩) hHeld ?_
                      · (intro w hSw; (try dsimp only at hSw); go_simp)
                      try simp only [Act.put, List.setIfInBounds_toArray, List.set_cons_zero, List.set_cons_succ]
                      refine wpAnyH_take (i := 1) (oi := { dst := some 102, op := Op.binOp BinOp.lss 3 (Operand.tmp 101) (Operand.const (Value.int IntKind.i64 0)) 3, type := 4, pos := "law.go:113", after := #[{ on := 0, ground := Ground.data }], guard := none }) (v := .bool false) rfl (by kernel_rfl) (by kernel_rfl) (by kernel_rfl) (fun _ _ _ h => h) (Or.inl ⟨by rfl, ?_⟩) hHeld ?_
                      · (intro w hSw; (try dsimp only at hSw); go_simp)
                      try simp only [Act.put, List.setIfInBounds_toArray, List.set_cons_zero, List.set_cons_succ]
                      refine wpAnyH_take (i := 2) (oi := { dst := some 103, op := Op.move (Operand.tmp 102), type := 4, pos := "law.go:113", after := #[{ on := 1, ground := Ground.data }], guard := none }) (v := .bool false) rfl (by kernel_rfl) (by kernel_rfl) (by kernel_rfl) (fun _ _ _ h => h) (Or.inl ⟨by rfl, ?_⟩) hHeld ?_
                      · (intro w hSw; (try dsimp only at hSw); go_simp)
                      try simp only [Act.put, List.setIfInBounds_toArray, List.set_cons_zero, List.set_cons_succ]
                      refine wpAnyH_take (i := 3) (oi := { dst := some 104, op := Op.move (Operand.tmp 9), type := 51, pos := "law.go:113", after := #[{ on := 2, ground := Ground.guard }], guard := some (2, false) }) (v := .slice (some ⟨w5.heap.size, 0, none⟩) q2 q2) rfl (by kernel_rfl) (by kernel_rfl) (by kernel_rfl) (fun _ _ _ h => h) (Or.inl ⟨by rfl, ?_⟩) hHeld ?_
                      · (intro w hSw; (try dsimp only at hSw); go_simp)
                      try simp only [Act.put, List.setIfInBounds_toArray, List.set_cons_zero, List.set_cons_succ]
                      refine wpAnyH_take (i := 4) (oi := { dst := some 105, op := Op.move (Operand.tmp 14), type := 3, pos := "law.go:113", after := #[{ on := 2, ground := Ground.guard }], guard := some (2, false) }) (v := .int .i64 (jj : Int)) rfl (by kernel_rfl) (by kernel_rfl) (by kernel_rfl) (fun _ _ _ h => h) (Or.inl ⟨by rfl, ?_⟩) hHeld ?_
                      · (intro w hSw; (try dsimp only at hSw); go_simp)
                      try simp only [Act.put, List.setIfInBounds_toArray, List.set_cons_zero, List.set_cons_succ]
                      refine wpAnyH_take (i := 5) (oi := { dst := some 106, op := Op.indexAddr 51 (Operand.tmp 104) (Operand.tmp 105), type := 0, pos := "law.go:113", after := #[{ on := 3, ground := Ground.data }, { on := 4, ground := Ground.data }, { on := 2, ground := Ground.guard }], guard := some (2, false) }) (v := .pointer (some ⟨w5.heap.size, jj, none⟩)) rfl (by kernel_rfl) (by kernel_rfl) (by kernel_rfl) (fun _ _ _ h => h) (Or.inl ⟨by rfl, ?_⟩) hHeld ?_
                      · (intro w hSw; (try dsimp only at hSw); go_simp)
                      try simp only [Act.put, List.setIfInBounds_toArray, List.set_cons_zero, List.set_cons_succ]
                      refine wpAnyH_take (i := 6) (oi := { dst := some 107, op := Op.load 4 (Operand.tmp 106), type := 4, pos := "law.go:113", after := #[{ on := 5, ground := Ground.data }, { on := 2, ground := Ground.guard }], guard := some (2, false) }) (v := .bool false) rfl (by kernel_rfl) (by kernel_rfl) (by kernel_rfl) (fun _ _ _ h => h) (Or.inl ⟨by rfl, ?_⟩) hHeld ?_
                      · (intro w hSw; (try dsimp only at hSw); go_simp)
                      try simp only [Act.put, List.setIfInBounds_toArray, List.set_cons_zero, List.set_cons_succ]
                      refine wpAnyH_take (i := 7) (oi := { dst := some 108, op := Op.pick (Operand.tmp 103) (Operand.const (Value.bool true)) (Operand.tmp 107), type := 4, pos := "law.go:113", after := #[{ on := 2, ground := Ground.data }, { on := 6, ground := Ground.data }], guard := none }) (v := .bool false) rfl (by kernel_rfl) (by kernel_rfl) (by kernel_rfl) (fun _ _ _ h => h) (Or.inl ⟨by rfl, ?_⟩) hHeld ?_
                      · (intro w hSw; (try dsimp only at hSw); go_simp)
                      try simp only [Act.put, List.setIfInBounds_toArray, List.set_cons_zero, List.set_cons_succ]
                      refine wpAnyH_take (i := 8) (oi := { dst := some 109, op := Op.move (Operand.tmp 108), type := 4, pos := "law.go:113", after := #[{ on := 7, ground := Ground.data }, { on := 2, ground := Ground.chain }], guard := none }) (v := .bool false) rfl (by kernel_rfl) (by kernel_rfl) (by kernel_rfl) (fun _ _ _ h => h) (Or.inl ⟨by rfl, ?_⟩) hHeld ?_
                      · (intro w hSw; (try dsimp only at hSw); go_simp)
                      try simp only [Act.put, List.setIfInBounds_toArray, List.set_cons_zero, List.set_cons_succ]
                      refine wpAnyH_take (i := 9) (oi := { dst := some 110, op := Op.move (Operand.tmp 6), type := 22, pos := "law.go:113", after := #[{ on := 8, ground := Ground.guard }], guard := some (8, false) }) (v := .slice (some ⟨bT, 0, none⟩) q2 c1) rfl (by kernel_rfl) (by kernel_rfl) (by kernel_rfl) (fun _ _ _ h => h) (Or.inl ⟨by rfl, ?_⟩) hHeld ?_
                      · (intro w hSw; (try dsimp only at hSw); go_simp)
                      try simp only [Act.put, List.setIfInBounds_toArray, List.set_cons_zero, List.set_cons_succ]
                      refine wpAnyH_take (i := 10) (oi := { dst := some 111, op := Op.move (Operand.tmp 14), type := 3, pos := "law.go:113", after := #[{ on := 8, ground := Ground.guard }], guard := some (8, false) }) (v := .int .i64 (jj : Int)) rfl (by kernel_rfl) (by kernel_rfl) (by kernel_rfl) (fun _ _ _ h => h) (Or.inl ⟨by rfl, ?_⟩) hHeld ?_
                      · (intro w hSw; (try dsimp only at hSw); go_simp)
                      try simp only [Act.put, List.setIfInBounds_toArray, List.set_cons_zero, List.set_cons_succ]
                      refine wpAnyH_take (i := 11) (oi := { dst := some 112, op := Op.indexAddr 22 (Operand.tmp 110) (Operand.tmp 111), type := 0, pos := "law.go:113", after := #[{ on := 9, ground := Ground.data }, { on := 10, ground := Ground.data }, { on := 8, ground := Ground.guard }], guard := some (8, false) }) (v := .pointer (some ⟨bT, jj * 46, none⟩)) rfl (by kernel_rfl) (by kernel_rfl) (by kernel_rfl) (fun _ _ _ h => h) (Or.inl ⟨by rfl, ?_⟩) hHeld ?_
                      · (intro w hSw; (try dsimp only at hSw); go_simp)
                      try simp only [Act.put, List.setIfInBounds_toArray, List.set_cons_zero, List.set_cons_succ]
                      refine wpAnyH_take (i := 12) (oi := { dst := some 113, op := Op.load 48 (Operand.tmp 112), type := 48, pos := "law.go:113", after := #[{ on := 11, ground := Ground.data }, { on := 8, ground := Ground.guard }], guard := some (8, false) }) (v := .agg esT.toArray) rfl (by kernel_rfl) (by kernel_rfl) (by kernel_rfl) (fun _ _ _ h => h) (yieldsIf_load_mid (by rfl) 48 (.tmp 112) rfl bT (jj * 46) rfl esT _ (fun _ h => h.2.1) Try.underlying48 rfl hi48T) hHeld ?_
                      try simp only [Act.put, List.setIfInBounds_toArray, List.set_cons_zero, List.set_cons_succ]
                      refine wpAnyH_take (i := 13) (oi := { dst := some 114, op := Op.load 48 (Operand.tmp 12), type := 48, pos := "law.go:113", after := #[{ on := 8, ground := Ground.guard }], guard := some (8, false) }) (v := .agg cl.toArray) rfl (by kernel_rfl) (by kernel_rfl) (by kernel_rfl) (fun _ _ _ h => h) (yieldsIf_load_mid (by rfl) 48 (.tmp 12) rfl w7.heap.size 0 rfl cl _ (fun _ h => h.2.2) Try.underlying48 rfl hi48C) hHeld ?_
                      try simp only [Act.put, List.setIfInBounds_toArray, List.set_cons_zero, List.set_cons_succ]
                      refine wpAnyH_ready (rs := [14]) (by kernel_rfl) (by simp) ?_
                      refine AllReadyH.cons (o := { dst := some 115, op := Op.call { callee := Callee.value (Operand.func 11), args := #[Operand.tmp 113, Operand.tmp 114], argTypes := #[48, 48] }, type := 4, pos := "law.go:113", after := #[{ on := 12, ground := Ground.data }, { on := 13, ground := Ground.data }, { on := 8, ground := Ground.chain }, { on := 8, ground := Ground.guard }], guard := some (8, false) }) rfl (fun K hK => ?_) AllReadyH.nil
                      go_simp
                      refine (same_ok esT cl (gAt vs nj) _ HRA.out HRB.out HOKN.out).mono ?_
                      rintro e wx ⟨rfl, hbx⟩
                      have hltT : bT < wr.heap.size := World.block_lt_of_cell? wr ⟨bT, _, none⟩ (hrgT 8 _ hctxT)
                      have hltM : w7.heap.size < wr.heap.size := World.block_lt_of_cell? wr ⟨w7.heap.size, _, none⟩ (hrgM 8 _ hctxM)
                      have hltK : w5.heap.size < wr.heap.size := World.block_lt_of_cell? wr ⟨w5.heap.size, _, none⟩ htk
                      refine hK.out _ _ ⟨(World.cell?_of_block (a := ⟨w5.heap.size, jj, none⟩) (hbx.block _ hltK)).trans htk, rangeAt_kept hrgT (hbx.block _ hltT), rangeAt_kept hrgM (hbx.block _ hltM)⟩ (fun hHeld2 => ?_)
                      clear hK K
                      try simp only [Act.put, List.setIfInBounds_toArray, List.set_cons_zero, List.set_cons_succ]
                      refine wpAnyH_take (i := 15) (oi := { dst := some 116, op := Op.unOp UnOp.not 4 (Operand.tmp 115), type := 4, pos := "law.go:113", after := #[{ on := 14, ground := Ground.data }, { on := 8, ground := Ground.guard }], guard := some (8, false) }) (v := .bool false) rfl (by kernel_rfl) (by kernel_rfl) (by kernel_rfl) (fun _ _ _ h => h) (Or.inl ⟨by rfl, ?_⟩) hHeld2 ?_
                      · (intro w hSw; (try dsimp only at hSw); go_simp)
                      try simp only [Act.put, List.setIfInBounds_toArray, List.set_cons_zero, List.set_cons_succ]
                      refine wpAnyH_take (i := 16) (oi := { dst := some 117, op := Op.pick (Operand.tmp 109) (Operand.const (Value.bool true)) (Operand.tmp 116), type := 4, pos := "law.go:113", after := #[{ on := 8, ground := Ground.data }, { on := 15, ground := Ground.data }], guard := none }) (v := .bool false) rfl (by kernel_rfl) (by kernel_rfl) (by kernel_rfl) (fun _ _ _ h => h) (Or.inl ⟨by rfl, ?_⟩) hHeld2 ?_
                      · (intro w hSw; (try dsimp only at hSw); go_simp)
                      try simp only [Act.put, List.setIfInBounds_toArray, List.set_cons_zero, List.set_cons_succ]
                      refine wpAnyH_done (by kernel_rfl) ?_ _
                      have HAX := hidOf (HAQ.out.to (HBd.out.trans hbx))
                      have hcx2 := hHeld2.1
                      have hfx2 : wx.frozen? ⟨w5.heap.size, jj, none⟩ = false := by simp [World.frozen?, HAX.out.taken]
                      have HAY := hidOf (HAX.out.take HND.out HJJ.out)
                      have HN3 : Hid (q + 1 + (js.take κ ++ js.drop (κ + 1)).length = q2) := by show _ = _; have := HM.out; simp; omega
                      have HL3 : Hid (∀ j ∈ js.take κ ++ js.drop (κ + 1), j < q2) := by
                        intro j hj
                        rcases List.mem_append.1 hj with h1 | h1
                        · exact HLT.out j (List.mem_of_mem_take h1)
                        · exact HLT.out j (List.mem_of_mem_drop h1)
                      have HD3 := hidOf (nodup_out κ HND.out)
                      have hltK2 : w5.heap.size < wx.heap.size := (Array.getElem?_eq_some_iff.1 HAX.out.taken).1
                      clear hHeld hHeld2 hbx hltT hltM hltK hrgT hrgM htk hctxT hctxM hi48T hi48C hesL
                      go_wp2
                      exact ⟨⟨q + 1, js.take κ ++ js.drop (κ + 1), by go_num, HN3, HD3, HL3, HAY⟩, by simp [intOf]; omega⟩

            · -- NOPICKS
              have hκm : 0 < m := hpos
              go_wp2_with fail
              refine (len_is W.heap.size _ r m _ HA.out.net HLJ.out).mono ?_
              rintro e w6 ⟨rfl, hw⟩
              subst hw
              have HAE := HA
              obtain ⟨jj, hjj⟩ : ∃ jj, js[0]? = some jj := ⟨_, List.getElem?_eq_getElem (by rw [HM.out]; exact hκm)⟩
              have hjn : jj < n := HLT.out jj (List.mem_of_getElem? hjj)
              obtain ⟨nj, hnj⟩ : ∃ nj, is[jj]? = some nj := ⟨_, List.getElem?_eq_getElem (by rw [hn0.out]; exact hjn)⟩
              have HNJ := hidOf hnj
              have HJJ := hidOf hjj
              have HOKN := hidOf (HOK.out.2.1 nj (List.mem_of_getElem? hnj)).2
              obtain ⟨bS, cS, esJ, hvS, _, _, hrepJ, hrgJ0⟩ := HAE.out.sent.at jj nj hnj
              have ha1 : a1 = some ⟨bS, 0, none⟩ := by injection hvS
              subst ha1
              clear hrgJ0 hvS
              have HREPJ := hidOf hrepJ
              clear hrepJ
              obtain ⟨lj, hlj⟩ : ∃ lj, pkG (gAt vs) nj = lj := ⟨_, rfl⟩
              have HDE0 := de_pk (gAt vs) nj HOKN.out
              have HGET0 : (js.map fun j => pkG (gAt vs) (is.getD j 0))[0]? = some (pkG (gAt vs) nj) := by rw [List.getElem?_map, hjj]; show some (pkG (gAt vs) (is.getD jj 0)) = _; rw [List.getD_eq_getElem?_getD, hnj]; rfl
              rw [hlj] at HDE0 HGET0
              have HDE := hidOf HDE0
              have HGET := hidOf HGET0
              clear HDE0 HGET0 hnj hlj hjj
              go_wp2_with fail
              refine (deliver_ok W.heap.size 256 _ r 0 lj _ HAE.out.net HGET.out).mono ?_
              rintro e w7 ⟨cl, vv, he, hrep, hval, hn7, hs7⟩
              have hv : vv = gAt vs nj := (hval HDE.out.1).trans HDE.out.2
              subst hv
              rw [show (js.map fun j => pkG (gAt vs) (is.getD j 0)).take 0 ++ (js.map fun j => pkG (gAt vs) (is.getD j 0)).drop (0 + 1) = (js.take 0 ++ js.drop (0 + 1)).map fun j => pkG (gAt vs) (is.getD j 0) from by rw [List.map_append, List.map_take, List.map_drop]] at hn7
              have hcs : cl.toArray.size = Zr_msg.size := by rw [List.size_toArray, hrep.len]; kernel_rfl
              have hco : cl.toArray.all (·.oneCell') = true := hrep.all
              have hcl46 : cl.length = 46 := by rw [hrep.len]; kernel_rfl
              have hctx : cl.toArray[8]? = some (.int .i64 (nj : Int)) := by rw [List.getElem?_toArray, (ctx_cells hrep).2.1, ctx_gAt]
              rw [show decide ((de F_msg (some lj)).2 = some []) = true from by simp [HDE.out.1]] at he
              subst he
              have HA7 := hidOf (HAE.out.step hs7 hn7)
              have HREP7 : Hid (Rep w7 (fun b => b < w7.heap.size) F_msg cl (gAt vs nj)) := hrep.kept (Nat.le_refl _) (fun _ _ => rfl) (fun b hb => hb.2.1)
              have HCS := hidOf hcs
              have HCO := hidOf hco
              have HCTX := hidOf hctx
              have HC46 := hidOf hcl46
              have HCI : Hid ((Try.prog.info? 48).map (·.size) = some cl.toArray.size) := by show _ = _; rw [hcs]; exact Zr_msg_i
              clear hn7 hs7 hrep hval hcs hco hctx hcl46 HA HAE HGET
              go_wp2_with (refine wpList_store_rowF rfl 48 (.tmp 12) (.tmp 82) rfl w7.heap.size cl.toArray rfl rfl 48 Zr_msg (heap_alloc_new w7 (.cells Zr_msg 48)) HCI.out HCS.out.symm HCO.out ?next)
              case next =>
                intro w8 hw8h
                have hw8 := hw8h.out
                have hB8 : Below w7.heap.size w7 w8 := by rw [hw8]; exact ((Below.refl _ _).alloc (Nat.le_refl _) _).trans ⟨rfl, rfl, rfl, by simp [World.setRow], fun k hk => setRow_other _ _ _ _ (by omega)⟩
                have G8 := hidOf (show w8.heap[w7.heap.size]? = some (.cells cl.toArray 48 (0, 0)) by rw [hw8]; exact setRow_heap _ _ _ _ 48 _ (heap_alloc_new w7 _))
                have HA8 := hidOf (HA7.out.to hB8)
                have HREP8 : Hid (Rep w8 (fun b => b < w8.heap.size) F_msg cl (gAt vs nj)) := HREP7.out.kept hB8.size (fun b x => hB8.block b x) (fun b x => Nat.lt_of_lt_of_le x hB8.size)
                clear hw8 hw8h hB8 HA7 HREP7
                go_wp2_with fail
                go_loopw [14, 15] (fun at_ j wq => ∃ q2 : Nat, q2 ≤ n ∧ at_ = .int .i64 (atV jj q2) ∧ j = .int .i64 (q2 : Int) ∧ Hid (Below w8.heap.size w8 wq)) (fun _ j _ => n - (intOf j).toNat)
                case atStart => exact ⟨0, Nat.zero_le _, by simp [atV], by go_num, Below.refl _ _⟩
                case round =>
                  obtain ⟨q2, hq2, rfl, rfl, HB9⟩ := hrel
                  by_cases hlt2 : q2 < n
                  · obtain ⟨n2, hn2⟩ : ∃ n2, is[q2]? = some n2 := ⟨_, List.getElem?_eq_getElem (by rw [hn0.out]; exact hlt2)⟩
                    obtain ⟨bT, cT, esT, hvT, _, _, hrT, hrgT⟩ := (HA8.out.to HB9.out).sent.at q2 n2 hn2
                    have hbT : bT = bS := by injection hvT with h1; injection h1 with h2; injection h2 with h3; exact h3.symm
                    subst hbT
                    have c8s := hrgT 8 _ (ctx_cells hrT).2.1
                    rw [ctx_gAt] at c8s
                    have c8m : wr.cell? ⟨w7.heap.size, 8, none⟩ = some (.int .i64 (nj : Int)) := by
                      rw [cell_of_row wr _ 8 _ 48 (0, 0) ((HB9.out.block _ (Array.getElem?_eq_some_iff.1 G8.out).1).trans G8.out)]; exact HCTX.out
                    have HBD := hidOf (HB9.out.trans ((Below.refl w8.heap.size wr).drew))
                    clear hvT hrT hrgT
                    by_cases hqj : q2 = jj
                    · subst hqj
                      have hnn : n2 = nj := by have := HNJ.out; rw [hn2] at this; exact Option.some.inj this
                      subst hnn
                      clear hn2
                      go_wp2
                      go_region
                      go_wp2
                      exact ⟨⟨q2 + 1, by omega, by rw [at_same], by go_num, HBD⟩, by simp [intOf]; omega⟩
                    · have hne := inj_is HOK.out.2.2 hn2 HNJ.out hqj
                      have HAT := hidOf (at_next jj q2 hqj)
                      clear hn2
                      go_wp2
                      go_region
                      go_wp2
                      exact ⟨⟨q2 + 1, by omega, by rw [HAT.out], by go_num, HBD⟩, by simp [intOf]; omega⟩
                  · have hqe : q2 = n := by omega
                    subst hqe
                    rw [at_end jj q2 hjn]
                    have HAQ := hidOf (HA8.out.to HB9.out)
                    obtain ⟨bT, cT, esT, hvT, _, _, hrT, hrgT⟩ := HAQ.out.sent.at jj nj HNJ.out
                    have hbT : bT = bS := by injection hvT with h1; injection h1 with h2; injection h2 with h3; exact h3.symm
                    subst hbT
                    have htk : wr.cell? ⟨w5.heap.size, jj, none⟩ = some (.bool false) := by
                      rw [cell_of_row wr _ jj _ 4 (0, 0) HAQ.out.taken, hn0.out, tk_get _ _ _ hjn]
                      have := List.mem_of_getElem? HJJ.out
                      simp [this]
                    have hrgM : wr.rangeAt w7.heap.size 0 cl := by
                      intro jx u hu
                      rw [cell_of_row wr _ _ _ 48 (0, 0) ((HB9.out.block _ (Array.getElem?_eq_some_iff.1 G8.out).1).trans G8.out), Nat.zero_add, List.getElem?_toArray]
                      exact hu
                    have hBd : Below wr.heap.size wr wr.drew := (Below.refl _ _).drew
                    have HBd := hidOf hBd
                    have hWd : Below W.heap.size W wr.drew := HAQ.out.below.trans (hBd.mono HAQ.out.below.size)
                    have hesL : esT.length = 46 := by rw [hrT.len]; kernel_rfl
                    have HRA : Hid (Rep wr.drew (fun b => b < wr.drew.heap.size) F_msg esT (gAt vs nj)) := hrT.kept hWd.size (fun b x => hWd.block b x) (fun b x => Nat.lt_of_lt_of_le x hWd.size)
                    have hWm : Below w8.heap.size w8 wr.drew := HB9.out.trans (hBd.mono HB9.out.size)
                    have HRB : Hid (Rep wr.drew (fun b => b < wr.drew.heap.size) F_msg cl (gAt vs nj)) := HREP8.out.kept hWm.size (fun b x => hWm.block b x) (fun b x => Nat.lt_of_lt_of_le x hWm.size)
                    have hi48T : (Try.prog.info? 48).map (·.size) = some esT.length := by rw [hesL]; kernel_rfl
                    have hi48C : (Try.prog.info? 48).map (·.size) = some cl.length := by rw [HC46.out]; kernel_rfl
                    have hctxT := (ctx_cells hrT).2.1
                    have hctxM : cl[8]? = some (.int .i64 (nj : Int)) := by have := HCTX.out; rwa [List.getElem?_toArray] at this
                    have hjnn : ¬ ((jj : Int) < 0) := by omega
                    clear hvT hrT hBd hWd hWm
                    go_wp2
                    refine wp_region_held_drew (S := fun w' => w'.cell? ⟨w5.heap.size, jj, none⟩ = some (.bool false) ∧ w'.rangeAt bT (jj * 46) esT ∧ w'.rangeAt w7.heap.size 0 cl) (by kernel_rfl) ⟨htk, hrgT, hrgM⟩ (fun hHeld => ?_)
                    refine wpAnyH_take (i := 0) (oi := { dst := some 101, op := Op.move (Operand.tmp 14), type := 3, pos := "law.go:113", after := #[], guard := none }) (v := .int .i64 (jj : Int)) rfl (by kernel_rfl) (by kernel_rfl) (by kernel_rfl) (fun _ _ _ h => h) (Or.inl ⟨by rfl, ?_⟩) hHeld ?_
                    · (intro w hSw; (try dsimp only at hSw); go_simp)
                    try simp only [Act.put, List.setIfInBounds_toArray, List.set_cons_zero, List.set_cons_succ]
                    refine wpAnyH_take (i := 1) (oi := { dst := some 102, op := Op.binOp BinOp.lss 3 (Operand.tmp 101) (Operand.const (Value.int IntKind.i64 0)) 3, type := 4, pos := "law.go:113", after := #[{ on := 0, ground := Ground.data }], guard := none }) (v := .bool false) rfl (by kernel_rfl) (by kernel_rfl) (by kernel_rfl) (fun _ _ _ h => h) (Or.inl ⟨by rfl, ?_⟩) hHeld ?_
                    · (intro w hSw; (try dsimp only at hSw); go_simp)
                    try simp only [Act.put, List.setIfInBounds_toArray, List.set_cons_zero, List.set_cons_succ]
                    refine wpAnyH_take (i := 2) (oi := { dst := some 103, op := Op.move (Operand.tmp 102), type := 4, pos := "law.go:113", after := #[{ on := 1, ground := Ground.data }], guard := none }) (v := .bool false) rfl (by kernel_rfl) (by kernel_rfl) (by kernel_rfl) (fun _ _ _ h => h) (Or.inl ⟨by rfl, ?_⟩) hHeld ?_
                    · (intro w hSw; (try dsimp only at hSw); go_simp)
                    try simp only [Act.put, List.setIfInBounds_toArray, List.set_cons_zero, List.set_cons_succ]
                    refine wpAnyH_take (i := 3) (oi := { dst := some 104, op := Op.move (Operand.tmp 9), type := 51, pos := "law.go:113", after := #[{ on := 2, ground := Ground.guard }], guard := some (2, false) }) (v := .slice (some ⟨w5.heap.size, 0, none⟩) q2 q2) rfl (by kernel_rfl) (by kernel_rfl) (by kernel_rfl) (fun _ _ _ h => h) (Or.inl ⟨by rfl, ?_⟩) hHeld ?_
                    · (intro w hSw; (try dsimp only at hSw); go_simp)
                    try simp only [Act.put, List.setIfInBounds_toArray, List.set_cons_zero, List.set_cons_succ]
                    refine wpAnyH_take (i := 4) (oi := { dst := some 105, op := Op.move (Operand.tmp 14), type := 3, pos := "law.go:113", after := #[{ on := 2, ground := Ground.guard }], guard := some (2, false) }) (v := .int .i64 (jj : Int)) rfl (by kernel_rfl) (by kernel_rfl) (by kernel_rfl) (fun _ _ _ h => h) (Or.inl ⟨by rfl, ?_⟩) hHeld ?_
                    · (intro w hSw; (try dsimp only at hSw); go_simp)
                    try simp only [Act.put, List.setIfInBounds_toArray, List.set_cons_zero, List.set_cons_succ]
                    refine wpAnyH_take (i := 5) (oi := { dst := some 106, op := Op.indexAddr 51 (Operand.tmp 104) (Operand.tmp 105), type := 0, pos := "law.go:113", after := #[{ on := 3, ground := Ground.data }, { on := 4, ground := Ground.data }, { on := 2, ground := Ground.guard }], guard := some (2, false) }) (v := .pointer (some ⟨w5.heap.size, jj, none⟩)) rfl (by kernel_rfl) (by kernel_rfl) (by kernel_rfl) (fun _ _ _ h => h) (Or.inl ⟨by rfl, ?_⟩) hHeld ?_
                    · (intro w hSw; (try dsimp only at hSw); go_simp)
                    try simp only [Act.put, List.setIfInBounds_toArray, List.set_cons_zero, List.set_cons_succ]
                    refine wpAnyH_take (i := 6) (oi := { dst := some 107, op := Op.load 4 (Operand.tmp 106), type := 4, pos := "law.go:113", after := #[{ on := 5, ground := Ground.data }, { on := 2, ground := Ground.guard }], guard := some (2, false) }) (v := .bool false) rfl (by kernel_rfl) (by kernel_rfl) (by kernel_rfl) (fun _ _ _ h => h) (Or.inl ⟨by rfl, ?_⟩) hHeld ?_
                    · (intro w hSw; (try dsimp only at hSw); go_simp)
                    try simp only [Act.put, List.setIfInBounds_toArray, List.set_cons_zero, List.set_cons_succ]
                    refine wpAnyH_take (i := 7) (oi := { dst := some 108, op := Op.pick (Operand.tmp 103) (Operand.const (Value.bool true)) (Operand.tmp 107), type := 4, pos := "law.go:113", after := #[{ on := 2, ground := Ground.data }, { on := 6, ground := Ground.data }], guard := none }) (v := .bool false) rfl (by kernel_rfl) (by kernel_rfl) (by kernel_rfl) (fun _ _ _ h => h) (Or.inl ⟨by rfl, ?_⟩) hHeld ?_
                    · (intro w hSw; (try dsimp only at hSw); go_simp)
                    try simp only [Act.put, List.setIfInBounds_toArray, List.set_cons_zero, List.set_cons_succ]
                    refine wpAnyH_take (i := 8) (oi := { dst := some 109, op := Op.move (Operand.tmp 108), type := 4, pos := "law.go:113", after := #[{ on := 7, ground := Ground.data }, { on := 2, ground := Ground.chain }], guard := none }) (v := .bool false) rfl (by kernel_rfl) (by kernel_rfl) (by kernel_rfl) (fun _ _ _ h => h) (Or.inl ⟨by rfl, ?_⟩) hHeld ?_
                    · (intro w hSw; (try dsimp only at hSw); go_simp)
                    try simp only [Act.put, List.setIfInBounds_toArray, List.set_cons_zero, List.set_cons_succ]
                    refine wpAnyH_take (i := 9) (oi := { dst := some 110, op := Op.move (Operand.tmp 6), type := 22, pos := "law.go:113", after := #[{ on := 8, ground := Ground.guard }], guard := some (8, false) }) (v := .slice (some ⟨bT, 0, none⟩) q2 c1) rfl (by kernel_rfl) (by kernel_rfl) (by kernel_rfl) (fun _ _ _ h => h) (Or.inl ⟨by rfl, ?_⟩) hHeld ?_
                    · (intro w hSw; (try dsimp only at hSw); go_simp)
                    try simp only [Act.put, List.setIfInBounds_toArray, List.set_cons_zero, List.set_cons_succ]
                    refine wpAnyH_take (i := 10) (oi := { dst := some 111, op := Op.move (Operand.tmp 14), type := 3, pos := "law.go:113", after := #[{ on := 8, ground := Ground.guard }], guard := some (8, false) }) (v := .int .i64 (jj : Int)) rfl (by kernel_rfl) (by kernel_rfl) (by kernel_rfl) (fun _ _ _ h => h) (Or.inl ⟨by rfl, ?_⟩) hHeld ?_
                    · (intro w hSw; (try dsimp only at hSw); go_simp)
                    try simp only [Act.put, List.setIfInBounds_toArray, List.set_cons_zero, List.set_cons_succ]
                    refine wpAnyH_take (i := 11) (oi := { dst := some 112, op := Op.indexAddr 22 (Operand.tmp 110) (Operand.tmp 111), type := 0, pos := "law.go:113", after := #[{ on := 9, ground := Ground.data }, { on := 10, ground := Ground.data }, { on := 8, ground := Ground.guard }], guard := some (8, false) }) (v := .pointer (some ⟨bT, jj * 46, none⟩)) rfl (by kernel_rfl) (by kernel_rfl) (by kernel_rfl) (fun _ _ _ h => h) (Or.inl ⟨by rfl, ?_⟩) hHeld ?_
                    · (intro w hSw; (try dsimp only at hSw); go_simp)
                    try simp only [Act.put, List.setIfInBounds_toArray, List.set_cons_zero, List.set_cons_succ]
                    refine wpAnyH_take (i := 12) (oi := { dst := some 113, op := Op.load 48 (Operand.tmp 112), type := 48, pos := "law.go:113", after := #[{ on := 11, ground := Ground.data }, { on := 8, ground := Ground.guard }], guard := some (8, false) }) (v := .agg esT.toArray) rfl (by kernel_rfl) (by kernel_rfl) (by kernel_rfl) (fun _ _ _ h => h) (yieldsIf_load_mid (by rfl) 48 (.tmp 112) rfl bT (jj * 46) rfl esT _ (fun _ h => h.2.1) Try.underlying48 rfl hi48T) hHeld ?_
                    try simp only [Act.put, List.setIfInBounds_toArray, List.set_cons_zero, List.set_cons_succ]
                    refine wpAnyH_take (i := 13) (oi := { dst := some 114, op := Op.load 48 (Operand.tmp 12), type := 48, pos := "law.go:113", after := #[{ on := 8, ground := Ground.guard }], guard := some (8, false) }) (v := .agg cl.toArray) rfl (by kernel_rfl) (by kernel_rfl) (by kernel_rfl) (fun _ _ _ h => h) (yieldsIf_load_mid (by rfl) 48 (.tmp 12) rfl w7.heap.size 0 rfl cl _ (fun _ h => h.2.2) Try.underlying48 rfl hi48C) hHeld ?_
                    try simp only [Act.put, List.setIfInBounds_toArray, List.set_cons_zero, List.set_cons_succ]
                    refine wpAnyH_ready (rs := [14]) (by kernel_rfl) (by simp) ?_
                    refine AllReadyH.cons (o := { dst := some 115, op := Op.call { callee := Callee.value (Operand.func 11), args := #[Operand.tmp 113, Operand.tmp 114], argTypes := #[48, 48] }, type := 4, pos := "law.go:113", after := #[{ on := 12, ground := Ground.data }, { on := 13, ground := Ground.data }, { on := 8, ground := Ground.chain }, { on := 8, ground := Ground.guard }], guard := some (8, false) }) rfl (fun K hK => ?_) AllReadyH.nil
                    go_simp
                    refine (same_ok esT cl (gAt vs nj) _ HRA.out HRB.out HOKN.out).mono ?_
                    rintro e wx ⟨rfl, hbx⟩
                    have hltT : bT < wr.heap.size := World.block_lt_of_cell? wr ⟨bT, _, none⟩ (hrgT 8 _ hctxT)
                    have hltM : w7.heap.size < wr.heap.size := World.block_lt_of_cell? wr ⟨w7.heap.size, _, none⟩ (hrgM 8 _ hctxM)
                    have hltK : w5.heap.size < wr.heap.size := World.block_lt_of_cell? wr ⟨w5.heap.size, _, none⟩ htk
                    refine hK.out _ _ ⟨(World.cell?_of_block (a := ⟨w5.heap.size, jj, none⟩) (hbx.block _ hltK)).trans htk, rangeAt_kept hrgT (hbx.block _ hltT), rangeAt_kept hrgM (hbx.block _ hltM)⟩ (fun hHeld2 => ?_)
                    clear hK K
                    try simp only [Act.put, List.setIfInBounds_toArray, List.set_cons_zero, List.set_cons_succ]
                    refine wpAnyH_take (i := 15) (oi := { dst := some 116, op := Op.unOp UnOp.not 4 (Operand.tmp 115), type := 4, pos := "law.go:113", after := #[{ on := 14, ground := Ground.data }, { on := 8, ground := Ground.guard }], guard := some (8, false) }) (v := .bool false) rfl (by kernel_rfl) (by kernel_rfl) (by kernel_rfl) (fun _ _ _ h => h) (Or.inl ⟨by rfl, ?_⟩) hHeld2 ?_
                    · (intro w hSw; (try dsimp only at hSw); go_simp)
                    try simp only [Act.put, List.setIfInBounds_toArray, List.set_cons_zero, List.set_cons_succ]
                    refine wpAnyH_take (i := 16) (oi := { dst := some 117, op := Op.pick (Operand.tmp 109) (Operand.const (Value.bool true)) (Operand.tmp 116), type := 4, pos := "law.go:113", after := #[{ on := 8, ground := Ground.data }, { on := 15, ground := Ground.data }], guard := none }) (v := .bool false) rfl (by kernel_rfl) (by kernel_rfl) (by kernel_rfl) (fun _ _ _ h => h) (Or.inl ⟨by rfl, ?_⟩) hHeld2 ?_
                    · (intro w hSw; (try dsimp only at hSw); go_simp)
                    try simp only [Act.put, List.setIfInBounds_toArray, List.set_cons_zero, List.set_cons_succ]
                    refine wpAnyH_done (by kernel_rfl) ?_ _
                    have HAX := hidOf (HAQ.out.to (HBd.out.trans hbx))
                    have hcx2 := hHeld2.1
                    have hfx2 : wx.frozen? ⟨w5.heap.size, jj, none⟩ = false := by simp [World.frozen?, HAX.out.taken]
                    have HAY := hidOf (HAX.out.take HND.out HJJ.out)
                    have HN3 : Hid (q + 1 + (js.take 0 ++ js.drop (0 + 1)).length = q2) := by show _ = _; have := HM.out; simp; omega
                    have HL3 : Hid (∀ j ∈ js.take 0 ++ js.drop (0 + 1), j < q2) := by
                      intro j hj
                      rcases List.mem_append.1 hj with h1 | h1
                      · exact HLT.out j (List.mem_of_mem_take h1)
                      · exact HLT.out j (List.mem_of_mem_drop h1)
                    have HD3 := hidOf (nodup_out 0 HND.out)
                    have hltK2 : w5.heap.size < wx.heap.size := (Array.getElem?_eq_some_iff.1 HAX.out.taken).1
                    clear hHeld hHeld2 hbx hltT hltM hltK hrgT hrgM htk hctxT hctxM hi48T hi48C hesL
                    go_wp2
                    exact ⟨⟨q + 1, js.take 0 ++ js.drop (0 + 1), by go_num, HN3, HD3, HL3, HAY⟩, by simp [intOf]; omega⟩

          · -- all are taken
            have hj0 : js = [] := List.eq_nil_of_length_eq_zero (by have := HM.out; omega)
            subst hj0
            have hm0 : m = 0 := by omega
            subst hm0
            go_wp2_with fail
            refine (len_is W.heap.size _ r 0 _ HA.out.net HLJ.out).mono ?_
            rintro e w6 ⟨rfl, hw⟩
            subst hw
            go_wp2_with fail
            go_loopw [16] (fun i wq => ∃ j : Nat, j ≤ n ∧ i = .int .i64 (j : Int) ∧ Hid (AI W wq W.heap.size r (gAt vs) is [] [] w5.heap.size (.slice a1 n c1))) (fun i _ => n - (intOf i).toNat)
            case atStart => exact ⟨0, Nat.zero_le _, by go_num, HA⟩
            case round =>
              obtain ⟨j, hjn, rfl, HB⟩ := hrel
              by_cases hlt3 : j < n
              · have htk : wr.cell? ⟨w5.heap.size, j, none⟩ = some (.bool true) := by
                  rw [cell_of_row wr _ j _ 4 (0, 0) HB.out.taken, hn0.out, tk_get _ _ _ hlt3]
                  simp
                go_wp2
                exact ⟨⟨j + 1, by omega, by go_num, HB⟩, by simp [intOf]; omega⟩
              · have hje : n ≤ j := by omega
                go_wp2
                go_ret
                exact ⟨rfl, HB.out.below⟩

    · -- all
      obtain ⟨_, hpW, r, hn, hr⟩ := HNG.out
      have hil := HOK.out.1
      rw [cut_all 256 _ (by rw [List.length_map]; omega)] at hn
      have HN := hidOf hn
      have HRR := hidOf hr
      obtain ⟨a1, c1, hv, hc1, hc2⟩ := HSR.out.form
      subst hv
      obtain ⟨n, hn0⟩ : ∃ n, Hid (is.length = n) := ⟨_, hidOf rfl⟩
      have HL : Hid ((is.map (pkG (gAt vs))).length = n) := by show _ = _; rw [List.length_map, hn0.out]
      rw [hn0.out] at hc1 hil ⊢
      have hmk := mk_taken n (by omega)
      clear hn hr
      go_wp2_with fail
      refine (len_any W.heap.size 256 _ r wr HN.out).mono ?_
      rintro e w5 ⟨rfl, hw⟩
      subst hw
      rw [HL.out]
      have HAI := hidOf (show AI W (w5.alloc (.cells (tkA n (List.range n)) 4)) W.heap.size r (gAt vs) is (List.range n) (List.range n) w5.heap.size (.slice a1 n c1) from by
        have hb5 : Below w5.heap.size w5 (w5.alloc (.cells (tkA n (List.range n)) 4)) := (Below.refl _ _).alloc (Nat.le_refl _) _
        refine ⟨HNG.out.1.trans (hb5.mono HNG.out.1.size), ?_, ?_, ?_, HNG.out.1.size, Nat.le_refl _, HRR.out⟩
        · rw [← hn0.out, range_map is (pkG (gAt vs))]; rw [hn0.out]; exact HN.out.grow hb5
        · have := HSR.out.to (w' := w5.alloc (.cells (tkA n (List.range n)) 4)) (fun q _ _ hq => hb5.block q (Array.getElem?_eq_some_iff.1 hq).1)
          rw [hn0.out] at this; exact this
        · rw [hn0.out]; exact heap_alloc_new w5 _)
      clear HSR HNG HN
      go_wp2_with fail
      go_loopw [10] (fun i wq => ∃ q : Nat, ∃ js : List Nat, i = .int .i64 (q : Int) ∧ Hid (q + js.length = n) ∧ Hid (js.Nodup) ∧ Hid (∀ j ∈ js, j < n) ∧ Hid (AI W wq W.heap.size r (gAt vs) is js js w5.heap.size (.slice a1 n c1))) (fun i _ => n - (intOf i).toNat)
      case atStart => exact ⟨0, List.range n, by go_num, by show _ = _; simp, List.nodup_range, by intro j hj; simpa using hj, HAI⟩
      case round =>
        obtain ⟨q, js, rfl, HQN, HND, HLT, HA⟩ := hrel
        obtain ⟨m, HM⟩ : ∃ m, Hid (js.length = m) := ⟨_, hidOf rfl⟩
        have hqm1 : q + m ≤ n := by have := HQN.out; have := HM.out; omega
        have hqm2 : n ≤ q + m := by have := HQN.out; have := HM.out; omega
        have HLJ : Hid ((js.map fun j => pkG (gAt vs) (is.getD j 0)).length = m) := by show _ = _; rw [List.length_map, HM.out]
        clear HQN
        by_cases hpos : 0 < m
        · by_cases hpk : q < ls.length
          · obtain ⟨b2, off2, rfl, hb2, hat2⟩ := HS.out.2 (fun e => by rw [e] at hpk; simp at hpk)
            -- PICKS
            obtain ⟨es2, hrep2, hrg2⟩ := hat2 q hpk
            obtain rfl : es2 = [.int .i64 ls[q]] := hrep2
            have hcx := rangeAt_kept hrg2 (HA.out.below.block b2 hb2) 0 _ rfl
            rw [show wd .num = 1 from rfl, Nat.mul_one, Nat.add_zero] at hcx
            obtain ⟨x, hx⟩ : ∃ x : Int, Hid (ls[q] = x) := ⟨ls[q], hidOf rfl⟩
            rw [hx.out] at hcx
            have hp1 := (pick_in x m hpos).1
            have hp2 := (pick_in x m hpos).2
            obtain ⟨tm, htm⟩ : ∃ tm, x.tmod (m : Int) = tm := ⟨_, rfl⟩
            rw [htm] at hp1 hp2
            have hmz : ¬ (m = 0) := by omega
            have hwr : IntKind.i64.wrap tm = tm := wrap_i tm (by omega) (by omega)
            clear hat2 hrg2 hb2
            by_cases hneg : tm < 0
            · obtain ⟨κ, hκ⟩ : ∃ κ : Nat, tm + (m : Int) = (κ : Int) := ⟨(tm + m).toNat, by omega⟩
              have hκm : κ < m := by omega
              go_wp2_with fail
              refine (len_is W.heap.size _ r m _ HA.out.net HLJ.out).mono ?_
              rintro e w6 ⟨rfl, hw⟩
              subst hw
              have HAD := hidOf (HA.out.to ((Below.refl _ _).drew))
              go_wp2
              go_region_held3 (fun w' => w'.cell? ⟨b2, off2 + q, none⟩ = some (.int .i64 x)) (go_keep) (first | (go_at_call 9; refine (len_is W.heap.size _ r m _ HAD.out.net HLJ.out).mono ?_; rintro e w' ⟨rfl, rfl⟩))
              clear hwr hmz
              go_wp2_with fail
              refine (len_is W.heap.size _ r m _ HAD.out.net HLJ.out).mono ?_
              rintro e w6 ⟨rfl, hw⟩
              subst hw
              have HAE := HAD
              obtain ⟨jj, hjj⟩ : ∃ jj, js[κ]? = some jj := ⟨_, List.getElem?_eq_getElem (by rw [HM.out]; exact hκm)⟩
              have hjn : jj < n := HLT.out jj (List.mem_of_getElem? hjj)
              obtain ⟨nj, hnj⟩ : ∃ nj, is[jj]? = some nj := ⟨_, List.getElem?_eq_getElem (by rw [hn0.out]; exact hjn)⟩
              have HNJ := hidOf hnj
              have HJJ := hidOf hjj
              have HOKN := hidOf (HOK.out.2.1 nj (List.mem_of_getElem? hnj)).2
              obtain ⟨bS, cS, esJ, hvS, _, _, hrepJ, hrgJ0⟩ := HAE.out.sent.at jj nj hnj
              have ha1 : a1 = some ⟨bS, 0, none⟩ := by injection hvS
              subst ha1
              clear hrgJ0 hvS
              have HREPJ := hidOf hrepJ
              clear hrepJ
              obtain ⟨lj, hlj⟩ : ∃ lj, pkG (gAt vs) nj = lj := ⟨_, rfl⟩
              have HDE0 := de_pk (gAt vs) nj HOKN.out
              have HGET0 : (js.map fun j => pkG (gAt vs) (is.getD j 0))[κ]? = some (pkG (gAt vs) nj) := by rw [List.getElem?_map, hjj]; show some (pkG (gAt vs) (is.getD jj 0)) = _; rw [List.getD_eq_getElem?_getD, hnj]; rfl
              rw [hlj] at HDE0 HGET0
              have HDE := hidOf HDE0
              have HGET := hidOf HGET0
              clear HDE0 HGET0 hnj hlj hjj
              go_wp2_with fail
              refine (deliver_ok W.heap.size 256 _ r κ lj _ HAE.out.net HGET.out).mono ?_
              rintro e w7 ⟨cl, vv, he, hrep, hval, hn7, hs7⟩
              have hv : vv = gAt vs nj := (hval HDE.out.1).trans HDE.out.2
              subst hv
              rw [show (js.map fun j => pkG (gAt vs) (is.getD j 0)).take κ ++ (js.map fun j => pkG (gAt vs) (is.getD j 0)).drop (κ + 1) = (js.take κ ++ js.drop (κ + 1)).map fun j => pkG (gAt vs) (is.getD j 0) from by rw [List.map_append, List.map_take, List.map_drop]] at hn7
              have hcs : cl.toArray.size = Zr_msg.size := by rw [List.size_toArray, hrep.len]; kernel_rfl
              have hco : cl.toArray.all (·.oneCell') = true := hrep.all
              have hcl46 : cl.length = 46 := by rw [hrep.len]; kernel_rfl
              have hctx : cl.toArray[8]? = some (.int .i64 (nj : Int)) := by rw [List.getElem?_toArray, (ctx_cells hrep).2.1, ctx_gAt]
              rw [show decide ((de F_msg (some lj)).2 = some []) = true from by simp [HDE.out.1]] at he
              subst he
              have HA7 := hidOf (HAE.out.step hs7 hn7)
              have HREP7 : Hid (Rep w7 (fun b => b < w7.heap.size) F_msg cl (gAt vs nj)) := hrep.kept (Nat.le_refl _) (fun _ _ => rfl) (fun b hb => hb.2.1)
              have HCS := hidOf hcs
              have HCO := hidOf hco
              have HCTX := hidOf hctx
              have HC46 := hidOf hcl46
              have HCI : Hid ((Try.prog.info? 48).map (·.size) = some cl.toArray.size) := by show _ = _; rw [hcs]; exact Zr_msg_i
              clear hn7 hs7 hrep hval hcs hco hctx hcl46 HA HAE HGET
              go_wp2_with (refine wpList_store_rowF rfl 48 (.tmp 12) (.tmp 82) rfl w7.heap.size cl.toArray rfl rfl 48 Zr_msg (heap_alloc_new w7 (.cells Zr_msg 48)) HCI.out HCS.out.symm HCO.out ?next)
              case next =>
                intro w8 hw8h
                have hw8 := hw8h.out
                have hB8 : Below w7.heap.size w7 w8 := by rw [hw8]; exact ((Below.refl _ _).alloc (Nat.le_refl _) _).trans ⟨rfl, rfl, rfl, by simp [World.setRow], fun k hk => setRow_other _ _ _ _ (by omega)⟩
                have G8 := hidOf (show w8.heap[w7.heap.size]? = some (.cells cl.toArray 48 (0, 0)) by rw [hw8]; exact setRow_heap _ _ _ _ 48 _ (heap_alloc_new w7 _))
                have HA8 := hidOf (HA7.out.to hB8)
                have HREP8 : Hid (Rep w8 (fun b => b < w8.heap.size) F_msg cl (gAt vs nj)) := HREP7.out.kept hB8.size (fun b x => hB8.block b x) (fun b x => Nat.lt_of_lt_of_le x hB8.size)
                clear hw8 hw8h hB8 HA7 HREP7
                go_wp2_with fail
                go_loopw [14, 15] (fun at_ j wq => ∃ q2 : Nat, q2 ≤ n ∧ at_ = .int .i64 (atV jj q2) ∧ j = .int .i64 (q2 : Int) ∧ Hid (Below w8.heap.size w8 wq)) (fun _ j _ => n - (intOf j).toNat)
                case atStart => exact ⟨0, Nat.zero_le _, by simp [atV], by go_num, Below.refl _ _⟩
                case round =>
                  obtain ⟨q2, hq2, rfl, rfl, HB9⟩ := hrel
                  by_cases hlt2 : q2 < n
                  · obtain ⟨n2, hn2⟩ : ∃ n2, is[q2]? = some n2 := ⟨_, List.getElem?_eq_getElem (by rw [hn0.out]; exact hlt2)⟩
                    obtain ⟨bT, cT, esT, hvT, _, _, hrT, hrgT⟩ := (HA8.out.to HB9.out).sent.at q2 n2 hn2
                    have hbT : bT = bS := by injection hvT with h1; injection h1 with h2; injection h2 with h3; exact h3.symm
                    subst hbT
                    have c8s := hrgT 8 _ (ctx_cells hrT).2.1
                    rw [ctx_gAt] at c8s
                    have c8m : wr.cell? ⟨w7.heap.size, 8, none⟩ = some (.int .i64 (nj : Int)) := by
                      rw [cell_of_row wr _ 8 _ 48 (0, 0) ((HB9.out.block _ (Array.getElem?_eq_some_iff.1 G8.out).1).trans G8.out)]; exact HCTX.out
                    have HBD := hidOf (HB9.out.trans ((Below.refl w8.heap.size wr).drew))
                    clear hvT hrT hrgT
                    by_cases hqj : q2 = jj
                    · subst hqj
                      have hnn : n2 = nj := by have := HNJ.out; rw [hn2] at this; exact Option.some.inj this
                      subst hnn
                      clear hn2
                      go_wp2
                      go_region
                      go_wp2
                      exact ⟨⟨q2 + 1, by omega, by rw [at_same], by go_num, HBD⟩, by simp [intOf]; omega⟩
                    · have hne := inj_is HOK.out.2.2 hn2 HNJ.out hqj
                      have HAT := hidOf (at_next jj q2 hqj)
                      clear hn2
                      go_wp2
                      go_region
                      go_wp2
                      exact ⟨⟨q2 + 1, by omega, by rw [HAT.out], by go_num, HBD⟩, by simp [intOf]; omega⟩
                  · have hqe : q2 = n := by omega
                    subst hqe
                    rw [at_end jj q2 hjn]
                    have HAQ := hidOf (HA8.out.to HB9.out)
                    obtain ⟨bT, cT, esT, hvT, _, _, hrT, hrgT⟩ := HAQ.out.sent.at jj nj HNJ.out
                    have hbT : bT = bS := by injection hvT with h1; injection h1 with h2; injection h2 with h3; exact h3.symm
                    subst hbT
                    have htk : wr.cell? ⟨w5.heap.size, jj, none⟩ = some (.bool false) := by
                      rw [cell_of_row wr _ jj _ 4 (0, 0) HAQ.out.taken, hn0.out, tk_get _ _ _ hjn]
                      have := List.mem_of_getElem? HJJ.out
                      simp [this]
                    have hrgM : wr.rangeAt w7.heap.size 0 cl := by
                      intro jx u hu
                      rw [cell_of_row wr _ _ _ 48 (0, 0) ((HB9.out.block _ (Array.getElem?_eq_some_iff.1 G8.out).1).trans G8.out), Nat.zero_add, List.getElem?_toArray]
                      exact hu
                    have hBd : Below wr.heap.size wr wr.drew := (Below.refl _ _).drew
                    have HBd := hidOf hBd
                    have hWd : Below W.heap.size W wr.drew := HAQ.out.below.trans (hBd.mono HAQ.out.below.size)
                    have hesL : esT.length = 46 := by rw [hrT.len]; kernel_rfl
                    have HRA : Hid (Rep wr.drew (fun b => b < wr.drew.heap.size) F_msg esT (gAt vs nj)) := hrT.kept hWd.size (fun b x => hWd.block b x) (fun b x => Nat.lt_of_lt_of_le x hWd.size)
                    have hWm : Below w8.heap.size w8 wr.drew := HB9.out.trans (hBd.mono HB9.out.size)
                    have HRB : Hid (Rep wr.drew (fun b => b < wr.drew.heap.size) F_msg cl (gAt vs nj)) := HREP8.out.kept hWm.size (fun b x => hWm.block b x) (fun b x => Nat.lt_of_lt_of_le x hWm.size)
                    have hi48T : (Try.prog.info? 48).map (·.size) = some esT.length := by rw [hesL]; kernel_rfl
                    have hi48C : (Try.prog.info? 48).map (·.size) = some cl.length := by rw [HC46.out]; kernel_rfl
                    have hctxT := (ctx_cells hrT).2.1
                    have hctxM : cl[8]? = some (.int .i64 (nj : Int)) := by have := HCTX.out; rwa [List.getElem?_toArray] at this
                    have hjnn : ¬ ((jj : Int) < 0) := by omega
                    clear hvT hrT hBd hWd hWm
                    go_wp2
                    refine wp_region_held_drew (S := fun w' => w'.cell? ⟨w5.heap.size, jj, none⟩ = some (.bool false) ∧ w'.rangeAt bT (jj * 46) esT ∧ w'.rangeAt w7.heap.size 0 cl) (by kernel_rfl) ⟨htk, hrgT, hrgM⟩ (fun hHeld => ?_)
                    refine wpAnyH_take (i := 0) (oi := { dst := some 101, op := Op.move (Operand.tmp 14), type := 3, pos := "law.go:113", after := #[], guard := none }) (v := .int .i64 (jj : Int)) rfl (by kernel_rfl) (by kernel_rfl) (by kernel_rfl) (fun _ _ _ h => h) (Or.inl ⟨by rfl, ?_⟩) hHeld ?_
                    · (intro w hSw; (try dsimp only at hSw); go_simp)
                    try simp only [Act.put, List.setIfInBounds_toArray, List.set_cons_zero, List.set_cons_succ]
                    refine wpAnyH_take (i := 1) (oi := { dst := some 102, op := Op.binOp BinOp.lss 3 (Operand.tmp 101) (Operand.const (Value.int IntKind.i64 0)) 3, type := 4, pos := "law.go:113", after := #[{ on := 0, ground := Ground.data }], guard := none }) (v := .bool false) rfl (by kernel_rfl) (by kernel_rfl) (by kernel_rfl) (fun _ _ _ h => h) (Or.inl ⟨by rfl, ?_⟩) hHeld ?_
                    · (intro w hSw; (try dsimp only at hSw); go_simp)
                    try simp only [Act.put, List.setIfInBounds_toArray, List.set_cons_zero, List.set_cons_succ]
                    refine wpAnyH_take (i := 2) (oi := { dst := some 103, op := Op.move (Operand.tmp 102), type := 4, pos := "law.go:113", after := #[{ on := 1, ground := Ground.data }], guard := none }) (v := .bool false) rfl (by kernel_rfl) (by kernel_rfl) (by kernel_rfl) (fun _ _ _ h => h) (Or.inl ⟨by rfl, ?_⟩) hHeld ?_
                    · (intro w hSw; (try dsimp only at hSw); go_simp)
                    try simp only [Act.put, List.setIfInBounds_toArray, List.set_cons_zero, List.set_cons_succ]
                    refine wpAnyH_take (i := 3) (oi := { dst := some 104, op := Op.move (Operand.tmp 9), type := 51, pos := "law.go:113", after := #[{ on := 2, ground := Ground.guard }], guard := some (2, false) }) (v := .slice (some ⟨w5.heap.size, 0, none⟩) q2 q2) rfl (by kernel_rfl) (by kernel_rfl) (by kernel_rfl) (fun _ _ _ h => h) (Or.inl ⟨by rfl, ?_⟩) hHeld ?_
                    · (intro w hSw; (try dsimp only at hSw); go_simp)
                    try simp only [Act.put, List.setIfInBounds_toArray, List.set_cons_zero, List.set_cons_succ]
                    refine wpAnyH_take (i := 4) (oi := { dst := some 105, op := Op.move (Operand.tmp 14), type := 3, pos := "law.go:113", after := #[{ on := 2, ground := Ground.guard }], guard := some (2, false) }) (v := .int .i64 (jj : Int)) rfl (by kernel_rfl) (by kernel_rfl) (by kernel_rfl) (fun _ _ _ h => h) (Or.inl ⟨by rfl, ?_⟩) hHeld ?_
                    · (intro w hSw; (try dsimp only at hSw); go_simp)
                    try simp only [Act.put, List.setIfInBounds_toArray, List.set_cons_zero, List.set_cons_succ]
                    refine wpAnyH_take (i := 5) (oi := { dst := some 106, op := Op.indexAddr 51 (Operand.tmp 104) (Operand.tmp 105), type := 0, pos := "law.go:113", after := #[{ on := 3, ground := Ground.data }, { on := 4, ground := Ground.data }, { on := 2, ground := Ground.guard }], guard := some (2, false) }) (v := .pointer (some ⟨w5.heap.size, jj, none⟩)) rfl (by kernel_rfl) (by kernel_rfl) (by kernel_rfl) (fun _ _ _ h => h) (Or.inl ⟨by rfl, ?_⟩) hHeld ?_
                    · (intro w hSw; (try dsimp only at hSw); go_simp)
                    try simp only [Act.put, List.setIfInBounds_toArray, List.set_cons_zero, List.set_cons_succ]
                    refine wpAnyH_take (i := 6) (oi := { dst := some 107, op := Op.load 4 (Operand.tmp 106), type := 4, pos := "law.go:113", after := #[{ on := 5, ground := Ground.data }, { on := 2, ground := Ground.guard }], guard := some (2, false) }) (v := .bool false) rfl (by kernel_rfl) (by kernel_rfl) (by kernel_rfl) (fun _ _ _ h => h) (Or.inl ⟨by rfl, ?_⟩) hHeld ?_
                    · (intro w hSw; (try dsimp only at hSw); go_simp)
                    try simp only [Act.put, List.setIfInBounds_toArray, List.set_cons_zero, List.set_cons_succ]
                    refine wpAnyH_take (i := 7) (oi := { dst := some 108, op := Op.pick (Operand.tmp 103) (Operand.const (Value.bool true)) (Operand.tmp 107), type := 4, pos := "law.go:113", after := #[{ on := 2, ground := Ground.data }, { on := 6, ground := Ground.data }], guard := none }) (v := .bool false) rfl (by kernel_rfl) (by kernel_rfl) (by kernel_rfl) (fun _ _ _ h => h) (Or.inl ⟨by rfl, ?_⟩) hHeld ?_
                    · (intro w hSw; (try dsimp only at hSw); go_simp)
                    try simp only [Act.put, List.setIfInBounds_toArray, List.set_cons_zero, List.set_cons_succ]
                    refine wpAnyH_take (i := 8) (oi := { dst := some 109, op := Op.move (Operand.tmp 108), type := 4, pos := "law.go:113", after := #[{ on := 7, ground := Ground.data }, { on := 2, ground := Ground.chain }], guard := none }) (v := .bool false) rfl (by kernel_rfl) (by kernel_rfl) (by kernel_rfl) (fun _ _ _ h => h) (Or.inl ⟨by rfl, ?_⟩) hHeld ?_
                    · (intro w hSw; (try dsimp only at hSw); go_simp)
                    try simp only [Act.put, List.setIfInBounds_toArray, List.set_cons_zero, List.set_cons_succ]
                    refine wpAnyH_take (i := 9) (oi := { dst := some 110, op := Op.move (Operand.tmp 6), type := 22, pos := "law.go:113", after := #[{ on := 8, ground := Ground.guard }], guard := some (8, false) }) (v := .slice (some ⟨bT, 0, none⟩) q2 c1) rfl (by kernel_rfl) (by kernel_rfl) (by kernel_rfl) (fun _ _ _ h => h) (Or.inl ⟨by rfl, ?_⟩) hHeld ?_
                    · (intro w hSw; (try dsimp only at hSw); go_simp)
                    try simp only [Act.put, List.setIfInBounds_toArray, List.set_cons_zero, List.set_cons_succ]
                    refine wpAnyH_take (i := 10) (oi := { dst := some 111, op := Op.move (Operand.tmp 14), type := 3, pos := "law.go:113", after := #[{ on := 8, ground := Ground.guard }], guard := some (8, false) }) (v := .int .i64 (jj : Int)) rfl (by kernel_rfl) (by kernel_rfl) (by kernel_rfl) (fun _ _ _ h => h) (Or.inl ⟨by rfl, ?_⟩) hHeld ?_
                    · (intro w hSw; (try dsimp only at hSw); go_simp)
                    try simp only [Act.put, List.setIfInBounds_toArray, List.set_cons_zero, List.set_cons_succ]
                    refine wpAnyH_take (i := 11) (oi := { dst := some 112, op := Op.indexAddr 22 (Operand.tmp 110) (Operand.tmp 111), type := 0, pos := "law.go:113", after := #[{ on := 9, ground := Ground.data }, { on := 10, ground := Ground.data }, { on := 8, ground := Ground.guard }], guard := some (8, false) }) (v := .pointer (some ⟨bT, jj * 46, none⟩)) rfl (by kernel_rfl) (by kernel_rfl) (by kernel_rfl) (fun _ _ _ h => h) (Or.inl ⟨by rfl, ?_⟩) hHeld ?_
                    · (intro w hSw; (try dsimp only at hSw); go_simp)
                    try simp only [Act.put, List.setIfInBounds_toArray, List.set_cons_zero, List.set_cons_succ]
                    refine wpAnyH_take (i := 12) (oi := { dst := some 113, op := Op.load 48 (Operand.tmp 112), type := 48, pos := "law.go:113", after := #[{ on := 11, ground := Ground.data }, { on := 8, ground := Ground.guard }], guard := some (8, false) }) (v := .agg esT.toArray) rfl (by kernel_rfl) (by kernel_rfl) (by kernel_rfl) (fun _ _ _ h => h) (yieldsIf_load_mid (by rfl) 48 (.tmp 112) rfl bT (jj * 46) rfl esT _ (fun _ h => h.2.1) Try.underlying48 rfl hi48T) hHeld ?_
                    try simp only [Act.put, List.setIfInBounds_toArray, List.set_cons_zero, List.set_cons_succ]
                    refine wpAnyH_take (i := 13) (oi := { dst := some 114, op := Op.load 48 (Operand.tmp 12), type := 48, pos := "law.go:113", after := #[{ on := 8, ground := Ground.guard }], guard := some (8, false) }) (v := .agg cl.toArray) rfl (by kernel_rfl) (by kernel_rfl) (by kernel_rfl) (fun _ _ _ h => h) (yieldsIf_load_mid (by rfl) 48 (.tmp 12) rfl w7.heap.size 0 rfl cl _ (fun _ h => h.2.2) Try.underlying48 rfl hi48C) hHeld ?_
                    try simp only [Act.put, List.setIfInBounds_toArray, List.set_cons_zero, List.set_cons_succ]
                    refine wpAnyH_ready (rs := [14]) (by kernel_rfl) (by simp) ?_
                    refine AllReadyH.cons (o := { dst := some 115, op := Op.call { callee := Callee.value (Operand.func 11), args := #[Operand.tmp 113, Operand.tmp 114], argTypes := #[48, 48] }, type := 4, pos := "law.go:113", after := #[{ on := 12, ground := Ground.data }, { on := 13, ground := Ground.data }, { on := 8, ground := Ground.chain }, { on := 8, ground := Ground.guard }], guard := some (8, false) }) rfl (fun K hK => ?_) AllReadyH.nil
                    go_simp
                    refine (same_ok esT cl (gAt vs nj) _ HRA.out HRB.out HOKN.out).mono ?_
                    rintro e wx ⟨rfl, hbx⟩
                    have hltT : bT < wr.heap.size := World.block_lt_of_cell? wr ⟨bT, _, none⟩ (hrgT 8 _ hctxT)
                    have hltM : w7.heap.size < wr.heap.size := World.block_lt_of_cell? wr ⟨w7.heap.size, _, none⟩ (hrgM 8 _ hctxM)
                    have hltK : w5.heap.size < wr.heap.size := World.block_lt_of_cell? wr ⟨w5.heap.size, _, none⟩ htk
                    refine hK.out _ _ ⟨(World.cell?_of_block (a := ⟨w5.heap.size, jj, none⟩) (hbx.block _ hltK)).trans htk, rangeAt_kept hrgT (hbx.block _ hltT), rangeAt_kept hrgM (hbx.block _ hltM)⟩ (fun hHeld2 => ?_)
                    clear hK K
                    try simp only [Act.put, List.setIfInBounds_toArray, List.set_cons_zero, List.set_cons_succ]
                    refine wpAnyH_take (i := 15) (oi := { dst := some 116, op := Op.unOp UnOp.not 4 (Operand.tmp 115), type := 4, pos := "law.go:113", after := #[{ on := 14, ground := Ground.data }, { on := 8, ground := Ground.guard }], guard := some (8, false) }) (v := .bool false) rfl (by kernel_rfl) (by kernel_rfl) (by kernel_rfl) (fun _ _ _ h => h) (Or.inl ⟨by rfl, ?_⟩) hHeld2 ?_
                    · (intro w hSw; (try dsimp only at hSw); go_simp)
                    try simp only [Act.put, List.setIfInBounds_toArray, List.set_cons_zero, List.set_cons_succ]
                    refine wpAnyH_take (i := 16) (oi := { dst := some 117, op := Op.pick (Operand.tmp 109) (Operand.const (Value.bool true)) (Operand.tmp 116), type := 4, pos := "law.go:113", after := #[{ on := 8, ground := Ground.data }, { on := 15, ground := Ground.data }], guard := none }) (v := .bool false) rfl (by kernel_rfl) (by kernel_rfl) (by kernel_rfl) (fun _ _ _ h => h) (Or.inl ⟨by rfl, ?_⟩) hHeld2 ?_
                    · (intro w hSw; (try dsimp only at hSw); go_simp)
                    try simp only [Act.put, List.setIfInBounds_toArray, List.set_cons_zero, List.set_cons_succ]
                    refine wpAnyH_done (by kernel_rfl) ?_ _
                    have HAX := hidOf (HAQ.out.to (HBd.out.trans hbx))
                    have hcx2 := hHeld2.1
                    have hfx2 : wx.frozen? ⟨w5.heap.size, jj, none⟩ = false := by simp [World.frozen?, HAX.out.taken]
                    have HAY := hidOf (HAX.out.take HND.out HJJ.out)
                    have HN3 : Hid (q + 1 + (js.take κ ++ js.drop (κ + 1)).length = q2) := by show _ = _; have := HM.out; simp; omega
                    have HL3 : Hid (∀ j ∈ js.take κ ++ js.drop (κ + 1), j < q2) := by
                      intro j hj
                      rcases List.mem_append.1 hj with h1 | h1
                      · exact HLT.out j (List.mem_of_mem_take h1)
                      · exact HLT.out j (List.mem_of_mem_drop h1)
                    have HD3 := hidOf (nodup_out κ HND.out)
                    have hltK2 : w5.heap.size < wx.heap.size := (Array.getElem?_eq_some_iff.1 HAX.out.taken).1
                    clear hHeld hHeld2 hbx hltT hltM hltK hrgT hrgM htk hctxT hctxM hi48T hi48C hesL
                    go_wp2
                    exact ⟨⟨q + 1, js.take κ ++ js.drop (κ + 1), by go_num, HN3, HD3, HL3, HAY⟩, by simp [intOf]; omega⟩

            · obtain ⟨κ, hκ0⟩ : ∃ κ : Nat, tm = (κ : Int) := ⟨tm.toNat, by omega⟩
              have hκm : κ < m := by omega
              have HK := hidOf hκ0
              clear hκ0
              go_wp2_with fail
              refine (len_is W.heap.size _ r m _ HA.out.net HLJ.out).mono ?_
              rintro e w6 ⟨rfl, hw⟩
              subst hw
              have HAD := hidOf (HA.out.to ((Below.refl _ _).drew))
              go_wp2
              go_region_held3 (fun w' => w'.cell? ⟨b2, off2 + q, none⟩ = some (.int .i64 x)) (go_keep) (first | (go_at_call 9; refine (len_is W.heap.size _ r m _ HAD.out.net HLJ.out).mono ?_; rintro e w' ⟨rfl, rfl⟩))
              clear hwr hmz
              have hκ1 := HK.out
              clear HK
              subst hκ1
              have HAE := HAD
              obtain ⟨jj, hjj⟩ : ∃ jj, js[κ]? = some jj := ⟨_, List.getElem?_eq_getElem (by rw [HM.out]; exact hκm)⟩
              have hjn : jj < n := HLT.out jj (List.mem_of_getElem? hjj)
              obtain ⟨nj, hnj⟩ : ∃ nj, is[jj]? = some nj := ⟨_, List.getElem?_eq_getElem (by rw [hn0.out]; exact hjn)⟩
              have HNJ := hidOf hnj
              have HJJ := hidOf hjj
              have HOKN := hidOf (HOK.out.2.1 nj (List.mem_of_getElem? hnj)).2
              obtain ⟨bS, cS, esJ, hvS, _, _, hrepJ, hrgJ0⟩ := HAE.out.sent.at jj nj hnj
              have ha1 : a1 = some ⟨bS, 0, none⟩ := by injection hvS
              subst ha1
              clear hrgJ0 hvS
              have HREPJ := hidOf hrepJ
              clear hrepJ
              obtain ⟨lj, hlj⟩ : ∃ lj, pkG (gAt vs) nj = lj := ⟨_, rfl⟩
              have HDE0 := de_pk (gAt vs) nj HOKN.out
              have HGET0 : (js.map fun j => pkG (gAt vs) (is.getD j 0))[κ]? = some (pkG (gAt vs) nj) := by rw [List.getElem?_map, hjj]; show some (pkG (gAt vs) (is.getD jj 0)) = _; rw [List.getD_eq_getElem?_getD, hnj]; rfl
              rw [hlj] at HDE0 HGET0
              have HDE := hidOf HDE0
              have HGET := hidOf HGET0
              clear HDE0 HGET0 hnj hlj hjj
              go_wp2_with fail
              refine (deliver_ok W.heap.size 256 _ r κ lj _ HAE.out.net HGET.out).mono ?_
              rintro e w7 ⟨cl, vv, he, hrep, hval, hn7, hs7⟩
              have hv : vv = gAt vs nj := (hval HDE.out.1).trans HDE.out.2
              subst hv
              rw [show (js.map fun j => pkG (gAt vs) (is.getD j 0)).take κ ++ (js.map fun j => pkG (gAt vs) (is.getD j 0)).drop (κ + 1) = (js.take κ ++ js.drop (κ + 1)).map fun j => pkG (gAt vs) (is.getD j 0) from by rw [List.map_append, List.map_take, List.map_drop]] at hn7
              have hcs : cl.toArray.size = Zr_msg.size := by rw [List.size_toArray, hrep.len]; kernel_rfl
              have hco : cl.toArray.all (·.oneCell') = true := hrep.all
              have hcl46 : cl.length = 46 := by rw [hrep.len]; kernel_rfl
              have hctx : cl.toArray[8]? = some (.int .i64 (nj : Int)) := by rw [List.getElem?_toArray, (ctx_cells hrep).2.1, ctx_gAt]
              rw [show decide ((de F_msg (some lj)).2 = some []) = true from by simp [HDE.out.1]] at he
              subst he
              have HA7 := hidOf (HAE.out.step hs7 hn7)
              have HREP7 : Hid (Rep w7 (fun b => b < w7.heap.size) F_msg cl (gAt vs nj)) := hrep.kept (Nat.le_refl _) (fun _ _ => rfl) (fun b hb => hb.2.1)
              have HCS := hidOf hcs
              have HCO := hidOf hco
              have HCTX := hidOf hctx
              have HC46 := hidOf hcl46
              have HCI : Hid ((Try.prog.info? 48).map (·.size) = some cl.toArray.size) := by show _ = _; rw [hcs]; exact Zr_msg_i
              clear hn7 hs7 hrep hval hcs hco hctx hcl46 HA HAE HGET
              go_wp2_with (refine wpList_store_rowF rfl 48 (.tmp 12) (.tmp 82) rfl w7.heap.size cl.toArray rfl rfl 48 Zr_msg (heap_alloc_new w7 (.cells Zr_msg 48)) HCI.out HCS.out.symm HCO.out ?next)
              case next =>
                intro w8 hw8h
                have hw8 := hw8h.out
                have hB8 : Below w7.heap.size w7 w8 := by rw [hw8]; exact ((Below.refl _ _).alloc (Nat.le_refl _) _).trans ⟨rfl, rfl, rfl, by simp [World.setRow], fun k hk => setRow_other _ _ _ _ (by omega)⟩
                have G8 := hidOf (show w8.heap[w7.heap.size]? = some (.cells cl.toArray 48 (0, 0)) by rw [hw8]; exact setRow_heap _ _ _ _ 48 _ (heap_alloc_new w7 _))
                have HA8 := hidOf (HA7.out.to hB8)
                have HREP8 : Hid (Rep w8 (fun b => b < w8.heap.size) F_msg cl (gAt vs nj)) := HREP7.out.kept hB8.size (fun b x => hB8.block b x) (fun b x => Nat.lt_of_lt_of_le x hB8.size)
                clear hw8 hw8h hB8 HA7 HREP7
                go_wp2_with fail
                go_loopw [14, 15] (fun at_ j wq => ∃ q2 : Nat, q2 ≤ n ∧ at_ = .int .i64 (atV jj q2) ∧ j = .int .i64 (q2 : Int) ∧ Hid (Below w8.heap.size w8 wq)) (fun _ j _ => n - (intOf j).toNat)
                case atStart => exact ⟨0, Nat.zero_le _, by simp [atV], by go_num, Below.refl _ _⟩
                case round =>
                  obtain ⟨q2, hq2, rfl, rfl, HB9⟩ := hrel
                  by_cases hlt2 : q2 < n
                  · obtain ⟨n2, hn2⟩ : ∃ n2, is[q2]? = some n2 := ⟨_, List.getElem?_eq_getElem (by rw [hn0.out]; exact hlt2)⟩
                    obtain ⟨bT, cT, esT, hvT, _, _, hrT, hrgT⟩ := (HA8.out.to HB9.out).sent.at q2 n2 hn2
                    have hbT : bT = bS := by injection hvT with h1; injection h1 with h2; injection h2 with h3; exact h3.symm
                    subst hbT
                    have c8s := hrgT 8 _ (ctx_cells hrT).2.1
                    rw [ctx_gAt] at c8s
                    have c8m : wr.cell? ⟨w7.heap.size, 8, none⟩ = some (.int .i64 (nj : Int)) := by
                      rw [cell_of_row wr _ 8 _ 48 (0, 0) ((HB9.out.block _ (Array.getElem?_eq_some_iff.1 G8.out).1).trans G8.out)]; exact HCTX.out
                    have HBD := hidOf (HB9.out.trans ((Below.refl w8.heap.size wr).drew))
                    clear hvT hrT hrgT
                    by_cases hqj : q2 = jj
                    · subst hqj
                      have hnn : n2 = nj := by have := HNJ.out; rw [hn2] at this; exact Option.some.inj this
                      subst hnn
                      clear hn2
                      go_wp2
                      go_region
                      go_wp2
                      exact ⟨⟨q2 + 1, by omega, by rw [at_same], by go_num, HBD⟩, by simp [intOf]; omega⟩
                    · have hne := inj_is HOK.out.2.2 hn2 HNJ.out hqj
                      have HAT := hidOf (at_next jj q2 hqj)
                      clear hn2
                      go_wp2
                      go_region
                      go_wp2
                      exact ⟨⟨q2 + 1, by omega, by rw [HAT.out], by go_num, HBD⟩, by simp [intOf]; omega⟩
                  · have hqe : q2 = n := by omega
                    subst hqe
                    rw [at_end jj q2 hjn]
                    have HAQ := hidOf (HA8.out.to HB9.out)
                    obtain ⟨bT, cT, esT, hvT, _, _, hrT, hrgT⟩ := HAQ.out.sent.at jj nj HNJ.out
                    have hbT : bT = bS := by injection hvT with h1; injection h1 with h2; injection h2 with h3; exact h3.symm
                    subst hbT
                    have htk : wr.cell? ⟨w5.heap.size, jj, none⟩ = some (.bool false) := by
                      rw [cell_of_row wr _ jj _ 4 (0, 0) HAQ.out.taken, hn0.out, tk_get _ _ _ hjn]
                      have := List.mem_of_getElem? HJJ.out
                      simp [this]
                    have hrgM : wr.rangeAt w7.heap.size 0 cl := by
                      intro jx u hu
                      rw [cell_of_row wr _ _ _ 48 (0, 0) ((HB9.out.block _ (Array.getElem?_eq_some_iff.1 G8.out).1).trans G8.out), Nat.zero_add, List.getElem?_toArray]
                      exact hu
                    have hBd : Below wr.heap.size wr wr.drew := (Below.refl _ _).drew
                    have HBd := hidOf hBd
                    have hWd : Below W.heap.size W wr.drew := HAQ.out.below.trans (hBd.mono HAQ.out.below.size)
                    have hesL : esT.length = 46 := by rw [hrT.len]; kernel_rfl
                    have HRA : Hid (Rep wr.drew (fun b => b < wr.drew.heap.size) F_msg esT (gAt vs nj)) := hrT.kept hWd.size (fun b x => hWd.block b x) (fun b x => Nat.lt_of_lt_of_le x hWd.size)
                    have hWm : Below w8.heap.size w8 wr.drew := HB9.out.trans (hBd.mono HB9.out.size)
                    have HRB : Hid (Rep wr.drew (fun b => b < wr.drew.heap.size) F_msg cl (gAt vs nj)) := HREP8.out.kept hWm.size (fun b x => hWm.block b x) (fun b x => Nat.lt_of_lt_of_le x hWm.size)
                    have hi48T : (Try.prog.info? 48).map (·.size) = some esT.length := by rw [hesL]; kernel_rfl
                    have hi48C : (Try.prog.info? 48).map (·.size) = some cl.length := by rw [HC46.out]; kernel_rfl
                    have hctxT := (ctx_cells hrT).2.1
                    have hctxM : cl[8]? = some (.int .i64 (nj : Int)) := by have := HCTX.out; rwa [List.getElem?_toArray] at this
                    have hjnn : ¬ ((jj : Int) < 0) := by omega
                    clear hvT hrT hBd hWd hWm
                    go_wp2
                    refine wp_region_held_drew (S := fun w' => w'.cell? ⟨w5.heap.size, jj, none⟩ = some (.bool false) ∧ w'.rangeAt bT (jj * 46) esT ∧ w'.rangeAt w7.heap.size 0 cl) (by kernel_rfl) ⟨htk, hrgT, hrgM⟩ (fun hHeld => ?_)
                    refine wpAnyH_take (i := 0) (oi := { dst := some 101, op := Op.move (Operand.tmp 14), type := 3, pos := "law.go:113", after := #[], guard := none }) (v := .int .i64 (jj : Int)) rfl (by kernel_rfl) (by kernel_rfl) (by kernel_rfl) (fun _ _ _ h => h) (Or.inl ⟨by rfl, ?_⟩) hHeld ?_
                    · (intro w hSw; (try dsimp only at hSw); go_simp)
                    try simp only [Act.put, List.setIfInBounds_toArray, List.set_cons_zero, List.set_cons_succ]
                    refine wpAnyH_take (i := 1) (oi := { dst := some 102, op := Op.binOp BinOp.lss 3 (Operand.tmp 101) (Operand.const (Value.int IntKind.i64 0)) 3, type := 4, pos := "law.go:113", after := #[{ on := 0, ground := Ground.data }], guard := none }) (v := .bool false) rfl (by kernel_rfl) (by kernel_rfl) (by kernel_rfl) (fun _ _ _ h => h) (Or.inl ⟨by rfl, ?_⟩) hHeld ?_
                    · (intro w hSw; (try dsimp only at hSw); go_simp)
                    try simp only [Act.put, List.setIfInBounds_toArray, List.set_cons_zero, List.set_cons_succ]
                    refine wpAnyH_take (i := 2) (oi := { dst := some 103, op := Op.move (Operand.tmp 102), type := 4, pos := "law.go:113", after := #[{ on := 1, ground := Ground.data }], guard := none }) (v := .bool false) rfl (by kernel_rfl) (by kernel_rfl) (by kernel_rfl) (fun _ _ _ h => h) (Or.inl ⟨by rfl, ?_⟩) hHeld ?_
                    · (intro w hSw; (try dsimp only at hSw); go_simp)
                    try simp only [Act.put, List.setIfInBounds_toArray, List.set_cons_zero, List.set_cons_succ]
                    refine wpAnyH_take (i := 3) (oi := { dst := some 104, op := Op.move (Operand.tmp 9), type := 51, pos := "law.go:113", after := #[{ on := 2, ground := Ground.guard }], guard := some (2, false) }) (v := .slice (some ⟨w5.heap.size, 0, none⟩) q2 q2) rfl (by kernel_rfl) (by kernel_rfl) (by kernel_rfl) (fun _ _ _ h => h) (Or.inl ⟨by rfl, ?_⟩) hHeld ?_
                    · (intro w hSw; (try dsimp only at hSw); go_simp)
                    try simp only [Act.put, List.setIfInBounds_toArray, List.set_cons_zero, List.set_cons_succ]
                    refine wpAnyH_take (i := 4) (oi := { dst := some 105, op := Op.move (Operand.tmp 14), type := 3, pos := "law.go:113", after := #[{ on := 2, ground := Ground.guard }], guard := some (2, false) }) (v := .int .i64 (jj : Int)) rfl (by kernel_rfl) (by kernel_rfl) (by kernel_rfl) (fun _ _ _ h => h) (Or.inl ⟨by rfl, ?_⟩) hHeld ?_
                    · (intro w hSw; (try dsimp only at hSw); go_simp)
                    try simp only [Act.put, List.setIfInBounds_toArray, List.set_cons_zero, List.set_cons_succ]
                    refine wpAnyH_take (i := 5) (oi := { dst := some 106, op := Op.indexAddr 51 (Operand.tmp 104) (Operand.tmp 105), type := 0, pos := "law.go:113", after := #[{ on := 3, ground := Ground.data }, { on := 4, ground := Ground.data }, { on := 2, ground := Ground.guard }], guard := some (2, false) }) (v := .pointer (some ⟨w5.heap.size, jj, none⟩)) rfl (by kernel_rfl) (by kernel_rfl) (by kernel_rfl) (fun _ _ _ h => h) (Or.inl ⟨by rfl, ?_⟩) hHeld ?_
                    · (intro w hSw; (try dsimp only at hSw); go_simp)
                    try simp only [Act.put, List.setIfInBounds_toArray, List.set_cons_zero, List.set_cons_succ]
                    refine wpAnyH_take (i := 6) (oi := { dst := some 107, op := Op.load 4 (Operand.tmp 106), type := 4, pos := "law.go:113", after := #[{ on := 5, ground := Ground.data }, { on := 2, ground := Ground.guard }], guard := some (2, false) }) (v := .bool false) rfl (by kernel_rfl) (by kernel_rfl) (by kernel_rfl) (fun _ _ _ h => h) (Or.inl ⟨by rfl, ?_⟩) hHeld ?_
                    · (intro w hSw; (try dsimp only at hSw); go_simp)
                    try simp only [Act.put, List.setIfInBounds_toArray, List.set_cons_zero, List.set_cons_succ]
                    refine wpAnyH_take (i := 7) (oi := { dst := some 108, op := Op.pick (Operand.tmp 103) (Operand.const (Value.bool true)) (Operand.tmp 107), type := 4, pos := "law.go:113", after := #[{ on := 2, ground := Ground.data }, { on := 6, ground := Ground.data }], guard := none }) (v := .bool false) rfl (by kernel_rfl) (by kernel_rfl) (by kernel_rfl) (fun _ _ _ h => h) (Or.inl ⟨by rfl, ?_⟩) hHeld ?_
                    · (intro w hSw; (try dsimp only at hSw); go_simp)
                    try simp only [Act.put, List.setIfInBounds_toArray, List.set_cons_zero, List.set_cons_succ]
                    refine wpAnyH_take (i := 8) (oi := { dst := some 109, op := Op.move (Operand.tmp 108), type := 4, pos := "law.go:113", after := #[{ on := 7, ground := Ground.data }, { on := 2, ground := Ground.chain }], guard := none }) (v := .bool false) rfl (by kernel_rfl) (by kernel_rfl) (by kernel_rfl) (fun _ _ _ h => h) (Or.inl ⟨by rfl, ?_⟩) hHeld ?_
                    · (intro w hSw; (try dsimp only at hSw); go_simp)
                    try simp only [Act.put, List.setIfInBounds_toArray, List.set_cons_zero, List.set_cons_succ]
                    refine wpAnyH_take (i := 9) (oi := { dst := some 110, op := Op.move (Operand.tmp 6), type := 22, pos := "law.go:113", after := #[{ on := 8, ground := Ground.guard }], guard := some (8, false) }) (v := .slice (some ⟨bT, 0, none⟩) q2 c1) rfl (by kernel_rfl) (by kernel_rfl) (by kernel_rfl) (fun _ _ _ h => h) (Or.inl ⟨by rfl, ?_⟩) hHeld ?_
                    · (intro w hSw; (try dsimp only at hSw); go_simp)
                    try simp only [Act.put, List.setIfInBounds_toArray, List.set_cons_zero, List.set_cons_succ]
                    refine wpAnyH_take (i := 10) (oi := { dst := some 111, op := Op.move (Operand.tmp 14), type := 3, pos := "law.go:113", after := #[{ on := 8, ground := Ground.guard }], guard := some (8, false) }) (v := .int .i64 (jj : Int)) rfl (by kernel_rfl) (by kernel_rfl) (by kernel_rfl) (fun _ _ _ h => h) (Or.inl ⟨by rfl, ?_⟩) hHeld ?_
                    · (intro w hSw; (try dsimp only at hSw); go_simp)
                    try simp only [Act.put, List.setIfInBounds_toArray, List.set_cons_zero, List.set_cons_succ]
                    refine wpAnyH_take (i := 11) (oi := { dst := some 112, op := Op.indexAddr 22 (Operand.tmp 110) (Operand.tmp 111), type := 0, pos := "law.go:113", after := #[{ on := 9, ground := Ground.data }, { on := 10, ground := Ground.data }, { on := 8, ground := Ground.guard }], guard := some (8, false) }) (v := .pointer (some ⟨bT, jj * 46, none⟩)) rfl (by kernel_rfl) (by kernel_rfl) (by kernel_rfl) (fun _ _ _ h => h) (Or.inl ⟨by rfl, ?_⟩) hHeld ?_
                    · (intro w hSw; (try dsimp only at hSw); go_simp)
                    try simp only [Act.put, List.setIfInBounds_toArray, List.set_cons_zero, List.set_cons_succ]
                    refine wpAnyH_take (i := 12) (oi := { dst := some 113, op := Op.load 48 (Operand.tmp 112), type := 48, pos := "law.go:113", after := #[{ on := 11, ground := Ground.data }, { on := 8, ground := Ground.guard }], guard := some (8, false) }) (v := .agg esT.toArray) rfl (by kernel_rfl) (by kernel_rfl) (by kernel_rfl) (fun _ _ _ h => h) (yieldsIf_load_mid (by rfl) 48 (.tmp 112) rfl bT (jj * 46) rfl esT _ (fun _ h => h.2.1) Try.underlying48 rfl hi48T) hHeld ?_
                    try simp only [Act.put, List.setIfInBounds_toArray, List.set_cons_zero, List.set_cons_succ]
                    refine wpAnyH_take (i := 13) (oi := { dst := some 114, op := Op.load 48 (Operand.tmp 12), type := 48, pos := "law.go:113", after := #[{ on := 8, ground := Ground.guard }], guard := some (8, false) }) (v := .agg cl.toArray) rfl (by kernel_rfl) (by kernel_rfl) (by kernel_rfl) (fun _ _ _ h => h) (yieldsIf_load_mid (by rfl) 48 (.tmp 12) rfl w7.heap.size 0 rfl cl _ (fun _ h => h.2.2) Try.underlying48 rfl hi48C) hHeld ?_
                    try simp only [Act.put, List.setIfInBounds_toArray, List.set_cons_zero, List.set_cons_succ]
                    refine wpAnyH_ready (rs := [14]) (by kernel_rfl) (by simp) ?_
                    refine AllReadyH.cons (o := { dst := some 115, op := Op.call { callee := Callee.value (Operand.func 11), args := #[Operand.tmp 113, Operand.tmp 114], argTypes := #[48, 48] }, type := 4, pos := "law.go:113", after := #[{ on := 12, ground := Ground.data }, { on := 13, ground := Ground.data }, { on := 8, ground := Ground.chain }, { on := 8, ground := Ground.guard }], guard := some (8, false) }) rfl (fun K hK => ?_) AllReadyH.nil
                    go_simp
                    refine (same_ok esT cl (gAt vs nj) _ HRA.out HRB.out HOKN.out).mono ?_
                    rintro e wx ⟨rfl, hbx⟩
                    have hltT : bT < wr.heap.size := World.block_lt_of_cell? wr ⟨bT, _, none⟩ (hrgT 8 _ hctxT)
                    have hltM : w7.heap.size < wr.heap.size := World.block_lt_of_cell? wr ⟨w7.heap.size, _, none⟩ (hrgM 8 _ hctxM)
                    have hltK : w5.heap.size < wr.heap.size := World.block_lt_of_cell? wr ⟨w5.heap.size, _, none⟩ htk
                    refine hK.out _ _ ⟨(World.cell?_of_block (a := ⟨w5.heap.size, jj, none⟩) (hbx.block _ hltK)).trans htk, rangeAt_kept hrgT (hbx.block _ hltT), rangeAt_kept hrgM (hbx.block _ hltM)⟩ (fun hHeld2 => ?_)
                    clear hK K
                    try simp only [Act.put, List.setIfInBounds_toArray, List.set_cons_zero, List.set_cons_succ]
                    refine wpAnyH_take (i := 15) (oi := { dst := some 116, op := Op.unOp UnOp.not 4 (Operand.tmp 115), type := 4, pos := "law.go:113", after := #[{ on := 14, ground := Ground.data }, { on := 8, ground := Ground.guard }], guard := some (8, false) }) (v := .bool false) rfl (by kernel_rfl) (by kernel_rfl) (by kernel_rfl) (fun _ _ _ h => h) (Or.inl ⟨by rfl, ?_⟩) hHeld2 ?_
                    · (intro w hSw; (try dsimp only at hSw); go_simp)
                    try simp only [Act.put, List.setIfInBounds_toArray, List.set_cons_zero, List.set_cons_succ]
                    refine wpAnyH_take (i := 16) (oi := { dst := some 117, op := Op.pick (Operand.tmp 109) (Operand.const (Value.bool true)) (Operand.tmp 116), type := 4, pos := "law.go:113", after := #[{ on := 8, ground := Ground.data }, { on := 15, ground := Ground.data }], guard := none }) (v := .bool false) rfl (by kernel_rfl) (by kernel_rfl) (by kernel_rfl) (fun _ _ _ h => h) (Or.inl ⟨by rfl, ?_⟩) hHeld2 ?_
                    · (intro w hSw; (try dsimp only at hSw); go_simp)
                    try simp only [Act.put, List.setIfInBounds_toArray, List.set_cons_zero, List.set_cons_succ]
                    refine wpAnyH_done (by kernel_rfl) ?_ _
                    have HAX := hidOf (HAQ.out.to (HBd.out.trans hbx))
                    have hcx2 := hHeld2.1
                    have hfx2 : wx.frozen? ⟨w5.heap.size, jj, none⟩ = false := by simp [World.frozen?, HAX.out.taken]
                    have HAY := hidOf (HAX.out.take HND.out HJJ.out)
                    have HN3 : Hid (q + 1 + (js.take κ ++ js.drop (κ + 1)).length = q2) := by show _ = _; have := HM.out; simp; omega
                    have HL3 : Hid (∀ j ∈ js.take κ ++ js.drop (κ + 1), j < q2) := by
                      intro j hj
                      rcases List.mem_append.1 hj with h1 | h1
                      · exact HLT.out j (List.mem_of_mem_take h1)
                      · exact HLT.out j (List.mem_of_mem_drop h1)
                    have HD3 := hidOf (nodup_out κ HND.out)
                    have hltK2 : w5.heap.size < wx.heap.size := (Array.getElem?_eq_some_iff.1 HAX.out.taken).1
                    clear hHeld hHeld2 hbx hltT hltM hltK hrgT hrgM htk hctxT hctxM hi48T hi48C hesL
                    go_wp2
                    exact ⟨⟨q + 1, js.take κ ++ js.drop (κ + 1), by go_num, HN3, HD3, HL3, HAY⟩, by simp [intOf]; omega⟩

          · -- NOPICKS
            have hκm : 0 < m := hpos
            go_wp2_with fail
            refine (len_is W.heap.size _ r m _ HA.out.net HLJ.out).mono ?_
            rintro e w6 ⟨rfl, hw⟩
            subst hw
            have HAE := HA
            obtain ⟨jj, hjj⟩ : ∃ jj, js[0]? = some jj := ⟨_, List.getElem?_eq_getElem (by rw [HM.out]; exact hκm)⟩
            have hjn : jj < n := HLT.out jj (List.mem_of_getElem? hjj)
            obtain ⟨nj, hnj⟩ : ∃ nj, is[jj]? = some nj := ⟨_, List.getElem?_eq_getElem (by rw [hn0.out]; exact hjn)⟩
            have HNJ := hidOf hnj
            have HJJ := hidOf hjj
            have HOKN := hidOf (HOK.out.2.1 nj (List.mem_of_getElem? hnj)).2
            obtain ⟨bS, cS, esJ, hvS, _, _, hrepJ, hrgJ0⟩ := HAE.out.sent.at jj nj hnj
            have ha1 : a1 = some ⟨bS, 0, none⟩ := by injection hvS
            subst ha1
            clear hrgJ0 hvS
            have HREPJ := hidOf hrepJ
            clear hrepJ
            obtain ⟨lj, hlj⟩ : ∃ lj, pkG (gAt vs) nj = lj := ⟨_, rfl⟩
            have HDE0 := de_pk (gAt vs) nj HOKN.out
            have HGET0 : (js.map fun j => pkG (gAt vs) (is.getD j 0))[0]? = some (pkG (gAt vs) nj) := by rw [List.getElem?_map, hjj]; show some (pkG (gAt vs) (is.getD jj 0)) = _; rw [List.getD_eq_getElem?_getD, hnj]; rfl
            rw [hlj] at HDE0 HGET0
            have HDE := hidOf HDE0
            have HGET := hidOf HGET0
            clear HDE0 HGET0 hnj hlj hjj
            go_wp2_with fail
            refine (deliver_ok W.heap.size 256 _ r 0 lj _ HAE.out.net HGET.out).mono ?_
            rintro e w7 ⟨cl, vv, he, hrep, hval, hn7, hs7⟩
            have hv : vv = gAt vs nj := (hval HDE.out.1).trans HDE.out.2
            subst hv
            rw [show (js.map fun j => pkG (gAt vs) (is.getD j 0)).take 0 ++ (js.map fun j => pkG (gAt vs) (is.getD j 0)).drop (0 + 1) = (js.take 0 ++ js.drop (0 + 1)).map fun j => pkG (gAt vs) (is.getD j 0) from by rw [List.map_append, List.map_take, List.map_drop]] at hn7
            have hcs : cl.toArray.size = Zr_msg.size := by rw [List.size_toArray, hrep.len]; kernel_rfl
            have hco : cl.toArray.all (·.oneCell') = true := hrep.all
            have hcl46 : cl.length = 46 := by rw [hrep.len]; kernel_rfl
            have hctx : cl.toArray[8]? = some (.int .i64 (nj : Int)) := by rw [List.getElem?_toArray, (ctx_cells hrep).2.1, ctx_gAt]
            rw [show decide ((de F_msg (some lj)).2 = some []) = true from by simp [HDE.out.1]] at he
            subst he
            have HA7 := hidOf (HAE.out.step hs7 hn7)
            have HREP7 : Hid (Rep w7 (fun b => b < w7.heap.size) F_msg cl (gAt vs nj)) := hrep.kept (Nat.le_refl _) (fun _ _ => rfl) (fun b hb => hb.2.1)
            have HCS := hidOf hcs
            have HCO := hidOf hco
            have HCTX := hidOf hctx
            have HC46 := hidOf hcl46
            have HCI : Hid ((Try.prog.info? 48).map (·.size) = some cl.toArray.size) := by show _ = _; rw [hcs]; exact Zr_msg_i
            clear hn7 hs7 hrep hval hcs hco hctx hcl46 HA HAE HGET
            go_wp2_with (refine wpList_store_rowF rfl 48 (.tmp 12) (.tmp 82) rfl w7.heap.size cl.toArray rfl rfl 48 Zr_msg (heap_alloc_new w7 (.cells Zr_msg 48)) HCI.out HCS.out.symm HCO.out ?next)
            case next =>
              intro w8 hw8h
              have hw8 := hw8h.out
              have hB8 : Below w7.heap.size w7 w8 := by rw [hw8]; exact ((Below.refl _ _).alloc (Nat.le_refl _) _).trans ⟨rfl, rfl, rfl, by simp [World.setRow], fun k hk => setRow_other _ _ _ _ (by omega)⟩
              have G8 := hidOf (show w8.heap[w7.heap.size]? = some (.cells cl.toArray 48 (0, 0)) by rw [hw8]; exact setRow_heap _ _ _ _ 48 _ (heap_alloc_new w7 _))
              have HA8 := hidOf (HA7.out.to hB8)
              have HREP8 : Hid (Rep w8 (fun b => b < w8.heap.size) F_msg cl (gAt vs nj)) := HREP7.out.kept hB8.size (fun b x => hB8.block b x) (fun b x => Nat.lt_of_lt_of_le x hB8.size)
              clear hw8 hw8h hB8 HA7 HREP7
              go_wp2_with fail
              go_loopw [14, 15] (fun at_ j wq => ∃ q2 : Nat, q2 ≤ n ∧ at_ = .int .i64 (atV jj q2) ∧ j = .int .i64 (q2 : Int) ∧ Hid (Below w8.heap.size w8 wq)) (fun _ j _ => n - (intOf j).toNat)
              case atStart => exact ⟨0, Nat.zero_le _, by simp [atV], by go_num, Below.refl _ _⟩
              case round =>
                obtain ⟨q2, hq2, rfl, rfl, HB9⟩ := hrel
                by_cases hlt2 : q2 < n
                · obtain ⟨n2, hn2⟩ : ∃ n2, is[q2]? = some n2 := ⟨_, List.getElem?_eq_getElem (by rw [hn0.out]; exact hlt2)⟩
                  obtain ⟨bT, cT, esT, hvT, _, _, hrT, hrgT⟩ := (HA8.out.to HB9.out).sent.at q2 n2 hn2
                  have hbT : bT = bS := by injection hvT with h1; injection h1 with h2; injection h2 with h3; exact h3.symm
                  subst hbT
                  have c8s := hrgT 8 _ (ctx_cells hrT).2.1
                  rw [ctx_gAt] at c8s
                  have c8m : wr.cell? ⟨w7.heap.size, 8, none⟩ = some (.int .i64 (nj : Int)) := by
                    rw [cell_of_row wr _ 8 _ 48 (0, 0) ((HB9.out.block _ (Array.getElem?_eq_some_iff.1 G8.out).1).trans G8.out)]; exact HCTX.out
                  have HBD := hidOf (HB9.out.trans ((Below.refl w8.heap.size wr).drew))
                  clear hvT hrT hrgT
                  by_cases hqj : q2 = jj
                  · subst hqj
                    have hnn : n2 = nj := by have := HNJ.out; rw [hn2] at this; exact Option.some.inj this
                    subst hnn
                    clear hn2
                    go_wp2
                    go_region
                    go_wp2
                    exact ⟨⟨q2 + 1, by omega, by rw [at_same], by go_num, HBD⟩, by simp [intOf]; omega⟩
                  · have hne := inj_is HOK.out.2.2 hn2 HNJ.out hqj
                    have HAT := hidOf (at_next jj q2 hqj)
                    clear hn2
                    go_wp2
                    go_region
                    go_wp2
                    exact ⟨⟨q2 + 1, by omega, by rw [HAT.out], by go_num, HBD⟩, by simp [intOf]; omega⟩
                · have hqe : q2 = n := by omega
                  subst hqe
                  rw [at_end jj q2 hjn]
                  have HAQ := hidOf (HA8.out.to HB9.out)
                  obtain ⟨bT, cT, esT, hvT, _, _, hrT, hrgT⟩ := HAQ.out.sent.at jj nj HNJ.out
                  have hbT : bT = bS := by injection hvT with h1; injection h1 with h2; injection h2 with h3; exact h3.symm
                  subst hbT
                  have htk : wr.cell? ⟨w5.heap.size, jj, none⟩ = some (.bool false) := by
                    rw [cell_of_row wr _ jj _ 4 (0, 0) HAQ.out.taken, hn0.out, tk_get _ _ _ hjn]
                    have := List.mem_of_getElem? HJJ.out
                    simp [this]
                  have hrgM : wr.rangeAt w7.heap.size 0 cl := by
                    intro jx u hu
                    rw [cell_of_row wr _ _ _ 48 (0, 0) ((HB9.out.block _ (Array.getElem?_eq_some_iff.1 G8.out).1).trans G8.out), Nat.zero_add, List.getElem?_toArray]
                    exact hu
                  have hBd : Below wr.heap.size wr wr.drew := (Below.refl _ _).drew
                  have HBd := hidOf hBd
                  have hWd : Below W.heap.size W wr.drew := HAQ.out.below.trans (hBd.mono HAQ.out.below.size)
                  have hesL : esT.length = 46 := by rw [hrT.len]; kernel_rfl
                  have HRA : Hid (Rep wr.drew (fun b => b < wr.drew.heap.size) F_msg esT (gAt vs nj)) := hrT.kept hWd.size (fun b x => hWd.block b x) (fun b x => Nat.lt_of_lt_of_le x hWd.size)
                  have hWm : Below w8.heap.size w8 wr.drew := HB9.out.trans (hBd.mono HB9.out.size)
                  have HRB : Hid (Rep wr.drew (fun b => b < wr.drew.heap.size) F_msg cl (gAt vs nj)) := HREP8.out.kept hWm.size (fun b x => hWm.block b x) (fun b x => Nat.lt_of_lt_of_le x hWm.size)
                  have hi48T : (Try.prog.info? 48).map (·.size) = some esT.length := by rw [hesL]; kernel_rfl
                  have hi48C : (Try.prog.info? 48).map (·.size) = some cl.length := by rw [HC46.out]; kernel_rfl
                  have hctxT := (ctx_cells hrT).2.1
                  have hctxM : cl[8]? = some (.int .i64 (nj : Int)) := by have := HCTX.out; rwa [List.getElem?_toArray] at this
                  have hjnn : ¬ ((jj : Int) < 0) := by omega
                  clear hvT hrT hBd hWd hWm
                  go_wp2
                  refine wp_region_held_drew (S := fun w' => w'.cell? ⟨w5.heap.size, jj, none⟩ = some (.bool false) ∧ w'.rangeAt bT (jj * 46) esT ∧ w'.rangeAt w7.heap.size 0 cl) (by kernel_rfl) ⟨htk, hrgT, hrgM⟩ (fun hHeld => ?_)
                  refine wpAnyH_take (i := 0) (oi := { dst := some 101, op := Op.move (Operand.tmp 14), type := 3, pos := "law.go:113", after := #[], guard := none }) (v := .int .i64 (jj : Int)) rfl (by kernel_rfl) (by kernel_rfl) (by kernel_rfl) (fun _ _ _ h => h) (Or.inl ⟨by rfl, ?_⟩) hHeld ?_
                  · (intro w hSw; (try dsimp only at hSw); go_simp)
                  try simp only [Act.put, List.setIfInBounds_toArray, List.set_cons_zero, List.set_cons_succ]
                  refine wpAnyH_take (i := 1) (oi := { dst := some 102, op := Op.binOp BinOp.lss 3 (Operand.tmp 101) (Operand.const (Value.int IntKind.i64 0)) 3, type := 4, pos := "law.go:113", after := #[{ on := 0, ground := Ground.data }], guard := none }) (v := .bool false) rfl (by kernel_rfl) (by kernel_rfl) (by kernel_rfl) (fun _ _ _ h => h) (Or.inl ⟨by rfl, ?_⟩) hHeld ?_
                  · (intro w hSw; (try dsimp only at hSw); go_simp)
                  try simp only [Act.put, List.setIfInBounds_toArray, List.set_cons_zero, List.set_cons_succ]
                  refine wpAnyH_take (i := 2) (oi := { dst := some 103, op := Op.move (Operand.tmp 102), type := 4, pos := "law.go:113", after := #[{ on := 1, ground := Ground.data }], guard := none }) (v := .bool false) rfl (by kernel_rfl) (by kernel_rfl) (by kernel_rfl) (fun _ _ _ h => h) (Or.inl ⟨by rfl, ?_⟩) hHeld ?_
                  · (intro w hSw; (try dsimp only at hSw); go_simp)
                  try simp only [Act.put, List.setIfInBounds_toArray, List.set_cons_zero, List.set_cons_succ]
                  refine wpAnyH_take (i := 3) (oi := { dst := some 104, op := Op.move (Operand.tmp 9), type := 51, pos := "law.go:113", after := #[{ on := 2, ground := Ground.guard }], guard := some (2, false) }) (v := .slice (some ⟨w5.heap.size, 0, none⟩) q2 q2) rfl (by kernel_rfl) (by kernel_rfl) (by kernel_rfl) (fun _ _ _ h => h) (Or.inl ⟨by rfl, ?_⟩) hHeld ?_
                  · (intro w hSw; (try dsimp only at hSw); go_simp)
                  try simp only [Act.put, List.setIfInBounds_toArray, List.set_cons_zero, List.set_cons_succ]
                  refine wpAnyH_take (i := 4) (oi := { dst := some 105, op := Op.move (Operand.tmp 14), type := 3, pos := "law.go:113", after := #[{ on := 2, ground := Ground.guard }], guard := some (2, false) }) (v := .int .i64 (jj : Int)) rfl (by kernel_rfl) (by kernel_rfl) (by kernel_rfl) (fun _ _ _ h => h) (Or.inl ⟨by rfl, ?_⟩) hHeld ?_
                  · (intro w hSw; (try dsimp only at hSw); go_simp)
                  try simp only [Act.put, List.setIfInBounds_toArray, List.set_cons_zero, List.set_cons_succ]
                  refine wpAnyH_take (i := 5) (oi := { dst := some 106, op := Op.indexAddr 51 (Operand.tmp 104) (Operand.tmp 105), type := 0, pos := "law.go:113", after := #[{ on := 3, ground := Ground.data }, { on := 4, ground := Ground.data }, { on := 2, ground := Ground.guard }], guard := some (2, false) }) (v := .pointer (some ⟨w5.heap.size, jj, none⟩)) rfl (by kernel_rfl) (by kernel_rfl) (by kernel_rfl) (fun _ _ _ h => h) (Or.inl ⟨by rfl, ?_⟩) hHeld ?_
                  · (intro w hSw; (try dsimp only at hSw); go_simp)
                  try simp only [Act.put, List.setIfInBounds_toArray, List.set_cons_zero, List.set_cons_succ]
                  refine wpAnyH_take (i := 6) (oi := { dst := some 107, op := Op.load 4 (Operand.tmp 106), type := 4, pos := "law.go:113", after := #[{ on := 5, ground := Ground.data }, { on := 2, ground := Ground.guard }], guard := some (2, false) }) (v := .bool false) rfl (by kernel_rfl) (by kernel_rfl) (by kernel_rfl) (fun _ _ _ h => h) (Or.inl ⟨by rfl, ?_⟩) hHeld ?_
                  · (intro w hSw; (try dsimp only at hSw); go_simp)
                  try simp only [Act.put, List.setIfInBounds_toArray, List.set_cons_zero, List.set_cons_succ]
                  refine wpAnyH_take (i := 7) (oi := { dst := some 108, op := Op.pick (Operand.tmp 103) (Operand.const (Value.bool true)) (Operand.tmp 107), type := 4, pos := "law.go:113", after := #[{ on := 2, ground := Ground.data }, { on := 6, ground := Ground.data }], guard := none }) (v := .bool false) rfl (by kernel_rfl) (by kernel_rfl) (by kernel_rfl) (fun _ _ _ h => h) (Or.inl ⟨by rfl, ?_⟩) hHeld ?_
                  · (intro w hSw; (try dsimp only at hSw); go_simp)
                  try simp only [Act.put, List.setIfInBounds_toArray, List.set_cons_zero, List.set_cons_succ]
                  refine wpAnyH_take (i := 8) (oi := { dst := some 109, op := Op.move (Operand.tmp 108), type := 4, pos := "law.go:113", after := #[{ on := 7, ground := Ground.data }, { on := 2, ground := Ground.chain }], guard := none }) (v := .bool false) rfl (by kernel_rfl) (by kernel_rfl) (by kernel_rfl) (fun _ _ _ h => h) (Or.inl ⟨by rfl, ?_⟩) hHeld ?_
                  · (intro w hSw; (try dsimp only at hSw); go_simp)
                  try simp only [Act.put, List.setIfInBounds_toArray, List.set_cons_zero, List.set_cons_succ]
                  refine wpAnyH_take (i := 9) (oi := { dst := some 110, op := Op.move (Operand.tmp 6), type := 22, pos := "law.go:113", after := #[{ on := 8, ground := Ground.guard }], guard := some (8, false) }) (v := .slice (some ⟨bT, 0, none⟩) q2 c1) rfl (by kernel_rfl) (by kernel_rfl) (by kernel_rfl) (fun _ _ _ h => h) (Or.inl ⟨by rfl, ?_⟩) hHeld ?_
                  · (intro w hSw; (try dsimp only at hSw); go_simp)
                  try simp only [Act.put, List.setIfInBounds_toArray, List.set_cons_zero, List.set_cons_succ]
                  refine wpAnyH_take (i := 10) (oi := { dst := some 111, op := Op.move (Operand.tmp 14), type := 3, pos := "law.go:113", after := #[{ on := 8, ground := Ground.guard }], guard := some (8, false) }) (v := .int .i64 (jj : Int)) rfl (by kernel_rfl) (by kernel_rfl) (by kernel_rfl) (fun _ _ _ h => h) (Or.inl ⟨by rfl, ?_⟩) hHeld ?_
                  · (intro w hSw; (try dsimp only at hSw); go_simp)
                  try simp only [Act.put, List.setIfInBounds_toArray, List.set_cons_zero, List.set_cons_succ]
                  refine wpAnyH_take (i := 11) (oi := { dst := some 112, op := Op.indexAddr 22 (Operand.tmp 110) (Operand.tmp 111), type := 0, pos := "law.go:113", after := #[{ on := 9, ground := Ground.data }, { on := 10, ground := Ground.data }, { on := 8, ground := Ground.guard }], guard := some (8, false) }) (v := .pointer (some ⟨bT, jj * 46, none⟩)) rfl (by kernel_rfl) (by kernel_rfl) (by kernel_rfl) (fun _ _ _ h => h) (Or.inl ⟨by rfl, ?_⟩) hHeld ?_
                  · (intro w hSw; (try dsimp only at hSw); go_simp)
                  try simp only [Act.put, List.setIfInBounds_toArray, List.set_cons_zero, List.set_cons_succ]
                  refine wpAnyH_take (i := 12) (oi := { dst := some 113, op := Op.load 48 (Operand.tmp 112), type := 48, pos := "law.go:113", after := #[{ on := 11, ground := Ground.data }, { on := 8, ground := Ground.guard }], guard := some (8, false) }) (v := .agg esT.toArray) rfl (by kernel_rfl) (by kernel_rfl) (by kernel_rfl) (fun _ _ _ h => h) (yieldsIf_load_mid (by rfl) 48 (.tmp 112) rfl bT (jj * 46) rfl esT _ (fun _ h => h.2.1) Try.underlying48 rfl hi48T) hHeld ?_
                  try simp only [Act.put, List.setIfInBounds_toArray, List.set_cons_zero, List.set_cons_succ]
                  refine wpAnyH_take (i := 13) (oi := { dst := some 114, op := Op.load 48 (Operand.tmp 12), type := 48, pos := "law.go:113", after := #[{ on := 8, ground := Ground.guard }], guard := some (8, false) }) (v := .agg cl.toArray) rfl (by kernel_rfl) (by kernel_rfl) (by kernel_rfl) (fun _ _ _ h => h) (yieldsIf_load_mid (by rfl) 48 (.tmp 12) rfl w7.heap.size 0 rfl cl _ (fun _ h => h.2.2) Try.underlying48 rfl hi48C) hHeld ?_
                  try simp only [Act.put, List.setIfInBounds_toArray, List.set_cons_zero, List.set_cons_succ]
                  refine wpAnyH_ready (rs := [14]) (by kernel_rfl) (by simp) ?_
                  refine AllReadyH.cons (o := { dst := some 115, op := Op.call { callee := Callee.value (Operand.func 11), args := #[Operand.tmp 113, Operand.tmp 114], argTypes := #[48, 48] }, type := 4, pos := "law.go:113", after := #[{ on := 12, ground := Ground.data }, { on := 13, ground := Ground.data }, { on := 8, ground := Ground.chain }, { on := 8, ground := Ground.guard }], guard := some (8, false) }) rfl (fun K hK => ?_) AllReadyH.nil
                  go_simp
                  refine (same_ok esT cl (gAt vs nj) _ HRA.out HRB.out HOKN.out).mono ?_
                  rintro e wx ⟨rfl, hbx⟩
                  have hltT : bT < wr.heap.size := World.block_lt_of_cell? wr ⟨bT, _, none⟩ (hrgT 8 _ hctxT)
                  have hltM : w7.heap.size < wr.heap.size := World.block_lt_of_cell? wr ⟨w7.heap.size, _, none⟩ (hrgM 8 _ hctxM)
                  have hltK : w5.heap.size < wr.heap.size := World.block_lt_of_cell? wr ⟨w5.heap.size, _, none⟩ htk
                  refine hK.out _ _ ⟨(World.cell?_of_block (a := ⟨w5.heap.size, jj, none⟩) (hbx.block _ hltK)).trans htk, rangeAt_kept hrgT (hbx.block _ hltT), rangeAt_kept hrgM (hbx.block _ hltM)⟩ (fun hHeld2 => ?_)
                  clear hK K
                  try simp only [Act.put, List.setIfInBounds_toArray, List.set_cons_zero, List.set_cons_succ]
                  refine wpAnyH_take (i := 15) (oi := { dst := some 116, op := Op.unOp UnOp.not 4 (Operand.tmp 115), type := 4, pos := "law.go:113", after := #[{ on := 14, ground := Ground.data }, { on := 8, ground := Ground.guard }], guard := some (8, false) }) (v := .bool false) rfl (by kernel_rfl) (by kernel_rfl) (by kernel_rfl) (fun _ _ _ h => h) (Or.inl ⟨by rfl, ?_⟩) hHeld2 ?_
                  · (intro w hSw; (try dsimp only at hSw); go_simp)
                  try simp only [Act.put, List.setIfInBounds_toArray, List.set_cons_zero, List.set_cons_succ]
                  refine wpAnyH_take (i := 16) (oi := { dst := some 117, op := Op.pick (Operand.tmp 109) (Operand.const (Value.bool true)) (Operand.tmp 116), type := 4, pos := "law.go:113", after := #[{ on := 8, ground := Ground.data }, { on := 15, ground := Ground.data }], guard := none }) (v := .bool false) rfl (by kernel_rfl) (by kernel_rfl) (by kernel_rfl) (fun _ _ _ h => h) (Or.inl ⟨by rfl, ?_⟩) hHeld2 ?_
                  · (intro w hSw; (try dsimp only at hSw); go_simp)
                  try simp only [Act.put, List.setIfInBounds_toArray, List.set_cons_zero, List.set_cons_succ]
                  refine wpAnyH_done (by kernel_rfl) ?_ _
                  have HAX := hidOf (HAQ.out.to (HBd.out.trans hbx))
                  have hcx2 := hHeld2.1
                  have hfx2 : wx.frozen? ⟨w5.heap.size, jj, none⟩ = false := by simp [World.frozen?, HAX.out.taken]
                  have HAY := hidOf (HAX.out.take HND.out HJJ.out)
                  have HN3 : Hid (q + 1 + (js.take 0 ++ js.drop (0 + 1)).length = q2) := by show _ = _; have := HM.out; simp; omega
                  have HL3 : Hid (∀ j ∈ js.take 0 ++ js.drop (0 + 1), j < q2) := by
                    intro j hj
                    rcases List.mem_append.1 hj with h1 | h1
                    · exact HLT.out j (List.mem_of_mem_take h1)
                    · exact HLT.out j (List.mem_of_mem_drop h1)
                  have HD3 := hidOf (nodup_out 0 HND.out)
                  have hltK2 : w5.heap.size < wx.heap.size := (Array.getElem?_eq_some_iff.1 HAX.out.taken).1
                  clear hHeld hHeld2 hbx hltT hltM hltK hrgT hrgM htk hctxT hctxM hi48T hi48C hesL
                  go_wp2
                  exact ⟨⟨q + 1, js.take 0 ++ js.drop (0 + 1), by go_num, HN3, HD3, HL3, HAY⟩, by simp [intOf]; omega⟩

        · -- all are taken
          have hj0 : js = [] := List.eq_nil_of_length_eq_zero (by have := HM.out; omega)
          subst hj0
          have hm0 : m = 0 := by omega
          subst hm0
          go_wp2_with fail
          refine (len_is W.heap.size _ r 0 _ HA.out.net HLJ.out).mono ?_
          rintro e w6 ⟨rfl, hw⟩
          subst hw
          go_wp2_with fail
          go_loopw [16] (fun i wq => ∃ j : Nat, j ≤ n ∧ i = .int .i64 (j : Int) ∧ Hid (AI W wq W.heap.size r (gAt vs) is [] [] w5.heap.size (.slice a1 n c1))) (fun i _ => n - (intOf i).toNat)
          case atStart => exact ⟨0, Nat.zero_le _, by go_num, HA⟩
          case round =>
            obtain ⟨j, hjn, rfl, HB⟩ := hrel
            by_cases hlt3 : j < n
            · have htk : wr.cell? ⟨w5.heap.size, j, none⟩ = some (.bool true) := by
                rw [cell_of_row wr _ j _ 4 (0, 0) HB.out.taken, hn0.out, tk_get _ _ _ hlt3]
                simp
              go_wp2
              exact ⟨⟨j + 1, by omega, by go_num, HB⟩, by simp [intOf]; omega⟩
            · have hje : n ≤ j := by omega
              go_wp2
              go_ret
              exact ⟨rfl, HB.out.below⟩

theorem lawAll (W : World) (a : Option Addr) (len cap : Nat) (vs : List (Vl F_msg)) (hn : len = vs.length) (hR : RepL W (fun b => b < W.heap.size) F_msg a vs) (a2 : Option Addr) (len2 cap2 : Nat) (ls : List Int) (hn2 : len2 = ls.length) (hS : RepL W (fun b => b < W.heap.size) .num a2 ls) :
    Calls Try.prog 3 #[.slice a len cap, .slice a2 len2 cap2] W fun e w' => e = .returned (.bool true) ∧ Below W.heap.size W w' := by
  subst hn hn2
  exact lawAllX W a cap vs hR a2 cap2 ls hS

end Go.Proofs.Ytcdoejdbmllnnab
