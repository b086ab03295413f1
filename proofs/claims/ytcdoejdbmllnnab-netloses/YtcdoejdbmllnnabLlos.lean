/- The walk of NetLoses: whatever messages and picks, it returns true and changes nothing that was there. -/
import Derived.Test.YtcdoejdbmllnnabLful
namespace Go.Proofs.Ytcdoejdbmllnnab
open Go.RowKit

theorem Try.elem23 : Try.prog.underlying 23 = some (.slice (Try.prog.elem 23)) := by kernel_rfl
theorem Try.size3' (w : World) : (sizeOf (Try.prog.elem 23)).run Try.prog w = .ok 1 w := by rw [show Try.prog.elem 23 = 3 from by kernel_rfl]; exact Try.sizeOf3 w
def adL (g c k : Nat) : Addr := if c = k + 1 then ⟨g, 0, none⟩ else ⟨g, k + 1, none⟩
theorem sl_hi (g n c k : Nat) (h : k ≤ c) (h0 : 0 < c) (w : World) : (Instr.slice 23 (.slice (some ⟨g, 0, none⟩) n c) none (some (.int .i64 (k : Int))) none).run Try.prog w = .ok (.slice (some ⟨g, 0, none⟩) k c) w := by
  rw [run_slice_h (P := Try.prog) w 23 _ n c Try.elem23 .i64 k (by omega) (by omega), Try.size3']
  simp [sliced, Addr.add, show ¬ c = 0 by omega]
theorem sl_lo (g n c k : Nat) (h : k + 1 ≤ n) (w : World) : (Instr.slice 23 (.slice (some ⟨g, 0, none⟩) n c) (some (.int .i64 ((k : Int) + 1))) none none).run Try.prog w = .ok (.slice (some (adL g c k)) (n - (k + 1)) (c - (k + 1))) w := by
  rw [show ((k : Int) + 1) = ((k + 1 : Nat) : Int) by omega, run_slice_l (P := Try.prog) w 23 _ n c Try.elem23 .i64 (k + 1 : Nat) (by omega) (by omega), Try.size3']
  unfold adL
  by_cases e : c = k + 1
  · simp [sliced, e]
  · simp [sliced, e, Addr.add]
theorem row_src {w : World} {base e g c n : Nat} {js : List Nat} (h : w.ownsRow base e 1 (.slice (some ⟨g, 0, none⟩) n c) n (js.map encI)) : ∀ j u, (js.map encI)[j]? = some u → w.cell? ⟨g, j, none⟩ = some u := by
  intro j u hu
  obtain ⟨a1, c1, e1, _, _, hc⟩ := row_form h
  cases e1
  have hj : j < n := by have := h.1; rw [Nat.mul_one] at this; have h2 := (List.getElem?_eq_some_iff.1 hu).1; omega
  obtain ⟨g', e2, h2⟩ := hc j hj
  cases e2
  rw [h2, hu]
theorem src_hi {w : World} {base e g c n k : Nat} {js : List Nat} (h : w.ownsRow base e 1 (.slice (some ⟨g, 0, none⟩) n c) n (js.map encI)) : ∀ j u, ((js.take k).map encI)[j]? = some u → w.cell? ((⟨g, 0, none⟩ : Addr).add j) = some u := by
  intro j u hu
  rw [List.map_take, List.getElem?_take] at hu
  split at hu
  · have := row_src h j u hu
    rw [Addr.add_lit, Nat.zero_add]
    exact this
  · cases hu
theorem src_lo {w : World} {base e g c n k : Nat} {js : List Nat} (h : w.ownsRow base e 1 (.slice (some ⟨g, 0, none⟩) n c) n (js.map encI)) (hc : n ≤ c) : ∀ j u, ((js.drop (k + 1)).map encI)[j]? = some u → w.cell? ((adL g c k).add j) = some u := by
  intro j u hu
  rw [List.map_drop, List.getElem?_drop] at hu
  have h1 := row_src h (k + 1 + j) u hu
  have h2 := (List.getElem?_eq_some_iff.1 hu).1
  have h3 := h.1
  rw [Nat.mul_one] at h3
  unfold adL
  rw [if_neg (by omega), Addr.add_lit]
  exact h1
theorem encI_one (js : List Nat) : ∀ u ∈ js.map encI, u.oneCell' = true := by
  intro u hu
  obtain ⟨i, _, rfl⟩ := List.mem_map.1 hu
  rfl
theorem map_out (g : Nat → List UInt8) (js : List Nat) (k : Nat) : (js.map g).take k ++ (js.map g).drop (k + 1) = (js.take k ++ js.drop (k + 1)).map g := by rw [List.map_append, List.map_take, List.map_drop]
def OkJ (g : Nat → Vl F_msg) (js : List Nat) : Prop := ∀ i ∈ js, (en F_msg (g i)).2 = false
theorem OkJ.out {g : Nat → Vl F_msg} {js : List Nat} (h : OkJ g js) (k : Nat) : OkJ g (js.take k ++ js.drop (k + 1)) := by
  intro i hi
  rcases List.mem_append.1 hi with h1 | h1
  · exact h i (List.mem_of_mem_take h1)
  · exact h i (List.mem_of_mem_drop h1)
theorem pick_in (x : Int) (n : Nat) (hn : 0 < n) : -(n : Int) < x.tmod n ∧ x.tmod n < n := by
  have h1 := Int.tmod_lt_of_pos x (show (0 : Int) < n by omega)
  have h2 := Int.lt_tmod_of_pos x (show (0 : Int) < n by omega)
  exact ⟨h2, h1⟩

set_option maxHeartbeats 8000000 in
set_option maxRecDepth 100000 in
theorem lawLosesX (W : World) (a : Option Addr) (cap : Nat) (vs : List (Vl F_msg)) (hR : RepL W (fun b => b < W.heap.size) F_msg a vs) (a2 : Option Addr) (cap2 : Nat) (ls : List Int) (hS : RepL W (fun b => b < W.heap.size) .num a2 ls) :
    Calls Try.prog 4 #[.slice a vs.length cap, .slice a2 ls.length cap2] W fun e w' => e = .returned (.bool true) ∧ Below W.heap.size W w' := by
  have hvl := hR.1
  have hll := hS.1
  obtain ⟨i0, hi0, hz0, hz1, hz2⟩ := info_parts info3'
  have HI := hidOf hi0
  have HZ0 := hidOf hz0
  have HZ1 := hidOf hz1
  have HZ2 := hidOf hz2
  have HR := hidOf hR
  have HS := hidOf hS
  have hB1 : Below W.heap.size W (W.alloc (.cells #[.int .i64 256, .slice none 0 0] 60)) := (Below.refl _ _).alloc (Nat.le_refl _) _
  have HB1 := hidOf hB1
  have HN1 := hidOf (netR_new W 256 (by omega))
  clear hR hS hB1 hi0 hz0 hz1 hz2
  go_enter Try.func4, Try.ntmps4
  go_wp2_with fail
  refine (new_ok 256 W (by omega) (by omega)).mono ?_
  rintro e w1 ⟨rfl, rfl⟩
  go_wp2_with fail
  refine (known_any _).mono ?_
  rintro e w2 ⟨rfl, hb⟩
  have HG : Hid (NetG W w2 W.heap.size 256 (gAt vs) []) := ⟨HB1.out.trans (hb.mono HB1.out.size), Nat.le_refl _, none, (by rw [List.map_nil, cut_all 256 [] (by simp)]; exact HN1.out.grow hb), fun q hq => by cases hq⟩
  clear hb
  go_wp2_with fail
  go_loopw [6, 7] (fun v i wr => ∃ k : Nat, ∃ is : List Nat, k ≤ 60 ∧ k ≤ vs.length ∧ i = .int .i64 (k : Int) ∧ wr.ownsRow W.heap.size 3 1 v is.length (is.map encI) ∧ Hid (OkG (gAt vs) k is) ∧ Hid (NetG W wr W.heap.size 256 (gAt vs) is)) (fun _ i _ => 60 - (intOf i).toNat)
  case atStart => exact ⟨0, [], Nat.zero_le _, Nat.zero_le _, rfl, ⟨rfl, .inl ⟨rfl, rfl⟩⟩, ⟨Nat.le_refl _, fun i hi => (by cases hi), List.Pairwise.nil⟩, HG⟩
  case round =>
    obtain ⟨k, is, hk4, hkl, rfl, ok, HOK, HNG⟩ := hrel
    by_cases hlt : k < vs.length
    · by_cases h60 : k < 60
      · obtain ⟨b, off, rfl, hbW, hat⟩ := HR.out.2 (fun e => by rw [e] at hlt; simp at hlt)
        obtain ⟨es, hrep, hrg⟩ := hat k hlt
        rw [show wd F_msg = 46 from by kernel_rfl] at hrg
        have hB := HNG.out.1
        have HRG := hidOf (rangeAt_kept hrg (hB.block b hbW))
        have hes : es.length = 46 := by rw [hrep.len]; kernel_rfl
        have HEI : Hid ((Try.prog.info? 48).map (·.size) = some es.length) := by show _ = _; rw [hes]; kernel_rfl
        have HEI2 : Hid ((Try.prog.info? 48).map (·.size) = some es.toArray.size) := by show _ = _; rw [List.size_toArray, hes]; kernel_rfl
        have HES : Hid (Zr_msg.size = es.toArray.size) := zr_size es hes
        have HEO : Hid (es.toArray.all (·.oneCell') = true) := hrep.all
        have HREP := hidOf hrep
        have HES0 := hidOf hes
        have hB2' := hidOf hB
        clear hrg hrep hat hbW hB hes
        go_wp2_with (first
          | (refine wpList_load_mid rfl 48 (.tmp 34) rfl b (off + k * 46) rfl es _ HRG.out Try.underlying48 rfl HEI.out ?_)
          | (refine wpList_store_rowF rfl 48 (.tmp 8) (.tmp 35) rfl wr.heap.size es.toArray rfl rfl 48 Zr_msg (heap_alloc_new wr (.cells Zr_msg 48)) HEI2.out HES.out HEO.out ?next))
        case next =>
          intro w3 hw3h
          have hw3 := hw3h.out
          have hB3 : Below wr.heap.size wr w3 := by rw [hw3]; exact ((Below.refl _ _).alloc (Nat.le_refl _) _).trans ⟨rfl, rfl, rfl, by simp [World.setRow], fun k hk => setRow_other _ _ _ _ (by omega)⟩
          have g3 : w3.heap[wr.heap.size]? = some (.cells es.toArray 48 (0, 0)) := by rw [hw3]; exact setRow_heap _ _ _ _ 48 _ (heap_alloc_new wr _)
          obtain ⟨c8, hc8⟩ : ∃ c, w3.cell? ⟨wr.heap.size, 8, none⟩ = some c := ⟨es[8]'(by rw [HES0.out]; omega), by rw [cell_of_row w3 _ 8 _ 48 (0, 0) g3, List.getElem?_toArray, List.getElem?_eq_getElem]⟩
          have f8 : w3.frozen? ⟨wr.heap.size, 8, none⟩ = false := by simp [World.frozen?, g3]
          have hp8 : wr.heap.size < w3.heap.size := (Array.getElem?_eq_some_iff.1 g3).1
          have G4 : Hid ((w3.setCell ⟨wr.heap.size, 8, none⟩ (.int .i64 (k : Int))).heap[wr.heap.size]? = some (.cells (es.set 8 (.int .i64 (k : Int))).toArray 48 (0, 0))) := by
            show _ = _
            rw [heap_setCell_same w3 _ 8 _ 48 _ g3, List.setIfInBounds_toArray]
          have HB4 : Hid (Below wr.heap.size wr (w3.setCell ⟨wr.heap.size, 8, none⟩ (.int .i64 (k : Int)))) := hB3.trans ⟨rfl, rfl, rfl, by simp, fun j hj => Below.heap_setCell _ _ _ _ (by simp; omega)⟩
          have HREP4 := hidOf (rep_gAt hlt HREP.out (hB2'.out.trans (HB4.out.mono hB2'.out.size)))
          have HI4 : Hid ((Try.prog.info? 48).map (·.size) = some (es.set 8 (.int .i64 (k : Int))).toArray.size) := by
            show _ = _
            rw [show (es.set 8 (.int .i64 (k : Int))).toArray.size = 46 from by simpa using HES0.out]; kernel_rfl
          obtain ⟨_, hpW, r, hn, hr⟩ := HNG.out
          have HN4 := hidOf (hn.grow HB4.out)
          have HRR := hidOf hr
          have HOK4 := hidOf (row_below ok HB4.out)
          clear hw3h hw3 g3 hB3 HREP HRG HEI HEI2 HES HEO hn hr ok
          cases hen : (en F_msg (gAt vs k)).2 with
          | true =>
            have HEN := hidOf hen
            clear hen
            go_wp2_with (refine wpList_load_row rfl 48 (.tmp 8) rfl wr.heap.size rfl 48 (es.set 8 (.int .i64 (k : Int))).toArray (0, 0) _ G4.out Try.underlying48 rfl HI4.out ?_)
            refine (send_no W.heap.size 256 _ r _ (gAt vs k) _ HN4.out HREP4.out HEN.out).mono ?_
            rintro e w5 ⟨rfl, hn5, hB5⟩
            have HNG5 := hidOf (HNG.out.below (HB4.out.trans (hB5.mono HB4.out.size)))
            have ok5 := row_below HOK4.out hB5
            clear hn5 hB5
            go_wp2
            exact ⟨⟨k + 1, is, by omega, by omega, by go_num, ok5, HOK.out.next, HNG5⟩, by simp [intOf]; omega⟩
          | false =>
            have HEN := hidOf hen
            clear hen
            go_wp2_with (refine wpList_load_row rfl 48 (.tmp 8) rfl wr.heap.size rfl 48 (es.set 8 (.int .i64 (k : Int))).toArray (0, 0) _ G4.out Try.underlying48 rfl HI4.out ?_)
            refine (send_ok W.heap.size 256 _ r _ (gAt vs k) _ HN4.out (cut_le _ _) HREP4.out HEN.out).mono ?_
            rintro e w5 ⟨rfl, r5, hn5, hs5⟩
            have HNG5 := hidOf (netG_sent (hB2'.out.trans (HB4.out.mono hB2'.out.size)) hpW HRR.out hn5 hs5)
            have ok5 := row_ns HOK4.out HN4.out hs5 (by decide) (by decide)
            have HOK5 := hidOf ok5
            have hil := HOK.out.1
            have O1 : Hid (∀ u ∈ (#[.int .i64 (k : Int)] : Array Value).toList, u.oneCell' = true) := by intro u hu; simp at hu; subst hu; rfl
            clear hn5 hs5 HN4 HB4 G4 ok5
            go_wp2_with (at_builtin; refine wpList_append_own2 _ rfl (.tmp 42) (.tmp 44) 23 rfl W.heap.size 3 i0 (.int .i64 0) 1 8 Try.underlying23 HI.out HZ0.out HZ1.out HZ2.out rfl (by decide) _ _ _ rfl (HOK5.out.alloc _) ⟨w5.heap.size, 0, none⟩ 1 1 (#[.int .i64 (k : Int)] : Array Value).toList rfl rfl (fun j u hj => cell_news w5 _ _ j u hj) O1.out ?c3 ?c4 ?c5 ?next2)
            case c3 => unfold maxLen; omega
            case c4 => omega
            case c5 => have := HNG5.out.1.size; rw [World.size_alloc]; omega
            case next2 =>
              intro v6 w6 ho6 hg6 hw6
              have HNG6 := hidOf ((HNG5.out.below ((Below.refl _ _).alloc (Nat.le_refl _) _)).grown (HOK5.out.alloc _) hg6 (by decide) (by decide) (by decide))
              have ok6 : w6.ownsRow W.heap.size 3 1 v6 (is ++ [k]).length ((is ++ [k]).map encI) := by
                rw [List.length_append, List.map_append]; exact ho6
              have HOK6 := hidOf (HOK.out.more HEN.out)
              clear ho6 hg6 hw6 HNG5 HOK5
              go_wp2
              exact ⟨⟨k + 1, is ++ [k], by omega, by omega, by go_num, ok6, HOK6, HNG6⟩, by simp [intOf]; omega⟩
      · -- sixty
        obtain ⟨_, hpW, r, hn, hr⟩ := HNG.out
        have hil := HOK.out.1
        have HRR := hidOf hr
        rw [cut_all 256 _ (by rw [List.length_map]; omega)] at hn
        have HJ0 := hidOf (show OkJ (gAt vs) is from fun i hi => (HOK.out.2.1 i hi).2)
        have HQ0 := hidOf (show Below W.heap.size W wr ∧ NetR wr W.heap.size 256 (is.map (pkG (gAt vs))) r from ⟨HNG.out.1, hn⟩)
        clear hn hr
        go_wp2_with fail
        go_loopw [6, 9] (fun v i wq => ∃ q : Nat, ∃ js : List Nat, q ≤ ls.length ∧ i = .int .i64 (q : Int) ∧ wq.ownsRow W.heap.size 3 1 v js.length (js.map encI) ∧ js.length ≤ 60 ∧ Hid (OkJ (gAt vs) js) ∧ Hid (Below W.heap.size W wq ∧ NetR wq W.heap.size 256 (js.map (pkG (gAt vs))) r)) (fun _ i _ => ls.length - (intOf i).toNat)
        case atStart => exact ⟨0, is, by omega, by go_num, ok, by omega, HJ0, HQ0⟩
        case round =>
          obtain ⟨q, js, hql, rfl, ok3, hj60, HOJ, HQ2⟩ := hrel
          by_cases hlt2 : q < ls.length
          · by_cases hpos : 0 < js.length
            · obtain ⟨b2, off2, rfl, hb2, hat2⟩ := HS.out.2 (fun e => by rw [e] at hlt2; simp at hlt2)
              obtain ⟨es2, hrep2, hrg2⟩ := hat2 q hlt2
              obtain rfl : es2 = [.int .i64 ls[q]] := hrep2
              have hcx0 := rangeAt_kept hrg2 (HQ2.out.1.block b2 hb2) 0 _ rfl
              rw [show wd .num = 1 from rfl, Nat.mul_one, Nat.add_zero] at hcx0
              obtain ⟨x, hx⟩ : ∃ x : Int, Hid (ls[q] = x) := ⟨ls[q], hidOf rfl⟩
              rw [hx.out] at hcx0
              obtain ⟨m, HM⟩ : ∃ m, Hid (js.length = m) := ⟨_, rfl⟩
              rw [HM.out] at ok3 hpos hj60
              obtain ⟨a1, c1, hv, hc1, hc2, hcell⟩ := row_form ok3
              subst hv
              obtain ⟨g1, rfl, _⟩ := hcell 0 hpos
              have hpk := pick_in x m hpos
              have hp1 := hpk.1
              have hp2 := hpk.2
              have HO := hidOf ok3
              obtain ⟨t, ht⟩ : ∃ t, x.tmod (m : Int) = t := ⟨_, rfl⟩
              rw [ht] at hp1 hp2
              clear hpk hcell hat2 hrg2 hb2 ok3
              by_cases hneg : t < 0
              · obtain ⟨κ, hκ⟩ : ∃ κ : Nat, t + (m : Int) = (κ : Int) := ⟨(t + m).toNat, by omega⟩
                have hκm : κ < m := by omega
                have HKL : Hid (κ < (js.map (pkG (gAt vs))).length) := by show _ < _; rw [List.length_map, HM.out]; exact hκm
                have HLA : Hid (((js.take κ).map encI).length = κ * 1) := by show _ = _; have := HM.out; simp; omega
                have HLB : Hid (((js.drop (κ + 1)).map encI).length = (m - (κ + 1)) * 1) := by show _ = _; have := HM.out; simp; omega
                have hs1 := sl_hi g1 m c1 κ (by omega) (by omega)
                have hs2 := sl_lo g1 m c1 κ (by omega)
                go_wp2_with fail
                refine (lose_ok W.heap.size 256 _ r κ _ HQ2.out.2 HKL.out).mono ?_
                rintro e w5 ⟨rfl, hn5, hs5⟩
                rw [map_out] at hn5
                have HN5 := hidOf hn5
                have HB5 := hidOf (HQ2.out.1.trans (hs5.below HQ2.out.1.size (Nat.le_refl _) HRR.out))
                have HO5 := hidOf (row_ns HO.out HQ2.out.2 hs5 (by decide) (by decide))
                clear hn5 hs5
                go_wp2_with (at_builtin; refine wpList_append_own2 _ rfl (.tmp 74) (.tmp 77) 23 rfl W.heap.size 3 i0 (.int .i64 0) 1 8 Try.underlying23 HI.out HZ0.out HZ1.out HZ2.out rfl (by decide) (.slice none 0 0) 0 [] rfl ⟨rfl, .inl ⟨rfl, rfl⟩⟩ ⟨g1, 0, none⟩ κ c1 ((js.take κ).map encI) rfl HLA.out (src_hi HO5.out) (encI_one _) ?c3 ?c4 HB5.out.size ?nextA)
                case c3 => unfold maxLen; omega
                case c4 => omega
                case nextA =>
                  intro vA wA hoA hgA hwA
                  have HN6 := hidOf (HN5.out.grown (base := W.heap.size) (e := 3) (size := 1) (v := .slice none 0 0) (n := 0) (xs := []) ⟨rfl, .inl ⟨rfl, rfl⟩⟩ hgA (by decide) (by decide) (by decide))
                  have HB6 := hidOf (HB5.out.grown hgA HB5.out.size (fun j hj => by cases hj))
                  have HO6 := hidOf (row_kept HO5.out (fun g _ _ hg => hgA.block g (Array.getElem?_eq_some_iff.1 hg).1 (fun e => by cases e)))
                  have hoA' : wA.ownsRow W.heap.size 3 1 vA κ ((js.take κ).map encI) := by simpa using hoA
                  have HOA := hidOf hoA'
                  clear hoA hoA' hgA hwA HN5 HB5 HO5
                  go_wp2_with (at_builtin; refine wpList_append_own2 _ rfl (.tmp 79) (.tmp 83) 23 rfl W.heap.size 3 i0 (.int .i64 0) 1 8 Try.underlying23 HI.out HZ0.out HZ1.out HZ2.out rfl (by decide) vA κ ((js.take κ).map encI) rfl HOA.out (adL g1 c1 κ) (m - (κ + 1)) (c1 - (κ + 1)) ((js.drop (κ + 1)).map encI) rfl HLB.out (src_lo HO6.out hc1) (encI_one _) ?c3 ?c4 HB6.out.size ?nextB)
                  case c3 => unfold maxLen; omega
                  case c4 => omega
                  case nextB =>
                    intro vB wB hoB hgB hwB
                    have HN7 := hidOf (HN6.out.grown HOA.out hgB (by decide) (by decide) (by decide))
                    have HB7 := hidOf (HB6.out.grown hgB HB6.out.size (fun j hj => (HOA.out.lt j hj).1))
                    have hoC : wB.ownsRow W.heap.size 3 1 vB (js.take κ ++ js.drop (κ + 1)).length ((js.take κ ++ js.drop (κ + 1)).map encI) := by
                      rw [List.map_append, show (js.take κ ++ js.drop (κ + 1)).length = κ + (m - (κ + 1)) from by have := HM.out; simp; omega]
                      simpa using hoB
                    have hl60 : (js.take κ ++ js.drop (κ + 1)).length ≤ 60 := by have := HM.out; simp; omega
                    have HOJ7 := hidOf (HOJ.out.out κ)
                    clear hoB hgB hwB HN6 HB6 HO6 HOA
                    go_wp2
                    exact ⟨⟨q + 1, js.take κ ++ js.drop (κ + 1), by omega, by go_num, hoC, hl60, HOJ7, HB7.out, HN7.out⟩, by simp [intOf]; omega⟩

              · obtain ⟨κ, hκ⟩ : ∃ κ : Nat, t = (κ : Int) := ⟨t.toNat, by omega⟩
                subst hκ
                have hκm : κ < m := by omega
                have HKL : Hid (κ < (js.map (pkG (gAt vs))).length) := by show _ < _; rw [List.length_map, HM.out]; exact hκm
                have HLA : Hid (((js.take κ).map encI).length = κ * 1) := by show _ = _; have := HM.out; simp; omega
                have HLB : Hid (((js.drop (κ + 1)).map encI).length = (m - (κ + 1)) * 1) := by show _ = _; have := HM.out; simp; omega
                have hs1 := sl_hi g1 m c1 κ (by omega) (by omega)
                have hs2 := sl_lo g1 m c1 κ (by omega)
                go_wp2_with fail
                refine (lose_ok W.heap.size 256 _ r κ _ HQ2.out.2 HKL.out).mono ?_
                rintro e w5 ⟨rfl, hn5, hs5⟩
                rw [map_out] at hn5
                have HN5 := hidOf hn5
                have HB5 := hidOf (HQ2.out.1.trans (hs5.below HQ2.out.1.size (Nat.le_refl _) HRR.out))
                have HO5 := hidOf (row_ns HO.out HQ2.out.2 hs5 (by decide) (by decide))
                clear hn5 hs5
                go_wp2_with (at_builtin; refine wpList_append_own2 _ rfl (.tmp 74) (.tmp 77) 23 rfl W.heap.size 3 i0 (.int .i64 0) 1 8 Try.underlying23 HI.out HZ0.out HZ1.out HZ2.out rfl (by decide) (.slice none 0 0) 0 [] rfl ⟨rfl, .inl ⟨rfl, rfl⟩⟩ ⟨g1, 0, none⟩ κ c1 ((js.take κ).map encI) rfl HLA.out (src_hi HO5.out) (encI_one _) ?c3 ?c4 HB5.out.size ?nextA)
                case c3 => unfold maxLen; omega
                case c4 => omega
                case nextA =>
                  intro vA wA hoA hgA hwA
                  have HN6 := hidOf (HN5.out.grown (base := W.heap.size) (e := 3) (size := 1) (v := .slice none 0 0) (n := 0) (xs := []) ⟨rfl, .inl ⟨rfl, rfl⟩⟩ hgA (by decide) (by decide) (by decide))
                  have HB6 := hidOf (HB5.out.grown hgA HB5.out.size (fun j hj => by cases hj))
                  have HO6 := hidOf (row_kept HO5.out (fun g _ _ hg => hgA.block g (Array.getElem?_eq_some_iff.1 hg).1 (fun e => by cases e)))
                  have hoA' : wA.ownsRow W.heap.size 3 1 vA κ ((js.take κ).map encI) := by simpa using hoA
                  have HOA := hidOf hoA'
                  clear hoA hoA' hgA hwA HN5 HB5 HO5
                  go_wp2_with (at_builtin; refine wpList_append_own2 _ rfl (.tmp 79) (.tmp 83) 23 rfl W.heap.size 3 i0 (.int .i64 0) 1 8 Try.underlying23 HI.out HZ0.out HZ1.out HZ2.out rfl (by decide) vA κ ((js.take κ).map encI) rfl HOA.out (adL g1 c1 κ) (m - (κ + 1)) (c1 - (κ + 1)) ((js.drop (κ + 1)).map encI) rfl HLB.out (src_lo HO6.out hc1) (encI_one _) ?c3 ?c4 HB6.out.size ?nextB)
                  case c3 => unfold maxLen; omega
                  case c4 => omega
                  case nextB =>
                    intro vB wB hoB hgB hwB
                    have HN7 := hidOf (HN6.out.grown HOA.out hgB (by decide) (by decide) (by decide))
                    have HB7 := hidOf (HB6.out.grown hgB HB6.out.size (fun j hj => (HOA.out.lt j hj).1))
                    have hoC : wB.ownsRow W.heap.size 3 1 vB (js.take κ ++ js.drop (κ + 1)).length ((js.take κ ++ js.drop (κ + 1)).map encI) := by
                      rw [List.map_append, show (js.take κ ++ js.drop (κ + 1)).length = κ + (m - (κ + 1)) from by have := HM.out; simp; omega]
                      simpa using hoB
                    have hl60 : (js.take κ ++ js.drop (κ + 1)).length ≤ 60 := by have := HM.out; simp; omega
                    have HOJ7 := hidOf (HOJ.out.out κ)
                    clear hoB hgB hwB HN6 HB6 HO6 HOA
                    go_wp2
                    exact ⟨⟨q + 1, js.take κ ++ js.drop (κ + 1), by omega, by go_num, hoC, hl60, HOJ7, HB7.out, HN7.out⟩, by simp [intOf]; omega⟩

            · -- none is left
              obtain ⟨a1, c1, hv, hc1, hc2, hcell⟩ := row_form ok3
              subst hv
              clear hcell
              obtain ⟨m, HM⟩ : ∃ m, Hid (js.length = m) := ⟨_, rfl⟩
              rw [HM.out] at ok3 hc1 hj60 ⊢
              have HL : Hid ((js.map (pkG (gAt vs))).length = m) := by show _ = _; rw [List.length_map, HM.out]
              have hm0 : ¬ (0 < m) := by have := HM.out; omega
              go_wp2_with fail
              refine (len_any W.heap.size 256 _ r wr HQ2.out.2).mono ?_
              rintro e w5 ⟨rfl, hw⟩
              subst hw
              rw [HL.out]
              go_wp2_with fail
              go_loopw [12] (fun i wq => ∃ j : Nat, j ≤ m ∧ i = .int .i64 (j : Int) ∧ wq.ownsRow W.heap.size 3 1 (.slice a1 m c1) m (js.map encI) ∧ Hid (Below W.heap.size W wq ∧ NetR wq W.heap.size 256 ((js.map (pkG (gAt vs))).drop j) r)) (fun i _ => m - (intOf i).toNat)
              case atStart => exact ⟨0, by omega, by go_num, ok3, HQ2.out.1, HQ2.out.2⟩
              case round =>
                obtain ⟨j, hjm, rfl, okq, HQ⟩ := hrel
                by_cases hjlt : j < m
                · exact absurd hjlt (by omega)
                · have hje : m ≤ j := by omega
                  have HLE : Hid (((js.map (pkG (gAt vs))).drop j).length = 0) := by show _ = _; rw [List.length_drop, HL.out]; omega
                  clear okq
                  go_wp2_with fail
                  refine (len_any W.heap.size 256 _ r _ HQ.out.2).mono ?_
                  rintro e w8 ⟨rfl, hw8⟩
                  subst hw8
                  rw [HLE.out]
                  go_wp2
                  go_ret
                  exact ⟨rfl, HQ.out.1⟩

          · -- no pick is left
            obtain ⟨a1, c1, hv, hc1, hc2, hcell⟩ := row_form ok3
            subst hv
            clear hcell
            obtain ⟨m, HM⟩ : ∃ m, Hid (js.length = m) := ⟨_, rfl⟩
            rw [HM.out] at ok3 hc1 hj60 ⊢
            have HL : Hid ((js.map (pkG (gAt vs))).length = m) := by show _ = _; rw [List.length_map, HM.out]
            go_wp2_with fail
            refine (len_any W.heap.size 256 _ r wr HQ2.out.2).mono ?_
            rintro e w5 ⟨rfl, hw⟩
            subst hw
            rw [HL.out]
            go_wp2_with fail
            go_loopw [12] (fun i wq => ∃ j : Nat, j ≤ m ∧ i = .int .i64 (j : Int) ∧ wq.ownsRow W.heap.size 3 1 (.slice a1 m c1) m (js.map encI) ∧ Hid (Below W.heap.size W wq ∧ NetR wq W.heap.size 256 ((js.map (pkG (gAt vs))).drop j) r)) (fun i _ => m - (intOf i).toNat)
            case atStart => exact ⟨0, by omega, by go_num, ok3, HQ2.out.1, HQ2.out.2⟩
            case round =>
              obtain ⟨j, hjm, rfl, okq, HQ⟩ := hrel
              by_cases hjlt : j < m
              · have hji : j < js.length := by rw [HM.out]; exact hjlt
                obtain ⟨nj, hnj⟩ : ∃ nj, js[j]? = some nj := ⟨_, List.getElem?_eq_getElem hji⟩
                have HDE0 := de_pk (gAt vs) nj (HOJ.out nj (List.mem_of_getElem? hnj))
                have HNJ := hidOf hnj
                have HGET0 : ((js.map (pkG (gAt vs))).drop j)[0]? = some (pkG (gAt vs) nj) := by rw [List.getElem?_drop, Nat.add_zero, List.getElem?_map, hnj]; rfl
                obtain ⟨lj, hlj⟩ : ∃ lj, pkG (gAt vs) nj = lj := ⟨_, rfl⟩
                rw [hlj] at HDE0 HGET0
                have HDE := hidOf HDE0
                have HGET := hidOf HGET0
                clear HDE0 HGET0 hnj hlj
                have HOQ := hidOf okq
                clear okq hji
                go_wp2_with fail
                refine (deliver_ok W.heap.size 256 _ r 0 _ _ HQ.out.2 HGET.out).mono ?_
                rintro e w6 ⟨cl, vv, he, hrep, hval, hn6, hs6⟩
                have hv : vv = gAt vs nj := (hval HDE.out.1).trans HDE.out.2
                subst hv
                rw [show ((js.map (pkG (gAt vs))).drop j).take 0 ++ ((js.map (pkG (gAt vs))).drop j).drop (0 + 1) = (js.map (pkG (gAt vs))).drop (j + 1) from by simp] at hn6
                have hcs : cl.toArray.size = Zr_msg.size := by rw [List.size_toArray, hrep.len]; kernel_rfl
                have hco : cl.toArray.all (·.oneCell') = true := hrep.all
                have hctx : cl.toArray[8]? = some (.int .i64 (nj : Int)) := by rw [List.getElem?_toArray, (ctx_cells hrep).2.1, ctx_gAt]
                rw [show decide ((de F_msg (some lj)).2 = some []) = true from by simp [HDE.out.1]] at he
                obtain ⟨cs, hcl⟩ : ∃ cs, cl.toArray = cs := ⟨_, rfl⟩
                rw [hcl] at he hcs hco hctx
                subst he
                have HCS := hidOf hcs
                have HCO := hidOf hco
                have HCTX := hidOf hctx
                have HCI : Hid ((Try.prog.info? 48).map (·.size) = some cs.size) := by show _ = _; rw [hcs]; exact Zr_msg_i
                have HN6 := hidOf hn6
                have HB6 := hidOf (HQ.out.1.trans (hs6.below HQ.out.1.size (Nat.le_refl _) HRR.out))
                have HO6 := hidOf (row_ns HOQ.out HQ.out.2 hs6 (by decide) (by decide))
                clear hn6 hs6 HQ hrep hval hcl hcs hco hctx HOQ
                go_wp2_with (refine wpList_store_rowF rfl 48 (.tmp 13) (.tmp 100) rfl w6.heap.size cs rfl rfl 48 Zr_msg (heap_alloc_new w6 (.cells Zr_msg 48)) HCI.out HCS.out.symm HCO.out ?next)
                case next =>
                  intro w7 hw7h
                  have hw7 := hw7h.out
                  have hB7 : Below w6.heap.size w6 w7 := by rw [hw7]; exact ((Below.refl _ _).alloc (Nat.le_refl _) _).trans ⟨rfl, rfl, rfl, by simp [World.setRow], fun k hk => setRow_other _ _ _ _ (by omega)⟩
                  have g7 : w7.heap[w6.heap.size]? = some (.cells cs 48 (0, 0)) := by rw [hw7]; exact setRow_heap _ _ _ _ 48 _ (heap_alloc_new w6 _)
                  have c8 : w7.cell? ⟨w6.heap.size, 8, none⟩ = some (.int .i64 (nj : Int)) := by rw [cell_of_row w7 _ 8 _ 48 (0, 0) g7]; exact HCTX.out
                  have HO7 := hidOf (row_below HO6.out hB7)
                  obtain ⟨a3, c3, hv3, _, _, hcell3⟩ := row_form HO7.out
                  cases hv3
                  obtain ⟨gq, rfl, hcq⟩ := hcell3 j hjlt
                  rw [List.getElem?_map, HNJ.out] at hcq
                  have cq : w7.cell? ⟨gq, j, none⟩ = some (.int .i64 (nj : Int)) := hcq
                  have HN7 := hidOf (show Below W.heap.size W w7 ∧ NetR w7 W.heap.size 256 ((js.map (pkG (gAt vs))).drop (j + 1)) r from ⟨HB6.out.trans (hB7.mono HB6.out.size), HN6.out.grow hB7⟩)
                  clear hw7 hw7h hB7 g7 HN6 HB6 HO6 hcell3 hcq HDE HGET
                  have HB8 := hidOf ((Below.refl w7.heap.size w7).drew)
                  go_wp2
                  go_region
                  go_wp2
                  exact ⟨⟨j + 1, by omega, by go_num, row_below HO7.out HB8.out, HN7.out.1.trans (HB8.out.mono HN7.out.1.size), HN7.out.2.drew⟩, by simp [intOf]; omega⟩
              · have hje : m ≤ j := by omega
                have HLE : Hid (((js.map (pkG (gAt vs))).drop j).length = 0) := by show _ = _; rw [List.length_drop, HL.out]; omega
                clear okq
                go_wp2_with fail
                refine (len_any W.heap.size 256 _ r _ HQ.out.2).mono ?_
                rintro e w8 ⟨rfl, hw8⟩
                subst hw8
                rw [HLE.out]
                go_wp2
                go_ret
                exact ⟨rfl, HQ.out.1⟩


    · -- all
      obtain ⟨_, hpW, r, hn, hr⟩ := HNG.out
      have hil := HOK.out.1
      have HRR := hidOf hr
      rw [cut_all 256 _ (by rw [List.length_map]; omega)] at hn
      have HJ0 := hidOf (show OkJ (gAt vs) is from fun i hi => (HOK.out.2.1 i hi).2)
      have HQ0 := hidOf (show Below W.heap.size W wr ∧ NetR wr W.heap.size 256 (is.map (pkG (gAt vs))) r from ⟨HNG.out.1, hn⟩)
      clear hn hr
      go_wp2_with fail
      go_loopw [6, 9] (fun v i wq => ∃ q : Nat, ∃ js : List Nat, q ≤ ls.length ∧ i = .int .i64 (q : Int) ∧ wq.ownsRow W.heap.size 3 1 v js.length (js.map encI) ∧ js.length ≤ 60 ∧ Hid (OkJ (gAt vs) js) ∧ Hid (Below W.heap.size W wq ∧ NetR wq W.heap.size 256 (js.map (pkG (gAt vs))) r)) (fun _ i _ => ls.length - (intOf i).toNat)
      case atStart => exact ⟨0, is, by omega, by go_num, ok, by omega, HJ0, HQ0⟩
      case round =>
        obtain ⟨q, js, hql, rfl, ok3, hj60, HOJ, HQ2⟩ := hrel
        by_cases hlt2 : q < ls.length
        · by_cases hpos : 0 < js.length
          · obtain ⟨b2, off2, rfl, hb2, hat2⟩ := HS.out.2 (fun e => by rw [e] at hlt2; simp at hlt2)
            obtain ⟨es2, hrep2, hrg2⟩ := hat2 q hlt2
            obtain rfl : es2 = [.int .i64 ls[q]] := hrep2
            have hcx0 := rangeAt_kept hrg2 (HQ2.out.1.block b2 hb2) 0 _ rfl
            rw [show wd .num = 1 from rfl, Nat.mul_one, Nat.add_zero] at hcx0
            obtain ⟨x, hx⟩ : ∃ x : Int, Hid (ls[q] = x) := ⟨ls[q], hidOf rfl⟩
            rw [hx.out] at hcx0
            obtain ⟨m, HM⟩ : ∃ m, Hid (js.length = m) := ⟨_, rfl⟩
            rw [HM.out] at ok3 hpos hj60
            obtain ⟨a1, c1, hv, hc1, hc2, hcell⟩ := row_form ok3
            subst hv
            obtain ⟨g1, rfl, _⟩ := hcell 0 hpos
            have hpk := pick_in x m hpos
            have hp1 := hpk.1
            have hp2 := hpk.2
            have HO := hidOf ok3
            obtain ⟨t, ht⟩ : ∃ t, x.tmod (m : Int) = t := ⟨_, rfl⟩
            rw [ht] at hp1 hp2
            clear hpk hcell hat2 hrg2 hb2 ok3
            by_cases hneg : t < 0
            · obtain ⟨κ, hκ⟩ : ∃ κ : Nat, t + (m : Int) = (κ : Int) := ⟨(t + m).toNat, by omega⟩
              have hκm : κ < m := by omega
              have HKL : Hid (κ < (js.map (pkG (gAt vs))).length) := by show _ < _; rw [List.length_map, HM.out]; exact hκm
              have HLA : Hid (((js.take κ).map encI).length = κ * 1) := by show _ = _; have := HM.out; simp; omega
              have HLB : Hid (((js.drop (κ + 1)).map encI).length = (m - (κ + 1)) * 1) := by show _ = _; have := HM.out; simp; omega
              have hs1 := sl_hi g1 m c1 κ (by omega) (by omega)
              have hs2 := sl_lo g1 m c1 κ (by omega)
              go_wp2_with fail
              refine (lose_ok W.heap.size 256 _ r κ _ HQ2.out.2 HKL.out).mono ?_
              rintro e w5 ⟨rfl, hn5, hs5⟩
              rw [map_out] at hn5
              have HN5 := hidOf hn5
              have HB5 := hidOf (HQ2.out.1.trans (hs5.below HQ2.out.1.size (Nat.le_refl _) HRR.out))
              have HO5 := hidOf (row_ns HO.out HQ2.out.2 hs5 (by decide) (by decide))
              clear hn5 hs5
              go_wp2_with (at_builtin; refine wpList_append_own2 _ rfl (.tmp 74) (.tmp 77) 23 rfl W.heap.size 3 i0 (.int .i64 0) 1 8 Try.underlying23 HI.out HZ0.out HZ1.out HZ2.out rfl (by decide) (.slice none 0 0) 0 [] rfl ⟨rfl, .inl ⟨rfl, rfl⟩⟩ ⟨g1, 0, none⟩ κ c1 ((js.take κ).map encI) rfl HLA.out (src_hi HO5.out) (encI_one _) ?c3 ?c4 HB5.out.size ?nextA)
              case c3 => unfold maxLen; omega
              case c4 => omega
              case nextA =>
                intro vA wA hoA hgA hwA
                have HN6 := hidOf (HN5.out.grown (base := W.heap.size) (e := 3) (size := 1) (v := .slice none 0 0) (n := 0) (xs := []) ⟨rfl, .inl ⟨rfl, rfl⟩⟩ hgA (by decide) (by decide) (by decide))
                have HB6 := hidOf (HB5.out.grown hgA HB5.out.size (fun j hj => by cases hj))
                have HO6 := hidOf (row_kept HO5.out (fun g _ _ hg => hgA.block g (Array.getElem?_eq_some_iff.1 hg).1 (fun e => by cases e)))
                have hoA' : wA.ownsRow W.heap.size 3 1 vA κ ((js.take κ).map encI) := by simpa using hoA
                have HOA := hidOf hoA'
                clear hoA hoA' hgA hwA HN5 HB5 HO5
                go_wp2_with (at_builtin; refine wpList_append_own2 _ rfl (.tmp 79) (.tmp 83) 23 rfl W.heap.size 3 i0 (.int .i64 0) 1 8 Try.underlying23 HI.out HZ0.out HZ1.out HZ2.out rfl (by decide) vA κ ((js.take κ).map encI) rfl HOA.out (adL g1 c1 κ) (m - (κ + 1)) (c1 - (κ + 1)) ((js.drop (κ + 1)).map encI) rfl HLB.out (src_lo HO6.out hc1) (encI_one _) ?c3 ?c4 HB6.out.size ?nextB)
                case c3 => unfold maxLen; omega
                case c4 => omega
                case nextB =>
                  intro vB wB hoB hgB hwB
                  have HN7 := hidOf (HN6.out.grown HOA.out hgB (by decide) (by decide) (by decide))
                  have HB7 := hidOf (HB6.out.grown hgB HB6.out.size (fun j hj => (HOA.out.lt j hj).1))
                  have hoC : wB.ownsRow W.heap.size 3 1 vB (js.take κ ++ js.drop (κ + 1)).length ((js.take κ ++ js.drop (κ + 1)).map encI) := by
                    rw [List.map_append, show (js.take κ ++ js.drop (κ + 1)).length = κ + (m - (κ + 1)) from by have := HM.out; simp; omega]
                    simpa using hoB
                  have hl60 : (js.take κ ++ js.drop (κ + 1)).length ≤ 60 := by have := HM.out; simp; omega
                  have HOJ7 := hidOf (HOJ.out.out κ)
                  clear hoB hgB hwB HN6 HB6 HO6 HOA
                  go_wp2
                  exact ⟨⟨q + 1, js.take κ ++ js.drop (κ + 1), by omega, by go_num, hoC, hl60, HOJ7, HB7.out, HN7.out⟩, by simp [intOf]; omega⟩

            · obtain ⟨κ, hκ⟩ : ∃ κ : Nat, t = (κ : Int) := ⟨t.toNat, by omega⟩
              subst hκ
              have hκm : κ < m := by omega
              have HKL : Hid (κ < (js.map (pkG (gAt vs))).length) := by show _ < _; rw [List.length_map, HM.out]; exact hκm
              have HLA : Hid (((js.take κ).map encI).length = κ * 1) := by show _ = _; have := HM.out; simp; omega
              have HLB : Hid (((js.drop (κ + 1)).map encI).length = (m - (κ + 1)) * 1) := by show _ = _; have := HM.out; simp; omega
              have hs1 := sl_hi g1 m c1 κ (by omega) (by omega)
              have hs2 := sl_lo g1 m c1 κ (by omega)
              go_wp2_with fail
              refine (lose_ok W.heap.size 256 _ r κ _ HQ2.out.2 HKL.out).mono ?_
              rintro e w5 ⟨rfl, hn5, hs5⟩
              rw [map_out] at hn5
              have HN5 := hidOf hn5
              have HB5 := hidOf (HQ2.out.1.trans (hs5.below HQ2.out.1.size (Nat.le_refl _) HRR.out))
              have HO5 := hidOf (row_ns HO.out HQ2.out.2 hs5 (by decide) (by decide))
              clear hn5 hs5
              go_wp2_with (at_builtin; refine wpList_append_own2 _ rfl (.tmp 74) (.tmp 77) 23 rfl W.heap.size 3 i0 (.int .i64 0) 1 8 Try.underlying23 HI.out HZ0.out HZ1.out HZ2.out rfl (by decide) (.slice none 0 0) 0 [] rfl ⟨rfl, .inl ⟨rfl, rfl⟩⟩ ⟨g1, 0, none⟩ κ c1 ((js.take κ).map encI) rfl HLA.out (src_hi HO5.out) (encI_one _) ?c3 ?c4 HB5.out.size ?nextA)
              case c3 => unfold maxLen; omega
              case c4 => omega
              case nextA =>
                intro vA wA hoA hgA hwA
                have HN6 := hidOf (HN5.out.grown (base := W.heap.size) (e := 3) (size := 1) (v := .slice none 0 0) (n := 0) (xs := []) ⟨rfl, .inl ⟨rfl, rfl⟩⟩ hgA (by decide) (by decide) (by decide))
                have HB6 := hidOf (HB5.out.grown hgA HB5.out.size (fun j hj => by cases hj))
                have HO6 := hidOf (row_kept HO5.out (fun g _ _ hg => hgA.block g (Array.getElem?_eq_some_iff.1 hg).1 (fun e => by cases e)))
                have hoA' : wA.ownsRow W.heap.size 3 1 vA κ ((js.take κ).map encI) := by simpa using hoA
                have HOA := hidOf hoA'
                clear hoA hoA' hgA hwA HN5 HB5 HO5
                go_wp2_with (at_builtin; refine wpList_append_own2 _ rfl (.tmp 79) (.tmp 83) 23 rfl W.heap.size 3 i0 (.int .i64 0) 1 8 Try.underlying23 HI.out HZ0.out HZ1.out HZ2.out rfl (by decide) vA κ ((js.take κ).map encI) rfl HOA.out (adL g1 c1 κ) (m - (κ + 1)) (c1 - (κ + 1)) ((js.drop (κ + 1)).map encI) rfl HLB.out (src_lo HO6.out hc1) (encI_one _) ?c3 ?c4 HB6.out.size ?nextB)
                case c3 => unfold maxLen; omega
                case c4 => omega
                case nextB =>
                  intro vB wB hoB hgB hwB
                  have HN7 := hidOf (HN6.out.grown HOA.out hgB (by decide) (by decide) (by decide))
                  have HB7 := hidOf (HB6.out.grown hgB HB6.out.size (fun j hj => (HOA.out.lt j hj).1))
                  have hoC : wB.ownsRow W.heap.size 3 1 vB (js.take κ ++ js.drop (κ + 1)).length ((js.take κ ++ js.drop (κ + 1)).map encI) := by
                    rw [List.map_append, show (js.take κ ++ js.drop (κ + 1)).length = κ + (m - (κ + 1)) from by have := HM.out; simp; omega]
                    simpa using hoB
                  have hl60 : (js.take κ ++ js.drop (κ + 1)).length ≤ 60 := by have := HM.out; simp; omega
                  have HOJ7 := hidOf (HOJ.out.out κ)
                  clear hoB hgB hwB HN6 HB6 HO6 HOA
                  go_wp2
                  exact ⟨⟨q + 1, js.take κ ++ js.drop (κ + 1), by omega, by go_num, hoC, hl60, HOJ7, HB7.out, HN7.out⟩, by simp [intOf]; omega⟩

          · -- none is left
            obtain ⟨a1, c1, hv, hc1, hc2, hcell⟩ := row_form ok3
            subst hv
            clear hcell
            obtain ⟨m, HM⟩ : ∃ m, Hid (js.length = m) := ⟨_, rfl⟩
            rw [HM.out] at ok3 hc1 hj60 ⊢
            have HL : Hid ((js.map (pkG (gAt vs))).length = m) := by show _ = _; rw [List.length_map, HM.out]
            have hm0 : ¬ (0 < m) := by have := HM.out; omega
            go_wp2_with fail
            refine (len_any W.heap.size 256 _ r wr HQ2.out.2).mono ?_
            rintro e w5 ⟨rfl, hw⟩
            subst hw
            rw [HL.out]
            go_wp2_with fail
            go_loopw [12] (fun i wq => ∃ j : Nat, j ≤ m ∧ i = .int .i64 (j : Int) ∧ wq.ownsRow W.heap.size 3 1 (.slice a1 m c1) m (js.map encI) ∧ Hid (Below W.heap.size W wq ∧ NetR wq W.heap.size 256 ((js.map (pkG (gAt vs))).drop j) r)) (fun i _ => m - (intOf i).toNat)
            case atStart => exact ⟨0, by omega, by go_num, ok3, HQ2.out.1, HQ2.out.2⟩
            case round =>
              obtain ⟨j, hjm, rfl, okq, HQ⟩ := hrel
              by_cases hjlt : j < m
              · exact absurd hjlt (by omega)
              · have hje : m ≤ j := by omega
                have HLE : Hid (((js.map (pkG (gAt vs))).drop j).length = 0) := by show _ = _; rw [List.length_drop, HL.out]; omega
                clear okq
                go_wp2_with fail
                refine (len_any W.heap.size 256 _ r _ HQ.out.2).mono ?_
                rintro e w8 ⟨rfl, hw8⟩
                subst hw8
                rw [HLE.out]
                go_wp2
                go_ret
                exact ⟨rfl, HQ.out.1⟩

        · -- no pick is left
          obtain ⟨a1, c1, hv, hc1, hc2, hcell⟩ := row_form ok3
          subst hv
          clear hcell
          obtain ⟨m, HM⟩ : ∃ m, Hid (js.length = m) := ⟨_, rfl⟩
          rw [HM.out] at ok3 hc1 hj60 ⊢
          have HL : Hid ((js.map (pkG (gAt vs))).length = m) := by show _ = _; rw [List.length_map, HM.out]
          go_wp2_with fail
          refine (len_any W.heap.size 256 _ r wr HQ2.out.2).mono ?_
          rintro e w5 ⟨rfl, hw⟩
          subst hw
          rw [HL.out]
          go_wp2_with fail
          go_loopw [12] (fun i wq => ∃ j : Nat, j ≤ m ∧ i = .int .i64 (j : Int) ∧ wq.ownsRow W.heap.size 3 1 (.slice a1 m c1) m (js.map encI) ∧ Hid (Below W.heap.size W wq ∧ NetR wq W.heap.size 256 ((js.map (pkG (gAt vs))).drop j) r)) (fun i _ => m - (intOf i).toNat)
          case atStart => exact ⟨0, by omega, by go_num, ok3, HQ2.out.1, HQ2.out.2⟩
          case round =>
            obtain ⟨j, hjm, rfl, okq, HQ⟩ := hrel
            by_cases hjlt : j < m
            · have hji : j < js.length := by rw [HM.out]; exact hjlt
              obtain ⟨nj, hnj⟩ : ∃ nj, js[j]? = some nj := ⟨_, List.getElem?_eq_getElem hji⟩
              have HDE0 := de_pk (gAt vs) nj (HOJ.out nj (List.mem_of_getElem? hnj))
              have HNJ := hidOf hnj
              have HGET0 : ((js.map (pkG (gAt vs))).drop j)[0]? = some (pkG (gAt vs) nj) := by rw [List.getElem?_drop, Nat.add_zero, List.getElem?_map, hnj]; rfl
              obtain ⟨lj, hlj⟩ : ∃ lj, pkG (gAt vs) nj = lj := ⟨_, rfl⟩
              rw [hlj] at HDE0 HGET0
              have HDE := hidOf HDE0
              have HGET := hidOf HGET0
              clear HDE0 HGET0 hnj hlj
              have HOQ := hidOf okq
              clear okq hji
              go_wp2_with fail
              refine (deliver_ok W.heap.size 256 _ r 0 _ _ HQ.out.2 HGET.out).mono ?_
              rintro e w6 ⟨cl, vv, he, hrep, hval, hn6, hs6⟩
              have hv : vv = gAt vs nj := (hval HDE.out.1).trans HDE.out.2
              subst hv
              rw [show ((js.map (pkG (gAt vs))).drop j).take 0 ++ ((js.map (pkG (gAt vs))).drop j).drop (0 + 1) = (js.map (pkG (gAt vs))).drop (j + 1) from by simp] at hn6
              have hcs : cl.toArray.size = Zr_msg.size := by rw [List.size_toArray, hrep.len]; kernel_rfl
              have hco : cl.toArray.all (·.oneCell') = true := hrep.all
              have hctx : cl.toArray[8]? = some (.int .i64 (nj : Int)) := by rw [List.getElem?_toArray, (ctx_cells hrep).2.1, ctx_gAt]
              rw [show decide ((de F_msg (some lj)).2 = some []) = true from by simp [HDE.out.1]] at he
              obtain ⟨cs, hcl⟩ : ∃ cs, cl.toArray = cs := ⟨_, rfl⟩
              rw [hcl] at he hcs hco hctx
              subst he
              have HCS := hidOf hcs
              have HCO := hidOf hco
              have HCTX := hidOf hctx
              have HCI : Hid ((Try.prog.info? 48).map (·.size) = some cs.size) := by show _ = _; rw [hcs]; exact Zr_msg_i
              have HN6 := hidOf hn6
              have HB6 := hidOf (HQ.out.1.trans (hs6.below HQ.out.1.size (Nat.le_refl _) HRR.out))
              have HO6 := hidOf (row_ns HOQ.out HQ.out.2 hs6 (by decide) (by decide))
              clear hn6 hs6 HQ hrep hval hcl hcs hco hctx HOQ
              go_wp2_with (refine wpList_store_rowF rfl 48 (.tmp 13) (.tmp 100) rfl w6.heap.size cs rfl rfl 48 Zr_msg (heap_alloc_new w6 (.cells Zr_msg 48)) HCI.out HCS.out.symm HCO.out ?next)
              case next =>
                intro w7 hw7h
                have hw7 := hw7h.out
                have hB7 : Below w6.heap.size w6 w7 := by rw [hw7]; exact ((Below.refl _ _).alloc (Nat.le_refl _) _).trans ⟨rfl, rfl, rfl, by simp [World.setRow], fun k hk => setRow_other _ _ _ _ (by omega)⟩
                have g7 : w7.heap[w6.heap.size]? = some (.cells cs 48 (0, 0)) := by rw [hw7]; exact setRow_heap _ _ _ _ 48 _ (heap_alloc_new w6 _)
                have c8 : w7.cell? ⟨w6.heap.size, 8, none⟩ = some (.int .i64 (nj : Int)) := by rw [cell_of_row w7 _ 8 _ 48 (0, 0) g7]; exact HCTX.out
                have HO7 := hidOf (row_below HO6.out hB7)
                obtain ⟨a3, c3, hv3, _, _, hcell3⟩ := row_form HO7.out
                cases hv3
                obtain ⟨gq, rfl, hcq⟩ := hcell3 j hjlt
                rw [List.getElem?_map, HNJ.out] at hcq
                have cq : w7.cell? ⟨gq, j, none⟩ = some (.int .i64 (nj : Int)) := hcq
                have HN7 := hidOf (show Below W.heap.size W w7 ∧ NetR w7 W.heap.size 256 ((js.map (pkG (gAt vs))).drop (j + 1)) r from ⟨HB6.out.trans (hB7.mono HB6.out.size), HN6.out.grow hB7⟩)
                clear hw7 hw7h hB7 g7 HN6 HB6 HO6 hcell3 hcq HDE HGET
                have HB8 := hidOf ((Below.refl w7.heap.size w7).drew)
                go_wp2
                go_region
                go_wp2
                exact ⟨⟨j + 1, by omega, by go_num, row_below HO7.out HB8.out, HN7.out.1.trans (HB8.out.mono HN7.out.1.size), HN7.out.2.drew⟩, by simp [intOf]; omega⟩
            · have hje : m ≤ j := by omega
              have HLE : Hid (((js.map (pkG (gAt vs))).drop j).length = 0) := by show _ = _; rw [List.length_drop, HL.out]; omega
              clear okq
              go_wp2_with fail
              refine (len_any W.heap.size 256 _ r _ HQ.out.2).mono ?_
              rintro e w8 ⟨rfl, hw8⟩
              subst hw8
              rw [HLE.out]
              go_wp2
              go_ret
              exact ⟨rfl, HQ.out.1⟩


theorem lawLoses (W : World) (a : Option Addr) (len cap : Nat) (vs : List (Vl F_msg)) (hn : len = vs.length) (hR : RepL W (fun b => b < W.heap.size) F_msg a vs) (a2 : Option Addr) (len2 cap2 : Nat) (ls : List Int) (hn2 : len2 = ls.length) (hS : RepL W (fun b => b < W.heap.size) .num a2 ls) :
    Calls Try.prog 4 #[.slice a len cap, .slice a2 len2 cap2] W fun e w' => e = .returned (.bool true) ∧ Below W.heap.size W w' := by
  subst hn hn2
  exact lawLosesX W a cap vs hR a2 cap2 ls hS

end Go.Proofs.Ytcdoejdbmllnnab
