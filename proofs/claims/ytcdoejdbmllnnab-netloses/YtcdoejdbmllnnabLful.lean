/- The walk of NetFull: whatever room and messages, it returns true and changes nothing that was there. -/
import Derived.Test.YtcdoejdbmllnnabNsn
namespace Go.Proofs.Ytcdoejdbmllnnab
open Go.RowKit

/- the message that is handed in at i -/
def gAt (vs : List (Vl F_msg)) (i : Nat) : Vl F_msg := withCtx (vs.getD i Zv_msg) i
def encI (i : Nat) : Value := .int .i64 (i : Int)
theorem rep_gAt {W w3 : World} {vs : List (Vl F_msg)} {k : Nat} (hk : k < vs.length) {es : List Value} (h : Rep W (fun b => b < W.heap.size) F_msg es vs[k]) (hb : Below W.heap.size W w3) : Rep w3 (fun b => b < w3.heap.size) F_msg (es.set 8 (.int .i64 (k : Int))) (gAt vs k) := by
  have h1 : Rep w3 (fun b => b < w3.heap.size) F_msg es vs[k] := h.kept hb.size (fun b x => hb.block b x) (fun b x => Nat.lt_of_lt_of_le x hb.size)
  have h2 := (ctx_cells h1).2.2 k
  rwa [show withCtx vs[k] k = gAt vs k by unfold gAt; rw [List.getD_eq_getElem?_getD, List.getElem?_eq_getElem hk]; rfl] at h2
theorem zr_size (es : List Value) (h : es.length = 46) : Zr_msg.size = es.toArray.size := by rw [show es.toArray.size = 46 from h]; kernel_rfl
theorem ctx_gAt (vs : List (Vl F_msg)) (i : Nat) : ctxOf (gAt vs i) = i := rfl
theorem row_form {w : World} {base e : Nat} {v : Value} {n : Nat} {xs : List Value} (h : w.ownsRow base e 1 v n xs) : ∃ a c, v = .slice a n c ∧ n ≤ c ∧ c ≤ maxLen ∧ ∀ j, j < n → ∃ g, a = some ⟨g, 0, none⟩ ∧ w.cell? ⟨g, j, none⟩ = xs[j]? := by
  rcases h.2 with ⟨e1, e2⟩ | ⟨g, cap, cur, e1, e2, e3, e4, e5, e6, e7⟩
  · exact ⟨none, 0, by rw [e1, e2], by omega, by simp [maxLen], fun j hj => by omega⟩
  · refine ⟨_, cap, e1, e4, e5, fun j hj => ⟨g, rfl, ?_⟩⟩
    rw [cell_of_row w g j cur e (0, 0) e3, ← e7, List.getElem?_take, if_pos (by omega)]
    simp
theorem cut_len (R : Nat) (l : List (List UInt8)) : (cutM R l).length = l.length - (l.length - R) := by unfold cutM; simp
theorem info3' : (Try.prog.info? 3).map (fun i => (i.zero, i.size, i.bytes)) = some (some (.int .i64 0), 1, 8) := by kernel_rfl
theorem de_pk (g : Nat → Vl F_msg) (i : Nat) (h : (en F_msg (g i)).2 = false) : (de F_msg (some (pkG g i))).2 = some [] ∧ (de F_msg (some (pkG g i))).1 = g i := by
  have h1 := de_en F_msg (g i) [] h
  rw [List.append_nil] at h1
  unfold pkG
  rw [h1]
  exact ⟨rfl, rfl⟩

set_option maxHeartbeats 1600000 in
set_option maxRecDepth 100000 in
theorem lawFullNo (W : World) (room : Int) (a : Option Addr) (len cap : Nat) (h : room < 1 ∨ 256 < room) :
    Calls Try.prog 5 #[.int .i64 room, .slice a len cap] W fun e w' => e = .returned (.bool true) ∧ Below W.heap.size W w' := by
  have HN := hidOf (new_no room W h)
  by_cases h1 : room < 1
  · clear h
    go_enter Try.func5, Try.ntmps5
    go_wp2_with fail
    refine HN.out.mono ?_
    rintro e w1 ⟨rfl, hw⟩
    subst hw
    go_wp2_with fail
    refine (known_any _).mono ?_
    rintro e w2 ⟨rfl, hb⟩
    go_wp2
    go_ret
    exact ⟨rfl, hb⟩
  · have h2 : 256 < room := by omega
    clear h
    go_enter Try.func5, Try.ntmps5
    go_wp2_with fail
    refine HN.out.mono ?_
    rintro e w1 ⟨rfl, hw⟩
    subst hw
    go_wp2_with fail
    refine (known_any _).mono ?_
    rintro e w2 ⟨rfl, hb⟩
    go_wp2
    go_ret
    exact ⟨rfl, hb⟩

set_option maxHeartbeats 4000000 in
set_option maxRecDepth 100000 in
theorem lawFullYes (W : World) (R : Nat) (h1 : 1 ≤ R) (h2 : R ≤ 256) (a : Option Addr) (cap : Nat) (vs : List (Vl F_msg)) (hR : RepL W (fun b => b < W.heap.size) F_msg a vs) :
    Calls Try.prog 5 #[.int .i64 (R : Int), .slice a vs.length cap] W fun e w' => e = .returned (.bool true) ∧ Below W.heap.size W w' := by
  have hvl := hR.1
  obtain ⟨i0, hi0, hz0, hz1, hz2⟩ := info_parts info3'
  have HI := hidOf hi0
  have HZ0 := hidOf hz0
  have HZ1 := hidOf hz1
  have HZ2 := hidOf hz2
  have HR := hidOf hR
  have hB1 : Below W.heap.size W (W.alloc (.cells #[.int .i64 (R : Int), .slice none 0 0] 60)) := (Below.refl _ _).alloc (Nat.le_refl _) _
  have HB1 := hidOf hB1
  have HN1 := hidOf (netR_new W R h2)
  clear hR hB1 hi0 hz0 hz1 hz2
  go_enter Try.func5, Try.ntmps5
  go_wp2_with fail
  refine (new_ok (R : Int) W (by omega) (by omega)).mono ?_
  rintro e w1 ⟨rfl, rfl⟩
  go_wp2_with fail
  refine (known_any _).mono ?_
  rintro e w2 ⟨rfl, hb⟩
  have HG : Hid (NetG W w2 W.heap.size R (gAt vs) []) := ⟨HB1.out.trans (hb.mono HB1.out.size), Nat.le_refl _, none, (by rw [List.map_nil, cut_all R [] (by simp)]; exact HN1.out.grow hb), fun q hq => by cases hq⟩
  clear hb
  go_wp2_with fail
  go_loopw [6, 7] (fun v i wr => ∃ k : Nat, ∃ is : List Nat, k ≤ 400 ∧ k ≤ vs.length ∧ i = .int .i64 (k : Int) ∧ wr.ownsRow W.heap.size 3 1 v is.length (is.map encI) ∧ Hid (OkG (gAt vs) k is) ∧ Hid (NetG W wr W.heap.size R (gAt vs) is)) (fun _ i _ => 400 - (intOf i).toNat)
  case atStart => exact ⟨0, [], Nat.zero_le _, Nat.zero_le _, rfl, ⟨rfl, .inl ⟨rfl, rfl⟩⟩, ⟨Nat.le_refl _, fun i hi => (by cases hi), List.Pairwise.nil⟩, HG⟩
  case round =>
    obtain ⟨k, is, hk4, hkl, rfl, ok, HOK, HNG⟩ := hrel
    by_cases hlt : k < vs.length
    · by_cases h400 : k < 400
      · obtain ⟨b, off, rfl, hbW, hat⟩ := HR.out.2 (fun e => by rw [e] at hlt; simp at hlt)
        obtain ⟨es, hrep, hrg⟩ := hat k hlt
        rw [show wd F_msg = 46 from by kernel_rfl] at hrg
        have hB := HNG.out.1
        have HRG := hidOf (rangeAt_kept hrg (hB.block b hbW))
        have hes : es.length = 46 := by rw [hrep.len]; kernel_rfl
        have HEI : Hid ((Try.prog.info? 48).map (·.size) = some es.length) := by show _ = _; rw [hes]; kernel_rfl
        have HEI2 : Hid ((Try.prog.info? 48).map (·.size) = some es.toArray.size) := by show _ = _; rw [List.size_toArray, hes]; kernel_rfl
        have HES : Hid (Zr_msg.size = es.toArray.size) := zr_size es hes
        have HEO : Hid (es.toArray.all (·.oneCell') = true) := hrep.all
        have HREP := hidOf hrep
        have HES0 := hidOf hes
        have hB2' := hidOf hB
        clear hrg hrep hat hbW hB hes
        go_wp2_with (first
          | (refine wpList_load_mid rfl 48 (.tmp 42) rfl b (off + k * 46) rfl es _ HRG.out Try.underlying48 rfl HEI.out ?_)
          | (refine wpList_store_rowF rfl 48 (.tmp 8) (.tmp 43) rfl wr.heap.size es.toArray rfl rfl 48 Zr_msg (heap_alloc_new wr (.cells Zr_msg 48)) HEI2.out HES.out HEO.out ?next))
        case next =>
          intro w3 hw3h
          have hw3 := hw3h.out
          have hB3 : Below wr.heap.size wr w3 := by rw [hw3]; exact ((Below.refl _ _).alloc (Nat.le_refl _) _).trans ⟨rfl, rfl, rfl, by simp [World.setRow], fun k hk => setRow_other _ _ _ _ (by omega)⟩
          have g3 : w3.heap[wr.heap.size]? = some (.cells es.toArray 48 (0, 0)) := by rw [hw3]; exact setRow_heap _ _ _ _ 48 _ (heap_alloc_new wr _)
          obtain ⟨c8, hc8⟩ : ∃ c, w3.cell? ⟨wr.heap.size, 8, none⟩ = some c := ⟨es[8]'(by rw [HES0.out]; omega), by rw [cell_of_row w3 _ 8 _ 48 (0, 0) g3, List.getElem?_toArray, List.getElem?_eq_getElem]⟩
          have f8 : w3.frozen? ⟨wr.heap.size, 8, none⟩ = false := by simp [World.frozen?, g3]
          have hp8 : wr.heap.size < w3.heap.size := (Array.getElem?_eq_some_iff.1 g3).1
          have G4 : Hid ((w3.setCell ⟨wr.heap.size, 8, none⟩ (.int .i64 (k : Int))).heap[wr.heap.size]? = some (.cells (es.set 8 (.int .i64 (k : Int))).toArray 48 (0, 0))) := by
            show _ = _
            rw [heap_setCell_same w3 _ 8 _ 48 _ g3, List.setIfInBounds_toArray]
          have HB4 : Hid (Below wr.heap.size wr (w3.setCell ⟨wr.heap.size, 8, none⟩ (.int .i64 (k : Int)))) := hB3.trans ⟨rfl, rfl, rfl, by simp, fun j hj => Below.heap_setCell _ _ _ _ (by simp; omega)⟩
          have HREP4 := hidOf (rep_gAt hlt HREP.out (hB2'.out.trans (HB4.out.mono hB2'.out.size)))
          have HI4 : Hid ((Try.prog.info? 48).map (·.size) = some (es.set 8 (.int .i64 (k : Int))).toArray.size) := by
            show _ = _
            rw [show (es.set 8 (.int .i64 (k : Int))).toArray.size = 46 from by simpa using HES0.out]; kernel_rfl
          obtain ⟨_, hpW, r, hn, hr⟩ := HNG.out
          have HN4 := hidOf (hn.grow HB4.out)
          have HRR := hidOf hr
          have HOK4 := hidOf (row_below ok HB4.out)
          clear hw3h hw3 g3 hB3 HREP HRG HEI HEI2 HES HEO hn hr ok
          cases hen : (en F_msg (gAt vs k)).2 with
          | true =>
            have HEN := hidOf hen
            clear hen
            go_wp2_with (refine wpList_load_row rfl 48 (.tmp 8) rfl wr.heap.size rfl 48 (es.set 8 (.int .i64 (k : Int))).toArray (0, 0) _ G4.out Try.underlying48 rfl HI4.out ?_)
            refine (send_no W.heap.size R _ r _ (gAt vs k) _ HN4.out HREP4.out HEN.out).mono ?_
            rintro e w5 ⟨rfl, hn5, hB5⟩
            have HNG5 := hidOf (HNG.out.below (HB4.out.trans (hB5.mono HB4.out.size)))
            have ok5 := row_below HOK4.out hB5
            clear hn5 hB5
            go_wp2
            exact ⟨⟨k + 1, is, by omega, by omega, by go_num, ok5, HOK.out.next, HNG5⟩, by simp [intOf]; omega⟩
          | false =>
            have HEN := hidOf hen
            clear hen
            go_wp2_with (refine wpList_load_row rfl 48 (.tmp 8) rfl wr.heap.size rfl 48 (es.set 8 (.int .i64 (k : Int))).toArray (0, 0) _ G4.out Try.underlying48 rfl HI4.out ?_)
            refine (send_ok W.heap.size R _ r _ (gAt vs k) _ HN4.out (cut_le _ _) HREP4.out HEN.out).mono ?_
            rintro e w5 ⟨rfl, r5, hn5, hs5⟩
            have HNG5 := hidOf (netG_sent (hB2'.out.trans (HB4.out.mono hB2'.out.size)) hpW HRR.out hn5 hs5)
            have ok5 := row_ns HOK4.out HN4.out hs5 (by decide) (by decide)
            have HOK5 := hidOf ok5
            have hil := HOK.out.1
            have O1 : Hid (∀ u ∈ (#[.int .i64 (k : Int)] : Array Value).toList, u.oneCell' = true) := by intro u hu; simp at hu; subst hu; rfl
            clear hn5 hs5 HN4 HB4 G4 ok5
            go_wp2_with (at_builtin; refine wpList_append_own2 _ rfl (.tmp 50) (.tmp 52) 23 rfl W.heap.size 3 i0 (.int .i64 0) 1 8 Try.underlying23 HI.out HZ0.out HZ1.out HZ2.out rfl (by decide) _ _ _ rfl (HOK5.out.alloc _) ⟨w5.heap.size, 0, none⟩ 1 1 (#[.int .i64 (k : Int)] : Array Value).toList rfl rfl (fun j u hj => cell_news w5 _ _ j u hj) O1.out ?c3 ?c4 ?c5 ?next2)
            case c3 => unfold maxLen; omega
            case c4 => omega
            case c5 => have := HNG5.out.1.size; rw [World.size_alloc]; omega
            case next2 =>
              intro v6 w6 ho6 hg6 hw6
              have HNG6 := hidOf ((HNG5.out.below ((Below.refl _ _).alloc (Nat.le_refl _) _)).grown (HOK5.out.alloc _) hg6 (by decide) (by decide) (by decide))
              have ok6 : w6.ownsRow W.heap.size 3 1 v6 (is ++ [k]).length ((is ++ [k]).map encI) := by
                rw [List.length_append, List.map_append]; exact ho6
              have HOK6 := hidOf (HOK.out.more HEN.out)
              clear ho6 hg6 hw6 HNG5 HOK5
              go_wp2
              exact ⟨⟨k + 1, is ++ [k], by omega, by omega, by go_num, ok6, HOK6, HNG6⟩, by simp [intOf]; omega⟩
      · -- EXIT1
        obtain ⟨a1, c1, hv, hc1, hc2, hcell⟩ := row_form ok
        subst hv
        clear hcell
        obtain ⟨_, hpW, r, hn, hr⟩ := HNG.out
        have HN := hidOf hn
        have HRR := hidOf hr
        have hil := HOK.out.1
        clear hn hr
        obtain ⟨m, HM⟩ : ∃ m, Hid (is.length = m) := ⟨_, rfl⟩
        rw [HM.out] at ok hc1 hil ⊢
        by_cases hfr : m < R
        · have HD : Hid (cutM R (is.map (pkG (gAt vs))) = (is.map (pkG (gAt vs))).drop 0) := by show _ = _; unfold cutM; rw [List.length_map, HM.out, show m - R = 0 by omega]
          have HL : Hid ((cutM R (is.map (pkG (gAt vs)))).length = m) := by show _ = _; rw [cut_len, List.length_map, HM.out]; omega
          have hneg : (m : Int) - (R : Int) < 0 := by omega

          go_wp2_with fail
          refine (len_any W.heap.size R _ r wr HN.out).mono ?_
          rintro e w5 ⟨rfl, hw⟩
          subst hw
          rw [HL.out]
          go_wp2_with fail
          go_loopw [10] (fun i wq => ∃ j : Nat, 0 ≤ j ∧ j ≤ m ∧ i = .int .i64 (j : Int) ∧ wq.ownsRow W.heap.size 3 1 (.slice a1 (m) c1) (m) (is.map encI) ∧ Hid (Below W.heap.size W wq ∧ NetR wq W.heap.size R ((is.map (pkG (gAt vs))).drop j) r)) (fun i _ => m - (intOf i).toNat)
          case atStart => exact ⟨0, by omega, by omega, by go_num, ok, HNG.out.1, by rw [← HD.out]; exact HN.out⟩
          case round =>
            obtain ⟨j, hj0, hjm, rfl, okq, HQ⟩ := hrel
            by_cases hjlt : j < m
            · have hji : j < is.length := by rw [HM.out]; exact hjlt
              have HJ := hidOf hji
              obtain ⟨nj, hnj⟩ : ∃ nj, is[j]? = some nj := ⟨_, List.getElem?_eq_getElem hji⟩
              have HDE0 := de_pk (gAt vs) nj (HOK.out.2.1 nj (List.mem_of_getElem? hnj)).2
              have HNJ := hidOf hnj
              have HGET0 : ((is.map (pkG (gAt vs))).drop j)[0]? = some (pkG (gAt vs) nj) := by rw [List.getElem?_drop, Nat.add_zero, List.getElem?_map, hnj]; rfl
              obtain ⟨lj, hlj⟩ : ∃ lj, pkG (gAt vs) nj = lj := ⟨_, rfl⟩
              rw [hlj] at HDE0 HGET0
              have HDE := hidOf HDE0
              have HGET := hidOf HGET0
              clear HDE0 HGET0 hnj hlj
              have HOQ := hidOf okq
              clear okq hji
              go_wp2_with fail
              refine (deliver_ok W.heap.size R _ r 0 _ _ HQ.out.2 HGET.out).mono ?_
              rintro e w6 ⟨cl, vv, he, hrep, hval, hn6, hs6⟩
              have hv : vv = gAt vs nj := (hval HDE.out.1).trans HDE.out.2
              subst hv
              rw [show ((is.map (pkG (gAt vs))).drop j).take 0 ++ ((is.map (pkG (gAt vs))).drop j).drop (0 + 1) = (is.map (pkG (gAt vs))).drop (j + 1) from by simp] at hn6
              have hcs : cl.toArray.size = Zr_msg.size := by rw [List.size_toArray, hrep.len]; kernel_rfl
              have hco : cl.toArray.all (·.oneCell') = true := hrep.all
              have hctx : cl.toArray[8]? = some (.int .i64 (nj : Int)) := by rw [List.getElem?_toArray, (ctx_cells hrep).2.1, ctx_gAt]
              rw [show decide ((de F_msg (some lj)).2 = some []) = true from by simp [HDE.out.1]] at he
              obtain ⟨cs, hcl⟩ : ∃ cs, cl.toArray = cs := ⟨_, rfl⟩
              rw [hcl] at he hcs hco hctx
              subst he
              have HCS := hidOf hcs
              have HCO := hidOf hco
              have HCTX := hidOf hctx
              have HCI : Hid ((Try.prog.info? 48).map (·.size) = some cs.size) := by show _ = _; rw [hcs]; exact Zr_msg_i
              have HN6 := hidOf hn6
              have HB6 := hidOf (HQ.out.1.trans (hs6.below HQ.out.1.size (Nat.le_refl _) HRR.out))
              have HO6 := hidOf (row_ns HOQ.out HQ.out.2 hs6 (by decide) (by decide))
              clear hn6 hs6 HQ hrep hval hcl hcs hco hctx HOQ
              go_wp2_with (refine wpList_store_rowF rfl 48 (.tmp 11) (.tmp 77) rfl w6.heap.size cs rfl rfl 48 Zr_msg (heap_alloc_new w6 (.cells Zr_msg 48)) HCI.out HCS.out.symm HCO.out ?next)
              case next =>
                intro w7 hw7h
                have hw7 := hw7h.out
                have hB7 : Below w6.heap.size w6 w7 := by rw [hw7]; exact ((Below.refl _ _).alloc (Nat.le_refl _) _).trans ⟨rfl, rfl, rfl, by simp [World.setRow], fun k hk => setRow_other _ _ _ _ (by omega)⟩
                have g7 : w7.heap[w6.heap.size]? = some (.cells cs 48 (0, 0)) := by rw [hw7]; exact setRow_heap _ _ _ _ 48 _ (heap_alloc_new w6 _)
                have c8 : w7.cell? ⟨w6.heap.size, 8, none⟩ = some (.int .i64 (nj : Int)) := by rw [cell_of_row w7 _ 8 _ 48 (0, 0) g7]; exact HCTX.out
                have HO7 := hidOf (row_below HO6.out hB7)
                obtain ⟨a2, c2, hv2, _, _, hcell2⟩ := row_form HO7.out
                cases hv2
                obtain ⟨gq, rfl, hcq⟩ := hcell2 j hjlt
                rw [List.getElem?_map, HNJ.out] at hcq
                have cq : w7.cell? ⟨gq, j, none⟩ = some (.int .i64 (nj : Int)) := hcq
                have HN7 := hidOf (show Below W.heap.size W w7 ∧ NetR w7 W.heap.size R ((is.map (pkG (gAt vs))).drop (j + 1)) r from ⟨HB6.out.trans (hB7.mono HB6.out.size), HN6.out.grow hB7⟩)
                clear hw7 hw7h hB7 g7 HN6 HB6 HO6 hcell2 hcq HDE HGET
                have HB8 := hidOf ((Below.refl w7.heap.size w7).drew)
                go_wp2
                go_region
                go_wp2
                exact ⟨⟨j + 1, by omega, by omega, by go_num, row_below HO7.out HB8.out, HN7.out.1.trans (HB8.out.mono HN7.out.1.size), HN7.out.2.drew⟩, by simp [intOf]; omega⟩
            · have hje : m ≤ j := by omega
              go_wp2
              go_ret
              exact ⟨rfl, HQ.out.1⟩

        · obtain ⟨f, hf1, hf2⟩ : ∃ f, m ≤ R + f ∧ R + f ≤ m := ⟨m - R, by omega, by omega⟩
          have HF : Hid ((m : Int) - (R : Int) = (f : Int)) := by show _ = _; omega
          have HD : Hid (cutM R (is.map (pkG (gAt vs))) = (is.map (pkG (gAt vs))).drop f) := by show _ = _; unfold cutM; rw [List.length_map, HM.out, show m - R = f by omega]
          have HL : Hid ((cutM R (is.map (pkG (gAt vs)))).length = R) := by show _ = _; rw [cut_len, List.length_map, HM.out]; omega
          have hneg : ¬ ((m : Int) - (R : Int) < 0) := by omega

          go_wp2_with fail
          refine (len_any W.heap.size R _ r wr HN.out).mono ?_
          rintro e w5 ⟨rfl, hw⟩
          subst hw
          rw [HL.out]
          go_wp2_with fail
          rw [HF.out]
          go_loopw [10] (fun i wq => ∃ j : Nat, f ≤ j ∧ j ≤ m ∧ i = .int .i64 (j : Int) ∧ wq.ownsRow W.heap.size 3 1 (.slice a1 (m) c1) (m) (is.map encI) ∧ Hid (Below W.heap.size W wq ∧ NetR wq W.heap.size R ((is.map (pkG (gAt vs))).drop j) r)) (fun i _ => m - (intOf i).toNat)
          case atStart => exact ⟨f, by omega, by omega, by go_num, ok, HNG.out.1, by rw [← HD.out]; exact HN.out⟩
          case round =>
            obtain ⟨j, hj0, hjm, rfl, okq, HQ⟩ := hrel
            by_cases hjlt : j < m
            · have hji : j < is.length := by rw [HM.out]; exact hjlt
              have HJ := hidOf hji
              obtain ⟨nj, hnj⟩ : ∃ nj, is[j]? = some nj := ⟨_, List.getElem?_eq_getElem hji⟩
              have HDE0 := de_pk (gAt vs) nj (HOK.out.2.1 nj (List.mem_of_getElem? hnj)).2
              have HNJ := hidOf hnj
              have HGET0 : ((is.map (pkG (gAt vs))).drop j)[0]? = some (pkG (gAt vs) nj) := by rw [List.getElem?_drop, Nat.add_zero, List.getElem?_map, hnj]; rfl
              obtain ⟨lj, hlj⟩ : ∃ lj, pkG (gAt vs) nj = lj := ⟨_, rfl⟩
              rw [hlj] at HDE0 HGET0
              have HDE := hidOf HDE0
              have HGET := hidOf HGET0
              clear HDE0 HGET0 hnj hlj
              have HOQ := hidOf okq
              clear okq hji
              go_wp2_with fail
              refine (deliver_ok W.heap.size R _ r 0 _ _ HQ.out.2 HGET.out).mono ?_
              rintro e w6 ⟨cl, vv, he, hrep, hval, hn6, hs6⟩
              have hv : vv = gAt vs nj := (hval HDE.out.1).trans HDE.out.2
              subst hv
              rw [show ((is.map (pkG (gAt vs))).drop j).take 0 ++ ((is.map (pkG (gAt vs))).drop j).drop (0 + 1) = (is.map (pkG (gAt vs))).drop (j + 1) from by simp] at hn6
              have hcs : cl.toArray.size = Zr_msg.size := by rw [List.size_toArray, hrep.len]; kernel_rfl
              have hco : cl.toArray.all (·.oneCell') = true := hrep.all
              have hctx : cl.toArray[8]? = some (.int .i64 (nj : Int)) := by rw [List.getElem?_toArray, (ctx_cells hrep).2.1, ctx_gAt]
              rw [show decide ((de F_msg (some lj)).2 = some []) = true from by simp [HDE.out.1]] at he
              obtain ⟨cs, hcl⟩ : ∃ cs, cl.toArray = cs := ⟨_, rfl⟩
              rw [hcl] at he hcs hco hctx
              subst he
              have HCS := hidOf hcs
              have HCO := hidOf hco
              have HCTX := hidOf hctx
              have HCI : Hid ((Try.prog.info? 48).map (·.size) = some cs.size) := by show _ = _; rw [hcs]; exact Zr_msg_i
              have HN6 := hidOf hn6
              have HB6 := hidOf (HQ.out.1.trans (hs6.below HQ.out.1.size (Nat.le_refl _) HRR.out))
              have HO6 := hidOf (row_ns HOQ.out HQ.out.2 hs6 (by decide) (by decide))
              clear hn6 hs6 HQ hrep hval hcl hcs hco hctx HOQ
              go_wp2_with (refine wpList_store_rowF rfl 48 (.tmp 11) (.tmp 77) rfl w6.heap.size cs rfl rfl 48 Zr_msg (heap_alloc_new w6 (.cells Zr_msg 48)) HCI.out HCS.out.symm HCO.out ?next)
              case next =>
                intro w7 hw7h
                have hw7 := hw7h.out
                have hB7 : Below w6.heap.size w6 w7 := by rw [hw7]; exact ((Below.refl _ _).alloc (Nat.le_refl _) _).trans ⟨rfl, rfl, rfl, by simp [World.setRow], fun k hk => setRow_other _ _ _ _ (by omega)⟩
                have g7 : w7.heap[w6.heap.size]? = some (.cells cs 48 (0, 0)) := by rw [hw7]; exact setRow_heap _ _ _ _ 48 _ (heap_alloc_new w6 _)
                have c8 : w7.cell? ⟨w6.heap.size, 8, none⟩ = some (.int .i64 (nj : Int)) := by rw [cell_of_row w7 _ 8 _ 48 (0, 0) g7]; exact HCTX.out
                have HO7 := hidOf (row_below HO6.out hB7)
                obtain ⟨a2, c2, hv2, _, _, hcell2⟩ := row_form HO7.out
                cases hv2
                obtain ⟨gq, rfl, hcq⟩ := hcell2 j hjlt
                rw [List.getElem?_map, HNJ.out] at hcq
                have cq : w7.cell? ⟨gq, j, none⟩ = some (.int .i64 (nj : Int)) := hcq
                have HN7 := hidOf (show Below W.heap.size W w7 ∧ NetR w7 W.heap.size R ((is.map (pkG (gAt vs))).drop (j + 1)) r from ⟨HB6.out.trans (hB7.mono HB6.out.size), HN6.out.grow hB7⟩)
                clear hw7 hw7h hB7 g7 HN6 HB6 HO6 hcell2 hcq HDE HGET
                have HB8 := hidOf ((Below.refl w7.heap.size w7).drew)
                go_wp2
                go_region
                go_wp2
                exact ⟨⟨j + 1, by omega, by omega, by go_num, row_below HO7.out HB8.out, HN7.out.1.trans (HB8.out.mono HN7.out.1.size), HN7.out.2.drew⟩, by simp [intOf]; omega⟩
            · have hje : m ≤ j := by omega
              go_wp2
              go_ret
              exact ⟨rfl, HQ.out.1⟩

    · -- EXIT2
      obtain ⟨a1, c1, hv, hc1, hc2, hcell⟩ := row_form ok
      subst hv
      clear hcell
      obtain ⟨_, hpW, r, hn, hr⟩ := HNG.out
      have HN := hidOf hn
      have HRR := hidOf hr
      have hil := HOK.out.1
      clear hn hr
      obtain ⟨m, HM⟩ : ∃ m, Hid (is.length = m) := ⟨_, rfl⟩
      rw [HM.out] at ok hc1 hil ⊢
      by_cases hfr : m < R
      · have HD : Hid (cutM R (is.map (pkG (gAt vs))) = (is.map (pkG (gAt vs))).drop 0) := by show _ = _; unfold cutM; rw [List.length_map, HM.out, show m - R = 0 by omega]
        have HL : Hid ((cutM R (is.map (pkG (gAt vs)))).length = m) := by show _ = _; rw [cut_len, List.length_map, HM.out]; omega
        have hneg : (m : Int) - (R : Int) < 0 := by omega

        go_wp2_with fail
        refine (len_any W.heap.size R _ r wr HN.out).mono ?_
        rintro e w5 ⟨rfl, hw⟩
        subst hw
        rw [HL.out]
        go_wp2_with fail
        go_loopw [10] (fun i wq => ∃ j : Nat, 0 ≤ j ∧ j ≤ m ∧ i = .int .i64 (j : Int) ∧ wq.ownsRow W.heap.size 3 1 (.slice a1 (m) c1) (m) (is.map encI) ∧ Hid (Below W.heap.size W wq ∧ NetR wq W.heap.size R ((is.map (pkG (gAt vs))).drop j) r)) (fun i _ => m - (intOf i).toNat)
        case atStart => exact ⟨0, by omega, by omega, by go_num, ok, HNG.out.1, by rw [← HD.out]; exact HN.out⟩
        case round =>
          obtain ⟨j, hj0, hjm, rfl, okq, HQ⟩ := hrel
          by_cases hjlt : j < m
          · have hji : j < is.length := by rw [HM.out]; exact hjlt
            have HJ := hidOf hji
            obtain ⟨nj, hnj⟩ : ∃ nj, is[j]? = some nj := ⟨_, List.getElem?_eq_getElem hji⟩
            have HDE0 := de_pk (gAt vs) nj (HOK.out.2.1 nj (List.mem_of_getElem? hnj)).2
            have HNJ := hidOf hnj
            have HGET0 : ((is.map (pkG (gAt vs))).drop j)[0]? = some (pkG (gAt vs) nj) := by rw [List.getElem?_drop, Nat.add_zero, List.getElem?_map, hnj]; rfl
            obtain ⟨lj, hlj⟩ : ∃ lj, pkG (gAt vs) nj = lj := ⟨_, rfl⟩
            rw [hlj] at HDE0 HGET0
            have HDE := hidOf HDE0
            have HGET := hidOf HGET0
            clear HDE0 HGET0 hnj hlj
            have HOQ := hidOf okq
            clear okq hji
            go_wp2_with fail
            refine (deliver_ok W.heap.size R _ r 0 _ _ HQ.out.2 HGET.out).mono ?_
            rintro e w6 ⟨cl, vv, he, hrep, hval, hn6, hs6⟩
            have hv : vv = gAt vs nj := (hval HDE.out.1).trans HDE.out.2
            subst hv
            rw [show ((is.map (pkG (gAt vs))).drop j).take 0 ++ ((is.map (pkG (gAt vs))).drop j).drop (0 + 1) = (is.map (pkG (gAt vs))).drop (j + 1) from by simp] at hn6
            have hcs : cl.toArray.size = Zr_msg.size := by rw [List.size_toArray, hrep.len]; kernel_rfl
            have hco : cl.toArray.all (·.oneCell') = true := hrep.all
            have hctx : cl.toArray[8]? = some (.int .i64 (nj : Int)) := by rw [List.getElem?_toArray, (ctx_cells hrep).2.1, ctx_gAt]
            rw [show decide ((de F_msg (some lj)).2 = some []) = true from by simp [HDE.out.1]] at he
            obtain ⟨cs, hcl⟩ : ∃ cs, cl.toArray = cs := ⟨_, rfl⟩
            rw [hcl] at he hcs hco hctx
            subst he
            have HCS := hidOf hcs
            have HCO := hidOf hco
            have HCTX := hidOf hctx
            have HCI : Hid ((Try.prog.info? 48).map (·.size) = some cs.size) := by show _ = _; rw [hcs]; exact Zr_msg_i
            have HN6 := hidOf hn6
            have HB6 := hidOf (HQ.out.1.trans (hs6.below HQ.out.1.size (Nat.le_refl _) HRR.out))
            have HO6 := hidOf (row_ns HOQ.out HQ.out.2 hs6 (by decide) (by decide))
            clear hn6 hs6 HQ hrep hval hcl hcs hco hctx HOQ
            go_wp2_with (refine wpList_store_rowF rfl 48 (.tmp 11) (.tmp 77) rfl w6.heap.size cs rfl rfl 48 Zr_msg (heap_alloc_new w6 (.cells Zr_msg 48)) HCI.out HCS.out.symm HCO.out ?next)
            case next =>
              intro w7 hw7h
              have hw7 := hw7h.out
              have hB7 : Below w6.heap.size w6 w7 := by rw [hw7]; exact ((Below.refl _ _).alloc (Nat.le_refl _) _).trans ⟨rfl, rfl, rfl, by simp [World.setRow], fun k hk => setRow_other _ _ _ _ (by omega)⟩
              have g7 : w7.heap[w6.heap.size]? = some (.cells cs 48 (0, 0)) := by rw [hw7]; exact setRow_heap _ _ _ _ 48 _ (heap_alloc_new w6 _)
              have c8 : w7.cell? ⟨w6.heap.size, 8, none⟩ = some (.int .i64 (nj : Int)) := by rw [cell_of_row w7 _ 8 _ 48 (0, 0) g7]; exact HCTX.out
              have HO7 := hidOf (row_below HO6.out hB7)
              obtain ⟨a2, c2, hv2, _, _, hcell2⟩ := row_form HO7.out
              cases hv2
              obtain ⟨gq, rfl, hcq⟩ := hcell2 j hjlt
              rw [List.getElem?_map, HNJ.out] at hcq
              have cq : w7.cell? ⟨gq, j, none⟩ = some (.int .i64 (nj : Int)) := hcq
              have HN7 := hidOf (show Below W.heap.size W w7 ∧ NetR w7 W.heap.size R ((is.map (pkG (gAt vs))).drop (j + 1)) r from ⟨HB6.out.trans (hB7.mono HB6.out.size), HN6.out.grow hB7⟩)
              clear hw7 hw7h hB7 g7 HN6 HB6 HO6 hcell2 hcq HDE HGET
              have HB8 := hidOf ((Below.refl w7.heap.size w7).drew)
              go_wp2
              go_region
              go_wp2
              exact ⟨⟨j + 1, by omega, by omega, by go_num, row_below HO7.out HB8.out, HN7.out.1.trans (HB8.out.mono HN7.out.1.size), HN7.out.2.drew⟩, by simp [intOf]; omega⟩
          · have hje : m ≤ j := by omega
            go_wp2
            go_ret
            exact ⟨rfl, HQ.out.1⟩

      · obtain ⟨f, hf1, hf2⟩ : ∃ f, m ≤ R + f ∧ R + f ≤ m := ⟨m - R, by omega, by omega⟩
        have HF : Hid ((m : Int) - (R : Int) = (f : Int)) := by show _ = _; omega
        have HD : Hid (cutM R (is.map (pkG (gAt vs))) = (is.map (pkG (gAt vs))).drop f) := by show _ = _; unfold cutM; rw [List.length_map, HM.out, show m - R = f by omega]
        have HL : Hid ((cutM R (is.map (pkG (gAt vs)))).length = R) := by show _ = _; rw [cut_len, List.length_map, HM.out]; omega
        have hneg : ¬ ((m : Int) - (R : Int) < 0) := by omega

        go_wp2_with fail
        refine (len_any W.heap.size R _ r wr HN.out).mono ?_
        rintro e w5 ⟨rfl, hw⟩
        subst hw
        rw [HL.out]
        go_wp2_with fail
        rw [HF.out]
        go_loopw [10] (fun i wq => ∃ j : Nat, f ≤ j ∧ j ≤ m ∧ i = .int .i64 (j : Int) ∧ wq.ownsRow W.heap.size 3 1 (.slice a1 (m) c1) (m) (is.map encI) ∧ Hid (Below W.heap.size W wq ∧ NetR wq W.heap.size R ((is.map (pkG (gAt vs))).drop j) r)) (fun i _ => m - (intOf i).toNat)
        case atStart => exact ⟨f, by omega, by omega, by go_num, ok, HNG.out.1, by rw [← HD.out]; exact HN.out⟩
        case round =>
          obtain ⟨j, hj0, hjm, rfl, okq, HQ⟩ := hrel
          by_cases hjlt : j < m
          · have hji : j < is.length := by rw [HM.out]; exact hjlt
            have HJ := hidOf hji
            obtain ⟨nj, hnj⟩ : ∃ nj, is[j]? = some nj := ⟨_, List.getElem?_eq_getElem hji⟩
            have HDE0 := de_pk (gAt vs) nj (HOK.out.2.1 nj (List.mem_of_getElem? hnj)).2
            have HNJ := hidOf hnj
            have HGET0 : ((is.map (pkG (gAt vs))).drop j)[0]? = some (pkG (gAt vs) nj) := by rw [List.getElem?_drop, Nat.add_zero, List.getElem?_map, hnj]; rfl
            obtain ⟨lj, hlj⟩ : ∃ lj, pkG (gAt vs) nj = lj := ⟨_, rfl⟩
            rw [hlj] at HDE0 HGET0
            have HDE := hidOf HDE0
            have HGET := hidOf HGET0
            clear HDE0 HGET0 hnj hlj
            have HOQ := hidOf okq
            clear okq hji
            go_wp2_with fail
            refine (deliver_ok W.heap.size R _ r 0 _ _ HQ.out.2 HGET.out).mono ?_
            rintro e w6 ⟨cl, vv, he, hrep, hval, hn6, hs6⟩
            have hv : vv = gAt vs nj := (hval HDE.out.1).trans HDE.out.2
            subst hv
            rw [show ((is.map (pkG (gAt vs))).drop j).take 0 ++ ((is.map (pkG (gAt vs))).drop j).drop (0 + 1) = (is.map (pkG (gAt vs))).drop (j + 1) from by simp] at hn6
            have hcs : cl.toArray.size = Zr_msg.size := by rw [List.size_toArray, hrep.len]; kernel_rfl
            have hco : cl.toArray.all (·.oneCell') = true := hrep.all
            have hctx : cl.toArray[8]? = some (.int .i64 (nj : Int)) := by rw [List.getElem?_toArray, (ctx_cells hrep).2.1, ctx_gAt]
            rw [show decide ((de F_msg (some lj)).2 = some []) = true from by simp [HDE.out.1]] at he
            obtain ⟨cs, hcl⟩ : ∃ cs, cl.toArray = cs := ⟨_, rfl⟩
            rw [hcl] at he hcs hco hctx
            subst he
            have HCS := hidOf hcs
            have HCO := hidOf hco
            have HCTX := hidOf hctx
            have HCI : Hid ((Try.prog.info? 48).map (·.size) = some cs.size) := by show _ = _; rw [hcs]; exact Zr_msg_i
            have HN6 := hidOf hn6
            have HB6 := hidOf (HQ.out.1.trans (hs6.below HQ.out.1.size (Nat.le_refl _) HRR.out))
            have HO6 := hidOf (row_ns HOQ.out HQ.out.2 hs6 (by decide) (by decide))
            clear hn6 hs6 HQ hrep hval hcl hcs hco hctx HOQ
            go_wp2_with (refine wpList_store_rowF rfl 48 (.tmp 11) (.tmp 77) rfl w6.heap.size cs rfl rfl 48 Zr_msg (heap_alloc_new w6 (.cells Zr_msg 48)) HCI.out HCS.out.symm HCO.out ?next)
            case next =>
              intro w7 hw7h
              have hw7 := hw7h.out
              have hB7 : Below w6.heap.size w6 w7 := by rw [hw7]; exact ((Below.refl _ _).alloc (Nat.le_refl _) _).trans ⟨rfl, rfl, rfl, by simp [World.setRow], fun k hk => setRow_other _ _ _ _ (by omega)⟩
              have g7 : w7.heap[w6.heap.size]? = some (.cells cs 48 (0, 0)) := by rw [hw7]; exact setRow_heap _ _ _ _ 48 _ (heap_alloc_new w6 _)
              have c8 : w7.cell? ⟨w6.heap.size, 8, none⟩ = some (.int .i64 (nj : Int)) := by rw [cell_of_row w7 _ 8 _ 48 (0, 0) g7]; exact HCTX.out
              have HO7 := hidOf (row_below HO6.out hB7)
              obtain ⟨a2, c2, hv2, _, _, hcell2⟩ := row_form HO7.out
              cases hv2
              obtain ⟨gq, rfl, hcq⟩ := hcell2 j hjlt
              rw [List.getElem?_map, HNJ.out] at hcq
              have cq : w7.cell? ⟨gq, j, none⟩ = some (.int .i64 (nj : Int)) := hcq
              have HN7 := hidOf (show Below W.heap.size W w7 ∧ NetR w7 W.heap.size R ((is.map (pkG (gAt vs))).drop (j + 1)) r from ⟨HB6.out.trans (hB7.mono HB6.out.size), HN6.out.grow hB7⟩)
              clear hw7 hw7h hB7 g7 HN6 HB6 HO6 hcell2 hcq HDE HGET
              have HB8 := hidOf ((Below.refl w7.heap.size w7).drew)
              go_wp2
              go_region
              go_wp2
              exact ⟨⟨j + 1, by omega, by omega, by go_num, row_below HO7.out HB8.out, HN7.out.1.trans (HB8.out.mono HN7.out.1.size), HN7.out.2.drew⟩, by simp [intOf]; omega⟩
          · have hje : m ≤ j := by omega
            go_wp2
            go_ret
            exact ⟨rfl, HQ.out.1⟩


theorem lawFull (W : World) (room : Int) (_ : (Lit.int .i64 room).wf = true) (a : Option Addr) (len cap : Nat) (vs : List (Vl F_msg)) (hn : len = vs.length) (hR : RepL W (fun b => b < W.heap.size) F_msg a vs) :
    Calls Try.prog 5 #[.int .i64 room, .slice a len cap] W fun e w' => e = .returned (.bool true) ∧ Below W.heap.size W w' := by
  subst hn
  by_cases h : room < 1 ∨ 256 < room
  · exact lawFullNo W room a _ cap h
  · obtain ⟨R, rfl⟩ : ∃ R : Nat, room = R := ⟨room.toNat, by omega⟩
    exact lawFullYes W R (by omega) (by omega) a cap vs hR

end Go.Proofs.Ytcdoejdbmllnnab
