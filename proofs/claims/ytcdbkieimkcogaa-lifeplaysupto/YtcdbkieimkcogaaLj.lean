/- LifePatience walked. -/
import Derived.Test.YtcdbkieimkcogaaLi
import Derived.Test.YtcdbkieimkcogaaLf
import Derived.Test.YtcdbkieimkcogaaLop
namespace Go.Proofs.Ytcdbkieimkcogaa
open Go.RowKit
theorem RdR.top {D ty s : Nat} {α : Type} {f : α → Array Value} {w : World} {a : Option Addr} {L : List α} (h : RdR D ty s f w a L) : RdR w.heap.size ty s f w a L := by
  intro hne
  obtain ⟨b, off, h1, h2, _, h3⟩ := h hne
  exact ⟨b, off, h1, h2, .inl h2, h3⟩
theorem RdR.low {ty s : Nat} {α : Type} {f : α → Array Value} {w w' : World} {a : Option Addr} {L : List α} (h : RdR w.heap.size ty s f w a L) (hb : Below w.heap.size w w') : RdR w.heap.size ty s f w' a L := by
  intro hne
  obtain ⟨b, off, h1, h2, _, h3⟩ := h hne
  exact ⟨b, off, h1, Nat.lt_of_lt_of_le h2 hb.size, .inl h2, fun i x hx j u hu => (World.cell?_of_block (w := w) (hb.block b h2)).trans (h3 i x hx j u hu)⟩
theorem OwR.frt {lo ty s : Nat} {α : Type} {f : α → Array Value} {w w' : World} {v : Value} {R : List α} (h : OwR lo ty s f w v R) (hg : w.grownBy w' v.ownBlock) : FrT lo [ty] w w' := by
  refine ⟨hg.os, hg.tape, hg.output, hg.size, fun k o hk ho => (hg.block k (heap_lt hk) (fun e2 => ?_)).trans hk⟩
  rcases ho with ho | ho
  · rcases h.2 with ⟨rfl, _⟩ | ⟨g, cap, cur, rfl, _, h4, _⟩
    · cases e2
    · cases e2; rw [h4] at hk; cases hk; simp [isT] at ho
  · have := h.lo k e2.symm; omega
theorem if29 : IfR 29 1 24 := IfR.of (z := .slice none 0 0) (by kernel_rfl) rfl
theorem sn_size (x : Sn) : (snC x).size = 1 := rfl
theorem sn_one (x : Sn) : ∀ u ∈ (snC x).toList, u.oneCell' = true := by
  intro u hu
  simp [snC] at hu
  rw [hu]; rfl
theorem sn_at {lo : Nat} {w : World} {v : Value} {S : List Sn} (h : OwR lo 29 1 snC w v S) {i : Nat} {x : Sn} (hx : S[i]? = some x) : ∃ g cap, v = .slice (some ⟨g, 0, none⟩) S.length cap ∧ g < w.heap.size ∧ w.cell? ⟨g, i, none⟩ = some (.slice x.a x.N.length x.c) := by
  have hi := (List.getElem?_eq_some_iff.1 hx).1
  rcases h.2 with ⟨rfl, e⟩ | ⟨g, cap, cur, rfl, h3, h4, h5, h6, h7, h8⟩
  · omega
  · refine ⟨g, cap, rfl, heap_lt h4, ?_⟩
    rw [cell_of_row w g _ cur 29 (0, 0) h4]
    have h9 := rows_get sn_size S i x hx 0 (by decide)
    rw [← h8, List.getElem?_take] at h9
    rw [if_pos (by omega), Array.getElem?_toList, Nat.mul_one, Nat.add_zero] at h9
    exact h9
def SnR (w : World) (S : List Sn) : Prop := ∀ x ∈ S, NdR w.heap.size w x.a x.N ∧ x.N.length ≤ maxLen
theorem SnR.nil (w : World) : SnR w [] := fun x hx => absurd hx (by simp)
theorem SnR.snoc {w : World} {S : List Sn} (h : SnR w S) {x : Sn} (h1 : NdR w.heap.size w x.a x.N) (h2 : x.N.length ≤ maxLen) : SnR w (S ++ [x]) := by
  intro y hy
  rcases List.mem_append.1 hy with hy | hy
  · exact h y hy
  · rw [List.mem_singleton.1 hy]; exact ⟨h1, h2⟩
theorem pat_tick (D : Nat) (w : World) (p mb : Nat) (m : Mp) (N : List Nd) (P : List Dp) (a7 : Option Addr) (c7 : Nat) (a8 : Option Addr) (c8 : Nat) (hm : Okm m) (hN : N.length + P.length ≤ 1048576) (h : LfR D w p mb m) (hn : NdR D w a7 N) (hp : DpR D w a8 P) :
    Calls Try.prog 11 #[.pointer (some ⟨p, 0, none⟩), .agg #[.int .i64 0, .int .i64 0, .slice none 0 0, .slice none 0 0, .slice a7 N.length c7, .slice none 0 0, .slice none 0 0, .slice a8 P.length c8, .slice none 0 0]] w fun e w' => ∃ mb' a' c', e = .returned (.slice a' (tkM m N P).2.length c') ∧ LfR D w' p mb' (tkM m N P).1 ∧ FrT D [65] w w' ∧ OwR w.heap.size 60 27 cmC w' (.slice a' (tkM m N P).2.length c') (tkM m N P).2 := by
  refine (tick_any p mb m N P a7 c7 a8 c8 w h hm hn hp (by unfold maxLen; omega) (by unfold maxLen; omega) (by omega)).mono ?_
  rintro e w' ⟨v, mb', rfl, h1, h2, h3⟩
  obtain ⟨a', cap, rfl, -⟩ := h2.slice
  exact ⟨mb', a', cap, rfl, h1, h3, h2⟩

set_option maxHeartbeats 16000000 in
set_option maxRecDepth 100000 in
theorem patience_any (a : Option Addr) (c : Nat) (L : List Bt) (w : World) (hL : Bts w a L) (hb : wt L ≤ 1048576) :
    Calls Try.prog 4 #[.slice a L.length c] w fun e w' => e = .returned (.bool true) ∧ Below w.heap.size w w' := by
  have HC := hidOf (new_any (D := w.heap.size) w (Nat.le_refl _))
  simp only [ptr] at HC
  have HIF := hidOf if29
  have HBT := hidOf hL
  have HLV := hidOf lives_any
  have hLl : L.length ≤ 1048576 := Nat.le_trans (wt_len L) hb
  have HWT := hidOf (fun j (hj : j < L.length) => Nat.le_trans (wt_at hj) hb)
  clear hL hb
  go_enter Try.func4, Try.ntmps4
  go_wp2_with (go_at_call 6; refine HC.out.mono ?_; rintro e w1 ⟨p, mb, rfl, hp, hmb, h1, hb1⟩; have H1 := hidOf h1; have HB1 := hidOf hb1; clear h1 hb1 HC)
  go_loopw [4, 5] (fun o i wr => ∃ (k mb : Nat) (m : Mp) (S : List Sn), k ≤ L.length ∧ i = .int .i64 (k : Int) ∧ S.length ≤ k * 45 ∧ Hid (Okm m ∧ SeenI m S) ∧ Hid (LfR w.heap.size wr p mb m) ∧ Hid (OwR w.heap.size 29 1 snC wr o S) ∧ Hid (SnR w S) ∧ Hid (Below w.heap.size w wr)) (fun _ i _ => L.length - (intOf i).toNat)
  case atStart => exact ⟨0, mb, _, [], Nat.zero_le _, rfl, by simp, hidOf ⟨Okm.nil, SeenI.nil⟩, H1, hidOf OwR.nil, hidOf (SnR.nil w), HB1⟩
  case round =>
    obtain ⟨k, mb, m, S, hk, rfl, hSl, HI, HL, HO, HS, HB⟩ := hrel
    by_cases hlt : k < L.length
    · have hltz : (k : Int) < (L.length : Int) := by omega
      obtain ⟨b, off, rfl, hbl, b0, b1, b2, b3, HBR0⟩ := HBT.out.at HB.out k hlt
      have HBR := hidOf HBR0
      clear HBR0
      have htm := HBR.out.tm
      have hw := HWT.out k hlt
      go_upto_if 25 with (fail)
      go_cut [4, 25] from 97 (fun o4 _ wc => ∃ (mb : Nat) (m : Mp) (S : List Sn), S.length ≤ k * 45 ∧ Hid (Okm m ∧ SeenI m S) ∧ Hid (LfR w.heap.size wc p mb m) ∧ Hid (OwR w.heap.size 29 1 snC wc o4 S) ∧ Hid (SnR w S) ∧ Hid (Below w.heap.size w wc))
      case first =>
        cases hld : (bt L k).ld with
        | true =>
          rw [hld] at b0
          have HLD := hidOf (lead_any p mb m _ HL.out)
          simp only [ptr] at HLD
          go_wp2_with (go_at_call 7; refine HLD.out.mono ?_; rintro e w2 ⟨rfl, h1, h2⟩; have H1 := hidOf h1; have H2 := hidOf h2; clear h1 h2)
          go_meet
          case rel => exact ⟨mb, _, [], by simp, hidOf ⟨Okm.nil, SeenI.nil⟩, H1, hidOf OwR.nil, hidOf (SnR.nil w), hidOf (HB.out.trans (H2.out.below HB.out.size))⟩
        | false =>
          rw [hld] at b0
          go_wp2
          go_meet
          case rel => exact ⟨mb, m, S, hSl, HI, HL, HO, HS, HB⟩
      case rest =>
        clear HI HL HO HS HB b0 b1 b2 b3 hSl
        obtain ⟨mb, m, S, hSl, HI, HL, HO, HS, HB⟩ := hcut
        obtain ⟨b, off, hab, hbl, b0, b1, b2, b3, -⟩ := HBT.out.at HB.out k hlt
        cases hab
        have HZ := hidOf (below1 wc (.cells #[.int .i64 0, .int .i64 0, .slice none 0 0, .slice none 0 0, .slice none 0 0, .slice none 0 0, .slice none 0 0, .slice none 0 0, .slice none 0 0] 38))
        have hblc := Nat.lt_of_lt_of_le hbl HB.out.size
        have d2 := (HZ.out.drew.cell (p := ⟨b, off + k * 4 + 2, none⟩) hblc).trans b2
        have d3 := (HZ.out.drew.cell (p := ⟨b, off + k * 4 + 3, none⟩) hblc).trans b3
        go_upto_region 11 with (fail)
        go_region
        obtain ⟨W, hW⟩ : ∃ y, y = (wc.alloc (.cells #[.int .i64 0, .int .i64 0, .slice none 0 0, .slice none 0 0, .slice (bt L k).na (bt L k).N.length (bt L k).nc, .slice none 0 0, .slice none 0 0, .slice (bt L k).pa (bt L k).P.length (bt L k).pc, .slice none 0 0] 38)).drew := ⟨_, rfl⟩
        obtain ⟨bx, hbx⟩ : ∃ y, y = wc.heap.size := ⟨_, rfl⟩
        have hB1 := (below1 wc (.cells #[.int .i64 0, .int .i64 0, .slice none 0 0, .slice none 0 0, .slice (bt L k).na (bt L k).N.length (bt L k).nc, .slice none 0 0, .slice none 0 0, .slice (bt L k).pa (bt L k).P.length (bt L k).pc, .slice none 0 0] 38)).drew
        have HQ1 : Hid (W.heap[bx]? = some (.cells #[.int .i64 0, .int .i64 0, .slice none 0 0, .slice none 0 0, .slice (bt L k).na (bt L k).N.length (bt L k).nc, .slice none 0 0, .slice none 0 0, .slice (bt L k).pa (bt L k).P.length (bt L k).pc, .slice none 0 0] 38 (0, 0))) := hidOf (by rw [hW, hbx]; exact heap_alloc_new wc _)
        have HL1 : Hid (LfR w.heap.size W p mb m) := hidOf (by rw [hW]; exact HL.out.grow hB1)
        have HB1w : Hid (Below w.heap.size w W) := hidOf (by rw [hW]; exact HB.out.trans (hB1.mono HB.out.size))
        have HO1 := hidOf (HO.out.grow hB1)
        rw [← hW, ← hbx]
        rw [← hW] at HO1
        clear hB1 hW hbx HL HB HO HZ d2 d3
        have HPK := hidOf (pick_any (bt L k).tm 45 htm (by decide) (by decide))
        have hpr := pkM_rng (bt L k).tm 45 (by decide)
        obtain ⟨pt, hpt⟩ : ∃ pt : Nat, pkM (bt L k).tm 45 = (pt : Int) := ⟨(pkM (bt L k).tm 45).toNat, by omega⟩
        rw [hpt] at HPK hpr
        have hpt2 : pt < 45 := by omega
        clear hpr hpt
        go_wp2
        go_loopw [4, 7] (fun o i wr => ∃ (nn mb : Nat) (m : Mp) (S : List Sn), nn ≤ pt + 1 ∧ i = .int .i64 (nn : Int) ∧ S.length ≤ k * 45 + nn ∧ Hid (Okm m ∧ SeenI m S) ∧ Hid (LfR w.heap.size wr p mb m) ∧ Hid (OwR w.heap.size 29 1 snC wr o S) ∧ Hid (SnR w S) ∧ Hid (Below w.heap.size w wr) ∧ Hid (wr.heap[bx]? = some (.cells #[.int .i64 0, .int .i64 0, .slice none 0 0, .slice none 0 0, .slice (bt L k).na (bt L k).N.length (bt L k).nc, .slice none 0 0, .slice none 0 0, .slice (bt L k).pa (bt L k).P.length (bt L k).pc, .slice none 0 0] 38 (0, 0)))) (fun _ i _ => pt + 1 - (intOf i).toNat)
        case atStart => exact ⟨0, mb, m, S, Nat.zero_le _, rfl, by omega, HI, HL1, HO1, HS, HB1w, HQ1⟩
        case round =>
          clear hSl HI HL1 HO1 HS HB1w HQ1 b0 b1 b2 b3
          obtain ⟨nn, mb, m, S, hnn, rfl, hSl, HI, HL, HO, HS, HB, HX⟩ := hrel
          obtain ⟨b', off', hab, hbl', b0, b1, b2, b3, -⟩ := HBT.out.at HB.out k hlt
          cases hab
          obtain ⟨sa, cs, hos, -⟩ := HO.out.slice
          subst hos
          by_cases hgo : nn ≤ pt
          · have hgz : (nn : Int) ≤ (pt : Int) := by omega
            go_wp2_with (first
              | (go_at_call 9; refine (HPK.out _).mono ?_; rintro e w2 ⟨rfl, rfl⟩)
              | (refine wpList_load_row rfl 38 (.tmp 6) rfl bx rfl 38 #[.int .i64 0, .int .i64 0, .slice none 0 0, .slice none 0 0, .slice (bt L k).na (bt L k).N.length (bt L k).nc, .slice none 0 0, .slice none 0 0, .slice (bt L k).pa (bt L k).P.length (bt L k).pc, .slice none 0 0] (0, 0) _ HX.out Try.underlying38 rfl (by kernel_rfl) ?_)
              | (go_at_call 11; (refine (pat_tick w.heap.size _ p mb m (bt L k).N (bt L k).P _ _ _ _ HI.out.1 (by omega) HL.out (RdR.low HBR.out.n HB.out) (RdR.low HBR.out.p HB.out)).mono ?_; rintro e w3 ⟨mb3, a9, c9, rfl, h1, h2, h3⟩; have HL3 := hidOf h1; have HF3 := hidOf h2; have HC3 := hidOf h3; clear h1 h2 h3)))
            have hsz3 := HF3.out.size
            have HB3 := hidOf (HB.out.trans (HF3.out.below HB.out.size))
            have HX3 := hidOf (HF3.out.cells HX.out (by decide))
            have HO3 := hidOf (HO.out.keepT HF3.out (by decide))
            have hcl := tkM_len m (bt L k).N (bt L k).P
            clear HL HF3 HB HX HO
            go_loopw [9] (fun i W2 => ∃ (kk : Nat), kk ≤ (tkM m (bt L k).N (bt L k).P).2.length ∧ i = .int .i64 (kk : Int) ∧ Hid (Below w3.heap.size w3 W2)) (fun i _ => (tkM m (bt L k).N (bt L k).P).2.length - (intOf i).toNat)
            case atStart => exact ⟨0, Nat.zero_le _, rfl, hidOf (Below.refl _ _)⟩
            case round =>
              clear b0 b1 b2 b3
              obtain ⟨kk, hkk, rfl, HBk⟩ := hrel
              by_cases hlt2 : kk < (tkM m (bt L k).N (bt L k).P).2.length
              · have hltz2 : (kk : Int) < ((tkM m (bt L k).N (bt L k).P).2.length : Int) := by omega
                obtain ⟨q, hq⟩ : ∃ q, (tkM m (bt L k).N (bt L k).P).2[kk]? = some q := ⟨_, List.getElem?_eq_getElem hlt2⟩
                obtain ⟨g, cap', hv, hlog, ⟨cur, hcur⟩, hcc0⟩ := cm_at HC3.out hq
                have hgl := heap_lt hcur
                cases hv
                have HCC := hidOf hcc0
                have q0 : wr.cell? ⟨g, kk * 27, none⟩ = some (.int .i64 q.op) := (HBk.out.cell (p := ⟨g, kk * 27 + 0, none⟩) hgl).trans (hcc0 0 _ rfl)
                clear hcc0 hcur hlog
                by_cases hop : q.op = 7
                · rw [hop] at q0
                  obtain ⟨h20, hask⟩ := HI.out.2.ask (List.mem_of_getElem? hq) hop
                  have HASK := hidOf hask
                  clear hask hq hop
                  have h20z : ¬ (S.length : Int) < 20 := by omega
                  go_wp2
                  go_loopw [10] (fun i W2 => ∃ (j : Nat), S.length - 20 ≤ j ∧ j ≤ S.length ∧ i = .int .i64 (j : Int) ∧ Hid (Below w3.heap.size w3 W2)) (fun i _ => S.length - (intOf i).toNat)
                  case atStart => exact ⟨S.length - 20, Nat.le_refl _, by omega, by go_num, HBk⟩
                  case round =>
                    clear q0
                    obtain ⟨j, hj1, hj2, rfl, HBj⟩ := hrel
                    by_cases hlt3 : j < S.length
                    · have hltz3 : (j : Int) < (S.length : Int) := by omega
                      obtain ⟨y, hy⟩ : ∃ y, S[j]? = some y := ⟨_, List.getElem?_eq_getElem hlt3⟩
                      obtain ⟨gs, cap2, hv2, hgs0, s0⟩ := sn_at (HO3.out.grow HBj.out) hy
                      cases hv2
                      have HEX := hidOf (HASK.out j y hy hj1)
                      have hys := HS.out y (List.mem_of_getElem? hy)
                      have hym := hys.2
                      have HNw := hidOf (RdR.low hys.1 (HB3.out.trans (HBj.out.mono HB3.out.size)))
                      have hgs := hgs0
                      have c10 : wr.cell? ⟨g, kk * 27 + 10, none⟩ = some (.int .i64 q.nd) := (HBj.out.cell (p := ⟨g, kk * 27 + 10, none⟩) hgl).trans (HCC.out 10 _ rfl)
                      have c11 : wr.cell? ⟨g, kk * 27 + 11, none⟩ = some (.int .i64 0) := (HBj.out.cell (p := ⟨g, kk * 27 + 11, none⟩) hgl).trans (HCC.out 11 _ rfl)
                      have c12 : wr.cell? ⟨g, kk * 27 + 12, none⟩ = some (.int .i64 0) := (HBj.out.cell (p := ⟨g, kk * 27 + 12, none⟩) hgl).trans (HCC.out 12 _ rfl)
                      have c13 : wr.cell? ⟨g, kk * 27 + 13, none⟩ = some (.bool false) := (HBj.out.cell (p := ⟨g, kk * 27 + 13, none⟩) hgl).trans (HCC.out 13 _ rfl)
                      have c14 : wr.cell? ⟨g, kk * 27 + 14, none⟩ = some (.bool false) := (HBj.out.cell (p := ⟨g, kk * 27 + 14, none⟩) hgl).trans (HCC.out 14 _ rfl)
                      have c15 : wr.cell? ⟨g, kk * 27 + 15, none⟩ = some (.int .i64 0) := (HBj.out.cell (p := ⟨g, kk * 27 + 15, none⟩) hgl).trans (HCC.out 15 _ rfl)
                      have c16 : wr.cell? ⟨g, kk * 27 + 16, none⟩ = some (.int .i64 q.ep) := (HBj.out.cell (p := ⟨g, kk * 27 + 16, none⟩) hgl).trans (HCC.out 16 _ rfl)
                      have c17 : wr.cell? ⟨g, kk * 27 + 17, none⟩ = some (.int .i64 q.sq) := (HBj.out.cell (p := ⟨g, kk * 27 + 17, none⟩) hgl).trans (HCC.out 17 _ rfl)
                      have hgl2 : g < wr.heap.size := Nat.lt_of_lt_of_le hgl HBj.out.size
                      clear hy hys
                      go_wp2
                      refine wp_region_held_drew (S := fun (Y : World) => Y.cell? ⟨gs, j, none⟩ = some (.slice y.a y.N.length y.c) ∧ Y.cell? ⟨g, kk * 27 + 10, none⟩ = some (.int .i64 q.nd) ∧ Y.cell? ⟨g, kk * 27 + 11, none⟩ = some (.int .i64 0) ∧ Y.cell? ⟨g, kk * 27 + 12, none⟩ = some (.int .i64 0) ∧ Y.cell? ⟨g, kk * 27 + 13, none⟩ = some (.bool false) ∧ Y.cell? ⟨g, kk * 27 + 14, none⟩ = some (.bool false) ∧ Y.cell? ⟨g, kk * 27 + 15, none⟩ = some (.int .i64 0) ∧ Y.cell? ⟨g, kk * 27 + 16, none⟩ = some (.int .i64 q.ep) ∧ Y.cell? ⟨g, kk * 27 + 17, none⟩ = some (.int .i64 q.sq) ∧ Hid (Below wr.heap.size wr Y)) (by kernel_rfl) ⟨s0, c10, c11, c12, c13, c14, c15, c16, c17, hidOf ((Below.refl _ _).drew)⟩ (fun hHeld => ?_)
                      refine wpAnyH_take (i := 0) (oi := { dst := some 76, op := Op.move (Operand.tmp 4), type := 45, pos := "law.go:103", after := #[], guard := none }) (v := .slice (some ⟨gs, 0, none⟩) S.length cs) rfl (by kernel_rfl) (by kernel_rfl) (by kernel_rfl) (fun _ _ _ h => h) (Or.inl ⟨by rfl, ?_⟩) hHeld ?_
                      · (intro w hSw; (try dsimp only at hSw); go_simp)
                      try simp only [Act.put, List.setIfInBounds_toArray, List.set_cons_zero, List.set_cons_succ]
                      refine wpAnyH_take (i := 1) (oi := { dst := some 77, op := Op.move (Operand.tmp 10), type := 3, pos := "law.go:103", after := #[], guard := none }) (v := .int .i64 (j : Int)) rfl (by kernel_rfl) (by kernel_rfl) (by kernel_rfl) (fun _ _ _ h => h) (Or.inl ⟨by rfl, ?_⟩) hHeld ?_
                      · (intro w hSw; (try dsimp only at hSw); go_simp)
                      try simp only [Act.put, List.setIfInBounds_toArray, List.set_cons_zero, List.set_cons_succ]
                      refine wpAnyH_take (i := 2) (oi := { dst := some 78, op := Op.indexAddr 45 (Operand.tmp 76) (Operand.tmp 77), type := 0, pos := "law.go:103", after := #[{ on := 0, ground := Ground.data }, { on := 1, ground := Ground.data }], guard := none }) (v := .pointer (some ⟨gs, j, none⟩)) rfl (by kernel_rfl) (by kernel_rfl) (by kernel_rfl) (fun _ _ _ h => h) (Or.inl ⟨by rfl, ?_⟩) hHeld ?_
                      · (intro w hSw; (try dsimp only at hSw); go_simp)
                      try simp only [Act.put, List.setIfInBounds_toArray, List.set_cons_zero, List.set_cons_succ]
                      refine wpAnyH_take (i := 3) (oi := { dst := some 79, op := Op.load 29 (Operand.tmp 78), type := 29, pos := "law.go:103", after := #[{ on := 2, ground := Ground.data }], guard := none }) (v := .slice y.a y.N.length y.c) rfl (by kernel_rfl) (by kernel_rfl) (by kernel_rfl) (fun _ _ _ h => h) (Or.inl ⟨by rfl, ?_⟩) hHeld ?_
                      · (intro w hSw; (try dsimp only at hSw); go_simp)
                      try simp only [Act.put, List.setIfInBounds_toArray, List.set_cons_zero, List.set_cons_succ]
                      refine wpAnyH_take (i := 4) (oi := { dst := some 80, op := Op.move (Operand.tmp 8), type := 41, pos := "law.go:103", after := #[], guard := none }) (v := .slice (some ⟨g, 0, none⟩) (tkM m (bt L k).N (bt L k).P).2.length c9) rfl (by kernel_rfl) (by kernel_rfl) (by kernel_rfl) (fun _ _ _ h => h) (Or.inl ⟨by rfl, ?_⟩) hHeld ?_
                      · (intro w hSw; (try dsimp only at hSw); go_simp)
                      try simp only [Act.put, List.setIfInBounds_toArray, List.set_cons_zero, List.set_cons_succ]
                      refine wpAnyH_take (i := 5) (oi := { dst := some 81, op := Op.move (Operand.tmp 9), type := 3, pos := "law.go:103", after := #[], guard := none }) (v := .int .i64 (kk : Int)) rfl (by kernel_rfl) (by kernel_rfl) (by kernel_rfl) (fun _ _ _ h => h) (Or.inl ⟨by rfl, ?_⟩) hHeld ?_
                      · (intro w hSw; (try dsimp only at hSw); go_simp)
                      try simp only [Act.put, List.setIfInBounds_toArray, List.set_cons_zero, List.set_cons_succ]
                      refine wpAnyH_take (i := 6) (oi := { dst := some 82, op := Op.indexAddr 41 (Operand.tmp 80) (Operand.tmp 81), type := 0, pos := "law.go:103", after := #[{ on := 4, ground := Ground.data }, { on := 5, ground := Ground.data }], guard := none }) (v := .pointer (some ⟨g, kk * 27, none⟩)) rfl (by kernel_rfl) (by kernel_rfl) (by kernel_rfl) (fun _ _ _ h => h) (Or.inl ⟨by rfl, ?_⟩) hHeld ?_
                      · (intro w hSw; (try dsimp only at hSw); go_simp)
                      try simp only [Act.put, List.setIfInBounds_toArray, List.set_cons_zero, List.set_cons_succ]
                      refine wpAnyH_take (i := 7) (oi := { dst := some 83, op := Op.fieldAddr 60 (Operand.tmp 82) 4, type := 0, pos := "law.go:103", after := #[{ on := 6, ground := Ground.data }], guard := none }) (v := .pointer (some ⟨g, kk * 27 + 10, none⟩)) rfl (by kernel_rfl) (by kernel_rfl) (by kernel_rfl) (fun _ _ _ h => h) (Or.inl ⟨by rfl, ?_⟩) hHeld ?_
                      · (intro w hSw; (try dsimp only at hSw); go_simp)
                      try simp only [Act.put, List.setIfInBounds_toArray, List.set_cons_zero, List.set_cons_succ]
                      refine wpAnyH_take (i := 8) (oi := { dst := some 84, op := Op.load 52 (Operand.tmp 83), type := 52, pos := "law.go:103", after := #[{ on := 7, ground := Ground.data }], guard := none }) (v := .agg #[.int .i64 q.nd, .int .i64 0, .int .i64 0, .bool false, .bool false, .int .i64 0, .int .i64 q.ep, .int .i64 q.sq]) rfl (by kernel_rfl) (by kernel_rfl) (by kernel_rfl) (fun _ _ _ h => h) (Or.inl ⟨by rfl, ?_⟩) hHeld ?_
                      · (intro w hSw; (try dsimp only at hSw); go_simp)
                      try simp only [Act.put, List.setIfInBounds_toArray, List.set_cons_zero, List.set_cons_succ]
                      refine wpAnyH_ready (rs := [9]) (by kernel_rfl) (by simp) ?_
                      refine AllReadyH.cons (o := { dst := some 85, op := Op.call { callee := Callee.value (Operand.func 14), args := #[Operand.tmp 79, Operand.tmp 84], argTypes := #[29, 52] }, type := 4, pos := "law.go:103", after := #[{ on := 3, ground := Ground.data }, { on := 8, ground := Ground.data }], guard := none }) rfl (fun K hK => ?_) AllReadyH.nil
                      go_simp
                      refine (among_any y.a y.c y.N q.nd q.ep q.sq 0 0 0 false false _ (RdR.top (RdR.grow HNw.out (hHeld.2.2.2.2.2.2.2.2.2.out))) hym HEX.out).mono ?_
                      rintro e w6 ⟨rfl, hb6⟩
                      have HY6 := hidOf (hHeld.2.2.2.2.2.2.2.2.2.out.trans (hb6.mono hHeld.2.2.2.2.2.2.2.2.2.out.size))
                      clear hb6
                      refine hK.out _ _ ⟨(HY6.out.cell (p := ⟨gs, j, none⟩) (by have := hgs; have := hgl2; omega)).trans s0, (HY6.out.cell (p := ⟨g, kk * 27 + 10, none⟩) (by have := hgs; have := hgl2; omega)).trans c10, (HY6.out.cell (p := ⟨g, kk * 27 + 11, none⟩) (by have := hgs; have := hgl2; omega)).trans c11, (HY6.out.cell (p := ⟨g, kk * 27 + 12, none⟩) (by have := hgs; have := hgl2; omega)).trans c12, (HY6.out.cell (p := ⟨g, kk * 27 + 13, none⟩) (by have := hgs; have := hgl2; omega)).trans c13, (HY6.out.cell (p := ⟨g, kk * 27 + 14, none⟩) (by have := hgs; have := hgl2; omega)).trans c14, (HY6.out.cell (p := ⟨g, kk * 27 + 15, none⟩) (by have := hgs; have := hgl2; omega)).trans c15, (HY6.out.cell (p := ⟨g, kk * 27 + 16, none⟩) (by have := hgs; have := hgl2; omega)).trans c16, (HY6.out.cell (p := ⟨g, kk * 27 + 17, none⟩) (by have := hgs; have := hgl2; omega)).trans c17, HY6⟩ (fun hHeld1 => ?_)
                      clear hK K
                      try simp only [Act.put, List.setIfInBounds_toArray, List.set_cons_zero, List.set_cons_succ]
                      refine wpAnyH_take (i := 10) (oi := { dst := some 11, op := Op.assign (Operand.tmp 85), type := 4, pos := "law.go:103", after := #[{ on := 9, ground := Ground.data }, { on := 9, ground := Ground.chain }, { on := 0, ground := Ground.phase }, { on := 1, ground := Ground.phase }, { on := 2, ground := Ground.phase }, { on := 3, ground := Ground.phase }, { on := 4, ground := Ground.phase }, { on := 5, ground := Ground.phase }, { on := 6, ground := Ground.phase }, { on := 7, ground := Ground.phase }, { on := 8, ground := Ground.phase }, { on := 9, ground := Ground.phase }], guard := none }) (v := .bool true) rfl (by kernel_rfl) (by kernel_rfl) (by kernel_rfl) (fun _ _ _ h => h) (Or.inl ⟨by rfl, ?_⟩) hHeld1 ?_
                      · (intro w hSw; (try dsimp only at hSw); go_simp)
                      try simp only [Act.put, List.setIfInBounds_toArray, List.set_cons_zero, List.set_cons_succ]
                      refine wpAnyH_done (by kernel_rfl) ?_ _
                      go_wp2
                      go_roundw
                      case rel => exact ⟨j + 1, by omega, by omega, by go_num, hidOf (HBj.out.trans (HY6.out.mono HBj.out.size))⟩
                      case measure => simp [intOf]; omega
                    · obtain rfl : j = S.length := by omega
                      have hltz3 : ¬ (S.length : Int) < (S.length : Int) := by omega
                      go_wp2
                      go_roundw
                      case rel => exact ⟨kk + 1, by omega, by go_num, HBj⟩
                      case measure => simp [intOf]; omega
                · have hopb : (q.op == 7) = false := by simp [hop]
                  clear hop hq HCC
                  go_wp2
                  go_roundw
                  case rel => exact ⟨kk + 1, by omega, by go_num, HBk⟩
                  case measure => simp [intOf]; omega
              · have hkq : kk = (tkM m (bt L k).N (bt L k).P).2.length := by omega
                subst hkq
                have hltz2 : ¬ ((tkM m (bt L k).N (bt L k).P).2.length : Int) < ((tkM m (bt L k).N (bt L k).P).2.length : Int) := by omega
                obtain ⟨b', off', hab, hbl', b0, b1, b2, b3, -⟩ := HBT.out.at (HB3.out.trans (HBk.out.mono HB3.out.size)) k hlt
                cases hab
                have hkb : k * 45 + nn + 1 ≤ 1048576 * 46 := by omega
                have HBa := hidOf (below1 wr (.cells #[.slice (bt L k).na (bt L k).N.length (bt L k).nc] 29))
                have HOa := hidOf ((HO3.out.grow HBk.out).grow HBa.out)
                have HXa := hidOf ((HBa.out.block _ (Nat.lt_of_lt_of_le (heap_lt HX3.out) HBk.out.size)).trans ((HBk.out.block _ (heap_lt HX3.out)).trans HX3.out))
                have HLa := hidOf ((HL3.out.grow HBk.out).grow HBa.out)
                have HBb := hidOf ((HB3.out.trans (HBk.out.mono HB3.out.size)).trans (HBa.out.mono (Nat.le_trans HB3.out.size HBk.out.size)))
                clear HO3 HX3 HL3 HB3 HBa
                go_wp2_with (at_builtin; refine wpList_appR _ rfl _ _ 45 rfl w.heap.size 29 1 24 Try.underlying45 HIF.out (by decide) sn_size (.slice sa S.length cs) S rfl HOa.out (⟨(bt L k).na, (bt L k).N, (bt L k).nc⟩ : Sn) ⟨wr.heap.size, 0, none⟩ 1 rfl (fun j u hj => cell_news wr #[.slice (bt L k).na (bt L k).N.length (bt L k).nc] 29 j u hj) (sn_one _) (by unfold maxLen; omega) (by omega) HBb.out.size ?_; intro v5 w5 ho5 hg5 hv5; have HF5 := hidOf (HOa.out.frt hg5); have HO5 := hidOf ho5; clear ho5 hg5 hv5)
                go_roundw
                case rel => exact ⟨nn + 1, mb3, _, S ++ [(⟨(bt L k).na, (bt L k).N, (bt L k).nc⟩ : Sn)], by omega, by go_num, by simp; omega, hidOf ⟨HI.out.1.tick _ _, HI.out.2.tick HI.out.1 (⟨(bt L k).na, (bt L k).N, (bt L k).nc⟩ : Sn) _⟩, hidOf (HLa.out.keepT HF5.out (by decide) (by decide)), HO5, hidOf (HS.out.snoc (x := (⟨(bt L k).na, (bt L k).N, (bt L k).nc⟩ : Sn)) HBR.out.n HBR.out.nm), hidOf (HBb.out.trans (HF5.out.below HBb.out.size)), hidOf (HF5.out.cells HXa.out (by decide))⟩
                case measure => simp [intOf]; omega
          · have hnp : nn = pt + 1 := by omega
            subst hnp
            have hgz : ¬ ((pt + 1 : Nat) : Int) ≤ (pt : Int) := by omega
            go_wp2_with (go_at_call 9; refine (HPK.out _).mono ?_; rintro e w2 ⟨rfl, rfl⟩)
            go_roundw
            case rel => exact ⟨k + 1, mb, m, S, by omega, by go_num, by omega, HI, HL, HO, HS, HB⟩
            case measure => simp [intOf]; omega
    · have hltz : ¬ (k : Int) < (L.length : Int) := by omega
      go_wp2_with (go_at_call 13; refine (HLV.out _).mono ?_; rintro e w3 ⟨rfl, hb3⟩; have HB3 := hidOf hb3; clear hb3)
      go_ret
      exact ⟨rfl, HB.out.trans (HB3.out.mono HB.out.size)⟩
end Go.Proofs.Ytcdbkieimkcogaa
