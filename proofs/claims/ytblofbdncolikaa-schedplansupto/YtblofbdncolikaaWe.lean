/- The first evaluation, the first deployment that is looked for. -/
import Derived.Test.YtblofbdncolikaaWx
namespace Go.Proofs.Ytblofbdncolikaa
open Go.RowKit Go.Shelf
attribute [local go_sem] Oper.semAt_some
set_option maxHeartbeats 400000 in
theorem p41_any (x : Qd) (id : Int) (p : Nat) (w : World) (hp : w.cell? ⟨p, 0, none⟩ = some (.int .i64 id)) (hl : p < w.heap.size) :
  Calls Try.prog 32 #[.agg #[.int .i64 x.a, .int .i64 x.b, .int .i64 x.c, .int .i64 x.d], .pointer (some ⟨p, 0, none⟩)] w fun e w' => e = .returned (.bool (isI x.a id)) ∧ Below w.heap.size w w' := by
 have hb : isI x.a id = (x.a == id) := by unfold isI; rw [Bool.eq_iff_iff]; simp
 rw [hb]
 clear hb
 go_enter Try.func32, Try.ntmps32
 go_wp2
 go_ret
 exact ⟨rfl, below1 _ _⟩
set_option maxRecDepth 100000 in
set_option maxHeartbeats 4000000 in
theorem it41 (n : Nat) (hn : 1 ≤ n) (p Bl Bf : Nat) (a : Option Addr) (cap : Nat) (L : List Qd) (P : Qd → Bool) (Q : Nat → Prop) (w : World) (hQ : ∀ k, Q k → k < w.heap.size) (hBl : Q Bl) (hBf : Q Bf)
  (hl : w.cell? ⟨Bl, 0, none⟩ = some (.slice a L.length cap)) (hf : w.cell? ⟨Bf, 0, none⟩ = some (.func (.func 32) #[] #[.pointer (some ⟨p, 0, none⟩)])) (hL : Fl w Q 4 32 Qd.cs a L)
  (hP : ∀ W (x : Qd), Kq Q w W → Calls Try.prog 32 #[.agg #[.int .i64 x.a, .int .i64 x.b, .int .i64 x.c, .int .i64 x.d], .pointer (some ⟨p, 0, none⟩)] W fun e W' => e = .returned (.bool (P x)) ∧ Below W.heap.size W W') :
  SeqStopsK Fence.wide n Try.prog 61 #[.pointer (some ⟨Bl, 0, none⟩), .pointer (some ⟨Bf, 0, none⟩)] (fun x : Nat × Qd => #[.int .i64 (x.1 : Int), .agg #[.int .i64 x.2.a, .int .i64 x.2.b, .int .i64 x.2.c, .int .i64 x.2.d]]) (Kq Q) (fun ys => ys = sel P L L.length) (fun pre => ∃ k, k ≤ L.length ∧ pre = sel P L k) L.length w := fun l J Jx W hW hJ _ hY h0 => by
 have hlen : L.length ≤ 140737488355328 := by have := hL.bd; omega
 have hKW : Kq Q w W := Kq.bel hW hQ
 have hl' := (hKW.cell hBl 0).trans hl
 refine callsIn_of_wp Try.func61 rfl trivial ?_ rfl
 simp only [Try.ntmps61, List.size_toArray, List.length_cons, List.length_nil, Nat.reduceAdd, Nat.reduceSub, Array.replicate_succ, Array.replicate_zero, List.push_toArray, List.append_toArray, List.nil_append, List.cons_append]
 gi_wp2
 gi_loopw [8] (fun i wr => ∃ k : Nat, k ≤ L.length ∧ i = .int .i64 k ∧ J (sel P L k) wr ∧ Kq Q w wr ∧ W.heap.size ≤ wr.heap.size) (fun i _ => L.length - (intOf i).toNat)
 case atStart => exact ⟨0, Nat.zero_le _, rfl, h0, hKW, Nat.le_refl _⟩
 case round =>
  obtain ⟨k, hk, rfl, hJs, hKr, hsz⟩ := hrel
  by_cases hlt : k < L.length
  ·obtain ⟨b, off, ha, hQb, hc⟩ := (hKr.fl hL).at k hlt
   subst ha
   have hx := getD_at L k hlt
   have HYES := hidOf (@sel_yes Qd _ P L k)
   have HNO := hidOf (@sel_no Qd _ P L k)
   rw [hx] at HYES HNO
   clear hx
   generalize L[k] = x at *
   have hff := (hKr.cell hBf 0).trans hf
   have hQr : ∀ k, Q k → k < wr.heap.size := fun k hk => Nat.lt_of_lt_of_le (hQ k hk) hKr.size
   have hbl : b < wr.heap.size := hQr b hQb
   have hBfl : Bf < wr.heap.size := hQr Bf hBf
   have c0 : wr.cell? ⟨b, off + k * 4, none⟩ = some (.int .i64 x.a) := hc 0 _ rfl
   have c1 : wr.cell? ⟨b, off + k * 4 + 1, none⟩ = some (.int .i64 x.b) := hc 1 _ rfl
   have c2 : wr.cell? ⟨b, off + k * 4 + 2, none⟩ = some (.int .i64 x.c) := hc 2 _ rfl
   have c3 : wr.cell? ⟨b, off + k * 4 + 3, none⟩ = some (.int .i64 x.d) := hc 3 _ rfl
   have HP := hidOf hP
   have HY := hidOf hY
   have HJ := hidOf hJ
   have HJs := hidOf hJs
   have HK := hidOf hKr
   have HQ := hidOf hQr
   have hk0 : (sel P L k).length < L.length := Nat.lt_of_le_of_lt (sel_len P L k) hlt
   clear hc hP hY hL hJ hJs hKr hQ hQr hKW
   have HX : Hid (∀ W', Below wr.heap.size wr W' → Kq Q w W') := hidOf fun W' hb => HK.out.trans (Kq.bel hb HQ.out)
   have HZ : Hid (∀ W', Below wr.heap.size wr W' → J (sel P L k) W') := hidOf fun W' hb => HJ.out _ _ _ none HJs.out (bgrown hb) (fun r e => by cases e)
   cases hPx : P x with
   | true =>
    have HYES2 := hidOf (HYES.out hPx)
    clear HYES HNO
    have HPx := hidOf hPx
    clear hPx
    gi_wp2_with (first | (refine ⟨trivial, ?_⟩; gi_at_call 32; refine (callsIn_wide.2 (HP.out _ x (HX.out _ (below1 _ _)))).mono ?_; rintro e w1 ⟨rfl, hb1⟩; have hd := box_new (cs := [.int .i64 x.a, .int .i64 x.b, .int .i64 x.c, .int .i64 x.d]) hb1; have hb := (below1 wr _).trans (hb1.mono (by simp)); clear hb1; rw [HPx.out]; obtain ⟨fn, tmps, assign, body, hy, hR⟩ := HY.out _ (k, x) w1 (HZ.out _ hb) hk0; dsimp only at hy; have d0 : w1.cell? ⟨wr.heap.size, 0, none⟩ = some (.int .i64 x.a) := hd 0 _ rfl; have d1 : w1.cell? ⟨wr.heap.size, 1, none⟩ = some (.int .i64 x.b) := hd 1 _ rfl; have d2 : w1.cell? ⟨wr.heap.size, 2, none⟩ = some (.int .i64 x.c) := hd 2 _ rfl; have d3 : w1.cell? ⟨wr.heap.size, 3, none⟩ = some (.int .i64 x.d) := hd 3 _ rfl; have HB := hidOf hb; clear hd hb))
    refine hR.mono ?_
    rintro e W3 (⟨rfl, hJ3, hk3⟩ | ⟨rfl, hJx3⟩)
    ·gi_wp2
     go_roundw
     case rel => exact ⟨k + 1, by omega, by simp, by rw [HYES2.out]; exact hJ3, (HX.out _ HB.out).trans hk3, Nat.le_trans (Nat.le_trans hsz HB.out.size) hk3.size⟩
     case measure => simp [intOf]; omega
    ·gi_wp2
     refine bodyPost_ret (results_none rfl _ _ _) rfl ?_
     exact ⟨⟨_, rfl⟩, .inr ⟨_, ⟨k + 1, by omega, HYES2.out.symm⟩, hJx3⟩⟩
   | false =>
    have HNO2 := hidOf (HNO.out hPx)
    clear HYES HNO HY
    have HPx := hidOf hPx
    clear hPx
    gi_wp2_with (first | (refine ⟨trivial, ?_⟩; gi_at_call 32; refine (callsIn_wide.2 (HP.out _ x (HX.out _ (below1 _ _)))).mono ?_; rintro e w1 ⟨rfl, hb1⟩; have hb := (below1 wr _).trans (hb1.mono (by simp)); clear hb1; rw [HPx.out]; have HB := hidOf hb; clear hb))
    refine ⟨fun _ h => (by cases h), ?_⟩
    gi_wp2
    go_roundw
    case rel => exact ⟨k + 1, by omega, by simp, by rw [HNO2.out]; exact HZ.out _ HB.out, HX.out _ HB.out, Nat.le_trans hsz HB.out.size⟩
    case measure => simp [intOf]; omega
  ·have hkl : k = L.length := by omega
   subst hkl
   gi_wp2
   go_end0
   exact ⟨⟨_, rfl⟩, .inl ⟨_, rfl, hJs⟩⟩
set_option maxRecDepth 100000 in
set_option maxHeartbeats 4000000 in
theorem first41 (p : Nat) (a : Option Addr) (cap : Nat) (L : List Qd) (P : Qd → Bool) (w : World) (hL : Fl w (fun b => b < w.heap.size) 4 32 Qd.cs a L)
  (hP : ∀ W (x : Qd), Kq (fun b => b < w.heap.size) w W → Calls Try.prog 32 #[.agg #[.int .i64 x.a, .int .i64 x.b, .int .i64 x.c, .int .i64 x.d], .pointer (some ⟨p, 0, none⟩)] W fun e W' => e = .returned (.bool (P x)) ∧ Below W.heap.size W W') :
  Calls Try.prog 31 #[.slice a L.length cap, .func (.func 32) #[] #[.pointer (some ⟨p, 0, none⟩)]] w fun e w' => e = .returned (.int .i64 (fi P L)) ∧ Below w.heap.size w w' := by
 refine (callsIn_wide (n := 3)).1 ?_
 refine callsIn_of_wp_marks Try.func31 rfl trivial ?_ rfl
 simp only [Try.ntmps31, List.size_toArray, List.length_cons, List.length_nil, Nat.reduceAdd, Nat.reduceSub, Array.replicate_succ, Array.replicate_zero, List.push_toArray, List.append_toArray, List.nil_append, List.cons_append]
 gi_wp2_with (refine ⟨trivial, ?_⟩; gi_at_call 45; refine (callsIn_wide.2 (where73 _ _ _ _ _ _ _)).mono ?_; rintro e w' ⟨rfl, rfl⟩)
 have c0 := Boxed.new w 3 (.int .i64 0)
 have c1 := Boxed.new (w.alloc (.cells #[.int .i64 0] 3)) 25 (.slice a L.length cap)
 have c2 := Boxed.new ((w.alloc (.cells #[.int .i64 0] 3)).alloc (.cells #[.slice a L.length cap] 25)) 84 (.func (.func 32) #[] #[.pointer (some ⟨p, 0, none⟩)])
 simp only [World.size_alloc] at c1 c2
 have hB0 : Below w.heap.size w (((w.alloc (.cells #[.int .i64 0] 3)).alloc (.cells #[.slice a L.length cap] 25)).alloc (.cells #[.func (.func 32) #[] #[.pointer (some ⟨p, 0, none⟩)]] 84)) := (((Below.refl _ w).alloc (Nat.le_refl _) _).alloc (by simp) _).alloc (by simp; omega) _
 have hQ0 : ∀ k, (k < w.heap.size ∨ k = w.heap.size + 1 ∨ k = w.heap.size + 1 + 1) → k < (((w.alloc (.cells #[.int .i64 0] 3)).alloc (.cells #[.slice a L.length cap] 25)).alloc (.cells #[.func (.func 32) #[] #[.pointer (some ⟨p, 0, none⟩)]] 84)).heap.size := fun k hk => by simp; omega
 refine wpIn_rangeFunc_ownG rfl (by omega) (gf := 61) (lb := #[.pointer (some ⟨w.heap.size + 1, 0, none⟩), .pointer (some ⟨w.heap.size + 1 + 1, 0, none⟩)]) rfl trivial (enters_of Try.func61 (by kernel_rfl) rfl)
  (it41 (3 - 1) (by omega) p (w.heap.size + 1) (w.heap.size + 1 + 1) a cap L P (fun k => k < w.heap.size ∨ k = w.heap.size + 1 ∨ k = w.heap.size + 1 + 1) _ hQ0 (.inr (.inl rfl)) (.inr (.inr rfl)) (c1.alloc _).cell c2.cell (hL.kept (fun b hb => hB0.block b hb) (fun b hb => .inl hb))
   (fun W x hW => hP W x ⟨Nat.le_trans hB0.size hW.size, fun k hk => (hW.block k (.inl hk)).trans (hB0.block k hk)⟩))
  Kq.trans (kq_b hQ0) (Below.refl _ _) (fun _ => rfl)
  (fun pre W => (pre = [] ∧ W.cell? ⟨w.heap.size, 0, none⟩ = some (.int .i64 0) ∧ W.frozen? ⟨w.heap.size, 0, none⟩ = false) ∧ Below w.heap.size w W)
  (fun c pre W => (c = .ret ∧ ∃ x, pre = [x] ∧ W.cell? ⟨w.heap.size, 0, none⟩ = some (.int .i64 (x.1 : Int))) ∧ Below w.heap.size w W)
  (OwnFrom.and (Own.from (fun s A B row hs hg hr => ⟨hs.1, cell_kept hs.2.1 hg hr, (frozen_kept hs.2.1 hg hr).trans hs.2.2⟩) _) (ownFrom_below (Nat.le_refl _) (by simp; omega)))
  (fun c => OwnFrom.and (Own.from (fun s A B row hs hg hr => by obtain ⟨hc, x, e1, e2⟩ := hs; exact ⟨hc, x, e1, cell_kept e2 hg hr⟩) _) (ownFrom_below (Nat.le_refl _) (by simp; omega)))
  ⟨⟨rfl, ((c0.alloc _).alloc _).cell, ((c0.alloc _).alloc _).frozen⟩, hB0⟩
  (fun x => { tmps := #[.slice a L.length cap, .func (.func 32) #[] #[.pointer (some ⟨p, 0, none⟩)], undef, undef, .pointer (some ⟨w.heap.size, 0, none⟩), .int .i64 (x.1 : Int), .slice a L.length cap, .func (.func 32) #[] #[.pointer (some ⟨p, 0, none⟩)], .func (.func 61) #[] #[.pointer (some ⟨w.heap.size + 1, 0, none⟩), .pointer (some ⟨w.heap.size + 1 + 1, 0, none⟩)], .int .i64 (x.1 : Int), .agg #[.int .i64 x.2.a, .int .i64 x.2.b, .int .i64 x.2.c, .int .i64 x.2.d], undef], defers := [] }) ?assign ?body ?done ?stop
 case assign =>
  intro l x W K hK
  gi_wp2
  exact hK
 case body =>
  rintro l pre x W ⟨⟨rfl, hcr, hfr⟩, hB⟩ _
  gi_wp2
  exact ⟨(KeepsOthers.setCell _ _ _).from _, ⟨rfl, x, rfl, World.cell?_setCell_same' _ _ _ (by rw [hcr]; rfl)⟩, hB.setCell (p := ⟨w.heap.size, 0, none⟩) (Nat.le_refl _) _⟩
 case done =>
  rintro D ys W hD hys ⟨⟨hne, hcr, hfr⟩, hB⟩ hK
  gi_wp2
  have hK' := (KeepsOthers.setCell W ⟨w.heap.size, 0, none⟩ (.int .i64 (-1))).same D _ hK rfl
  refine ⟨by simp, .inl ⟨_, _, rfl, run_takeDeferred hK', ?_⟩⟩
  have hc5 := cell_kept (World.cell?_setCell_same' W ⟨w.heap.size, 0, none⟩ (.int .i64 (-1)) (by rw [hcr]; rfl)) (grownBy_putObj' _ D (.deferred none)) (fun r e => by cases e; exact ⟨_, hK', rfl⟩)
  refine ⟨.int .i64 (-1), ?_, by rw [fi_nil (hys.symm.trans hne)], (hB.setCell (p := ⟨w.heap.size, 0, none⟩) (Nat.le_refl _) _).trans (belowK_b (w := w) (Nat.le_refl _) _ D _ _ (by simp at hD; omega) hK' rfl rfl)⟩
  simp [results, Try.f31, go_sem, hc5]
 case stop =>
  rintro D c pre W hD ⟨k, hk, hpre⟩ ⟨⟨rfl, x, e1, hcr⟩, hB⟩ hK
  gi_wp2
  refine ⟨by simp, .inl ⟨_, _, rfl, run_takeDeferred hK, ?_⟩⟩
  have hc5 := cell_kept hcr (grownBy_putObj' _ D (.deferred none)) (fun r e => by cases e; exact ⟨_, hK, rfl⟩)
  refine ⟨.int .i64 (x.1 : Int), ?_, by rw [fi_hit hk (hpre.symm.trans e1)], hB.trans (belowK_b (w := w) (Nat.le_refl _) W D _ _ (by simp at hD; omega) hK rfl rfl)⟩
  simp [results, Try.f31, go_sem, hc5]
end Go.Proofs.Ytblofbdncolikaa
