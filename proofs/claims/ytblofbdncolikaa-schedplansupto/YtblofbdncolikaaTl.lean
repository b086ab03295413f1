/- The first allocation that is looked for; who holds a slot; who is on a node. -/
import Derived.Test.YtblofbdncolikaaWx
import Derived.Test.YtblofbdncolikaaRs
namespace Go.Proofs.Ytblofbdncolikaa
open Go.RowKit Go.Shelf
attribute [local go_sem] Oper.semAt_some
set_option maxHeartbeats 400000 in
theorem overT_any (x : Al) (w : World) : Calls Try.prog 49 #[.agg #[.int .i64 x.id, .int .i64 x.jb, .int .i64 x.ve, .int .i64 x.gr, .int .i64 x.ix, .int .i64 x.nd, .int .i64 x.ep, .int .i64 x.c, .int .i64 x.m, .bool x.sp, .int .i64 x.st]] w fun e w' => e = .returned (.bool (ovr x.st)) ∧ Below w.heap.size w w' := by
 by_cases h : 3 ≤ x.st
 ·rw [ovr_true h]
  go_enter Try.func49, Try.ntmps49
  go_wp2
  go_ret
  exact ⟨by simp, below1 _ _⟩
 ·rw [ovr_false h]
  go_enter Try.func49, Try.ntmps49
  go_wp2
  go_ret
  exact ⟨by simp, below1 _ _⟩
def usB (nd : Int) (x : Al) : Bool := isI x.nd nd && !ovr x.st
set_option maxHeartbeats 2000000 in
theorem p49_any (x : Al) (nd : Int) (p : Nat) (w : World) (hp : w.cell? ⟨p, 0, none⟩ = some (.int .i64 nd)) (lp : p < w.heap.size) :
  Calls Try.prog 78 #[.agg #[.int .i64 x.id, .int .i64 x.jb, .int .i64 x.ve, .int .i64 x.gr, .int .i64 x.ix, .int .i64 x.nd, .int .i64 x.ep, .int .i64 x.c, .int .i64 x.m, .bool x.sp, .int .i64 x.st], .pointer (some ⟨p, 0, none⟩)] w fun e w' => e = .returned (.bool (usB nd x)) ∧ Below w.heap.size w w' := by
 by_cases h1 : x.nd = nd
 ·have e : usB nd x = !ovr x.st := by rw [usB, isI_true h1]; rfl
  rw [e]
  clear e
  have b1 : (x.nd == nd) = true := by simp [h1]
  clear h1
  go_enter Try.func78, Try.ntmps78
  go_wp2_with (go_at_call 49; refine (overT_any x _).mono ?_; rintro e w1 ⟨rfl, hb⟩; have HB := hidOf ((below1 w _).trans (hb.mono (by simp))); clear hb)
  go_ret
  exact ⟨rfl, HB.out⟩
 ·have e : usB nd x = false := by rw [usB, isI_false h1]; rfl
  rw [e]
  clear e
  have b1 : (x.nd == nd) = false := by simp [h1]
  clear h1
  go_enter Try.func78, Try.ntmps78
  go_wp2
  go_ret
  exact ⟨rfl, below1 _ _⟩
set_option maxRecDepth 100000 in
set_option maxHeartbeats 4000000 in
theorem it49 (n : Nat) (hn : 1 ≤ n) (p Bl Bf : Nat) (a : Option Addr) (cap : Nat) (L : List Al) (P : Al → Bool) (Q : Nat → Prop) (w : World) (hQ : ∀ k, Q k → k < w.heap.size) (hBl : Q Bl) (hBf : Q Bf)
  (hl : w.cell? ⟨Bl, 0, none⟩ = some (.slice a L.length cap)) (hf : w.cell? ⟨Bf, 0, none⟩ = some (.func (.func 78) #[] #[.pointer (some ⟨p, 0, none⟩)])) (hL : Fl w Q 11 88 Al.cs a L)
  (hP : ∀ W (x : Al), Kq Q w W → Calls Try.prog 78 #[.agg #[.int .i64 x.id, .int .i64 x.jb, .int .i64 x.ve, .int .i64 x.gr, .int .i64 x.ix, .int .i64 x.nd, .int .i64 x.ep, .int .i64 x.c, .int .i64 x.m, .bool x.sp, .int .i64 x.st], .pointer (some ⟨p, 0, none⟩)] W fun e W' => e = .returned (.bool (P x)) ∧ Below W.heap.size W W') :
  SeqStopsK Fence.wide n Try.prog 81 #[.pointer (some ⟨Bl, 0, none⟩), .pointer (some ⟨Bf, 0, none⟩)] (fun x : Nat × Al => #[.int .i64 (x.1 : Int), .agg #[.int .i64 x.2.id, .int .i64 x.2.jb, .int .i64 x.2.ve, .int .i64 x.2.gr, .int .i64 x.2.ix, .int .i64 x.2.nd, .int .i64 x.2.ep, .int .i64 x.2.c, .int .i64 x.2.m, .bool x.2.sp, .int .i64 x.2.st]]) (Kq Q) (fun ys => ys = sel P L L.length) (fun pre => ∃ k, k ≤ L.length ∧ pre = sel P L k) L.length w := fun l J Jx W hW hJ _ hY h0 => by
 have hlen : L.length ≤ 140737488355328 := by have := hL.bd; omega
 have hKW : Kq Q w W := Kq.bel hW hQ
 have hl' := (hKW.cell hBl 0).trans hl
 refine callsIn_of_wp Try.func81 rfl trivial ?_ rfl
 simp only [Try.ntmps81, List.size_toArray, List.length_cons, List.length_nil, Nat.reduceAdd, Nat.reduceSub, Array.replicate_succ, Array.replicate_zero, List.push_toArray, List.append_toArray, List.nil_append, List.cons_append]
 gi_wp2
 gi_loopw [8] (fun i wr => ∃ k : Nat, k ≤ L.length ∧ i = .int .i64 k ∧ J (sel P L k) wr ∧ Kq Q w wr ∧ W.heap.size ≤ wr.heap.size) (fun i _ => L.length - (intOf i).toNat)
 case atStart => exact ⟨0, Nat.zero_le _, rfl, h0, hKW, Nat.le_refl _⟩
 case round =>
  obtain ⟨k, hk, rfl, hJs, hKr, hsz⟩ := hrel
  by_cases hlt : k < L.length
  ·obtain ⟨b, off, ha, hQb, hc⟩ := (hKr.fl hL).at k hlt
   subst ha
   have hx := getD_at L k hlt
   have HYES := hidOf (@sel_yes Al _ P L k)
   have HNO := hidOf (@sel_no Al _ P L k)
   rw [hx] at HYES HNO
   clear hx
   generalize L[k] = x at *
   have hff := (hKr.cell hBf 0).trans hf
   have hQr : ∀ k, Q k → k < wr.heap.size := fun k hk => Nat.lt_of_lt_of_le (hQ k hk) hKr.size
   have hbl : b < wr.heap.size := hQr b hQb
   have hBfl : Bf < wr.heap.size := hQr Bf hBf
   have c0 : wr.cell? ⟨b, off + k * 11, none⟩ = some (.int .i64 x.id) := hc 0 _ rfl
   have c1 : wr.cell? ⟨b, off + k * 11 + 1, none⟩ = some (.int .i64 x.jb) := hc 1 _ rfl
   have c2 : wr.cell? ⟨b, off + k * 11 + 2, none⟩ = some (.int .i64 x.ve) := hc 2 _ rfl
   have c3 : wr.cell? ⟨b, off + k * 11 + 3, none⟩ = some (.int .i64 x.gr) := hc 3 _ rfl
   have c4 : wr.cell? ⟨b, off + k * 11 + 4, none⟩ = some (.int .i64 x.ix) := hc 4 _ rfl
   have c5 : wr.cell? ⟨b, off + k * 11 + 5, none⟩ = some (.int .i64 x.nd) := hc 5 _ rfl
   have c6 : wr.cell? ⟨b, off + k * 11 + 6, none⟩ = some (.int .i64 x.ep) := hc 6 _ rfl
   have c7 : wr.cell? ⟨b, off + k * 11 + 7, none⟩ = some (.int .i64 x.c) := hc 7 _ rfl
   have c8 : wr.cell? ⟨b, off + k * 11 + 8, none⟩ = some (.int .i64 x.m) := hc 8 _ rfl
   have c9 : wr.cell? ⟨b, off + k * 11 + 9, none⟩ = some (.bool x.sp) := hc 9 _ rfl
   have c10 : wr.cell? ⟨b, off + k * 11 + 10, none⟩ = some (.int .i64 x.st) := hc 10 _ rfl
   have HP := hidOf hP
   have HY := hidOf hY
   have HJ := hidOf hJ
   have HJs := hidOf hJs
   have HK := hidOf hKr
   have HQ := hidOf hQr
   have hk0 : (sel P L k).length < L.length := Nat.lt_of_le_of_lt (sel_len P L k) hlt
   clear hc hP hY hL hJ hJs hKr hQ hQr hKW
   have HX : Hid (∀ W', Below wr.heap.size wr W' → Kq Q w W') := hidOf fun W' hb => HK.out.trans (Kq.bel hb HQ.out)
   have HZ : Hid (∀ W', Below wr.heap.size wr W' → J (sel P L k) W') := hidOf fun W' hb => HJ.out _ _ _ none HJs.out (bgrown hb) (fun r e => by cases e)
   cases hPx : P x with
   | true =>
    have HYES2 := hidOf (HYES.out hPx)
    clear HYES HNO
    have HPx := hidOf hPx
    clear hPx
    gi_wp2_with (first | (refine ⟨trivial, ?_⟩; gi_at_call 78; refine (callsIn_wide.2 (HP.out _ x (HX.out _ (below1 _ _)))).mono ?_; rintro e w1 ⟨rfl, hb1⟩; have hd := box_new (cs := [.int .i64 x.id, .int .i64 x.jb, .int .i64 x.ve, .int .i64 x.gr, .int .i64 x.ix, .int .i64 x.nd, .int .i64 x.ep, .int .i64 x.c, .int .i64 x.m, .bool x.sp, .int .i64 x.st]) hb1; have hb := (below1 wr _).trans (hb1.mono (by simp)); clear hb1; rw [HPx.out]; obtain ⟨fn, tmps, assign, body, hy, hR⟩ := HY.out _ (k, x) w1 (HZ.out _ hb) hk0; dsimp only at hy; have d0 : w1.cell? ⟨wr.heap.size, 0, none⟩ = some (.int .i64 x.id) := hd 0 _ rfl; have d1 : w1.cell? ⟨wr.heap.size, 1, none⟩ = some (.int .i64 x.jb) := hd 1 _ rfl; have d2 : w1.cell? ⟨wr.heap.size, 2, none⟩ = some (.int .i64 x.ve) := hd 2 _ rfl; have d3 : w1.cell? ⟨wr.heap.size, 3, none⟩ = some (.int .i64 x.gr) := hd 3 _ rfl; have d4 : w1.cell? ⟨wr.heap.size, 4, none⟩ = some (.int .i64 x.ix) := hd 4 _ rfl; have d5 : w1.cell? ⟨wr.heap.size, 5, none⟩ = some (.int .i64 x.nd) := hd 5 _ rfl; have d6 : w1.cell? ⟨wr.heap.size, 6, none⟩ = some (.int .i64 x.ep) := hd 6 _ rfl; have d7 : w1.cell? ⟨wr.heap.size, 7, none⟩ = some (.int .i64 x.c) := hd 7 _ rfl; have d8 : w1.cell? ⟨wr.heap.size, 8, none⟩ = some (.int .i64 x.m) := hd 8 _ rfl; have d9 : w1.cell? ⟨wr.heap.size, 9, none⟩ = some (.bool x.sp) := hd 9 _ rfl; have d10 : w1.cell? ⟨wr.heap.size, 10, none⟩ = some (.int .i64 x.st) := hd 10 _ rfl; have HB := hidOf hb; clear hd hb))
    refine hR.mono ?_
    rintro e W3 (⟨rfl, hJ3, hk3⟩ | ⟨rfl, hJx3⟩)
    ·gi_wp2
     go_roundw
     case rel => exact ⟨k + 1, by omega, by simp, by rw [HYES2.out]; exact hJ3, (HX.out _ HB.out).trans hk3, Nat.le_trans (Nat.le_trans hsz HB.out.size) hk3.size⟩
     case measure => simp [intOf]; omega
    ·gi_wp2
     refine bodyPost_ret (results_none rfl _ _ _) rfl ?_
     exact ⟨⟨_, rfl⟩, .inr ⟨_, ⟨k + 1, by omega, HYES2.out.symm⟩, hJx3⟩⟩
   | false =>
    have HNO2 := hidOf (HNO.out hPx)
    clear HYES HNO HY
    have HPx := hidOf hPx
    clear hPx
    gi_wp2_with (first | (refine ⟨trivial, ?_⟩; gi_at_call 78; refine (callsIn_wide.2 (HP.out _ x (HX.out _ (below1 _ _)))).mono ?_; rintro e w1 ⟨rfl, hb1⟩; have hb := (below1 wr _).trans (hb1.mono (by simp)); clear hb1; rw [HPx.out]; have HB := hidOf hb; clear hb))
    refine ⟨fun _ h => (by cases h), ?_⟩
    gi_wp2
    go_roundw
    case rel => exact ⟨k + 1, by omega, by simp, by rw [HNO2.out]; exact HZ.out _ HB.out, HX.out _ HB.out, Nat.le_trans hsz HB.out.size⟩
    case measure => simp [intOf]; omega
  ·have hkl : k = L.length := by omega
   subst hkl
   gi_wp2
   go_end0
   exact ⟨⟨_, rfl⟩, .inl ⟨_, rfl, hJs⟩⟩
end Go.Proofs.Ytblofbdncolikaa
