/- Send and Lose: what a message that may be written leaves, and one that may not; a packet lost. -/
import Derived.Test.YtcdoejdbmllnnabNadd
import Derived.Test.YtcdoejdbmllnnabVpwms
import Derived.Test.YtcdoejdbmllnnabVgms
namespace Go.Proofs.Ytcdoejdbmllnnab
open Go.RowKit

theorem NetR.plt {w : World} {p most : Nat} {L : List (List UInt8)} {r : Option Nat} (h : NetR w p most L r) : p < w.heap.size := h.cells.1
theorem NetR.rlt {w : World} {p most : Nat} {L : List (List UInt8)} {r : Option Nat} (h : NetR w p most L r) : ∀ k, r = some k → k < w.heap.size := by
  obtain ⟨h1, h2, v, ps, h3, h4, h5, h6, h7⟩ := h
  intro k hk
  rcases h5.2 with ⟨e, _⟩ | ⟨g, cap, cur, e1, e2, e3, _⟩
  · rw [e] at h4; rw [hk] at h4; cases h4
  · rw [e1] at h4; rw [hk] at h4; cases h4; exact (Array.getElem?_eq_some_iff.1 e3).1
theorem own_pkt {w : World} {v : Value} {l : List UInt8} {p : Nat} {r : Option Nat} (h : Own w v l) (hl : l.length ≤ 211106232532992) (hb : ∀ k, v.ownBlock = some k → k ≠ p ∧ r ≠ some k) : ∃ x : Pk, v = encP x ∧ Pkt w p r x l := by
  obtain ⟨a', cap', e', hbs⟩ := h.form
  have hlt := h.lt
  rcases h with ⟨e, rfl⟩ | ⟨g, cap, cur, e, hg, hc, hm, hcs, ht⟩
  · subst e
    cases e'
    exact ⟨(none, 0, 0), rfl, rfl, Nat.le_refl _, hbs hl, fun y hy => by cases hy⟩
  · subst e
    cases e'
    exact ⟨(some ⟨g, 0, none⟩, l.length, _), rfl, rfl, hc, hbs hl, fun y hy => by cases hy; exact ⟨(hb g rfl).1, (hb g rfl).2, hlt g rfl, cur, hg⟩⟩
theorem mxl_msg : mx F_msg ≤ 211106232532992 := Nat.le_of_ble_eq_true (by kernel_rfl)
theorem box_msg : (Try.prog.info? 48).map (·.size) = some (wd F_msg) := by kernel_rfl

set_option maxHeartbeats 800000 in
set_option maxRecDepth 100000 in
theorem send_no (p most : Nat) (L : List (List UInt8)) (r : Option Nat) (cs : List Value) (v : Vl F_msg) (w : World) (h : NetR w p most L r) (hr : Rep w (fun b => b < w.heap.size) F_msg cs v) (hv : (en F_msg v).2 = true) :
    Calls Try.prog 8 #[.pointer (some ⟨p, 0, none⟩), .agg cs.toArray] w fun e w' => e = .returned (.int .i64 1) ∧ NetR w' p most L r ∧ Below w.heap.size w w' := by
  have hsz : Hid ((Try.prog.info? 48).map (·.size) = some cs.toArray.size) := by show _ = _; rw [List.size_toArray, hr.len]; exact box_msg
  have hB0 : Below w.heap.size w (w.alloc (.cells cs.toArray 48)) := (Below.refl _ _).alloc (Nat.le_refl _) _
  have HR : Hid (Rep (w.alloc (.cells cs.toArray 48)) (fun b => b < (w.alloc (.cells cs.toArray 48)).heap.size) F_msg cs v) := hr.kept hB0.size (fun b hb => hB0.block b hb) (fun b x => Nat.lt_of_lt_of_le x hB0.size)
  have HN := hidOf h
  have HV := hidOf hv
  have HB0 := hidOf hB0
  clear h hr hv hB0
  go_enter Try.func8, Try.ntmps8
  go_wp2_with (refine wpList_load_row rfl 48 (.tmp 3) rfl w.heap.size rfl 48 cs.toArray (0, 0) _ (heap_alloc_new w _) Try.underlying48 rfl hsz.out ?_)
  refine (putMsg_w cs v _ HR.out).mono ?_
  rintro e w1 ⟨val, rfl, hO, hN0, hB1⟩
  have hB : Below w.heap.size w w1 := HB0.out.trans (hB1.mono HB0.out.size)
  have HF := hidOf (HN.out.grow hB)
  rw [show codeB (en F_msg v).2 = 1 by rw [HV.out]; rfl]
  clear hO hN0 hB1 HB0 HR
  go_wp2
  go_ret
  exact ⟨rfl, HF.out, hB⟩

set_option maxHeartbeats 800000 in
set_option maxRecDepth 100000 in
theorem send_ok (p most : Nat) (L : List (List UInt8)) (r : Option Nat) (cs : List Value) (v : Vl F_msg) (w : World) (h : NetR w p most L r) (hL : L.length ≤ most) (hr : Rep w (fun b => b < w.heap.size) F_msg cs v) (hv : (en F_msg v).2 = false) :
    Calls Try.prog 8 #[.pointer (some ⟨p, 0, none⟩), .agg cs.toArray] w fun e w' => e = .returned (.int .i64 0) ∧ ∃ r', NetR w' p most (cutM most (L ++ [(en F_msg v).1])) r' ∧ NS w w' p r r' := by
  have hsz : Hid ((Try.prog.info? 48).map (·.size) = some cs.toArray.size) := by show _ = _; rw [List.size_toArray, hr.len]; exact box_msg
  have hB0 : Below w.heap.size w (w.alloc (.cells cs.toArray 48)) := (Below.refl _ _).alloc (Nat.le_refl _) _
  have HR : Hid (Rep (w.alloc (.cells cs.toArray 48)) (fun b => b < (w.alloc (.cells cs.toArray 48)).heap.size) F_msg cs v) := hr.kept hB0.size (fun b hb => hB0.block b hb) (fun b x => Nat.lt_of_lt_of_le x hB0.size)
  have HN := hidOf h
  have HV := hidOf hv
  have HB0 := hidOf hB0
  clear h hr hv hB0
  go_enter Try.func8, Try.ntmps8
  go_wp2_with (refine wpList_load_row rfl 48 (.tmp 3) rfl w.heap.size rfl 48 cs.toArray (0, 0) _ (heap_alloc_new w _) Try.underlying48 rfl hsz.out ?_)
  refine (putMsg_w cs v _ HR.out).mono ?_
  rintro e w1 ⟨val, rfl, hO, hN0, hB1⟩
  have hB : Below w.heap.size w w1 := HB0.out.trans (hB1.mono HB0.out.size)
  have HF := hidOf (HN.out.grow hB)
  have hby : bytesB (en F_msg v) = (en F_msg v).1 := by unfold bytesB; rw [HV.out]; rfl
  rw [hby] at hO
  have hl : (en F_msg v).1.length ≤ 211106232532992 := Nat.le_trans (en_len F_msg v) mxl_msg
  obtain ⟨x, rfl, hx⟩ := own_pkt (p := p) (r := r) hO hl (fun k hk => by
    have h1 := hN0 k hk
    rw [World.size_alloc] at h1
    have h2 := HN.out.plt
    exact ⟨by omega, fun e => by have := HN.out.rlt k e; omega⟩)
  have HX := hidOf hx
  have HBB := hidOf hB
  rw [show codeB (en F_msg v).2 = 0 by rw [HV.out]; rfl]
  clear hO hN0 hB1 HB0 HR hx hl hby hB
  go_wp2_with fail
  refine (add_any p most L r x _ w1 HF.out hL HX.out).mono ?_
  rintro e w2 ⟨rfl, r', hn2, hs2⟩
  have HE := hidOf (show NetR w2 p most (cutM most (L ++ [(en F_msg v).1])) r' ∧ NS w w2 p r r' from ⟨hn2, (NS.of_below HBB.out).trans hs2⟩)
  clear hn2 hs2 HX
  go_wp2
  go_ret
  exact ⟨rfl, r', HE.out⟩

set_option maxHeartbeats 400000 in
theorem lose_no (p most : Nat) (L : List (List UInt8)) (r : Option Nat) (k : Int) (w : World) (h : NetR w p most L r) (hk : hasB L k = false) : Calls Try.prog 12 #[.pointer (some ⟨p, 0, none⟩), .int .i64 k] w fun e w' => e = .returned (.bool false) ∧ w' = w := by
  have H := hidOf h
  have HK := hidOf hk
  clear h hk
  go_enter Try.func12, Try.ntmps12
  go_wp2_with fail
  refine (has_any p most L r k w H.out).mono ?_
  rintro e w1 ⟨rfl, hw⟩
  subst hw
  rw [HK.out]
  go_wp2
  go_ret
  exact ⟨rfl, rfl⟩
theorem has_in (L : List (List UInt8)) (k : Nat) (h : k < L.length) : hasB L (k : Int) = true := by simp [hasB]; omega
set_option maxHeartbeats 400000 in
theorem lose_ok (p most : Nat) (L : List (List UInt8)) (r : Option Nat) (k : Nat) (w : World) (h : NetR w p most L r) (hk : k < L.length) : Calls Try.prog 12 #[.pointer (some ⟨p, 0, none⟩), .int .i64 (k : Int)] w fun e w' => e = .returned (.bool true) ∧ NetR w' p most (L.take k ++ L.drop (k + 1)) r ∧ NS w w' p r r := by
  have H := hidOf h
  have HK := hidOf hk
  have HH := hidOf (has_in L k hk)
  clear h hk
  go_enter Try.func12, Try.ntmps12
  go_wp2_with fail
  refine (has_any p most L r k w H.out).mono ?_
  rintro e w1 ⟨rfl, hw⟩
  subst hw
  rw [HH.out]
  go_wp2_with fail
  refine (remove_any p most L r k _ H.out HK.out).mono ?_
  rintro e w2 ⟨rfl, hn2⟩
  have HE := hidOf hn2
  clear hn2
  go_wp2
  go_ret
  exact ⟨rfl, HE.out⟩

end Go.Proofs.Ytcdoejdbmllnnab
