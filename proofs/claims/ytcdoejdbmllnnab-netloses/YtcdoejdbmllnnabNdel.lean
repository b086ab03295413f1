/- Copy and Deliver: a packet doubled; a packet taken out, and the message that it is. -/
import Derived.Test.YtcdoejdbmllnnabNsend
namespace Go.Proofs.Ytcdoejdbmllnnab
open Go.RowKit

theorem NetR.get {w : World} {p most : Nat} {L : List (List UInt8)} {r : Option Nat} (h : NetR w p most L r) (k : Nat) (l : List UInt8) (hk : L[k]? = some l) :
    ∃ g cap x, w.cell? ⟨p, 1, none⟩ = some (.slice (some ⟨g, 0, none⟩) L.length cap) ∧ L.length ≤ cap ∧ cap ≤ maxLen ∧ w.cell? ⟨g, k, none⟩ = some (encP x) ∧ Pkt w p r x l := by
  obtain ⟨h1, h2, v, ps, h3, h4, h5, h6, h7⟩ := h
  obtain ⟨hkl, hke⟩ := List.getElem?_eq_some_iff.1 hk
  rcases h5.2 with ⟨_, e⟩ | ⟨g, cap, cur, e1, e2, e3, e4, e5, e6, e7⟩
  · omega
  · subst e1
    have hkp : k < ps.length := by have := h7.1; omega
    refine ⟨g, cap, ps[k], ?_, e4, e5, ?_, ?_⟩
    · rw [cell_of_row w p 1 _ 60 (0, 0) h3]; rfl
    · rw [cell_of_row w g k cur 30 (0, 0) e3]
      have h8 : (cur.toList.take (L.length * 1))[k]? = (ps.map encP)[k]? := by rw [e7]
      rw [List.getElem?_take, if_pos (by omega), List.getElem?_map, List.getElem?_eq_getElem hkp] at h8
      simpa using h8
    · have := h7.2 k hkp hkl
      rw [hke] at this
      exact this
/- a block that is not of bytes may be written: the net is as it was -/
theorem NetR.kept1 {w w' : World} {p most q : Nat} {L : List (List UInt8)} {r : Option Nat} {cs : Array Value} {t : TypeId} {fr : Nat × Nat} (h : NetR w p most L r) (hq : w.heap[q]? = some (.cells cs t fr)) (ht : t ≠ 5) (hp : p ≠ q) (hr : r ≠ some q)
    (hb : ∀ k, k < w.heap.size → k ≠ q → w'.heap[k]? = w.heap[k]?) (hs : w.heap.size ≤ w'.heap.size) : NetR w' p most L r := by
  obtain ⟨h1, h2, v, ps, h3, h4, h5, h6, h7, h8⟩ := h
  refine ⟨h1, h2, v, ps, (hb p (Array.getElem?_eq_some_iff.1 h3).1 hp).trans h3, h4, ⟨h5.1, ?_⟩, h6, h7, fun i a b => ?_⟩
  · rcases h5.2 with e | ⟨g, cap, cur, e1, e2, e3, e4⟩
    · exact .inl e
    · refine .inr ⟨g, cap, cur, e1, e2, (hb g (Array.getElem?_eq_some_iff.1 e3).1 ?_).trans e3, e4⟩
      intro e; subst e; apply hr; rw [← h4, e1]; rfl
  · obtain ⟨a1, a2, a3, a4⟩ := h8 i a b
    have hne5 : ∀ b', T5 w b' → b' ≠ q := by
      rintro b' ⟨c, hc⟩ e2
      subst e2
      rw [hq] at hc
      cases hc
      exact ht rfl
    refine ⟨a1, a2, ⟨a3.1, fun hne => ?_⟩, fun y hy => ⟨(a4 y hy).1, (a4 y hy).2.1, Nat.lt_of_lt_of_le (a4 y hy).2.2.1 hs, (a4 y hy).2.2.2.to (hb _ (a4 y hy).2.2.1 (hne5 _ (a4 y hy).2.2.2))⟩⟩
    obtain ⟨b', off, e, hlt, hcl⟩ := a3.2 hne
    have hbq : b' ≠ q := hne5 b' (a4 _ e).2.2.2
    exact ⟨b', off, e, Nat.lt_of_lt_of_le hlt hs, fun j hj => (World.cell?_of_block (a := ⟨b', off + j, none⟩) (hb b' hlt hbq)).trans (hcl j hj)⟩
/- a block of another kind is neither the net nor its row -/
theorem NetR.apart {w : World} {p most q : Nat} {L : List (List UInt8)} {r : Option Nat} {cs : Array Value} {t : TypeId} {fr : Nat × Nat} (h : NetR w p most L r) (hq : w.heap[q]? = some (.cells cs t fr)) (h60 : t ≠ 60) (h30 : t ≠ 30) : q ≠ p ∧ some q ≠ r := by
  obtain ⟨h1, h2, v, ps, h3, h4, h5, h6, h7, h8⟩ := h
  constructor
  · intro e; subst e; rw [hq] at h3; cases h3; exact h60 rfl
  · intro e
    rcases h5.2 with ⟨e1, _⟩ | ⟨g, cap, cur, e1, e2, e3, e4⟩
    · rw [e1] at h4; rw [← e] at h4; cases h4
    · rw [e1, ← e] at h4; cases h4; rw [hq] at e3; cases e3; exact h30 rfl

set_option maxHeartbeats 800000 in
set_option maxRecDepth 100000 in
theorem copy_ok (p most : Nat) (L : List (List UInt8)) (r : Option Nat) (k : Nat) (l : List UInt8) (w : World) (h : NetR w p most L r) (hL : L.length ≤ most) (hkl : L[k]? = some l) :
    Calls Try.prog 13 #[.pointer (some ⟨p, 0, none⟩), .int .i64 (k : Int)] w fun e w' => e = .returned (.bool true) ∧ ∃ r', NetR w' p most (cutM most (L ++ [l])) r' ∧ NS w w' p r r' := by
  obtain ⟨hk, _⟩ := List.getElem?_eq_some_iff.1 hkl
  obtain ⟨g, cap, x, c1, q1, q2, c2, hx⟩ := h.get k l hkl
  obtain ⟨pa, pn, pc⟩ := x
  have c2' : w.cell? ⟨g, k, none⟩ = some (.slice pa pn pc) := c2
  have h2 : most ≤ 256 := h.1
  have H := hidOf h
  have HX := hidOf hx
  have HH := hidOf (has_in L k hk)
  clear h hx c2 hkl
  go_enter Try.func13, Try.ntmps13
  go_wp2_with fail
  refine (has_any p most L r k w H.out).mono ?_
  rintro e w1 ⟨rfl, hw⟩
  subst hw
  rw [HH.out]
  go_wp2_with fail
  refine (add_any p most L r (pa, pn, pc) l _ H.out hL HX.out).mono ?_
  rintro e w2 ⟨rfl, hn2⟩
  have HE := hidOf hn2
  clear hn2
  go_wp2
  go_ret
  exact ⟨rfl, HE.out⟩

set_option maxHeartbeats 800000 in
set_option maxRecDepth 100000 in
theorem deliver_ok (p most : Nat) (L : List (List UInt8)) (r : Option Nat) (k : Nat) (l : List UInt8) (w : World) (h : NetR w p most L r) (hkl : L[k]? = some l) :
    Calls Try.prog 10 #[.pointer (some ⟨p, 0, none⟩), .int .i64 (k : Int)] w fun e w' => ∃ (cs : List Value) (v : Vl F_msg), e = .returned (.tuple #[.agg cs.toArray, .bool (decide ((de F_msg (some l)).2 = some []))]) ∧ Rep w' (NB w w') F_msg cs v ∧
      ((de F_msg (some l)).2 = some [] → v = (de F_msg (some l)).1) ∧ NetR w' p most (L.take k ++ L.drop (k + 1)) r ∧ NS w w' p r r := by
  obtain ⟨hk, _⟩ := List.getElem?_eq_some_iff.1 hkl
  have hB0 : Below w.heap.size w (w.alloc (.cells Zr_msg 48)) := (Below.refl _ _).alloc (Nat.le_refl _) _
  have h0 : NetR (w.alloc (.cells Zr_msg 48)) p most L r := h.grow hB0
  obtain ⟨g, cap, x, c1, q1, q2, c2, hx⟩ := h0.get k l hkl
  obtain ⟨pa, pn, pc⟩ := x
  have c2' : (w.alloc (.cells Zr_msg 48)).cell? ⟨g, k, none⟩ = some (.slice pa pn pc) := c2
  have g0 : Hid ((w.alloc (.cells Zr_msg 48)).heap[w.heap.size]? = some (.cells Zr_msg 48 (0, 0))) := heap_alloc_new w _
  have h2 : L.length ≤ 257 := h.2.1
  have HP := hidOf h.plt
  have HRL := hidOf h.rlt
  have H := hidOf h0
  have HX := hidOf hx
  have HH := hidOf (has_in L k hk)
  have HK := hidOf hk
  have HB0 := hidOf hB0
  clear h hx c2 hkl h0 hB0
  go_enter Try.func10, Try.ntmps10
  go_wp2_with fail
  refine (has_any p most L r k _ H.out).mono ?_
  rintro e w1 ⟨rfl, hw⟩
  subst hw
  rw [HH.out]
  go_wp2_with fail
  refine (remove_any p most L r k _ H.out HK.out).mono ?_
  rintro e w2 ⟨rfl, hn2, hs2⟩
  have hsz1 : w.heap.size < (w.alloc (.cells Zr_msg 48)).heap.size := by rw [World.size_alloc]; omega
  have hsz2 : w.heap.size < w2.heap.size := Nat.lt_of_lt_of_le hsz1 hs2.size
  have hne1 : w.heap.size ≠ p := by have := HP.out; omega
  have hne2 : some w.heap.size ≠ r := fun e => by have := HRL.out _ e.symm; omega
  have g2 : w2.heap[w.heap.size]? = some (.cells Zr_msg 48 (0, 0)) := (hs2.block _ hsz1 hne1 hne2).trans g0.out
  have hx2 : Pkt w2 p r (pa, pn, pc) l := HX.out.kept hs2.size (fun k hk hp hr => hs2.block k hk hp (fun e => hr e.symm))
  have HX2 := hidOf hx2
  have HN2 := hidOf hn2
  have HS2 := hidOf hs2
  have HG2 := hidOf g2
  have HNE1 := hidOf hne1
  have HNE2 := hidOf hne2
  have HSZ2 := hidOf hsz2
  clear hn2 hs2 hx2 g2 hne1 hne2 hsz1 hsz2 g0 HX H
  go_wp2_with fail
  refine (getv_msg pa pn pc l w2 HX2.out.1 HX2.out.2.1 HX2.out.2.2.1 (fun y hy => (HX2.out.2.2.2 y hy).2.2.1)).mono ?_
  rintro e w3 ⟨cl, vv, he, hrep, hval, hB3⟩
  have hcs : cl.toArray.size = Zr_msg.size := by rw [List.size_toArray, hrep.len]; kernel_rfl
  have HRE : Hid (Rep w3 (NBr (w.heap.size + 1) w3) F_msg cl vv) := hrep.keptN (Nat.le_refl _) (fun _ _ _ => rfl) HSZ2.out
  have HVAL := hidOf hval
  have HCO : Hid (cl.toArray.all (·.oneCell') = true) := hrep.all
  have HN3 := hidOf (HN2.out.grow hB3)
  have HG3 := hidOf ((hB3.block _ HSZ2.out).trans HG2.out)
  have HNS3 := hidOf (((NS.of_below (p := p) (r := r) HB0.out).trans HS2.out).trans (NS.of_below hB3))
  have HSZ3 := hidOf (Nat.lt_of_lt_of_le HSZ2.out hB3.size)
  obtain ⟨cs, hcl⟩ : ∃ cs, Hid (cl.toArray = cs) := ⟨_, rfl⟩
  rw [hcl.out] at he hcs HCO
  have HCS := hidOf hcs
  have HCI : Hid ((Try.prog.info? 48).map (·.size) = some cs.size) := by show _ = _; rw [hcs]; exact Zr_msg_i
  obtain ⟨okb, hokb⟩ : ∃ okb, Hid (decide ((de F_msg (some l)).2 = some []) = okb) := ⟨_, rfl⟩
  rw [hokb.out] at he
  subst he
  clear hrep hval hcs hB3 HN2 HS2 HG2 HX2 HB0
  go_wp2_with (refine wpList_store_rowF rfl 48 (.tmp 4) (.tmp 24) rfl w.heap.size cs rfl rfl 48 Zr_msg HG3.out HCI.out HCS.out.symm HCO.out ?next)
  case next =>
    intro w4 hw4h
    have hw4 := hw4h.out
    have blk4 : ∀ b, b ≠ w.heap.size → w4.heap[b]? = w3.heap[b]? := fun b hb => by rw [hw4]; exact setRow_other _ _ _ _ hb
    have hsz4 : w4.heap.size = w3.heap.size := by rw [hw4]; simp [World.setRow]
    have g4 : Hid (w4.heap[w.heap.size]? = some (.cells cs 48 (0, 0))) := by
      show _ = _
      rw [hw4]; exact setRow_heap _ _ _ _ 48 _ HG3.out
    have os4 : w4.os = w3.os := by rw [hw4]; rfl
    have tp4 : w4.tape = w3.tape := by rw [hw4]; rfl
    have ou4 : w4.output = w3.output := by rw [hw4]; rfl
    have HRE4 : Hid (Rep w4 (NB w w4) F_msg cl vv) := HRE.out.keptN (by omega) (fun b h1 h2 => blk4 b (by omega)) (Nat.le_succ _)
    have HN4 := hidOf (HN3.out.kept1 (w' := w4) HG3.out (by decide) (fun e => HNE1.out e.symm) (fun e => HNE2.out e.symm) (fun k _ hk => blk4 k hk) (by omega))
    have hns := HNS3.out
    have HNS4 : Hid (NS w w4 p r r) := ⟨os4.trans hns.os, tp4.trans hns.tape, ou4.trans hns.output, by rw [hsz4]; exact hns.size, fun b hb hp hr => (blk4 b (by omega)).trans (hns.block b hb hp hr), .inl rfl⟩
    clear hw4 hw4h hns blk4 hsz4 os4 tp4 ou4
    go_wp2
    refine bodyPost_ret (v := .tuple #[.agg cs, .bool okb]) ?_ rfl ⟨cl, vv, by rw [hokb.out, hcl.out], HRE4.out, HVAL.out, HN4.out, HNS4.out⟩
    simp [results, Try.results10, asAddr, run_loadVar_row w4 w.heap.size 48 48 cs (0, 0) _ g4.out Try.underlying48 rfl HCI.out]

end Go.Proofs.Ytcdoejdbmllnnab
