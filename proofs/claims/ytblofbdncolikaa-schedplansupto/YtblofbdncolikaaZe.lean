/- What is to be filled: the code's empty. -/
import Derived.Test.YtblofbdncolikaaTk
import Derived.Test.YtblofbdncolikaaZd
namespace Go.Proofs.Ytblofbdncolikaa
open Go.RowKit Go.Shelf
def oZe_0 : Oper := { dst := some 21, op := Op.move (Operand.tmp 7), type := 4, pos := "diff.go:129", after := #[], guard := none }
def oZe_1 : Oper := { dst := some 22, op := Op.unOp UnOp.not 4 (Operand.tmp 21), type := 4, pos := "diff.go:129", after := #[{ on := 0, ground := Ground.data }], guard := none }
def oZe_2 : Oper := { dst := some 23, op := Op.move (Operand.tmp 22), type := 4, pos := "diff.go:129", after := #[{ on := 1, ground := Ground.data }], guard := none }
def oZe_3 : Oper := { dst := some 24, op := Op.load 85 (Operand.tmp 1), type := 85, pos := "diff.go:129", after := #[{ on := 2, ground := Ground.guard }], guard := some (2, true) }
def oZe_4 : Oper := { dst := some 25, op := Op.nilCheck (Operand.tmp 24), type := 0, pos := "diff.go:129", after := #[{ on := 3, ground := Ground.data }, { on := 2, ground := Ground.guard }], guard := some (2, true) }
def oZe_5 : Oper := { dst := some 26, op := Op.fieldAddr 93 (Operand.tmp 25) 3, type := 0, pos := "diff.go:129", after := #[{ on := 4, ground := Ground.data }, { on := 2, ground := Ground.guard }], guard := some (2, true) }
def oZe_6 : Oper := { dst := some 27, op := Op.load 90 (Operand.tmp 26), type := 90, pos := "diff.go:129", after := #[{ on := 5, ground := Ground.data }, { on := 2, ground := Ground.guard }], guard := some (2, true) }
def oZe_7 : Oper := { dst := some 28, op := Op.load 60 (Operand.tmp 5), type := 60, pos := "diff.go:129", after := #[{ on := 2, ground := Ground.guard }], guard := some (2, true) }
def oZe_8 : Oper := { dst := some 29, op := Op.lookup 90 (Operand.tmp 27) (Operand.tmp 28) false, type := 3, pos := "diff.go:129", after := #[{ on := 6, ground := Ground.data }, { on := 7, ground := Ground.data }, { on := 2, ground := Ground.guard }], guard := some (2, true) }
def oZe_9 : Oper := { dst := some 30, op := Op.binOp BinOp.eql 3 (Operand.tmp 29) (Operand.const (Value.int IntKind.i64 (-1))) 3, type := 4, pos := "diff.go:129", after := #[{ on := 8, ground := Ground.data }, { on := 2, ground := Ground.guard }], guard := some (2, true) }
def oZe_10 : Oper := { dst := some 31, op := Op.pick (Operand.tmp 23) (Operand.tmp 30) (Operand.const (Value.bool false)), type := 4, pos := "diff.go:129", after := #[{ on := 2, ground := Ground.data }, { on := 9, ground := Ground.data }], guard := none }
attribute [local go_sem] Oper.semAt_some
theorem info39 : (Try.prog.info? 60).map (fun i => (i.zero, i.size, i.bytes)) = some (some (.agg #[.int .i64 0, .int .i64 0]), 2, 16) := by kernel_rfl
theorem newS39 (w : World) (x : Int × Int) : ∀ (j : Nat) (u : Value), (sC x)[j]? = some u → (w.alloc (.cells #[.int .i64 x.1, .int .i64 x.2] 60)).cell? ((⟨w.heap.size, 0, none⟩ : Addr).add j) = some u := newN w (sC x) 60
theorem emV_len (d : Jb) (A : List Al) (L : List (Int × Int)) : (emV d A L).length ≤ L.length := List.length_filter_le _ _
theorem emV_yes (d : Jb) (A : List Al) (L : List (Int × Int)) (s : Int × Int) (h1 : ¬ s ∈ dnV d A) (h2 : hoV d A s = -1) : emV d A (L ++ [s]) = emV d A L ++ [s] := by
 unfold emV; rw [List.filter_append, List.filter_cons, if_pos (by simp [h1, h2])]; rfl
theorem emV_no (d : Jb) (A : List Al) (L : List (Int × Int)) (s : Int × Int) (h : s ∈ dnV d A ∨ ¬ hoV d A s = -1) : emV d A (L ++ [s]) = emV d A L := by
 unfold emV; rw [List.filter_append, List.filter_cons, if_neg (by simp; intro h1; rcases h with h | h; exact absurd h h1; exact h)]; simp
/- what holds between the rounds -/
def EmI (d : Jb) (A : List Al) (lo Bo : Nat) (O : Nat → Prop) (pre : List (Int × Int)) (W : World) : Prop :=
 ∃ a c, (∀ k, O k ↔ k = Bo ∨ (Value.slice a 0 0).ownBlock = some k) ∧ W.heap[Bo]? = some (.cells #[.slice a (emV d A pre).length c] 56 (0, 0)) ∧ W.ownsRow lo 60 2 (.slice a (emV d A pre).length c) (emV d A pre).length (fl sC (emV d A pre))
theorem own_same {w w' : World} {lo k n e : Nat} {a : Option Addr} {c : Nat} {xs : List Value} (h : w.ownsRow lo e k (.slice a n c) n xs) (hb : ∀ g, (Value.slice a 0 0).ownBlock = some g → w'.heap[g]? = w.heap[g]?) : w'.ownsRow lo e k (.slice a n c) n xs := by
 refine ⟨h.1, ?_⟩
 rcases h.2 with h3 | ⟨g, cap, cur, hv, hl, hg, rest⟩
 ·exact .inl h3
 ·refine .inr ⟨g, cap, cur, hv, hl, (hb g ?_).trans hg, rest⟩
  have := (Value.slice.inj hv).1
  rw [this]; rfl
theorem EmI.sup (d : Jb) (A : List Al) (lo Bo : Nat) : Sup (EmI d A lo Bo) := fun O pre A' B' hs hk _ => by
 obtain ⟨a, c, h1, h2, h3⟩ := hs
 exact ⟨a, c, h1, (hk _ ((h1 _).2 (.inl rfl))).trans h2, own_same h3 (fun g hg => hk g ((h1 g).2 (.inr hg)))⟩
theorem own_mono {w : World} {lo lo' k n e : Nat} {v : Value} {xs : List Value} (h : w.ownsRow lo e k v n xs) (hl : lo' ≤ lo) : w.ownsRow lo' e k v n xs := by
 refine ⟨h.1, ?_⟩
 rcases h.2 with h3 | ⟨g, cap, cur, hv, hl2, rest⟩
 ·exact .inl h3
 ·exact .inr ⟨g, cap, cur, hv, Nat.le_trans hl hl2, rest⟩
theorem ob_slice {a : Option Addr} {n c k : Nat} (h : (Value.slice a n c).ownBlock = some k) : (Value.slice a 0 0).ownBlock = some k := own_ob h
theorem ob_slice' {a : Option Addr} {n c k : Nat} (h : (Value.slice a 0 0).ownBlock = some k) : (Value.slice a n c).ownBlock = some k := by cases a with | none => cases h | some a => exact h
theorem own_slice {w : World} {lo k n e : Nat} {v : Value} {xs : List Value} (h : w.ownsRow lo e k v (n + 1) xs) : ∃ a c, v = .slice a (n + 1) c := by
 rcases h.2 with ⟨_, hn⟩ | ⟨g, cap, cur, rfl, _⟩
 ·omega
 ·exact ⟨_, _, rfl⟩
set_option maxRecDepth 100000 in
set_option maxHeartbeats 8000000 in
theorem empty_any {lo p hb sb : Nat} {d : Jb} {ga : Option Addr} {gc : Nat} {lb : Array Value} {aa : Option Addr} {ac : Nat} {A : List Al} {S : List (Int × Int)} {T : List Int} {ia : Option Addr} {ic : Nat} {w : World} (h : LkR lo p hb sb d ga gc lb aa ac A S T ia ic w) (hI : ItR p sb lo lb S w) (hbd : S.length * 16 ≤ 140737488355328) :
  Calls Try.prog 36 #[.pointer (some ⟨p, 0, none⟩)] w fun e w' => ∃ a c, e = .returned (.slice a (emV d A S).length c) ∧ w'.ownsRow w.heap.size 60 2 (.slice a (emV d A S).length c) (emV d A S).length (fl sC (emV d A S)) ∧ Below w.heap.size w w' := by
 obtain ⟨Q, w0, hseq, hkq, hq⟩ := hI
 have hne := h.ne
 obtain ⟨w2, hw2⟩ : ∃ w2, (w.alloc (.cells #[.pointer (some ⟨p, 0, none⟩)] 85)).alloc (.cells #[.slice none 0 0] 56) = w2 := ⟨_, rfl⟩
 have hB2 : Below w.heap.size w w2 := by rw [← hw2]; exact below2 w _ _
 have hz2 : w2.heap.size = w.heap.size + 2 := by rw [← hw2]; simp
 have hbP : w2.heap[w.heap.size]? = some (.cells #[.pointer (some ⟨p, 0, none⟩)] 85 (0, 0)) := by rw [← hw2]; exact ((below1 _ _).block _ (by simp)).trans (heap_alloc_new w _)
 have hbO : w2.heap[w.heap.size + 1]? = some (.cells #[.slice none 0 0] 56 (0, 0)) := by rw [← hw2]; have := heap_alloc_new (w.alloc (.cells #[.pointer (some ⟨p, 0, none⟩)] 85)) (.cells #[.slice none 0 0] 56); rw [World.size_alloc] at this; exact this
 have hL2 := h.bel hB2
 have cBp := (box_row hbP).1
 have lq2 : w.heap.size < w2.heap.size := by omega
 have HDN := hidOf (done_any p d ga gc lb aa ac A (some hb) (some sb) ia T.length ic w2 hL2.rg (heap_lt hL2.ce) hL2.fl)
 rw [← hw2] at cBp lq2 HDN
 refine (callsIn_wide (n := 3)).1 ?_
 refine callsIn_of_wp_marks Try.func36 rfl trivial ?_ rfl
 simp only [Try.ntmps36, List.size_toArray, List.length_cons, List.length_nil, Nat.reduceAdd, Nat.reduceSub, Array.replicate_succ, Array.replicate_zero, List.push_toArray, List.append_toArray, List.nil_append, List.cons_append]
 have HW2 := hidOf hw2
 clear hw2
 gi_wp2_with (refine ⟨trivial, ?_⟩; gi_at_call 53; refine (callsIn_wide.2 HDN.out).mono ?_; rw [HW2.out]; rintro e w3 ⟨rfl, hm3, hb3⟩; rw [hz2] at hm3; have HM3 := hidOf hm3; have HB3 := hidOf hb3; have hs3 := hb3.size; have c3 : (w3.alloc (.cells #[.map (some (w.heap.size + 2))] 113)).cell? ⟨w.heap.size, 0, none⟩ = some (.pointer (some ⟨p, 0, none⟩)) := (hb_cell ((below1 w3 _).mono hb3.size) (by omega)).trans ((hb_cell hb3 (by omega)).trans (box_row hbP).1); have c37 : (w3.alloc (.cells #[.map (some (w.heap.size + 2))] 113)).cell? ⟨p, 7, none⟩ = some (.func (.func 66) #[] lb) := ((hL2.bel hb3).bel (below1 w3 _)).rg 7 _ rfl; have l37 : p < (w3.alloc (.cells #[.map (some (w.heap.size + 2))] 113)).heap.size := heap_lt ((hL2.bel hb3).bel (below1 w3 _)).ce; have l30 : w.heap.size < w3.heap.size := (by omega); clear hm3 hb3)
 obtain ⟨W, hW⟩ : ∃ W, w3.alloc (.cells #[.map (some (w.heap.size + 2))] 113) = W := ⟨_, rfl⟩
 have hBW3 : Below w3.heap.size w3 W := by rw [← hW]; exact below1 _ _
 have hzW : W.heap.size = w3.heap.size + 1 := by rw [← hW]; simp
 have hbD : W.heap[w3.heap.size]? = some (.cells #[.map (some (w.heap.size + 2))] 113 (0, 0)) := by rw [← hW]; exact heap_alloc_new w3 _
 have hB2W : Below w2.heap.size w2 W := HB3.out.trans (hBW3.mono HB3.out.size)
 have hLW := hL2.bel hB2W
 have hBW : Below w.heap.size w W := hB2.trans (hB2W.mono hB2.size)
 have hMW := HM3.out.keep (hBW3.block (w.heap.size + 2) HM3.out.lt)
 have hmlt : w.heap.size + 2 < w3.heap.size := HM3.out.lt
 have hbPW := (hB2W.block w.heap.size (by omega)).trans hbP
 have hbOW := (hB2W.block (w.heap.size + 1) (by omega)).trans hbO
 rw [hW]
 clear hW c3 c37 l37 l30 HW2 cBp lq2 HDN
 obtain ⟨Bd, hBd⟩ : ∃ Bd, w3.heap.size = Bd := ⟨_, rfl⟩
 obtain ⟨Bo, hBo⟩ : ∃ Bo, w.heap.size + 1 = Bo := ⟨_, rfl⟩
 obtain ⟨Bp, hBp⟩ : ∃ Bp, w.heap.size = Bp := ⟨_, rfl⟩
 obtain ⟨dm, hdm⟩ : ∃ dm, w.heap.size + 2 = dm := ⟨_, rfl⟩
 rw [hBd, hdm] at hbD
 rw [hdm] at hMW
 rw [hBo] at hbOW
 rw [hBp] at hbPW
 rw [hBd, hBo, hdm, hBp]
 have hltw : ∀ k, LO p sb ia k → k < w.heap.size := h.lo_lt
 have hQlt : ∀ k, Q k → k < w.heap.size := fun k hk => by have := (hq k hk).1; omega
 clear hL2 HM3 hbP hbO hB2W
 refine wp_seqY (n := 3) (gf := 66) (lb := lb) rfl (enters_of Try.func66 (by kernel_rfl) rfl) (encs := eS) (K := Q) (S := S) (w0 := w0) (hseq _) (hkq.trans (Kq.bel hBW hQlt)) (fun _ => rfl)
  (EmI d A W.heap.size Bo) (fun _ _ _ => False) (EmI.sup d A W.heap.size Bo) (fun _ _ _ _ h _ _ => h) (fun k => k = Bo) (fun k hk => by omega) (fun k hk => by have := hQlt k hk; exact ⟨by omega, by omega⟩)
  ⟨none, 0, fun k => ⟨fun h => .inl h, fun h => h.elim id (fun h => by cases h)⟩, hbOW, ⟨rfl, .inl ⟨rfl, rfl⟩⟩⟩ ?round ?done ?stop
 case round =>
  intro l O1 pre x W4 C hlt hI hp hsz hC
  simp only [eS]
  gi_wp2
  refine hC _ _ (below1 _ _) (fun W2 hsm hs2 hrec hl1 hl2 hnl hF2 hI2 => ?_)
  clear hC hI
  obtain ⟨a2, c2, hO, hc2, ho2⟩ := hI2
  have hbx := box_new (wr := W4) (cs := [.int .i64 x.1, .int .i64 x.2]) (t := 60) (Below.refl _ _)
  have hbx2 := range_of hbx (hsm W4.heap.size (by omega))
  have cX0 : W2.cell? ⟨W4.heap.size, 0, none⟩ = some (.int .i64 x.1) := hbx2 0 _ rfl
  have cX1 : W2.cell? ⟨W4.heap.size, 1, none⟩ = some (.int .i64 x.2) := hbx2 1 _ rfl
  have lBX : W4.heap.size < W2.heap.size := lt_of_cell cX0
  obtain ⟨BX, hBX⟩ : ∃ BX, W4.heap.size = BX := ⟨_, rfl⟩
  have lBXW : W.heap.size ≤ BX := by omega
  rw [hBX] at cX0 cX1 lBX ⊢
  have hmem := mem_pre hp
  have hpl := pre_len hp
  have hlen := emV_len d A pre
  have HYES := hidOf (emV_yes d A pre x)
  have HNO := hidOf (emV_no d A pre x)
  obtain ⟨E, hE⟩ : ∃ E, emV d A pre = E := ⟨_, rfl⟩
  rw [hE] at hc2 ho2 hlen HYES HNO
  have hkeep : ∀ k, k < W.heap.size → k ≠ Bo → W2.heap[k]? = W.heap[k]? := fun k hk hn => hF2.same k hk hn
  have HL2 := hidOf (hLW.keep (w' := W2) (fun k hk => hkeep k (by have := hltw k hk; omega) (by have := hltw k hk; omega)) (fun k hk _ _ => hkeep k (by omega) (by omega)) hF2.size)
  obtain ⟨cBp, _, lBp⟩ := box_row ((hkeep Bp (by omega) (by omega)).trans hbPW)
  obtain ⟨cBd, _, lBd⟩ := box_row ((hkeep Bd (by omega) (by omega)).trans hbD)
  obtain ⟨cBo, fBo, lBo⟩ := box_row hc2
  have HMD := hidOf (hMW.keep (hkeep dm (by omega) (by omega)))
  have hlk := unP_look HMD.out x.1 x.2
  have HC := hidOf hc2
  have HO := hidOf hO
  have HOW := hidOf ho2
  have HLT := hidOf (show ∀ k, O1 k → k < W2.heap.size from fun k hk => by have := hlt k hk; omega)
  have HSW := hidOf hF2.size
  have HKEEP : Hid (∀ Y, Below W2.heap.size W2 Y → emV d A (pre ++ [x]) = E → ∃ O', Frm O1 O' W2 Y ∧ EmI d A W.heap.size Bo O' (pre ++ [x]) Y) := hidOf fun Y hY he => ⟨O1, Frm.bel HLT.out hY, by
   refine ⟨a2, c2, HO.out, ?_, ?_⟩
   ·rw [he]; exact (hY.block Bo lBo).trans HC.out
   ·rw [he]; exact own_same HOW.out (fun g hg => hY.block g ((own_blk2 HOW.out g (ob_slice' hg)).2))⟩
  clear hbx hbx2 hsm hO hlt hp hs2 hF2 hc2 ho2 hE hrec hkeep
  by_cases hdn : (x.1, x.2) ∈ dnV d A
  ·rw [decide_eq_true hdn] at hlk
   have HRT : Hid (∀ Y, Below W2.heap.size W2 Y → ∃ O', Frm O1 O' W2 Y ∧ EmI d A W.heap.size Bo O' (pre ++ [x]) Y) := hidOf fun Y hY => HKEEP.out Y hY (HNO.out (.inl hdn))
   clear HKEEP HNO HYES hdn
   gi_upto_region 6 with (fail)
   have HY1 := hidOf ((below1 W2 (.cells #[] 115)).trans ((bdrew (W2.alloc (.cells #[] 115))).mono (below1 W2 (.cells #[] 115)).size))
   refine wpIn_held_rnd (S := fun (_Y : World) => True) (by kernel_rfl) (fun hh => by obtain ⟨_, _, hh⟩ := hh; exact hh) (by kernel_rfl) trivial (fun hHeld => ?_)
   refine tkH 0 oZe_0 21 (.bool true) hHeld (by intro w hS; dsimp only [oZe_0] at hS ⊢; go_simp) ?_
   try simp only [pA, pC, pD]
   refine tkH 1 oZe_1 22 (.bool false) hHeld (by intro w hS; dsimp only [oZe_1] at hS ⊢; go_simp) ?_
   try simp only [pA, pC, pD]
   refine tkH 2 oZe_2 23 (.bool false) hHeld (by intro w hS; dsimp only [oZe_2] at hS ⊢; go_simp) ?_
   try simp only [pA, pC, pD]
   refine tkN 3 oZe_3 24 hHeld ?_
   try simp only [pA, pC, pD]
   refine tkN 4 oZe_4 25 hHeld ?_
   try simp only [pA, pC, pD]
   refine tkN 5 oZe_5 26 hHeld ?_
   try simp only [pA, pC, pD]
   refine tkN 6 oZe_6 27 hHeld ?_
   try simp only [pA, pC, pD]
   refine tkN 7 oZe_7 28 hHeld ?_
   try simp only [pA, pC, pD]
   refine tkN 8 oZe_8 29 hHeld ?_
   try simp only [pA, pC, pD]
   refine tkN 9 oZe_9 30 hHeld ?_
   try simp only [pA, pC, pD]
   refine tkH 10 oZe_10 31 (.bool false) hHeld (by intro w hS; dsimp only [oZe_10] at hS ⊢; go_simp) ?_
   try simp only [pA, pC, pD]
   refine wpAnyH_done (by kernel_rfl) ?_ _
   gi_wp2
   exact HRT.out _ HY1.out
  ·rw [decide_eq_false hdn] at hlk
   have HY0 := hidOf (below1 W2 (.cells #[] 115))
   have HY1 := hidOf ((below1 W2 (.cells #[] 115)).trans ((bdrew (W2.alloc (.cells #[] 115))).mono (below1 W2 (.cells #[] 115)).size))
   gi_upto_region 6 with (fail)
   clear hlk
   obtain ⟨vv, hvv⟩ : ∃ vv, hoV d A x = vv := ⟨_, rfl⟩
   have hvv2 : fiK (slB d.id x.1 x.2) A A.length = vv := hvv
   have HLK : Hid (∀ Y, MpR Y hb kS (hoK d.id S A A.length) → (Instr.lookup 90 (.map (some hb)) (.agg #[.int .i64 x.1, .int .i64 x.2]) false).run Try.prog Y = .ok (.int .i64 vv) Y) := hidOf fun Y h => by
    have hlk := hoK_look h x.1 x.2 false
    rw [if_neg (by simp), if_pos hmem, hvv2] at hlk
    exact hlk
   by_cases hv1 : vv = -1
   ·have hq1 : (vv == -1) = true := by simp [hv1]
    have HEM := hidOf (HYES.out hdn (hvv.trans hv1))
    clear HKEEP HNO HYES hdn hvv hvv2 hv1
    refine wpIn_held_rnd (S := fun (Y : World) => Y.cell? ⟨Bp, 0, none⟩ = some (.pointer (some ⟨p, 0, none⟩)) ∧ Y.cell? ⟨p, 9, none⟩ = some (.map (some hb)) ∧ Y.cell? ⟨BX, 0, none⟩ = some (.int .i64 x.1) ∧ Y.cell? ⟨BX, 1, none⟩ = some (.int .i64 x.2) ∧ MpR Y hb kS (hoK d.id S A A.length)) (by kernel_rfl) (fun hh => by obtain ⟨_, _, hh⟩ := hh; exact hh) (by kernel_rfl) ⟨(hb_cell HY0.out lBp).trans cBp, (HL2.out.bel HY0.out).rg 9 _ rfl, (hb_cell HY0.out lBX).trans cX0, (hb_cell HY0.out lBX).trans cX1, (HL2.out.bel HY0.out).ho⟩ (fun hHeld => ?_)
    refine tkH 0 oZe_0 21 (.bool false) hHeld (by intro w hS; dsimp only [oZe_0] at hS ⊢; go_simp) ?_
    try simp only [pA, pC, pD]
    refine tkH 1 oZe_1 22 (.bool true) hHeld (by intro w hS; dsimp only [oZe_1] at hS ⊢; go_simp) ?_
    try simp only [pA, pC, pD]
    refine tkH 2 oZe_2 23 (.bool true) hHeld (by intro w hS; dsimp only [oZe_2] at hS ⊢; go_simp) ?_
    try simp only [pA, pC, pD]
    refine tkH 3 oZe_3 24 (.pointer (some ⟨p, 0, none⟩)) hHeld (by intro w hS; dsimp only [oZe_3] at hS ⊢; go_simp) ?_
    try simp only [pA, pC, pD]
    refine tkH 4 oZe_4 25 (.pointer (some ⟨p, 0, none⟩)) hHeld (by intro w hS; dsimp only [oZe_4] at hS ⊢; go_simp) ?_
    try simp only [pA, pC, pD]
    refine tkH 5 oZe_5 26 (.pointer (some ⟨p, 9, none⟩)) hHeld (by intro w hS; dsimp only [oZe_5] at hS ⊢; go_simp) ?_
    try simp only [pA, pC, pD]
    refine tkH 6 oZe_6 27 (.map (some hb)) hHeld (by intro w hS; dsimp only [oZe_6] at hS ⊢; go_simp) ?_
    try simp only [pA, pC, pD]
    refine tkH 7 oZe_7 28 (.agg #[.int .i64 x.1, .int .i64 x.2]) hHeld (by intro w hS; dsimp only [oZe_7] at hS ⊢; go_simp) ?_
    try simp only [pA, pC, pD]
    refine wpAnyH_take (i := 8) (oi := { dst := some 29, op := Op.lookup 90 (Operand.tmp 27) (Operand.tmp 28) false, type := 3, pos := "diff.go:129", after := #[{ on := 6, ground := Ground.data }, { on := 7, ground := Ground.data }, { on := 2, ground := Ground.guard }], guard := some (2, true) }) (v := .int .i64 vv) rfl (by kernel_rfl) (by kernel_rfl) (by kernel_rfl) (fun _ _ _ h => h) (Or.inl ⟨by rfl, ?_⟩) hHeld ?_
    ·(intro Y hSw; have hlk := HLK.out Y hSw.2.2.2.2; clear hSw; go_simp)
    try simp only [Act.put, List.setIfInBounds_toArray, List.set_cons_zero, List.set_cons_succ]
    refine tkH 9 oZe_9 30 (.bool true) hHeld (by intro w hS; dsimp only [oZe_9] at hS ⊢; go_simp) ?_
    try simp only [pA, pC, pD]
    refine tkH 10 oZe_10 31 (.bool true) hHeld (by intro w hS; dsimp only [oZe_10] at hS ⊢; go_simp) ?_
    try simp only [pA, pC, pD]
    refine wpAnyH_done (by kernel_rfl) ?_ _
    obtain ⟨w5, hw5⟩ : ∃ w5, (W2.alloc (.cells #[] 115)).drew = w5 := ⟨_, rfl⟩
    rw [hw5] at HY1 ⊢
    clear hw5
    have hs5 := HY1.out.size
    have k0 := (hb_cell HY1.out (o := 0) lBX).trans cX0
    have k1 := (hb_cell HY1.out (o := 1) lBX).trans cX1
    have kX : BX < w5.heap.size := by omega
    have kO := (hb_cell HY1.out (o := 0) lBo).trans cBo
    have lO : Bo < w5.heap.size := by omega
    have hblk := own_blk2 HOW.out
    have hB6 := below1 w5 (.cells #[.int .i64 x.1, .int .i64 x.2] 60)
    have HOW6 := hidOf (own_kept HOW.out (w' := w5.alloc (.cells #[.int .i64 x.1, .int .i64 x.2] 60)) (fun b h1 hb => (hB6.block b (by omega)).trans (HY1.out.block b hb)))
    have HB6 := hidOf (hB6)
    have HML := hidOf (show E.length + 1 ≤ maxLen by unfold maxLen; omega)
    have HBY := hidOf (show (E.length + 1) * 16 ≤ 140737488355328 by omega)
    have HBS := hidOf (show W.heap.size ≤ (w5.alloc (.cells #[.int .i64 x.1, .int .i64 x.2] 60)).heap.size by have := HSW.out; simp; omega)
    have HCO := hidOf ((HB6.out.block Bo lO).trans ((HY1.out.block Bo lBo).trans HC.out))
    have HBO := hidOf (show Bo < W.heap.size by omega)
    obtain ⟨i39, hi, hz, e1, e2⟩ := info_parts info39
    have HI39 := hidOf hi
    have HZ39 := hidOf hz
    have HE1 := hidOf e1
    have HE2 := hidOf e2
    have HBK := hidOf hblk
    clear hB6 cX0 cX1 cBo cBp cBd fBo hi hz e1 e2 hblk
    gi_wp2_with (gi_at_builtin; refine wpListIn_append_own_at (P := Try.prog) _ rfl _ _ 56 rfl W.heap.size 60 i39 _ 2 16 Try.underlying56 HI39.out HZ39.out HE1.out HE2.out rfl (by decide) (.slice a2 E.length c2) E.length (fl sC E) rfl HOW6.out ⟨w5.heap.size, 0, none⟩ 1 1 (sC x) rfl rfl (newS39 w5 x) (sC_one x) HML.out HBY.out HBS.out ?_; intro v' w7 ho7 hg7 _ hob; obtain ⟨a7, c7, hv7⟩ := own_slice ho7; subst hv7; have HO7 := hidOf ho7; have HG7 := hidOf hg7; have HOB := hidOf hob; have HC7 := hidOf ((hg7.block Bo (Nat.lt_of_lt_of_le lO HB6.out.size) (fun e => by have := (HBK.out Bo e.symm).1; have := HBO.out; omega)).trans HCO.out); obtain ⟨cB7, fB7, lB7⟩ := box_row HC7.out; clear ho7 hg7 hob)
    have hs7 := HG7.out.size
    have hz6 : (w5.alloc (.cells #[.int .i64 x.1, .int .i64 x.2] 60)).heap.size = w5.heap.size + 1 := by simp
    have hbk7 := own_blk2 HO7.out
    have hBel : Below 0 W2 (w7.setCell ⟨Bo, 0, none⟩ (.slice a7 (E.length + 1) c7)) := (((HY1.out.mono (Nat.zero_le _)).trans (HB6.out.mono (Nat.zero_le _))).grown HG7.out (Nat.zero_le _) (fun _ _ => Nat.zero_le _)).setCell (p := ⟨Bo, 0, none⟩) (Nat.zero_le _) _
    refine ⟨fun k => k = Bo ∨ (Value.slice a7 0 0).ownBlock = some k, ⟨fun k hk => ?_, fun k hk ho => ?_, by simp; omega, fun k hk => ?_, hBel.os, hBel.tape, hBel.output⟩, a7, c7, fun _ => Iff.rfl, ?_, ?_⟩
    ·rcases hk with h1 | h1
     ·exact .inl ((HO.out k).2 (.inl h1))
     ·rcases HOB.out with h2 | h2
      ·rw [ob_slice' h1] at h2
       exact .inl ((HO.out k).2 (.inr (ob_slice h2.symm)))
      ·rw [ob_slice' h1] at h2
       have := Option.some.inj h2
       exact .inr (by omega)
    ·refine (heap_setCell_other w7 ⟨Bo, 0, none⟩ k _ (fun e => ho ((HO.out k).2 (.inl e)))).trans ((HG7.out.block k (by omega) (fun e => ho ((HO.out k).2 (.inr (ob_slice e.symm))))).trans ((HB6.out.block k (by omega)).trans (HY1.out.block k hk)))
    ·rcases hk with h1 | h1
     ·rw [h1]; simpa using lB7
     ·have := (hbk7 k (ob_slice' h1)).2; simpa using this
    ·rw [HEM.out, List.length_append]
     exact box_set HC7.out
    ·rw [HEM.out, List.length_append, fl_snoc]
     exact own_same HO7.out (fun g hg => heap_setCell_other w7 ⟨Bo, 0, none⟩ g _ (fun e => by have := (hbk7 g (ob_slice' hg)).1; have := HBO.out; have e2 : g = Bo := e; omega))
   ·have hq1 : (vv == -1) = false := by simp [hv1]
    have HRT : Hid (∀ Y, Below W2.heap.size W2 Y → ∃ O', Frm O1 O' W2 Y ∧ EmI d A W.heap.size Bo O' (pre ++ [x]) Y) := hidOf fun Y hY => HKEEP.out Y hY (HNO.out (.inr (by rw [hvv]; exact hv1)))
    clear HKEEP HNO HYES hdn hvv hvv2 hv1
    refine wpIn_held_rnd (S := fun (Y : World) => Y.cell? ⟨Bp, 0, none⟩ = some (.pointer (some ⟨p, 0, none⟩)) ∧ Y.cell? ⟨p, 9, none⟩ = some (.map (some hb)) ∧ Y.cell? ⟨BX, 0, none⟩ = some (.int .i64 x.1) ∧ Y.cell? ⟨BX, 1, none⟩ = some (.int .i64 x.2) ∧ MpR Y hb kS (hoK d.id S A A.length)) (by kernel_rfl) (fun hh => by obtain ⟨_, _, hh⟩ := hh; exact hh) (by kernel_rfl) ⟨(hb_cell HY0.out lBp).trans cBp, (HL2.out.bel HY0.out).rg 9 _ rfl, (hb_cell HY0.out lBX).trans cX0, (hb_cell HY0.out lBX).trans cX1, (HL2.out.bel HY0.out).ho⟩ (fun hHeld => ?_)
    refine tkH 0 oZe_0 21 (.bool false) hHeld (by intro w hS; dsimp only [oZe_0] at hS ⊢; go_simp) ?_
    try simp only [pA, pC, pD]
    refine tkH 1 oZe_1 22 (.bool true) hHeld (by intro w hS; dsimp only [oZe_1] at hS ⊢; go_simp) ?_
    try simp only [pA, pC, pD]
    refine tkH 2 oZe_2 23 (.bool true) hHeld (by intro w hS; dsimp only [oZe_2] at hS ⊢; go_simp) ?_
    try simp only [pA, pC, pD]
    refine tkH 3 oZe_3 24 (.pointer (some ⟨p, 0, none⟩)) hHeld (by intro w hS; dsimp only [oZe_3] at hS ⊢; go_simp) ?_
    try simp only [pA, pC, pD]
    refine tkH 4 oZe_4 25 (.pointer (some ⟨p, 0, none⟩)) hHeld (by intro w hS; dsimp only [oZe_4] at hS ⊢; go_simp) ?_
    try simp only [pA, pC, pD]
    refine tkH 5 oZe_5 26 (.pointer (some ⟨p, 9, none⟩)) hHeld (by intro w hS; dsimp only [oZe_5] at hS ⊢; go_simp) ?_
    try simp only [pA, pC, pD]
    refine tkH 6 oZe_6 27 (.map (some hb)) hHeld (by intro w hS; dsimp only [oZe_6] at hS ⊢; go_simp) ?_
    try simp only [pA, pC, pD]
    refine tkH 7 oZe_7 28 (.agg #[.int .i64 x.1, .int .i64 x.2]) hHeld (by intro w hS; dsimp only [oZe_7] at hS ⊢; go_simp) ?_
    try simp only [pA, pC, pD]
    refine wpAnyH_take (i := 8) (oi := { dst := some 29, op := Op.lookup 90 (Operand.tmp 27) (Operand.tmp 28) false, type := 3, pos := "diff.go:129", after := #[{ on := 6, ground := Ground.data }, { on := 7, ground := Ground.data }, { on := 2, ground := Ground.guard }], guard := some (2, true) }) (v := .int .i64 vv) rfl (by kernel_rfl) (by kernel_rfl) (by kernel_rfl) (fun _ _ _ h => h) (Or.inl ⟨by rfl, ?_⟩) hHeld ?_
    ·(intro Y hSw; have hlk := HLK.out Y hSw.2.2.2.2; clear hSw; go_simp)
    try simp only [Act.put, List.setIfInBounds_toArray, List.set_cons_zero, List.set_cons_succ]
    refine tkH 9 oZe_9 30 (.bool false) hHeld (by intro w hS; dsimp only [oZe_9] at hS ⊢; go_simp) ?_
    try simp only [pA, pC, pD]
    refine tkH 10 oZe_10 31 (.bool false) hHeld (by intro w hS; dsimp only [oZe_10] at hS ⊢; go_simp) ?_
    try simp only [pA, pC, pD]
    refine wpAnyH_done (by kernel_rfl) ?_ _
    gi_wp2
    exact HRT.out _ HY1.out
 case done =>
  intro D O' W3 hD hnD hF hI hdef
  obtain ⟨a3, c3, hO, hc, ho⟩ := hI
  obtain ⟨cBo, _, lBo⟩ := box_row hc
  have HF := hidOf hF
  have HOW := hidOf ho
  have HDF := hidOf hdef
  have HO := hidOf hO
  have hs3 := hF.size
  clear hF ho hdef hO hc
  gi_wp2
  refine ⟨by simp, .inl ⟨_, _, rfl, run_takeDeferred HDF.out, ?_⟩⟩
  have hB3 : Below w.heap.size w W3 := hBW.trans (HF.out.below (by omega) (fun k hk h => by omega))
  refine ⟨_, results_tmp rfl _ _ _, a3, c3, rfl, own_mono (own_same HOW.out (fun g hg => put_same _ (fun e => hnD ((HO.out D).2 (.inr (by rw [← e]; exact hg)))))) (by omega), hB3.trans (belowK_b (w := w) (Nat.le_refl _) W3 D _ _ (by omega) HDF.out rfl rfl)⟩
 case stop =>
  intro D O' pre W _ _ _ _ h
  exact h.elim
end Go.Proofs.Ytblofbdncolikaa
