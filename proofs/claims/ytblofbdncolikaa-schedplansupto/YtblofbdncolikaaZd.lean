/- A change rolls: the code's roll. -/
import Derived.Test.YtblofbdncolikaaTk
import Derived.Test.YtblofbdncolikaaZc
import Derived.Sort.CutIn
namespace Go.Proofs.Ytblofbdncolikaa
open Go.RowKit Go.Shelf
def oZd_0 : Oper := { dst := some 21, op := Op.load 3 (Operand.tmp 2), type := 3, pos := "diff.go:101", after := #[], guard := none }
def oZd_1 : Oper := { dst := some 22, op := Op.load 85 (Operand.tmp 1), type := 85, pos := "diff.go:101", after := #[], guard := none }
def oZd_2 : Oper := { dst := some 23, op := Op.nilCheck (Operand.tmp 22), type := 0, pos := "diff.go:101", after := #[{ on := 1, ground := Ground.data }], guard := none }
def oZd_3 : Oper := { dst := some 24, op := Op.fieldAddr 93 (Operand.tmp 23) 0, type := 0, pos := "diff.go:101", after := #[{ on := 2, ground := Ground.data }], guard := none }
def oZd_4 : Oper := { dst := some 25, op := Op.fieldAddr 51 (Operand.tmp 24) 3, type := 0, pos := "diff.go:101", after := #[{ on := 3, ground := Ground.data }], guard := none }
def oZd_5 : Oper := { dst := some 26, op := Op.load 3 (Operand.tmp 25), type := 3, pos := "diff.go:101", after := #[{ on := 4, ground := Ground.data }], guard := none }
def oZd_6 : Oper := { dst := some 27, op := Op.binOp BinOp.geq 3 (Operand.tmp 21) (Operand.tmp 26) 3, type := 4, pos := "diff.go:101", after := #[{ on := 0, ground := Ground.data }, { on := 5, ground := Ground.data }], guard := none }
def oZd_7 : Oper := { dst := some 28, op := Op.load 85 (Operand.tmp 1), type := 85, pos := "diff.go:104", after := #[], guard := none }
def oZd_8 : Oper := { dst := some 29, op := Op.nilCheck (Operand.tmp 28), type := 0, pos := "diff.go:104", after := #[{ on := 0, ground := Ground.data }], guard := none }
def oZd_9 : Oper := { dst := some 30, op := Op.fieldAddr 93 (Operand.tmp 29) 3, type := 0, pos := "diff.go:104", after := #[{ on := 1, ground := Ground.data }], guard := none }
def oZd_10 : Oper := { dst := some 31, op := Op.load 90 (Operand.tmp 30), type := 90, pos := "diff.go:104", after := #[{ on := 2, ground := Ground.data }], guard := none }
def oZd_11 : Oper := { dst := some 32, op := Op.load 60 (Operand.tmp 4), type := 60, pos := "diff.go:104", after := #[], guard := none }
def oZd_12 : Oper := { dst := some 33, op := Op.lookup 90 (Operand.tmp 31) (Operand.tmp 32) false, type := 3, pos := "diff.go:104", after := #[{ on := 3, ground := Ground.data }, { on := 4, ground := Ground.data }], guard := none }
def oZd_13 : Oper := { dst := some 5, op := Op.assign (Operand.tmp 33), type := 3, pos := "diff.go:104", after := #[{ on := 5, ground := Ground.data }, { on := 0, ground := Ground.phase }, { on := 1, ground := Ground.phase }, { on := 2, ground := Ground.phase }, { on := 3, ground := Ground.phase }, { on := 4, ground := Ground.phase }, { on := 5, ground := Ground.phase }], guard := none }
def oZd_14 : Oper := { dst := some 34, op := Op.load 85 (Operand.tmp 1), type := 85, pos := "diff.go:105", after := #[], guard := none }
def oZd_15 : Oper := { dst := some 35, op := Op.load 60 (Operand.tmp 4), type := 60, pos := "diff.go:105", after := #[], guard := none }
def oZd_16 : Oper := { dst := some 37, op := Op.move (Operand.tmp 36), type := 4, pos := "diff.go:105", after := #[{ on := 2, ground := Ground.data }, { on := 2, ground := Ground.chain }], guard := none }
def oZd_17 : Oper := { dst := some 38, op := Op.load 85 (Operand.tmp 1), type := 85, pos := "diff.go:105", after := #[{ on := 3, ground := Ground.guard }], guard := some (3, false) }
def oZd_18 : Oper := { dst := some 39, op := Op.nilCheck (Operand.tmp 38), type := 0, pos := "diff.go:105", after := #[{ on := 4, ground := Ground.data }, { on := 3, ground := Ground.guard }], guard := some (3, false) }
def oZd_19 : Oper := { dst := some 40, op := Op.fieldAddr 93 (Operand.tmp 39) 2, type := 0, pos := "diff.go:105", after := #[{ on := 5, ground := Ground.data }, { on := 3, ground := Ground.guard }], guard := some (3, false) }
def oZd_20 : Oper := { dst := some 41, op := Op.load 24 (Operand.tmp 40), type := 24, pos := "diff.go:105", after := #[{ on := 6, ground := Ground.data }, { on := 3, ground := Ground.guard }], guard := some (3, false) }
def oZd_21 : Oper := { dst := some 42, op := Op.move (Operand.tmp 5), type := 3, pos := "diff.go:105", after := #[{ on := 3, ground := Ground.guard }], guard := some (3, false) }
def oZd_22 : Oper := { dst := some 43, op := Op.indexAddr 24 (Operand.tmp 41) (Operand.tmp 42), type := 0, pos := "diff.go:105", after := #[{ on := 7, ground := Ground.data }, { on := 8, ground := Ground.data }, { on := 3, ground := Ground.guard }], guard := some (3, false) }
def oZd_23 : Oper := { dst := some 44, op := Op.fieldAddr 42 (Operand.tmp 43) 2, type := 0, pos := "diff.go:105", after := #[{ on := 9, ground := Ground.data }, { on := 3, ground := Ground.guard }], guard := some (3, false) }
def oZd_24 : Oper := { dst := some 45, op := Op.load 3 (Operand.tmp 44), type := 3, pos := "diff.go:105", after := #[{ on := 10, ground := Ground.data }, { on := 3, ground := Ground.guard }], guard := some (3, false) }
def oZd_25 : Oper := { dst := some 46, op := Op.load 85 (Operand.tmp 1), type := 85, pos := "diff.go:105", after := #[{ on := 3, ground := Ground.guard }], guard := some (3, false) }
def oZd_26 : Oper := { dst := some 47, op := Op.nilCheck (Operand.tmp 46), type := 0, pos := "diff.go:105", after := #[{ on := 12, ground := Ground.data }, { on := 3, ground := Ground.guard }], guard := some (3, false) }
def oZd_27 : Oper := { dst := some 48, op := Op.fieldAddr 93 (Operand.tmp 47) 0, type := 0, pos := "diff.go:105", after := #[{ on := 13, ground := Ground.data }, { on := 3, ground := Ground.guard }], guard := some (3, false) }
def oZd_28 : Oper := { dst := some 49, op := Op.fieldAddr 51 (Operand.tmp 48) 5, type := 0, pos := "diff.go:105", after := #[{ on := 14, ground := Ground.data }, { on := 3, ground := Ground.guard }], guard := some (3, false) }
def oZd_29 : Oper := { dst := some 50, op := Op.load 3 (Operand.tmp 49), type := 3, pos := "diff.go:105", after := #[{ on := 15, ground := Ground.data }, { on := 3, ground := Ground.guard }], guard := some (3, false) }
def oZd_30 : Oper := { dst := some 51, op := Op.binOp BinOp.eql 3 (Operand.tmp 45) (Operand.tmp 50) 3, type := 4, pos := "diff.go:105", after := #[{ on := 11, ground := Ground.data }, { on := 16, ground := Ground.data }, { on := 3, ground := Ground.guard }], guard := some (3, false) }
def oZd_31 : Oper := { dst := some 52, op := Op.pick (Operand.tmp 37) (Operand.const (Value.bool true)) (Operand.tmp 51), type := 4, pos := "diff.go:105", after := #[{ on := 3, ground := Ground.data }, { on := 17, ground := Ground.data }], guard := none }
attribute [local go_sem] Oper.semAt_some
/- what of a look stands in the blocks that it owns -/
structure LkS (lo p hb sb : Nat) (d : Jb) (ga : Option Addr) (gc : Nat) (lb : Array Value) (aa : Option Addr) (ac : Nat) (A : List Al) (S : List (Int × Int)) (T : List Int) (ia : Option Addr) (ic : Nat) (w : World) : Prop where
 ce : w.heap[p]? = some (.cells (lkC d ga gc lb aa A.length ac (some hb) (some sb) ia T.length ic).toArray 93 (0, 0))
 st : MpR w sb kI (unS T)
 ro : w.ownsRow lo 3 1 (.slice ia T.length ic) T.length (fl iC (T.map (idA A)))
theorem LkR.s {lo p hb sb : Nat} {d : Jb} {ga : Option Addr} {gc : Nat} {lb : Array Value} {aa : Option Addr} {ac : Nat} {A : List Al} {S : List (Int × Int)} {T : List Int} {ia : Option Addr} {ic : Nat} {w : World} (h : LkR lo p hb sb d ga gc lb aa ac A S T ia ic w) : LkS lo p hb sb d ga gc lb aa ac A S T ia ic w := ⟨h.ce, h.st, h.ro⟩
theorem LkS.keep {lo p hb sb : Nat} {d : Jb} {ga : Option Addr} {gc : Nat} {lb : Array Value} {aa : Option Addr} {ac : Nat} {A : List Al} {S : List (Int × Int)} {T : List Int} {ia : Option Addr} {ic : Nat} {w w' : World} (h : LkS lo p hb sb d ga gc lb aa ac A S T ia ic w) (hb1 : ∀ k, LO p sb ia k → w'.heap[k]? = w.heap[k]?) : LkS lo p hb sb d ga gc lb aa ac A S T ia ic w' := by
 refine ⟨(hb1 p (.inl rfl)).trans h.ce, h.st.keep (hb1 sb (.inr (.inl rfl))), ⟨h.ro.1, ?_⟩⟩
 rcases h.ro.2 with h3 | ⟨g, cap, cur, hv, hl, hg, rest⟩
 ·exact .inl h3
 ·refine .inr ⟨g, cap, cur, hv, hl, (hb1 g (.inr (.inr ?_))).trans hg, rest⟩
  have := (Value.slice.inj hv).1
  rw [this]; rfl
theorem LkR.re {lo p hb sb : Nat} {d : Jb} {ga : Option Addr} {gc : Nat} {lb : Array Value} {aa : Option Addr} {ac : Nat} {A : List Al} {S : List (Int × Int)} {T T' : List Int} {ia ia' : Option Addr} {ic ic' : Nat} {w w' : World} (h : LkR lo p hb sb d ga gc lb aa ac A S T ia ic w) (hs : LkS lo p hb sb d ga gc lb aa ac A S T' ia' ic' w') (hb2 : ∀ k, k < lo → k ≠ p → k ≠ sb → w'.heap[k]? = w.heap[k]?) (hz : w.heap.size ≤ w'.heap.size) : LkR lo p hb sb d ga gc lb aa ac A S T' ia' ic' w' := by
 obtain ⟨n0, n1, n2, n3, n4, n5, n6⟩ := h.ne
 exact ⟨hs.ce, h.ho.keep (hb2 hb n5 (fun e => n1 e.symm) n2), hs.st, hs.ro, h.al.kept (fun b hb' => hb2 b hb'.1 hb'.2.1 hb'.2.2) (fun _ x => x), n0, n1, n2, n3, n4, n5, by omega⟩
theorem mvN_len (d : Jb) (A : List Al) (T : List Int) (L : List (Int × Int)) : mvN d A T L ≤ L.length := List.length_filter_le _ _
theorem mvN_yes (d : Jb) (A : List Al) (T : List Int) (L : List (Int × Int)) (s : Int × Int) (h : mvB d A T (hoV d A s) = true) : mvN d A T (L ++ [s]) = mvN d A T L + 1 := by
 unfold mvN; rw [List.filter_append, List.length_append, List.filter_cons, if_pos h]; rfl
theorem mvN_no (d : Jb) (A : List Al) (T : List Int) (L : List (Int × Int)) (s : Int × Int) (h : mvB d A T (hoV d A s) = false) : mvN d A T (L ++ [s]) = mvN d A T L := by
 unfold mvN; rw [List.filter_append, List.length_append, List.filter_cons, if_neg (by rw [h]; simp)]; rfl
theorem box_row {w : World} {k : Nat} {v : Value} {t : TypeId} (h : w.heap[k]? = some (.cells #[v] t (0, 0))) : w.cell? ⟨k, 0, none⟩ = some v ∧ w.frozen? ⟨k, 0, none⟩ = false ∧ k < w.heap.size := ⟨(cell_of_row w k 0 _ t (0, 0) h).trans rfl, frozen_of_row w k 0 _ t h, heap_lt h⟩
theorem box_set {w : World} {k : Nat} {v u : Value} {t : TypeId} (h : w.heap[k]? = some (.cells #[v] t (0, 0))) : (w.setCell ⟨k, 0, none⟩ u).heap[k]? = some (.cells #[u] t (0, 0)) := by
 rw [heap_setCell_same w k 0 _ t _ h]; simp
theorem mem_pre {α : Type} {pre S : List α} {x : α} (h : (pre ++ [x]) <+: S) : x ∈ S := h.subset (by simp)
theorem pre_len {α : Type} {pre S : List α} {x : α} (h : (pre ++ [x]) <+: S) : pre.length + 1 ≤ S.length := by have := h.length_le; simpa using this
theorem rlS_stay (d : Jb) (A : List Al) (z : List Int × Int) (s : Int × Int) (h : d.pa ≤ z.2) : rlS d A z s = z := by unfold rlS; rw [if_pos h]
theorem rlS_pass (d : Jb) (A : List Al) (z : List Int × Int) (s : Int × Int) (h0 : ¬ d.pa ≤ z.2) (h : mvB d A z.1 (hoV d A s) = true ∨ (alA A (hoV d A s)).ve = d.ve) : rlS d A z s = z := by unfold rlS; rw [if_neg h0, if_pos h]
theorem rlS_more (d : Jb) (A : List Al) (z : List Int × Int) (s : Int × Int) (h0 : ¬ d.pa ≤ z.2) (h1 : mvB d A z.1 (hoV d A s) = false) (h2 : ¬ (alA A (hoV d A s)).ve = d.ve) : rlS d A z s = (z.1 ++ [hoV d A s], z.2 + 1) := by unfold rlS; rw [if_neg h0, if_neg (fun h => h.elim (fun e => by rw [h1] at e; cases e) h2)]
theorem rlV_hi (d : Jb) (A : List Al) (z : List Int × Int) (L : List (Int × Int)) : z.2 ≤ (rlV d A z L).2 ∧ (rlV d A z L).2 ≤ z.2 + L.length := by
 induction L generalizing z with
 | nil => exact ⟨Int.le_refl _, by simp [rlV]⟩
 | cons s L ih =>
  have h1 : rlV d A z (s :: L) = rlV d A (rlS d A z s) L := rfl
  have h2 := ih (rlS d A z s)
  have h3 : z.2 ≤ (rlS d A z s).2 ∧ (rlS d A z s).2 ≤ z.2 + 1 := by
   unfold rlS
   split
   ·omega
   ·split
    ·omega
    ·simp; omega
  rw [h1, List.length_cons]
  omega
/- what holds between the rounds of roll's second loop -/
def RlI (lo p hb sb : Nat) (d : Jb) (ga : Option Addr) (gc : Nat) (lb : Array Value) (aa : Option Addr) (ac : Nat) (A : List Al) (S : List (Int × Int)) (T : List Int) (n0 : Int) (Bm : Nat) (O : Nat → Prop) (pre : List (Int × Int)) (W : World) : Prop :=
 ∃ ia' ic', (∀ k, O k ↔ LO p sb ia' k ∨ k = Bm) ∧ ¬ LO p sb ia' Bm ∧ W.heap[Bm]? = some (.cells #[.int .i64 (rlV d A (T, n0) pre).2] 3 (0, 0)) ∧ LkS lo p hb sb d ga gc lb aa ac A S (rlV d A (T, n0) pre).1 ia' ic' W
theorem RlI.sup (lo p hb sb : Nat) (d : Jb) (ga : Option Addr) (gc : Nat) (lb : Array Value) (aa : Option Addr) (ac : Nat) (A : List Al) (S : List (Int × Int)) (T : List Int) (n0 : Int) (Bm : Nat) : Sup (RlI lo p hb sb d ga gc lb aa ac A S T n0 Bm) := fun O pre A' B' hs hk _ => by
 obtain ⟨ia', ic', h1, h0, h2, h3⟩ := hs
 exact ⟨ia', ic', h1, h0, (hk _ ((h1 _).2 (.inr rfl))).trans h2, h3.keep (fun k hk1 => hk k ((h1 k).2 (.inl hk1)))⟩
set_option maxRecDepth 100000 in
set_option maxHeartbeats 8000000 in
theorem roll_any {lo p hb sb : Nat} {d : Jb} {ga : Option Addr} {gc : Nat} {lb : Array Value} {aa : Option Addr} {ac : Nat} {A : List Al} {S : List (Int × Int)} {T : List Int} {ia : Option Addr} {ic : Nat} {w : World} (h : LkR lo p hb sb d ga gc lb aa ac A S T ia ic w) (hI : ItR p sb lo lb S w) (hbd : (T.length + S.length + 1) * 8 ≤ 140737488355328) :
  Calls Try.prog 35 #[.pointer (some ⟨p, 0, none⟩)] w fun e w' => e = .returned (.tuple #[]) ∧ ∃ ia' ic', LkR lo p hb sb d ga gc lb aa ac A S (rlV d A (T, (mvN d A T S : Int)) S).1 ia' ic' w' ∧ Frm (LO p sb ia) (LO p sb ia') w w' := by
 obtain ⟨Q, w0, hseq, hkq, hq⟩ := hI
 have hne := h.ne
 obtain ⟨n0, hn0⟩ : ∃ n0 : Int, (mvN d A T S : Int) = n0 := ⟨_, rfl⟩
 have hn0b : 0 ≤ n0 ∧ n0 ≤ S.length := by have := mvN_len d A T S; omega
 rw [hn0]
 have HN0 := hidOf hn0
 clear hn0
 obtain ⟨w2, hw2⟩ : ∃ w2, (w.alloc (.cells #[.pointer (some ⟨p, 0, none⟩)] 85)).alloc (.cells #[.int .i64 0] 3) = w2 := ⟨_, rfl⟩
 have hB2 : Below w.heap.size w w2 := by rw [← hw2]; exact below2 w _ _
 have hz2 : w2.heap.size = w.heap.size + 2 := by rw [← hw2]; simp
 have hbP : w2.heap[w.heap.size]? = some (.cells #[.pointer (some ⟨p, 0, none⟩)] 85 (0, 0)) := by rw [← hw2]; exact ((below1 _ _).block _ (by simp)).trans (heap_alloc_new w _)
 have hbM : w2.heap[w.heap.size + 1]? = some (.cells #[.int .i64 0] 3 (0, 0)) := by rw [← hw2]; have := heap_alloc_new (w.alloc (.cells #[.pointer (some ⟨p, 0, none⟩)] 85)) (.cells #[.int .i64 0] 3); rw [World.size_alloc] at this; exact this
 obtain ⟨cM1, fM1, lM1⟩ := box_row hbM
 have hL2 := h.bel hB2
 have l7 : w2.cell? ⟨p, 7, none⟩ = some (.func (.func 66) #[] lb) := hL2.rg 7 _ rfl
 have cBp := (box_row hbP).1
 have lp2 : p < w2.heap.size := heap_lt hL2.ce
 have lq2 : w.heap.size < w2.heap.size := by omega
 refine (callsIn_wide (n := 3)).1 ?_
 refine callsIn_of_wp_marks Try.func35 rfl trivial ?_ rfl
 simp only [Try.ntmps35, List.size_toArray, List.length_cons, List.length_nil, Nat.reduceAdd, Nat.reduceSub, Array.replicate_succ, Array.replicate_zero, List.push_toArray, List.append_toArray, List.nil_append, List.cons_append]
 rw [← hw2] at l7 cBp lp2 lq2 cM1 fM1 lM1
 have HW2 := hidOf hw2
 clear hw2
 gi_wp2
 rw [HW2.out] at l7 cBp lp2 lq2 ⊢
 clear HW2 cM1 fM1 lM1
 obtain ⟨Bp, hBp⟩ : ∃ Bp, w.heap.size = Bp := ⟨_, rfl⟩
 have hltw : ∀ k, LO p sb ia k → k < w.heap.size := h.lo_lt
 have hQlt : ∀ k, Q k → k < w.heap.size := fun k hk => by have := (hq k hk).1; omega
 obtain ⟨Bm, hBm⟩ : ∃ Bm, w.heap.size + 1 = Bm := ⟨_, rfl⟩
 rw [hBp] at hbP
 rw [hBm] at hbM
 rw [hBm, hBp]
 have hBmn : ∀ k, LO p sb ia k → k ≠ Bm := fun k hk => by have := hltw k hk; omega
 clear cBp
 refine wp_seqY (n := 3) (gf := 66) (lb := lb) rfl (enters_of Try.func66 (by kernel_rfl) rfl) (encs := eS) (K := Q) (S := S) (w0 := w0) (hseq _) (hkq.trans (Kq.bel hB2 hQlt)) (fun _ => rfl)
  (fun O pre W => (∀ k, O k ↔ k = Bm) ∧ W.heap[Bm]? = some (.cells #[.int .i64 (mvN d A T pre : Nat)] 3 (0, 0)))
  (fun _ _ _ => False)
  (fun O pre A B hs hk _ => ⟨hs.1, (hk _ ((hs.1 _).2 rfl)).trans hs.2⟩)
  (fun _ _ _ _ h _ _ => h) (fun k => k = Bm) (fun k hk => by omega) (fun k hk => by have := hQlt k hk; exact ⟨by omega, by omega⟩) ⟨fun _ => Iff.rfl, hbM⟩ ?round ?done ?stop
 case round =>
  intro l O1 pre x W C hlt hI hp hsz hC
  simp only [eS]
  gi_wp2
  refine hC _ _ (below1 _ _) (fun W2 hsm hs2 hrec hl1 hl2 hnl hF2 hI2 => ?_)
  clear hC hI
  obtain ⟨hO, hc⟩ := hI2
  have hbx := box_new (wr := W) (cs := [.int .i64 x.1, .int .i64 x.2]) (t := 60) (Below.refl _ _)
  have hbx2 := range_of hbx (hsm W.heap.size (by omega))
  have cX0 : W2.cell? ⟨W.heap.size, 0, none⟩ = some (.int .i64 x.1) := hbx2 0 _ rfl
  have cX1 : W2.cell? ⟨W.heap.size, 1, none⟩ = some (.int .i64 x.2) := hbx2 1 _ rfl
  have lBX : W.heap.size < W2.heap.size := lt_of_cell cX0
  obtain ⟨BX, hBX⟩ : ∃ BX, W.heap.size = BX := ⟨_, rfl⟩
  rw [hBX] at cX0 cX1 lBX ⊢
  have hkeep : ∀ k, k < w2.heap.size → k ≠ Bm → W2.heap[k]? = w2.heap[k]? := fun k hk hn => hF2.same k hk hn
  have HL2 := hidOf (hL2.keep (w' := W2) (fun k hk => hkeep k (by have := hltw k hk; omega) (hBmn k hk)) (fun k hk _ _ => hkeep k (by omega) (by omega)) hF2.size)
  have hbP2 := (hkeep Bp (by omega) (by omega)).trans hbP
  obtain ⟨cBp, _, lBp⟩ := box_row hbP2
  have HC := hidOf hc
  have HO := hidOf hO
  have hmem := mem_pre hp
  have hpl := pre_len hp
  have hml := mvN_len d A T pre
  have HLT := hidOf hlt
  have HS2 := hidOf hs2
  have HMS := hidOf (moves_l HL2.out x.1 x.2 hmem)
  have HYES := hidOf (mvN_yes d A T pre x)
  have HNO := hidOf (mvN_no d A T pre x)
  obtain ⟨nn, hnn⟩ : ∃ nn, mvN d A T pre = nn := ⟨_, rfl⟩
  rw [hnn] at HC HYES HNO hml
  have HZZ := hidOf (show W.heap.size ≤ W2.heap.size by have := hF2.size; simp only [World.size_alloc] at hs2; omega)
  clear hbx hbx2 hsm hO hlt hp hs2 hseq hF2 hc hkeep hbP2 hmem hnn hBX hbM hbP hrec l7
  cases hmv : mvB d A T (hoV d A x) with
  | true =>
   have HM1 := hidOf (HYES.out hmv)
   have hmv2 : mvB d A T (fiK (slB d.id x.1 x.2) A A.length) = true := hmv
   rw [hmv2] at HMS
   gi_wp2_with (refine ⟨trivial, ?_⟩; gi_at_call 52; refine (CallsIn.inRound _ (callsIn_wide.2 HMS.out)).mono ?_; rintro e w3 ⟨rfl, hb3⟩; have HB3 := hidOf hb3; have hc3 := hidOf ((hb3.block Bm (heap_lt HC.out)).trans HC.out); obtain ⟨cBm, fBm, lBm⟩ := box_row hc3.out; clear hb3)
   have hs3 := HB3.out.size
   refine ⟨O1, ⟨fun k h => .inl h, fun k hk ho => (heap_setCell_other w3 ⟨Bm, 0, none⟩ k _ (fun e => ho ((HO.out k).2 e))).trans (HB3.out.block k hk), by simp; omega, fun k hk => by have := HLT.out k hk; have := HZZ.out; simp; omega, HB3.out.os, HB3.out.tape, HB3.out.output⟩, HO.out, ?_⟩
   rw [HM1.out]
   have := box_set (u := .int .i64 ((nn : Int) + 1)) hc3.out
   simpa using this
  | false =>
   have HM1 := hidOf (HNO.out hmv)
   have hmv2 : mvB d A T (fiK (slB d.id x.1 x.2) A A.length) = false := hmv
   rw [hmv2] at HMS
   gi_wp2_with (refine ⟨trivial, ?_⟩; gi_at_call 52; refine (CallsIn.inRound _ (callsIn_wide.2 HMS.out)).mono ?_; rintro e w3 ⟨rfl, hb3⟩; have HB3 := hidOf hb3; have hc3 := hidOf ((hb3.block Bm (heap_lt HC.out)).trans HC.out); clear hb3)
   have hs3 := HB3.out.size
   refine ⟨O1, ⟨fun k h => .inl h, fun k hk ho => HB3.out.block k hk, by omega, fun k hk => by have := HLT.out k hk; have := HZZ.out; omega, HB3.out.os, HB3.out.tape, HB3.out.output⟩, HO.out, ?_⟩
   rw [HM1.out]
   exact hc3.out
 case done =>
  intro D O' W hD hnD hF hI hdef
  obtain ⟨hO, hc⟩ := hI
  have hkw : ∀ k, k < w2.heap.size → k ≠ Bm → W.heap[k]? = w2.heap[k]? := fun k hk hn => hF.same k hk hn
  have hLW := hL2.keep (w' := W) (fun k hk => hkw k (by have := hltw k hk; omega) (hBmn k hk)) (fun k hk _ _ => hkw k (by omega) (by omega)) hF.size
  have hKW : Kq Q w0 W := (hkq.trans (Kq.bel hB2 hQlt)).trans ⟨hF.size, fun k hk => hkw k (by have := hQlt k hk; omega) (by have := hQlt k hk; omega)⟩
  have hbPW := (hkw Bp (by omega) (by omega)).trans hbP
  obtain ⟨cBp, _, lBp⟩ := box_row hbPW
  have l7 : W.cell? ⟨p, 7, none⟩ = some (.func (.func 66) #[] lb) := hLW.rg 7 _ rfl
  have lpW : p < W.heap.size := heap_lt hLW.ce
  have hsW := hF.size
  have hnO : ∀ k, Q k → ¬ LO p sb ia k := fun k hk => h.lo_out (hq k hk).1 (hq k hk).2.1 (hq k hk).2.2
  rw [HN0.out] at hc
  have hwW : ∀ k, k < w.heap.size → W.heap[k]? = w.heap[k]? := fun k hk => (hkw k (by omega) (by omega)).trans (hB2.block k hk)
  have hwx : W.os = w.os ∧ W.tape = w.tape ∧ W.output = w.output := ⟨hF.ex.1.trans hB2.os, hF.ex.2.1.trans hB2.tape, hF.ex.2.2.trans hB2.output⟩
  clear hO hF hkw hL2 hbM hbP
  gi_wp2
  have FIN : ∀ (D2 : Nat) (O2 : Nat → Prop) (ia' : Option Addr) (ic' : Nat) (W3 : World), W.heap.size ≤ D2 → ¬ O2 D2 → Frm (fun k => LO p sb ia k ∨ k = Bm) O2 W W3 → (∀ k, O2 k ↔ LO p sb ia' k ∨ k = Bm) → LkS lo p hb sb d ga gc lb aa ac A S (rlV d A (T, n0) S).1 ia' ic' W3 → W3.heap[D2]? = some (.deferred (some [])) →
    (LkR lo p hb sb d ga gc lb aa ac A S (rlV d A (T, n0) S).1 ia' ic' W3 ∧ Frm (LO p sb ia) (LO p sb ia') w W3 ∧ ∀ E ∈ [D2, D], ¬ LO p sb ia' E ∧ w.heap.size ≤ E) ∧ [D2, D].Nodup ∧ ∀ E ∈ [D2, D], W3.heap[E]? = some (.deferred (some [])) := fun D2 O2 ia' ic' W3 hD2 hnD2 hF2 hO2 hS3 hdef2 => by
   have hlD := heap_lt hdef
   have hs3 := hF2.size
   have hDO : ¬ (LO p sb ia D ∨ D = Bm) := fun hh => hh.elim (fun h1 => by have := hltw D h1; omega) (fun h1 => by omega)
   refine ⟨⟨hLW.re hS3 (fun k hk h1 h2 => hF2.same k (by omega) (fun hh => hh.elim (hLW.lo_out hk h1 h2) (fun e => by omega))) hF2.size, ⟨fun k hk => ?_, fun k hk ho => (hF2.same k (by omega) (fun hh => hh.elim ho (fun e => by omega))).trans (hwW k hk), by omega, fun k hk => hF2.lt k ((hO2 k).2 (.inl hk)), hF2.ex.1.trans hwx.1, hF2.ex.2.1.trans hwx.2.1, hF2.ex.2.2.trans hwx.2.2⟩, fun E hE => ?_⟩, ?_, fun E hE => ?_⟩
   ·rcases hF2.sub k ((hO2 k).2 (.inl hk)) with (h1 | h1) | h1
    ·exact .inl h1
    ·exact .inr (by omega)
    ·exact .inr (by omega)
   ·simp only [List.mem_cons, List.not_mem_nil, or_false] at hE
    rcases hE with rfl | rfl
    ·exact ⟨fun h1 => hnD2 ((hO2 _).2 (.inl h1)), by omega⟩
    ·refine ⟨fun h1 => ?_, by omega⟩
     exact hF2.out hlD hDO ((hO2 _).2 (.inl h1))
   ·simp; omega
   ·simp only [List.mem_cons, List.not_mem_nil, or_false] at hE
    rcases hE with rfl | rfl
    ·exact hdef2
    ·exact (hF2.same _ hlD hDO).trans hdef
  have HFIN := hidOf FIN
  clear FIN hdef
  refine wp_seqY (n := 3) (gf := 66) (lb := lb) rfl (enters_of Try.func66 (by kernel_rfl) rfl) (encs := eS) (K := Q) (S := S) (w0 := w0) (hseq _) hKW (fun _ => rfl)
   (RlI lo p hb sb d ga gc lb aa ac A S T n0 Bm) (fun O pre W => RlI lo p hb sb d ga gc lb aa ac A S T n0 Bm O pre W ∧ d.pa ≤ (rlV d A (T, n0) pre).2) (RlI.sup lo p hb sb d ga gc lb aa ac A S T n0 Bm)
   (fun O pre A' B' hs hk hz => ⟨RlI.sup lo p hb sb d ga gc lb aa ac A S T n0 Bm O pre A' B' hs.1 hk hz, hs.2⟩) (fun k => LO p sb ia k ∨ k = Bm) (fun k hk => hk.elim (fun h1 => by have := hltw k h1; omega) (fun h1 => by omega)) (fun k hk => by have := hQlt k hk; exact ⟨fun hh => hh.elim (hnO k hk) (fun e => by omega), by omega⟩) ⟨ia, ic, fun _ => Iff.rfl, (fun hh => hBmn Bm hh rfl), hc, hLW.s⟩ ?round2 ?done2 ?stop2
  case round2 =>
   intro l O1 pre x W4 C hlt hI hp hsz hC
   simp only [eS]
   gi_wp2
   refine hC _ _ (below1 _ _) (fun W2 hsm hs2 hrec hl1 hl2 hnl hF2 hI2 => ?_)
   clear hC hI
   obtain ⟨ia2, ic2, hO, hBm3, hc2, hS5⟩ := hI2
   have hbx := box_new (wr := W4) (cs := [.int .i64 x.1, .int .i64 x.2]) (t := 60) (Below.refl _ _)
   have hbx2 := range_of hbx (hsm W4.heap.size (by omega))
   have cX0 : W2.cell? ⟨W4.heap.size, 0, none⟩ = some (.int .i64 x.1) := hbx2 0 _ rfl
   have cX1 : W2.cell? ⟨W4.heap.size, 1, none⟩ = some (.int .i64 x.2) := hbx2 1 _ rfl
   have lBX : W4.heap.size < W2.heap.size := lt_of_cell cX0
   obtain ⟨BX, hBX⟩ : ∃ BX, W4.heap.size = BX := ⟨_, rfl⟩
   rw [hBX] at cX0 cX1 lBX ⊢
   have hmem := mem_pre hp
   have hpl := pre_len hp
   have hlen := rlV_len d A (T, n0) pre
   have hhi := rlV_hi d A (T, n0) pre
   have HRL := hidOf (rlV_snoc d A (T, n0) pre x)
   obtain ⟨T2, nn, hz⟩ : ∃ T2 nn, rlV d A (T, n0) pre = (T2, nn) := ⟨_, _, rfl⟩
   rw [hz] at HRL hc2 hS5 hlen hhi
   dsimp only at hc2 hS5 hlen hhi
   have HL2 := hidOf (hLW.re hS5 (fun k hk h1 h2 => hF2.same k (by omega) (fun hh => hh.elim (hLW.lo_out hk h1 h2) (fun e => by omega))) hF2.size)
   have hBpO : ¬ (LO p sb ia Bp ∨ Bp = Bm) := fun hh => hh.elim (fun h1 => by have := hltw Bp h1; omega) (fun h1 => by omega)
   obtain ⟨cBp, _, lBp⟩ := box_row ((hF2.same Bp (by omega) hBpO).trans hbPW)
   obtain ⟨cBm, _, lBm⟩ := box_row hc2
   have HBT := hidOf (show (T2.length + 1) * 8 ≤ 140737488355328 by omega)
   have HC := hidOf hc2
   have HO := hidOf hO
   have HLT := hidOf (show ∀ k, O1 k → k < W2.heap.size from fun k hk => by have := hlt k hk; omega)
   -- the ways out: nothing more is written
   have HKEEP : Hid (∀ Y, Below W2.heap.size W2 Y → rlS d A (T2, nn) x = (T2, nn) → ∃ O', Frm O1 O' W2 Y ∧ RlI lo p hb sb d ga gc lb aa ac A S T n0 Bm O' (pre ++ [x]) Y) := hidOf fun Y hY he => ⟨O1, Frm.bel HLT.out hY, by
    refine ⟨ia2, ic2, HO.out, hBm3, ?_, ?_⟩
    ·rw [HRL.out, he]; exact (hY.block Bm lBm).trans HC.out
    ·rw [HRL.out, he]; exact (HL2.out.bel hY).s⟩
   have HRET : Hid (∀ Y, Below W2.heap.size W2 Y → d.pa ≤ nn → ∃ O', Frm O1 O' W2 Y ∧ (RlI lo p hb sb d ga gc lb aa ac A S T n0 Bm O' (pre ++ [x]) Y ∧ d.pa ≤ (rlV d A (T, n0) (pre ++ [x])).2)) := hidOf fun Y hY hpa => by
    obtain ⟨O', h1, h2⟩ := HKEEP.out Y hY (rlS_stay d A (T2, nn) x hpa)
    refine ⟨O', h1, h2, ?_⟩
    rw [HRL.out, rlS_stay d A (T2, nn) x hpa]; exact hpa
   clear hbx hbx2 hsm hO hlt hp hs2 hF2 hc2 hS5 hz hBX hrec hBpO
   gi_upto_region 8 with (fail)
   by_cases hpa : d.pa ≤ nn
   ·have hge : (decide (d.pa ≤ nn)) = true := by simp [hpa]
    refine wpIn_held_rnd (S := fun (Y : World) => Y.cell? ⟨Bm, 0, none⟩ = some (.int .i64 nn) ∧ Y.cell? ⟨Bp, 0, none⟩ = some (.pointer (some ⟨p, 0, none⟩)) ∧ Y.cell? ⟨p, 3, none⟩ = some (.int .i64 d.pa)) (by kernel_rfl) (fun hh => by obtain ⟨_, _, hh⟩ := hh; exact hh) (by kernel_rfl) ⟨(hb_cell (Below.refl _ _) lBm).trans cBm, (hb_cell (Below.refl _ _) lBp).trans cBp, (HL2.out.bel (Below.refl _ _)).rg 3 _ rfl⟩ (fun hHeld => ?_)
    refine tkH 0 oZd_0 21 (.int .i64 nn) hHeld (by intro w hS; dsimp only [oZd_0] at hS ⊢; go_simp) ?_
    try simp only [pA, pC, pD]
    refine tkH 1 oZd_1 22 (.pointer (some ⟨p, 0, none⟩)) hHeld (by intro w hS; dsimp only [oZd_1] at hS ⊢; go_simp) ?_
    try simp only [pA, pC, pD]
    refine tkH 2 oZd_2 23 (.pointer (some ⟨p, 0, none⟩)) hHeld (by intro w hS; dsimp only [oZd_2] at hS ⊢; go_simp) ?_
    try simp only [pA, pC, pD]
    refine tkH 3 oZd_3 24 (.pointer (some ⟨p, 0, none⟩)) hHeld (by intro w hS; dsimp only [oZd_3] at hS ⊢; go_simp) ?_
    try simp only [pA, pC, pD]
    refine tkH 4 oZd_4 25 (.pointer (some ⟨p, 3, none⟩)) hHeld (by intro w hS; dsimp only [oZd_4] at hS ⊢; go_simp) ?_
    try simp only [pA, pC, pD]
    refine tkH 5 oZd_5 26 (.int .i64 d.pa) hHeld (by intro w hS; dsimp only [oZd_5] at hS ⊢; go_simp) ?_
    try simp only [pA, pC, pD]
    refine tkH 6 oZd_6 27 (.bool true) hHeld (by intro w hS; dsimp only [oZd_6] at hS ⊢; go_simp) ?_
    try simp only [pA, pC, pD]
    refine wpAnyH_done (by kernel_rfl) ?_ _
    have HRT := hidOf (HRET.out W2.drew (bdrew W2) hpa)
    clear HRET HKEEP hpa
    gi_wp2
    exact HRT.out
   ·have hge : (decide (d.pa ≤ nn)) = false := by simp [hpa]
    have HPA := hidOf hpa
    refine wpIn_held_rnd (S := fun (Y : World) => Y.cell? ⟨Bm, 0, none⟩ = some (.int .i64 nn) ∧ Y.cell? ⟨Bp, 0, none⟩ = some (.pointer (some ⟨p, 0, none⟩)) ∧ Y.cell? ⟨p, 3, none⟩ = some (.int .i64 d.pa)) (by kernel_rfl) (fun hh => by obtain ⟨_, _, hh⟩ := hh; exact hh) (by kernel_rfl) ⟨(hb_cell (Below.refl _ _) lBm).trans cBm, (hb_cell (Below.refl _ _) lBp).trans cBp, (HL2.out.bel (Below.refl _ _)).rg 3 _ rfl⟩ (fun hHeld => ?_)
    refine tkH 0 oZd_0 21 (.int .i64 nn) hHeld (by intro w hS; dsimp only [oZd_0] at hS ⊢; go_simp) ?_
    try simp only [pA, pC, pD]
    refine tkH 1 oZd_1 22 (.pointer (some ⟨p, 0, none⟩)) hHeld (by intro w hS; dsimp only [oZd_1] at hS ⊢; go_simp) ?_
    try simp only [pA, pC, pD]
    refine tkH 2 oZd_2 23 (.pointer (some ⟨p, 0, none⟩)) hHeld (by intro w hS; dsimp only [oZd_2] at hS ⊢; go_simp) ?_
    try simp only [pA, pC, pD]
    refine tkH 3 oZd_3 24 (.pointer (some ⟨p, 0, none⟩)) hHeld (by intro w hS; dsimp only [oZd_3] at hS ⊢; go_simp) ?_
    try simp only [pA, pC, pD]
    refine tkH 4 oZd_4 25 (.pointer (some ⟨p, 3, none⟩)) hHeld (by intro w hS; dsimp only [oZd_4] at hS ⊢; go_simp) ?_
    try simp only [pA, pC, pD]
    refine tkH 5 oZd_5 26 (.int .i64 d.pa) hHeld (by intro w hS; dsimp only [oZd_5] at hS ⊢; go_simp) ?_
    try simp only [pA, pC, pD]
    refine tkH 6 oZd_6 27 (.bool false) hHeld (by intro w hS; dsimp only [oZd_6] at hS ⊢; go_simp) ?_
    try simp only [pA, pC, pD]
    refine wpAnyH_done (by kernel_rfl) ?_ _
    clear hpa hge
    have hrng := fiK_rng (slB d.id x.1 x.2) A A.length
    obtain ⟨vv, hvv⟩ : ∃ vv, hoV d A x = vv := ⟨_, rfl⟩
    have hvv2 : fiK (slB d.id x.1 x.2) A A.length = vv := hvv
    have HLK : Hid (∀ Y, MpR Y hb kS (hoK d.id S A A.length) → (Instr.lookup 90 (.map (some hb)) (.agg #[.int .i64 x.1, .int .i64 x.2]) false).run Try.prog Y = .ok (.int .i64 vv) Y) := hidOf fun Y h => by
     have hlk := hoK_look h x.1 x.2 false
     rw [if_neg (by simp), if_pos hmem, hvv2] at hlk
     exact hlk
    rw [hvv2] at hrng
    have HYD := hidOf (bdrew W2)
    gi_upto_region 9 with (fail)
    refine wpIn_held_rnd (S := fun (Y : World) => Y.cell? ⟨Bp, 0, none⟩ = some (.pointer (some ⟨p, 0, none⟩)) ∧ Y.cell? ⟨p, 9, none⟩ = some (.map (some hb)) ∧ Y.cell? ⟨BX, 0, none⟩ = some (.int .i64 x.1) ∧ Y.cell? ⟨BX, 1, none⟩ = some (.int .i64 x.2) ∧ MpR Y hb kS (hoK d.id S A A.length)) (by kernel_rfl) (fun hh => by obtain ⟨_, _, hh⟩ := hh; exact hh) (by kernel_rfl) ⟨(hb_cell HYD.out lBp).trans cBp, (HL2.out.bel HYD.out).rg 9 _ rfl, (hb_cell HYD.out lBX).trans cX0, (hb_cell HYD.out lBX).trans cX1, (HL2.out.bel HYD.out).ho⟩ (fun hHeld => ?_)
    refine tkH 0 oZd_7 28 (.pointer (some ⟨p, 0, none⟩)) hHeld (by intro w hS; dsimp only [oZd_7] at hS ⊢; go_simp) ?_
    try simp only [pA, pC, pD]
    refine tkH 1 oZd_8 29 (.pointer (some ⟨p, 0, none⟩)) hHeld (by intro w hS; dsimp only [oZd_8] at hS ⊢; go_simp) ?_
    try simp only [pA, pC, pD]
    refine tkH 2 oZd_9 30 (.pointer (some ⟨p, 9, none⟩)) hHeld (by intro w hS; dsimp only [oZd_9] at hS ⊢; go_simp) ?_
    try simp only [pA, pC, pD]
    refine tkH 3 oZd_10 31 (.map (some hb)) hHeld (by intro w hS; dsimp only [oZd_10] at hS ⊢; go_simp) ?_
    try simp only [pA, pC, pD]
    refine tkH 4 oZd_11 32 (.agg #[.int .i64 x.1, .int .i64 x.2]) hHeld (by intro w hS; dsimp only [oZd_11] at hS ⊢; go_simp) ?_
    try simp only [pA, pC, pD]
    refine wpAnyH_take (i := 5) (oi := { dst := some 33, op := Op.lookup 90 (Operand.tmp 31) (Operand.tmp 32) false, type := 3, pos := "diff.go:104", after := #[{ on := 3, ground := Ground.data }, { on := 4, ground := Ground.data }], guard := none }) (v := .int .i64 vv) rfl (by kernel_rfl) (by kernel_rfl) (by kernel_rfl) (fun _ _ _ h => h) (Or.inl ⟨by rfl, ?_⟩) hHeld ?_
    ·(intro Y hSw; have hlk := HLK.out Y hSw.2.2.2.2; clear hSw; go_simp)
    try simp only [Act.put, List.setIfInBounds_toArray, List.set_cons_zero, List.set_cons_succ]
    refine tkH 6 oZd_13 5 (.int .i64 vv) hHeld (by intro w hS; dsimp only [oZd_13] at hS ⊢; go_simp) ?_
    try simp only [pA, pC, pD]
    refine wpAnyH_done (by kernel_rfl) ?_ _
    have HYD2 := hidOf (HYD.out.trans ((bdrew W2.drew).mono HYD.out.size))
    have HYDD := hidOf (HYD2.out.trans ((bdrew W2.drew.drew).mono HYD2.out.size))
    have HMV := hidOf (moves_l (HL2.out.bel HYDD.out) x.1 x.2 hmem)
    rw [hvv2] at HMV
    gi_upto_region 10 with (fail)
    cases hmv : mvB d A T2 vv with
    | true =>
     rw [hmv] at HMV
     refine wpIn_held_rnd (S := fun (Y : World) => Y.cell? ⟨Bp, 0, none⟩ = some (.pointer (some ⟨p, 0, none⟩)) ∧ Y.cell? ⟨BX, 0, none⟩ = some (.int .i64 x.1) ∧ Y.cell? ⟨BX, 1, none⟩ = some (.int .i64 x.2)) (by kernel_rfl) (fun hh => by obtain ⟨_, _, hh⟩ := hh; exact hh) (by kernel_rfl) ⟨(hb_cell HYD2.out lBp).trans cBp, (hb_cell HYD2.out lBX).trans cX0, (hb_cell HYD2.out lBX).trans cX1⟩ (fun hHeld => ?_)
     refine tkH 0 oZd_14 34 (.pointer (some ⟨p, 0, none⟩)) hHeld (by intro w hS; dsimp only [oZd_14] at hS ⊢; go_simp) ?_
     try simp only [pA, pC, pD]
     refine tkH 1 oZd_15 35 (.agg #[.int .i64 x.1, .int .i64 x.2]) hHeld (by intro w hS; dsimp only [oZd_15] at hS ⊢; go_simp) ?_
     try simp only [pA, pC, pD]
     refine wpAnyH_ready (rs := [2]) (by kernel_rfl) (by simp) ?_
     refine AllReadyH.cons (o := { dst := some 36, op := Op.call { callee := Callee.value (Operand.func 52), args := #[Operand.tmp 34, Operand.tmp 35], argTypes := #[85, 60] }, type := 4, pos := "diff.go:105", after := #[{ on := 0, ground := Ground.data }, { on := 1, ground := Ground.data }], guard := none }) rfl (fun K hK => ?_) AllReadyH.nil
     go_simp
     refine HMV.out.mono ?_
     rintro e w3 ⟨rfl, hb3⟩
     have HY3 := hidOf (HYDD.out.trans (hb3.mono HYDD.out.size))
     clear hb3
     refine hK.out _ _ ⟨(hb_cell HY3.out lBp).trans cBp, (hb_cell HY3.out lBX).trans cX0, (hb_cell HY3.out lBX).trans cX1⟩ (fun hHeld1 => ?_)
     clear hK K
     try simp only [Act.put, List.setIfInBounds_toArray, List.set_cons_zero, List.set_cons_succ]
     refine tkH 3 oZd_16 37 (.bool true) hHeld1 (by intro w hS; dsimp only [oZd_16] at hS ⊢; go_simp) ?_
     try simp only [pA, pC, pD]
     refine tkN 4 oZd_17 38 hHeld1 ?_
     try simp only [pA, pC, pD]
     refine tkN 5 oZd_18 39 hHeld1 ?_
     try simp only [pA, pC, pD]
     refine tkN 6 oZd_19 40 hHeld1 ?_
     try simp only [pA, pC, pD]
     refine tkN 7 oZd_20 41 hHeld1 ?_
     try simp only [pA, pC, pD]
     refine tkN 8 oZd_21 42 hHeld1 ?_
     try simp only [pA, pC, pD]
     refine tkN 9 oZd_22 43 hHeld1 ?_
     try simp only [pA, pC, pD]
     refine tkN 10 oZd_23 44 hHeld1 ?_
     try simp only [pA, pC, pD]
     refine tkN 11 oZd_24 45 hHeld1 ?_
     try simp only [pA, pC, pD]
     refine tkN 12 oZd_25 46 hHeld1 ?_
     try simp only [pA, pC, pD]
     refine tkN 13 oZd_26 47 hHeld1 ?_
     try simp only [pA, pC, pD]
     refine tkN 14 oZd_27 48 hHeld1 ?_
     try simp only [pA, pC, pD]
     refine tkN 15 oZd_28 49 hHeld1 ?_
     try simp only [pA, pC, pD]
     refine tkN 16 oZd_29 50 hHeld1 ?_
     try simp only [pA, pC, pD]
     refine tkN 17 oZd_30 51 hHeld1 ?_
     try simp only [pA, pC, pD]
     refine tkH 18 oZd_31 52 (.bool true) hHeld1 (by intro w hS; dsimp only [oZd_31] at hS ⊢; go_simp) ?_
     try simp only [pA, pC, pD]
     refine wpAnyH_done (by kernel_rfl) ?_ _
     have HRT := hidOf (HKEEP.out _ HY3.out (rlS_pass d A (T2, nn) x HPA.out (.inl (by rw [hvv]; exact hmv))))
     clear HKEEP HRET
     gi_wp2
     exact HRT.out
    | false =>
     rw [hmv] at HMV
     rcases hrng with hv | ⟨m, hv, hm⟩
     ·rw [hv, mvB_no] at hmv; cases hmv
     ·subst hv
      obtain ⟨b, off, ha, hQb, hcc⟩ := HL2.out.al.at m hm
      obtain ⟨y, hy⟩ : ∃ y, A[m] = y := ⟨_, rfl⟩
      have hyA : alA A (m : Int) = y := by unfold alA; rw [Int.toNat_natCast, getD_at A m hm, hy]
      rw [hy] at hcc
      have lbb : b < W2.heap.size := by have := HL2.out.ne; have := hQb.1; omega
      have cve : W2.cell? ⟨b, off + m * 11 + 2, none⟩ = some (.int .i64 y.ve) := hcc 2 _ rfl
      have hk0 : ¬ ((m : Int) < 0) := by omega
      have hk1 : (m : Int) < (A.length : Int) := by omega
      have HHV := hidOf hvv
      have HYA := hidOf hyA
      have HMF := hidOf hmv
      have HHM := hidOf hm
      clear hcc hQb hy hyA hvv hvv2 hmv hm
      subst ha
      by_cases hve : y.ve = d.ve
      ·have hq2 : (y.ve == d.ve) = true := by simp [hve]
       have HVE := hidOf hve
       clear hve
       refine wpIn_held_rnd (S := fun (Y : World) => Y.cell? ⟨Bp, 0, none⟩ = some (.pointer (some ⟨p, 0, none⟩)) ∧ Y.cell? ⟨BX, 0, none⟩ = some (.int .i64 x.1) ∧ Y.cell? ⟨BX, 1, none⟩ = some (.int .i64 x.2) ∧ Y.cell? ⟨p, 8, none⟩ = some (.slice (some ⟨b, off, none⟩) A.length ac) ∧ Y.cell? ⟨b, off + m * 11 + 2, none⟩ = some (.int .i64 y.ve) ∧ Y.cell? ⟨p, 5, none⟩ = some (.int .i64 d.ve)) (by kernel_rfl) (fun hh => by obtain ⟨_, _, hh⟩ := hh; exact hh) (by kernel_rfl) ⟨(hb_cell HYD2.out lBp).trans cBp, (hb_cell HYD2.out lBX).trans cX0, (hb_cell HYD2.out lBX).trans cX1, (HL2.out.bel HYD2.out).rg 8 _ rfl, (hb_cell HYD2.out lbb).trans cve, (HL2.out.bel HYD2.out).rg 5 _ rfl⟩ (fun hHeld => ?_)
       refine tkH 0 oZd_14 34 (.pointer (some ⟨p, 0, none⟩)) hHeld (by intro w hS; dsimp only [oZd_14] at hS ⊢; go_simp) ?_
       try simp only [pA, pC, pD]
       refine tkH 1 oZd_15 35 (.agg #[.int .i64 x.1, .int .i64 x.2]) hHeld (by intro w hS; dsimp only [oZd_15] at hS ⊢; go_simp) ?_
       try simp only [pA, pC, pD]
       refine wpAnyH_ready (rs := [2]) (by kernel_rfl) (by simp) ?_
       refine AllReadyH.cons (o := { dst := some 36, op := Op.call { callee := Callee.value (Operand.func 52), args := #[Operand.tmp 34, Operand.tmp 35], argTypes := #[85, 60] }, type := 4, pos := "diff.go:105", after := #[{ on := 0, ground := Ground.data }, { on := 1, ground := Ground.data }], guard := none }) rfl (fun K hK => ?_) AllReadyH.nil
       go_simp
       refine HMV.out.mono ?_
       rintro e w3 ⟨rfl, hb3⟩
       have HY3 := hidOf (HYDD.out.trans (hb3.mono HYDD.out.size))
       clear hb3
       refine hK.out _ _ ⟨(hb_cell HY3.out lBp).trans cBp, (hb_cell HY3.out lBX).trans cX0, (hb_cell HY3.out lBX).trans cX1, (HL2.out.bel HY3.out).rg 8 _ rfl, (hb_cell HY3.out lbb).trans cve, (HL2.out.bel HY3.out).rg 5 _ rfl⟩ (fun hHeld1 => ?_)
       clear hK K
       try simp only [Act.put, List.setIfInBounds_toArray, List.set_cons_zero, List.set_cons_succ]
       refine tkH 3 oZd_16 37 (.bool false) hHeld1 (by intro w hS; dsimp only [oZd_16] at hS ⊢; go_simp) ?_
       try simp only [pA, pC, pD]
       refine tkH 4 oZd_17 38 (.pointer (some ⟨p, 0, none⟩)) hHeld1 (by intro w hS; dsimp only [oZd_17] at hS ⊢; go_simp) ?_
       try simp only [pA, pC, pD]
       refine tkH 5 oZd_18 39 (.pointer (some ⟨p, 0, none⟩)) hHeld1 (by intro w hS; dsimp only [oZd_18] at hS ⊢; go_simp) ?_
       try simp only [pA, pC, pD]
       refine tkH 6 oZd_19 40 (.pointer (some ⟨p, 8, none⟩)) hHeld1 (by intro w hS; dsimp only [oZd_19] at hS ⊢; go_simp) ?_
       try simp only [pA, pC, pD]
       refine tkH 7 oZd_20 41 (.slice (some ⟨b, off, none⟩) A.length ac) hHeld1 (by intro w hS; dsimp only [oZd_20] at hS ⊢; go_simp) ?_
       try simp only [pA, pC, pD]
       refine tkH 8 oZd_21 42 (.int .i64 (m : Int)) hHeld1 (by intro w hS; dsimp only [oZd_21] at hS ⊢; go_simp) ?_
       try simp only [pA, pC, pD]
       refine tkH 9 oZd_22 43 (.pointer (some ⟨b, off + m * 11, none⟩)) hHeld1 (by intro w hS; dsimp only [oZd_22] at hS ⊢; go_simp) ?_
       try simp only [pA, pC, pD]
       refine tkH 10 oZd_23 44 (.pointer (some ⟨b, off + m * 11 + 2, none⟩)) hHeld1 (by intro w hS; dsimp only [oZd_23] at hS ⊢; go_simp) ?_
       try simp only [pA, pC, pD]
       refine tkH 11 oZd_24 45 (.int .i64 y.ve) hHeld1 (by intro w hS; dsimp only [oZd_24] at hS ⊢; go_simp) ?_
       try simp only [pA, pC, pD]
       refine tkH 12 oZd_25 46 (.pointer (some ⟨p, 0, none⟩)) hHeld1 (by intro w hS; dsimp only [oZd_25] at hS ⊢; go_simp) ?_
       try simp only [pA, pC, pD]
       refine tkH 13 oZd_26 47 (.pointer (some ⟨p, 0, none⟩)) hHeld1 (by intro w hS; dsimp only [oZd_26] at hS ⊢; go_simp) ?_
       try simp only [pA, pC, pD]
       refine tkH 14 oZd_27 48 (.pointer (some ⟨p, 0, none⟩)) hHeld1 (by intro w hS; dsimp only [oZd_27] at hS ⊢; go_simp) ?_
       try simp only [pA, pC, pD]
       refine tkH 15 oZd_28 49 (.pointer (some ⟨p, 5, none⟩)) hHeld1 (by intro w hS; dsimp only [oZd_28] at hS ⊢; go_simp) ?_
       try simp only [pA, pC, pD]
       refine tkH 16 oZd_29 50 (.int .i64 d.ve) hHeld1 (by intro w hS; dsimp only [oZd_29] at hS ⊢; go_simp) ?_
       try simp only [pA, pC, pD]
       refine tkH 17 oZd_30 51 (.bool true) hHeld1 (by intro w hS; dsimp only [oZd_30] at hS ⊢; go_simp) ?_
       try simp only [pA, pC, pD]
       refine tkH 18 oZd_31 52 (.bool true) hHeld1 (by intro w hS; dsimp only [oZd_31] at hS ⊢; go_simp) ?_
       try simp only [pA, pC, pD]
       refine wpAnyH_done (by kernel_rfl) ?_ _
       have HRT := hidOf (HKEEP.out _ HY3.out (rlS_pass d A (T2, nn) x HPA.out (.inr (by rw [HHV.out, HYA.out]; exact HVE.out))))
       clear HKEEP HRET
       gi_wp2
       exact HRT.out
      ·have hq2 : (y.ve == d.ve) = false := by simp [hve]
       have HVE := hidOf hve
       clear hve
       refine wpIn_held_rnd (S := fun (Y : World) => Y.cell? ⟨Bp, 0, none⟩ = some (.pointer (some ⟨p, 0, none⟩)) ∧ Y.cell? ⟨BX, 0, none⟩ = some (.int .i64 x.1) ∧ Y.cell? ⟨BX, 1, none⟩ = some (.int .i64 x.2) ∧ Y.cell? ⟨p, 8, none⟩ = some (.slice (some ⟨b, off, none⟩) A.length ac) ∧ Y.cell? ⟨b, off + m * 11 + 2, none⟩ = some (.int .i64 y.ve) ∧ Y.cell? ⟨p, 5, none⟩ = some (.int .i64 d.ve)) (by kernel_rfl) (fun hh => by obtain ⟨_, _, hh⟩ := hh; exact hh) (by kernel_rfl) ⟨(hb_cell HYD2.out lBp).trans cBp, (hb_cell HYD2.out lBX).trans cX0, (hb_cell HYD2.out lBX).trans cX1, (HL2.out.bel HYD2.out).rg 8 _ rfl, (hb_cell HYD2.out lbb).trans cve, (HL2.out.bel HYD2.out).rg 5 _ rfl⟩ (fun hHeld => ?_)
       refine tkH 0 oZd_14 34 (.pointer (some ⟨p, 0, none⟩)) hHeld (by intro w hS; dsimp only [oZd_14] at hS ⊢; go_simp) ?_
       try simp only [pA, pC, pD]
       refine tkH 1 oZd_15 35 (.agg #[.int .i64 x.1, .int .i64 x.2]) hHeld (by intro w hS; dsimp only [oZd_15] at hS ⊢; go_simp) ?_
       try simp only [pA, pC, pD]
       refine wpAnyH_ready (rs := [2]) (by kernel_rfl) (by simp) ?_
       refine AllReadyH.cons (o := { dst := some 36, op := Op.call { callee := Callee.value (Operand.func 52), args := #[Operand.tmp 34, Operand.tmp 35], argTypes := #[85, 60] }, type := 4, pos := "diff.go:105", after := #[{ on := 0, ground := Ground.data }, { on := 1, ground := Ground.data }], guard := none }) rfl (fun K hK => ?_) AllReadyH.nil
       go_simp
       refine HMV.out.mono ?_
       rintro e w3 ⟨rfl, hb3⟩
       have HY3 := hidOf (HYDD.out.trans (hb3.mono HYDD.out.size))
       clear hb3
       refine hK.out _ _ ⟨(hb_cell HY3.out lBp).trans cBp, (hb_cell HY3.out lBX).trans cX0, (hb_cell HY3.out lBX).trans cX1, (HL2.out.bel HY3.out).rg 8 _ rfl, (hb_cell HY3.out lbb).trans cve, (HL2.out.bel HY3.out).rg 5 _ rfl⟩ (fun hHeld1 => ?_)
       clear hK K
       try simp only [Act.put, List.setIfInBounds_toArray, List.set_cons_zero, List.set_cons_succ]
       refine tkH 3 oZd_16 37 (.bool false) hHeld1 (by intro w hS; dsimp only [oZd_16] at hS ⊢; go_simp) ?_
       try simp only [pA, pC, pD]
       refine tkH 4 oZd_17 38 (.pointer (some ⟨p, 0, none⟩)) hHeld1 (by intro w hS; dsimp only [oZd_17] at hS ⊢; go_simp) ?_
       try simp only [pA, pC, pD]
       refine tkH 5 oZd_18 39 (.pointer (some ⟨p, 0, none⟩)) hHeld1 (by intro w hS; dsimp only [oZd_18] at hS ⊢; go_simp) ?_
       try simp only [pA, pC, pD]
       refine tkH 6 oZd_19 40 (.pointer (some ⟨p, 8, none⟩)) hHeld1 (by intro w hS; dsimp only [oZd_19] at hS ⊢; go_simp) ?_
       try simp only [pA, pC, pD]
       refine tkH 7 oZd_20 41 (.slice (some ⟨b, off, none⟩) A.length ac) hHeld1 (by intro w hS; dsimp only [oZd_20] at hS ⊢; go_simp) ?_
       try simp only [pA, pC, pD]
       refine tkH 8 oZd_21 42 (.int .i64 (m : Int)) hHeld1 (by intro w hS; dsimp only [oZd_21] at hS ⊢; go_simp) ?_
       try simp only [pA, pC, pD]
       refine tkH 9 oZd_22 43 (.pointer (some ⟨b, off + m * 11, none⟩)) hHeld1 (by intro w hS; dsimp only [oZd_22] at hS ⊢; go_simp) ?_
       try simp only [pA, pC, pD]
       refine tkH 10 oZd_23 44 (.pointer (some ⟨b, off + m * 11 + 2, none⟩)) hHeld1 (by intro w hS; dsimp only [oZd_23] at hS ⊢; go_simp) ?_
       try simp only [pA, pC, pD]
       refine tkH 11 oZd_24 45 (.int .i64 y.ve) hHeld1 (by intro w hS; dsimp only [oZd_24] at hS ⊢; go_simp) ?_
       try simp only [pA, pC, pD]
       refine tkH 12 oZd_25 46 (.pointer (some ⟨p, 0, none⟩)) hHeld1 (by intro w hS; dsimp only [oZd_25] at hS ⊢; go_simp) ?_
       try simp only [pA, pC, pD]
       refine tkH 13 oZd_26 47 (.pointer (some ⟨p, 0, none⟩)) hHeld1 (by intro w hS; dsimp only [oZd_26] at hS ⊢; go_simp) ?_
       try simp only [pA, pC, pD]
       refine tkH 14 oZd_27 48 (.pointer (some ⟨p, 0, none⟩)) hHeld1 (by intro w hS; dsimp only [oZd_27] at hS ⊢; go_simp) ?_
       try simp only [pA, pC, pD]
       refine tkH 15 oZd_28 49 (.pointer (some ⟨p, 5, none⟩)) hHeld1 (by intro w hS; dsimp only [oZd_28] at hS ⊢; go_simp) ?_
       try simp only [pA, pC, pD]
       refine tkH 16 oZd_29 50 (.int .i64 d.ve) hHeld1 (by intro w hS; dsimp only [oZd_29] at hS ⊢; go_simp) ?_
       try simp only [pA, pC, pD]
       refine tkH 17 oZd_30 51 (.bool false) hHeld1 (by intro w hS; dsimp only [oZd_30] at hS ⊢; go_simp) ?_
       try simp only [pA, pC, pD]
       refine tkH 18 oZd_31 52 (.bool false) hHeld1 (by intro w hS; dsimp only [oZd_31] at hS ⊢; go_simp) ?_
       try simp only [pA, pC, pD]
       refine wpAnyH_done (by kernel_rfl) ?_ _
       have HE := hidOf (rlS_more d A (T2, nn) x HPA.out (by rw [HHV.out]; exact HMF.out) (by rw [HHV.out, HYA.out]; exact HVE.out))
       clear HKEEP HRET
       have HL3 := hidOf (HL2.out.bel HY3.out)
       have HST := hidOf (stop_l HL3.out m HHM.out HBT.out)
       have c3 := (hb_cell HY3.out (o := 0) lBp).trans cBp
       have l3 : Bp < w3.heap.size := lt_of_cell c3
       have m3 := (HY3.out.block Bm lBm).trans HC.out
       clear cBp cBm cX0 cX1 cve
       have HM3 := hidOf m3
       clear m3
       gi_wp2_with (refine ⟨trivial, ?_⟩; gi_at_call 51; refine (CallsIn.inRound _ (callsIn_wide.2 HST.out)).mono ?_; rintro e w6 ⟨rfl, ia3, ic3, hL6, hF6⟩; have HL6 := hidOf hL6; have HF6 := hidOf hF6; have HM6 := hidOf ((hF6.same Bm (heap_lt HM3.out) hBm3).trans HM3.out); obtain ⟨cBm, fBm, lBm⟩ := box_row HM6.out; clear hL6 hF6)
       have hs6 := HF6.out.size
       have hs3 := HY3.out.size
       have hs6b : w3.heap.size ≤ w6.heap.size := hs6
       have hnB6 : ¬ LO p sb ia3 Bm := HF6.out.out (heap_lt HM3.out) hBm3
       refine ⟨fun k => LO p sb ia3 k ∨ k = Bm, ⟨fun k hk => ?_, fun k hk ho => ?_, by simp; omega, fun k hk => ?_, HF6.out.ex.1.trans HY3.out.os, HF6.out.ex.2.1.trans HY3.out.tape, HF6.out.ex.2.2.trans HY3.out.output⟩, ia3, ic3, fun _ => Iff.rfl, hnB6, ?_, ?_⟩
       ·rcases hk with h1 | h1
        ·rcases HF6.out.sub k h1 with h2 | h2
         ·exact .inl ((HO.out k).2 (.inl h2))
         ·exact .inr (by omega)
        ·exact .inl ((HO.out k).2 (.inr h1))
       ·exact (heap_setCell_other w6 ⟨Bm, 0, none⟩ k _ (fun e => ho ((HO.out k).2 (.inr e)))).trans ((HF6.out.same k (by omega) (fun h1 => ho ((HO.out k).2 (.inl h1)))).trans (HY3.out.block k hk))
       ·rcases hk with h1 | h1
        ·have := HF6.out.lt k h1; simpa using this
        ·rw [h1]; simpa using lBm
       ·rw [HRL.out, HE.out]
        exact box_set HM6.out
       ·rw [HRL.out, HE.out, HHV.out]
        exact HL6.out.s.keep (fun k hk => heap_setCell_other w6 ⟨Bm, 0, none⟩ k _ (fun e => hnB6 (by have e2 : k = Bm := e; rw [← e2]; exact hk)))
  case done2 =>
   intro D2 O2 W3 hD2 hnD2 hF2 hI2 hdef2
   obtain ⟨ia', ic', hO2, _, hc2, hS3⟩ := hI2
   have HEND := hidOf (HFIN.out D2 O2 ia' ic' W3 hD2 hnD2 hF2 hO2 hS3 hdef2)
   clear hF2 hO2 hS3 hc2 hdef2
   gi_wp2
   refine leaves_all (fun W' => LkR lo p hb sb d ga gc lb aa ac A S (rlV d A (T, n0) S).1 ia' ic' W' ∧ Frm (LO p sb ia) (LO p sb ia') w W' ∧ ∀ E ∈ [D2, D], ¬ LO p sb ia' E ∧ w.heap.size ≤ E) _ (fun _ => results_none rfl _ _ _) (fun W' h => ?_) [D2, D] W3 HEND.out.2.1 HEND.out.2.2 (fun W' E hE h => ?_) HEND.out.1
   ·exact ⟨rfl, ia', ic', h.1, h.2.1⟩
   ·obtain ⟨h1, h2, h3⟩ := h
    have h4 := h3 E hE
    exact ⟨h1.keep (fun k hk => put_same _ (fun e => h4.1 (e ▸ hk))) (fun k hk _ _ => put_same _ (by omega)) (by rw [put_size]; exact Nat.le_refl _), h2.put _ h4.2, h3⟩
  case stop2 =>
   intro D2 O2 pre W3 hD2 hnD2 hF2 hpre hI2 hdef2
   obtain ⟨⟨ia', ic', hO2, _, hc2, hS3⟩, hpa⟩ := hI2
   rw [← rlV_cut d A (T, n0) pre S hpre hpa] at hS3
   have HEND := hidOf (HFIN.out D2 O2 ia' ic' W3 hD2 hnD2 hF2 hO2 hS3 hdef2)
   clear hF2 hO2 hS3 hc2 hdef2 hpa
   gi_wp2
   refine leaves_all (fun W' => LkR lo p hb sb d ga gc lb aa ac A S (rlV d A (T, n0) S).1 ia' ic' W' ∧ Frm (LO p sb ia) (LO p sb ia') w W' ∧ ∀ E ∈ [D2, D], ¬ LO p sb ia' E ∧ w.heap.size ≤ E) _ (fun _ => results_none rfl _ _ _) (fun W' h => ?_) [D2, D] W3 HEND.out.2.1 HEND.out.2.2 (fun W' E hE h => ?_) HEND.out.1
   ·exact ⟨rfl, ia', ic', h.1, h.2.1⟩
   ·obtain ⟨h1, h2, h3⟩ := h
    have h4 := h3 E hE
    exact ⟨h1.keep (fun k hk => put_same _ (fun e => h4.1 (e ▸ hk))) (fun k hk _ _ => put_same _ (by omega)) (by rw [put_size]; exact Nat.le_refl _), h2.put _ h4.2, h3⟩
 case stop =>
  intro D O' pre W _ _ _ _ h
  exact h.elim
end Go.Proofs.Ytblofbdncolikaa
