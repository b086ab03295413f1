/- ConfSteps, walked. -/
import Derived.Test.YteaohmlbioooaaaCsam
import Derived.Test.YteaohmlbioooaaaCmem
import Derived.Test.YteaohmlbioooaaaCopn
import Derived.Deep.Cut
namespace Go.Proofs.Yteaohmlbioooaaa
open Go.RowKit

theorem same_self (V L : List Int) : sameB V L V L = true := by simp [sameB]
theorem Row.ints {w : World} {D : Nat} {a : Option Addr} {n cap : Nat} {l : List Int} (h : Row w D (.slice a n cap) l) : Ints w a l := by
  obtain ⟨a', cap', e, hi, _, _, _⟩ := h.slice
  injection e with e1 _ _
  subst e1
  exact hi
theorem Bx.no_int {w : World} {k j : Nat} {p q : Option Addr} {i i' c c' : Nat} {x : Int} (h : Bx w k (.slice p i c) (.slice q i' c')) : w.cell? ⟨k, j, none⟩ ≠ some (.int .i64 x) := by
  rw [cell_of_row w k j _ 24 (0, 0) h]
  match j with
  | 0 => intro e; cases e
  | 1 => intro e; cases e
  | j + 2 => intro e; simp at e
/- the numbers l lie behind a, in a block below B -/
structure IntsU (B : Nat) (w : World) (a : Option Addr) (l : List Int) : Prop where
  len : l.length ≤ 17592186044416
  cells : l ≠ [] → ∃ b off, a = some ⟨b, off, none⟩ ∧ b < B ∧ ∀ j, j < l.length → w.cell? ⟨b, off + j, none⟩ = some (.int .i64 (nth l j))
theorem IntsU.ints {B : Nat} {w : World} {a : Option Addr} {l : List Int} (h : IntsU B w a l) (hB : B ≤ w.heap.size) : Ints w a l := by
  refine ⟨h.len, fun hne => ?_⟩
  obtain ⟨b, off, h1, h2, h3⟩ := h.cells hne
  exact ⟨b, off, h1, Nat.lt_of_lt_of_le h2 hB, h3⟩
theorem Ints.up {w : World} {a : Option Addr} {l : List Int} (h : Ints w a l) : IntsU w.heap.size w a l := ⟨h.len, h.cells⟩
theorem IntsU.keep {B : Nat} {w w' : World} {a : Option Addr} {l : List Int} (h : IntsU B w a l) (hb : Below B w w') : IntsU B w' a l := by
  refine ⟨h.len, fun hne => ?_⟩
  obtain ⟨b, off, h1, h2, h3⟩ := h.cells hne
  exact ⟨b, off, h1, h2, fun j hj => (hb.cell (p := ⟨b, off + j, none⟩) h2).trans (h3 j hj)⟩
theorem IntsU.set1 {B : Nat} {z : World} {k : Nat} {p q : Option Addr} {i i' c c' : Nat} {a : Option Addr} {l : List Int} (h : IntsU B z a l) (hb : Bx z k (.slice p i c) (.slice q i' c')) (j : Nat) (u : Value) : IntsU B (z.setCell ⟨k, j, none⟩ u) a l := by
  refine ⟨h.len, fun hne => ?_⟩
  obtain ⟨b, off, e, hbl, hc⟩ := h.cells hne
  have h0 := hc 0 (List.length_pos_iff.2 hne)
  have hk : b ≠ k := fun e => by rw [e] at h0; exact hb.no_int h0
  exact ⟨b, off, e, hbl, fun i hi => (World.cell?_of_block (a := ⟨b, off + i, none⟩) (Below.heap_setCell _ ⟨k, j, none⟩ _ b hk)).trans (hc i hi)⟩
theorem Bx.set0 {w : World} {k : Nat} {x y : Value} (h : Bx w k x y) (u : Value) : Bx (w.setCell ⟨k, 0, none⟩ u) k u y := by
  show _ = _
  rw [heap_setCell_same w k 0 _ 24 _ h]; rfl
theorem Bx.set1 {w : World} {k : Nat} {x y : Value} (h : Bx w k x y) (u : Value) : Bx (w.setCell ⟨k, 1, none⟩ u) k x u := by
  show _ = _
  rw [heap_setCell_same w k 1 _ 24 _ h]; rfl
theorem bx_keep {w : World} {k k' j : Nat} {x y : Value} (h : Bx w k x y) (hk : k ≠ k') (u : Value) : Bx (w.setCell ⟨k', j, none⟩ u) k x y := by
  show _ = _
  rw [Below.heap_setCell _ ⟨k', j, none⟩ _ k hk]
  exact h
/- the servers, and what they were: all in blocks below B -/
structure Ws (w z : World) (B : Nat) (av al : Option Addr) (V L : List Int) (cv cl : Nat) (r1 r2 : Option Addr) (k1 k2 : Nat) : Prop where
  v : IntsU B z av V
  l : IntsU B z al L
  wv : IntsU B z r1 V
  wl : IntsU B z r2 L
  bx : Bx z w.heap.size (.slice av V.length cv) (.slice al L.length cl)
  wb : Bx z (w.heap.size + 1) (.slice r1 V.length k1) (.slice r2 L.length k2)
  nb : w.heap.size + 1 < B
  bs : B ≤ z.heap.size
  bel : Below w.heap.size w z
section
variable {w z z' : World} {B : Nat} {av al : Option Addr} {V L : List Int} {cv cl : Nat} {r1 r2 : Option Addr} {k1 k2 : Nat}
theorem Ws.keep (h : Ws w z B av al V L cv cl r1 r2 k1 k2) (hb : Below B z z') : Ws w z' B av al V L cv cl r1 r2 k1 k2 :=
  ⟨h.v.keep hb, h.l.keep hb, h.wv.keep hb, h.wl.keep hb, (hb.block _ (by have := h.nb; omega)).trans h.bx, (hb.block _ h.nb).trans h.wb, h.nb, Nat.le_trans h.bs hb.size, h.bel.trans (hb.mono (by have := h.nb; omega))⟩
theorem IntsU.wide {B B' : Nat} {w : World} {a : Option Addr} {l : List Int} (h : IntsU B w a l) (hB : B ≤ B') : IntsU B' w a l := by
  refine ⟨h.len, fun hne => ?_⟩
  obtain ⟨b, off, h1, h2, h3⟩ := h.cells hne
  exact ⟨b, off, h1, Nat.lt_of_lt_of_le h2 hB, h3⟩
theorem Ws.grow (h : Ws w z B av al V L cv cl r1 r2 k1 k2) (hb : Below z.heap.size z z') : Ws w z' z'.heap.size av al V L cv cl r1 r2 k1 k2 := by
  have h1 : Ws w z z.heap.size av al V L cv cl r1 r2 k1 k2 := ⟨h.v.wide h.bs, h.l.wide h.bs, h.wv.wide h.bs, h.wl.wide h.bs, h.bx, h.wb, Nat.lt_of_lt_of_le h.nb h.bs, Nat.le_refl _, h.bel⟩
  have h2 := h1.keep hb
  exact ⟨h2.v.wide h2.bs, h2.l.wide h2.bs, h2.wv.wide h2.bs, h2.wl.wide h2.bs, h2.bx, h2.wb, Nat.lt_of_lt_of_le h2.nb h2.bs, Nat.le_refl _, h2.bel⟩
theorem Ws.cf (h : Ws w z B av al V L cv cl r1 r2 k1 k2) : Cf z av al V L := ⟨h.v.ints h.bs, h.l.ints h.bs⟩
theorem Ws.wf (h : Ws w z B av al V L cv cl r1 r2 k1 k2) : Cf z r1 r2 V L := ⟨h.wv.ints h.bs, h.wl.ints h.bs⟩
theorem Ws.setP {q : Nat} {p p' : Option Addr} {i i' c c' : Nat} (h : Ws w z B av al V L cv cl r1 r2 k1 k2) (hq : Bx z q (.slice p i c) (.slice p' i' c')) (hw : w.heap.size + 1 < q) (x y y' : Option Addr) (m n m' n' : Nat) (_ : x = y) : Ws w ((z.setCell ⟨q, 0, none⟩ (.slice x m n)).setCell ⟨q, 1, none⟩ (.slice y' m' n')) B av al V L cv cl r1 r2 k1 k2 := by
  have hq1 := hq.set0 (.slice x m n)
  refine ⟨(h.v.set1 hq 0 _).set1 hq1 1 _, (h.l.set1 hq 0 _).set1 hq1 1 _, (h.wv.set1 hq 0 _).set1 hq1 1 _, (h.wl.set1 hq 0 _).set1 hq1 1 _, bx_keep (bx_keep h.bx (by omega) _) (by omega) _, bx_keep (bx_keep h.wb (by omega) _) (by omega) _, h.nb, by simp only [World.size_setCell]; exact h.bs, (h.bel.setCell (p := ⟨q, 0, none⟩) (by show w.heap.size ≤ q; omega) _).setCell (p := ⟨q, 1, none⟩) (by show w.heap.size ≤ q; omega) _⟩
theorem Ws.up (h : Ws w z B av al V L cv cl r1 r2 k1 k2) : Ws w z z.heap.size av al V L cv cl r1 r2 k1 k2 := h.grow (Below.refl _ _)
end
/- the servers, the one more (in block p), and the one that votes (in block f) -/
structure Aa (w z : World) (p f : Nat) (av al : Option Addr) (V L : List Int) (cv cl : Nat) (r1 r2 : Option Addr) (k1 k2 : Nat) (D F : List Int) (g1 g2 h1 h2 : Option Addr) (j1 j2 m1 m2 : Nat) : Prop where
  ws : Ws w z z.heap.size av al V L cv cl r1 r2 k1 k2
  bp : Bx z p (.slice g1 V.length j1) (.slice g2 D.length j2)
  bf : Bx z f (.slice h1 F.length m1) (.slice h2 L.length m2)
  i1 : Ints z g1 V
  i2 : Ints z g2 D
  i3 : Ints z h1 F
  i4 : Ints z h2 L
theorem Aa.grow {w z z' : World} {p f : Nat} {av al : Option Addr} {V L : List Int} {cv cl : Nat} {r1 r2 : Option Addr} {k1 k2 : Nat} {D F : List Int} {g1 g2 h1 h2 : Option Addr} {j1 j2 m1 m2 : Nat} (h : Aa w z p f av al V L cv cl r1 r2 k1 k2 D F g1 g2 h1 h2 j1 j2 m1 m2) (hb : Below z.heap.size z z') : Aa w z' p f av al V L cv cl r1 r2 k1 k2 D F g1 g2 h1 h2 j1 j2 m1 m2 :=
  ⟨h.ws.grow hb, h.bp.grow hb, h.bf.grow hb, h.i1.grow hb, h.i2.grow hb, h.i3.grow hb, h.i4.grow hb⟩
/- n cells behind a may be written, in a block from B on -/
def Wr (z : World) (B : Nat) (a : Option Addr) (n : Nat) : Prop := 0 < n → ∃ g cur, a = some ⟨g, 0, none⟩ ∧ B ≤ g ∧ z.heap[g]? = some (.cells cur 3 (0, 0)) ∧ n ≤ cur.size
theorem Row.wr {z : World} {D : Nat} {a : Option Addr} {cap : Nat} {l : List Int} (h : Row z D (.slice a l.length cap) l) : Wr z D a l.length := by
  intro hp
  rcases h.own.2 with ⟨_, e⟩ | ⟨g, cap', cur, e, h3, h4, h5, h6, h7, h8⟩
  · omega
  · injection e with e1 _ _
    exact ⟨g, cur, e1, h3, h4, by omega⟩
theorem Wr.set {z : World} {B : Nat} {a : Option Addr} {n : Nat} (h : Wr z B a n) {g' j : Nat} {cur' : Array Value} (hg : z.heap[g']? = some (.cells cur' 3 (0, 0))) (u : Value) : Wr (z.setCell ⟨g', j, none⟩ u) B a n := by
  intro hp
  obtain ⟨g, cur, e, hB, hh, hs⟩ := h hp
  by_cases hgg : g = g'
  · subst hgg
    rw [hg] at hh
    injection hh with hh
    injection hh with hh
    subst hh
    exact ⟨g, _, e, hB, heap_setCell_same z g j _ 3 _ hg, by simpa using hs⟩
  · exact ⟨g, cur, e, hB, (Below.heap_setCell _ ⟨g', j, none⟩ _ g hgg).trans hh, hs⟩
theorem Wr.keep {z z' : World} {B : Nat} {a : Option Addr} {n : Nat} (h : Wr z B a n) (hb : Below z.heap.size z z') : Wr z' B a n := by
  intro hp
  obtain ⟨g, cur, e, hB, hh, hs⟩ := h hp
  exact ⟨g, cur, e, hB, (hb.block g (heap_lt hh)).trans hh, hs⟩
theorem Wr.at {z : World} {B : Nat} {a : Option Addr} {n k : Nat} (h : Wr z B a n) (hk : k < n) : ∃ g cur x, a = some ⟨g, 0, none⟩ ∧ B ≤ g ∧ z.heap[g]? = some (.cells cur 3 (0, 0)) ∧ z.cell? ⟨g, k, none⟩ = some x ∧ z.frozen? ⟨g, k, none⟩ = false ∧ g < z.heap.size := by
  obtain ⟨g, cur, e, hB, hh, hs⟩ := h (by omega)
  refine ⟨g, cur, cur[k]'(by omega), e, hB, hh, ?_, by simp [World.frozen?, hh], heap_lt hh⟩
  rw [cell_of_row z g k cur 3 (0, 0) hh]
  simp
/- the reckoning -/
theorem add_parts {U M : List Int} {s : Int} (h : addB U M s = true) : MayP U M ∧ 1 ≤ s ∧ s ≤ 5 ∧ s ∉ U ∧ s ∉ M := by
  unfold addB at h
  simp only [Bool.and_eq_true, decide_eq_true_eq, Bool.not_eq_true', contains_no, may_iff] at h
  exact ⟨h.1, h.2.1, h.2.2.1, h.2.2.2.1, h.2.2.2.2⟩
theorem sgl_of {U M U' M' : List Int} (h : MayP U M) (h' : MayP U' M') (s : Int) (hd : ∀ x, x ≠ s → (x ∈ U ↔ x ∈ U')) : sglB U M U' M' = true := by
  unfold sglB
  rw [(may_iff U M).2 h, (may_iff U' M').2 h', decide_eq_true (dif_le s hd 5)]
  rfl
structure AddF (V L : List Int) (s : Int) : Prop where
  pro : proB V (wth L s) s = true
  wl : wto (wth L s) s = L
  may : mayB V (wth L s) = true
  sg1 : sglB V L V (wth L s) = true
  vot : V.contains s = false
  vo2 : (wth V s).contains s = true
  sg2 : sglB V (wth L s) (wth V s) L = true
  rem : remB (wth V s) L s = true
  wv : wto (wth V s) s = V
  w2 : wto L s = L
  no : remB V L s = false
theorem addF {V L : List Int} {s : Int} (h : addB V L s = true) : AddF V L s := by
  obtain ⟨hm, h1, h5, hv, hl⟩ := add_parts h
  have m1 : MayP V (wth L s) := ⟨hm.1, hm.2.1, hm.2.2.1.wth h1 h5 hl, fun x hx hy => by
    rcases (wth_mem L s x).1 hy with hy | rfl
    · exact hm.2.2.2 x hx hy
    · exact hv hx⟩
  have m2 : MayP (wth V s) L := by
    refine ⟨fun e => ?_, hm.2.1.wth h1 h5 hv, hm.2.2.1, fun x hx hy => ?_⟩
    · have : s ∈ wth V s := (wth_mem V s s).2 (Or.inr rfl)
      rw [e] at this; cases this
    · rcases (wth_mem V s x).1 hx with hx | rfl
      · exact hm.2.2.2 x hx hy
      · exact hl hy
  have hs2 : (wth V s).contains s = true := contains_eq.2 ((wth_mem V s s).2 (Or.inr rfl))
  refine ⟨?_, wto_wth hm.2.2.1 h1 h5 hl, (may_iff _ _).2 m1, sgl_of hm m1 s (fun x _ => Iff.rfl), contains_no.2 hv, hs2, sgl_of m1 m2 s (fun x hx => ?_), ?_, wto_wth hm.2.1 h1 h5 hv, wto_same hl, ?_⟩
  · unfold proB
    rw [(may_iff _ _).2 m1, contains_eq.2 ((wth_mem L s s).2 (Or.inr rfl))]; rfl
  · rw [wth_mem]
    exact ⟨Or.inl, fun h => h.elim id (fun e => absurd e hx)⟩
  · unfold remB
    rw [(may_iff _ _).2 m2, hs2]
    have hp := List.length_pos_iff.2 hm.1
    have hl2 : (wth V s).length = V.length + 1 := by unfold wth; rw [srt_length]; simp
    have : ((((wth V s).length : Nat) : Int) == 1) = false := by rw [beq_eq_false_iff_ne, hl2]; omega
    rw [this]; rfl
  · unfold remB
    rw [contains_no.2 hv, contains_no.2 hl, Bool.and_eq_false_iff]; exact Or.inr rfl
structure RemF (V L : List Int) (s : Int) : Prop where
  nom : (mem (wto V s) (wto L s)).contains s = false
  may : mayB (wto V s) (wto L s) = true
  sg : sglB V L (wto V s) (wto L s) = true
  len : (wto V s).length + (wto L s).length ≤ 17592186044416
theorem remF {V L : List Int} {s : Int} (h : remB V L s = true) : RemF V L s := by
  unfold remB at h
  rw [Bool.and_eq_true] at h
  obtain ⟨e1, h2⟩ := h
  have hm := (may_iff V L).1 e1
  have hne : wto V s ≠ [] := by
    cases e2 : V.contains s with
    | false => rw [wto_same (contains_no.1 e2)]; exact hm.1
    | true =>
      rw [e2] at h2
      intro e
      have h1 : ∀ x ∈ V, x = s := fun x hx => by
        apply Classical.byContradiction
        intro hn
        have := (wto_mem V s x).2 ⟨hx, hn⟩
        rw [e] at this; cases this
      have h3 : V = [s] := hm.2.1.ext ⟨by simp, fun x hx => by rw [List.mem_singleton.1 hx]; exact hm.2.1.2 s (contains_eq.1 e2)⟩ (fun x => by rw [List.mem_singleton]; exact ⟨h1 x, fun e => e ▸ contains_eq.1 e2⟩)
      rw [h3] at h2
      simp at h2
  have m1 : MayP (wto V s) (wto L s) := ⟨hne, hm.2.1.wto s, hm.2.2.1.wto s, fun x hx hy => hm.2.2.2 x ((wto_mem V s x).1 hx).1 ((wto_mem L s x).1 hy).1⟩
  have l1 := rise_len m1.2.1
  have l2 := rise_len m1.2.2.1
  refine ⟨?_, (may_iff _ _).2 m1, sgl_of hm m1 s (fun x hx => ?_), by omega⟩
  · rw [contains_no, mem_iff, wto_mem, wto_mem]
    rintro (h | h)
    · exact h.2 rfl
    · exact h.2 rfl
  · rw [wto_mem]
    exact ⟨fun h => ⟨h, hx⟩, fun h => h.1⟩
theorem row_other {wk : World} {D n : Nat} {v : Value} {l : List Int} (h : Row wk D v l) (hD : n < D) (x y : Value) : Row ((wk.setCell ⟨n, 0, none⟩ x).setCell ⟨n, 1, none⟩ y) D v l := by
  refine ⟨⟨h.own.1, ?_⟩, h.len⟩
  rcases h.own.2 with h2 | ⟨g, cap, cur, rfl, h3, h4, h5⟩
  · exact .inl h2
  · refine .inr ⟨g, cap, cur, rfl, h3, ?_, h5⟩
    rw [Below.heap_setCell _ ⟨n, 1, none⟩ _ g (by show g ≠ n; omega), Below.heap_setCell _ ⟨n, 0, none⟩ _ g (by show g ≠ n; omega)]
    exact h4
set_option maxHeartbeats 16000000 in
set_option maxRecDepth 100000 in
theorem lawSteps (w : World) (av al : Option Addr) (V L : List Int) (cv cl : Nat) (hV : Ints w av V) (hL : Ints w al L) (_bV : V.length ≤ 17592186043904) (_bL : L.length ≤ 17592186043904) (_kV : V.length ≤ cv) (_kL : L.length ≤ cl) (_wV : Wf V) (_wL : Wf L) (s : Int) (_hs : (Lit.int .i64 s).wf = true) : Calls Try.prog 7 #[.agg #[.slice av V.length cv, .slice al L.length cl], .int .i64 s] w fun e w' => e = .returned (.bool true) ∧ Below w.heap.size w w' := by
  have H0 := hidOf (Ch.begin cv cl ⟨hV, hL⟩)
  obtain ⟨w0, hw0⟩ : ∃ x, x = ((w.alloc (.cells #[.slice av V.length cv, .slice al L.length cl] 24)).alloc (.cells #[.slice none 0 0, .slice none 0 0] 24)) := ⟨_, rfl⟩
  have hsz : w0.heap.size = w.heap.size + 2 := by rw [hw0, World.size_alloc, World.size_alloc]
  have HLV : Hid (([] : List Int).length + V.length ≤ 17592186044416) := hidOf (by have := hV.len; simp; omega)
  have HLL : Hid (([] : List Int).length + L.length ≤ 17592186044416) := hidOf (by have := hL.len; simp; omega)
  rw [← hw0] at H0
  clear hV hL
  go_enter Try.func7, Try.ntmps7
  go_upto_region 2 with fail
  rw [← hw0]
  have HSZ := hidOf hsz
  clear hw0 hsz
  have qc0 : w0.cell? ⟨w.heap.size, 0, none⟩ = _ := H0.out.cs.bx.c0
  have qc1 : w0.cell? ⟨w.heap.size, 1, none⟩ = _ := H0.out.cs.bx.c1
  have qcl : w.heap.size < w0.heap.size := H0.out.cs.bx.lt
  have qcf : ∀ j, w0.frozen? ⟨w.heap.size, j, none⟩ = false := H0.out.cs.bx.fr
  have qe0 : w0.cell? ⟨w.heap.size + 1, 0, none⟩ = _ := H0.out.rs.c0
  have qe1 : w0.cell? ⟨w.heap.size + 1, 1, none⟩ = _ := H0.out.rs.c1
  have qel : w.heap.size + 1 < w0.heap.size := H0.out.rs.lt
  have qef : ∀ j, w0.frozen? ⟨w.heap.size + 1, j, none⟩ = false := H0.out.rs.fr
  go_wp2_with (at_builtin; refine wpList_app w0 rfl (.tmp 18) (.tmp 20) rfl w0.heap.size (.slice none 0 0) [] rfl (Row.nil _ _) av cv V rfl H0.out.cs.cf.v HLV.out (Nat.le_refl _) ?next1)
  case next1 =>
    intro v1 w1 hr1 hg1 _
    have hb1 := grown_below (Row.nil w0 w0.heap.size) hg1 (Nat.le_refl _)
    have H1 := hidOf (H0.out.grow hb1)
    obtain ⟨r1, k1, hv1, _, _, _, _⟩ := hr1.slice
    subst hv1
    have HR1 := hidOf hr1
    have HS1 := hidOf hb1.size
    clear hr1 hg1 hb1
    clear qc0 qc1 qcl qcf
    clear qe0 qe1 qel qef
    have qc0 : w1.cell? ⟨w.heap.size, 0, none⟩ = _ := H1.out.cs.bx.c0
    have qc1 : w1.cell? ⟨w.heap.size, 1, none⟩ = _ := H1.out.cs.bx.c1
    have qcl : w.heap.size < w1.heap.size := H1.out.cs.bx.lt
    have qcf : ∀ j, w1.frozen? ⟨w.heap.size, j, none⟩ = false := H1.out.cs.bx.fr
    have qe0 : w1.cell? ⟨w.heap.size + 1, 0, none⟩ = _ := H1.out.rs.c0
    have qe1 : w1.cell? ⟨w.heap.size + 1, 1, none⟩ = _ := H1.out.rs.c1
    have qel : w.heap.size + 1 < w1.heap.size := H1.out.rs.lt
    have qef : ∀ j, w1.frozen? ⟨w.heap.size + 1, j, none⟩ = false := H1.out.rs.fr
    go_upto_region 3 with fail
    obtain ⟨w2, hw2⟩ : ∃ x, x = w1.setCell ⟨w.heap.size + 1, 0, none⟩ (.slice r1 V.length k1) := ⟨_, rfl⟩
    have HU1 := hidOf ((H1.out.cs.cf.v.up).set1 H1.out.rs 0 (.slice r1 V.length k1))
    have HU2 := hidOf ((H1.out.cs.cf.l.up).set1 H1.out.rs 0 (.slice r1 V.length k1))
    have HU3 := hidOf ((HR1.out.ints.up).set1 H1.out.rs 0 (.slice r1 V.length k1))
    have HB1 := hidOf (bx_keep (j := 0) H1.out.cs.bx (k' := w.heap.size + 1) (by omega) (.slice r1 V.length k1))
    have HB2 := hidOf (H1.out.rs.set0 (.slice r1 V.length k1))
    have HE2 := hidOf (H1.out.cs.bel.setCell (p := ⟨w.heap.size + 1, 0, none⟩) (by show w.heap.size ≤ w.heap.size + 1; omega) (.slice r1 V.length k1))
    have hs2 : w2.heap.size = w1.heap.size := by rw [hw2]; simp
    rw [← hw2] at HU1 HU2 HU3 HB1 HB2 HE2 ⊢
    rw [← hs2] at HU1 HU2 HU3
    clear hw2 hs2
    clear qc0 qc1 qcl qcf
    clear qe0 qe1 qel qef
    have qc0 : w2.cell? ⟨w.heap.size, 0, none⟩ = _ := HB1.out.c0
    have qc1 : w2.cell? ⟨w.heap.size, 1, none⟩ = _ := HB1.out.c1
    have qcl : w.heap.size < w2.heap.size := HB1.out.lt
    have qcf : ∀ j, w2.frozen? ⟨w.heap.size, j, none⟩ = false := HB1.out.fr
    have qe0 : w2.cell? ⟨w.heap.size + 1, 0, none⟩ = _ := HB2.out.c0
    have qe1 : w2.cell? ⟨w.heap.size + 1, 1, none⟩ = _ := HB2.out.c1
    have qel : w.heap.size + 1 < w2.heap.size := HB2.out.lt
    have qef : ∀ j, w2.frozen? ⟨w.heap.size + 1, j, none⟩ = false := HB2.out.fr
    go_wp2_with (at_builtin; refine wpList_app w2 rfl (.tmp 24) (.tmp 26) rfl w2.heap.size (.slice none 0 0) [] rfl (Row.nil _ _) al cl L rfl (HU2.out.ints (Nat.le_refl _)) HLL.out (Nat.le_refl _) ?next2)
    case next2 =>
      intro v3 w3 hr3 hg3 _
      have hb3 := grown_below (Row.nil w2 w2.heap.size) hg3 (Nat.le_refl _)
      obtain ⟨r2, k2, hv3, _, _, _, _⟩ := hr3.slice
      subst hv3
      have HR3 := hidOf hr3
      have HB3 := hidOf hb3
      clear hr3 hg3 hb3
      clear qc0 qc1 qcl qcf
      clear qe0 qe1 qel qef
      have X1 := hidOf (HB1.out.grow HB3.out)
      have X2 := hidOf (HB2.out.grow HB3.out)
      have qc0 : w3.cell? ⟨w.heap.size, 0, none⟩ = _ := X1.out.c0
      have qc1 : w3.cell? ⟨w.heap.size, 1, none⟩ = _ := X1.out.c1
      have qcl : w.heap.size < w3.heap.size := X1.out.lt
      have qcf : ∀ j, w3.frozen? ⟨w.heap.size, j, none⟩ = false := X1.out.fr
      have qe0 : w3.cell? ⟨w.heap.size + 1, 0, none⟩ = _ := X2.out.c0
      have qe1 : w3.cell? ⟨w.heap.size + 1, 1, none⟩ = _ := X2.out.c1
      have qel : w.heap.size + 1 < w3.heap.size := X2.out.lt
      have qef : ∀ j, w3.frozen? ⟨w.heap.size + 1, j, none⟩ = false := X2.out.fr
      go_upto_region 4 with fail
      obtain ⟨z0, hz0⟩ : ∃ x, x = w3.setCell ⟨w.heap.size + 1, 1, none⟩ (.slice r2 L.length k2) := ⟨_, rfl⟩
      have HW0 : Hid (Ws w z0 z0.heap.size av al V L cv cl r1 r2 k1 k2) := hidOf (by
        have hs : z0.heap.size = w3.heap.size := by rw [hz0]; simp
        rw [hs]
        have hle := HB3.out.size
        have hn := HB2.out.lt
        rw [hz0]
        exact ⟨((HU1.out.keep HB3.out).wide hle).set1 X2.out 1 _, ((HU2.out.keep HB3.out).wide hle).set1 X2.out 1 _, ((HU3.out.keep HB3.out).wide hle).set1 X2.out 1 _, (HR3.out.ints.up).set1 X2.out 1 _, bx_keep X1.out (by omega) _, X2.out.set1 _, by omega, by simp, (below_then HE2.out HB3.out).setCell (p := ⟨w.heap.size + 1, 1, none⟩) (by show w.heap.size ≤ w.heap.size + 1; omega) _⟩)
      rw [← hz0]
      clear hz0 X1 X2 HB1 HB2 HB3 HU1 HU2 HU3 HE2 HR1 HR3 H1 HS1
      clear qc0 qc1 qcl qcf
      clear qe0 qe1 qel qef
      have qc0 : z0.cell? ⟨w.heap.size, 0, none⟩ = _ := HW0.out.bx.c0
      have qc1 : z0.cell? ⟨w.heap.size, 1, none⟩ = _ := HW0.out.bx.c1
      have qcl : w.heap.size < z0.heap.size := HW0.out.bx.lt
      have qcf : ∀ j, z0.frozen? ⟨w.heap.size, j, none⟩ = false := HW0.out.bx.fr
      cases hadd : addB V L s with
      | false =>
        have HAN := hidOf (add_no z0 av al V L cv cl s HW0.out.cf hadd)
        clear hadd
        go_upto_region 12 with (go_at_call 25; refine HAN.out.mono ?_; rintro e z1 ⟨rfl, hb⟩; have HZ1 := hidOf (HW0.out.grow hb); clear hb; clear qc0 qc1 qcl qcf)
        obtain ⟨y0, hy0⟩ : ∃ x, x = z1.alloc (.cells #[.slice none 0 0, .slice none 0 0] 24) := ⟨_, rfl⟩
        have HD0 : Hid (Bx y0 z1.heap.size (.slice none 0 0) (.slice none 0 0)) := hidOf (by rw [hy0]; exact bx_new z1 _ _)
        have HWY : Hid (Ws w y0 y0.heap.size av al V L cv cl r1 r2 k1 k2) := hidOf (by rw [hy0]; exact HZ1.out.grow (below1 z1 _))
        have hpn : w.heap.size + 1 < z1.heap.size := HZ1.out.nb
        rw [← hy0]
        clear hy0 HZ1 HAN HW0
        have HW0 := HWY
        clear HWY
        generalize z1.heap.size = p at HD0 hpn ⊢
        have HPN := hidOf hpn
        clear hpn
        cases hrem : remB V L s with
        | true =>
          obtain ⟨f1, f2, f3, f4⟩ := remF hrem
          have HF1 := hidOf f1
          have HF2 := hidOf f2
          have HF3 := hidOf f3
          have HF4 := hidOf f4
          have HRM := hidOf (remove_yes y0 av al V L cv cl s HW0.out.cf hrem)
          clear f1 f2 f3 f4 hrem
          have qc0 : y0.cell? ⟨w.heap.size, 0, none⟩ = _ := HW0.out.bx.c0
          have qc1 : y0.cell? ⟨w.heap.size, 1, none⟩ = _ := HW0.out.bx.c1
          have qcl : w.heap.size < y0.heap.size := HW0.out.bx.lt
          have qcf : ∀ j, y0.frozen? ⟨w.heap.size, j, none⟩ = false := HW0.out.bx.fr
          go_upto_region 13 with (go_at_call 29; refine HRM.out.mono ?_; rintro e y1 ⟨d1, i1, d2, i2, rfl, hr1, hr2, hb⟩; have HW1 := hidOf ((HW0.out.up).keep hb); have HD1 := hidOf (HD0.out.grow hb); have HR1 := hidOf hr1; have HR2 := hidOf hr2; clear hr1 hr2 hb; clear qc0 qc1 qcl qcf; have qe0 : y1.cell? ⟨p, 0, none⟩ = _ := HD1.out.c0; have qe1 : y1.cell? ⟨p, 1, none⟩ = _ := HD1.out.c1; have qel : p < y1.heap.size := HD1.out.lt; have qef : ∀ j, y1.frozen? ⟨p, j, none⟩ = false := HD1.out.fr)
          obtain ⟨y2, hy2⟩ : ∃ x, x = (y1.setCell ⟨p, 0, none⟩ (.slice d1 (wto V s).length i1)).setCell ⟨p, 1, none⟩ (.slice d2 (wto L s).length i2) := ⟨_, rfl⟩
          have HW2 : Hid (Ws w y2 y0.heap.size av al V L cv cl r1 r2 k1 k2) := hidOf (by rw [hy2]; exact HW1.out.setP HD1.out HPN.out d1 d1 d2 (wto V s).length i1 (wto L s).length i2 rfl)
          have HD2 : Hid (Bx y2 p (.slice d1 (wto V s).length i1) (.slice d2 (wto L s).length i2)) := hidOf (by rw [hy2]; exact HD1.out.set _ _)
          have HR12 : Hid (Row y2 y0.heap.size (.slice d1 (wto V s).length i1) (wto V s)) := hidOf (by rw [hy2]; exact row_other HR1.out HD0.out.lt _ _)
          have HR22 : Hid (Row y2 y0.heap.size (.slice d2 (wto L s).length i2) (wto L s)) := hidOf (by rw [hy2]; exact row_other HR2.out HD0.out.lt _ _)
          have HPB : Hid (p < y0.heap.size) := hidOf HD0.out.lt
          rw [← hy2]
          clear hy2 HR1 HR2
          clear qe0 qe1 qel qef
          have qe0 : y2.cell? ⟨p, 0, none⟩ = _ := HD2.out.c0
          have qe1 : y2.cell? ⟨p, 1, none⟩ = _ := HD2.out.c1
          have qel : p < y2.heap.size := HD2.out.lt
          have qef : ∀ j, y2.frozen? ⟨p, j, none⟩ = false := HD2.out.fr
          have HME := hidOf (members_any y2 d1 d2 (wto V s) (wto L s) i1 i2 ⟨HR12.out.ints, HR22.out.ints⟩ HF4.out)
          go_upto_region 17 with (first
            | (go_at_call 10; refine HME.out.mono ?_; rintro e y3 ⟨ma, mk, rfl, hi, hb⟩; have HW3 := hidOf (HW2.out.keep (hb.mono HW2.out.bs)); have HD3 := hidOf (HD2.out.grow hb); have HR13 := hidOf (HR12.out.grow hb); have HR23 := hidOf (HR22.out.grow hb); have hin := in_any y3 ma (mem (wto V s) (wto L s)) mk s hi; rw [HF1.out] at hin; have HIN := hidOf hin; clear hin hi hb; clear qe0 qe1 qel qef; have qe0 : y3.cell? ⟨p, 0, none⟩ = _ := HD3.out.c0; have qe1 : y3.cell? ⟨p, 1, none⟩ = _ := HD3.out.c1; have qel : p < y3.heap.size := HD3.out.lt; have qef : ∀ j, y3.frozen? ⟨p, j, none⟩ = false := HD3.out.fr; have hmy := may_any y3 d1 d2 (wto V s) (wto L s) i1 i2 ⟨HR13.out.ints, HR23.out.ints⟩; rw [HF2.out] at hmy; have HMY := hidOf hmy; clear hmy)
            | (go_at_call 17; refine HIN.out.mono ?_; rintro e zz ⟨rfl, hw⟩; subst zz)
            | (go_at_call 12; refine HMY.out.mono ?_; rintro e y4 ⟨rfl, hb⟩; have HW4 := hidOf (HW3.out.keep (hb.mono HW3.out.bs)); have HD4 := hidOf (HD3.out.grow hb); have HR14 := hidOf (HR13.out.grow hb); have HR24 := hidOf (HR23.out.grow hb); clear hb; clear qe0 qe1 qel qef; have qe0 : y4.cell? ⟨p, 0, none⟩ = _ := HD4.out.c0; have qe1 : y4.cell? ⟨p, 1, none⟩ = _ := HD4.out.c1; have qel : p < y4.heap.size := HD4.out.lt; have qef : ∀ j, y4.frozen? ⟨p, j, none⟩ = false := HD4.out.fr; have qc0 : y4.cell? ⟨w.heap.size, 0, none⟩ = _ := HW4.out.bx.c0; have qc1 : y4.cell? ⟨w.heap.size, 1, none⟩ = _ := HW4.out.bx.c1; have qcl : w.heap.size < y4.heap.size := HW4.out.bx.lt; have qcf : ∀ j, y4.frozen? ⟨w.heap.size, j, none⟩ = false := HW4.out.bx.fr; have hsg := single_any y4 av al V L cv cl d1 d2 (wto V s) (wto L s) i1 i2 HW4.out.cf ⟨HR14.out.ints, HR24.out.ints⟩; rw [HF3.out] at hsg; have HSG := hidOf hsg; clear hsg)
            | (go_at_call 23; refine HSG.out.mono ?_; rintro e y5 ⟨rfl, hb⟩; have HW := hidOf (HW4.out.keep (hb.mono HW4.out.bs)); have HDP0 := hidOf (HD4.out.grow hb); have W10 := hidOf (HR14.out.grow hb).wr; have W20 := hidOf (HR24.out.grow hb).wr; clear hb; clear qe0 qe1 qel qef; clear qc0 qc1 qcl qcf))
          have hnV : (wto V s).length ≤ 17592186044416 := by have := HF4.out; omega
          have hnL : (wto L s).length ≤ 17592186044416 := by have := HF4.out; omega
          have HF4' := HF4
          clear HF1 HF2 HF3 HF4 HRM HME HIN HMY HSG HW1 HW2 HW3 HW4 HD1 HD2 HD3 HD4 HR12 HR22 HR13 HR23 HR14 HR24 HF4'
          generalize (wto V s).length = nV at *
          generalize (wto L s).length = nL at *
          generalize y0.heap.size = B at *
          have HDP := HDP0
          have W1 := W10
          have W2 := W20
          clear HDP0 W10 W20
          have qe0 : y5.cell? ⟨p, 0, none⟩ = _ := HDP.out.c0
          have qe1 : y5.cell? ⟨p, 1, none⟩ = _ := HDP.out.c1
          have qel : p < y5.heap.size := HDP.out.lt
          have qef : ∀ j, y5.frozen? ⟨p, j, none⟩ = false := HDP.out.fr
          have HNV : Hid (nV ≤ 17592186044416) := hidOf hnV
          have HNL : Hid (nL ≤ 17592186044416) := hidOf hnL
          go_wp2
          clear qe0 qe1 qel qef
          go_loopw [13] (fun i wr => ∃ k : Nat, i = .int .i64 (k : Int) ∧ k ≤ nV ∧ Hid (Ws w wr B av al V L cv cl r1 r2 k1 k2) ∧ Hid (Bx wr p (.slice d1 nV i1) (.slice d2 nL i2)) ∧ Hid (Wr wr B d1 nV) ∧ Hid (Wr wr B d2 nL)) (fun i _ => nV - (intOf i).toNat)
          case atStart => exact ⟨0, rfl, Nat.zero_le _, HW, HDP, W1, W2⟩
          case round =>
            clear HW HDP W1 W2
            obtain ⟨k, rfl, hk, HW, HDP, W1, W2⟩ := hrel
            obtain ⟨wq, hwq⟩ : ∃ x, x = wr := ⟨_, rfl⟩
            subst hwq
            have e0 := HDP.out.c0
            have e1 := HDP.out.c1
            have el := HDP.out.lt
            by_cases hlt : k < nV
            · have hltz : (k : Int) < (nV : Int) := by omega
              obtain ⟨g, cur, x, hga, hgB, hgh, hgc, hgf, hgl⟩ := W1.out.at hlt
              subst hga
              have HGH := hidOf hgh
              have HGB := hidOf hgB
              clear hgh hgB
              go_wp2
              go_roundw
              case rel => exact ⟨k + 1, by go_num, by omega, hidOf (HW.out.keep ((Below.refl _ _).setCell (p := ⟨g, k, none⟩) HGB.out _)), hidOf (bx_keep HDP.out (by have h1 := HGB.out; have h2 := HPB.out; omega) _), hidOf (W1.out.set HGH.out _), hidOf (W2.out.set HGH.out _)⟩
              case measure => simp [intOf]; omega
            · have hkn : nV = k := by omega
              subst hkn
              have hltz : ¬ (nV : Int) < (nV : Int) := by omega
              go_wp2
              clear e0 e1 el
              go_loopw [14] (fun i wr => ∃ k : Nat, i = .int .i64 (k : Int) ∧ k ≤ nL ∧ Hid (Ws w wr B av al V L cv cl r1 r2 k1 k2) ∧ Hid (Bx wr p (.slice d1 nV i1) (.slice d2 nL i2)) ∧ Hid (Wr wr B d1 nV) ∧ Hid (Wr wr B d2 nL)) (fun i _ => nL - (intOf i).toNat)
              case atStart => exact ⟨0, rfl, Nat.zero_le _, HW, HDP, W1, W2⟩
              case round =>
                clear HW HDP W1 W2
                obtain ⟨k, rfl, hk, HW, HDP, W1, W2⟩ := hrel
                obtain ⟨wq, hwq⟩ : ∃ x, x = wr := ⟨_, rfl⟩
                subst hwq
                have e0 := HDP.out.c0
                have e1 := HDP.out.c1
                have el := HDP.out.lt
                by_cases hlt : k < nL
                · have hltz : (k : Int) < (nL : Int) := by omega
                  obtain ⟨g, cur, x, hga, hgB, hgh, hgc, hgf, hgl⟩ := W2.out.at hlt
                  subst hga
                  have HGH := hidOf hgh
                  have HGB := hidOf hgB
                  clear hgh hgB
                  go_wp2
                  go_roundw
                  case rel => exact ⟨k + 1, by go_num, by omega, hidOf (HW.out.keep ((Below.refl _ _).setCell (p := ⟨g, k, none⟩) HGB.out _)), hidOf (bx_keep HDP.out (by have h1 := HGB.out; have h2 := HPB.out; omega) _), hidOf (W1.out.set HGH.out _), hidOf (W2.out.set HGH.out _)⟩
                  case measure => simp [intOf]; omega
                · have hkn : nL = k := by omega
                  subst hkn
                  have hltz : ¬ (nL : Int) < (nL : Int) := by omega
                  have hc0 := HW.out.bx.c0
                  have hc1 := HW.out.bx.c1
                  have hcl := HW.out.bx.lt
                  have hw0 : wq.cell? ⟨w.heap.size + 1, 0, none⟩ = _ := HW.out.wb.c0
                  have hw1 : wq.cell? ⟨w.heap.size + 1, 1, none⟩ = _ := HW.out.wb.c1
                  have hwl : w.heap.size + 1 < wq.heap.size := HW.out.wb.lt
                  have hsm := rsame_any wq av al V L cv cl r1 r2 V L k1 k2 HW.out.cf HW.out.wf
                  rw [same_self] at hsm
                  have HSM := hidOf hsm
                  clear hsm
                  go_wp2_with (first
                    | (go_at_call 15; refine HSM.out.mono ?_; rintro e u1 ⟨rfl, hb⟩; have HB1 := hidOf (below_then HW.out.bel hb); clear hb)
                    | (go_at_call 18; refine (lives_any _).mono ?_; rintro e wl ⟨rfl, hb⟩; have HBL := hidOf hb; clear hb))
                  go_ret
                  exact ⟨rfl, below_then HB1.out HBL.out⟩

        | false =>
          have HRM := hidOf (remove_no y0 av al V L cv cl s HW0.out.cf hrem)
          clear hrem
          have qc0 : y0.cell? ⟨w.heap.size, 0, none⟩ = _ := HW0.out.bx.c0
          have qc1 : y0.cell? ⟨w.heap.size, 1, none⟩ = _ := HW0.out.bx.c1
          have qcl : w.heap.size < y0.heap.size := HW0.out.bx.lt
          have qcf : ∀ j, y0.frozen? ⟨w.heap.size, j, none⟩ = false := HW0.out.bx.fr
          go_upto_region 17 with (go_at_call 29; refine HRM.out.mono ?_; rintro e y1 ⟨rfl, hb⟩; have HW1 := hidOf ((HW0.out.up).keep hb); have HD1 := hidOf (HD0.out.grow hb); clear hb; clear qc0 qc1 qcl qcf; have qe0 : y1.cell? ⟨p, 0, none⟩ = _ := HD1.out.c0; have qe1 : y1.cell? ⟨p, 1, none⟩ = _ := HD1.out.c1; have qel : p < y1.heap.size := HD1.out.lt; have qef : ∀ j, y1.frozen? ⟨p, j, none⟩ = false := HD1.out.fr)
          obtain ⟨y5, hy5⟩ : ∃ x, x = (y1.setCell ⟨p, 0, none⟩ (.slice none 0 0)).setCell ⟨p, 1, none⟩ (.slice none 0 0) := ⟨_, rfl⟩
          have HW : Hid (Ws w y5 y0.heap.size av al V L cv cl r1 r2 k1 k2) := hidOf (by rw [hy5]; exact HW1.out.setP HD1.out HPN.out none none none 0 0 0 0 rfl)
          have HDP0 : Hid (Bx y5 p (.slice none 0 0) (.slice none 0 0)) := hidOf (by rw [hy5]; exact HD1.out.set _ _)
          have HPB : Hid (p < y0.heap.size) := hidOf HD0.out.lt
          rw [← hy5]
          clear hy5 HW1 HD1 HRM
          clear qe0 qe1 qel qef
          obtain ⟨nV, hnV0⟩ : ∃ n : Nat, n = 0 := ⟨0, rfl⟩
          obtain ⟨nL, hnL0⟩ : ∃ n : Nat, n = 0 := ⟨0, rfl⟩
          obtain ⟨i1, hi1⟩ : ∃ n : Nat, n = 0 := ⟨0, rfl⟩
          obtain ⟨i2, hi2⟩ : ∃ n : Nat, n = 0 := ⟨0, rfl⟩
          obtain ⟨d1, hd1⟩ : ∃ a : Option Addr, a = none := ⟨none, rfl⟩
          obtain ⟨d2, hd2⟩ : ∃ a : Option Addr, a = none := ⟨none, rfl⟩
          have W1 : Hid (Wr y5 y0.heap.size d1 nV) := hidOf (fun h => absurd h (by omega))
          have W2 : Hid (Wr y5 y0.heap.size d2 nL) := hidOf (fun h => absurd h (by omega))
          have HDP : Hid (Bx y5 p (.slice d1 nV i1) (.slice d2 nL i2)) := hidOf (by rw [hnV0, hnL0, hi1, hi2, hd1, hd2]; exact HDP0.out)
          have hnV : nV ≤ 17592186044416 := by omega
          have hnL : nL ≤ 17592186044416 := by omega
          clear hnV0 hnL0 hi1 hi2 hd1 hd2 HDP0
          generalize y0.heap.size = B at *
          have qe0 : y5.cell? ⟨p, 0, none⟩ = _ := HDP.out.c0
          have qe1 : y5.cell? ⟨p, 1, none⟩ = _ := HDP.out.c1
          have qel : p < y5.heap.size := HDP.out.lt
          have qef : ∀ j, y5.frozen? ⟨p, j, none⟩ = false := HDP.out.fr
          have HNV : Hid (nV ≤ 17592186044416) := hidOf hnV
          have HNL : Hid (nL ≤ 17592186044416) := hidOf hnL
          go_wp2
          clear qe0 qe1 qel qef
          go_loopw [13] (fun i wr => ∃ k : Nat, i = .int .i64 (k : Int) ∧ k ≤ nV ∧ Hid (Ws w wr B av al V L cv cl r1 r2 k1 k2) ∧ Hid (Bx wr p (.slice d1 nV i1) (.slice d2 nL i2)) ∧ Hid (Wr wr B d1 nV) ∧ Hid (Wr wr B d2 nL)) (fun i _ => nV - (intOf i).toNat)
          case atStart => exact ⟨0, rfl, Nat.zero_le _, HW, HDP, W1, W2⟩
          case round =>
            clear HW HDP W1 W2
            obtain ⟨k, rfl, hk, HW, HDP, W1, W2⟩ := hrel
            obtain ⟨wq, hwq⟩ : ∃ x, x = wr := ⟨_, rfl⟩
            subst hwq
            have e0 := HDP.out.c0
            have e1 := HDP.out.c1
            have el := HDP.out.lt
            by_cases hlt : k < nV
            · have hltz : (k : Int) < (nV : Int) := by omega
              obtain ⟨g, cur, x, hga, hgB, hgh, hgc, hgf, hgl⟩ := W1.out.at hlt
              subst hga
              have HGH := hidOf hgh
              have HGB := hidOf hgB
              clear hgh hgB
              go_wp2
              go_roundw
              case rel => exact ⟨k + 1, by go_num, by omega, hidOf (HW.out.keep ((Below.refl _ _).setCell (p := ⟨g, k, none⟩) HGB.out _)), hidOf (bx_keep HDP.out (by have h1 := HGB.out; have h2 := HPB.out; omega) _), hidOf (W1.out.set HGH.out _), hidOf (W2.out.set HGH.out _)⟩
              case measure => simp [intOf]; omega
            · have hkn : nV = k := by omega
              subst hkn
              have hltz : ¬ (nV : Int) < (nV : Int) := by omega
              go_wp2
              clear e0 e1 el
              go_loopw [14] (fun i wr => ∃ k : Nat, i = .int .i64 (k : Int) ∧ k ≤ nL ∧ Hid (Ws w wr B av al V L cv cl r1 r2 k1 k2) ∧ Hid (Bx wr p (.slice d1 nV i1) (.slice d2 nL i2)) ∧ Hid (Wr wr B d1 nV) ∧ Hid (Wr wr B d2 nL)) (fun i _ => nL - (intOf i).toNat)
              case atStart => exact ⟨0, rfl, Nat.zero_le _, HW, HDP, W1, W2⟩
              case round =>
                clear HW HDP W1 W2
                obtain ⟨k, rfl, hk, HW, HDP, W1, W2⟩ := hrel
                obtain ⟨wq, hwq⟩ : ∃ x, x = wr := ⟨_, rfl⟩
                subst hwq
                have e0 := HDP.out.c0
                have e1 := HDP.out.c1
                have el := HDP.out.lt
                by_cases hlt : k < nL
                · have hltz : (k : Int) < (nL : Int) := by omega
                  obtain ⟨g, cur, x, hga, hgB, hgh, hgc, hgf, hgl⟩ := W2.out.at hlt
                  subst hga
                  have HGH := hidOf hgh
                  have HGB := hidOf hgB
                  clear hgh hgB
                  go_wp2
                  go_roundw
                  case rel => exact ⟨k + 1, by go_num, by omega, hidOf (HW.out.keep ((Below.refl _ _).setCell (p := ⟨g, k, none⟩) HGB.out _)), hidOf (bx_keep HDP.out (by have h1 := HGB.out; have h2 := HPB.out; omega) _), hidOf (W1.out.set HGH.out _), hidOf (W2.out.set HGH.out _)⟩
                  case measure => simp [intOf]; omega
                · have hkn : nL = k := by omega
                  subst hkn
                  have hltz : ¬ (nL : Int) < (nL : Int) := by omega
                  have hc0 := HW.out.bx.c0
                  have hc1 := HW.out.bx.c1
                  have hcl := HW.out.bx.lt
                  have hw0 : wq.cell? ⟨w.heap.size + 1, 0, none⟩ = _ := HW.out.wb.c0
                  have hw1 : wq.cell? ⟨w.heap.size + 1, 1, none⟩ = _ := HW.out.wb.c1
                  have hwl : w.heap.size + 1 < wq.heap.size := HW.out.wb.lt
                  have hsm := rsame_any wq av al V L cv cl r1 r2 V L k1 k2 HW.out.cf HW.out.wf
                  rw [same_self] at hsm
                  have HSM := hidOf hsm
                  clear hsm
                  go_wp2_with (first
                    | (go_at_call 15; refine HSM.out.mono ?_; rintro e u1 ⟨rfl, hb⟩; have HB1 := hidOf (below_then HW.out.bel hb); clear hb)
                    | (go_at_call 18; refine (lives_any _).mono ?_; rintro e wl ⟨rfl, hb⟩; have HBL := hidOf hb; clear hb))
                  go_ret
                  exact ⟨rfl, below_then HB1.out HBL.out⟩

      | true =>
        obtain ⟨f1, f2, f3, f4, f5, f6, f7, f8, f9, f10, f11⟩ := addF hadd
        have HAY := hidOf (add_yes z0 av al V L cv cl s HW0.out.cf hadd)
        have HF3 := hidOf f3
        have HF4 := hidOf f4
        have HF5 := hidOf f5
        have HF6 := hidOf f6
        have HF7 := hidOf f7
        have hrem := f11
        clear hadd f3 f4 f5 f6 f7 f11
        go_upto_region 6 with (go_at_call 25; refine HAY.out.mono ?_; rintro e z1 ⟨g1, j1, g2, j2, rfl, hr1, hr2, hb⟩; have HZ1 := hidOf (HW0.out.grow hb); have RG1 := hidOf hr1.ints; have RG2 := hidOf hr2.ints; clear hr1 hr2 hb; clear qc0 qc1 qcl qcf)
        obtain ⟨z2, hz2⟩ : ∃ x, x = z1.alloc (.cells #[.slice g1 V.length j1, .slice g2 (wth L s).length j2] 24) := ⟨_, rfl⟩
        have HB2 : Hid (Below z1.heap.size z1 z2) := hidOf (by rw [hz2]; exact below1 z1 _)
        have HD2 : Hid (Bx z2 z1.heap.size (.slice g1 V.length j1) (.slice g2 (wth L s).length j2)) := hidOf (by rw [hz2]; exact bx_new z1 _ _)
        rw [← hz2]
        have hpn : w.heap.size + 1 < z1.heap.size := HZ1.out.nb
        have HW2 := hidOf (HZ1.out.grow HB2.out)
        have GI1 := hidOf (RG1.out.grow HB2.out)
        have GI2 := hidOf (RG2.out.grow HB2.out)
        clear hz2 HB2 RG1 RG2 HZ1
        generalize z1.heap.size = p at HD2 hpn ⊢
        have HPN := hidOf hpn
        clear hpn
        have hpr := promote_yes z2 g1 g2 V (wth L s) j1 j2 s ⟨GI1.out, GI2.out⟩ f1
        rw [f2] at hpr
        have HPR := hidOf hpr
        clear hpr f1 f2
        have qe0 : z2.cell? ⟨p, 0, none⟩ = _ := HD2.out.c0
        have qe1 : z2.cell? ⟨p, 1, none⟩ = _ := HD2.out.c1
        have qel : p < z2.heap.size := HD2.out.lt
        have qef : ∀ j, z2.frozen? ⟨p, j, none⟩ = false := HD2.out.fr
        go_upto_region 7 with (go_at_call 27; refine HPR.out.mono ?_; rintro e z3 ⟨h1, m1, h2, m2, rfl, hr1, hr2, hb⟩; have HW3 := hidOf (HW2.out.grow hb); have HD3 := hidOf (HD2.out.grow hb); have GI3 := hidOf (GI1.out.grow hb); have GI4 := hidOf (GI2.out.grow hb); have FI1 := hidOf hr1.ints; have FI2 := hidOf hr2.ints; clear hr1 hr2 hb; clear qe0 qe1 qel qef)
        obtain ⟨z4, hz4⟩ : ∃ x, x = z3.alloc (.cells #[.slice h1 (wth V s).length m1, .slice h2 L.length m2] 24) := ⟨_, rfl⟩
        have HB4 : Hid (Below z3.heap.size z3 z4) := hidOf (by rw [hz4]; exact below1 z3 _)
        have HF4x : Hid (Bx z4 z3.heap.size (.slice h1 (wth V s).length m1) (.slice h2 L.length m2)) := hidOf (by rw [hz4]; exact bx_new z3 _ _)
        rw [← hz4]
        clear hz4
        generalize hpf : z3.heap.size = pf at HF4x ⊢
        have A4 : Hid (Aa w z4 p pf av al V L cv cl r1 r2 k1 k2 (wth L s) (wth V s) g1 g2 h1 h2 j1 j2 m1 m2) := hidOf ⟨HW3.out.grow HB4.out, HD3.out.grow HB4.out, HF4x.out, GI3.out.grow HB4.out, GI4.out.grow HB4.out, FI1.out.grow HB4.out, FI2.out.grow HB4.out⟩
        clear hpf HB4 HF4x HW3 HD3 GI3 GI4 FI1 FI2 HW2 HD2 GI1 GI2 HAY HPR HW0
        have hmy := may_any z4 g1 g2 V (wth L s) j1 j2 ⟨A4.out.i1, A4.out.i2⟩
        rw [HF3.out] at hmy
        have HMY := hidOf hmy
        clear hmy
        have qc0 : z4.cell? ⟨w.heap.size, 0, none⟩ = _ := A4.out.ws.bx.c0
        have qc1 : z4.cell? ⟨w.heap.size, 1, none⟩ = _ := A4.out.ws.bx.c1
        have qcl : w.heap.size < z4.heap.size := A4.out.ws.bx.lt
        have qcf : ∀ j, z4.frozen? ⟨w.heap.size, j, none⟩ = false := A4.out.ws.bx.fr
        have qe0 : z4.cell? ⟨p, 0, none⟩ = _ := A4.out.bp.c0
        have qe1 : z4.cell? ⟨p, 1, none⟩ = _ := A4.out.bp.c1
        have qel : p < z4.heap.size := A4.out.bp.lt
        have qef : ∀ j, z4.frozen? ⟨p, j, none⟩ = false := A4.out.bp.fr
        have qg0 : z4.cell? ⟨pf, 0, none⟩ = _ := A4.out.bf.c0
        have qg1 : z4.cell? ⟨pf, 1, none⟩ = _ := A4.out.bf.c1
        have qgl : pf < z4.heap.size := A4.out.bf.lt
        have qgf : ∀ j, z4.frozen? ⟨pf, j, none⟩ = false := A4.out.bf.fr
        go_upto_region 9 with (first
          | (go_at_call 12; refine HMY.out.mono ?_; rintro e z5 ⟨rfl, hb⟩; have A5 := hidOf (A4.out.grow hb); clear hb HMY; clear qc0 qc1 qcl qcf; clear qe0 qe1 qel qef; clear qg0 qg1 qgl qgf; have qc0 : z5.cell? ⟨w.heap.size, 0, none⟩ = _ := A5.out.ws.bx.c0; have qc1 : z5.cell? ⟨w.heap.size, 1, none⟩ = _ := A5.out.ws.bx.c1; have qcl : w.heap.size < z5.heap.size := A5.out.ws.bx.lt; have qcf : ∀ j, z5.frozen? ⟨w.heap.size, j, none⟩ = false := A5.out.ws.bx.fr; have qe0 : z5.cell? ⟨p, 0, none⟩ = _ := A5.out.bp.c0; have qe1 : z5.cell? ⟨p, 1, none⟩ = _ := A5.out.bp.c1; have qel : p < z5.heap.size := A5.out.bp.lt; have qef : ∀ j, z5.frozen? ⟨p, j, none⟩ = false := A5.out.bp.fr; have qg0 : z5.cell? ⟨pf, 0, none⟩ = _ := A5.out.bf.c0; have qg1 : z5.cell? ⟨pf, 1, none⟩ = _ := A5.out.bf.c1; have qgl : pf < z5.heap.size := A5.out.bf.lt; have qgf : ∀ j, z5.frozen? ⟨pf, j, none⟩ = false := A5.out.bf.fr; have hsg := single_any z5 av al V L cv cl g1 g2 V (wth L s) j1 j2 A5.out.ws.cf ⟨A5.out.i1, A5.out.i2⟩; rw [HF4.out] at hsg; have HSG := hidOf hsg; clear hsg)
          | (go_at_call 23; refine HSG.out.mono ?_; rintro e z6 ⟨rfl, hb⟩; have A6 := hidOf (A5.out.grow hb); clear hb HSG; clear qc0 qc1 qcl qcf; clear qe0 qe1 qel qef; clear qg0 qg1 qgl qgf; have qc0 : z6.cell? ⟨w.heap.size, 0, none⟩ = _ := A6.out.ws.bx.c0; have qc1 : z6.cell? ⟨w.heap.size, 1, none⟩ = _ := A6.out.ws.bx.c1; have qcl : w.heap.size < z6.heap.size := A6.out.ws.bx.lt; have qcf : ∀ j, z6.frozen? ⟨w.heap.size, j, none⟩ = false := A6.out.ws.bx.fr; have qe0 : z6.cell? ⟨p, 0, none⟩ = _ := A6.out.bp.c0; have qe1 : z6.cell? ⟨p, 1, none⟩ = _ := A6.out.bp.c1; have qel : p < z6.heap.size := A6.out.bp.lt; have qef : ∀ j, z6.frozen? ⟨p, j, none⟩ = false := A6.out.bp.fr; have qg0 : z6.cell? ⟨pf, 0, none⟩ = _ := A6.out.bf.c0; have qg1 : z6.cell? ⟨pf, 1, none⟩ = _ := A6.out.bf.c1; have qgl : pf < z6.heap.size := A6.out.bf.lt; have qgf : ∀ j, z6.frozen? ⟨pf, j, none⟩ = false := A6.out.bf.fr; have hvo := voter_any z6 g1 g2 V (wth L s) j1 j2 s A6.out.i1; rw [HF5.out] at hvo; have HVO := hidOf hvo; clear hvo)
          | (go_at_call 16; refine HVO.out.mono ?_; rintro e z7 ⟨rfl, hb⟩; have A7 := hidOf (A6.out.grow hb); clear hb HVO; clear qc0 qc1 qcl qcf; clear qe0 qe1 qel qef; clear qg0 qg1 qgl qgf; have qc0 : z7.cell? ⟨w.heap.size, 0, none⟩ = _ := A7.out.ws.bx.c0; have qc1 : z7.cell? ⟨w.heap.size, 1, none⟩ = _ := A7.out.ws.bx.c1; have qcl : w.heap.size < z7.heap.size := A7.out.ws.bx.lt; have qcf : ∀ j, z7.frozen? ⟨w.heap.size, j, none⟩ = false := A7.out.ws.bx.fr; have qe0 : z7.cell? ⟨p, 0, none⟩ = _ := A7.out.bp.c0; have qe1 : z7.cell? ⟨p, 1, none⟩ = _ := A7.out.bp.c1; have qel : p < z7.heap.size := A7.out.bp.lt; have qef : ∀ j, z7.frozen? ⟨p, j, none⟩ = false := A7.out.bp.fr; have qg0 : z7.cell? ⟨pf, 0, none⟩ = _ := A7.out.bf.c0; have qg1 : z7.cell? ⟨pf, 1, none⟩ = _ := A7.out.bf.c1; have qgl : pf < z7.heap.size := A7.out.bf.lt; have qgf : ∀ j, z7.frozen? ⟨pf, j, none⟩ = false := A7.out.bf.fr; have hvo := voter_any z7 h1 h2 (wth V s) L m1 m2 s A7.out.i3; rw [HF6.out] at hvo; have HVP := hidOf hvo; clear hvo)
          | (go_at_call 16; refine HVP.out.mono ?_; rintro e z8 ⟨rfl, hb⟩; have A8 := hidOf (A7.out.grow hb); clear hb HVP; clear qc0 qc1 qcl qcf; clear qe0 qe1 qel qef; clear qg0 qg1 qgl qgf; have qc0 : z8.cell? ⟨w.heap.size, 0, none⟩ = _ := A8.out.ws.bx.c0; have qc1 : z8.cell? ⟨w.heap.size, 1, none⟩ = _ := A8.out.ws.bx.c1; have qcl : w.heap.size < z8.heap.size := A8.out.ws.bx.lt; have qcf : ∀ j, z8.frozen? ⟨w.heap.size, j, none⟩ = false := A8.out.ws.bx.fr; have qe0 : z8.cell? ⟨p, 0, none⟩ = _ := A8.out.bp.c0; have qe1 : z8.cell? ⟨p, 1, none⟩ = _ := A8.out.bp.c1; have qel : p < z8.heap.size := A8.out.bp.lt; have qef : ∀ j, z8.frozen? ⟨p, j, none⟩ = false := A8.out.bp.fr; have qg0 : z8.cell? ⟨pf, 0, none⟩ = _ := A8.out.bf.c0; have qg1 : z8.cell? ⟨pf, 1, none⟩ = _ := A8.out.bf.c1; have qgl : pf < z8.heap.size := A8.out.bf.lt; have qgf : ∀ j, z8.frozen? ⟨pf, j, none⟩ = false := A8.out.bf.fr; have hsg := single_any z8 g1 g2 V (wth L s) j1 j2 h1 h2 (wth V s) L m1 m2 ⟨A8.out.i1, A8.out.i2⟩ ⟨A8.out.i3, A8.out.i4⟩; rw [HF7.out] at hsg; have HSH := hidOf hsg; clear hsg)
          | (go_at_call 23; refine HSH.out.mono ?_; rintro e z9 ⟨rfl, hb⟩; have A9 := hidOf (A8.out.grow hb); clear hb HSH; clear qc0 qc1 qcl qcf; clear qe0 qe1 qel qef; clear qg0 qg1 qgl qgf; have qc0 : z9.cell? ⟨w.heap.size, 0, none⟩ = _ := A9.out.ws.bx.c0; have qc1 : z9.cell? ⟨w.heap.size, 1, none⟩ = _ := A9.out.ws.bx.c1; have qcl : w.heap.size < z9.heap.size := A9.out.ws.bx.lt; have qcf : ∀ j, z9.frozen? ⟨w.heap.size, j, none⟩ = false := A9.out.ws.bx.fr; have qe0 : z9.cell? ⟨p, 0, none⟩ = _ := A9.out.bp.c0; have qe1 : z9.cell? ⟨p, 1, none⟩ = _ := A9.out.bp.c1; have qel : p < z9.heap.size := A9.out.bp.lt; have qef : ∀ j, z9.frozen? ⟨p, j, none⟩ = false := A9.out.bp.fr; have qg0 : z9.cell? ⟨pf, 0, none⟩ = _ := A9.out.bf.c0; have qg1 : z9.cell? ⟨pf, 1, none⟩ = _ := A9.out.bf.c1; have qgl : pf < z9.heap.size := A9.out.bf.lt; have qgf : ∀ j, z9.frozen? ⟨pf, j, none⟩ = false := A9.out.bf.fr))
        have hrv := remove_yes z9 h1 h2 (wth V s) L m1 m2 s ⟨A9.out.i3, A9.out.i4⟩ f8
        rw [f9, f10] at hrv
        have HRV := hidOf hrv
        clear hrv f8 f9 f10 HF3 HF4 HF5 HF6 HF7
        go_upto_region 10 with (go_at_call 29; refine HRV.out.mono ?_; rintro e z10 ⟨o1, n1, o2, n2, rfl, hr1, hr2, hb⟩; have A10 := hidOf (A9.out.grow hb); have OI1 := hidOf hr1.ints; have OI2 := hidOf hr2.ints; clear hr1 hr2 hb; clear qc0 qc1 qcl qcf; clear qe0 qe1 qel qef; clear qg0 qg1 qgl qgf)
        obtain ⟨z11, hz11⟩ : ∃ x, x = z10.alloc (.cells #[.slice o1 V.length n1, .slice o2 L.length n2] 24) := ⟨_, rfl⟩
        have HB11 : Hid (Below z10.heap.size z10 z11) := hidOf (by rw [hz11]; exact below1 z10 _)
        have HD11 : Hid (Bx z11 z10.heap.size (.slice o1 V.length n1) (.slice o2 L.length n2)) := hidOf (by rw [hz11]; exact bx_new z10 _ _)
        rw [← hz11]
        clear hz11
        generalize z10.heap.size = ph at HD11 ⊢
        have A11 := hidOf (A10.out.grow HB11.out)
        have hsa := csame_any z11 o1 o2 V L n1 n2 av al V L cv cl ⟨OI1.out.grow HB11.out, OI2.out.grow HB11.out⟩ A11.out.ws.cf
        rw [same_self] at hsa
        have HSA := hidOf hsa
        clear hsa HRV OI1 OI2 A10 HB11
        have qe0 : z11.cell? ⟨ph, 0, none⟩ = _ := HD11.out.c0
        have qe1 : z11.cell? ⟨ph, 1, none⟩ = _ := HD11.out.c1
        have qel : ph < z11.heap.size := HD11.out.lt
        have qef : ∀ j, z11.frozen? ⟨ph, j, none⟩ = false := HD11.out.fr
        have qc0 : z11.cell? ⟨w.heap.size, 0, none⟩ = _ := A11.out.ws.bx.c0
        have qc1 : z11.cell? ⟨w.heap.size, 1, none⟩ = _ := A11.out.ws.bx.c1
        have qcl : w.heap.size < z11.heap.size := A11.out.ws.bx.lt
        have qcf : ∀ j, z11.frozen? ⟨w.heap.size, j, none⟩ = false := A11.out.ws.bx.fr
        go_upto_region 12 with (go_at_call 14; refine HSA.out.mono ?_; rintro e y0 ⟨rfl, hb⟩; have A12 := hidOf (A11.out.grow hb); clear hb; clear qe0 qe1 qel qef; clear qc0 qc1 qcl qcf)
        have HW0 := hidOf A12.out.ws
        have HD0 := hidOf A12.out.bp
        clear HSA HD11 A4 A5 A6 A7 A8 A9 A11 A12
        have HRM := hidOf (remove_no y0 av al V L cv cl s HW0.out.cf hrem)
        clear hrem
        have qc0 : y0.cell? ⟨w.heap.size, 0, none⟩ = _ := HW0.out.bx.c0
        have qc1 : y0.cell? ⟨w.heap.size, 1, none⟩ = _ := HW0.out.bx.c1
        have qcl : w.heap.size < y0.heap.size := HW0.out.bx.lt
        have qcf : ∀ j, y0.frozen? ⟨w.heap.size, j, none⟩ = false := HW0.out.bx.fr
        go_upto_region 17 with (go_at_call 29; refine HRM.out.mono ?_; rintro e y1 ⟨rfl, hb⟩; have HW1 := hidOf ((HW0.out.up).keep hb); have HD1 := hidOf (HD0.out.grow hb); clear hb; clear qc0 qc1 qcl qcf; have qe0 : y1.cell? ⟨p, 0, none⟩ = _ := HD1.out.c0; have qe1 : y1.cell? ⟨p, 1, none⟩ = _ := HD1.out.c1; have qel : p < y1.heap.size := HD1.out.lt; have qef : ∀ j, y1.frozen? ⟨p, j, none⟩ = false := HD1.out.fr)
        obtain ⟨y5, hy5⟩ : ∃ x, x = (y1.setCell ⟨p, 0, none⟩ (.slice none 0 0)).setCell ⟨p, 1, none⟩ (.slice none 0 0) := ⟨_, rfl⟩
        have HW : Hid (Ws w y5 y0.heap.size av al V L cv cl r1 r2 k1 k2) := hidOf (by rw [hy5]; exact HW1.out.setP HD1.out HPN.out none none none 0 0 0 0 rfl)
        have HDP0 : Hid (Bx y5 p (.slice none 0 0) (.slice none 0 0)) := hidOf (by rw [hy5]; exact HD1.out.set _ _)
        have HPB : Hid (p < y0.heap.size) := hidOf HD0.out.lt
        rw [← hy5]
        clear hy5 HW1 HD1 HRM
        clear qe0 qe1 qel qef
        obtain ⟨nV, hnV0⟩ : ∃ n : Nat, n = 0 := ⟨0, rfl⟩
        obtain ⟨nL, hnL0⟩ : ∃ n : Nat, n = 0 := ⟨0, rfl⟩
        obtain ⟨i1, hi1⟩ : ∃ n : Nat, n = 0 := ⟨0, rfl⟩
        obtain ⟨i2, hi2⟩ : ∃ n : Nat, n = 0 := ⟨0, rfl⟩
        obtain ⟨d1, hd1⟩ : ∃ a : Option Addr, a = none := ⟨none, rfl⟩
        obtain ⟨d2, hd2⟩ : ∃ a : Option Addr, a = none := ⟨none, rfl⟩
        have W1 : Hid (Wr y5 y0.heap.size d1 nV) := hidOf (fun h => absurd h (by omega))
        have W2 : Hid (Wr y5 y0.heap.size d2 nL) := hidOf (fun h => absurd h (by omega))
        have HDP : Hid (Bx y5 p (.slice d1 nV i1) (.slice d2 nL i2)) := hidOf (by rw [hnV0, hnL0, hi1, hi2, hd1, hd2]; exact HDP0.out)
        have hnV : nV ≤ 17592186044416 := by omega
        have hnL : nL ≤ 17592186044416 := by omega
        clear hnV0 hnL0 hi1 hi2 hd1 hd2 HDP0
        generalize y0.heap.size = B at *
        have qe0 : y5.cell? ⟨p, 0, none⟩ = _ := HDP.out.c0
        have qe1 : y5.cell? ⟨p, 1, none⟩ = _ := HDP.out.c1
        have qel : p < y5.heap.size := HDP.out.lt
        have qef : ∀ j, y5.frozen? ⟨p, j, none⟩ = false := HDP.out.fr
        have HNV : Hid (nV ≤ 17592186044416) := hidOf hnV
        have HNL : Hid (nL ≤ 17592186044416) := hidOf hnL
        go_wp2
        clear qe0 qe1 qel qef
        go_loopw [13] (fun i wr => ∃ k : Nat, i = .int .i64 (k : Int) ∧ k ≤ nV ∧ Hid (Ws w wr B av al V L cv cl r1 r2 k1 k2) ∧ Hid (Bx wr p (.slice d1 nV i1) (.slice d2 nL i2)) ∧ Hid (Wr wr B d1 nV) ∧ Hid (Wr wr B d2 nL)) (fun i _ => nV - (intOf i).toNat)
        case atStart => exact ⟨0, rfl, Nat.zero_le _, HW, HDP, W1, W2⟩
        case round =>
          clear HW HDP W1 W2
          obtain ⟨k, rfl, hk, HW, HDP, W1, W2⟩ := hrel
          obtain ⟨wq, hwq⟩ : ∃ x, x = wr := ⟨_, rfl⟩
          subst hwq
          have e0 := HDP.out.c0
          have e1 := HDP.out.c1
          have el := HDP.out.lt
          by_cases hlt : k < nV
          · have hltz : (k : Int) < (nV : Int) := by omega
            obtain ⟨g, cur, x, hga, hgB, hgh, hgc, hgf, hgl⟩ := W1.out.at hlt
            subst hga
            have HGH := hidOf hgh
            have HGB := hidOf hgB
            clear hgh hgB
            go_wp2
            go_roundw
            case rel => exact ⟨k + 1, by go_num, by omega, hidOf (HW.out.keep ((Below.refl _ _).setCell (p := ⟨g, k, none⟩) HGB.out _)), hidOf (bx_keep HDP.out (by have h1 := HGB.out; have h2 := HPB.out; omega) _), hidOf (W1.out.set HGH.out _), hidOf (W2.out.set HGH.out _)⟩
            case measure => simp [intOf]; omega
          · have hkn : nV = k := by omega
            subst hkn
            have hltz : ¬ (nV : Int) < (nV : Int) := by omega
            go_wp2
            clear e0 e1 el
            go_loopw [14] (fun i wr => ∃ k : Nat, i = .int .i64 (k : Int) ∧ k ≤ nL ∧ Hid (Ws w wr B av al V L cv cl r1 r2 k1 k2) ∧ Hid (Bx wr p (.slice d1 nV i1) (.slice d2 nL i2)) ∧ Hid (Wr wr B d1 nV) ∧ Hid (Wr wr B d2 nL)) (fun i _ => nL - (intOf i).toNat)
            case atStart => exact ⟨0, rfl, Nat.zero_le _, HW, HDP, W1, W2⟩
            case round =>
              clear HW HDP W1 W2
              obtain ⟨k, rfl, hk, HW, HDP, W1, W2⟩ := hrel
              obtain ⟨wq, hwq⟩ : ∃ x, x = wr := ⟨_, rfl⟩
              subst hwq
              have e0 := HDP.out.c0
              have e1 := HDP.out.c1
              have el := HDP.out.lt
              by_cases hlt : k < nL
              · have hltz : (k : Int) < (nL : Int) := by omega
                obtain ⟨g, cur, x, hga, hgB, hgh, hgc, hgf, hgl⟩ := W2.out.at hlt
                subst hga
                have HGH := hidOf hgh
                have HGB := hidOf hgB
                clear hgh hgB
                go_wp2
                go_roundw
                case rel => exact ⟨k + 1, by go_num, by omega, hidOf (HW.out.keep ((Below.refl _ _).setCell (p := ⟨g, k, none⟩) HGB.out _)), hidOf (bx_keep HDP.out (by have h1 := HGB.out; have h2 := HPB.out; omega) _), hidOf (W1.out.set HGH.out _), hidOf (W2.out.set HGH.out _)⟩
                case measure => simp [intOf]; omega
              · have hkn : nL = k := by omega
                subst hkn
                have hltz : ¬ (nL : Int) < (nL : Int) := by omega
                have hc0 := HW.out.bx.c0
                have hc1 := HW.out.bx.c1
                have hcl := HW.out.bx.lt
                have hw0 : wq.cell? ⟨w.heap.size + 1, 0, none⟩ = _ := HW.out.wb.c0
                have hw1 : wq.cell? ⟨w.heap.size + 1, 1, none⟩ = _ := HW.out.wb.c1
                have hwl : w.heap.size + 1 < wq.heap.size := HW.out.wb.lt
                have hsm := rsame_any wq av al V L cv cl r1 r2 V L k1 k2 HW.out.cf HW.out.wf
                rw [same_self] at hsm
                have HSM := hidOf hsm
                clear hsm
                go_wp2_with (first
                  | (go_at_call 15; refine HSM.out.mono ?_; rintro e u1 ⟨rfl, hb⟩; have HB1 := hidOf (below_then HW.out.bel hb); clear hb)
                  | (go_at_call 18; refine (lives_any _).mono ?_; rintro e wl ⟨rfl, hb⟩; have HBL := hidOf hb; clear hb))
                go_ret
                exact ⟨rfl, below_then HB1.out HBL.out⟩

end Go.Proofs.Yteaohmlbioooaaa
