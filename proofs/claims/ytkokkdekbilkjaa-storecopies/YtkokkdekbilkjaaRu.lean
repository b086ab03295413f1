/- How many slots of a job run, of the code. -/
import Derived.Test.YtkokkdekbilkjaaRa
import Derived.Test.YtkokkdekbilkjaaUs
import Derived.Sort.CutIn
namespace Go.Proofs.Ytkokkdekbilkjaa
open Go.RowKit Go.Shelf
attribute [local go_sem] Oper.semAt_some
def HdR (W : World) (b n : Nat) (T : List (Int × Int)) : Prop := ∃ cur, W.heap[b]? = some (.cells cur 116 (0, 0)) ∧ cur.size = n * 4 ∧ ∀ g k, g < n → k < 4 → cur[g * 4 + k]? = some (.bool (T.contains ((g : Int), (k : Int))))
theorem HdR.lt {W : World} {b n : Nat} {T : List (Int × Int)} (h : HdR W b n T) : b < W.heap.size := by obtain ⟨cur, h, _⟩ := h; exact heap_lt h
theorem HdR.to {W W' : World} {b n : Nat} {T : List (Int × Int)} (h : HdR W b n T) (e : W'.heap[b]? = W.heap[b]?) : HdR W' b n T := by obtain ⟨cur, h, r⟩ := h; exact ⟨cur, e.trans h, r⟩
theorem HdR.grow {W W' : World} {b n : Nat} {T : List (Int × Int)} (h : HdR W b n T) (hb : Below W.heap.size W W') : HdR W' b n T := h.to (hb.block b h.lt)
theorem HdR.other {W : World} {b n j o : Nat} {T : List (Int × Int)} (h : HdR W b n T) (hne : b ≠ j) (v : Value) : HdR (W.setCell ⟨j, o, none⟩ v) b n T := h.to (heap_setCell_other W ⟨j, o, none⟩ b v hne)
theorem HdR.cell {W : World} {b n : Nat} {T : List (Int × Int)} (h : HdR W b n T) {g k : Nat} (hg : g < n) (hk : k < 4) : W.cell? ⟨b, g * 4 + k, none⟩ = some (.bool (T.contains ((g : Int), (k : Int)))) := by
  obtain ⟨cur, h1, _, h3⟩ := h
  rw [cell_of_row W b _ cur 116 (0, 0) h1]
  exact h3 g k hg hk
theorem HdR.fr {W : World} {b n : Nat} {T : List (Int × Int)} (h : HdR W b n T) (j : Nat) : W.frozen? ⟨b, j, none⟩ = false := by obtain ⟨cur, h1, _⟩ := h; simp [World.frozen?, h1]
theorem HdR.set {W : World} {b n : Nat} {T T' : List (Int × Int)} (h : HdR W b n T) {g k : Nat} (hk : k < 4) (hT : ∀ s, T'.contains s = (decide (s = ((g : Int), (k : Int))) || T.contains s)) : HdR (W.setCell ⟨b, g * 4 + k, none⟩ (.bool true)) b n T' := by
  obtain ⟨cur, h1, h2, h3⟩ := h
  refine ⟨_, heap_setCell_same W b (g * 4 + k) cur 116 _ h1, by simpa using h2, fun g' k' hg' hk' => ?_⟩
  rw [Array.getElem?_setIfInBounds, hT]
  by_cases e : g * 4 + k = g' * 4 + k'
  · have e1 : g' = g := by omega
    have e2 : k' = k := by omega
    subst e1
    subst e2
    have hlt : g' * 4 + k' < cur.size := by rw [h2]; omega
    rw [if_pos rfl, if_pos hlt]
    simp
  · rw [if_neg e, h3 g' k' hg' hk']
    have : ¬ (((g' : Int), (k' : Int)) = ((g : Int), (k : Int))) := by
      intro e'
      have e1 := (Prod.mk.inj e').1
      have e2 := (Prod.mk.inj e').2
      omega
    simp [this]
theorem hd_own {β : Type} (b n : Nat) (f : β → List (Int × Int)) : Own (fun s W => HdR W b n (f s)) := by
  intro s A B row hs hg hr
  refine hs.to (hg.block b hs.lt (fun e => ?_))
  obtain ⟨o, ho, hc⟩ := hr b e.symm
  obtain ⟨cur, h1, _⟩ := hs
  rw [h1] at ho
  cases ho
  cases hc
theorem info116 : (Try.prog.info? 116).map (fun i => (i.zero, i.size, i.bytes)) = some (some (.agg #[.bool false, .bool false, .bool false, .bool false]), 4, 4) := by kernel_rfl
theorem made_false (n j : Nat) (h : j < n) : (madeCells (Value.agg #[.bool false, .bool false, .bool false, .bool false]).cells n)[j]? = some (.bool false) := by
  have hc : (Value.agg #[.bool false, .bool false, .bool false, .bool false]).cells = #[.bool false, .bool false, .bool false, .bool false] := rfl
  rw [hc]
  unfold madeCells
  rw [Array.getElem?_map, Array.getElem?_range, if_pos h]
  simp only [Option.map_some]
  have : j % 4 = 0 ∨ j % 4 = 1 ∨ j % 4 = 2 ∨ j % 4 = 3 := by omega
  have e4 : (#[Value.bool false, .bool false, .bool false, .bool false] : Array Value).size = 4 := rfl
  rw [e4]
  rcases this with h | h | h | h <;> rw [h] <;> rfl
theorem hd_new {W : World} {base n b : Nat} (h : W.ownsRow base 116 4 (.slice (some ⟨b, 0, none⟩) n n) n (madeCells (Value.agg #[.bool false, .bool false, .bool false, .bool false]).cells (n * 4)).toList) : HdR W b n [] := by
  rcases h.2 with ⟨h1, _⟩ | ⟨g, cap, cur, h1, _, hg, hnc, _, hcs, ht⟩
  · cases h1
  · cases h1
    refine ⟨cur, hg, hcs, fun g k hg' hk => ?_⟩
    have hlt : g * 4 + k < n * 4 := by omega
    have := made_false (n * 4) (g * 4 + k) hlt
    have e : cur.toList[g * 4 + k]? = some (.bool false) := by
      have e2 : (cur.toList.take (n * 4))[g * 4 + k]? = cur.toList[g * 4 + k]? := by rw [List.getElem?_take, if_pos hlt]
      rw [← e2, ht]
      simpa using this
    simpa using e
theorem rF_le (ve : Int) (M : List Al) : 0 ≤ (rF ve M).2 ∧ (rF ve M).2 ≤ M.length := by
  induction M using snoc_ind with
  | h0 => simp [rF]
  | h1 M x ih =>
    rw [rF_snoc, rS, List.length_append]
    split
    · simp; omega
    · simp only
      split <;> simp <;> omega
theorem run_done {id ve : Int} {G : List Gp} {L : List Al} {ys : List (Nat × Al)} (h : ys = sel (hoB id G) L L.length) : (rF ve (ys.map (·.2))).2 = runV id ve G L := by
  have e := sel_find (hoB id G) L L.length (Nat.le_refl _)
  rw [List.take_length] at e
  rw [h, e]; rfl
theorem row_own2 {β : Type} (k : Nat) (cs : Array Value) (t : TypeId) : Own (fun (_ : β) W => W.heap[k]? = some (.cells cs t (0, 0))) := by
  intro s A B row hs hg hr
  exact (hg.block k (heap_lt hs) (fun e => by obtain ⟨o, ho, hc⟩ := hr k e.symm; rw [hs] at ho; cases ho; cases hc)).trans hs
/- between two rounds -/
structure RnI (w : World) (z len : Nat) (jc : Array Value) (sl : Value) (s : List (Int × Int) × Int) (W : World) : Prop where
  hd : HdR W (w.heap.size + 1) len s.1
  rn : Boxed W (z + 1) 3 (.int .i64 s.2)
  hb : Boxed W z 113 sl
  jb : W.heap[w.heap.size]? = some (.cells jc 55 (0, 0))
  sz : z + 4 ≤ W.heap.size
  zz : w.heap.size + 2 ≤ z
  bel : Below w.heap.size w W
theorem RnI.own {β : Type} {w : World} {z len : Nat} {jc : Array Value} {sl : Value} {f : β → List (Int × Int) × Int} {B : Nat} (hB : w.heap.size ≤ B) : OwnFrom B (fun s W => RnI w z len jc sl (f s) W) := by
  intro s A C row hs hg hr
  have hr' : ∀ r, row = some r → ∃ o : Obj, A.heap[r]? = some o ∧ o.isCells = false := fun r e => (hr r e).2
  exact ⟨hd_own _ _ (fun s => (f s).1) s A C row hs.hd hg hr', boxed_own _ _ (fun s => Value.int .i64 (f s).2) s A C row hs.rn hg hr', boxed_own _ _ (fun _ => sl) s A C row hs.hb hg hr', row_own2 _ _ _ s A C row hs.jb hg hr', Nat.le_trans hs.sz hg.size, hs.zz, ownFrom_below (Nat.le_refl _) hB s A C row hs.bel hg hr⟩
theorem RnI.grow {w : World} {z len : Nat} {jc : Array Value} {sl : Value} {s : List (Int × Int) × Int} {W W' : World} (h : RnI w z len jc sl s W) (hb : Below W.heap.size W W') : RnI w z len jc sl s W' :=
  ⟨h.hd.grow hb, h.rn.kept (bgrown hb) (by simp), h.hb.kept (bgrown hb) (by simp), (hb.block _ (heap_lt h.jb)).trans h.jb, Nat.le_trans h.sz hb.size, h.zz, h.bel.trans (hb.mono h.bel.size)⟩
abbrev rnQ (w : World) (z : Nat) : Nat → Prop := fun k => k < w.heap.size ∨ k = w.heap.size ∨ k = z + 1 + 1 ∨ k = z + 1 + 1 + 1
theorem boxed_o {W : World} {B j o : Nat} {t : TypeId} {v : Value} (h : Boxed W B t v) (hne : B ≠ j) (u : Value) : Boxed (W.setCell ⟨j, o, none⟩ u) B t v := (heap_setCell_other W ⟨j, o, none⟩ B u hne).trans h
theorem RnI.mark {w : World} {z len B : Nat} {jc : Array Value} {sl : Value} {T T' : List (Int × Int)} {r : Int} {W : World} (h : RnI w z len jc sl (T, r) W) {gi ki : Nat} (hk : ki < 4) (hT : ∀ s, T'.contains s = (decide (s = ((gi : Int), (ki : Int))) || T.contains s)) (nq : Nat) :
    KeepsFrom B W ((W.drewN nq).setCell ⟨w.heap.size + 1, gi * 4 + ki, none⟩ (.bool true)) ∧ Kq (rnQ w z) W ((W.drewN nq).setCell ⟨w.heap.size + 1, gi * 4 + ki, none⟩ (.bool true)) ∧ RnI w z len jc sl (T', r) ((W.drewN nq).setCell ⟨w.heap.size + 1, gi * 4 + ki, none⟩ (.bool true)) := by
  have hz := h.zz
  have hs := h.sz
  have h1 := h.grow (bdrewN W nq)
  have hne : ¬ rnQ w z (w.heap.size + 1) := by intro e; rcases e with e | e | e | e <;> omega
  refine ⟨(kf_bel (bdrewN W nq)).trans ((KeepsOthers.setCell _ _ _).from _), (Kq.bel (bdrewN W nq) (fun k hk => by rcases hk with e | e | e | e <;> omega)).trans (Kq.set hne _), ⟨h1.hd.set hk hT, boxed_o h1.rn (by omega) _, boxed_o h1.hb (by omega) _, (heap_setCell_other _ ⟨w.heap.size + 1, gi * 4 + ki, none⟩ w.heap.size _ (by simp)).trans h1.jb, by simpa using hs, hz, ?_⟩⟩
  exact h1.bel.setCell (p := ⟨w.heap.size + 1, gi * 4 + ki, none⟩) (by simp) _
theorem RnI.up {w : World} {z len B : Nat} {jc : Array Value} {sl : Value} {T T' : List (Int × Int)} {r : Int} {W : World} (h : RnI w z len jc sl (T, r) W) {gi ki : Nat} (hk : ki < 4) (hT : ∀ s, T'.contains s = (decide (s = ((gi : Int), (ki : Int))) || T.contains s)) (nq : Nat) (r' : Int) :
    KeepsFrom B W (((W.drewN nq).setCell ⟨z + 1, 0, none⟩ (.int .i64 r')).setCell ⟨w.heap.size + 1, gi * 4 + ki, none⟩ (.bool true)) ∧ Kq (rnQ w z) W (((W.drewN nq).setCell ⟨z + 1, 0, none⟩ (.int .i64 r')).setCell ⟨w.heap.size + 1, gi * 4 + ki, none⟩ (.bool true)) ∧ RnI w z len jc sl (T', r') (((W.drewN nq).setCell ⟨z + 1, 0, none⟩ (.int .i64 r')).setCell ⟨w.heap.size + 1, gi * 4 + ki, none⟩ (.bool true)) := by
  have hz := h.zz
  have hs := h.sz
  have h1 := h.grow (bdrewN W nq)
  have hne : ¬ rnQ w z (w.heap.size + 1) := by intro e; rcases e with e | e | e | e <;> omega
  have hne2 : ¬ rnQ w z (z + 1) := by intro e; rcases e with e | e | e | e <;> omega
  refine ⟨((kf_bel (bdrewN W nq)).trans ((KeepsOthers.setCell _ _ _).from _)).trans ((KeepsOthers.setCell _ _ _).from _), ((Kq.bel (bdrewN W nq) (fun k hk => by rcases hk with e | e | e | e <;> omega)).trans (Kq.set hne2 _)).trans (Kq.set hne _), ⟨(h1.hd.other (by omega) _).set hk hT, boxed_o (h1.rn.set _) (by omega) _, boxed_o (boxed_o h1.hb (by omega) _) (by omega) _, ((heap_setCell_other _ ⟨w.heap.size + 1, gi * 4 + ki, none⟩ w.heap.size _ (by simp)).trans (heap_setCell_other _ ⟨z + 1, 0, none⟩ w.heap.size _ (by show w.heap.size ≠ z + 1; omega))).trans h1.jb, by simpa using hs, hz, ?_⟩⟩
  exact (h1.bel.setCell (p := ⟨z + 1, 0, none⟩) (by show w.heap.size ≤ z + 1; omega) _).setCell (p := ⟨w.heap.size + 1, gi * 4 + ki, none⟩) (by simp) _
set_option maxRecDepth 100000 in
set_option maxHeartbeats 8000000 in
theorem running_any (a : Option Addr) (cap : Nat) (L : List Al) (id ty pr pa ve : Int) (sd : Bool) (ga : Option Addr) (gc : Nat) (G : List Gp) (S : Nat → Prop) (w : World) (hS : ∀ b, S b → b < w.heap.size) (hL : Fl w S 11 88 Al.cs a L) (hG : Fl w S 3 24 Gp.cs ga G) :
    Calls Try.prog 47 #[.slice a L.length cap, .agg #[.int .i64 id, .int .i64 ty, .int .i64 pr, .int .i64 pa, .slice ga G.length gc, .int .i64 ve, .bool sd]] w fun e w' => e = .returned (.int .i64 (runV id ve G L)) ∧ Below w.heap.size w w' := by
  have hmf : ∀ (fn : Fn) (first cap : Array Value) (w : World), (Instr.makeFunc fn first cap).run Try.prog w = .ok (.func fn first cap) w := fun _ _ _ _ => rfl
  have hgl : G.length * 24 ≤ 140737488355328 := hG.bd
  have hll : L.length * 88 ≤ 140737488355328 := hL.bd
  obtain ⟨i, hi, hz, hi1, hi2⟩ := info_parts info116
  refine (callsIn_wide (n := 3)).1 ?_
  refine callsIn_of_wp_marks Try.func47 rfl trivial ?_ rfl
  simp only [Try.ntmps47, List.size_toArray, List.length_cons, List.length_nil, Nat.reduceAdd, Nat.reduceSub, Array.replicate_succ, Array.replicate_zero, List.push_toArray, List.append_toArray, List.nil_append, List.cons_append]
  gi_wp2_with (first
    | (gi_at_make; refine wpListIn_make_full _ rfl _ _ 113 rfl 0 116 i _ 4 Try.underlying113 hi hz hi1 G.length rfl rfl (by rw [hi2]; omega) (by unfold maxLen; omega) (Nat.zero_le _) ?_; intro w2 hrow hg2; have HROW := hidOf (hd_new hrow); have HG2 := hidOf hg2; clear hrow hg2)
    | (refine ⟨trivial, ?_⟩; gi_at_call 48; refine (callsIn_wide.2 (where48 _ _ _ _ _ _ _)).mono ?_; rintro e w' ⟨rfl, rfl⟩))
  have hz2 : w.heap.size + 2 ≤ w2.heap.size := by have h1 := HROW.out.lt; simp at h1; omega
  have hbw : Below w.heap.size w w2 := (below1 w _).trans ⟨HG2.out.os, HG2.out.tape, HG2.out.output, HG2.out.size, fun k hk => HG2.out.block k (by simp; omega) (by simp)⟩
  have hjb : w2.heap[w.heap.size]? = some (.cells #[.int .i64 id, .int .i64 ty, .int .i64 pr, .int .i64 pa, .slice ga G.length gc, .int .i64 ve, .bool sd] 55 (0, 0)) := (HG2.out.block _ (by simp) (by simp)).trans (heap_alloc_new w _)
  have h0 := HROW.out
  simp only [World.size_alloc] at h0
  have hB0 : Below w.heap.size w ((((w2.alloc (.cells #[.slice (some ⟨w.heap.size + 1, 0, none⟩) G.length G.length] 113)).alloc (.cells #[.int .i64 0] 3)).alloc (.cells #[.slice a L.length cap] 24)).alloc (.cells #[.func (.func 75) #[] #[.pointer (some ⟨w.heap.size, 0, none⟩)]] 37)) := (((hbw.alloc (by omega) _).alloc (by simp; omega) _).alloc (by simp; omega) _).alloc (by simp; omega) _
  have b0 := (((Boxed.new w2 113 (.slice (some ⟨w.heap.size + 1, 0, none⟩) G.length G.length)).alloc (.cells #[.int .i64 0] 3)).alloc (.cells #[.slice a L.length cap] 24)).alloc (.cells #[.func (.func 75) #[] #[.pointer (some ⟨w.heap.size, 0, none⟩)]] 37)
  have b1 := ((Boxed.new (w2.alloc (.cells #[.slice (some ⟨w.heap.size + 1, 0, none⟩) G.length G.length] 113)) 3 (.int .i64 0)).alloc (.cells #[.slice a L.length cap] 24)).alloc (.cells #[.func (.func 75) #[] #[.pointer (some ⟨w.heap.size, 0, none⟩)]] 37)
  have b2 := (Boxed.new ((w2.alloc (.cells #[.slice (some ⟨w.heap.size + 1, 0, none⟩) G.length G.length] 113)).alloc (.cells #[.int .i64 0] 3)) 24 (.slice a L.length cap)).alloc (.cells #[.func (.func 75) #[] #[.pointer (some ⟨w.heap.size, 0, none⟩)]] 37)
  have b3 := Boxed.new (((w2.alloc (.cells #[.slice (some ⟨w.heap.size + 1, 0, none⟩) G.length G.length] 113)).alloc (.cells #[.int .i64 0] 3)).alloc (.cells #[.slice a L.length cap] 24)) 37 (.func (.func 75) #[] #[.pointer (some ⟨w.heap.size, 0, none⟩)])
  have hb4 : Below w2.heap.size w2 ((((w2.alloc (.cells #[.slice (some ⟨w.heap.size + 1, 0, none⟩) G.length G.length] 113)).alloc (.cells #[.int .i64 0] 3)).alloc (.cells #[.slice a L.length cap] 24)).alloc (.cells #[.func (.func 75) #[] #[.pointer (some ⟨w.heap.size, 0, none⟩)]] 37)) := ((((Below.refl _ w2).alloc (Nat.le_refl _) _).alloc (by simp) _).alloc (by simp; omega) _).alloc (by simp; omega) _
  have h0' := h0.grow hb4
  have hjb' := (hb4.block _ (by omega)).trans hjb
  have hsz : ((((w2.alloc (.cells #[.slice (some ⟨w.heap.size + 1, 0, none⟩) G.length G.length] 113)).alloc (.cells #[.int .i64 0] 3)).alloc (.cells #[.slice a L.length cap] 24)).alloc (.cells #[.func (.func 75) #[] #[.pointer (some ⟨w.heap.size, 0, none⟩)]] 37)).heap.size = w2.heap.size + 4 := by simp
  simp only [World.size_alloc] at b1 b2 b3
  obtain ⟨W0, hW0⟩ : ∃ W0, (((w2.alloc (.cells #[.slice (some ⟨w.heap.size + 1, 0, none⟩) G.length G.length] 113)).alloc (.cells #[.int .i64 0] 3)).alloc (.cells #[.slice a L.length cap] 24)).alloc (.cells #[.func (.func 75) #[] #[.pointer (some ⟨w.heap.size, 0, none⟩)]] 37) = W0 := ⟨_, rfl⟩
  rw [hW0] at b0 b1 b2 b3 hB0 hsz h0' hjb' ⊢
  clear hW0 h0 hjb hb4 hbw HG2 HROW
  have hQ0 : ∀ k, rnQ w w2.heap.size k → k < W0.heap.size := fun k hk => by rcases hk with e | e | e | e <;> omega
  have hj0 : W0.rangeAt w.heap.size 0 [.int .i64 id, .int .i64 ty, .int .i64 pr, .int .i64 pa, .slice ga G.length gc, .int .i64 ve, .bool sd] := fun j v hj => by
    rw [cell_of_row W0 _ _ _ 55 (0, 0) hjb', Nat.zero_add]
    simpa using hj
  refine wpIn_rangeFunc_ownH rfl (by omega) (gf := 77) (lb := #[.pointer (some ⟨w2.heap.size + 1 + 1, 0, none⟩), .pointer (some ⟨w2.heap.size + 1 + 1 + 1, 0, none⟩)]) rfl trivial (enters_of Try.func77 (by kernel_rfl) rfl)
    (it75 (3 - 1) (by omega) w.heap.size (w2.heap.size + 1 + 1) (w2.heap.size + 1 + 1 + 1) a cap L (hoB id G) (rnQ w w2.heap.size) W0 hQ0 (.inr (.inr (.inl rfl))) (.inr (.inr (.inr rfl))) b2.cell b3.cell (hL.kept (fun b hb => hB0.block b (hS b hb)) (fun b hb => .inl (hS b hb)))
      (fun W x hW => p75_any x id ty pr pa ve sd ga gc G S w.heap.size W (fun b hb => by have h1 := hS b hb; have h2 := hW.size; omega) (hG.kept (fun b hb => (hW.block b (.inl (hS b hb))).trans (hB0.block b (hS b hb))) (fun _ h => h)) (range_of hj0 (hW.block _ (.inr (.inl rfl)))) (by have h2 := hW.size; omega)))
    Kq.trans (kq_b hQ0) (Below.refl _ _) (fun _ => rfl)
    (fun (pre : List {y : Nat × Al // hoB id G y.2 = true}) W => RnI w w2.heap.size G.length #[.int .i64 id, .int .i64 ty, .int .i64 pr, .int .i64 pa, .slice ga G.length gc, .int .i64 ve, .bool sd] (.slice (some ⟨w.heap.size + 1, 0, none⟩) G.length G.length) (rF ve (pre.map (·.1.2))) W)
    (fun _ _ _ => False)
    (RnI.own (by omega))
    (fun _ _ _ _ _ hs _ _ => hs)
    ⟨h0', b1, b0, hjb', by omega, hz2, hB0⟩
    (fun x a' W => ∃ Bx, w2.heap.size + 3 < Bx ∧ W.heap[Bx]? = some (.cells x.1.2.cs.toArray 33 (0, 0)) ∧ a' = { tmps := #[.slice a L.length cap, .agg #[.int .i64 id, .int .i64 ty, .int .i64 pr, .int .i64 pa, .slice ga G.length gc, .int .i64 ve, .bool sd], undef, .pointer (some ⟨w.heap.size, 0, none⟩), .int .i64 0, .pointer (some ⟨w2.heap.size, 0, none⟩), .pointer (some ⟨w2.heap.size + 1, 0, none⟩), undef, .pointer (some ⟨Bx, 0, none⟩), undef, .pointer (some ⟨w.heap.size, 4, none⟩), .slice ga G.length gc, .int .i64 (G.length : Int), .slice (some ⟨w.heap.size + 1, 0, none⟩) G.length G.length, .slice a L.length cap, .func (.func 75) #[] #[.pointer (some ⟨w.heap.size, 0, none⟩)], .func (.func 77) #[] #[.pointer (some ⟨w2.heap.size + 1 + 1, 0, none⟩), .pointer (some ⟨w2.heap.size + 1 + 1 + 1, 0, none⟩)], .int .i64 (x.1.1 : Int), .agg #[.int .i64 x.1.2.id, .int .i64 x.1.2.jb, .int .i64 x.1.2.ve, .int .i64 x.1.2.gr, .int .i64 x.1.2.ix, .int .i64 x.1.2.nd, .int .i64 x.1.2.ep, .int .i64 x.1.2.c, .int .i64 x.1.2.m, .bool x.1.2.sp, .int .i64 x.1.2.st], undef, undef, undef, undef, undef, undef, undef, undef, undef, undef, undef, undef, undef, undef, undef, undef, undef, undef, undef, undef, undef, undef, undef, undef, undef, undef, undef, undef, undef, undef, undef, undef, undef], defers := [] })
    (fun x a' _ X Y row hs hg hr => by obtain ⟨Bx, h1, h2, h3⟩ := hs; exact ⟨Bx, h1, (hg.block Bx (heap_lt h2) (fun e => by obtain ⟨_, o, ho, hc⟩ := hr Bx e.symm; rw [h2] at ho; cases ho; cases hc)).trans h2, h3⟩)
    ?assign ?body ?done ?stop
  case assign =>
    rintro l pre x W K hI hK
    gi_wp2
    exact hK _ _ ((KeepsOthers.alloc _ _).from _) (Kq.bel (below1 W _) (fun k hk => by have h1 := hI.sz; have h2 := hI.zz; rcases hk with e | e | e | e <;> omega)) (hI.grow (below1 _ _)) ⟨W.heap.size, by have h1 := hI.sz; omega, heap_alloc_new W _, rfl⟩
  case body =>
    rintro l pre ⟨⟨xi, x⟩, hx⟩ a' W hl ⟨r, hr⟩ hI ⟨Bx, hBx, bX, rfl⟩ hlt
    simp only at hx bX ⊢
    have h5 := hI.sz
    have hle := rF_le ve (pre.map (·.1.2))
    rw [List.length_map] at hle
    have HSN : Hid (rF ve ((pre ++ [(⟨(xi, x), hx⟩ : {y : Nat × Al // hoB id G y.2 = true})]).map (·.1.2)) = rS ve (rF ve (pre.map (·.1.2))) x) := hidOf (by rw [List.map_append, ← rF_snoc]; rfl)
    have hho : hoB id G x = true := hx
    have hsl := (slg_mem G _ _).1 (hoB_slt hho)
    have hcn := cn_pos (gat G x.gr)
    simp only [slt] at hsl
    obtain ⟨gi, hgi⟩ : ∃ k : Nat, x.gr = (k : Int) := ⟨x.gr.toNat, by omega⟩
    obtain ⟨ki, hkk⟩ : ∃ k : Nat, x.ix = (k : Int) := ⟨x.ix.toNat, by omega⟩
    have hgi' : gi < G.length := by omega
    have hki : ki < 4 := by omega
    have c2 : W.cell? ⟨Bx, 2, none⟩ = some (.int .i64 x.ve) := by rw [cell_of_row W Bx 2 _ 33 (0, 0) bX]; rfl
    have c3 : W.cell? ⟨Bx, 3, none⟩ = some (.int .i64 (gi : Int)) := by rw [← hgi, cell_of_row W Bx 3 _ 33 (0, 0) bX]; rfl
    have c4 : W.cell? ⟨Bx, 4, none⟩ = some (.int .i64 (ki : Int)) := by rw [← hkk, cell_of_row W Bx 4 _ 33 (0, 0) bX]; rfl
    have c9 : W.cell? ⟨Bx, 9, none⟩ = some (.bool x.sp) := by rw [cell_of_row W Bx 9 _ 33 (0, 0) bX]; rfl
    have c10 : W.cell? ⟨Bx, 10, none⟩ = some (.int .i64 x.st) := by rw [cell_of_row W Bx 10 _ 33 (0, 0) bX]; rfl
    have cH := hI.hb.cell
    have cR := hI.rn.cell
    have fR := hI.rn.frozen
    have cV : W.cell? ⟨w.heap.size, 5, none⟩ = some (.int .i64 ve) := by rw [cell_of_row W _ 5 _ 55 (0, 0) hI.jb]; rfl
    have cS := hI.hd.cell hgi' hki
    have fS := hI.hd.fr (gi * 4 + ki)
    have lBx := heap_lt bX
    have hslt : slt x = ((gi : Int), (ki : Int)) := by rw [slt, hgi, hkk]
    have HI := hidOf hI
    have lN : w.heap.size + 1 < W.heap.size := by have h2 := hI.zz; omega
    have lZ : w2.heap.size + 1 < W.heap.size := by omega
    have hg64 : (gi : Int) < (G.length : Int) := by omega
    have hk64 : (ki : Int) < 4 := by omega
    have hrn : 0 ≤ (rF ve (pre.map (·.1.2))).2 ∧ (rF ve (pre.map (·.1.2))).2 < 140737488355328 := ⟨hle.1, by omega⟩
    clear hI hho hsl hcn hle hr hgi hkk bX
    generalize rF ve (pre.map (·.1.2)) = st at *
    obtain ⟨T, rn⟩ := st
    simp only at *
    obtain ⟨hr0, hr1⟩ := hrn
    gi_upto_region 5 with (fail)
    refine wpIn_quiet_round (by kernel_rfl) (by kernel_rfl) (by kernel_rfl) ?_
    repeat (gi_big_quiet_step (fail))
    refine wpQuietIn_nil ?_
    intro _ hw'
    obtain ⟨nq, hw''⟩ := hw'
    subst hw''
    by_cases hT : T.contains ((gi : Int), (ki : Int)) = true
    · have HRS := hidOf (HSN.out.trans (show rS ve (T, rn) x = (T, rn) by rw [rS, hslt]; exact if_pos hT))
      have HT : Hid (∀ s, T.contains s = (decide (s = ((gi : Int), (ki : Int))) || T.contains s)) := hidOf (fun s => by
        by_cases e : s = ((gi : Int), (ki : Int))
        · rw [e, hT]; simp
        · simp [e])
      rw [hT] at cS
      clear hT hslt HSN
      gi_wp2
      have hf := HI.out.mark (B := W0.heap.size) hki HT.out nq; exact ⟨hf.1, hf.2.1, by show RnI _ _ _ _ _ (rF ve _) _; rw [HRS.out]; exact hf.2.2⟩

    · have HT : Hid (∀ s, (((gi : Int), (ki : Int)) :: T).contains s = (decide (s = ((gi : Int), (ki : Int))) || T.contains s)) := hidOf (fun s => by
        rw [List.contains_cons]
        by_cases e : s = ((gi : Int), (ki : Int)) <;> simp [e])
      have hf : T.contains ((gi : Int), (ki : Int)) = false := by simpa using hT
      have HR0 : Hid (rS ve (T, rn) x = (((gi : Int), (ki : Int)) :: T, rn + (if good ve x = true then 1 else 0))) := hidOf (by rw [rS, hslt]; exact if_neg hT)
      rw [hf] at cS
      clear hT hf hslt
      by_cases e1 : x.ve = ve
      · have b1 : (x.ve == ve) = true := by simp [e1]
        by_cases e2 : x.st = 2
        · have b2 : (x.st == 2) = true := by simp [e2]
          cases e3 : x.sp with
          | false =>
            have HRS := hidOf (HSN.out.trans (HR0.out.trans (by rw [if_pos (by rw [good, isI_true e1, isI_true e2, e3]; rfl)])))
            rw [e3] at c9
            clear HSN HR0 e1 e2 e3
            gi_wp2
            have hf := HI.out.up (B := W0.heap.size) hki HT.out nq (rn + 1)
            exact ⟨hf.1, hf.2.1, by show RnI _ _ _ _ _ (rF ve _) _; rw [HRS.out]; exact hf.2.2⟩

          | true =>
            have HRS : Hid (_ = (((gi : Int), (ki : Int)) :: T, rn)) := hidOf (HSN.out.trans (HR0.out.trans (by rw [if_neg (by rw [good, e3]; simp), Int.add_zero])))
            rw [e3] at c9
            clear HSN HR0 e1 e2 e3
            gi_wp2
            have hf := HI.out.mark (B := W0.heap.size) hki HT.out nq; exact ⟨hf.1, hf.2.1, by show RnI _ _ _ _ _ (rF ve _) _; rw [HRS.out]; exact hf.2.2⟩

        · have b2 : (x.st == 2) = false := by simp [e2]
          have HRS : Hid (_ = (((gi : Int), (ki : Int)) :: T, rn)) := hidOf (HSN.out.trans (HR0.out.trans (by rw [if_neg (by rw [good, isI_false e2]; simp), Int.add_zero])))
          clear HSN HR0 e1 e2
          gi_wp2
          have hf := HI.out.mark (B := W0.heap.size) hki HT.out nq; exact ⟨hf.1, hf.2.1, by show RnI _ _ _ _ _ (rF ve _) _; rw [HRS.out]; exact hf.2.2⟩

      · have b1 : (x.ve == ve) = false := by simp [e1]
        have HRS : Hid (_ = (((gi : Int), (ki : Int)) :: T, rn)) := hidOf (HSN.out.trans (HR0.out.trans (by rw [if_neg (by rw [good, isI_false e1]; simp), Int.add_zero])))
        clear HSN HR0 e1
        gi_wp2
        have hf := HI.out.mark (B := W0.heap.size) hki HT.out nq; exact ⟨hf.1, hf.2.1, by show RnI _ _ _ _ _ (rF ve _) _; rw [HRS.out]; exact hf.2.2⟩

  case done =>
    rintro D ys W hD hys hI hK
    have h2 := hI.rn
    have hB1 := hI.bel
    have HV : Hid ((rF ve (ys.map (·.1.2))).2 = runV id ve G L) := hidOf (by have := run_done (ve := ve) hys; rw [List.map_map] at this; exact this)
    rw [HV.out] at h2
    have cR := h2.cell
    have HB1 := hidOf hB1
    have HK := hidOf hK
    clear h2 hB1 hK hys hI
    gi_wp2
    refine ⟨by simp, .inl ⟨_, _, rfl, run_takeDeferred HK.out, ?_⟩⟩
    exact ⟨_, results_tmp rfl _ _ _, rfl, HB1.out.trans (belowK_b (w := w) (Nat.le_refl _) W D _ _ (by omega) HK.out rfl rfl)⟩
  case stop =>
    rintro D c pre W _ _ h _
    exact h.elim
end Go.Proofs.Ytkokkdekbilkjaa
