/- Several texts in one (wip/gen/merge.py). -/
import Derived.Test.YtcdoejdbmllnnabGreatVapp
import Derived.ArgAppend
import Derived.Test.YtcdoejdbmllnnabGreatLD
import Derived.Test.YtcdoejdbmllnnabGreatVF
import Derived.Deep.RegionHeld3
/- A slice of one-cell elements that may begin in the midst of its row: it is appended to, and its first element is cut off. -/
namespace Go.Proofs.YtcdoejdbmllnnabGreat
open Go.RowKit

def OffR (w : World) (base : Nat) (e : TypeId) (v : Value) (xs : List Value) : Prop :=
  (v = .slice none 0 0 ∧ xs = []) ∨
  ∃ g off cap cur, v = .slice (some ⟨g, off, none⟩) xs.length cap ∧ base ≤ g ∧ w.heap[g]? = some (.cells cur e (0, 0)) ∧ xs.length ≤ cap ∧ cap ≤ maxLen ∧ off + cap = cur.size ∧ ∀ i, i < xs.length → cur[off + i]? = xs[i]?
theorem OffR.form {w : World} {base : Nat} {e : TypeId} {v : Value} {xs : List Value} (h : OffR w base e v xs) : ∃ a c, v = .slice a xs.length c ∧ xs.length ≤ c ∧ c ≤ maxLen ∧ ∀ i, i < xs.length → ∃ g off, a = some ⟨g, off, none⟩ ∧ w.cell? ⟨g, off + i, none⟩ = xs[i]? := by
  rcases h with ⟨rfl, rfl⟩ | ⟨g, off, cap, cur, rfl, h1, h2, h3, h4, h5, h6⟩
  · exact ⟨none, 0, rfl, Nat.le_refl _, by simp [maxLen], fun i hi => by simp at hi⟩
  · exact ⟨_, cap, rfl, h3, h4, fun i hi => ⟨g, off, rfl, by rw [cell_of_row w g _ cur e (0, 0) h2]; exact h6 i hi⟩⟩
theorem OffR.kept {w w' : World} {base : Nat} {e : TypeId} {v : Value} {xs : List Value} (h : OffR w base e v xs) (hb : ∀ g cs, v.ownBlock = some g → w.heap[g]? = some (.cells cs e (0, 0)) → w'.heap[g]? = w.heap[g]?) : OffR w' base e v xs := by
  rcases h with h | ⟨g, off, cap, cur, rfl, h1, h2, h3⟩
  · exact .inl h
  · exact .inr ⟨g, off, cap, cur, rfl, h1, (hb g cur rfl h2).trans h2, h3⟩
theorem OffR.lt {w : World} {base : Nat} {e : TypeId} {v : Value} {xs : List Value} (h : OffR w base e v xs) : ∀ k, v.ownBlock = some k → base ≤ k ∧ k < w.heap.size := by
  intro k hk
  rcases h with ⟨rfl, _⟩ | ⟨g, off, cap, cur, rfl, h1, h2, _⟩
  · cases hk
  · cases hk; exact ⟨h1, (Array.getElem?_eq_some_iff.1 h2).1⟩
/- without its first element -/
theorem OffR.tail {w : World} {base g off cap : Nat} {e : TypeId} {x : Value} {xs : List Value} (h : OffR w base e (.slice (some ⟨g, off, none⟩) (xs.length + 1) cap) (x :: xs)) : OffR w base e (.slice (some ⟨g, off + 1, none⟩) xs.length (cap - 1)) xs := by
  rcases h with ⟨h, _⟩ | ⟨g', off', cap', cur, hv, h1, h2, h3, h4, h5, h6⟩
  · cases h
  · cases hv
    rw [List.length_cons] at h3
    refine .inr ⟨g, off + 1, cap - 1, cur, rfl, h1, h2, by omega, by omega, by omega, fun i hi => ?_⟩
    have := h6 (i + 1) (by rw [List.length_cons]; omega)
    rw [List.getElem?_cons_succ] at this
    rw [show off + 1 + i = off + (i + 1) by omega]
    exact this
/- one element more -/
theorem run_append_off {P : Program} (w : World) (base : Nat) (t ty e : TypeId) (i : TypeInfo) (z : Value) (bytes : Nat) (ht : P.underlying t = some (.slice e)) (hi : P.info? e = some i) (hz : i.zero = some z) (hsize : i.size = 1) (hby : i.bytes = bytes) (hzs : z.cells.size = 1)
    (v : Value) (xs : List Value) (ho : OffR w base e v xs) (ad : Addr) (c : Nat) (x : Value) (hx : w.cell? ad = some x) (h1 : x.oneCell' = true) (h63 : xs.length + 1 ≤ maxLen) (hbytes : (xs.length + 1) * bytes ≤ 140737488355328) (hbase : base ≤ w.heap.size) :
    ∃ v' w', (Builtin.append_ #[t, t] ty #[v, .slice (some ad) 1 c]).run P w = .ok v' w' ∧ OffR w' base e v' (xs ++ [x]) ∧ w.grownBy w' v.ownBlock ∧ (v'.ownBlock = v.ownBlock ∨ v'.ownBlock = some w.heap.size) := by
  have hnews : ∀ j u, [x][j]? = some u → w.cell? (ad.add j) = some u := by
    intro j u hu
    cases j with
    | zero => simp at hu; subst hu; simpa [Addr.add] using hx
    | succ j => simp at hu
  have h1' : ∀ u ∈ [x], u.oneCell' = true := by intro u hu; simp at hu; subst hu; exact h1
  have hnl : [x].length = 1 * i.size := by rw [hsize]; rfl
  have hgc := grownCap_ge w (xs.length + 1)
  have hgm := fun old => grownCap_le_maxLen w (xs.length + 1) old e h63
  rcases ho with ⟨rfl, rfl⟩ | ⟨g, off, cap, cur, rfl, hg1, hg2, hg3, hg4, hg5, hg6⟩
  · have h := run_append_nil (P := P) w t ty e i z ht hi hz ad 1 c [x] hnl hnews (by omega) (by omega) (by rw [hby]; have hb := hbytes; simp only [List.length_nil, Nat.zero_add] at hb; omega)
    refine ⟨_, _, h, .inr ⟨w.heap.size, 0, grownCap w 1 0 e, [x].toArray ++ Builtin.zeroCells z.cells (grownCap w 1 0 e - 1), rfl, hbase, ?_, ?_, ?_, ?_, ?_⟩, ⟨rfl, rfl, rfl, ?_, fun k hk _ => Below.heap_alloc w.drew _ k hk⟩, .inr rfl⟩
    · exact heap_alloc_new w.drew _
    · have := hgc 0 e; simpa using this
    · have := hgm 0; simpa using this
    · have := hgc 0 e
      simp only [List.length_nil, Nat.zero_add] at this
      rw [Array.size_append, size_zeroCells, hzs]
      simp
      omega
    · intro j hj
      simp at hj
      subst hj
      simp [Array.getElem?_append]
    · rw [World.size_alloc]; exact Nat.le_succ _
  · by_cases hroom : xs.length + 1 ≤ cap
    · have hcell : ∀ j, j < [x].length → (w.cell? ⟨g, off + xs.length * i.size + j, none⟩).isSome = true := by
        intro j hj
        simp at hj
        subst hj
        rw [hsize, Nat.mul_one, Nat.add_zero, cell_of_row w g _ cur e (0, 0) hg2, Array.getElem?_eq_getElem (by omega)]
        rfl
      have h := run_append_room_cells (P := P) w t ty e i ht hi g off xs.length cap ad 1 c [x] hnl hnews h1' hroom hcell (fun j _ => by simp [World.frozen?, hg2])
      rw [hsize, Nat.mul_one] at h
      refine ⟨_, _, h, .inr ⟨g, off, cap, cur.setIfInBounds (off + xs.length) x, by simp, hg1, ?_, by simpa using hroom, hg4, by simpa using hg5, ?_⟩, ⟨rfl, rfl, rfl, ?_, ?_⟩, .inl rfl⟩
      · exact heap_setCell_same w g (off + xs.length) cur e x hg2
      · intro j hj
        rw [List.length_append, List.length_cons, List.length_nil] at hj
        rw [Array.getElem?_setIfInBounds]
        by_cases e1 : off + xs.length = off + j
        · have : j = xs.length := by omega
          subst this
          rw [if_pos rfl, if_pos (by omega)]
          simp
        · rw [if_neg e1, hg6 j (by omega), List.getElem?_append_left (by omega)]
      · show w.heap.size ≤ (w.setCell ⟨g, off + xs.length, none⟩ x).heap.size
        simp
      · intro k hk hne
        exact Below.heap_setCell w ⟨g, off + xs.length, none⟩ x k (fun e1 => hne (by rw [e1]; rfl))
    · have holds : ∀ j u, xs[j]? = some u → w.cell? ((⟨g, off, none⟩ : Addr).add j) = some u := by
        intro j u hu
        have hj := (List.getElem?_eq_some_iff.1 hu).1
        rw [Addr.add_lit, cell_of_row w g _ cur e (0, 0) hg2, hg6 j hj, hu]
      have h := run_append_grow (P := P) w t ty e i z ht hi hz ⟨g, off, none⟩ xs.length cap xs (by rw [hsize, Nat.mul_one]) holds ad 1 c [x] hnl hnews (by omega) (by unfold maxLen at h63; omega) (growslice_fits (by omega) (by rw [hby]; exact hbytes))
      refine ⟨_, _, h, .inr ⟨w.heap.size, 0, grownCap w (xs.length + 1) cap e, _, by simp, hbase, heap_alloc_new w.drew _, ?_, hgm cap, ?_, ?_⟩, ⟨rfl, rfl, rfl, ?_, fun k hk _ => Below.heap_alloc w.drew _ k hk⟩, .inr rfl⟩
      · have := hgc cap e; simpa using this
      · have := hgc cap e
        rw [Array.size_append, Array.size_append, size_zeroCells, hzs]
        simp
        omega
      · intro j hj
        rw [List.length_append, List.length_cons, List.length_nil] at hj
        rw [Nat.zero_add, Array.getElem?_append, if_pos (by simp; omega)]
        simp
      · rw [World.size_alloc]; exact Nat.le_succ _

theorem wpList_append_off {P : Program} {ops : Array Oper} {rest : List Oper} {o : Oper} {a : Act} {Q : Exit → Act → World → Prop} (w : World) (hgd : o.guard = none) (s x : Operand) (t : TypeId)
    (ho : o.op = .call { callee := .builtin .append, args := #[s, x], argTypes := #[t, t] })
    (base : Nat) (e : TypeId) (i : TypeInfo) (z : Value) (bytes : Nat) (ht : P.underlying t = some (.slice e)) (hi : P.info? e = some i) (hz : i.zero = some z) (hsize : i.size = 1) (hby : i.bytes = bytes) (hzs : z.cells.size = 1)
    (v : Value) (xs : List Value) (hs : a.eval s = v) (hown : OffR w base e v xs) (ad : Addr) (c : Nat) (y : Value) (hx : a.eval x = .slice (some ad) 1 c) (hy : w.cell? ad = some y) (h1 : y.oneCell' = true) (h63 : xs.length + 1 ≤ maxLen) (hbytes : (xs.length + 1) * bytes ≤ 140737488355328) (hbase : base ≤ w.heap.size)
    (h : ∀ v' w', OffR w' base e v' (xs ++ [y]) → w.grownBy w' v.ownBlock → (v'.ownBlock = v.ownBlock ∨ v'.ownBlock = some w.heap.size) → wpList P ops Q rest (a.put o.dst v') w') : wpList P ops Q (o :: rest) a w := by
  refine wpList_plain hgd fun K hK => ?_
  obtain ⟨v', w', hr, h2, h3, h4⟩ := run_append_off (P := P) w base t o.type e i z bytes ht hi hz hsize hby hzs v xs hown ad c y hy h1 h63 hbytes hbase
  unfold Oper.wp execOp
  simp only [ho, resolve, invoke, builtin, Sem.run_bind, Sem.run_pure, Result.andThen_ok, List.map_toArray, List.map_cons, List.map_nil, hs, hx, hr]
  exact hK _ _ (h v' w' h2 h3 h4)

end Go.Proofs.YtcdoejdbmllnnabGreat

/- The document's net in memory: New, there, came. -/
namespace Go.Proofs.YtcdoejdbmllnnabGreat
open Go.RowKit

abbrev NoB : Nat → Prop := fun _ => True
def DocR (w : World) (p : Nat) (most : Nat) (L : List (List UInt8)) (r : Option Nat) : Prop :=
  most ≤ 256 ∧ L.length ≤ 257 ∧ ∃ v ps, w.heap[p]? = some (.cells #[.int .i64 most, v] 61 (0, 0)) ∧ v.ownBlock = r ∧ OffR w 0 32 v (ps.map encP) ∧ r ≠ some p ∧ Pks NoB w p r ps L
theorem OffR.of_own {w : World} {base e : Nat} {v : Value} {n : Nat} {xs : List Value} (h : w.ownsRow base e 1 v n xs) : OffR w base e v xs := by
  have hl : xs.length = n := by have := h.1; omega
  rcases h.2 with ⟨e1, e2⟩ | ⟨g, cap, cur, e1, e2, e3, e4, e5, e6, e7⟩
  · exact .inl ⟨e1, List.eq_nil_of_length_eq_zero (by omega)⟩
  · subst hl
    refine .inr ⟨g, 0, cap, cur, e1, e2, e3, e4, e5, by omega, fun i hi => ?_⟩
    rw [Nat.zero_add, ← e7, List.getElem?_take, if_pos (by omega)]
    simp
theorem DocR.kept {w w' : World} {p most : Nat} {L : List (List UInt8)} {r : Option Nat} (h : DocR w p most L r) (hb : ∀ k, k < w.heap.size → (k = p ∨ r = some k ∨ T5 NoB w k) → w'.heap[k]? = w.heap[k]?) (hs : w.heap.size ≤ w'.heap.size) : DocR w' p most L r := by
  obtain ⟨h1, h2, v, ps, h3, h4, h5, h6, h7, h8⟩ := h
  refine ⟨h1, h2, v, ps, (hb p (Array.getElem?_eq_some_iff.1 h3).1 (.inl rfl)).trans h3, h4, h5.kept (fun g _ hg hgc => hb g (Array.getElem?_eq_some_iff.1 hgc).1 (.inr (.inl (h4 ▸ hg)))), h6, h7, fun i a b => ?_⟩
  obtain ⟨a1, a2, a3, a4⟩ := h8 i a b
  refine ⟨a1, a2, ⟨a3.1, fun hne => ?_⟩, fun y hy => ⟨(a4 y hy).1, (a4 y hy).2.1, Nat.lt_of_lt_of_le (a4 y hy).2.2.1 hs, (a4 y hy).2.2.2.to (hb _ (a4 y hy).2.2.1 (.inr (.inr (a4 y hy).2.2.2)))⟩⟩
  obtain ⟨b', off, e, hlt, hc⟩ := a3.2 hne
  exact ⟨b', off, e, Nat.lt_of_lt_of_le hlt hs, fun j hj => (World.cell?_of_block (a := ⟨b', off + j, none⟩) (hb b' hlt (.inr (.inr (a4 _ e).2.2.2)))).trans (hc j hj)⟩
theorem DocR.grow {w w' : World} {p most : Nat} {L : List (List UInt8)} {r : Option Nat} (h : DocR w p most L r) (hb : Below w.heap.size w w') : DocR w' p most L r := h.kept (fun k hk _ => hb.block k hk) hb.size
theorem DocR.cells {w : World} {p most : Nat} {L : List (List UInt8)} {r : Option Nat} (h : DocR w p most L r) : p < w.heap.size ∧ ∃ a cap, w.cell? ⟨p, 0, none⟩ = some (.int .i64 most) ∧ w.cell? ⟨p, 1, none⟩ = some (.slice a L.length cap) ∧ L.length ≤ cap ∧ cap ≤ maxLen := by
  obtain ⟨h1, h2, v, ps, h3, h4, h5, h6, h7⟩ := h
  obtain ⟨a, c, e, hc1, hc2, _⟩ := h5.form
  rw [List.length_map, h7.1] at e hc1
  refine ⟨(Array.getElem?_eq_some_iff.1 h3).1, a, c, ?_, ?_, hc1, hc2⟩
  · rw [cell_of_row w p 0 _ 61 (0, 0) h3]; rfl
  · rw [cell_of_row w p 1 _ 61 (0, 0) h3, ← e]; rfl
theorem DocR.rlt {w : World} {p most : Nat} {L : List (List UInt8)} {r : Option Nat} (h : DocR w p most L r) : ∀ k, r = some k → k < w.heap.size := by
  obtain ⟨h1, h2, v, ps, h3, h4, h5, h6, h7⟩ := h
  intro k hk
  exact (h5.lt k (h4.trans hk)).2
theorem DocR.get {w : World} {p most : Nat} {L : List (List UInt8)} {r : Option Nat} (h : DocR w p most L r) (k : Nat) (l : List UInt8) (hk : L[k]? = some l) :
    ∃ g off cap x, w.cell? ⟨p, 1, none⟩ = some (.slice (some ⟨g, off, none⟩) L.length cap) ∧ L.length ≤ cap ∧ cap ≤ maxLen ∧ w.cell? ⟨g, off + k, none⟩ = some (encP x) ∧ Pkt NoB w p r x l := by
  obtain ⟨h1, h2, v, ps, h3, h4, h5, h6, h7⟩ := h
  obtain ⟨hkl, hke⟩ := List.getElem?_eq_some_iff.1 hk
  have hkp : k < ps.length := by have := h7.1; omega
  obtain ⟨a, c, e, hc1, hc2, hcl⟩ := h5.form
  obtain ⟨g, off, e2, hcell⟩ := hcl k (by rw [List.length_map]; exact hkp)
  rw [List.length_map, h7.1] at e hc1
  subst e2
  refine ⟨g, off, c, ps[k], ?_, hc1, hc2, ?_, ?_⟩
  · rw [cell_of_row w p 1 _ 61 (0, 0) h3, ← e]; rfl
  · rw [hcell, List.getElem?_map, List.getElem?_eq_getElem hkp]; rfl
  · have := h7.2 k hkp hkl
    rw [hke] at this
    exact this
/- the slice is laid anew into the net -/
theorem docR_set {w : World} {p most : Nat} {v v' : Value} {L : List (List UInt8)} {ps : List Pk} (h1 : most ≤ 256) (h2 : L.length ≤ 257) (h3 : w.heap[p]? = some (.cells #[.int .i64 most, v] 61 (0, 0)))
    (h5 : OffR w 0 32 v' (ps.map encP)) (h6 : v'.ownBlock ≠ some p) (h7 : Pks NoB w p v'.ownBlock ps L) : DocR (w.setCell ⟨p, 1, none⟩ v') p most L v'.ownBlock := by
  have hk : ∀ k, k ≠ p → (w.setCell ⟨p, 1, none⟩ v').heap[k]? = w.heap[k]? := fun k hk => Below.heap_setCell w ⟨p, 1, none⟩ _ k hk
  refine ⟨h1, h2, v', ps, ?_, rfl, h5.kept (fun g _ hg _ => hk g (fun e => h6 (by rw [hg, e]))), h6, h7.kept (by simp) (fun k _ hp _ => hk k hp) (fun _ _ x => x)⟩
  rw [heap_setCell_same w p 1 _ 61 v' h3]; rfl

set_option maxHeartbeats 400000 in
theorem dnew_ok (n : Int) (w : World) (h1 : 1 ≤ n) (h2 : n ≤ 256) : Calls Tryz.prog 6 #[.int .i64 n] w fun e w' => e = .returned (.pointer (some ⟨w.heap.size, 0, none⟩)) ∧ w' = w.alloc (.cells #[.int .i64 n, .slice none 0 0] 61) := by
  go_enter Tryz.func6, Tryz.ntmps6
  go_wp2
  go_ret
  exact ⟨rfl, rfl⟩
set_option maxHeartbeats 400000 in
theorem dnew_no (n : Int) (w : World) (h : n < 1 ∨ 256 < n) : Calls Tryz.prog 6 #[.int .i64 n] w fun e w' => e = .returned (.pointer none) ∧ w' = w := by
  rcases h with h | h
  · go_enter Tryz.func6, Tryz.ntmps6
    go_wp2
    go_ret
    exact ⟨rfl, rfl⟩
  · have h1 : ¬ n < 1 := by omega
    go_enter Tryz.func6, Tryz.ntmps6
    go_wp2
    go_ret
    exact ⟨rfl, rfl⟩
theorem docR_new (w : World) (n : Nat) (hn : n ≤ 256) : DocR (w.alloc (.cells #[.int .i64 n, .slice none 0 0] 61)) w.heap.size n [] none :=
  ⟨hn, by simp, .slice none 0 0, [], heap_alloc_new w _, rfl, .inl ⟨rfl, rfl⟩, by simp, rfl, fun i h => by simp at h⟩
set_option maxHeartbeats 400000 in
theorem there_any (p most : Nat) (L : List (List UInt8)) (r : Option Nat) (k : Int) (w : World) (h : DocR w p most L r) : Calls Tryz.prog 27 #[.pointer (some ⟨p, 0, none⟩), .int .i64 k] w fun e w' => e = .returned (.bool (hasB L k)) ∧ w' = w := by
  obtain ⟨hp, a, cap, c0, c1, _, _⟩ := h.cells
  clear h
  by_cases h1 : 0 ≤ k
  · by_cases h2 : k < L.length
    · have e : hasB L k = true := by simp [hasB, h1, h2]
      rw [e]
      go_enter Tryz.func27, Tryz.ntmps27
      go_wp2
      go_ret
      exact ⟨rfl, rfl⟩
    · have e : hasB L k = false := by simp [hasB, h2]
      rw [e]
      go_enter Tryz.func27, Tryz.ntmps27
      go_wp2
      go_ret
      exact ⟨rfl, rfl⟩
  · have e : hasB L k = false := by simp [hasB, h1]
    rw [e]
    go_enter Tryz.func27, Tryz.ntmps27
    go_wp2
    go_ret
    exact ⟨rfl, rfl⟩

theorem doc_more {w w3 : World} {p most : Nat} {L : List (List UInt8)} {r : Option Nat} {x : Pk} {b : List UInt8} {v v3 : Value} {ps : List Pk} (h1 : most ≤ 256) (hL : L.length ≤ most)
    (h3 : w.heap[p]? = some (.cells #[.int .i64 most, v] 61 (0, 0))) (h4 : v.ownBlock = r) (h6 : r ≠ some p) (h7 : Pks NoB w p r ps L) (hx : Pkt NoB w p r x b)
    (ho : OffR w3 0 32 v3 (ps.map encP ++ [encP x])) (hg : (w.alloc (.cells #[encP x] 32)).grownBy w3 v.ownBlock) (hr : v3.ownBlock = v.ownBlock ∨ v3.ownBlock = some (w.heap.size + 1)) :
    DocR (w3.setCell ⟨p, 1, none⟩ v3) p most (L ++ [b]) v3.ownBlock ∧ NS w (w3.setCell ⟨p, 1, none⟩ v3) p r v3.ownBlock := by
  have hp : p < w.heap.size := (Array.getElem?_eq_some_iff.1 h3).1
  have hs : w.heap.size + 1 ≤ w3.heap.size := by have := hg.size; rwa [World.size_alloc] at this
  have hb : ∀ k, k < w.heap.size → r ≠ some k → w3.heap[k]? = w.heap[k]? := fun k hk hne => (hg.block k (by rw [World.size_alloc]; omega) (by rw [h4]; exact fun e => hne e.symm)).trans (Below.heap_alloc w _ k hk)
  have hr' : ∀ k, k < w.heap.size → r ≠ some k → v3.ownBlock ≠ some k := by
    intro k hk hne e
    rcases hr with q | q
    · rw [q, h4] at e; exact hne e
    · rw [q] at e; have := Option.some.inj e; omega
  refine ⟨docR_set (ps := ps ++ [x]) (v := v) h1 (by simp; omega) ((hb p hp h6).trans h3) ?_ (hr' p hp h6) ?_, ⟨hg.os, hg.tape, hg.output, by simp; omega, fun k hk hkp hkr => ?_, ?_⟩⟩
  · simpa using ho
  · exact (h7.more hx).kept (by omega) (fun k hk _ hne => hb k hk hne) hr'
  · exact (Below.heap_setCell w3 ⟨p, 1, none⟩ _ k hkp).trans (hb k hk (fun e => hkr e.symm))
  · rcases hr with q | q
    · exact .inl (q.trans h4)
    · exact .inr ⟨_, q, by omega⟩
theorem Pks.tail {lo : Nat → Prop} {w : World} {p : Nat} {r : Option Nat} {y : Pk} {ps : List Pk} {b : List UInt8} {L : List (List UInt8)} (h : Pks lo w p r (y :: ps) (b :: L)) : Pks lo w p r ps L := by
  refine ⟨by have := h.1; simpa using this, fun i a c => ?_⟩
  have := h.2 (i + 1) (by simp; omega) (by simp; omega)
  simpa using this
theorem doc_cut {w : World} {p most : Nat} {b : List UInt8} {L : List (List UInt8)} {r : Option Nat} {g off cap : Nat} (h : DocR w p most (b :: L) r) (hc : w.cell? ⟨p, 1, none⟩ = some (.slice (some ⟨g, off, none⟩) (L.length + 1) cap)) :
    DocR (w.setCell ⟨p, 1, none⟩ (.slice (some ⟨g, off + 1, none⟩) L.length (cap - 1))) p most L r ∧ NS w (w.setCell ⟨p, 1, none⟩ (.slice (some ⟨g, off + 1, none⟩) L.length (cap - 1))) p r r := by
  obtain ⟨h1, h2, v, ps, h3, h4, h5, h6, h7⟩ := h
  have hv : v = .slice (some ⟨g, off, none⟩) (L.length + 1) cap := by
    rw [cell_of_row w p 1 _ 61 (0, 0) h3] at hc
    exact Option.some.inj hc
  subst hv
  cases ps with
  | nil => have := h7.1; simp at this
  | cons y ps =>
    have hl : ps.length = L.length := by have := h7.1; simpa using this
    have h8 : OffR w 0 32 (.slice (some ⟨g, off, none⟩) ((ps.map encP).length + 1) cap) (encP y :: ps.map encP) := by rw [List.length_map, hl]; exact h5
    have h9 := h8.tail
    rw [List.length_map, hl] at h9
    subst h4
    refine ⟨docR_set (ps := ps) h1 (by simp at h2; omega) h3 h9 h6 h7.tail, ⟨rfl, rfl, rfl, by simp, fun k _ hk _ => Below.heap_setCell w ⟨p, 1, none⟩ _ k hk, .inl rfl⟩⟩
theorem Tryz.elem59 : Tryz.prog.underlying 59 = some (.slice (Tryz.prog.elem 59)) := by kernel_rfl
theorem Tryz.size32' (w : World) : (sizeOf (Tryz.prog.elem 59)).run Tryz.prog w = .ok 1 w := by rw [show Tryz.prog.elem 59 = 32 from by kernel_rfl]; exact Tryz.sizeOf32 w
theorem sl_one (g off n c : Nat) (h : 1 ≤ n) (hc : 2 ≤ c) (w : World) : (Instr.slice 59 (.slice (some ⟨g, off, none⟩) n c) (some (.int .i64 1)) none none).run Tryz.prog w = .ok (.slice (some ⟨g, off + 1, none⟩) (n - 1) (c - 1)) w := by
  rw [show (1 : Int) = ((1 : Nat) : Int) from rfl, run_slice_l (P := Tryz.prog) w 59 _ n c Tryz.elem59 .i64 (1 : Nat) (by omega) (by omega), Tryz.size32']
  simp [sliced, Addr.add, show ¬ c = 1 by omega]

set_option maxHeartbeats 800000 in
set_option maxRecDepth 100000 in
theorem came_any (p most : Nat) (L : List (List UInt8)) (r : Option Nat) (x : Pk) (b : List UInt8) (w : World) (h : DocR w p most L r) (h0 : 1 ≤ most) (hL : L.length ≤ most) (hx : Pkt NoB w p r x b) :
    Calls Tryz.prog 23 #[.pointer (some ⟨p, 0, none⟩), encP x] w fun e w' => e = .returned (.tuple #[]) ∧ ∃ r', DocR w' p most (cutM most (L ++ [b])) r' ∧ NS w w' p r r' := by
  obtain ⟨h1, h2, v, ps, h3, h4, h5, h6, hPk⟩ := h
  obtain ⟨i0, hi0, hz0, hz1, hz2⟩ := info_parts info30
  have c1 : w.cell? ⟨p, 1, none⟩ = some v := by rw [cell_of_row w p 1 _ 61 (0, 0) h3]; rfl
  have hp : p < w.heap.size := (Array.getElem?_eq_some_iff.1 h3).1
  have hpl : (ps.map encP).length = L.length := by rw [List.length_map]; exact hPk.1
  have H3 := hidOf h3
  have H4 := hidOf h4
  have H6 := hidOf h6
  have HP := hidOf hPk
  have HX := hidOf hx
  have HI := hidOf hi0
  have HZ0 := hidOf hz0
  have HZ1 := hidOf hz1
  have HZ2 := hidOf hz2
  have HPL := hidOf hpl
  obtain ⟨pa, pn, pc⟩ := x
  have H5 := hidOf (h5.kept (w' := w.alloc (.cells #[.slice pa pn pc] 32)) (fun g _ hg hgc => Below.heap_alloc w _ g (Array.getElem?_eq_some_iff.1 hgc).1))
  have HC1 : Hid ((w.alloc (.cells #[.slice pa pn pc] 32)).cell? ⟨w.heap.size, 0, none⟩ = some (.slice pa pn pc)) := by show _ = _; rw [cell_of_row _ _ 0 _ 32 (0, 0) (heap_alloc_new w _)]; rfl
  clear h3 h4 h6 hPk hx h5 hi0 hz0 hz1 hz2 hpl
  change Calls Tryz.prog 23 #[.pointer (some ⟨p, 0, none⟩), .slice pa pn pc] w _
  go_enter Tryz.func23, Tryz.ntmps23
  go_wp2_with (at_builtin; refine wpList_append_off _ rfl (.tmp 8) (.tmp 10) 59 rfl 0 32 i0 (.slice none 0 0) 24 Tryz.underlying59 HI.out HZ0.out HZ1.out HZ2.out rfl _ _ rfl H5.out ⟨w.heap.size, 0, none⟩ 1 (.slice pa pn pc) rfl HC1.out rfl ?c3 ?c4 (Nat.zero_le _) ?next)
  case c3 => rw [HPL.out]; unfold maxLen; omega
  case c4 => rw [HPL.out]; omega
  case next =>
    intro v3 w3 ho3 hg3 hw3
    have FIN := hidOf (doc_more (x := (pa, pn, pc)) h1 hL H3.out H4.out H6.out HP.out HX.out ho3 hg3 (by first | exact hw3 | (rw [World.size_alloc] at hw3; exact hw3)))
    have g3 : w3.heap[p]? = some (.cells #[.int .i64 most, v] 61 (0, 0)) := ((hg3.block p (by rw [World.size_alloc]; omega) (by rw [H4.out]; exact fun e => H6.out e.symm)).trans (Below.heap_alloc w _ p hp)).trans H3.out
    have c1' : w3.cell? ⟨p, 1, none⟩ = some v := by rw [cell_of_row w3 p 1 _ 61 (0, 0) g3]; rfl
    have c0' : w3.cell? ⟨p, 0, none⟩ = some (.int .i64 most) := by rw [cell_of_row w3 p 0 _ 61 (0, 0) g3]; rfl
    have f1' : w3.frozen? ⟨p, 1, none⟩ = false := by simp [World.frozen?, g3]
    have hp3 : p < w3.heap.size := (Array.getElem?_eq_some_iff.1 g3).1
    obtain ⟨g, off, cap, hv3, hcap⟩ : ∃ g off cap, v3 = .slice (some ⟨g, off, none⟩) (L.length + 1) cap ∧ L.length + 1 ≤ cap ∧ cap ≤ maxLen := by
      obtain ⟨a, c, e, hc1, hc2, hcl⟩ := ho3.form
      have hl : (ps.map encP ++ [Value.slice pa pn pc]).length = L.length + 1 := by rw [List.length_append, HPL.out]; rfl
      obtain ⟨g, off, e2, _⟩ := hcl L.length (by rw [hl]; omega)
      rw [hl] at e hc1
      subst e2
      exact ⟨g, off, c, e, hc1, hc2⟩
    subst hv3
    have HC3 : Hid ((w3.setCell ⟨p, 1, none⟩ (.slice (some ⟨g, off, none⟩) (L.length + 1) cap)).cell? ⟨p, 1, none⟩ = some (.slice (some ⟨g, off, none⟩) (L.length + 1) cap)) := World.cell?_setCell_same w3 _ _ c1'
    clear ho3 hg3 hw3 g3 H3 H4 H6 HP HX H5 HI HZ0 HZ1 HZ2 HC1
    by_cases hm0 : most < L.length + 1
    · have hm1 : ((L.length : Int) + 1 > most) := by omega
      have hsl := sl_one g off (L.length + 1) cap (by omega) (by omega)
      have HC := hidOf (cut_one most (L ++ [b]) (by simp; omega))
      obtain ⟨b0, L0, hbl⟩ : ∃ b0 L0, L ++ [b] = b0 :: L0 := by
        cases L with
        | nil => exact ⟨b, [], rfl⟩
        | cons y ys => exact ⟨y, ys ++ [b], rfl⟩
      have hl0 : L0.length = L.length := by have := congrArg List.length hbl; simp at this; omega
      have HCT : Hid (cutM most (L ++ [b]) = L0) := by show _ = _; rw [HC.out, hbl]; rfl
      have FIN2 : Hid (DocR ((w3.setCell ⟨p, 1, none⟩ (.slice (some ⟨g, off, none⟩) (L.length + 1) cap)).drew.setCell ⟨p, 1, none⟩ (.slice (some ⟨g, off + 1, none⟩) (L.length + 1 - 1) (cap - 1))) p most L0 (some g) ∧ NS w ((w3.setCell ⟨p, 1, none⟩ (.slice (some ⟨g, off, none⟩) (L.length + 1) cap)).drew.setCell ⟨p, 1, none⟩ (.slice (some ⟨g, off + 1, none⟩) (L.length + 1 - 1) (cap - 1))) p r (some g)) := by
        have hd := FIN.out.1
        rw [hbl] at hd
        have hd2 : DocR (w3.setCell ⟨p, 1, none⟩ (.slice (some ⟨g, off, none⟩) (L.length + 1) cap)).drew p most (b0 :: L0) (some g) := hd.kept (fun _ _ _ => rfl) (Nat.le_refl _)
        have hq := doc_cut (g := g) (off := off) (cap := cap) hd2 (by rw [hl0]; exact HC3.out)
        rw [hl0] at hq
        rw [Nat.add_sub_cancel]
        exact ⟨hq.1, FIN.out.2.drew.trans hq.2⟩
      have f2' : (w3.setCell ⟨p, 1, none⟩ (.slice (some ⟨g, off, none⟩) (L.length + 1) cap)).frozen? ⟨p, 1, none⟩ = false := by rw [World.frozen?_setCell]; exact f1'
      clear hL hm0 hbl hl0
      go_wp2
      go_region
      go_wp2
      go_end0
      rw [HCT.out]
      exact ⟨rfl, _, FIN2.out⟩
    · have HC := hidOf (cut_all most (L ++ [b]) (by simp; omega))
      have hm2 : ¬ ((L.length : Int) + 1 > most) := by omega
      clear hL hm0
      go_wp2
      go_region
      go_wp2
      go_end0
      rw [HC.out]
      exact ⟨rfl, _, FIN.out.1.kept (fun _ _ _ => rfl) (Nat.le_refl _), FIN.out.2.drew⟩

end Go.Proofs.YtcdoejdbmllnnabGreat

/- The document's net: Send, Copy, Lose, Deliver. -/
namespace Go.Proofs.YtcdoejdbmllnnabGreat
open Go.RowKit

set_option maxHeartbeats 800000 in
set_option maxRecDepth 100000 in
theorem dsend_no (p most : Nat) (L : List (List UInt8)) (r : Option Nat) (cs : List Value) (v : Vl F_msg) (w : World) (h : DocR w p most L r) (hr : Rep w (fun b => b < w.heap.size) F_msg cs v) (hz : szb F_msg v ≤ 137438953472) (hv : (en F_msg v).2 = true) :
    Calls Tryz.prog 9 #[.pointer (some ⟨p, 0, none⟩), .agg cs.toArray] w fun e w' => e = .returned (.int .i64 1) ∧ DocR w' p most L r ∧ Below w.heap.size w w' := by
  have hsz : Hid ((Tryz.prog.info? 50).map (·.size) = some cs.toArray.size) := by show _ = _; rw [List.size_toArray, hr.len]; exact box_msg
  have hB0 : Below w.heap.size w (w.alloc (.cells cs.toArray 50)) := (Below.refl _ _).alloc (Nat.le_refl _) _
  have HR : Hid (Rep (w.alloc (.cells cs.toArray 50)) (fun b => b < (w.alloc (.cells cs.toArray 50)).heap.size) F_msg cs v) := hr.kept hB0.size (fun b hb => hB0.block b hb) (fun _ x => Nat.lt_of_lt_of_le x hB0.size)
  have HN := hidOf h
  have HV := hidOf hv
  have HZ := hidOf hz
  have HB0 := hidOf hB0
  clear h hr hv hB0 hz
  go_enter Tryz.func9, Tryz.ntmps9
  go_wp2_with (refine wpList_load_row rfl 50 (.tmp 3) rfl w.heap.size rfl 50 cs.toArray (0, 0) _ (heap_alloc_new w _) Tryz.underlying50 rfl hsz.out ?_)
  refine (putMsg_o cs v _ HZ.out HR.out).mono ?_
  rintro e w1 ⟨val, rfl, hO, hN0, hB1⟩
  have hB : Below w.heap.size w w1 := HB0.out.trans (hB1.mono HB0.out.size)
  have HF := hidOf (HN.out.grow hB)
  rw [show codeB (en F_msg v).2 = 1 by rw [HV.out]; rfl]
  clear hO hN0 hB1 HB0 HR
  go_wp2
  go_ret
  exact ⟨rfl, HF.out, hB⟩

set_option maxHeartbeats 800000 in
set_option maxRecDepth 100000 in
theorem dsend_ok (p most : Nat) (L : List (List UInt8)) (r : Option Nat) (cs : List Value) (v : Vl F_msg) (w : World) (h : DocR w p most L r) (h0 : 1 ≤ most) (hL : L.length ≤ most) (hr : Rep w (fun b => b < w.heap.size) F_msg cs v) (hz : szb F_msg v ≤ 137438953472) (hv : (en F_msg v).2 = false) :
    Calls Tryz.prog 9 #[.pointer (some ⟨p, 0, none⟩), .agg cs.toArray] w fun e w' => e = .returned (.int .i64 0) ∧ ∃ r', DocR w' p most (cutM most (L ++ [(en F_msg v).1])) r' ∧ NS w w' p r r' := by
  have hsz : Hid ((Tryz.prog.info? 50).map (·.size) = some cs.toArray.size) := by show _ = _; rw [List.size_toArray, hr.len]; exact box_msg
  have hB0 : Below w.heap.size w (w.alloc (.cells cs.toArray 50)) := (Below.refl _ _).alloc (Nat.le_refl _) _
  have HR : Hid (Rep (w.alloc (.cells cs.toArray 50)) (fun b => b < (w.alloc (.cells cs.toArray 50)).heap.size) F_msg cs v) := hr.kept hB0.size (fun b hb => hB0.block b hb) (fun _ x => Nat.lt_of_lt_of_le x hB0.size)
  have HN := hidOf h
  have HV := hidOf hv
  have HZ := hidOf hz
  have HB0 := hidOf hB0
  clear h hr hv hB0 hz
  go_enter Tryz.func9, Tryz.ntmps9
  go_wp2_with (refine wpList_load_row rfl 50 (.tmp 3) rfl w.heap.size rfl 50 cs.toArray (0, 0) _ (heap_alloc_new w _) Tryz.underlying50 rfl hsz.out ?_)
  refine (putMsg_o cs v _ HZ.out HR.out).mono ?_
  rintro e w1 ⟨val, rfl, hO, hN0, hB1⟩
  have hB : Below w.heap.size w w1 := HB0.out.trans (hB1.mono HB0.out.size)
  have HF := hidOf (HN.out.grow hB)
  have hby : bytesB (en F_msg v) = (en F_msg v).1 := by unfold bytesB; rw [HV.out]; rfl
  rw [hby] at hO
  have hl : (en F_msg v).1.length ≤ 211106232532992 := Nat.le_trans (en_len F_msg v) mxl_msg
  obtain ⟨x, rfl, hx⟩ := own_pkt (lo := NoB) (p := p) (r := r) hO hl (fun k hk => by
    have h1 := hN0 k hk
    rw [World.size_alloc] at h1
    have h2 := HN.out.cells.1
    exact ⟨by omega, fun e => by have := HN.out.rlt k e; omega, trivial⟩)
  have HX := hidOf hx
  have HBB := hidOf hB
  rw [show codeB (en F_msg v).2 = 0 by rw [HV.out]; rfl]
  clear hO hN0 hB1 HB0 HR hx hl hby hB
  go_wp2_with fail
  refine (came_any p most L r x _ w1 HF.out h0 hL HX.out).mono ?_
  rintro e w2 ⟨rfl, r', hn2, hs2⟩
  have HE := hidOf (show DocR w2 p most (cutM most (L ++ [(en F_msg v).1])) r' ∧ NS w w2 p r r' from ⟨hn2, (NS.of_below HBB.out).trans hs2⟩)
  clear hn2 hs2 HX
  go_wp2
  go_ret
  exact ⟨rfl, r', HE.out⟩

set_option maxHeartbeats 400000 in
theorem dcopy_no (p most : Nat) (L : List (List UInt8)) (r : Option Nat) (k : Int) (w : World) (h : DocR w p most L r) (hk : hasB L k = false) : Calls Tryz.prog 16 #[.pointer (some ⟨p, 0, none⟩), .int .i64 k] w fun e w' => e = .returned (.bool false) ∧ w' = w := by
  have H := hidOf h
  have HK := hidOf hk
  clear h hk
  go_enter Tryz.func16, Tryz.ntmps16
  go_wp2_with fail
  refine (there_any p most L r k w H.out).mono ?_
  rintro e w1 ⟨rfl, hw⟩
  subst hw
  rw [HK.out]
  go_wp2
  go_ret
  exact ⟨rfl, rfl⟩
set_option maxHeartbeats 800000 in
set_option maxRecDepth 100000 in
theorem dcopy_ok (p most : Nat) (L : List (List UInt8)) (r : Option Nat) (k : Nat) (l : List UInt8) (w : World) (h : DocR w p most L r) (h0 : 1 ≤ most) (hL : L.length ≤ most) (hkl : L[k]? = some l) :
    Calls Tryz.prog 16 #[.pointer (some ⟨p, 0, none⟩), .int .i64 (k : Int)] w fun e w' => e = .returned (.bool true) ∧ ∃ r', DocR w' p most (cutM most (L ++ [l])) r' ∧ NS w w' p r r' := by
  obtain ⟨hk, _⟩ := List.getElem?_eq_some_iff.1 hkl
  obtain ⟨g, off, cap, x, c1, q1, q2, c2, hx⟩ := h.get k l hkl
  obtain ⟨pa, pn, pc⟩ := x
  have c2' : w.cell? ⟨g, off + k, none⟩ = some (.slice pa pn pc) := c2
  have h2 : most ≤ 256 := h.1
  have H := hidOf h
  have HX := hidOf hx
  have HH := hidOf (has_in L k hk)
  clear h hx c2 hkl
  go_enter Tryz.func16, Tryz.ntmps16
  go_wp2_with fail
  refine (there_any p most L r k w H.out).mono ?_
  rintro e w1 ⟨rfl, hw⟩
  subst hw
  rw [HH.out]
  go_wp2_with fail
  refine (came_any p most L r (pa, pn, pc) l _ H.out h0 hL HX.out).mono ?_
  rintro e w2 ⟨rfl, hn2⟩
  have HE := hidOf hn2
  clear hn2
  go_wp2
  go_ret
  exact ⟨rfl, HE.out⟩

set_option maxHeartbeats 400000 in
theorem dlose_no (p most : Nat) (L : List (List UInt8)) (r : Option Nat) (k : Int) (w : World) (h : DocR w p most L r) (hk : hasB L k = false) : Calls Tryz.prog 14 #[.pointer (some ⟨p, 0, none⟩), .int .i64 k] w fun e w' => e = .returned (.bool false) ∧ w' = w := by
  have H := hidOf h
  have HK := hidOf hk
  clear h hk
  go_enter Tryz.func14, Tryz.ntmps14
  go_wp2_with fail
  refine (there_any p most L r k w H.out).mono ?_
  rintro e w1 ⟨rfl, hw⟩
  subst hw
  rw [HK.out]
  go_wp2
  go_ret
  exact ⟨rfl, rfl⟩

end Go.Proofs.YtcdoejdbmllnnabGreat

/- The document's net: Lose, Deliver. -/
namespace Go.Proofs.YtcdoejdbmllnnabGreat
open Go.RowKit

/- what a step of the document's net leaves: its row is the old one, none, or a new one -/
structure ND (w w' : World) (p : Nat) (r r' : Option Nat) : Prop where
  os : w'.os = w.os
  tape : w'.tape = w.tape
  output : w'.output = w.output
  size : w.heap.size ≤ w'.heap.size
  block : ∀ k, k < w.heap.size → k ≠ p → some k ≠ r → w'.heap[k]? = w.heap[k]?
  row : ∀ q, r' = some q → r = some q ∨ w.heap.size ≤ q
theorem NS.nd {w w' : World} {p : Nat} {r r' : Option Nat} (h : NS w w' p r r') : ND w w' p r r' := ⟨h.os, h.tape, h.output, h.size, h.block, fun q hq => by
  rcases h.row with e | ⟨k, e, hk⟩
  · exact .inl (e ▸ hq)
  · rw [e] at hq; cases hq; exact .inr hk⟩
def adD (g off c k : Nat) : Addr := if c = k + 1 then ⟨g, off, none⟩ else ⟨g, off + (k + 1), none⟩
theorem sd_hi (g off n c k : Nat) (h : k ≤ c) (h0 : 0 < c) (w : World) : (Instr.slice 59 (.slice (some ⟨g, off, none⟩) n c) none (some (.int .i64 (k : Int))) none).run Tryz.prog w = .ok (.slice (some ⟨g, off, none⟩) k c) w := by
  rw [run_slice_h (P := Tryz.prog) w 59 _ n c Tryz.elem59 .i64 k (by omega) (by omega), Tryz.size32']
  simp [sliced, Addr.add, show ¬ c = 0 by omega]
theorem sd_lo (g off n c k : Nat) (h : k + 1 ≤ n) (w : World) : (Instr.slice 59 (.slice (some ⟨g, off, none⟩) n c) (some (.int .i64 ((k : Int) + 1))) none none).run Tryz.prog w = .ok (.slice (some (adD g off c k)) (n - (k + 1)) (c - (k + 1))) w := by
  rw [show ((k : Int) + 1) = ((k + 1 : Nat) : Int) by omega, run_slice_l (P := Tryz.prog) w 59 _ n c Tryz.elem59 .i64 (k + 1 : Nat) (by omega) (by omega), Tryz.size32']
  unfold adD
  by_cases e : c = k + 1
  · simp [sliced, e]
  · simp [sliced, e, Addr.add]
theorem encP_all (ps : List Pk) : ∀ u ∈ ps.map encP, u.oneCell' = true := by
  intro u hu
  obtain ⟨i, _, rfl⟩ := List.mem_map.1 hu
  rfl

set_option maxHeartbeats 1600000 in
set_option maxRecDepth 100000 in
theorem dlose_ok (p most : Nat) (L : List (List UInt8)) (r : Option Nat) (k : Nat) (w : World) (h : DocR w p most L r) (hk : k < L.length) : Calls Tryz.prog 14 #[.pointer (some ⟨p, 0, none⟩), .int .i64 (k : Int)] w fun e w' => e = .returned (.bool true) ∧ ∃ r', DocR w' p most (L.take k ++ L.drop (k + 1)) r' ∧ ND w w' p r r' := by
  have HD := hidOf h
  obtain ⟨h1, h2, v, ps, h3, h4, h5, h6, hPk⟩ := h
  obtain ⟨i0, hi0, hz0, hz1, hz2⟩ := info_parts info30
  have hpl : ps.length = L.length := hPk.1
  obtain ⟨a, cap, hv, hc1, hc2, hcl⟩ := h5.form
  obtain ⟨g, off, ha, _⟩ := hcl 0 (by rw [List.length_map]; omega)
  subst ha
  rw [List.length_map, hpl] at hv hc1
  subst hv
  have hcel : ∀ j u, (ps.map encP)[j]? = some u → w.cell? ⟨g, off + j, none⟩ = some u := by
    intro j u hu
    obtain ⟨g', off', e, hc⟩ := hcl j (List.getElem?_eq_some_iff.1 hu).1
    cases e
    rw [hc, hu]
  have hgw : g < w.heap.size := (h5.lt g rfl).2
  have hp : p < w.heap.size := (Array.getElem?_eq_some_iff.1 h3).1
  have c1 : w.cell? ⟨p, 1, none⟩ = some (.slice (some ⟨g, off, none⟩) L.length cap) := by rw [cell_of_row w p 1 _ 61 (0, 0) h3]; rfl
  have hs1 := sd_hi g off L.length cap k (by omega) (by omega)
  have hs2 := sd_lo g off L.length cap k (by omega)
  have HCA : Hid (∀ j u, ((ps.take k).map encP)[j]? = some u → w.cell? ((⟨g, off, none⟩ : Addr).add j) = some u) := by
    intro j u hu
    rw [List.map_take, List.getElem?_take] at hu
    split at hu
    · rw [Addr.add_lit]; exact hcel j u hu
    · cases hu
  have HCB : Hid (∀ j u, ((ps.drop (k + 1)).map encP)[j]? = some u → w.cell? ((adD g off cap k).add j) = some u) := by
    intro j u hu
    rw [List.map_drop, List.getElem?_drop] at hu
    have hjl := (List.getElem?_eq_some_iff.1 hu).1
    rw [List.length_map] at hjl
    unfold adD
    rw [if_neg (by omega), Addr.add_lit, Nat.add_assoc]
    exact hcel (k + 1 + j) u hu
  have HLA : Hid (((ps.take k).map encP).length = k * 1) := by show _ = _; simp; omega
  have HLB : Hid (((ps.drop (k + 1)).map encP).length = (L.length - (k + 1)) * 1) := by show _ = _; simp; omega
  have H3 := hidOf h3
  have H6 := hidOf h6
  have H4 := hidOf h4
  have HP := hidOf hPk
  have HI := hidOf hi0
  have HZ0 := hidOf hz0
  have HZ1 := hidOf hz1
  have HZ2 := hidOf hz2
  have HH := hidOf (has_in L k hk)
  have HPL := hidOf hpl
  clear h3 h4 h5 h6 hPk hi0 hz0 hz1 hz2 hcel hcl hpl
  go_enter Tryz.func14, Tryz.ntmps14
  go_wp2_with fail
  refine (there_any p most L r k w HD.out).mono ?_
  rintro e w0 ⟨rfl, hw⟩
  subst hw
  rw [HH.out]
  go_wp2_with (at_builtin; refine wpList_append_own2 _ rfl (.tmp 10) (.tmp 16) 59 rfl 0 32 i0 (.slice none 0 0) 1 24 Tryz.underlying59 HI.out HZ0.out HZ1.out HZ2.out rfl (by decide) (.slice none 0 0) 0 [] rfl ⟨rfl, .inl ⟨rfl, rfl⟩⟩ ⟨g, off, none⟩ k cap ((ps.take k).map encP) rfl HLA.out HCA.out (encP_all _) ?c3 ?c4 (Nat.zero_le _) ?nextA)
  case c3 => unfold maxLen; omega
  case c4 => omega
  case nextA =>
    intro vA wA hoA hgA hwA
    have hoA' : wA.ownsRow 0 32 1 vA k ((ps.take k).map encP) := by simpa using hoA
    have hkA : ∀ j, j < w0.heap.size → wA.heap[j]? = w0.heap[j]? := fun j hj => hgA.block j hj (fun e => by cases e)
    have c1A : wA.cell? ⟨p, 1, none⟩ = some (.slice (some ⟨g, off, none⟩) L.length cap) := (World.cell?_of_block (a := ⟨p, 1, none⟩) (hkA p hp)).trans c1
    have HCB2 : Hid (∀ j u, ((ps.drop (k + 1)).map encP)[j]? = some u → wA.cell? ((adD g off cap k).add j) = some u) := by
      intro j u hu
      have hq := HCB.out j u hu
      have hbk : ((adD g off cap k).add j).block = g := by
        unfold adD
        split <;> rw [Addr.add_lit]
      exact (World.cell?_of_block (by rw [hbk]; exact hkA g hgw)).trans hq
    have HOA := hidOf hoA'
    have HGA := hidOf hgA
    have HKA := hidOf hkA
    have HVA : Hid (∀ q, vA.ownBlock = some q → w0.heap.size ≤ q) := fun q hq => by
      rcases hwA with e | e
      · rw [e] at hq; cases hq
      · rw [e] at hq; cases hq; exact Nat.le_refl _
    have hpA : p < wA.heap.size := Nat.lt_of_lt_of_le hp hgA.size
    clear hoA hoA' hgA hwA hkA
    go_wp2_with (at_builtin; refine wpList_append_own2 _ rfl (.tmp 18) (.tmp 25) 59 rfl 0 32 i0 (.slice none 0 0) 1 24 Tryz.underlying59 HI.out HZ0.out HZ1.out HZ2.out rfl (by decide) vA k ((ps.take k).map encP) rfl HOA.out (adD g off cap k) (L.length - (k + 1)) (cap - (k + 1)) ((ps.drop (k + 1)).map encP) rfl HLB.out HCB2.out (encP_all _) ?c3 ?c4 (Nat.zero_le _) ?nextB)
    case c3 => unfold maxLen; omega
    case c4 => omega
    case nextB =>
      intro vB wB hoB hgB hwB
      have hkB : ∀ j, j < w0.heap.size → wB.heap[j]? = w0.heap[j]? := fun j hj => (hgB.block j (Nat.lt_of_lt_of_le hj HGA.out.size) (fun e => by have := HVA.out j e.symm; omega)).trans (HKA.out j hj)
      have hvB : ∀ q, vB.ownBlock = some q → w0.heap.size ≤ q := fun q hq => by
        rcases hwB with e | e
        · rw [e] at hq; exact HVA.out q hq
        · rw [e] at hq; cases hq; exact HGA.out.size
      have g3 := (hkB p hp).trans H3.out
      have hszB : w0.heap.size ≤ wB.heap.size := Nat.le_trans HGA.out.size hgB.size
      have hoB' : OffR wB 0 32 vB ((ps.take k ++ ps.drop (k + 1)).map encP) := OffR.of_own (n := k + (L.length - (k + 1))) (by rw [List.map_append]; simpa using hoB)
      have hpks : Pks NoB wB p vB.ownBlock (ps.take k ++ ps.drop (k + 1)) (L.take k ++ L.drop (k + 1)) := (HP.out.kept hszB (fun j hj _ _ => hkB j hj) (fun j hj _ e => by have := hvB j e; omega)).out k
      obtain ⟨aB, cB, hvBe, _⟩ := hoB'.form
      obtain ⟨nB, hnB⟩ : ∃ nB, ((ps.take k ++ ps.drop (k + 1)).map encP).length = nB := ⟨_, rfl⟩
      rw [hnB] at hvBe
      subst hvBe
      have FIN : Hid (DocR (wB.setCell ⟨p, 1, none⟩ (.slice aB nB cB)) p most (L.take k ++ L.drop (k + 1)) (Value.slice aB nB cB).ownBlock ∧ ND w0 (wB.setCell ⟨p, 1, none⟩ (.slice aB nB cB)) p r (Value.slice aB nB cB).ownBlock) :=
        ⟨docR_set (v := .slice (some ⟨g, off, none⟩) L.length cap) h1 (by simp; omega) g3 hoB' (fun e => by have := hvB p e; omega) hpks, ⟨hgB.os.trans HGA.out.os, hgB.tape.trans HGA.out.tape, hgB.output.trans HGA.out.output, by simpa using hszB, fun j hj hjp _ => (Below.heap_setCell wB ⟨p, 1, none⟩ _ j hjp).trans (hkB j hj), fun q hq => .inr (hvB q hq)⟩⟩
      have c1B : wB.cell? ⟨p, 1, none⟩ = some (.slice (some ⟨g, off, none⟩) L.length cap) := by rw [cell_of_row wB p 1 _ 61 (0, 0) g3]; rfl
      have f1B : wB.frozen? ⟨p, 1, none⟩ = false := by simp [World.frozen?, g3]
      have hpB : p < wB.heap.size := Nat.lt_of_lt_of_le hp hszB
      clear hoB hgB hwB hkB hvB g3 hszB hoB' hpks hnB HOA HGA HKA HVA HCB2 c1A HCA HCB HLA HLB H3 HP
      go_wp2
      go_ret
      exact ⟨rfl, _, FIN.out⟩

end Go.Proofs.YtcdoejdbmllnnabGreat

/- Deliver of the document's net; and what the code's net does where there is no such packet. -/
namespace Go.Proofs.YtcdoejdbmllnnabGreat
open Go.RowKit

set_option maxHeartbeats 400000 in
theorem copy_no {B : Nat → Prop} (p most : Nat) (L : List (List UInt8)) (r : Option Nat) (k : Int) (w : World) (h : NetR B w p most L r) (hk : hasB L k = false) : Calls Tryz.prog 15 #[.pointer (some ⟨p, 0, none⟩), .int .i64 k] w fun e w' => e = .returned (.bool false) ∧ w' = w := by
  have H := hidOf h
  have HK := hidOf hk
  clear h hk
  go_enter Tryz.func15, Tryz.ntmps15
  go_wp2_with fail
  refine (has_any p most L r k w H.out).mono ?_
  rintro e w1 ⟨rfl, hw⟩
  subst hw
  rw [HK.out]
  go_wp2
  go_ret
  exact ⟨rfl, rfl⟩
set_option maxHeartbeats 800000 in
set_option maxRecDepth 100000 in
theorem deliver_no {B : Nat → Prop} (p most : Nat) (L : List (List UInt8)) (r : Option Nat) (k : Int) (w : World) (h : NetR B w p most L r) (hk : hasB L k = false) : Calls Tryz.prog 10 #[.pointer (some ⟨p, 0, none⟩), .int .i64 k] w fun e w' => e = .returned (.tuple #[.agg Zr_msg, .bool false]) ∧ Below w.heap.size w w' := by
  have hB0 : Below w.heap.size w (w.alloc (.cells Zr_msg 50)) := (Below.refl _ _).alloc (Nat.le_refl _) _
  have H := hidOf (h.grow hB0)
  have HK := hidOf hk
  have HB0 := hidOf hB0
  clear h hk hB0
  go_enter Tryz.func10, Tryz.ntmps10
  go_wp2_with fail
  refine (has_any p most L r k _ H.out).mono ?_
  rintro e w1 ⟨rfl, hw⟩
  subst hw
  rw [HK.out]
  go_wp2_with (refine wpList_store_rowF rfl 50 (.tmp 4) (.tmp 11) rfl w.heap.size Zr_msg rfl rfl 50 Zr_msg (heap_alloc_new w (.cells Zr_msg 50)) Zr_msg_i rfl Zr_msg_o ?nx)
  case nx =>
    intro w6 hw6h
    have hw6 := hw6h.out
    have g6 : Hid (w6.heap[w.heap.size]? = some (.cells Zr_msg 50 (0, 0))) := by show _ = _; rw [hw6]; exact setRow_heap _ _ _ _ 50 _ (heap_alloc_new w _)
    have hB6 : Below w.heap.size w w6 := by rw [hw6]; exact HB0.out.trans ⟨rfl, rfl, rfl, by simp [World.setRow], fun k hk => setRow_other _ _ _ _ (by omega)⟩
    clear hw6 hw6h
    go_wp2
    refine bodyPost_ret (v := .tuple #[.agg Zr_msg, .bool false]) ?_ rfl ⟨rfl, hB6⟩
    simp [results, Tryz.results10, asAddr, run_loadVar_row w6 w.heap.size 50 50 Zr_msg (0, 0) _ g6.out Tryz.underlying50 rfl Zr_msg_i]
set_option maxHeartbeats 800000 in
set_option maxRecDepth 100000 in
theorem ddeliver_no (p most : Nat) (L : List (List UInt8)) (r : Option Nat) (k : Int) (w : World) (h : DocR w p most L r) (hk : hasB L k = false) : Calls Tryz.prog 11 #[.pointer (some ⟨p, 0, none⟩), .int .i64 k] w fun e w' => e = .returned (.tuple #[.agg Zr_msg, .bool false]) ∧ Below w.heap.size w w' := by
  have hB0 : Below w.heap.size w (w.alloc (.cells Zr_msg 50)) := (Below.refl _ _).alloc (Nat.le_refl _) _
  have H := hidOf (h.grow hB0)
  have HK := hidOf hk
  have HB0 := hidOf hB0
  clear h hk hB0
  go_enter Tryz.func11, Tryz.ntmps11
  go_wp2_with fail
  refine (there_any p most L r k _ H.out).mono ?_
  rintro e w1 ⟨rfl, hw⟩
  subst hw
  rw [HK.out]
  go_wp2_with (refine wpList_store_rowF rfl 50 (.tmp 4) (.tmp 12) rfl w.heap.size Zr_msg rfl rfl 50 Zr_msg (heap_alloc_new w (.cells Zr_msg 50)) Zr_msg_i rfl Zr_msg_o ?nx)
  case nx =>
    intro w6 hw6h
    have hw6 := hw6h.out
    have g6 : Hid (w6.heap[w.heap.size]? = some (.cells Zr_msg 50 (0, 0))) := by show _ = _; rw [hw6]; exact setRow_heap _ _ _ _ 50 _ (heap_alloc_new w _)
    have hB6 : Below w.heap.size w w6 := by rw [hw6]; exact HB0.out.trans ⟨rfl, rfl, rfl, by simp [World.setRow], fun k hk => setRow_other _ _ _ _ (by omega)⟩
    clear hw6 hw6h
    go_wp2
    refine bodyPost_ret (v := .tuple #[.agg Zr_msg, .bool false]) ?_ rfl ⟨rfl, hB6⟩
    simp [results, Tryz.results11, asAddr, run_loadVar_row w6 w.heap.size 50 50 Zr_msg (0, 0) _ g6.out Tryz.underlying50 rfl Zr_msg_i]
set_option maxHeartbeats 1600000 in
set_option maxRecDepth 100000 in
theorem ddeliver_ok (p most : Nat) (L : List (List UInt8)) (r : Option Nat) (k : Nat) (l : List UInt8) (w : World) (h : DocR w p most L r) (hkl : L[k]? = some l) :
    Calls Tryz.prog 11 #[.pointer (some ⟨p, 0, none⟩), .int .i64 (k : Int)] w fun e w' => ∃ (cs : List Value) (v : Vl F_msg) (r' : Option Nat), e = .returned (.tuple #[.agg cs.toArray, .bool true]) ∧ Rep w' (fun b => b < w'.heap.size) F_msg cs v ∧ ((de F_msg (some l)).2 = some [] → v = (de F_msg (some l)).1) ∧ DocR w' p most (L.take k ++ L.drop (k + 1)) r' ∧ ND w w' p r r' := by
  obtain ⟨hk, _⟩ := List.getElem?_eq_some_iff.1 hkl
  have hB0 : Below w.heap.size w (w.alloc (.cells Zr_msg 50)) := (Below.refl _ _).alloc (Nat.le_refl _) _
  have h0 : DocR (w.alloc (.cells Zr_msg 50)) p most L r := h.grow hB0
  obtain ⟨g, off, cap, x, c1, q1, q2, c2, hx⟩ := h0.get k l hkl
  obtain ⟨pa, pn, pc⟩ := x
  have c2' : (w.alloc (.cells Zr_msg 50)).cell? ⟨g, off + k, none⟩ = some (.slice pa pn pc) := c2
  have g0 : Hid ((w.alloc (.cells Zr_msg 50)).heap[w.heap.size]? = some (.cells Zr_msg 50 (0, 0))) := heap_alloc_new w _
  have h2 : L.length ≤ 257 := h.2.1
  have HP := hidOf h.cells.1
  have HRL := hidOf h.rlt
  have H := hidOf h0
  have HX := hidOf hx
  have HH := hidOf (has_in L k hk)
  have HK := hidOf hk
  have HB0 := hidOf hB0
  clear h hx c2 hkl h0 hB0
  go_enter Tryz.func11, Tryz.ntmps11
  go_wp2_with fail
  refine (there_any p most L r k _ H.out).mono ?_
  rintro e w1 ⟨rfl, hw⟩
  subst hw
  rw [HH.out]
  go_wp2_with fail
  refine (getm_o pa pn pc l _ HX.out.1 HX.out.2.1 HX.out.2.2.1 (fun y hy => (HX.out.2.2.2 y hy).2.2.1)).mono ?_
  rintro e w3 ⟨cl, vv, he, hrep, hval, hB3⟩
  have hcs : cl.toArray.size = Zr_msg.size := by rw [List.size_toArray, hrep.len]; kernel_rfl
  have HCS := hidOf hcs
  have HCO : Hid (cl.toArray.all (·.oneCell') = true) := hrep.all
  have HCI : Hid ((Tryz.prog.info? 50).map (·.size) = some cl.toArray.size) := by show _ = _; rw [hcs]; exact Zr_msg_i
  have HVAL := hidOf hval
  have HRE : Hid (Rep w3 (NBr (w.heap.size + 1) w3) F_msg cl vv) := hrep.keptN (Nat.le_refl _) (fun _ _ _ => rfl) (by rw [World.size_alloc]; omega)
  have hz1 : w.heap.size < (w.alloc (.cells Zr_msg 50)).heap.size := by rw [World.size_alloc]; omega
  have HN3 := hidOf (H.out.grow hB3)
  have HG3 := hidOf ((hB3.block _ hz1).trans g0.out)
  have HBW3 := hidOf (HB0.out.trans (hB3.mono HB0.out.size))
  have HSZ3 := hidOf (Nat.lt_of_lt_of_le hz1 hB3.size)
  obtain ⟨okb, hokb⟩ : ∃ okb, decide ((de F_msg (some l)).2 = some []) = okb := ⟨_, rfl⟩
  rw [hokb] at he
  subst he
  clear hrep hval hcs hB3 HX H g0 hokb hz1
  go_wp2_with (refine wpList_store_rowF rfl 50 (.tmp 6) (.tmp 22) rfl w3.heap.size cl.toArray rfl rfl 50 Zr_msg (heap_alloc_new w3 (.cells Zr_msg 50)) HCI.out HCS.out.symm HCO.out ?nx)
  case nx =>
    intro w4 hw4h
    have hw4 := hw4h.out
    have hB4 : Below w3.heap.size w3 w4 := by rw [hw4]; exact ((Below.refl _ _).alloc (Nat.le_refl _) _).trans ⟨rfl, rfl, rfl, by simp [World.setRow], fun k hk => setRow_other _ _ _ _ (by omega)⟩
    have GQ4 := hidOf (show w4.heap[w3.heap.size]? = some (.cells cl.toArray 50 (0, 0)) by rw [hw4]; exact setRow_heap _ _ _ _ 50 _ (heap_alloc_new w3 _))
    have HN4 := hidOf (HN3.out.grow hB4)
    have HG4 := hidOf ((hB4.block _ HSZ3.out).trans HG3.out)
    have HBW4 := hidOf (HBW3.out.trans (hB4.mono HBW3.out.size))
    have HRE4 := hidOf (HRE.out.keptN (lo' := w.heap.size + 1) hB4.size (fun b h1 h2 => hB4.block b h2) (Nat.le_refl _))
    clear hw4 hw4h hB4 HN3 HRE
    go_wp2_with fail
    refine (dlose_ok p most L r k w4 HN4.out HK.out).mono ?_
    rintro e w5 ⟨rfl, r5, hn5, hs5⟩
    have hr4 : ∀ b, w.heap.size ≤ b → some b ≠ r := fun b hb e => by have := HRL.out b e.symm; omega
    have hk5 : ∀ b, w.heap.size ≤ b → b < w4.heap.size → w5.heap[b]? = w4.heap[b]? := fun b hb hlt => hs5.block b hlt (by have := HP.out; omega) (hr4 b hb)
    have HG5 := hidOf ((hk5 _ (Nat.le_refl _) (Array.getElem?_eq_some_iff.1 HG4.out).1).trans HG4.out)
    have GQ5 := hidOf ((hk5 _ (by have := HSZ3.out; omega) (Array.getElem?_eq_some_iff.1 GQ4.out).1).trans GQ4.out)
    have HRE5 := hidOf (HRE4.out.keptN (lo' := w.heap.size + 1) hs5.size (fun b h1 h2 => hk5 b (by omega) h2) (Nat.le_refl _))
    have HN5 := hidOf hn5
    have HND : Hid (ND w w5 p r r5) := ⟨hs5.os.trans HBW4.out.os, hs5.tape.trans HBW4.out.tape, hs5.output.trans HBW4.out.output, Nat.le_trans HBW4.out.size hs5.size, fun b hb hp hr => (hs5.block b (Nat.lt_of_lt_of_le hb HBW4.out.size) hp hr).trans (HBW4.out.block b hb), fun q hq => by
      rcases hs5.row q hq with e | e
      · exact .inl e
      · exact .inr (Nat.le_trans HBW4.out.size e)⟩
    have HR5 : Hid (∀ q, r5 = some q → q ≠ w.heap.size) := fun q hq => by
      rcases hs5.row q hq with e | e
      · have := HRL.out q e; omega
      · have := HSZ3.out; have := (Array.getElem?_eq_some_iff.1 HG4.out).1; omega
    clear hn5 hs5 hk5 hr4 HRE4 HN4
    go_wp2_with (first
      | (refine wpList_load_row rfl 50 (.tmp 6) rfl w3.heap.size rfl 50 cl.toArray (0, 0) _ GQ5.out Tryz.underlying50 rfl HCI.out ?_)
      | (refine wpList_store_rowF rfl 50 (.tmp 4) (.tmp 27) rfl w.heap.size cl.toArray rfl rfl 50 Zr_msg HG5.out HCI.out HCS.out.symm HCO.out ?nx2))
    case nx2 =>
      intro w6 hw6h
      have hw6 := hw6h.out
      have hk6 : ∀ b, b ≠ w.heap.size → w6.heap[b]? = w5.heap[b]? := fun b hb => by rw [hw6]; exact setRow_other _ _ _ _ hb
      have hsz6 : w6.heap.size = w5.heap.size := by rw [hw6]; simp [World.setRow]
      have g6 : Hid (w6.heap[w.heap.size]? = some (.cells cl.toArray 50 (0, 0))) := by show _ = _; rw [hw6]; exact setRow_heap _ _ _ _ 50 _ HG5.out
      have os6 : w6.os = w5.os := by rw [hw6]; rfl
      have tp6 : w6.tape = w5.tape := by rw [hw6]; rfl
      have ou6 : w6.output = w5.output := by rw [hw6]; rfl
      have HRE6 : Hid (Rep w6 (fun b => b < w6.heap.size) F_msg cl vv) := (HRE5.out.keptN (lo' := w.heap.size + 1) (by omega) (fun b h1 h2 => hk6 b (by omega)) (Nat.le_refl _)).kept (Nat.le_refl _) (fun _ _ => rfl) (fun b x => x.2.1)
      have HN6 := hidOf (HN5.out.kept (w' := w6) (fun b hb hc => hk6 b (by
        rcases hc with e | e | e
        · have := HP.out; omega
        · exact HR5.out b e
        · rintro rfl
          obtain ⟨⟨c, hc⟩, _⟩ := e
          rw [HG5.out] at hc
          cases hc)) (by omega))
      have HND6 : Hid (ND w w6 p r r5) := ⟨os6.trans HND.out.os, tp6.trans HND.out.tape, ou6.trans HND.out.output, by rw [hsz6]; exact HND.out.size, fun b hb hp hr => (hk6 b (by omega)).trans (HND.out.block b hb hp hr), HND.out.row⟩
      clear hw6 hw6h hk6 hsz6 os6 tp6 ou6
      go_wp2
      refine bodyPost_ret (v := .tuple #[.agg cl.toArray, .bool true]) ?_ rfl ⟨cl, vv, r5, rfl, HRE6.out, HVAL.out, HN6.out, HND6.out⟩
      simp [results, Tryz.results11, asAddr, run_loadVar_row w6 w.heap.size 50 50 cl.toArray (0, 0) _ g6.out Tryz.underlying50 rfl HCI.out]

end Go.Proofs.YtcdoejdbmllnnabGreat

/- The code's net and the document's, side by side: a step of the one leaves the other as it was. -/
namespace Go.Proofs.YtcdoejdbmllnnabGreat
open Go.RowKit

theorem NetR.tags {lo : Nat → Prop} {w : World} {p most : Nat} {L : List (List UInt8)} {r : Option Nat} (h : NetR lo w p most L r) : (∃ cur, w.heap[p]? = some (.cells cur 69 (0, 0))) ∧ ∀ k, r = some k → ∃ cur, w.heap[k]? = some (.cells cur 32 (0, 0)) := by
  obtain ⟨_, _, v, ps, h3, h4, h5, _⟩ := h
  refine ⟨⟨_, h3⟩, fun k hk => ?_⟩
  rcases h5.2 with ⟨e, _⟩ | ⟨g, cap, cur, e1, _, e3, _⟩
  · rw [← h4, e] at hk; cases hk
  · rw [← h4, e1] at hk; cases hk; exact ⟨cur, e3⟩
theorem DocR.tags {w : World} {p most : Nat} {L : List (List UInt8)} {r : Option Nat} (h : DocR w p most L r) : (∃ cur, w.heap[p]? = some (.cells cur 61 (0, 0))) ∧ ∀ k, r = some k → ∃ cur, w.heap[k]? = some (.cells cur 32 (0, 0)) := by
  obtain ⟨_, _, v, ps, h3, h4, h5, _⟩ := h
  refine ⟨⟨_, h3⟩, fun k hk => ?_⟩
  rcases h5 with ⟨e, _⟩ | ⟨g, off, cap, cur, e1, _, e3, _⟩
  · rw [← h4, e] at hk; cases hk
  · rw [← h4, e1] at hk; cases hk; exact ⟨cur, e3⟩
theorem tag_ne {w : World} {i j : Nat} {a b : Array Value} {s t : TypeId} (hi : w.heap[i]? = some (.cells a s (0, 0))) (hj : w.heap[j]? = some (.cells b t (0, 0))) (hst : s ≠ t) : i ≠ j := by
  intro e
  rw [e, hj] at hi
  cases hi
  exact hst rfl
/- a net is as it was, if nothing was written that it holds: its packets' blocks told by their type -/
theorem NetR.keptT {lo : Nat → Prop} {w w' : World} {p most : Nat} {L : List (List UInt8)} {r : Option Nat} (h : NetR lo w p most L r) (hb : ∀ k, k < w.heap.size → (k = p ∨ r = some k ∨ T5 lo w k) → w'.heap[k]? = w.heap[k]?) (hs : w.heap.size ≤ w'.heap.size) : NetR lo w' p most L r := by
  obtain ⟨h1, h2, v, ps, h3, h4, h5, h6, h7, h8⟩ := h
  refine ⟨h1, h2, v, ps, (hb p (Array.getElem?_eq_some_iff.1 h3).1 (.inl rfl)).trans h3, h4, ⟨h5.1, ?_⟩, h6, h7, fun i a b => ?_⟩
  · rcases h5.2 with e | ⟨g, cap, cur, e1, e2, e3, e4⟩
    · exact .inl e
    · exact .inr ⟨g, cap, cur, e1, e2, (hb g (Array.getElem?_eq_some_iff.1 e3).1 (.inr (.inl (by rw [← h4, e1]; rfl)))).trans e3, e4⟩
  · obtain ⟨a1, a2, a3, a4⟩ := h8 i a b
    refine ⟨a1, a2, ⟨a3.1, fun hne => ?_⟩, fun y hy => ⟨(a4 y hy).1, (a4 y hy).2.1, Nat.lt_of_lt_of_le (a4 y hy).2.2.1 hs, (a4 y hy).2.2.2.to (hb _ (a4 y hy).2.2.1 (.inr (.inr (a4 y hy).2.2.2)))⟩⟩
    obtain ⟨b', off, e, hlt, hc⟩ := a3.2 hne
    exact ⟨b', off, e, Nat.lt_of_lt_of_le hlt hs, fun j hj => (World.cell?_of_block (a := ⟨b', off + j, none⟩) (hb b' hlt (.inr (.inr (a4 _ e).2.2.2)))).trans (hc j hj)⟩

/- rows that are not the same block -/
def Apt (r1 r2 : Option Nat) : Prop := ∀ k, r1 = some k → r2 ≠ some k
theorem Apt.code {w w' : World} {p : Nat} {r1 r1' r2 : Option Nat} (h : Apt r1 r2) (s : ND w w' p r1 r1') (h2 : ∀ k, r2 = some k → k < w.heap.size) : Apt r1' r2 := by
  intro k hk h2k
  rcases s.row k hk with e | e
  · exact h k e h2k
  · have := h2 k h2k; omega
theorem Apt.symm {r1 r2 : Option Nat} (h : Apt r1 r2) : Apt r2 r1 := fun k a b => h k b a
/- a step of the code's net leaves the document's -/
theorem DocR.side {lo : Nat → Prop} {w w' : World} {p1 p2 m1 m2 : Nat} {L1 L2 : List (List UInt8)} {r1 r1' r2 : Option Nat} (hd : DocR w p2 m2 L2 r2) (hn : NetR lo w p1 m1 L1 r1) (ha : Apt r1 r2) (s : NS w w' p1 r1 r1') : DocR w' p2 m2 L2 r2 ∧ Apt r1' r2 := by
  obtain ⟨⟨c1, t1⟩, q1⟩ := hn.tags
  obtain ⟨⟨c2, t2⟩, q2⟩ := hd.tags
  refine ⟨hd.kept (fun k hk hc => s.block k hk ?_ ?_) s.size, ha.code s.nd fun k hk => ?_⟩
  · rcases hc with rfl | e | ⟨⟨cur, e⟩, _⟩
    · exact tag_ne t2 t1 (by decide)
    · obtain ⟨cur, e⟩ := q2 k e
      exact tag_ne e t1 (by decide)
    · exact tag_ne e t1 (by decide)
  · intro e1
    obtain ⟨cu1, f1⟩ := q1 k e1.symm
    rcases hc with rfl | e | ⟨⟨cur, e⟩, _⟩
    · exact tag_ne t2 f1 (by decide) rfl
    · exact ha k e1.symm e
    · exact tag_ne e f1 (by decide) rfl
  · obtain ⟨_, e⟩ := q2 k hk
    exact (Array.getElem?_eq_some_iff.1 e).1
/- a step of the document's net leaves the code's -/
theorem NetR.side {lo : Nat → Prop} {w w' : World} {p1 p2 m1 m2 : Nat} {L1 L2 : List (List UInt8)} {r1 r2 r2' : Option Nat} (hn : NetR lo w p1 m1 L1 r1) (hd : DocR w p2 m2 L2 r2) (ha : Apt r1 r2) (s : ND w w' p2 r2 r2') : NetR lo w' p1 m1 L1 r1 ∧ Apt r1 r2' := by
  obtain ⟨⟨c1, t1⟩, q1⟩ := hn.tags
  obtain ⟨⟨c2, t2⟩, q2⟩ := hd.tags
  refine ⟨hn.keptT (fun k hk hc => s.block k hk ?_ ?_) s.size, (ha.symm.code s fun k hk => ?_).symm⟩
  · rcases hc with rfl | e | ⟨⟨cur, e⟩, _⟩
    · exact tag_ne t1 t2 (by decide)
    · obtain ⟨cur, e⟩ := q1 k e
      exact tag_ne e t2 (by decide)
    · exact tag_ne e t2 (by decide)
  · intro e1
    obtain ⟨cu1, f1⟩ := q2 k e1.symm
    rcases hc with rfl | e | ⟨⟨cur, e⟩, _⟩
    · exact tag_ne t1 f1 (by decide) rfl
    · exact ha k e e1.symm
    · exact tag_ne e f1 (by decide) rfl
  · obtain ⟨_, e⟩ := q1 k hk
    exact (Array.getElem?_eq_some_iff.1 e).1
end Go.Proofs.YtcdoejdbmllnnabGreat

/- The code's net and the document's in one: what holds between the calls, and each call held against it. -/
namespace Go.Proofs.YtcdoejdbmllnnabGreat
open Go.RowKit

/- both nets, with what is new since W -/
def Mid (W w : World) (p1 p2 most : Nat) (L1 L2 : List (List UInt8)) : Prop :=
  Below W.heap.size W w ∧ W.heap.size ≤ p1 ∧ W.heap.size ≤ p2 ∧ ∃ r1 r2, NetR NoB w p1 most L1 r1 ∧ DocR w p2 most L2 r2 ∧ Apt r1 r2 ∧ (∀ q, r1 = some q → W.heap.size ≤ q) ∧ (∀ q, r2 = some q → W.heap.size ≤ q)
/- what a step leaves: blocks of other types -/
structure KT (w w' : World) : Prop where
  size : w.heap.size ≤ w'.heap.size
  block : ∀ (k : Nat) (cs : Array Value) (t : TypeId), t ≠ 69 → t ≠ 61 → t ≠ 32 → w.heap[k]? = some (.cells cs t (0, 0)) → w'.heap[k]? = some (.cells cs t (0, 0))
theorem KT.of_below {w w' : World} (h : Below w.heap.size w w') : KT w w' := ⟨h.size, fun k _ _ _ _ _ hk => (h.block k (Array.getElem?_eq_some_iff.1 hk).1).trans hk⟩
theorem KT.trans {a b c : World} (h1 : KT a b) (h2 : KT b c) : KT a c := ⟨Nat.le_trans h1.size h2.size, fun k cs t a b c hk => h2.block k cs t a b c (h1.block k cs t a b c hk)⟩
theorem Mid.grow {W w w' : World} {p1 p2 most : Nat} {L1 L2 : List (List UInt8)} (h : Mid W w p1 p2 most L1 L2) (hb : Below w.heap.size w w') : Mid W w' p1 p2 most L1 L2 := by
  obtain ⟨h1, h2, h3, r1, r2, h4, h5, h6, h7, h8⟩ := h
  exact ⟨h1.trans (hb.mono h1.size), h2, h3, r1, r2, h4.grow hb, h5.grow hb, h6, h7, h8⟩
theorem NS.kt {lo : Nat → Prop} {w w' : World} {p m : Nat} {L : List (List UInt8)} {r r' : Option Nat} (hn : NetR lo w p m L r) (s : NS w w' p r r') : KT w w' := by
  obtain ⟨⟨c1, t1⟩, q1⟩ := hn.tags
  refine ⟨s.size, fun k cs t a1 _ a3 hk => (s.block k (Array.getElem?_eq_some_iff.1 hk).1 (tag_ne hk t1 a1) fun e => ?_).trans hk⟩
  obtain ⟨_, f⟩ := q1 k e.symm
  exact tag_ne hk f a3 rfl
theorem ND.kt {w w' : World} {p m : Nat} {L : List (List UInt8)} {r r' : Option Nat} (hn : DocR w p m L r) (s : ND w w' p r r') : KT w w' := by
  obtain ⟨⟨c1, t1⟩, q1⟩ := hn.tags
  refine ⟨s.size, fun k cs t _ a2 a3 hk => (s.block k (Array.getElem?_eq_some_iff.1 hk).1 (tag_ne hk t1 a2) fun e => ?_).trans hk⟩
  obtain ⟨_, f⟩ := q1 k e.symm
  exact tag_ne hk f a3 rfl
theorem ND.below {W w w' : World} {p : Nat} {r r' : Option Nat} (s : ND w w' p r r') (hb : Below W.heap.size W w) (hp : W.heap.size ≤ p) (hr : ∀ q, r = some q → W.heap.size ≤ q) : Below W.heap.size W w' :=
  hb.trans ⟨s.os, s.tape, s.output, s.size, fun k hk => s.block k (Nat.lt_of_lt_of_le hk hb.size) (by omega) fun e => by have := hr k e.symm; omega⟩
theorem ND.rowD {W w w' : World} {p : Nat} {r r' : Option Nat} (s : ND w w' p r r') (hb : W.heap.size ≤ w.heap.size) (hr : ∀ q, r = some q → W.heap.size ≤ q) : ∀ q, r' = some q → W.heap.size ≤ q := by
  intro q hq
  rcases s.row q hq with e | e
  · exact hr q e
  · omega
theorem mid_code {W w w' : World} {p1 p2 most : Nat} {L1 L2 L' : List (List UInt8)} {r1 r2 r' : Option Nat} (h1 : Below W.heap.size W w) (h2 : W.heap.size ≤ p1) (h3 : W.heap.size ≤ p2) (h4 : NetR NoB w p1 most L1 r1) (h5 : DocR w p2 most L2 r2) (h6 : Apt r1 r2) (h7 : ∀ q, r1 = some q → W.heap.size ≤ q) (h8 : ∀ q, r2 = some q → W.heap.size ≤ q)
    (hn : NetR NoB w' p1 most L' r') (s : NS w w' p1 r1 r') : Mid W w' p1 p2 most L' L2 ∧ KT w w' := by
  obtain ⟨d, a⟩ := h5.side h4 h6 s
  exact ⟨⟨s.nd.below h1 h2 h7, h2, h3, r', r2, hn, d, a, s.nd.rowD h1.size h7, h8⟩, s.kt h4⟩
theorem mid_doc {W w w' : World} {p1 p2 most : Nat} {L1 L2 L' : List (List UInt8)} {r1 r2 r' : Option Nat} (h1 : Below W.heap.size W w) (h2 : W.heap.size ≤ p1) (h3 : W.heap.size ≤ p2) (h4 : NetR NoB w p1 most L1 r1) (h5 : DocR w p2 most L2 r2) (h6 : Apt r1 r2) (h7 : ∀ q, r1 = some q → W.heap.size ≤ q) (h8 : ∀ q, r2 = some q → W.heap.size ≤ q)
    (hn : DocR w' p2 most L' r') (s : ND w w' p2 r2 r') : Mid W w' p1 p2 most L1 L' ∧ KT w w' := by
  obtain ⟨d, a⟩ := h4.side h5 h6 s
  exact ⟨⟨s.below h1 h3 h8, h2, h3, r1, r', d, hn, a, h7, s.rowD h1.size h8⟩, s.kt h5⟩

/- every packet is a message's bytes -/
def PkM (L : List (List UInt8)) : Prop := ∀ l ∈ L, ∃ v, (en F_msg v).2 = false ∧ (en F_msg v).1 = l
theorem PkM.cut {L : List (List UInt8)} {l : List UInt8} (h : PkM L) (most : Nat) (hl : ∃ v, (en F_msg v).2 = false ∧ (en F_msg v).1 = l) : PkM (cutM most (L ++ [l])) := by
  intro x hx
  rcases List.mem_append.1 (List.mem_of_mem_drop hx) with e | e
  · exact h x e
  · simp at e; subst e; exact hl
theorem PkM.out {L : List (List UInt8)} (h : PkM L) (k : Nat) : PkM (L.take k ++ L.drop (k + 1)) := by
  intro x hx
  rcases List.mem_append.1 hx with e | e
  · exact h x (List.mem_of_mem_take e)
  · exact h x (List.mem_of_mem_drop e)
theorem out_le {L : List (List UInt8)} {most : Nat} (h : L.length ≤ most) (k : Nat) : (L.take k ++ L.drop (k + 1)).length ≤ most := by simp; omega
theorem cutD_le (R : Nat) (l : List (List UInt8)) : (cutM R l).length ≤ R := by unfold cutM; simp; omega
theorem has_some {L : List (List UInt8)} {k : Int} (h : hasB L k = true) : ∃ n : Nat, k = n ∧ n < L.length := by
  simp [hasB] at h
  exact ⟨k.toNat, by omega, by omega⟩

/- Send -/
theorem msend_no {W w : World} {p1 p2 most : Nat} {L1 L2 : List (List UInt8)} {cs : List Value} {v : Vl F_msg} (h : Mid W w p1 p2 most L1 L2) (hr : Rep w (fun b => b < w.heap.size) F_msg cs v) (hv : (en F_msg v).2 = true) :
    Calls Tryz.prog 8 #[.pointer (some ⟨p1, 0, none⟩), .agg cs.toArray] w fun e w' => e = .returned (.int .i64 1) ∧ Mid W w' p1 p2 most L1 L2 ∧ Below w.heap.size w w' := by
  have h' := h
  obtain ⟨h1, h2, h3, r1, r2, h4, h5, h6, h7, h8⟩ := h'
  refine (send_no p1 most L1 r1 cs v w h4 hr hv).mono ?_
  rintro e w' ⟨rfl, _, b⟩
  exact ⟨rfl, h.grow b, b⟩
theorem mdsend_no {W w : World} {p1 p2 most : Nat} {L1 L2 : List (List UInt8)} {cs : List Value} {v : Vl F_msg} (h : Mid W w p1 p2 most L1 L2) (hr : Rep w (fun b => b < w.heap.size) F_msg cs v) (hz : szb F_msg v ≤ 137438953472) (hv : (en F_msg v).2 = true) :
    Calls Tryz.prog 9 #[.pointer (some ⟨p2, 0, none⟩), .agg cs.toArray] w fun e w' => e = .returned (.int .i64 1) ∧ Mid W w' p1 p2 most L1 L2 ∧ KT w w' := by
  have h' := h
  obtain ⟨h1, h2, h3, r1, r2, h4, h5, h6, h7, h8⟩ := h'
  refine (dsend_no p2 most L2 r2 cs v w h5 hr hz hv).mono ?_
  rintro e w' ⟨rfl, _, b⟩
  exact ⟨rfl, h.grow b, KT.of_below b⟩
theorem msend_ok {W w : World} {p1 p2 most : Nat} {L1 L2 : List (List UInt8)} {cs : List Value} {v : Vl F_msg} (h : Mid W w p1 p2 most L1 L2) (hL : L1.length ≤ most) (hr : Rep w (fun b => b < w.heap.size) F_msg cs v) (hv : (en F_msg v).2 = false) :
    Calls Tryz.prog 8 #[.pointer (some ⟨p1, 0, none⟩), .agg cs.toArray] w fun e w' => e = .returned (.int .i64 0) ∧ Mid W w' p1 p2 most (cutM most (L1 ++ [(en F_msg v).1])) L2 ∧ KT w w' := by
  obtain ⟨h1, h2, h3, r1, r2, h4, h5, h6, h7, h8⟩ := h
  refine (send_ok p1 most L1 r1 cs v w h4 hL (fun _ _ => trivial) hr hv).mono ?_
  rintro e w' ⟨rfl, r', hn, s⟩
  exact ⟨rfl, mid_code h1 h2 h3 h4 h5 h6 h7 h8 hn s⟩
theorem mdsend_ok {W w : World} {p1 p2 most : Nat} {L1 L2 : List (List UInt8)} {cs : List Value} {v : Vl F_msg} (h : Mid W w p1 p2 most L1 L2) (h0 : 1 ≤ most) (hL : L2.length ≤ most) (hr : Rep w (fun b => b < w.heap.size) F_msg cs v) (hz : szb F_msg v ≤ 137438953472) (hv : (en F_msg v).2 = false) :
    Calls Tryz.prog 9 #[.pointer (some ⟨p2, 0, none⟩), .agg cs.toArray] w fun e w' => e = .returned (.int .i64 0) ∧ Mid W w' p1 p2 most L1 (cutM most (L2 ++ [(en F_msg v).1])) ∧ KT w w' := by
  obtain ⟨h1, h2, h3, r1, r2, h4, h5, h6, h7, h8⟩ := h
  refine (dsend_ok p2 most L2 r2 cs v w h5 h0 hL hr hz hv).mono ?_
  rintro e w' ⟨rfl, r', hn, s⟩
  exact ⟨rfl, mid_doc h1 h2 h3 h4 h5 h6 h7 h8 hn s.nd⟩
/- Lose -/
theorem mlose {W w : World} {p1 p2 most : Nat} {L1 L2 : List (List UInt8)} {k : Int} (h : Mid W w p1 p2 most L1 L2) :
    Calls Tryz.prog 13 #[.pointer (some ⟨p1, 0, none⟩), .int .i64 k] w fun e w' => e = .returned (.bool (hasB L1 k)) ∧ Mid W w' p1 p2 most (if hasB L1 k then L1.take k.toNat ++ L1.drop (k.toNat + 1) else L1) L2 ∧ KT w w' := by
  have h' := h
  obtain ⟨h1, h2, h3, r1, r2, h4, h5, h6, h7, h8⟩ := h'
  cases hk : hasB L1 k with
  | false =>
    refine (lose_no p1 most L1 r1 k w h4 hk).mono ?_
    rintro e w' ⟨rfl, rfl⟩
    exact ⟨rfl, h, KT.of_below (Below.refl _ _)⟩
  | true =>
    obtain ⟨n, rfl, hn⟩ := has_some hk
    refine (lose_ok p1 most L1 r1 n w h4 hn).mono ?_
    rintro e w' ⟨rfl, hn', s⟩
    exact ⟨rfl, mid_code h1 h2 h3 h4 h5 h6 h7 h8 hn' s⟩
theorem mdlose {W w : World} {p1 p2 most : Nat} {L1 L2 : List (List UInt8)} {k : Int} (h : Mid W w p1 p2 most L1 L2) :
    Calls Tryz.prog 14 #[.pointer (some ⟨p2, 0, none⟩), .int .i64 k] w fun e w' => e = .returned (.bool (hasB L2 k)) ∧ Mid W w' p1 p2 most L1 (if hasB L2 k then L2.take k.toNat ++ L2.drop (k.toNat + 1) else L2) ∧ KT w w' := by
  have h' := h
  obtain ⟨h1, h2, h3, r1, r2, h4, h5, h6, h7, h8⟩ := h'
  cases hk : hasB L2 k with
  | false =>
    refine (dlose_no p2 most L2 r2 k w h5 hk).mono ?_
    rintro e w' ⟨rfl, rfl⟩
    exact ⟨rfl, h, KT.of_below (Below.refl _ _)⟩
  | true =>
    obtain ⟨n, rfl, hn⟩ := has_some hk
    refine (dlose_ok p2 most L2 r2 n w h5 hn).mono ?_
    rintro e w' ⟨rfl, r', hn', s⟩
    exact ⟨rfl, mid_doc h1 h2 h3 h4 h5 h6 h7 h8 hn' s⟩
/- Copy -/
def copyL (most : Nat) (L : List (List UInt8)) (k : Int) : List (List UInt8) := if hasB L k then cutM most (L ++ [L.getD k.toNat []]) else L
theorem mcopy {W w : World} {p1 p2 most : Nat} {L1 L2 : List (List UInt8)} {k : Int} (h : Mid W w p1 p2 most L1 L2) (hL : L1.length ≤ most) :
    Calls Tryz.prog 15 #[.pointer (some ⟨p1, 0, none⟩), .int .i64 k] w fun e w' => e = .returned (.bool (hasB L1 k)) ∧ Mid W w' p1 p2 most (copyL most L1 k) L2 ∧ KT w w' := by
  have h' := h
  obtain ⟨h1, h2, h3, r1, r2, h4, h5, h6, h7, h8⟩ := h'
  unfold copyL
  cases hk : hasB L1 k with
  | false =>
    refine (copy_no p1 most L1 r1 k w h4 hk).mono ?_
    rintro e w' ⟨rfl, rfl⟩
    exact ⟨rfl, h, KT.of_below (Below.refl _ _)⟩
  | true =>
    obtain ⟨n, rfl, hn⟩ := has_some hk
    have hg : L1[n]? = some (L1.getD n []) := by rw [List.getD_eq_getElem?_getD, List.getElem?_eq_getElem hn]; rfl
    refine (copy_ok p1 most L1 r1 n _ w h4 hL hg).mono ?_
    rintro e w' ⟨rfl, r', hn', s⟩
    exact ⟨rfl, mid_code h1 h2 h3 h4 h5 h6 h7 h8 hn' s⟩
theorem mdcopy {W w : World} {p1 p2 most : Nat} {L1 L2 : List (List UInt8)} {k : Int} (h : Mid W w p1 p2 most L1 L2) (h0 : 1 ≤ most) (hL : L2.length ≤ most) :
    Calls Tryz.prog 16 #[.pointer (some ⟨p2, 0, none⟩), .int .i64 k] w fun e w' => e = .returned (.bool (hasB L2 k)) ∧ Mid W w' p1 p2 most L1 (copyL most L2 k) ∧ KT w w' := by
  have h' := h
  obtain ⟨h1, h2, h3, r1, r2, h4, h5, h6, h7, h8⟩ := h'
  unfold copyL
  cases hk : hasB L2 k with
  | false =>
    refine (dcopy_no p2 most L2 r2 k w h5 hk).mono ?_
    rintro e w' ⟨rfl, rfl⟩
    exact ⟨rfl, h, KT.of_below (Below.refl _ _)⟩
  | true =>
    obtain ⟨n, rfl, hn⟩ := has_some hk
    have hg : L2[n]? = some (L2.getD n []) := by rw [List.getD_eq_getElem?_getD, List.getElem?_eq_getElem hn]; rfl
    refine (dcopy_ok p2 most L2 r2 n _ w h5 h0 hL hg).mono ?_
    rintro e w' ⟨rfl, r', hn', s⟩
    exact ⟨rfl, mid_doc h1 h2 h3 h4 h5 h6 h7 h8 hn' s.nd⟩
theorem PkM.copy {L : List (List UInt8)} (h : PkM L) (most : Nat) (k : Int) : PkM (copyL most L k) := by
  unfold copyL
  split
  · rename_i hk
    obtain ⟨n, rfl, hn⟩ := has_some hk
    refine h.cut most (h _ ?_)
    rw [show ((n : Int)).toNat = n from rfl, List.getD_eq_getElem?_getD, List.getElem?_eq_getElem hn]
    exact List.getElem_mem hn
  · exact h
theorem copy_le {L : List (List UInt8)} {most : Nat} (h : L.length ≤ most) (k : Int) : (copyL most L k).length ≤ most := by
  unfold copyL
  split
  · exact cutD_le _ _
  · exact h
/- how many there are -/
theorem Mid.len {W w : World} {p1 p2 most : Nat} {L1 L2 : List (List UInt8)} (h : Mid W w p1 p2 most L1 L2) : Calls Tryz.prog 17 #[.pointer (some ⟨p1, 0, none⟩)] w fun e w' => e = .returned (.int .i64 L1.length) ∧ w' = w := by
  obtain ⟨_, _, _, r1, r2, h4, _⟩ := h
  exact len_any p1 most L1 r1 w h4
theorem Mid.row {W w : World} {p1 p2 most : Nat} {L1 L2 : List (List UInt8)} (h : Mid W w p1 p2 most L1 L2) : p2 < w.heap.size ∧ L2.length ≤ 257 ∧ ∃ a cap, w.cell? ⟨p2, 1, none⟩ = some (.slice a L2.length cap) := by
  obtain ⟨_, _, _, r1, r2, _, h5, _⟩ := h
  obtain ⟨a, x, cap, _, h1, _⟩ := h5.cells
  exact ⟨a, h5.2.1, x, cap, h1⟩
/- Deliver -/
theorem mdel_no {W w : World} {p1 p2 most : Nat} {L1 L2 : List (List UInt8)} {k : Int} (h : Mid W w p1 p2 most L1 L2) (hk : hasB L1 k = false) :
    Calls Tryz.prog 10 #[.pointer (some ⟨p1, 0, none⟩), .int .i64 k] w fun e w' => e = .returned (.tuple #[.agg Zr_msg, .bool false]) ∧ Mid W w' p1 p2 most L1 L2 ∧ Below w.heap.size w w' := by
  have h' := h
  obtain ⟨h1, h2, h3, r1, r2, h4, h5, h6, h7, h8⟩ := h'
  refine (deliver_no p1 most L1 r1 k w h4 hk).mono ?_
  rintro e w' ⟨rfl, b⟩
  exact ⟨rfl, h.grow b, b⟩
theorem mddel_no {W w : World} {p1 p2 most : Nat} {L1 L2 : List (List UInt8)} {k : Int} (h : Mid W w p1 p2 most L1 L2) (hk : hasB L2 k = false) :
    Calls Tryz.prog 11 #[.pointer (some ⟨p2, 0, none⟩), .int .i64 k] w fun e w' => e = .returned (.tuple #[.agg Zr_msg, .bool false]) ∧ Mid W w' p1 p2 most L1 L2 ∧ Below w.heap.size w w' := by
  have h' := h
  obtain ⟨h1, h2, h3, r1, r2, h4, h5, h6, h7, h8⟩ := h'
  refine (ddeliver_no p2 most L2 r2 k w h5 hk).mono ?_
  rintro e w' ⟨rfl, b⟩
  exact ⟨rfl, h.grow b, b⟩
/- the blocks that are new since a world, told by their place alone -/
def Fr (lo : Nat) (w : World) : Nat → Prop := fun b => lo ≤ b ∧ b < w.heap.size
/- the row of the document's net lies below a place -/
def LowR (w : World) (p lo : Nat) : Prop := ∀ (c v : Value), w.heap[p]? = some (.cells #[c, v] 61 (0, 0)) → ∀ q, v.ownBlock = some q → q < lo
theorem DocR.low {w : World} {p most lo : Nat} {L : List (List UInt8)} {r : Option Nat} (h : DocR w p most L r) (hr : ∀ q, r = some q → q < lo) : LowR w p lo := by
  obtain ⟨_, _, v, _, h3, h4, _⟩ := h
  intro c v' hv q hq
  rw [h3] at hv
  cases hv
  exact hr q (h4 ▸ hq)
theorem LowR.kept {w w' : World} {p lo : Nat} (h : LowR w p lo) (e : w'.heap[p]? = w.heap[p]?) : LowR w' p lo := fun c v hv => h c v (e ▸ hv)
theorem mdel_ok {W w : World} {p1 p2 most : Nat} {L1 L2 : List (List UInt8)} {n : Nat} {v : Vl F_msg} (h : Mid W w p1 p2 most L1 L2) (hn : L1[n]? = some (en F_msg v).1) (hv : (en F_msg v).2 = false) :
    Calls Tryz.prog 10 #[.pointer (some ⟨p1, 0, none⟩), .int .i64 (n : Int)] w fun e w' => ∃ cs : List Value, e = .returned (.tuple #[.agg cs.toArray, .bool true]) ∧ Rep w' (Fr w.heap.size w') F_msg cs v ∧ (Mid W w' p1 p2 most (L1.take n ++ L1.drop (n + 1)) L2 ∧ KT w w') ∧ p2 < w.heap.size ∧ LowR w' p2 w.heap.size := by
  obtain ⟨h1, h2, h3, r1, r2, h4, h5, h6, h7, h8⟩ := h
  refine (deliver_ok p1 most L1 r1 n _ w h4 hn).mono ?_
  rintro e w' ⟨cs, v', rfl, hrep, hval, hn', s⟩
  have hd := de_en F_msg v [] hv
  rw [List.append_nil] at hd
  rw [hd] at hval
  have e1 : v' = v := hval rfl
  subst e1
  rw [hd]
  exact ⟨cs, rfl, hrep.kept (Nat.le_refl _) (fun _ _ => rfl) (fun b x => ⟨x.1, x.2.1⟩), mid_code h1 h2 h3 h4 h5 h6 h7 h8 hn' s, h5.cells.1, (h5.side h4 h6 s).1.low h5.rlt⟩
theorem mddel_ok {W w : World} {p1 p2 most : Nat} {L1 L2 : List (List UInt8)} {n lo : Nat} {v : Vl F_msg} {ca : List Value} (h : Mid W w p1 p2 most L1 L2) (hn : L2[n]? = some (en F_msg v).1) (hv : (en F_msg v).2 = false) (hlo : p2 < lo) (hl2 : LowR w p2 lo) (ha : Rep w (Fr lo w) F_msg ca v) :
    Calls Tryz.prog 11 #[.pointer (some ⟨p2, 0, none⟩), .int .i64 (n : Int)] w fun e w' => ∃ cs : List Value, e = .returned (.tuple #[.agg cs.toArray, .bool true]) ∧ Rep w' (fun b => b < w'.heap.size) F_msg cs v ∧ Rep w' (fun b => b < w'.heap.size) F_msg ca v ∧ Mid W w' p1 p2 most L1 (L2.take n ++ L2.drop (n + 1)) ∧ KT w w' := by
  obtain ⟨h1, h2, h3, r1, r2, h4, h5, h6, h7, h8⟩ := h
  have hq : ∀ q, r2 = some q → q < lo := by
    obtain ⟨_, _, v, _, h3, h4, _⟩ := h5
    exact fun q e => hl2 _ _ h3 q (h4.trans e)
  refine (ddeliver_ok p2 most L2 r2 n _ w h5 hn).mono ?_
  rintro e w' ⟨cs, v', r', rfl, hrep, hval, hn', s⟩
  have hd := de_en F_msg v [] hv
  rw [List.append_nil] at hd
  rw [hd] at hval
  have e1 : v' = v := hval rfl
  subst e1
  refine ⟨cs, rfl, hrep, ha.kept s.size (fun b x => s.block b x.2 (by have := x.1; omega) fun e => by have := hq b e.symm; have := x.1; omega) (fun b x => Nat.lt_of_lt_of_le x.2 s.size), mid_doc h1 h2 h3 h4 h5 h6 h7 h8 hn' s⟩
end Go.Proofs.YtcdoejdbmllnnabGreat

/- The walk of NetPlays: whatever room and steps, it returns true and changes nothing that was there. Made by program (wip/gen/pla.py). -/
namespace Go.Proofs.YtcdoejdbmllnnabGreat
open Go.RowKit

def Zr_op : Array Value := #[.int .i64 0, .int .i64 0, .int .i64 0, .int .i64 0, .int .i64 0, .int .i64 0, .int .i64 0, .int .i64 0, .bool false, .int .i64 0, .int .i64 0, .int .i64 0, .int .i64 0, .slice none 0 0, .slice none 0 0, .slice none 0 0, .slice none 0 0, .int .i64 0, .int .i64 0, .int .i64 0, .int .i64 0, .int .i64 0, .int .i64 0, .int .i64 0, .slice none 0 0, .int .i64 0, .bool false, .int .i64 0, .int .i64 0, .int .i64 0, .bool false, .bool false, .int .i64 0, .int .i64 0, .int .i64 0, .slice none 0 0, .int .i64 0, .int .i64 0, .int .i64 0, .slice none 0 0, .slice none 0 0, .bool false, .slice none 0 0, .slice none 0 0, .int .i64 0, .int .i64 0, .slice none 0 0, .int .i64 0]
theorem zv_ok : (en F_msg Zv_msg).2 = false := by kernel_rfl
theorem op_parts {w : World} {S : Nat → Prop} {es : List Value} {v : Vl F_op} (h : Rep w S F_op es v) : ∃ cm, es = .int .i64 v.1 :: (cm ++ [.int .i64 v.2.2]) ∧ Rep w S F_msg cm v.2.1 := by
  obtain ⟨xs, ys, rfl, h1, cm, zs, rfl, h2, h3⟩ := h
  rw [show xs = _ from h1, show zs = _ from h3]
  exact ⟨cm, rfl, h2⟩
theorem zr_op_size (es : List Value) (h : es.length = 48) : Zr_op.size = es.toArray.size := by rw [show es.toArray.size = 48 from h]; kernel_rfl
theorem op_base {W : World} {a : Option Addr} {vs : List (Vl F_op)} {k : Nat} (hR : RepL W (fun b => b < W.heap.size) F_op a vs) (hk : k < vs.length) : ∃ b off, a = some ⟨b, off, none⟩ ∧ b < W.heap.size := by
  obtain ⟨b, off, h1, h2, _⟩ := hR.2 (fun e => by rw [e] at hk; simp at hk)
  exact ⟨b, off, h1, h2⟩
theorem op_at {W : World} {b off : Nat} {vs : List (Vl F_op)} (hR : RepL W (fun b => b < W.heap.size) F_op (some ⟨b, off, none⟩) vs) (hZ : ∀ i (hi : i < vs.length), szb F_msg vs[i].2.1 ≤ 137438953472) (k : Nat) (hk : k < vs.length) :
    ∃ (es cm : List Value) (kd n : Int) (vm : Vl F_msg), es.length = 48 ∧ es.toArray.all (·.oneCell') = true ∧ W.rangeAt b (off + k * 48) es ∧ es = .int .i64 kd :: (cm ++ [.int .i64 n]) ∧ Rep W (fun b => b < W.heap.size) F_msg cm vm ∧ szb F_msg vm ≤ 137438953472 := by
  obtain ⟨b', off', e, _, hat⟩ := hR.2 (fun e => by rw [e] at hk; simp at hk)
  cases e
  obtain ⟨es, hrep, hrg⟩ := hat k hk
  rw [show wd F_op = 48 from by kernel_rfl] at hrg
  obtain ⟨cm, hcm, hrm⟩ := op_parts hrep
  exact ⟨es, cm, _, _, _, hrep.len, hrep.all, hrg, hcm, hrm, hZ k hk⟩
theorem lose_le {L : List (List UInt8)} {most : Nat} (h : L.length ≤ most) (k : Int) : (if hasB L k then L.take k.toNat ++ L.drop (k.toNat + 1) else L).length ≤ most := by
  split
  · exact out_le h _
  · exact h
theorem PkM.lose {L : List (List UInt8)} (h : PkM L) (k : Int) : PkM (if hasB L k then L.take k.toNat ++ L.drop (k.toNat + 1) else L) := by
  split
  · exact h.out _
  · exact h
/- the box of a step: its kind, its message, its number -/
structure Bx (w : World) (b : Nat) (kd n : Int) (cm : List Value) : Prop where
  row : w.heap[b]? = some (.cells (Value.int .i64 kd :: (cm ++ [.int .i64 n])).toArray 52 (0, 0))
  len : cm.length = 46
theorem Bx.kd {w : World} {b : Nat} {kd n : Int} {cm : List Value} (h : Bx w b kd n cm) : w.cell? ⟨b, 0, none⟩ = some (.int .i64 kd) := by rw [cell_of_row w b 0 _ 52 (0, 0) h.row]; rfl
theorem Bx.n {w : World} {b : Nat} {kd n : Int} {cm : List Value} (h : Bx w b kd n cm) : w.cell? ⟨b, 47, none⟩ = some (.int .i64 n) := by
  rw [cell_of_row w b 47 _ 52 (0, 0) h.row, List.getElem?_toArray, List.getElem?_cons_succ, List.getElem?_append_right (by rw [h.len]; omega), h.len]; rfl
theorem Bx.msg {w : World} {b : Nat} {kd n : Int} {cm : List Value} (h : Bx w b kd n cm) : w.rangeAt b 1 cm := by
  intro j v hv
  have hj := (List.getElem?_eq_some_iff.1 hv).1
  rw [cell_of_row w b _ _ 52 (0, 0) h.row, List.getElem?_toArray, Nat.add_comm, List.getElem?_cons_succ, List.getElem?_append_left hj]
  exact hv
theorem Bx.kt {w w' : World} {b : Nat} {kd n : Int} {cm : List Value} (h : Bx w b kd n cm) (s : KT w w') : Bx w' b kd n cm := ⟨s.block b _ 52 (by decide) (by decide) (by decide) h.row, h.len⟩
theorem Bx.lt {w : World} {b : Nat} {kd n : Int} {cm : List Value} (h : Bx w b kd n cm) : b < w.heap.size := (Array.getElem?_eq_some_iff.1 h.row).1

set_option maxHeartbeats 1600000 in
set_option maxRecDepth 100000 in
theorem lawPlaysNo (W : World) (most : Int) (a : Option Addr) (len cap : Nat) (h : most < 1 ∨ 256 < most) :
    Calls Tryz.prog 3 #[.int .i64 most, .slice a len cap] W fun e w' => e = .returned (.bool true) ∧ Below W.heap.size W w' := by
  have HN := hidI (new_no most W h)
  have HD := hidI (dnew_no most W h)
  clear h
  go_enter Tryz.func3, Tryz.ntmps3
  go_wp2_with fail
  refine HN.out.mono ?_
  rintro e w1 ⟨rfl, hw⟩
  subst hw
  go_wp2_with fail
  refine HD.out.mono ?_
  rintro e w1 ⟨rfl, hw⟩
  subst hw
  go_wp2_with fail
  refine (known_any _).mono ?_
  rintro e w2 ⟨rfl, hb⟩
  go_wp2
  go_ret
  exact ⟨rfl, hb⟩

set_option maxHeartbeats 8000000 in
set_option maxRecDepth 100000 in
theorem lawPlaysYes (W : World) (R : Nat) (h1 : 1 ≤ R) (h2 : R ≤ 256) (a : Option Addr) (cap : Nat) (vs : List (Vl F_op)) (hR : RepL W (fun b => b < W.heap.size) F_op a vs) (hZ : ∀ i (hi : i < vs.length), szb F_msg vs[i].2.1 ≤ 137438953472) :
    Calls Tryz.prog 3 #[.int .i64 (R : Int), .slice a vs.length cap] W fun e w' => e = .returned (.bool true) ∧ Below W.heap.size W w' := by
  have hvl := hR.1
  have HR := hidI hR
  have HSZ := hidI hZ
  have hB1 : Below W.heap.size W (W.alloc (.cells #[.int .i64 (R : Int), .slice none 0 0] 69)) := (Below.refl _ _).alloc (Nat.le_refl _) _
  have hB2 : Below W.heap.size W ((W.alloc (.cells #[.int .i64 (R : Int), .slice none 0 0] 69)).alloc (.cells #[.int .i64 (R : Int), .slice none 0 0] 61)) := hB1.alloc (by rw [World.size_alloc]; omega) _
  have hD0 := docR_new (W.alloc (.cells #[.int .i64 (R : Int), .slice none 0 0] 69)) R h2
  rw [World.size_alloc] at hD0
  have hN0 := (netR_new (lo := NoB) W R h2).grow (show Below _ _ ((W.alloc (.cells #[.int .i64 (R : Int), .slice none 0 0] 69)).alloc (.cells #[.int .i64 (R : Int), .slice none 0 0] 61)) from (Below.refl _ _).alloc (Nat.le_refl _) _)
  have HM0 : Hid (Mid W ((W.alloc (.cells #[.int .i64 (R : Int), .slice none 0 0] 69)).alloc (.cells #[.int .i64 (R : Int), .slice none 0 0] 61)) W.heap.size (W.heap.size + 1) R [] []) := ⟨hB2, Nat.le_refl _, Nat.le_succ _, none, none, hN0, hD0, fun k hk => (by cases hk), fun q hq => (by cases hq), fun q hq => (by cases hq)⟩
  have hDN := dnew_ok (R : Int) (W.alloc (.cells #[.int .i64 (R : Int), .slice none 0 0] 69)) (by omega) (by omega)
  rw [World.size_alloc] at hDN
  have HDN := hidI hDN
  clear hR hB1 hB2 hN0 hD0 hDN hZ
  go_enter Tryz.func3, Tryz.ntmps3
  go_wp2_with fail
  refine (new_ok (R : Int) W (by omega) (by omega)).mono ?_
  rintro e w1 ⟨rfl, rfl⟩
  go_wp2_with fail
  refine HDN.out.mono ?_
  rintro e w1 ⟨rfl, hw1⟩
  have HM1 : Hid (Mid W w1 W.heap.size (W.heap.size + 1) R [] []) := by rw [hw1]; exact HM0.out
  clear hw1 HM0
  go_wp2_with fail
  refine (known_any _).mono ?_
  rintro e w2 ⟨rfl, hb⟩
  have HM2 : Hid (Mid W w2 W.heap.size (W.heap.size + 1) R [] [] ∧ ([] : List (List UInt8)).length ≤ R ∧ PkM []) := ⟨HM1.out.grow hb, Nat.zero_le _, fun l hl => by cases hl⟩
  clear hb
  go_wp2_with fail
  go_loopw [7] (fun i wr => ∃ k : Nat, ∃ L : List (List UInt8), k ≤ vs.length ∧ i = .int .i64 (k : Int) ∧ Hid (Mid W wr W.heap.size (W.heap.size + 1) R L L ∧ L.length ≤ R ∧ PkM L)) (fun i _ => vs.length - (intOf i).toNat)
  case atStart => exact ⟨0, [], Nat.zero_le _, rfl, HM2⟩
  case round =>
    obtain ⟨k, L, hkl, rfl, HM⟩ := hrel
    by_cases hlt : k < vs.length
    · obtain ⟨b, off, rfl, hbW⟩ : ∃ b off, a = some ⟨b, off, none⟩ ∧ b < W.heap.size := op_base HR.out hlt
      obtain ⟨es, cm, kd, n, vm, hes, hall, hrg, hcm, hrm, hsz⟩ := op_at HR.out HSZ.out k hlt
      have HRG := hidI (rangeAt_kept hrg (HM.out.1.1.block b hbW))
      have HEI : Hid ((Tryz.prog.info? 52).map (·.size) = some es.length) := by show _ = _; rw [hes]; kernel_rfl
      have HEI2 : Hid ((Tryz.prog.info? 52).map (·.size) = some es.toArray.size) := by show _ = _; rw [List.size_toArray, hes]; kernel_rfl
      have HES := hidI (zr_op_size es hes)
      have HEO := hidI hall
      have HCM := hidI hcm
      have HRM := hidI hrm
      have HZ := hidI hsz
      have hlm : cm.length = 46 := by rw [hrm.len]; kernel_rfl
      have HLM := hidI hlm
      have HJM : Hid ((Tryz.prog.info? 50).map (·.size) = some cm.length) := by show _ = _; rw [hlm]; kernel_rfl
      clear hrg hall hes hcm hrm hsz hlm hbW
      go_wp2_with (first
        | (refine wpList_load_mid rfl 52 (.tmp 37) rfl b (off + k * 48) rfl es _ HRG.out Tryz.underlying52 rfl HEI.out ?_)
        | (refine wpList_store_rowF rfl 52 (.tmp 8) (.tmp 38) rfl wr.heap.size es.toArray rfl rfl 52 Zr_op (heap_alloc_new wr (.cells Zr_op 52)) HEI2.out HES.out HEO.out ?next))
      case next =>
        intro w3 hw3h
        have hw3 := hw3h.out
        have hB3 : Below wr.heap.size wr w3 := by rw [hw3]; exact ((Below.refl _ _).alloc (Nat.le_refl _) _).trans ⟨rfl, rfl, rfl, by simp [World.setRow], fun k hk => setRow_other _ _ _ _ (by omega)⟩
        have BX3 : Hid (Bx w3 wr.heap.size kd n cm) := ⟨by rw [hw3, ← HCM.out]; exact setRow_heap _ _ _ _ 52 _ (heap_alloc_new wr _), HLM.out⟩
        have HM3 : Hid (Mid W w3 W.heap.size (W.heap.size + 1) R L L ∧ L.length ≤ R ∧ PkM L) := ⟨HM.out.1.grow hB3, HM.out.2⟩
        have HR3 := hidI (rep_up HRM.out HM3.out.1.1)
        have hbl := BX3.out.lt
        have hkd := BX3.out.kd
        clear hw3 hw3h hB3 HRG HEI HEI2 HES HEO HCM HM
        by_cases hk0 : kd = 0
        · subst hk0
          cases hen : (en F_msg vm).2 with
          | true =>
            have HEN := hidI hen
            clear hen
            go_wp2
            refine wp_region_held_drew (S := fun w' => w'.rangeAt wr.heap.size 1 cm) (by kernel_rfl) BX3.out.msg (fun hHeld => ?_)
            refine wpAnyH_take (i := 0) (oi := { dst := some 43, op := Op.move (Operand.tmp 5), type := 23, pos := "law.go:60", after := #[], guard := none }) (v := .pointer (some ⟨W.heap.size, 0, none⟩)) rfl (by kernel_rfl) (by kernel_rfl) (by kernel_rfl) (fun _ _ _ h => h) (Or.inl ⟨by rfl, ?_⟩) hHeld ?_
            · (intro w hSw; (try dsimp only at hSw); go_simp)
            try simp only [Act.put, List.setIfInBounds_toArray, List.set_cons_zero, List.set_cons_succ]
            refine wpAnyH_take (i := 1) (oi := { dst := some 44, op := Op.fieldAddr 52 (Operand.tmp 8) 1, type := 0, pos := "law.go:60", after := #[], guard := none }) (v := .pointer (some ⟨wr.heap.size, 1, none⟩)) rfl (by kernel_rfl) (by kernel_rfl) (by kernel_rfl) (fun _ _ _ h => h) (Or.inl ⟨by rfl, ?_⟩) hHeld ?_
            · (intro w hSw; (try dsimp only at hSw); go_simp)
            try simp only [Act.put, List.setIfInBounds_toArray, List.set_cons_zero, List.set_cons_succ]
            refine wpAnyH_take (i := 2) (oi := { dst := some 45, op := Op.load 50 (Operand.tmp 44), type := 50, pos := "law.go:60", after := #[{ on := 1, ground := Ground.data }], guard := none }) (v := .agg cm.toArray) rfl (by kernel_rfl) (by kernel_rfl) (by kernel_rfl) (fun _ _ _ h => h) (yieldsIf_load_mid (by rfl) 50 (.tmp 44) rfl wr.heap.size 1 rfl cm _ (fun _ h => h) Tryz.underlying50 rfl HJM.out) hHeld ?_
            try simp only [Act.put, List.setIfInBounds_toArray, List.set_cons_zero, List.set_cons_succ]
            refine wpAnyH_take (i := 4) (oi := { dst := some 47, op := Op.move (Operand.tmp 6), type := 25, pos := "law.go:60", after := #[], guard := none }) (v := .pointer (some ⟨W.heap.size + 1, 0, none⟩)) rfl (by kernel_rfl) (by kernel_rfl) (by kernel_rfl) (fun _ _ _ h => h) (Or.inl ⟨by rfl, ?_⟩) hHeld ?_
            · (intro w hSw; (try dsimp only at hSw); go_simp)
            try simp only [Act.put, List.setIfInBounds_toArray, List.set_cons_zero, List.set_cons_succ]
            refine wpAnyH_take (i := 5) (oi := { dst := some 48, op := Op.fieldAddr 52 (Operand.tmp 8) 1, type := 0, pos := "law.go:60", after := #[], guard := none }) (v := .pointer (some ⟨wr.heap.size, 1, none⟩)) rfl (by kernel_rfl) (by kernel_rfl) (by kernel_rfl) (fun _ _ _ h => h) (Or.inl ⟨by rfl, ?_⟩) hHeld ?_
            · (intro w hSw; (try dsimp only at hSw); go_simp)
            try simp only [Act.put, List.setIfInBounds_toArray, List.set_cons_zero, List.set_cons_succ]
            refine wpAnyH_take (i := 6) (oi := { dst := some 49, op := Op.load 50 (Operand.tmp 48), type := 50, pos := "law.go:60", after := #[{ on := 5, ground := Ground.data }], guard := none }) (v := .agg cm.toArray) rfl (by kernel_rfl) (by kernel_rfl) (by kernel_rfl) (fun _ _ _ h => h) (yieldsIf_load_mid (by rfl) 50 (.tmp 48) rfl wr.heap.size 1 rfl cm _ (fun _ h => h) Tryz.underlying50 rfl HJM.out) hHeld ?_
            try simp only [Act.put, List.setIfInBounds_toArray, List.set_cons_zero, List.set_cons_succ]
            refine wpAnyH_ready (rs := [3]) (by kernel_rfl) (by simp) ?_
            refine AllReadyH.cons (o := { dst := some 46, op := Op.call { callee := Callee.value (Operand.func 8), args := #[Operand.tmp 43, Operand.tmp 45], argTypes := #[23, 50] }, type := 46, pos := "law.go:60", after := #[{ on := 0, ground := Ground.data }, { on := 2, ground := Ground.data }], guard := none }) rfl (fun K hK => ?_) AllReadyH.nil
            go_simp
            have HMd := hidI (HM3.out.1.grow ((Below.refl _ _).drew))
            refine (msend_no HMd.out (rep_up HRM.out HMd.out.1) HEN.out).mono ?_
            rintro e w4 ⟨rfl, hm4, b4⟩
            have HM4 := hidI hm4
            have BX4 := hidI (BX3.out.kt ((KT.of_below ((Below.refl _ _).drew)).trans (KT.of_below b4)))
            clear hm4 b4
            refine hK.out _ _ BX4.out.msg (fun hHeld2 => ?_)
            clear hK K
            try simp only [Act.put, List.setIfInBounds_toArray, List.set_cons_zero, List.set_cons_succ]
            refine wpAnyH_ready (rs := [7]) (by kernel_rfl) (by simp) ?_
            refine AllReadyH.cons (o := { dst := some 50, op := Op.call { callee := Callee.value (Operand.func 9), args := #[Operand.tmp 47, Operand.tmp 49], argTypes := #[25, 50] }, type := 46, pos := "law.go:60", after := #[{ on := 4, ground := Ground.data }, { on := 6, ground := Ground.data }, { on := 3, ground := Ground.chain }], guard := none }) rfl (fun K hK => ?_) AllReadyH.nil
            go_simp
            refine (mdsend_no HM4.out (rep_up HRM.out HM4.out.1) HZ.out HEN.out).mono ?_
            rintro e w5 ⟨rfl, hm5, t5⟩
            have HM5 := hidI hm5
            have BX5 := hidI (BX4.out.kt t5)
            clear hm5 t5
            refine hK.out _ _ BX5.out.msg (fun hHeld3 => ?_)
            clear hK K
            try simp only [Act.put, List.setIfInBounds_toArray, List.set_cons_zero, List.set_cons_succ]
            refine wpAnyH_take (i := 8) (oi := { dst := some 51, op := Op.binOp BinOp.eql 46 (Operand.tmp 46) (Operand.tmp 50) 46, type := 4, pos := "law.go:60", after := #[{ on := 3, ground := Ground.data }, { on := 7, ground := Ground.data }], guard := none }) (v := .bool true) rfl (by kernel_rfl) (by kernel_rfl) (by kernel_rfl) (fun _ _ _ h => h) (Or.inl ⟨by rfl, ?_⟩) hHeld3 ?_
            · (intro w hSw; (try dsimp only at hSw); go_simp)
            try simp only [Act.put, List.setIfInBounds_toArray, List.set_cons_zero, List.set_cons_succ]
            refine wpAnyH_take (i := 9) (oi := { dst := some 9, op := Op.assign (Operand.tmp 51), type := 4, pos := "law.go:60", after := #[{ on := 8, ground := Ground.data }, { on := 7, ground := Ground.chain }, { on := 0, ground := Ground.phase }, { on := 1, ground := Ground.phase }, { on := 2, ground := Ground.phase }, { on := 3, ground := Ground.phase }, { on := 4, ground := Ground.phase }, { on := 5, ground := Ground.phase }, { on := 6, ground := Ground.phase }, { on := 7, ground := Ground.phase }, { on := 8, ground := Ground.phase }], guard := none }) (v := .bool true) rfl (by kernel_rfl) (by kernel_rfl) (by kernel_rfl) (fun _ _ _ h => h) (Or.inl ⟨by rfl, ?_⟩) hHeld3 ?_
            · (intro w hSw; (try dsimp only at hSw); go_simp)
            try simp only [Act.put, List.setIfInBounds_toArray, List.set_cons_zero, List.set_cons_succ]
            refine wpAnyH_done (by kernel_rfl) ?_ _
            obtain ⟨L9, HM9⟩ : ∃ L9, Hid (Mid W _ W.heap.size (W.heap.size + 1) R L9 L9 ∧ L9.length ≤ R ∧ PkM L9) := ⟨L, ⟨HM5.out, HM3.out.2⟩⟩
            obtain ⟨hp9, hl9, a9, c9, hc9⟩ := HM9.out.1.row
            obtain ⟨m9, hm9⟩ : ∃ m9, Hid (L9.length = m9) := ⟨_, hidI rfl⟩
            rw [hm9.out] at hc9 hl9
            go_wp2
            refine wp_region_held_drew (S := fun w' => w'.cell? ⟨W.heap.size + 1, 1, none⟩ = some (.slice a9 m9 c9)) (by kernel_rfl) hc9 (fun hHeld => ?_)
            refine wpAnyH_take (i := 0) (oi := { dst := some 98, op := Op.move (Operand.tmp 9), type := 4, pos := "law.go:70", after := #[], guard := none }) (v := .bool true) rfl (by kernel_rfl) (by kernel_rfl) (by kernel_rfl) (fun _ _ _ h => h) (Or.inl ⟨by rfl, ?_⟩) hHeld ?_
            · (intro w hSw; (try dsimp only at hSw); go_simp)
            try simp only [Act.put, List.setIfInBounds_toArray, List.set_cons_zero, List.set_cons_succ]
            refine wpAnyH_take (i := 1) (oi := { dst := some 99, op := Op.unOp UnOp.not 4 (Operand.tmp 98), type := 4, pos := "law.go:70", after := #[{ on := 0, ground := Ground.data }], guard := none }) (v := .bool false) rfl (by kernel_rfl) (by kernel_rfl) (by kernel_rfl) (fun _ _ _ h => h) (Or.inl ⟨by rfl, ?_⟩) hHeld ?_
            · (intro w hSw; (try dsimp only at hSw); go_simp)
            try simp only [Act.put, List.setIfInBounds_toArray, List.set_cons_zero, List.set_cons_succ]
            refine wpAnyH_take (i := 2) (oi := { dst := some 100, op := Op.move (Operand.tmp 99), type := 4, pos := "law.go:70", after := #[{ on := 1, ground := Ground.data }], guard := none }) (v := .bool false) rfl (by kernel_rfl) (by kernel_rfl) (by kernel_rfl) (fun _ _ _ h => h) (Or.inl ⟨by rfl, ?_⟩) hHeld ?_
            · (intro w hSw; (try dsimp only at hSw); go_simp)
            try simp only [Act.put, List.setIfInBounds_toArray, List.set_cons_zero, List.set_cons_succ]
            refine wpAnyH_take (i := 3) (oi := { dst := some 101, op := Op.move (Operand.tmp 5), type := 23, pos := "law.go:70", after := #[{ on := 2, ground := Ground.guard }], guard := some (2, false) }) (v := .pointer (some ⟨W.heap.size, 0, none⟩)) rfl (by kernel_rfl) (by kernel_rfl) (by kernel_rfl) (fun _ _ _ h => h) (Or.inl ⟨by rfl, ?_⟩) hHeld ?_
            · (intro w hSw; (try dsimp only at hSw); go_simp)
            try simp only [Act.put, List.setIfInBounds_toArray, List.set_cons_zero, List.set_cons_succ]
            refine wpAnyH_take (i := 5) (oi := { dst := some 103, op := Op.move (Operand.tmp 6), type := 25, pos := "law.go:70", after := #[{ on := 2, ground := Ground.guard }], guard := some (2, false) }) (v := .pointer (some ⟨W.heap.size + 1, 0, none⟩)) rfl (by kernel_rfl) (by kernel_rfl) (by kernel_rfl) (fun _ _ _ h => h) (Or.inl ⟨by rfl, ?_⟩) hHeld ?_
            · (intro w hSw; (try dsimp only at hSw); go_simp)
            try simp only [Act.put, List.setIfInBounds_toArray, List.set_cons_zero, List.set_cons_succ]
            refine wpAnyH_take (i := 6) (oi := { dst := some 104, op := Op.nilCheck (Operand.tmp 103), type := 0, pos := "law.go:70", after := #[{ on := 5, ground := Ground.data }, { on := 2, ground := Ground.guard }], guard := some (2, false) }) (v := .pointer (some ⟨W.heap.size + 1, 0, none⟩)) rfl (by kernel_rfl) (by kernel_rfl) (by kernel_rfl) (fun _ _ _ h => h) (Or.inl ⟨by rfl, ?_⟩) hHeld ?_
            · (intro w hSw; (try dsimp only at hSw); go_simp)
            try simp only [Act.put, List.setIfInBounds_toArray, List.set_cons_zero, List.set_cons_succ]
            refine wpAnyH_take (i := 7) (oi := { dst := some 105, op := Op.fieldAddr 61 (Operand.tmp 104) 1, type := 0, pos := "law.go:70", after := #[{ on := 6, ground := Ground.data }, { on := 2, ground := Ground.guard }], guard := some (2, false) }) (v := .pointer (some ⟨W.heap.size + 1, 1, none⟩)) rfl (by kernel_rfl) (by kernel_rfl) (by kernel_rfl) (fun _ _ _ h => h) (Or.inl ⟨by rfl, ?_⟩) hHeld ?_
            · (intro w hSw; (try dsimp only at hSw); go_simp)
            try simp only [Act.put, List.setIfInBounds_toArray, List.set_cons_zero, List.set_cons_succ]
            refine wpAnyH_take (i := 8) (oi := { dst := some 106, op := Op.load 59 (Operand.tmp 105), type := 59, pos := "law.go:70", after := #[{ on := 7, ground := Ground.data }, { on := 2, ground := Ground.guard }], guard := some (2, false) }) (v := .slice a9 m9 c9) rfl (by kernel_rfl) (by kernel_rfl) (by kernel_rfl) (fun _ _ _ h => h) (Or.inl ⟨by rfl, ?_⟩) hHeld ?_
            · (intro w hSw; (try dsimp only at hSw); go_simp)
            try simp only [Act.put, List.setIfInBounds_toArray, List.set_cons_zero, List.set_cons_succ]
            refine wpAnyH_take (i := 9) (oi := { dst := some 107, op := Op.call { callee := Callee.builtin Builtin.len, args := #[Operand.tmp 106], argTypes := #[59] }, type := 3, pos := "law.go:70", after := #[{ on := 8, ground := Ground.data }, { on := 2, ground := Ground.guard }], guard := some (2, false) }) (v := .int .i64 (m9 : Int)) rfl (by kernel_rfl) (by kernel_rfl) (by kernel_rfl) (fun _ _ _ h => h) (Or.inl ⟨by rfl, ?_⟩) hHeld ?_
            · (intro w hSw; (try dsimp only at hSw); go_simp)
            try simp only [Act.put, List.setIfInBounds_toArray, List.set_cons_zero, List.set_cons_succ]
            refine wpAnyH_ready (rs := [4]) (by kernel_rfl) (by simp) ?_
            refine AllReadyH.cons (o := { dst := some 102, op := Op.call { callee := Callee.value (Operand.func 17), args := #[Operand.tmp 101], argTypes := #[23] }, type := 3, pos := "law.go:70", after := #[{ on := 3, ground := Ground.data }, { on := 2, ground := Ground.chain }, { on := 2, ground := Ground.guard }], guard := some (2, false) }) rfl (fun K hK => ?_) AllReadyH.nil
            go_simp
            have HMd := hidI (HM9.out.1.grow ((Below.refl _ _).drew))
            refine (HMd.out.len).mono ?_
            rintro e w9 ⟨rfl, hw9⟩
            subst hw9
            rw [hm9.out]
            refine hK.out _ _ hHeld (fun hHeld2 => ?_)
            clear hK K
            try simp only [Act.put, List.setIfInBounds_toArray, List.set_cons_zero, List.set_cons_succ]
            refine wpAnyH_take (i := 10) (oi := { dst := some 108, op := Op.binOp BinOp.neq 3 (Operand.tmp 102) (Operand.tmp 107) 3, type := 4, pos := "law.go:70", after := #[{ on := 4, ground := Ground.data }, { on := 9, ground := Ground.data }, { on := 2, ground := Ground.guard }], guard := some (2, false) }) (v := .bool false) rfl (by kernel_rfl) (by kernel_rfl) (by kernel_rfl) (fun _ _ _ h => h) (Or.inl ⟨by rfl, ?_⟩) hHeld2 ?_
            · (intro w hSw; (try dsimp only at hSw); go_simp)
            try simp only [Act.put, List.setIfInBounds_toArray, List.set_cons_zero, List.set_cons_succ]
            refine wpAnyH_take (i := 11) (oi := { dst := some 109, op := Op.pick (Operand.tmp 100) (Operand.const (Value.bool true)) (Operand.tmp 108), type := 4, pos := "law.go:70", after := #[{ on := 2, ground := Ground.data }, { on := 10, ground := Ground.data }], guard := none }) (v := .bool false) rfl (by kernel_rfl) (by kernel_rfl) (by kernel_rfl) (fun _ _ _ h => h) (Or.inl ⟨by rfl, ?_⟩) hHeld2 ?_
            · (intro w hSw; (try dsimp only at hSw); go_simp)
            try simp only [Act.put, List.setIfInBounds_toArray, List.set_cons_zero, List.set_cons_succ]
            refine wpAnyH_done (by kernel_rfl) ?_ _
            go_wp2
            exact ⟨⟨k + 1, L9, by omega, by go_num, HMd.out, HM9.out.2⟩, by simp [intOf]; omega⟩
          | false =>
            have HEN := hidI hen
            clear hen
            go_wp2
            refine wp_region_held_drew (S := fun w' => w'.rangeAt wr.heap.size 1 cm) (by kernel_rfl) BX3.out.msg (fun hHeld => ?_)
            refine wpAnyH_take (i := 0) (oi := { dst := some 43, op := Op.move (Operand.tmp 5), type := 23, pos := "law.go:60", after := #[], guard := none }) (v := .pointer (some ⟨W.heap.size, 0, none⟩)) rfl (by kernel_rfl) (by kernel_rfl) (by kernel_rfl) (fun _ _ _ h => h) (Or.inl ⟨by rfl, ?_⟩) hHeld ?_
            · (intro w hSw; (try dsimp only at hSw); go_simp)
            try simp only [Act.put, List.setIfInBounds_toArray, List.set_cons_zero, List.set_cons_succ]
            refine wpAnyH_take (i := 1) (oi := { dst := some 44, op := Op.fieldAddr 52 (Operand.tmp 8) 1, type := 0, pos := "law.go:60", after := #[], guard := none }) (v := .pointer (some ⟨wr.heap.size, 1, none⟩)) rfl (by kernel_rfl) (by kernel_rfl) (by kernel_rfl) (fun _ _ _ h => h) (Or.inl ⟨by rfl, ?_⟩) hHeld ?_
            · (intro w hSw; (try dsimp only at hSw); go_simp)
            try simp only [Act.put, List.setIfInBounds_toArray, List.set_cons_zero, List.set_cons_succ]
            refine wpAnyH_take (i := 2) (oi := { dst := some 45, op := Op.load 50 (Operand.tmp 44), type := 50, pos := "law.go:60", after := #[{ on := 1, ground := Ground.data }], guard := none }) (v := .agg cm.toArray) rfl (by kernel_rfl) (by kernel_rfl) (by kernel_rfl) (fun _ _ _ h => h) (yieldsIf_load_mid (by rfl) 50 (.tmp 44) rfl wr.heap.size 1 rfl cm _ (fun _ h => h) Tryz.underlying50 rfl HJM.out) hHeld ?_
            try simp only [Act.put, List.setIfInBounds_toArray, List.set_cons_zero, List.set_cons_succ]
            refine wpAnyH_take (i := 4) (oi := { dst := some 47, op := Op.move (Operand.tmp 6), type := 25, pos := "law.go:60", after := #[], guard := none }) (v := .pointer (some ⟨W.heap.size + 1, 0, none⟩)) rfl (by kernel_rfl) (by kernel_rfl) (by kernel_rfl) (fun _ _ _ h => h) (Or.inl ⟨by rfl, ?_⟩) hHeld ?_
            · (intro w hSw; (try dsimp only at hSw); go_simp)
            try simp only [Act.put, List.setIfInBounds_toArray, List.set_cons_zero, List.set_cons_succ]
            refine wpAnyH_take (i := 5) (oi := { dst := some 48, op := Op.fieldAddr 52 (Operand.tmp 8) 1, type := 0, pos := "law.go:60", after := #[], guard := none }) (v := .pointer (some ⟨wr.heap.size, 1, none⟩)) rfl (by kernel_rfl) (by kernel_rfl) (by kernel_rfl) (fun _ _ _ h => h) (Or.inl ⟨by rfl, ?_⟩) hHeld ?_
            · (intro w hSw; (try dsimp only at hSw); go_simp)
            try simp only [Act.put, List.setIfInBounds_toArray, List.set_cons_zero, List.set_cons_succ]
            refine wpAnyH_take (i := 6) (oi := { dst := some 49, op := Op.load 50 (Operand.tmp 48), type := 50, pos := "law.go:60", after := #[{ on := 5, ground := Ground.data }], guard := none }) (v := .agg cm.toArray) rfl (by kernel_rfl) (by kernel_rfl) (by kernel_rfl) (fun _ _ _ h => h) (yieldsIf_load_mid (by rfl) 50 (.tmp 48) rfl wr.heap.size 1 rfl cm _ (fun _ h => h) Tryz.underlying50 rfl HJM.out) hHeld ?_
            try simp only [Act.put, List.setIfInBounds_toArray, List.set_cons_zero, List.set_cons_succ]
            refine wpAnyH_ready (rs := [3]) (by kernel_rfl) (by simp) ?_
            refine AllReadyH.cons (o := { dst := some 46, op := Op.call { callee := Callee.value (Operand.func 8), args := #[Operand.tmp 43, Operand.tmp 45], argTypes := #[23, 50] }, type := 46, pos := "law.go:60", after := #[{ on := 0, ground := Ground.data }, { on := 2, ground := Ground.data }], guard := none }) rfl (fun K hK => ?_) AllReadyH.nil
            go_simp
            have HMd := hidI (HM3.out.1.grow ((Below.refl _ _).drew))
            refine (msend_ok HMd.out HM3.out.2.1 (rep_up HRM.out HMd.out.1) HEN.out).mono ?_
            rintro e w4 ⟨rfl, hm4, t4⟩
            have HM4 := hidI hm4
            have BX4 := hidI (BX3.out.kt ((KT.of_below ((Below.refl _ _).drew)).trans t4))
            clear hm4 t4
            refine hK.out _ _ BX4.out.msg (fun hHeld2 => ?_)
            clear hK K
            try simp only [Act.put, List.setIfInBounds_toArray, List.set_cons_zero, List.set_cons_succ]
            refine wpAnyH_ready (rs := [7]) (by kernel_rfl) (by simp) ?_
            refine AllReadyH.cons (o := { dst := some 50, op := Op.call { callee := Callee.value (Operand.func 9), args := #[Operand.tmp 47, Operand.tmp 49], argTypes := #[25, 50] }, type := 46, pos := "law.go:60", after := #[{ on := 4, ground := Ground.data }, { on := 6, ground := Ground.data }, { on := 3, ground := Ground.chain }], guard := none }) rfl (fun K hK => ?_) AllReadyH.nil
            go_simp
            refine (mdsend_ok HM4.out h1 HM3.out.2.1 (rep_up HRM.out HM4.out.1) HZ.out HEN.out).mono ?_
            rintro e w5 ⟨rfl, hm5, t5⟩
            have HM5 := hidI hm5
            have BX5 := hidI (BX4.out.kt t5)
            clear hm5 t5
            refine hK.out _ _ BX5.out.msg (fun hHeld3 => ?_)
            clear hK K
            try simp only [Act.put, List.setIfInBounds_toArray, List.set_cons_zero, List.set_cons_succ]
            refine wpAnyH_take (i := 8) (oi := { dst := some 51, op := Op.binOp BinOp.eql 46 (Operand.tmp 46) (Operand.tmp 50) 46, type := 4, pos := "law.go:60", after := #[{ on := 3, ground := Ground.data }, { on := 7, ground := Ground.data }], guard := none }) (v := .bool true) rfl (by kernel_rfl) (by kernel_rfl) (by kernel_rfl) (fun _ _ _ h => h) (Or.inl ⟨by rfl, ?_⟩) hHeld3 ?_
            · (intro w hSw; (try dsimp only at hSw); go_simp)
            try simp only [Act.put, List.setIfInBounds_toArray, List.set_cons_zero, List.set_cons_succ]
            refine wpAnyH_take (i := 9) (oi := { dst := some 9, op := Op.assign (Operand.tmp 51), type := 4, pos := "law.go:60", after := #[{ on := 8, ground := Ground.data }, { on := 7, ground := Ground.chain }, { on := 0, ground := Ground.phase }, { on := 1, ground := Ground.phase }, { on := 2, ground := Ground.phase }, { on := 3, ground := Ground.phase }, { on := 4, ground := Ground.phase }, { on := 5, ground := Ground.phase }, { on := 6, ground := Ground.phase }, { on := 7, ground := Ground.phase }, { on := 8, ground := Ground.phase }], guard := none }) (v := .bool true) rfl (by kernel_rfl) (by kernel_rfl) (by kernel_rfl) (fun _ _ _ h => h) (Or.inl ⟨by rfl, ?_⟩) hHeld3 ?_
            · (intro w hSw; (try dsimp only at hSw); go_simp)
            try simp only [Act.put, List.setIfInBounds_toArray, List.set_cons_zero, List.set_cons_succ]
            refine wpAnyH_done (by kernel_rfl) ?_ _
            obtain ⟨L9, HM9⟩ : ∃ L9, Hid (Mid W _ W.heap.size (W.heap.size + 1) R L9 L9 ∧ L9.length ≤ R ∧ PkM L9) := ⟨_, ⟨HM5.out, cutD_le _ _, HM3.out.2.2.cut R ⟨vm, HEN.out, rfl⟩⟩⟩
            obtain ⟨hp9, hl9, a9, c9, hc9⟩ := HM9.out.1.row
            obtain ⟨m9, hm9⟩ : ∃ m9, Hid (L9.length = m9) := ⟨_, hidI rfl⟩
            rw [hm9.out] at hc9 hl9
            go_wp2
            refine wp_region_held_drew (S := fun w' => w'.cell? ⟨W.heap.size + 1, 1, none⟩ = some (.slice a9 m9 c9)) (by kernel_rfl) hc9 (fun hHeld => ?_)
            refine wpAnyH_take (i := 0) (oi := { dst := some 98, op := Op.move (Operand.tmp 9), type := 4, pos := "law.go:70", after := #[], guard := none }) (v := .bool true) rfl (by kernel_rfl) (by kernel_rfl) (by kernel_rfl) (fun _ _ _ h => h) (Or.inl ⟨by rfl, ?_⟩) hHeld ?_
            · (intro w hSw; (try dsimp only at hSw); go_simp)
            try simp only [Act.put, List.setIfInBounds_toArray, List.set_cons_zero, List.set_cons_succ]
            refine wpAnyH_take (i := 1) (oi := { dst := some 99, op := Op.unOp UnOp.not 4 (Operand.tmp 98), type := 4, pos := "law.go:70", after := #[{ on := 0, ground := Ground.data }], guard := none }) (v := .bool false) rfl (by kernel_rfl) (by kernel_rfl) (by kernel_rfl) (fun _ _ _ h => h) (Or.inl ⟨by rfl, ?_⟩) hHeld ?_
            · (intro w hSw; (try dsimp only at hSw); go_simp)
            try simp only [Act.put, List.setIfInBounds_toArray, List.set_cons_zero, List.set_cons_succ]
            refine wpAnyH_take (i := 2) (oi := { dst := some 100, op := Op.move (Operand.tmp 99), type := 4, pos := "law.go:70", after := #[{ on := 1, ground := Ground.data }], guard := none }) (v := .bool false) rfl (by kernel_rfl) (by kernel_rfl) (by kernel_rfl) (fun _ _ _ h => h) (Or.inl ⟨by rfl, ?_⟩) hHeld ?_
            · (intro w hSw; (try dsimp only at hSw); go_simp)
            try simp only [Act.put, List.setIfInBounds_toArray, List.set_cons_zero, List.set_cons_succ]
            refine wpAnyH_take (i := 3) (oi := { dst := some 101, op := Op.move (Operand.tmp 5), type := 23, pos := "law.go:70", after := #[{ on := 2, ground := Ground.guard }], guard := some (2, false) }) (v := .pointer (some ⟨W.heap.size, 0, none⟩)) rfl (by kernel_rfl) (by kernel_rfl) (by kernel_rfl) (fun _ _ _ h => h) (Or.inl ⟨by rfl, ?_⟩) hHeld ?_
            · (intro w hSw; (try dsimp only at hSw); go_simp)
            try simp only [Act.put, List.setIfInBounds_toArray, List.set_cons_zero, List.set_cons_succ]
            refine wpAnyH_take (i := 5) (oi := { dst := some 103, op := Op.move (Operand.tmp 6), type := 25, pos := "law.go:70", after := #[{ on := 2, ground := Ground.guard }], guard := some (2, false) }) (v := .pointer (some ⟨W.heap.size + 1, 0, none⟩)) rfl (by kernel_rfl) (by kernel_rfl) (by kernel_rfl) (fun _ _ _ h => h) (Or.inl ⟨by rfl, ?_⟩) hHeld ?_
            · (intro w hSw; (try dsimp only at hSw); go_simp)
            try simp only [Act.put, List.setIfInBounds_toArray, List.set_cons_zero, List.set_cons_succ]
            refine wpAnyH_take (i := 6) (oi := { dst := some 104, op := Op.nilCheck (Operand.tmp 103), type := 0, pos := "law.go:70", after := #[{ on := 5, ground := Ground.data }, { on := 2, ground := Ground.guard }], guard := some (2, false) }) (v := .pointer (some ⟨W.heap.size + 1, 0, none⟩)) rfl (by kernel_rfl) (by kernel_rfl) (by kernel_rfl) (fun _ _ _ h => h) (Or.inl ⟨by rfl, ?_⟩) hHeld ?_
            · (intro w hSw; (try dsimp only at hSw); go_simp)
            try simp only [Act.put, List.setIfInBounds_toArray, List.set_cons_zero, List.set_cons_succ]
            refine wpAnyH_take (i := 7) (oi := { dst := some 105, op := Op.fieldAddr 61 (Operand.tmp 104) 1, type := 0, pos := "law.go:70", after := #[{ on := 6, ground := Ground.data }, { on := 2, ground := Ground.guard }], guard := some (2, false) }) (v := .pointer (some ⟨W.heap.size + 1, 1, none⟩)) rfl (by kernel_rfl) (by kernel_rfl) (by kernel_rfl) (fun _ _ _ h => h) (Or.inl ⟨by rfl, ?_⟩) hHeld ?_
            · (intro w hSw; (try dsimp only at hSw); go_simp)
            try simp only [Act.put, List.setIfInBounds_toArray, List.set_cons_zero, List.set_cons_succ]
            refine wpAnyH_take (i := 8) (oi := { dst := some 106, op := Op.load 59 (Operand.tmp 105), type := 59, pos := "law.go:70", after := #[{ on := 7, ground := Ground.data }, { on := 2, ground := Ground.guard }], guard := some (2, false) }) (v := .slice a9 m9 c9) rfl (by kernel_rfl) (by kernel_rfl) (by kernel_rfl) (fun _ _ _ h => h) (Or.inl ⟨by rfl, ?_⟩) hHeld ?_
            · (intro w hSw; (try dsimp only at hSw); go_simp)
            try simp only [Act.put, List.setIfInBounds_toArray, List.set_cons_zero, List.set_cons_succ]
            refine wpAnyH_take (i := 9) (oi := { dst := some 107, op := Op.call { callee := Callee.builtin Builtin.len, args := #[Operand.tmp 106], argTypes := #[59] }, type := 3, pos := "law.go:70", after := #[{ on := 8, ground := Ground.data }, { on := 2, ground := Ground.guard }], guard := some (2, false) }) (v := .int .i64 (m9 : Int)) rfl (by kernel_rfl) (by kernel_rfl) (by kernel_rfl) (fun _ _ _ h => h) (Or.inl ⟨by rfl, ?_⟩) hHeld ?_
            · (intro w hSw; (try dsimp only at hSw); go_simp)
            try simp only [Act.put, List.setIfInBounds_toArray, List.set_cons_zero, List.set_cons_succ]
            refine wpAnyH_ready (rs := [4]) (by kernel_rfl) (by simp) ?_
            refine AllReadyH.cons (o := { dst := some 102, op := Op.call { callee := Callee.value (Operand.func 17), args := #[Operand.tmp 101], argTypes := #[23] }, type := 3, pos := "law.go:70", after := #[{ on := 3, ground := Ground.data }, { on := 2, ground := Ground.chain }, { on := 2, ground := Ground.guard }], guard := some (2, false) }) rfl (fun K hK => ?_) AllReadyH.nil
            go_simp
            have HMd := hidI (HM9.out.1.grow ((Below.refl _ _).drew))
            refine (HMd.out.len).mono ?_
            rintro e w9 ⟨rfl, hw9⟩
            subst hw9
            rw [hm9.out]
            refine hK.out _ _ hHeld (fun hHeld2 => ?_)
            clear hK K
            try simp only [Act.put, List.setIfInBounds_toArray, List.set_cons_zero, List.set_cons_succ]
            refine wpAnyH_take (i := 10) (oi := { dst := some 108, op := Op.binOp BinOp.neq 3 (Operand.tmp 102) (Operand.tmp 107) 3, type := 4, pos := "law.go:70", after := #[{ on := 4, ground := Ground.data }, { on := 9, ground := Ground.data }, { on := 2, ground := Ground.guard }], guard := some (2, false) }) (v := .bool false) rfl (by kernel_rfl) (by kernel_rfl) (by kernel_rfl) (fun _ _ _ h => h) (Or.inl ⟨by rfl, ?_⟩) hHeld2 ?_
            · (intro w hSw; (try dsimp only at hSw); go_simp)
            try simp only [Act.put, List.setIfInBounds_toArray, List.set_cons_zero, List.set_cons_succ]
            refine wpAnyH_take (i := 11) (oi := { dst := some 109, op := Op.pick (Operand.tmp 100) (Operand.const (Value.bool true)) (Operand.tmp 108), type := 4, pos := "law.go:70", after := #[{ on := 2, ground := Ground.data }, { on := 10, ground := Ground.data }], guard := none }) (v := .bool false) rfl (by kernel_rfl) (by kernel_rfl) (by kernel_rfl) (fun _ _ _ h => h) (Or.inl ⟨by rfl, ?_⟩) hHeld2 ?_
            · (intro w hSw; (try dsimp only at hSw); go_simp)
            try simp only [Act.put, List.setIfInBounds_toArray, List.set_cons_zero, List.set_cons_succ]
            refine wpAnyH_done (by kernel_rfl) ?_ _
            go_wp2
            exact ⟨⟨k + 1, L9, by omega, by go_num, HMd.out, HM9.out.2⟩, by simp [intOf]; omega⟩
        · by_cases hk1 : kd = 1
          · subst hk1
            have hn3 := BX3.out.n
            cases hhb : hasB L n with
            | false =>
              have HHB := hidI hhb
              clear hhb
              go_wp2_with fail
              refine (mdel_no HM3.out.1 HHB.out).mono ?_
              rintro e w4 ⟨rfl, hm4, b4⟩
              have HM4 := hidI hm4
              have BX4 := hidI (BX3.out.kt (KT.of_below b4))
              clear hm4 b4 hn3 hkd hbl BX3
              go_wp2_with (refine wpList_store_rowF rfl 50 (.tmp 10) (.tmp 59) rfl w4.heap.size Zr_msg rfl rfl 50 Zr_msg (heap_alloc_new w4 (.cells Zr_msg 50)) Zr_msg_i rfl Zr_msg_o ?nx)
              case nx =>
              intro w5 hw5h
              have hw5 := hw5h.out
              have hB5 : Below w4.heap.size w4 w5 := by rw [hw5]; exact ((Below.refl _ _).alloc (Nat.le_refl _) _).trans ⟨rfl, rfl, rfl, by simp [World.setRow], fun k hk => setRow_other _ _ _ _ (by omega)⟩
              have GA5 := hidI (show w5.heap[w4.heap.size]? = some (.cells Zr_msg.toList.toArray 50 (0, 0)) by rw [hw5]; exact setRow_heap _ _ _ _ 50 _ (heap_alloc_new w4 _))
              have HM5 := hidI (HM4.out.grow hB5)
              have BX5 := hidI (BX4.out.kt (KT.of_below hB5))
              have hn5 := BX5.out.n
              have hbl5 := BX5.out.lt
              clear hw5 hw5h hB5 HM4 BX4
              go_wp2_with fail
              refine (mddel_no HM5.out HHB.out).mono ?_
              rintro e w6 ⟨rfl, hm6, b6⟩
              have HM6 := hidI hm6
              have GA6 := hidI ((b6.block _ (Array.getElem?_eq_some_iff.1 GA5.out).1).trans GA5.out)
              clear hm6 b6 hn5 hbl5 BX5 HM5 GA5
              go_wp2_with (refine wpList_store_rowF rfl 50 (.tmp 12) (.tmp 66) rfl w6.heap.size Zr_msg rfl rfl 50 Zr_msg (heap_alloc_new w6 (.cells Zr_msg 50)) Zr_msg_i rfl Zr_msg_o ?ny)
              case ny =>
              intro w7 hw7h
              have hw7 := hw7h.out
              have hB7 : Below w6.heap.size w6 w7 := by rw [hw7]; exact ((Below.refl _ _).alloc (Nat.le_refl _) _).trans ⟨rfl, rfl, rfl, by simp [World.setRow], fun k hk => setRow_other _ _ _ _ (by omega)⟩
              have GB7 := hidI (show w7.heap[w6.heap.size]? = some (.cells Zr_msg.toList.toArray 50 (0, 0)) by rw [hw7]; exact setRow_heap _ _ _ _ 50 _ (heap_alloc_new w6 _))
              have GA7 := hidI ((hB7.block _ (Array.getElem?_eq_some_iff.1 GA6.out).1).trans GA6.out)
              have HM7 := hidI (HM6.out.grow hB7)
              clear hw7 hw7h hB7 HM6 GA6
              have RA7 := hidI (range_all GA7.out)
              have RB7 := hidI (range_all GB7.out)
              have HJZ : Hid ((Tryz.prog.info? 50).map (·.size) = some Zr_msg.toList.length) := Zr_msg_i
              go_wp2_with (first
                | (refine wpList_load_midG (by rfl) 50 (.tmp 10) rfl w4.heap.size 0 rfl Zr_msg.toList _ RA7.out Tryz.underlying50 rfl HJZ.out ?_)
                | (refine wpList_load_midG (by rfl) 50 (.tmp 12) rfl w6.heap.size 0 rfl Zr_msg.toList _ RB7.out Tryz.underlying50 rfl HJZ.out ?_))
              refine (same_ok Zr_msg.toList Zr_msg.toList Zv_msg _ (rz_msg' _ _) (rz_msg' _ _) zv_ok).mono ?_
              rintro e w8 ⟨rfl, b8⟩
              have HM8 := hidI (HM7.out.grow b8)
              clear b8
              obtain ⟨L9, HM9⟩ : ∃ L9, Hid (Mid W _ W.heap.size (W.heap.size + 1) R L9 L9 ∧ L9.length ≤ R ∧ PkM L9) := ⟨L, ⟨HM8.out, HM3.out.2⟩⟩
              obtain ⟨hp9, hl9, a9, c9, hc9⟩ := HM9.out.1.row
              obtain ⟨m9, hm9⟩ : ∃ m9, Hid (L9.length = m9) := ⟨_, hidI rfl⟩
              rw [hm9.out] at hc9 hl9
              go_wp2
              refine wp_region_held_drew (S := fun w' => w'.cell? ⟨W.heap.size + 1, 1, none⟩ = some (.slice a9 m9 c9)) (by kernel_rfl) hc9 (fun hHeld => ?_)
              refine wpAnyH_take (i := 0) (oi := { dst := some 98, op := Op.move (Operand.tmp 9), type := 4, pos := "law.go:70", after := #[], guard := none }) (v := .bool true) rfl (by kernel_rfl) (by kernel_rfl) (by kernel_rfl) (fun _ _ _ h => h) (Or.inl ⟨by rfl, ?_⟩) hHeld ?_
              · (intro w hSw; (try dsimp only at hSw); go_simp)
              try simp only [Act.put, List.setIfInBounds_toArray, List.set_cons_zero, List.set_cons_succ]
              refine wpAnyH_take (i := 1) (oi := { dst := some 99, op := Op.unOp UnOp.not 4 (Operand.tmp 98), type := 4, pos := "law.go:70", after := #[{ on := 0, ground := Ground.data }], guard := none }) (v := .bool false) rfl (by kernel_rfl) (by kernel_rfl) (by kernel_rfl) (fun _ _ _ h => h) (Or.inl ⟨by rfl, ?_⟩) hHeld ?_
              · (intro w hSw; (try dsimp only at hSw); go_simp)
              try simp only [Act.put, List.setIfInBounds_toArray, List.set_cons_zero, List.set_cons_succ]
              refine wpAnyH_take (i := 2) (oi := { dst := some 100, op := Op.move (Operand.tmp 99), type := 4, pos := "law.go:70", after := #[{ on := 1, ground := Ground.data }], guard := none }) (v := .bool false) rfl (by kernel_rfl) (by kernel_rfl) (by kernel_rfl) (fun _ _ _ h => h) (Or.inl ⟨by rfl, ?_⟩) hHeld ?_
              · (intro w hSw; (try dsimp only at hSw); go_simp)
              try simp only [Act.put, List.setIfInBounds_toArray, List.set_cons_zero, List.set_cons_succ]
              refine wpAnyH_take (i := 3) (oi := { dst := some 101, op := Op.move (Operand.tmp 5), type := 23, pos := "law.go:70", after := #[{ on := 2, ground := Ground.guard }], guard := some (2, false) }) (v := .pointer (some ⟨W.heap.size, 0, none⟩)) rfl (by kernel_rfl) (by kernel_rfl) (by kernel_rfl) (fun _ _ _ h => h) (Or.inl ⟨by rfl, ?_⟩) hHeld ?_
              · (intro w hSw; (try dsimp only at hSw); go_simp)
              try simp only [Act.put, List.setIfInBounds_toArray, List.set_cons_zero, List.set_cons_succ]
              refine wpAnyH_take (i := 5) (oi := { dst := some 103, op := Op.move (Operand.tmp 6), type := 25, pos := "law.go:70", after := #[{ on := 2, ground := Ground.guard }], guard := some (2, false) }) (v := .pointer (some ⟨W.heap.size + 1, 0, none⟩)) rfl (by kernel_rfl) (by kernel_rfl) (by kernel_rfl) (fun _ _ _ h => h) (Or.inl ⟨by rfl, ?_⟩) hHeld ?_
              · (intro w hSw; (try dsimp only at hSw); go_simp)
              try simp only [Act.put, List.setIfInBounds_toArray, List.set_cons_zero, List.set_cons_succ]
              refine wpAnyH_take (i := 6) (oi := { dst := some 104, op := Op.nilCheck (Operand.tmp 103), type := 0, pos := "law.go:70", after := #[{ on := 5, ground := Ground.data }, { on := 2, ground := Ground.guard }], guard := some (2, false) }) (v := .pointer (some ⟨W.heap.size + 1, 0, none⟩)) rfl (by kernel_rfl) (by kernel_rfl) (by kernel_rfl) (fun _ _ _ h => h) (Or.inl ⟨by rfl, ?_⟩) hHeld ?_
              · (intro w hSw; (try dsimp only at hSw); go_simp)
              try simp only [Act.put, List.setIfInBounds_toArray, List.set_cons_zero, List.set_cons_succ]
              refine wpAnyH_take (i := 7) (oi := { dst := some 105, op := Op.fieldAddr 61 (Operand.tmp 104) 1, type := 0, pos := "law.go:70", after := #[{ on := 6, ground := Ground.data }, { on := 2, ground := Ground.guard }], guard := some (2, false) }) (v := .pointer (some ⟨W.heap.size + 1, 1, none⟩)) rfl (by kernel_rfl) (by kernel_rfl) (by kernel_rfl) (fun _ _ _ h => h) (Or.inl ⟨by rfl, ?_⟩) hHeld ?_
              · (intro w hSw; (try dsimp only at hSw); go_simp)
              try simp only [Act.put, List.setIfInBounds_toArray, List.set_cons_zero, List.set_cons_succ]
              refine wpAnyH_take (i := 8) (oi := { dst := some 106, op := Op.load 59 (Operand.tmp 105), type := 59, pos := "law.go:70", after := #[{ on := 7, ground := Ground.data }, { on := 2, ground := Ground.guard }], guard := some (2, false) }) (v := .slice a9 m9 c9) rfl (by kernel_rfl) (by kernel_rfl) (by kernel_rfl) (fun _ _ _ h => h) (Or.inl ⟨by rfl, ?_⟩) hHeld ?_
              · (intro w hSw; (try dsimp only at hSw); go_simp)
              try simp only [Act.put, List.setIfInBounds_toArray, List.set_cons_zero, List.set_cons_succ]
              refine wpAnyH_take (i := 9) (oi := { dst := some 107, op := Op.call { callee := Callee.builtin Builtin.len, args := #[Operand.tmp 106], argTypes := #[59] }, type := 3, pos := "law.go:70", after := #[{ on := 8, ground := Ground.data }, { on := 2, ground := Ground.guard }], guard := some (2, false) }) (v := .int .i64 (m9 : Int)) rfl (by kernel_rfl) (by kernel_rfl) (by kernel_rfl) (fun _ _ _ h => h) (Or.inl ⟨by rfl, ?_⟩) hHeld ?_
              · (intro w hSw; (try dsimp only at hSw); go_simp)
              try simp only [Act.put, List.setIfInBounds_toArray, List.set_cons_zero, List.set_cons_succ]
              refine wpAnyH_ready (rs := [4]) (by kernel_rfl) (by simp) ?_
              refine AllReadyH.cons (o := { dst := some 102, op := Op.call { callee := Callee.value (Operand.func 17), args := #[Operand.tmp 101], argTypes := #[23] }, type := 3, pos := "law.go:70", after := #[{ on := 3, ground := Ground.data }, { on := 2, ground := Ground.chain }, { on := 2, ground := Ground.guard }], guard := some (2, false) }) rfl (fun K hK => ?_) AllReadyH.nil
              go_simp
              have HMd := hidI (HM9.out.1.grow ((Below.refl _ _).drew))
              refine (HMd.out.len).mono ?_
              rintro e w9 ⟨rfl, hw9⟩
              subst hw9
              rw [hm9.out]
              refine hK.out _ _ hHeld (fun hHeld2 => ?_)
              clear hK K
              try simp only [Act.put, List.setIfInBounds_toArray, List.set_cons_zero, List.set_cons_succ]
              refine wpAnyH_take (i := 10) (oi := { dst := some 108, op := Op.binOp BinOp.neq 3 (Operand.tmp 102) (Operand.tmp 107) 3, type := 4, pos := "law.go:70", after := #[{ on := 4, ground := Ground.data }, { on := 9, ground := Ground.data }, { on := 2, ground := Ground.guard }], guard := some (2, false) }) (v := .bool false) rfl (by kernel_rfl) (by kernel_rfl) (by kernel_rfl) (fun _ _ _ h => h) (Or.inl ⟨by rfl, ?_⟩) hHeld2 ?_
              · (intro w hSw; (try dsimp only at hSw); go_simp)
              try simp only [Act.put, List.setIfInBounds_toArray, List.set_cons_zero, List.set_cons_succ]
              refine wpAnyH_take (i := 11) (oi := { dst := some 109, op := Op.pick (Operand.tmp 100) (Operand.const (Value.bool true)) (Operand.tmp 108), type := 4, pos := "law.go:70", after := #[{ on := 2, ground := Ground.data }, { on := 10, ground := Ground.data }], guard := none }) (v := .bool false) rfl (by kernel_rfl) (by kernel_rfl) (by kernel_rfl) (fun _ _ _ h => h) (Or.inl ⟨by rfl, ?_⟩) hHeld2 ?_
              · (intro w hSw; (try dsimp only at hSw); go_simp)
              try simp only [Act.put, List.setIfInBounds_toArray, List.set_cons_zero, List.set_cons_succ]
              refine wpAnyH_done (by kernel_rfl) ?_ _
              go_wp2
              exact ⟨⟨k + 1, L9, by omega, by go_num, HMd.out, HM9.out.2⟩, by simp [intOf]; omega⟩
            | true =>
              obtain ⟨m, rfl, hmL⟩ := has_some hhb
              obtain ⟨v, hv, hve⟩ := HM3.out.2.2 _ (List.getElem_mem hmL)
              have HV := hidI hv
              have HGT : Hid (L[m]? = some (en F_msg v).1) := by show _ = _; rw [hve]; exact List.getElem?_eq_getElem hmL
              clear hhb hv hve hmL
              go_wp2_with fail
              refine (mdel_ok HM3.out.1 HGT.out HV.out).mono ?_
              rintro e w4 ⟨ca, rfl, hr4, ⟨hm4, t4⟩, hp4, hl4⟩
              have HM4 := hidI hm4
              have BX4 := hidI (BX3.out.kt t4)
              have HR4 := hidI hr4
              have HL4 := hidI hl4
              have HP4 := hidI hp4
              have HS4 := hidI t4.size
              have hcs : ca.toArray.size = Zr_msg.size := by rw [List.size_toArray, hr4.len]; kernel_rfl
              have HCS := hidI hcs
              have HCO : Hid (ca.toArray.all (·.oneCell') = true) := hr4.all
              have HCI : Hid ((Tryz.prog.info? 50).map (·.size) = some ca.toArray.size) := by show _ = _; rw [hcs]; exact Zr_msg_i
              clear hm4 t4 hr4 hl4 hp4 hn3 hkd hbl BX3 hcs
              go_wp2_with (refine wpList_store_rowF rfl 50 (.tmp 10) (.tmp 59) rfl w4.heap.size ca.toArray rfl rfl 50 Zr_msg (heap_alloc_new w4 (.cells Zr_msg 50)) HCI.out HCS.out.symm HCO.out ?nx)
              case nx =>
              intro w5 hw5h
              have hw5 := hw5h.out
              have hB5 : Below w4.heap.size w4 w5 := by rw [hw5]; exact ((Below.refl _ _).alloc (Nat.le_refl _) _).trans ⟨rfl, rfl, rfl, by simp [World.setRow], fun k hk => setRow_other _ _ _ _ (by omega)⟩
              have GA5 := hidI (show w5.heap[w4.heap.size]? = some (.cells ca.toArray 50 (0, 0)) by rw [hw5]; exact setRow_heap _ _ _ _ 50 _ (heap_alloc_new w4 _))
              have HM5 := hidI (HM4.out.grow hB5)
              have BX5 := hidI (BX4.out.kt (KT.of_below hB5))
              have HL5 := hidI (HL4.out.kept (hB5.block _ (Nat.lt_of_lt_of_le HP4.out HS4.out)))
              have HR5 : Hid (Rep w5 (Fr w3.heap.size w5) F_msg ca v) := HR4.out.kept hB5.size (fun b x => hB5.block b x.2) (fun b x => ⟨x.1, Nat.lt_of_lt_of_le x.2 hB5.size⟩)
              have hn5 := BX5.out.n
              have hbl5 := BX5.out.lt
              clear hw5 hw5h hB5 HM4 BX4 HL4 HR4
              go_wp2_with fail
              refine (mddel_ok HM5.out HGT.out HV.out HP4.out HL5.out HR5.out).mono ?_
              rintro e w6 ⟨cb, rfl, hrb, hra, hm6, t6⟩
              have HM6 := hidI hm6
              have HRA6 := hidI hra
              have HRB6 := hidI hrb
              have GA6 := hidI (t6.block _ _ 50 (by decide) (by decide) (by decide) GA5.out)
              have hcs : cb.toArray.size = Zr_msg.size := by rw [List.size_toArray, hrb.len]; kernel_rfl
              have HCSb := hidI hcs
              have HCOb : Hid (cb.toArray.all (·.oneCell') = true) := hrb.all
              have HCIb : Hid ((Tryz.prog.info? 50).map (·.size) = some cb.toArray.size) := by show _ = _; rw [hcs]; exact Zr_msg_i
              clear hm6 t6 hrb hra hn5 hbl5 BX5 HM5 GA5 hcs HL5 HR5
              go_wp2_with (refine wpList_store_rowF rfl 50 (.tmp 12) (.tmp 66) rfl w6.heap.size cb.toArray rfl rfl 50 Zr_msg (heap_alloc_new w6 (.cells Zr_msg 50)) HCIb.out HCSb.out.symm HCOb.out ?ny)
              case ny =>
              intro w7 hw7h
              have hw7 := hw7h.out
              have hB7 : Below w6.heap.size w6 w7 := by rw [hw7]; exact ((Below.refl _ _).alloc (Nat.le_refl _) _).trans ⟨rfl, rfl, rfl, by simp [World.setRow], fun k hk => setRow_other _ _ _ _ (by omega)⟩
              have GB7 := hidI (show w7.heap[w6.heap.size]? = some (.cells cb.toArray 50 (0, 0)) by rw [hw7]; exact setRow_heap _ _ _ _ 50 _ (heap_alloc_new w6 _))
              have GA7 := hidI ((hB7.block _ (Array.getElem?_eq_some_iff.1 GA6.out).1).trans GA6.out)
              have HM7 := hidI (HM6.out.grow hB7)
              have HRA7 := hidI (HRA6.out.kept hB7.size (fun b x => hB7.block b x) (fun b x => Nat.lt_of_lt_of_le x hB7.size) : Rep w7 (fun b => b < w7.heap.size) F_msg ca v)
              have HRB7 := hidI (HRB6.out.kept hB7.size (fun b x => hB7.block b x) (fun b x => Nat.lt_of_lt_of_le x hB7.size) : Rep w7 (fun b => b < w7.heap.size) F_msg cb v)
              clear hw7 hw7h hB7 HM6 GA6 HRA6 HRB6
              have RA7 := hidI (range_all GA7.out)
              have RB7 := hidI (range_all GB7.out)
              have HJA : Hid ((Tryz.prog.info? 50).map (·.size) = some ca.length) := HCI.out
              have HJB : Hid ((Tryz.prog.info? 50).map (·.size) = some cb.length) := HCIb.out
              go_wp2_with (first
                | (refine wpList_load_midG (by rfl) 50 (.tmp 10) rfl w4.heap.size 0 rfl ca _ RA7.out Tryz.underlying50 rfl HJA.out ?_)
                | (refine wpList_load_midG (by rfl) 50 (.tmp 12) rfl w6.heap.size 0 rfl cb _ RB7.out Tryz.underlying50 rfl HJB.out ?_))
              refine (same_ok ca cb v _ HRA7.out HRB7.out HV.out).mono ?_
              rintro e w8 ⟨rfl, b8⟩
              have HM8 := hidI (HM7.out.grow b8)
              clear b8
              obtain ⟨L9, HM9⟩ : ∃ L9, Hid (Mid W _ W.heap.size (W.heap.size + 1) R L9 L9 ∧ L9.length ≤ R ∧ PkM L9) := ⟨_, ⟨HM8.out, out_le HM3.out.2.1 _, HM3.out.2.2.out _⟩⟩
              obtain ⟨hp9, hl9, a9, c9, hc9⟩ := HM9.out.1.row
              obtain ⟨m9, hm9⟩ : ∃ m9, Hid (L9.length = m9) := ⟨_, hidI rfl⟩
              rw [hm9.out] at hc9 hl9
              go_wp2
              refine wp_region_held_drew (S := fun w' => w'.cell? ⟨W.heap.size + 1, 1, none⟩ = some (.slice a9 m9 c9)) (by kernel_rfl) hc9 (fun hHeld => ?_)
              refine wpAnyH_take (i := 0) (oi := { dst := some 98, op := Op.move (Operand.tmp 9), type := 4, pos := "law.go:70", after := #[], guard := none }) (v := .bool true) rfl (by kernel_rfl) (by kernel_rfl) (by kernel_rfl) (fun _ _ _ h => h) (Or.inl ⟨by rfl, ?_⟩) hHeld ?_
              · (intro w hSw; (try dsimp only at hSw); go_simp)
              try simp only [Act.put, List.setIfInBounds_toArray, List.set_cons_zero, List.set_cons_succ]
              refine wpAnyH_take (i := 1) (oi := { dst := some 99, op := Op.unOp UnOp.not 4 (Operand.tmp 98), type := 4, pos := "law.go:70", after := #[{ on := 0, ground := Ground.data }], guard := none }) (v := .bool false) rfl (by kernel_rfl) (by kernel_rfl) (by kernel_rfl) (fun _ _ _ h => h) (Or.inl ⟨by rfl, ?_⟩) hHeld ?_
              · (intro w hSw; (try dsimp only at hSw); go_simp)
              try simp only [Act.put, List.setIfInBounds_toArray, List.set_cons_zero, List.set_cons_succ]
              refine wpAnyH_take (i := 2) (oi := { dst := some 100, op := Op.move (Operand.tmp 99), type := 4, pos := "law.go:70", after := #[{ on := 1, ground := Ground.data }], guard := none }) (v := .bool false) rfl (by kernel_rfl) (by kernel_rfl) (by kernel_rfl) (fun _ _ _ h => h) (Or.inl ⟨by rfl, ?_⟩) hHeld ?_
              · (intro w hSw; (try dsimp only at hSw); go_simp)
              try simp only [Act.put, List.setIfInBounds_toArray, List.set_cons_zero, List.set_cons_succ]
              refine wpAnyH_take (i := 3) (oi := { dst := some 101, op := Op.move (Operand.tmp 5), type := 23, pos := "law.go:70", after := #[{ on := 2, ground := Ground.guard }], guard := some (2, false) }) (v := .pointer (some ⟨W.heap.size, 0, none⟩)) rfl (by kernel_rfl) (by kernel_rfl) (by kernel_rfl) (fun _ _ _ h => h) (Or.inl ⟨by rfl, ?_⟩) hHeld ?_
              · (intro w hSw; (try dsimp only at hSw); go_simp)
              try simp only [Act.put, List.setIfInBounds_toArray, List.set_cons_zero, List.set_cons_succ]
              refine wpAnyH_take (i := 5) (oi := { dst := some 103, op := Op.move (Operand.tmp 6), type := 25, pos := "law.go:70", after := #[{ on := 2, ground := Ground.guard }], guard := some (2, false) }) (v := .pointer (some ⟨W.heap.size + 1, 0, none⟩)) rfl (by kernel_rfl) (by kernel_rfl) (by kernel_rfl) (fun _ _ _ h => h) (Or.inl ⟨by rfl, ?_⟩) hHeld ?_
              · (intro w hSw; (try dsimp only at hSw); go_simp)
              try simp only [Act.put, List.setIfInBounds_toArray, List.set_cons_zero, List.set_cons_succ]
              refine wpAnyH_take (i := 6) (oi := { dst := some 104, op := Op.nilCheck (Operand.tmp 103), type := 0, pos := "law.go:70", after := #[{ on := 5, ground := Ground.data }, { on := 2, ground := Ground.guard }], guard := some (2, false) }) (v := .pointer (some ⟨W.heap.size + 1, 0, none⟩)) rfl (by kernel_rfl) (by kernel_rfl) (by kernel_rfl) (fun _ _ _ h => h) (Or.inl ⟨by rfl, ?_⟩) hHeld ?_
              · (intro w hSw; (try dsimp only at hSw); go_simp)
              try simp only [Act.put, List.setIfInBounds_toArray, List.set_cons_zero, List.set_cons_succ]
              refine wpAnyH_take (i := 7) (oi := { dst := some 105, op := Op.fieldAddr 61 (Operand.tmp 104) 1, type := 0, pos := "law.go:70", after := #[{ on := 6, ground := Ground.data }, { on := 2, ground := Ground.guard }], guard := some (2, false) }) (v := .pointer (some ⟨W.heap.size + 1, 1, none⟩)) rfl (by kernel_rfl) (by kernel_rfl) (by kernel_rfl) (fun _ _ _ h => h) (Or.inl ⟨by rfl, ?_⟩) hHeld ?_
              · (intro w hSw; (try dsimp only at hSw); go_simp)
              try simp only [Act.put, List.setIfInBounds_toArray, List.set_cons_zero, List.set_cons_succ]
              refine wpAnyH_take (i := 8) (oi := { dst := some 106, op := Op.load 59 (Operand.tmp 105), type := 59, pos := "law.go:70", after := #[{ on := 7, ground := Ground.data }, { on := 2, ground := Ground.guard }], guard := some (2, false) }) (v := .slice a9 m9 c9) rfl (by kernel_rfl) (by kernel_rfl) (by kernel_rfl) (fun _ _ _ h => h) (Or.inl ⟨by rfl, ?_⟩) hHeld ?_
              · (intro w hSw; (try dsimp only at hSw); go_simp)
              try simp only [Act.put, List.setIfInBounds_toArray, List.set_cons_zero, List.set_cons_succ]
              refine wpAnyH_take (i := 9) (oi := { dst := some 107, op := Op.call { callee := Callee.builtin Builtin.len, args := #[Operand.tmp 106], argTypes := #[59] }, type := 3, pos := "law.go:70", after := #[{ on := 8, ground := Ground.data }, { on := 2, ground := Ground.guard }], guard := some (2, false) }) (v := .int .i64 (m9 : Int)) rfl (by kernel_rfl) (by kernel_rfl) (by kernel_rfl) (fun _ _ _ h => h) (Or.inl ⟨by rfl, ?_⟩) hHeld ?_
              · (intro w hSw; (try dsimp only at hSw); go_simp)
              try simp only [Act.put, List.setIfInBounds_toArray, List.set_cons_zero, List.set_cons_succ]
              refine wpAnyH_ready (rs := [4]) (by kernel_rfl) (by simp) ?_
              refine AllReadyH.cons (o := { dst := some 102, op := Op.call { callee := Callee.value (Operand.func 17), args := #[Operand.tmp 101], argTypes := #[23] }, type := 3, pos := "law.go:70", after := #[{ on := 3, ground := Ground.data }, { on := 2, ground := Ground.chain }, { on := 2, ground := Ground.guard }], guard := some (2, false) }) rfl (fun K hK => ?_) AllReadyH.nil
              go_simp
              have HMd := hidI (HM9.out.1.grow ((Below.refl _ _).drew))
              refine (HMd.out.len).mono ?_
              rintro e w9 ⟨rfl, hw9⟩
              subst hw9
              rw [hm9.out]
              refine hK.out _ _ hHeld (fun hHeld2 => ?_)
              clear hK K
              try simp only [Act.put, List.setIfInBounds_toArray, List.set_cons_zero, List.set_cons_succ]
              refine wpAnyH_take (i := 10) (oi := { dst := some 108, op := Op.binOp BinOp.neq 3 (Operand.tmp 102) (Operand.tmp 107) 3, type := 4, pos := "law.go:70", after := #[{ on := 4, ground := Ground.data }, { on := 9, ground := Ground.data }, { on := 2, ground := Ground.guard }], guard := some (2, false) }) (v := .bool false) rfl (by kernel_rfl) (by kernel_rfl) (by kernel_rfl) (fun _ _ _ h => h) (Or.inl ⟨by rfl, ?_⟩) hHeld2 ?_
              · (intro w hSw; (try dsimp only at hSw); go_simp)
              try simp only [Act.put, List.setIfInBounds_toArray, List.set_cons_zero, List.set_cons_succ]
              refine wpAnyH_take (i := 11) (oi := { dst := some 109, op := Op.pick (Operand.tmp 100) (Operand.const (Value.bool true)) (Operand.tmp 108), type := 4, pos := "law.go:70", after := #[{ on := 2, ground := Ground.data }, { on := 10, ground := Ground.data }], guard := none }) (v := .bool false) rfl (by kernel_rfl) (by kernel_rfl) (by kernel_rfl) (fun _ _ _ h => h) (Or.inl ⟨by rfl, ?_⟩) hHeld2 ?_
              · (intro w hSw; (try dsimp only at hSw); go_simp)
              try simp only [Act.put, List.setIfInBounds_toArray, List.set_cons_zero, List.set_cons_succ]
              refine wpAnyH_done (by kernel_rfl) ?_ _
              go_wp2
              exact ⟨⟨k + 1, L9, by omega, by go_num, HMd.out, HM9.out.2⟩, by simp [intOf]; omega⟩
          · by_cases hk2 : kd = 2
            · subst hk2
              obtain ⟨bb, hbb⟩ : ∃ bb, Hid (hasB L n = bb) := ⟨_, hidI rfl⟩
              go_wp2
              refine wp_region_held_drew (S := fun w' => w'.cell? ⟨wr.heap.size, 47, none⟩ = some (.int .i64 n)) (by kernel_rfl) BX3.out.n (fun hHeld => ?_)
              refine wpAnyH_take (i := 0) (oi := { dst := some 78, op := Op.move (Operand.tmp 5), type := 23, pos := "law.go:66", after := #[], guard := none }) (v := .pointer (some ⟨W.heap.size, 0, none⟩)) rfl (by kernel_rfl) (by kernel_rfl) (by kernel_rfl) (fun _ _ _ h => h) (Or.inl ⟨by rfl, ?_⟩) hHeld ?_
              · (intro w hSw; (try dsimp only at hSw); go_simp)
              try simp only [Act.put, List.setIfInBounds_toArray, List.set_cons_zero, List.set_cons_succ]
              refine wpAnyH_take (i := 1) (oi := { dst := some 79, op := Op.fieldAddr 52 (Operand.tmp 8) 2, type := 0, pos := "law.go:66", after := #[], guard := none }) (v := .pointer (some ⟨wr.heap.size, 47, none⟩)) rfl (by kernel_rfl) (by kernel_rfl) (by kernel_rfl) (fun _ _ _ h => h) (Or.inl ⟨by rfl, ?_⟩) hHeld ?_
              · (intro w hSw; (try dsimp only at hSw); go_simp)
              try simp only [Act.put, List.setIfInBounds_toArray, List.set_cons_zero, List.set_cons_succ]
              refine wpAnyH_take (i := 2) (oi := { dst := some 80, op := Op.load 3 (Operand.tmp 79), type := 3, pos := "law.go:66", after := #[{ on := 1, ground := Ground.data }], guard := none }) (v := .int .i64 n) rfl (by kernel_rfl) (by kernel_rfl) (by kernel_rfl) (fun _ _ _ h => h) (Or.inl ⟨by rfl, ?_⟩) hHeld ?_
              · (intro w hSw; (try dsimp only at hSw); go_simp)
              try simp only [Act.put, List.setIfInBounds_toArray, List.set_cons_zero, List.set_cons_succ]
              refine wpAnyH_take (i := 4) (oi := { dst := some 82, op := Op.move (Operand.tmp 6), type := 25, pos := "law.go:66", after := #[], guard := none }) (v := .pointer (some ⟨W.heap.size + 1, 0, none⟩)) rfl (by kernel_rfl) (by kernel_rfl) (by kernel_rfl) (fun _ _ _ h => h) (Or.inl ⟨by rfl, ?_⟩) hHeld ?_
              · (intro w hSw; (try dsimp only at hSw); go_simp)
              try simp only [Act.put, List.setIfInBounds_toArray, List.set_cons_zero, List.set_cons_succ]
              refine wpAnyH_take (i := 5) (oi := { dst := some 83, op := Op.fieldAddr 52 (Operand.tmp 8) 2, type := 0, pos := "law.go:66", after := #[], guard := none }) (v := .pointer (some ⟨wr.heap.size, 47, none⟩)) rfl (by kernel_rfl) (by kernel_rfl) (by kernel_rfl) (fun _ _ _ h => h) (Or.inl ⟨by rfl, ?_⟩) hHeld ?_
              · (intro w hSw; (try dsimp only at hSw); go_simp)
              try simp only [Act.put, List.setIfInBounds_toArray, List.set_cons_zero, List.set_cons_succ]
              refine wpAnyH_take (i := 6) (oi := { dst := some 84, op := Op.load 3 (Operand.tmp 83), type := 3, pos := "law.go:66", after := #[{ on := 5, ground := Ground.data }], guard := none }) (v := .int .i64 n) rfl (by kernel_rfl) (by kernel_rfl) (by kernel_rfl) (fun _ _ _ h => h) (Or.inl ⟨by rfl, ?_⟩) hHeld ?_
              · (intro w hSw; (try dsimp only at hSw); go_simp)
              try simp only [Act.put, List.setIfInBounds_toArray, List.set_cons_zero, List.set_cons_succ]
              refine wpAnyH_ready (rs := [3]) (by kernel_rfl) (by simp) ?_
              refine AllReadyH.cons (o := { dst := some 81, op := Op.call { callee := Callee.value (Operand.func 13), args := #[Operand.tmp 78, Operand.tmp 80], argTypes := #[23, 3] }, type := 4, pos := "law.go:66", after := #[{ on := 0, ground := Ground.data }, { on := 2, ground := Ground.data }], guard := none }) rfl (fun K hK => ?_) AllReadyH.nil
              go_simp
              have HMd := hidI (HM3.out.1.grow ((Below.refl _ _).drew))
              refine (mlose (k := n) HMd.out).mono ?_
              rintro e w4 ⟨rfl, hm4, t4⟩
              rw [hbb.out]
              have HM4 := hidI hm4
              have BX4 := hidI (BX3.out.kt ((KT.of_below ((Below.refl _ _).drew)).trans t4))
              clear hm4 t4
              refine hK.out _ _ BX4.out.n (fun hHeld2 => ?_)
              clear hK K
              try simp only [Act.put, List.setIfInBounds_toArray, List.set_cons_zero, List.set_cons_succ]
              refine wpAnyH_ready (rs := [7]) (by kernel_rfl) (by simp) ?_
              refine AllReadyH.cons (o := { dst := some 85, op := Op.call { callee := Callee.value (Operand.func 14), args := #[Operand.tmp 82, Operand.tmp 84], argTypes := #[25, 3] }, type := 4, pos := "law.go:66", after := #[{ on := 4, ground := Ground.data }, { on := 6, ground := Ground.data }, { on := 3, ground := Ground.chain }], guard := none }) rfl (fun K hK => ?_) AllReadyH.nil
              go_simp
              refine (mdlose (k := n) HM4.out).mono ?_
              rintro e w5 ⟨rfl, hm5, t5⟩
              rw [hbb.out]
              have HM5 := hidI hm5
              have BX5 := hidI (BX4.out.kt t5)
              clear hm5 t5
              refine hK.out _ _ BX5.out.n (fun hHeld3 => ?_)
              clear hK K
              try simp only [Act.put, List.setIfInBounds_toArray, List.set_cons_zero, List.set_cons_succ]
              refine wpAnyH_take (i := 8) (oi := { dst := some 86, op := Op.binOp BinOp.eql 4 (Operand.tmp 81) (Operand.tmp 85) 4, type := 4, pos := "law.go:66", after := #[{ on := 3, ground := Ground.data }, { on := 7, ground := Ground.data }], guard := none }) (v := .bool true) rfl (by kernel_rfl) (by kernel_rfl) (by kernel_rfl) (fun _ _ _ h => h) (Or.inl ⟨by rfl, ?_⟩) hHeld3 ?_
              · (intro w hSw; (try dsimp only at hSw); go_simp)
              try simp only [Act.put, List.setIfInBounds_toArray, List.set_cons_zero, List.set_cons_succ]
              refine wpAnyH_take (i := 9) (oi := { dst := some 9, op := Op.assign (Operand.tmp 86), type := 4, pos := "law.go:66", after := #[{ on := 8, ground := Ground.data }, { on := 7, ground := Ground.chain }, { on := 0, ground := Ground.phase }, { on := 1, ground := Ground.phase }, { on := 2, ground := Ground.phase }, { on := 3, ground := Ground.phase }, { on := 4, ground := Ground.phase }, { on := 5, ground := Ground.phase }, { on := 6, ground := Ground.phase }, { on := 7, ground := Ground.phase }, { on := 8, ground := Ground.phase }], guard := none }) (v := .bool true) rfl (by kernel_rfl) (by kernel_rfl) (by kernel_rfl) (fun _ _ _ h => h) (Or.inl ⟨by rfl, ?_⟩) hHeld3 ?_
              · (intro w hSw; (try dsimp only at hSw); go_simp)
              try simp only [Act.put, List.setIfInBounds_toArray, List.set_cons_zero, List.set_cons_succ]
              refine wpAnyH_done (by kernel_rfl) ?_ _
              obtain ⟨L9, HM9⟩ : ∃ L9, Hid (Mid W _ W.heap.size (W.heap.size + 1) R L9 L9 ∧ L9.length ≤ R ∧ PkM L9) := ⟨_, ⟨HM5.out, lose_le HM3.out.2.1 n, HM3.out.2.2.lose n⟩⟩
              obtain ⟨hp9, hl9, a9, c9, hc9⟩ := HM9.out.1.row
              obtain ⟨m9, hm9⟩ : ∃ m9, Hid (L9.length = m9) := ⟨_, hidI rfl⟩
              rw [hm9.out] at hc9 hl9
              go_wp2
              refine wp_region_held_drew (S := fun w' => w'.cell? ⟨W.heap.size + 1, 1, none⟩ = some (.slice a9 m9 c9)) (by kernel_rfl) hc9 (fun hHeld => ?_)
              refine wpAnyH_take (i := 0) (oi := { dst := some 98, op := Op.move (Operand.tmp 9), type := 4, pos := "law.go:70", after := #[], guard := none }) (v := .bool true) rfl (by kernel_rfl) (by kernel_rfl) (by kernel_rfl) (fun _ _ _ h => h) (Or.inl ⟨by rfl, ?_⟩) hHeld ?_
              · (intro w hSw; (try dsimp only at hSw); go_simp)
              try simp only [Act.put, List.setIfInBounds_toArray, List.set_cons_zero, List.set_cons_succ]
              refine wpAnyH_take (i := 1) (oi := { dst := some 99, op := Op.unOp UnOp.not 4 (Operand.tmp 98), type := 4, pos := "law.go:70", after := #[{ on := 0, ground := Ground.data }], guard := none }) (v := .bool false) rfl (by kernel_rfl) (by kernel_rfl) (by kernel_rfl) (fun _ _ _ h => h) (Or.inl ⟨by rfl, ?_⟩) hHeld ?_
              · (intro w hSw; (try dsimp only at hSw); go_simp)
              try simp only [Act.put, List.setIfInBounds_toArray, List.set_cons_zero, List.set_cons_succ]
              refine wpAnyH_take (i := 2) (oi := { dst := some 100, op := Op.move (Operand.tmp 99), type := 4, pos := "law.go:70", after := #[{ on := 1, ground := Ground.data }], guard := none }) (v := .bool false) rfl (by kernel_rfl) (by kernel_rfl) (by kernel_rfl) (fun _ _ _ h => h) (Or.inl ⟨by rfl, ?_⟩) hHeld ?_
              · (intro w hSw; (try dsimp only at hSw); go_simp)
              try simp only [Act.put, List.setIfInBounds_toArray, List.set_cons_zero, List.set_cons_succ]
              refine wpAnyH_take (i := 3) (oi := { dst := some 101, op := Op.move (Operand.tmp 5), type := 23, pos := "law.go:70", after := #[{ on := 2, ground := Ground.guard }], guard := some (2, false) }) (v := .pointer (some ⟨W.heap.size, 0, none⟩)) rfl (by kernel_rfl) (by kernel_rfl) (by kernel_rfl) (fun _ _ _ h => h) (Or.inl ⟨by rfl, ?_⟩) hHeld ?_
              · (intro w hSw; (try dsimp only at hSw); go_simp)
              try simp only [Act.put, List.setIfInBounds_toArray, List.set_cons_zero, List.set_cons_succ]
              refine wpAnyH_take (i := 5) (oi := { dst := some 103, op := Op.move (Operand.tmp 6), type := 25, pos := "law.go:70", after := #[{ on := 2, ground := Ground.guard }], guard := some (2, false) }) (v := .pointer (some ⟨W.heap.size + 1, 0, none⟩)) rfl (by kernel_rfl) (by kernel_rfl) (by kernel_rfl) (fun _ _ _ h => h) (Or.inl ⟨by rfl, ?_⟩) hHeld ?_
              · (intro w hSw; (try dsimp only at hSw); go_simp)
              try simp only [Act.put, List.setIfInBounds_toArray, List.set_cons_zero, List.set_cons_succ]
              refine wpAnyH_take (i := 6) (oi := { dst := some 104, op := Op.nilCheck (Operand.tmp 103), type := 0, pos := "law.go:70", after := #[{ on := 5, ground := Ground.data }, { on := 2, ground := Ground.guard }], guard := some (2, false) }) (v := .pointer (some ⟨W.heap.size + 1, 0, none⟩)) rfl (by kernel_rfl) (by kernel_rfl) (by kernel_rfl) (fun _ _ _ h => h) (Or.inl ⟨by rfl, ?_⟩) hHeld ?_
              · (intro w hSw; (try dsimp only at hSw); go_simp)
              try simp only [Act.put, List.setIfInBounds_toArray, List.set_cons_zero, List.set_cons_succ]
              refine wpAnyH_take (i := 7) (oi := { dst := some 105, op := Op.fieldAddr 61 (Operand.tmp 104) 1, type := 0, pos := "law.go:70", after := #[{ on := 6, ground := Ground.data }, { on := 2, ground := Ground.guard }], guard := some (2, false) }) (v := .pointer (some ⟨W.heap.size + 1, 1, none⟩)) rfl (by kernel_rfl) (by kernel_rfl) (by kernel_rfl) (fun _ _ _ h => h) (Or.inl ⟨by rfl, ?_⟩) hHeld ?_
              · (intro w hSw; (try dsimp only at hSw); go_simp)
              try simp only [Act.put, List.setIfInBounds_toArray, List.set_cons_zero, List.set_cons_succ]
              refine wpAnyH_take (i := 8) (oi := { dst := some 106, op := Op.load 59 (Operand.tmp 105), type := 59, pos := "law.go:70", after := #[{ on := 7, ground := Ground.data }, { on := 2, ground := Ground.guard }], guard := some (2, false) }) (v := .slice a9 m9 c9) rfl (by kernel_rfl) (by kernel_rfl) (by kernel_rfl) (fun _ _ _ h => h) (Or.inl ⟨by rfl, ?_⟩) hHeld ?_
              · (intro w hSw; (try dsimp only at hSw); go_simp)
              try simp only [Act.put, List.setIfInBounds_toArray, List.set_cons_zero, List.set_cons_succ]
              refine wpAnyH_take (i := 9) (oi := { dst := some 107, op := Op.call { callee := Callee.builtin Builtin.len, args := #[Operand.tmp 106], argTypes := #[59] }, type := 3, pos := "law.go:70", after := #[{ on := 8, ground := Ground.data }, { on := 2, ground := Ground.guard }], guard := some (2, false) }) (v := .int .i64 (m9 : Int)) rfl (by kernel_rfl) (by kernel_rfl) (by kernel_rfl) (fun _ _ _ h => h) (Or.inl ⟨by rfl, ?_⟩) hHeld ?_
              · (intro w hSw; (try dsimp only at hSw); go_simp)
              try simp only [Act.put, List.setIfInBounds_toArray, List.set_cons_zero, List.set_cons_succ]
              refine wpAnyH_ready (rs := [4]) (by kernel_rfl) (by simp) ?_
              refine AllReadyH.cons (o := { dst := some 102, op := Op.call { callee := Callee.value (Operand.func 17), args := #[Operand.tmp 101], argTypes := #[23] }, type := 3, pos := "law.go:70", after := #[{ on := 3, ground := Ground.data }, { on := 2, ground := Ground.chain }, { on := 2, ground := Ground.guard }], guard := some (2, false) }) rfl (fun K hK => ?_) AllReadyH.nil
              go_simp
              have HMd := hidI (HM9.out.1.grow ((Below.refl _ _).drew))
              refine (HMd.out.len).mono ?_
              rintro e w9 ⟨rfl, hw9⟩
              subst hw9
              rw [hm9.out]
              refine hK.out _ _ hHeld (fun hHeld2 => ?_)
              clear hK K
              try simp only [Act.put, List.setIfInBounds_toArray, List.set_cons_zero, List.set_cons_succ]
              refine wpAnyH_take (i := 10) (oi := { dst := some 108, op := Op.binOp BinOp.neq 3 (Operand.tmp 102) (Operand.tmp 107) 3, type := 4, pos := "law.go:70", after := #[{ on := 4, ground := Ground.data }, { on := 9, ground := Ground.data }, { on := 2, ground := Ground.guard }], guard := some (2, false) }) (v := .bool false) rfl (by kernel_rfl) (by kernel_rfl) (by kernel_rfl) (fun _ _ _ h => h) (Or.inl ⟨by rfl, ?_⟩) hHeld2 ?_
              · (intro w hSw; (try dsimp only at hSw); go_simp)
              try simp only [Act.put, List.setIfInBounds_toArray, List.set_cons_zero, List.set_cons_succ]
              refine wpAnyH_take (i := 11) (oi := { dst := some 109, op := Op.pick (Operand.tmp 100) (Operand.const (Value.bool true)) (Operand.tmp 108), type := 4, pos := "law.go:70", after := #[{ on := 2, ground := Ground.data }, { on := 10, ground := Ground.data }], guard := none }) (v := .bool false) rfl (by kernel_rfl) (by kernel_rfl) (by kernel_rfl) (fun _ _ _ h => h) (Or.inl ⟨by rfl, ?_⟩) hHeld2 ?_
              · (intro w hSw; (try dsimp only at hSw); go_simp)
              try simp only [Act.put, List.setIfInBounds_toArray, List.set_cons_zero, List.set_cons_succ]
              refine wpAnyH_done (by kernel_rfl) ?_ _
              go_wp2
              exact ⟨⟨k + 1, L9, by omega, by go_num, HMd.out, HM9.out.2⟩, by simp [intOf]; omega⟩
            · by_cases hk3 : kd = 3
              · subst hk3
                obtain ⟨bb, hbb⟩ : ∃ bb, Hid (hasB L n = bb) := ⟨_, hidI rfl⟩
                go_wp2
                refine wp_region_held_drew (S := fun w' => w'.cell? ⟨wr.heap.size, 47, none⟩ = some (.int .i64 n)) (by kernel_rfl) BX3.out.n (fun hHeld => ?_)
                refine wpAnyH_take (i := 0) (oi := { dst := some 89, op := Op.move (Operand.tmp 5), type := 23, pos := "law.go:68", after := #[], guard := none }) (v := .pointer (some ⟨W.heap.size, 0, none⟩)) rfl (by kernel_rfl) (by kernel_rfl) (by kernel_rfl) (fun _ _ _ h => h) (Or.inl ⟨by rfl, ?_⟩) hHeld ?_
                · (intro w hSw; (try dsimp only at hSw); go_simp)
                try simp only [Act.put, List.setIfInBounds_toArray, List.set_cons_zero, List.set_cons_succ]
                refine wpAnyH_take (i := 1) (oi := { dst := some 90, op := Op.fieldAddr 52 (Operand.tmp 8) 2, type := 0, pos := "law.go:68", after := #[], guard := none }) (v := .pointer (some ⟨wr.heap.size, 47, none⟩)) rfl (by kernel_rfl) (by kernel_rfl) (by kernel_rfl) (fun _ _ _ h => h) (Or.inl ⟨by rfl, ?_⟩) hHeld ?_
                · (intro w hSw; (try dsimp only at hSw); go_simp)
                try simp only [Act.put, List.setIfInBounds_toArray, List.set_cons_zero, List.set_cons_succ]
                refine wpAnyH_take (i := 2) (oi := { dst := some 91, op := Op.load 3 (Operand.tmp 90), type := 3, pos := "law.go:68", after := #[{ on := 1, ground := Ground.data }], guard := none }) (v := .int .i64 n) rfl (by kernel_rfl) (by kernel_rfl) (by kernel_rfl) (fun _ _ _ h => h) (Or.inl ⟨by rfl, ?_⟩) hHeld ?_
                · (intro w hSw; (try dsimp only at hSw); go_simp)
                try simp only [Act.put, List.setIfInBounds_toArray, List.set_cons_zero, List.set_cons_succ]
                refine wpAnyH_take (i := 4) (oi := { dst := some 93, op := Op.move (Operand.tmp 6), type := 25, pos := "law.go:68", after := #[], guard := none }) (v := .pointer (some ⟨W.heap.size + 1, 0, none⟩)) rfl (by kernel_rfl) (by kernel_rfl) (by kernel_rfl) (fun _ _ _ h => h) (Or.inl ⟨by rfl, ?_⟩) hHeld ?_
                · (intro w hSw; (try dsimp only at hSw); go_simp)
                try simp only [Act.put, List.setIfInBounds_toArray, List.set_cons_zero, List.set_cons_succ]
                refine wpAnyH_take (i := 5) (oi := { dst := some 94, op := Op.fieldAddr 52 (Operand.tmp 8) 2, type := 0, pos := "law.go:68", after := #[], guard := none }) (v := .pointer (some ⟨wr.heap.size, 47, none⟩)) rfl (by kernel_rfl) (by kernel_rfl) (by kernel_rfl) (fun _ _ _ h => h) (Or.inl ⟨by rfl, ?_⟩) hHeld ?_
                · (intro w hSw; (try dsimp only at hSw); go_simp)
                try simp only [Act.put, List.setIfInBounds_toArray, List.set_cons_zero, List.set_cons_succ]
                refine wpAnyH_take (i := 6) (oi := { dst := some 95, op := Op.load 3 (Operand.tmp 94), type := 3, pos := "law.go:68", after := #[{ on := 5, ground := Ground.data }], guard := none }) (v := .int .i64 n) rfl (by kernel_rfl) (by kernel_rfl) (by kernel_rfl) (fun _ _ _ h => h) (Or.inl ⟨by rfl, ?_⟩) hHeld ?_
                · (intro w hSw; (try dsimp only at hSw); go_simp)
                try simp only [Act.put, List.setIfInBounds_toArray, List.set_cons_zero, List.set_cons_succ]
                refine wpAnyH_ready (rs := [3]) (by kernel_rfl) (by simp) ?_
                refine AllReadyH.cons (o := { dst := some 92, op := Op.call { callee := Callee.value (Operand.func 15), args := #[Operand.tmp 89, Operand.tmp 91], argTypes := #[23, 3] }, type := 4, pos := "law.go:68", after := #[{ on := 0, ground := Ground.data }, { on := 2, ground := Ground.data }], guard := none }) rfl (fun K hK => ?_) AllReadyH.nil
                go_simp
                have HMd := hidI (HM3.out.1.grow ((Below.refl _ _).drew))
                refine (mcopy (k := n) HMd.out HM3.out.2.1).mono ?_
                rintro e w4 ⟨rfl, hm4, t4⟩
                rw [hbb.out]
                have HM4 := hidI hm4
                have BX4 := hidI (BX3.out.kt ((KT.of_below ((Below.refl _ _).drew)).trans t4))
                clear hm4 t4
                refine hK.out _ _ BX4.out.n (fun hHeld2 => ?_)
                clear hK K
                try simp only [Act.put, List.setIfInBounds_toArray, List.set_cons_zero, List.set_cons_succ]
                refine wpAnyH_ready (rs := [7]) (by kernel_rfl) (by simp) ?_
                refine AllReadyH.cons (o := { dst := some 96, op := Op.call { callee := Callee.value (Operand.func 16), args := #[Operand.tmp 93, Operand.tmp 95], argTypes := #[25, 3] }, type := 4, pos := "law.go:68", after := #[{ on := 4, ground := Ground.data }, { on := 6, ground := Ground.data }, { on := 3, ground := Ground.chain }], guard := none }) rfl (fun K hK => ?_) AllReadyH.nil
                go_simp
                refine (mdcopy (k := n) HM4.out h1 HM3.out.2.1).mono ?_
                rintro e w5 ⟨rfl, hm5, t5⟩
                rw [hbb.out]
                have HM5 := hidI hm5
                have BX5 := hidI (BX4.out.kt t5)
                clear hm5 t5
                refine hK.out _ _ BX5.out.n (fun hHeld3 => ?_)
                clear hK K
                try simp only [Act.put, List.setIfInBounds_toArray, List.set_cons_zero, List.set_cons_succ]
                refine wpAnyH_take (i := 8) (oi := { dst := some 97, op := Op.binOp BinOp.eql 4 (Operand.tmp 92) (Operand.tmp 96) 4, type := 4, pos := "law.go:68", after := #[{ on := 3, ground := Ground.data }, { on := 7, ground := Ground.data }], guard := none }) (v := .bool true) rfl (by kernel_rfl) (by kernel_rfl) (by kernel_rfl) (fun _ _ _ h => h) (Or.inl ⟨by rfl, ?_⟩) hHeld3 ?_
                · (intro w hSw; (try dsimp only at hSw); go_simp)
                try simp only [Act.put, List.setIfInBounds_toArray, List.set_cons_zero, List.set_cons_succ]
                refine wpAnyH_take (i := 9) (oi := { dst := some 9, op := Op.assign (Operand.tmp 97), type := 4, pos := "law.go:68", after := #[{ on := 8, ground := Ground.data }, { on := 7, ground := Ground.chain }, { on := 0, ground := Ground.phase }, { on := 1, ground := Ground.phase }, { on := 2, ground := Ground.phase }, { on := 3, ground := Ground.phase }, { on := 4, ground := Ground.phase }, { on := 5, ground := Ground.phase }, { on := 6, ground := Ground.phase }, { on := 7, ground := Ground.phase }, { on := 8, ground := Ground.phase }], guard := none }) (v := .bool true) rfl (by kernel_rfl) (by kernel_rfl) (by kernel_rfl) (fun _ _ _ h => h) (Or.inl ⟨by rfl, ?_⟩) hHeld3 ?_
                · (intro w hSw; (try dsimp only at hSw); go_simp)
                try simp only [Act.put, List.setIfInBounds_toArray, List.set_cons_zero, List.set_cons_succ]
                refine wpAnyH_done (by kernel_rfl) ?_ _
                obtain ⟨L9, HM9⟩ : ∃ L9, Hid (Mid W _ W.heap.size (W.heap.size + 1) R L9 L9 ∧ L9.length ≤ R ∧ PkM L9) := ⟨_, ⟨HM5.out, copy_le HM3.out.2.1 n, HM3.out.2.2.copy R n⟩⟩
                obtain ⟨hp9, hl9, a9, c9, hc9⟩ := HM9.out.1.row
                obtain ⟨m9, hm9⟩ : ∃ m9, Hid (L9.length = m9) := ⟨_, hidI rfl⟩
                rw [hm9.out] at hc9 hl9
                go_wp2
                refine wp_region_held_drew (S := fun w' => w'.cell? ⟨W.heap.size + 1, 1, none⟩ = some (.slice a9 m9 c9)) (by kernel_rfl) hc9 (fun hHeld => ?_)
                refine wpAnyH_take (i := 0) (oi := { dst := some 98, op := Op.move (Operand.tmp 9), type := 4, pos := "law.go:70", after := #[], guard := none }) (v := .bool true) rfl (by kernel_rfl) (by kernel_rfl) (by kernel_rfl) (fun _ _ _ h => h) (Or.inl ⟨by rfl, ?_⟩) hHeld ?_
                · (intro w hSw; (try dsimp only at hSw); go_simp)
                try simp only [Act.put, List.setIfInBounds_toArray, List.set_cons_zero, List.set_cons_succ]
                refine wpAnyH_take (i := 1) (oi := { dst := some 99, op := Op.unOp UnOp.not 4 (Operand.tmp 98), type := 4, pos := "law.go:70", after := #[{ on := 0, ground := Ground.data }], guard := none }) (v := .bool false) rfl (by kernel_rfl) (by kernel_rfl) (by kernel_rfl) (fun _ _ _ h => h) (Or.inl ⟨by rfl, ?_⟩) hHeld ?_
                · (intro w hSw; (try dsimp only at hSw); go_simp)
                try simp only [Act.put, List.setIfInBounds_toArray, List.set_cons_zero, List.set_cons_succ]
                refine wpAnyH_take (i := 2) (oi := { dst := some 100, op := Op.move (Operand.tmp 99), type := 4, pos := "law.go:70", after := #[{ on := 1, ground := Ground.data }], guard := none }) (v := .bool false) rfl (by kernel_rfl) (by kernel_rfl) (by kernel_rfl) (fun _ _ _ h => h) (Or.inl ⟨by rfl, ?_⟩) hHeld ?_
                · (intro w hSw; (try dsimp only at hSw); go_simp)
                try simp only [Act.put, List.setIfInBounds_toArray, List.set_cons_zero, List.set_cons_succ]
                refine wpAnyH_take (i := 3) (oi := { dst := some 101, op := Op.move (Operand.tmp 5), type := 23, pos := "law.go:70", after := #[{ on := 2, ground := Ground.guard }], guard := some (2, false) }) (v := .pointer (some ⟨W.heap.size, 0, none⟩)) rfl (by kernel_rfl) (by kernel_rfl) (by kernel_rfl) (fun _ _ _ h => h) (Or.inl ⟨by rfl, ?_⟩) hHeld ?_
                · (intro w hSw; (try dsimp only at hSw); go_simp)
                try simp only [Act.put, List.setIfInBounds_toArray, List.set_cons_zero, List.set_cons_succ]
                refine wpAnyH_take (i := 5) (oi := { dst := some 103, op := Op.move (Operand.tmp 6), type := 25, pos := "law.go:70", after := #[{ on := 2, ground := Ground.guard }], guard := some (2, false) }) (v := .pointer (some ⟨W.heap.size + 1, 0, none⟩)) rfl (by kernel_rfl) (by kernel_rfl) (by kernel_rfl) (fun _ _ _ h => h) (Or.inl ⟨by rfl, ?_⟩) hHeld ?_
                · (intro w hSw; (try dsimp only at hSw); go_simp)
                try simp only [Act.put, List.setIfInBounds_toArray, List.set_cons_zero, List.set_cons_succ]
                refine wpAnyH_take (i := 6) (oi := { dst := some 104, op := Op.nilCheck (Operand.tmp 103), type := 0, pos := "law.go:70", after := #[{ on := 5, ground := Ground.data }, { on := 2, ground := Ground.guard }], guard := some (2, false) }) (v := .pointer (some ⟨W.heap.size + 1, 0, none⟩)) rfl (by kernel_rfl) (by kernel_rfl) (by kernel_rfl) (fun _ _ _ h => h) (Or.inl ⟨by rfl, ?_⟩) hHeld ?_
                · (intro w hSw; (try dsimp only at hSw); go_simp)
                try simp only [Act.put, List.setIfInBounds_toArray, List.set_cons_zero, List.set_cons_succ]
                refine wpAnyH_take (i := 7) (oi := { dst := some 105, op := Op.fieldAddr 61 (Operand.tmp 104) 1, type := 0, pos := "law.go:70", after := #[{ on := 6, ground := Ground.data }, { on := 2, ground := Ground.guard }], guard := some (2, false) }) (v := .pointer (some ⟨W.heap.size + 1, 1, none⟩)) rfl (by kernel_rfl) (by kernel_rfl) (by kernel_rfl) (fun _ _ _ h => h) (Or.inl ⟨by rfl, ?_⟩) hHeld ?_
                · (intro w hSw; (try dsimp only at hSw); go_simp)
                try simp only [Act.put, List.setIfInBounds_toArray, List.set_cons_zero, List.set_cons_succ]
                refine wpAnyH_take (i := 8) (oi := { dst := some 106, op := Op.load 59 (Operand.tmp 105), type := 59, pos := "law.go:70", after := #[{ on := 7, ground := Ground.data }, { on := 2, ground := Ground.guard }], guard := some (2, false) }) (v := .slice a9 m9 c9) rfl (by kernel_rfl) (by kernel_rfl) (by kernel_rfl) (fun _ _ _ h => h) (Or.inl ⟨by rfl, ?_⟩) hHeld ?_
                · (intro w hSw; (try dsimp only at hSw); go_simp)
                try simp only [Act.put, List.setIfInBounds_toArray, List.set_cons_zero, List.set_cons_succ]
                refine wpAnyH_take (i := 9) (oi := { dst := some 107, op := Op.call { callee := Callee.builtin Builtin.len, args := #[Operand.tmp 106], argTypes := #[59] }, type := 3, pos := "law.go:70", after := #[{ on := 8, ground := Ground.data }, { on := 2, ground := Ground.guard }], guard := some (2, false) }) (v := .int .i64 (m9 : Int)) rfl (by kernel_rfl) (by kernel_rfl) (by kernel_rfl) (fun _ _ _ h => h) (Or.inl ⟨by rfl, ?_⟩) hHeld ?_
                · (intro w hSw; (try dsimp only at hSw); go_simp)
                try simp only [Act.put, List.setIfInBounds_toArray, List.set_cons_zero, List.set_cons_succ]
                refine wpAnyH_ready (rs := [4]) (by kernel_rfl) (by simp) ?_
                refine AllReadyH.cons (o := { dst := some 102, op := Op.call { callee := Callee.value (Operand.func 17), args := #[Operand.tmp 101], argTypes := #[23] }, type := 3, pos := "law.go:70", after := #[{ on := 3, ground := Ground.data }, { on := 2, ground := Ground.chain }, { on := 2, ground := Ground.guard }], guard := some (2, false) }) rfl (fun K hK => ?_) AllReadyH.nil
                go_simp
                have HMd := hidI (HM9.out.1.grow ((Below.refl _ _).drew))
                refine (HMd.out.len).mono ?_
                rintro e w9 ⟨rfl, hw9⟩
                subst hw9
                rw [hm9.out]
                refine hK.out _ _ hHeld (fun hHeld2 => ?_)
                clear hK K
                try simp only [Act.put, List.setIfInBounds_toArray, List.set_cons_zero, List.set_cons_succ]
                refine wpAnyH_take (i := 10) (oi := { dst := some 108, op := Op.binOp BinOp.neq 3 (Operand.tmp 102) (Operand.tmp 107) 3, type := 4, pos := "law.go:70", after := #[{ on := 4, ground := Ground.data }, { on := 9, ground := Ground.data }, { on := 2, ground := Ground.guard }], guard := some (2, false) }) (v := .bool false) rfl (by kernel_rfl) (by kernel_rfl) (by kernel_rfl) (fun _ _ _ h => h) (Or.inl ⟨by rfl, ?_⟩) hHeld2 ?_
                · (intro w hSw; (try dsimp only at hSw); go_simp)
                try simp only [Act.put, List.setIfInBounds_toArray, List.set_cons_zero, List.set_cons_succ]
                refine wpAnyH_take (i := 11) (oi := { dst := some 109, op := Op.pick (Operand.tmp 100) (Operand.const (Value.bool true)) (Operand.tmp 108), type := 4, pos := "law.go:70", after := #[{ on := 2, ground := Ground.data }, { on := 10, ground := Ground.data }], guard := none }) (v := .bool false) rfl (by kernel_rfl) (by kernel_rfl) (by kernel_rfl) (fun _ _ _ h => h) (Or.inl ⟨by rfl, ?_⟩) hHeld2 ?_
                · (intro w hSw; (try dsimp only at hSw); go_simp)
                try simp only [Act.put, List.setIfInBounds_toArray, List.set_cons_zero, List.set_cons_succ]
                refine wpAnyH_done (by kernel_rfl) ?_ _
                go_wp2
                exact ⟨⟨k + 1, L9, by omega, by go_num, HMd.out, HM9.out.2⟩, by simp [intOf]; omega⟩
              · have e0 : (kd == 0) = false := by simp [hk0]
                have e1 : (kd == 1) = false := by simp [hk1]
                have e2 : (kd == 2) = false := by simp [hk2]
                have e3 : (kd == 3) = false := by simp [hk3]
                clear hk0 hk1 hk2 hk3
                go_upto_region 23 with fail
                obtain ⟨L9, HM9⟩ : ∃ L9, Hid (Mid W _ W.heap.size (W.heap.size + 1) R L9 L9 ∧ L9.length ≤ R ∧ PkM L9) := ⟨L, HM3.out⟩
                obtain ⟨hp9, hl9, a9, c9, hc9⟩ := HM9.out.1.row
                obtain ⟨m9, hm9⟩ : ∃ m9, Hid (L9.length = m9) := ⟨_, hidI rfl⟩
                rw [hm9.out] at hc9 hl9
                skip
                refine wp_region_held_drew (S := fun w' => w'.cell? ⟨W.heap.size + 1, 1, none⟩ = some (.slice a9 m9 c9)) (by kernel_rfl) hc9 (fun hHeld => ?_)
                refine wpAnyH_take (i := 0) (oi := { dst := some 98, op := Op.move (Operand.tmp 9), type := 4, pos := "law.go:70", after := #[], guard := none }) (v := .bool true) rfl (by kernel_rfl) (by kernel_rfl) (by kernel_rfl) (fun _ _ _ h => h) (Or.inl ⟨by rfl, ?_⟩) hHeld ?_
                · (intro w hSw; (try dsimp only at hSw); go_simp)
                try simp only [Act.put, List.setIfInBounds_toArray, List.set_cons_zero, List.set_cons_succ]
                refine wpAnyH_take (i := 1) (oi := { dst := some 99, op := Op.unOp UnOp.not 4 (Operand.tmp 98), type := 4, pos := "law.go:70", after := #[{ on := 0, ground := Ground.data }], guard := none }) (v := .bool false) rfl (by kernel_rfl) (by kernel_rfl) (by kernel_rfl) (fun _ _ _ h => h) (Or.inl ⟨by rfl, ?_⟩) hHeld ?_
                · (intro w hSw; (try dsimp only at hSw); go_simp)
                try simp only [Act.put, List.setIfInBounds_toArray, List.set_cons_zero, List.set_cons_succ]
                refine wpAnyH_take (i := 2) (oi := { dst := some 100, op := Op.move (Operand.tmp 99), type := 4, pos := "law.go:70", after := #[{ on := 1, ground := Ground.data }], guard := none }) (v := .bool false) rfl (by kernel_rfl) (by kernel_rfl) (by kernel_rfl) (fun _ _ _ h => h) (Or.inl ⟨by rfl, ?_⟩) hHeld ?_
                · (intro w hSw; (try dsimp only at hSw); go_simp)
                try simp only [Act.put, List.setIfInBounds_toArray, List.set_cons_zero, List.set_cons_succ]
                refine wpAnyH_take (i := 3) (oi := { dst := some 101, op := Op.move (Operand.tmp 5), type := 23, pos := "law.go:70", after := #[{ on := 2, ground := Ground.guard }], guard := some (2, false) }) (v := .pointer (some ⟨W.heap.size, 0, none⟩)) rfl (by kernel_rfl) (by kernel_rfl) (by kernel_rfl) (fun _ _ _ h => h) (Or.inl ⟨by rfl, ?_⟩) hHeld ?_
                · (intro w hSw; (try dsimp only at hSw); go_simp)
                try simp only [Act.put, List.setIfInBounds_toArray, List.set_cons_zero, List.set_cons_succ]
                refine wpAnyH_take (i := 5) (oi := { dst := some 103, op := Op.move (Operand.tmp 6), type := 25, pos := "law.go:70", after := #[{ on := 2, ground := Ground.guard }], guard := some (2, false) }) (v := .pointer (some ⟨W.heap.size + 1, 0, none⟩)) rfl (by kernel_rfl) (by kernel_rfl) (by kernel_rfl) (fun _ _ _ h => h) (Or.inl ⟨by rfl, ?_⟩) hHeld ?_
                · (intro w hSw; (try dsimp only at hSw); go_simp)
                try simp only [Act.put, List.setIfInBounds_toArray, List.set_cons_zero, List.set_cons_succ]
                refine wpAnyH_take (i := 6) (oi := { dst := some 104, op := Op.nilCheck (Operand.tmp 103), type := 0, pos := "law.go:70", after := #[{ on := 5, ground := Ground.data }, { on := 2, ground := Ground.guard }], guard := some (2, false) }) (v := .pointer (some ⟨W.heap.size + 1, 0, none⟩)) rfl (by kernel_rfl) (by kernel_rfl) (by kernel_rfl) (fun _ _ _ h => h) (Or.inl ⟨by rfl, ?_⟩) hHeld ?_
                · (intro w hSw; (try dsimp only at hSw); go_simp)
                try simp only [Act.put, List.setIfInBounds_toArray, List.set_cons_zero, List.set_cons_succ]
                refine wpAnyH_take (i := 7) (oi := { dst := some 105, op := Op.fieldAddr 61 (Operand.tmp 104) 1, type := 0, pos := "law.go:70", after := #[{ on := 6, ground := Ground.data }, { on := 2, ground := Ground.guard }], guard := some (2, false) }) (v := .pointer (some ⟨W.heap.size + 1, 1, none⟩)) rfl (by kernel_rfl) (by kernel_rfl) (by kernel_rfl) (fun _ _ _ h => h) (Or.inl ⟨by rfl, ?_⟩) hHeld ?_
                · (intro w hSw; (try dsimp only at hSw); go_simp)
                try simp only [Act.put, List.setIfInBounds_toArray, List.set_cons_zero, List.set_cons_succ]
                refine wpAnyH_take (i := 8) (oi := { dst := some 106, op := Op.load 59 (Operand.tmp 105), type := 59, pos := "law.go:70", after := #[{ on := 7, ground := Ground.data }, { on := 2, ground := Ground.guard }], guard := some (2, false) }) (v := .slice a9 m9 c9) rfl (by kernel_rfl) (by kernel_rfl) (by kernel_rfl) (fun _ _ _ h => h) (Or.inl ⟨by rfl, ?_⟩) hHeld ?_
                · (intro w hSw; (try dsimp only at hSw); go_simp)
                try simp only [Act.put, List.setIfInBounds_toArray, List.set_cons_zero, List.set_cons_succ]
                refine wpAnyH_take (i := 9) (oi := { dst := some 107, op := Op.call { callee := Callee.builtin Builtin.len, args := #[Operand.tmp 106], argTypes := #[59] }, type := 3, pos := "law.go:70", after := #[{ on := 8, ground := Ground.data }, { on := 2, ground := Ground.guard }], guard := some (2, false) }) (v := .int .i64 (m9 : Int)) rfl (by kernel_rfl) (by kernel_rfl) (by kernel_rfl) (fun _ _ _ h => h) (Or.inl ⟨by rfl, ?_⟩) hHeld ?_
                · (intro w hSw; (try dsimp only at hSw); go_simp)
                try simp only [Act.put, List.setIfInBounds_toArray, List.set_cons_zero, List.set_cons_succ]
                refine wpAnyH_ready (rs := [4]) (by kernel_rfl) (by simp) ?_
                refine AllReadyH.cons (o := { dst := some 102, op := Op.call { callee := Callee.value (Operand.func 17), args := #[Operand.tmp 101], argTypes := #[23] }, type := 3, pos := "law.go:70", after := #[{ on := 3, ground := Ground.data }, { on := 2, ground := Ground.chain }, { on := 2, ground := Ground.guard }], guard := some (2, false) }) rfl (fun K hK => ?_) AllReadyH.nil
                go_simp
                have HMd := hidI (HM9.out.1.grow ((Below.refl _ _).drew))
                refine (HMd.out.len).mono ?_
                rintro e w9 ⟨rfl, hw9⟩
                subst hw9
                rw [hm9.out]
                refine hK.out _ _ hHeld (fun hHeld2 => ?_)
                clear hK K
                try simp only [Act.put, List.setIfInBounds_toArray, List.set_cons_zero, List.set_cons_succ]
                refine wpAnyH_take (i := 10) (oi := { dst := some 108, op := Op.binOp BinOp.neq 3 (Operand.tmp 102) (Operand.tmp 107) 3, type := 4, pos := "law.go:70", after := #[{ on := 4, ground := Ground.data }, { on := 9, ground := Ground.data }, { on := 2, ground := Ground.guard }], guard := some (2, false) }) (v := .bool false) rfl (by kernel_rfl) (by kernel_rfl) (by kernel_rfl) (fun _ _ _ h => h) (Or.inl ⟨by rfl, ?_⟩) hHeld2 ?_
                · (intro w hSw; (try dsimp only at hSw); go_simp)
                try simp only [Act.put, List.setIfInBounds_toArray, List.set_cons_zero, List.set_cons_succ]
                refine wpAnyH_take (i := 11) (oi := { dst := some 109, op := Op.pick (Operand.tmp 100) (Operand.const (Value.bool true)) (Operand.tmp 108), type := 4, pos := "law.go:70", after := #[{ on := 2, ground := Ground.data }, { on := 10, ground := Ground.data }], guard := none }) (v := .bool false) rfl (by kernel_rfl) (by kernel_rfl) (by kernel_rfl) (fun _ _ _ h => h) (Or.inl ⟨by rfl, ?_⟩) hHeld2 ?_
                · (intro w hSw; (try dsimp only at hSw); go_simp)
                try simp only [Act.put, List.setIfInBounds_toArray, List.set_cons_zero, List.set_cons_succ]
                refine wpAnyH_done (by kernel_rfl) ?_ _
                go_wp2
                exact ⟨⟨k + 1, L9, by omega, by go_num, HMd.out, HM9.out.2⟩, by simp [intOf]; omega⟩
    · have hge : vs.length ≤ k := by omega
      go_wp2
      go_ret
      exact ⟨rfl, HM.out.1.1⟩

theorem lawPlays (W : World) (most : Int) (a : Option Addr) (len cap : Nat) (vs : List (Vl F_op)) (hn : len = vs.length) (hR : RepL W (fun b => b < W.heap.size) F_op a vs) (hZ : ∀ i (hi : i < vs.length), szb F_msg vs[i].2.1 ≤ 137438953472) :
    Calls Tryz.prog 3 #[.int .i64 most, .slice a len cap] W fun e w' => e = .returned (.bool true) ∧ Below W.heap.size W w' := by
  subst hn
  by_cases h : most < 1 ∨ 256 < most
  · exact lawPlaysNo W most a _ cap h
  · obtain ⟨R, rfl⟩ : ∃ R : Nat, most = R := ⟨most.toNat, by omega⟩
    exact lawPlaysYes W R (by omega) (by omega) a cap vs hR hZ
end Go.Proofs.YtcdoejdbmllnnabGreat
