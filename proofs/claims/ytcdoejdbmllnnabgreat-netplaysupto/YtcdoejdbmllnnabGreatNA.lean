/- Several texts in one (wip/gen/merge.py). -/
import Derived.Test.YtcdoejdbmllnnabGreatVapp
import Derived.Shelf.SlicesE.Delete
import Derived.Test.YtcdoejdbmllnnabGreatVpwms
import Derived.Test.YtcdoejdbmllnnabGreatVgms
/- A net in memory: its packets stand in a row that it owns, each a slice of bytes; what deletes one leaves. -/
namespace Go.Proofs.YtcdoejdbmllnnabGreat
open Go.RowKit Go.Shelf
variable {lo : Nat → Prop}

def delRen : Go.Shelf.Ren := ⟨fun | 45 => 35 | n => n, fun | 22 => 59 | 23 => 32 | n => n, fun | n => n⟩
theorem delLays : SlLaysE.n45 Tryz.prog delRen := { mixed := by kernel_rfl, f45 := ⟨Tryz.f35.name, by decide, Tryz.func35.trans (congrArg some (by kernel_rfl))⟩, t0 := Tryz.underlying0, a0 := Tryz.isAgg0, z0 := Tryz.sizeOf0, v0 := Tryz.zeroValue0, t3 := Tryz.underlying3, a3 := Tryz.isAgg3, z3 := Tryz.sizeOf3, v3 := Tryz.zeroValue3, t4 := Tryz.underlying4, a4 := Tryz.isAgg4, z4 := Tryz.sizeOf4, v4 := Tryz.zeroValue4, t22 := Tryz.underlying59, a22 := Tryz.isAgg59, z22 := Tryz.sizeOf59, v22 := Tryz.zeroValue59, a23 := Tryz.isAgg32, z23 := Tryz.sizeOf32 }

theorem hidOf {p : Prop} (h : p) : Hid p := h

/- a packet's slice -/
abbrev Pk := Option Addr × Nat × Nat
def encP (x : Pk) : Value := .slice x.1 x.2.1 x.2.2
theorem encP_one (x : Pk) : (encP x).oneCell' = true := rfl
theorem info30 : (Tryz.prog.info? 32).map (fun i => (i.zero, i.size, i.bytes)) = some (some (.slice none 0 0), 1, 24) := by kernel_rfl

theorem take_putP (cur : Array Value) (ts us : List Pk) (h : ts.length ≤ cur.size) : (Go.Sort.putCells encP 0 (ts ++ us).toArray cur).toList.take ts.length = ts.map encP := by
  apply List.ext_getElem?
  intro j
  by_cases hj : j < ts.length
  · rw [List.getElem?_take_of_lt hj, Array.getElem?_toList]
    simp [Go.Sort.putCells, hj, show j < cur.size by omega, show j < ts.length + us.length by omega]
  · rw [List.getElem?_eq_none (by simp; omega), List.getElem?_eq_none (by simp; omega)]
theorem delete_any (g cap k : Nat) (ps : List Pk) (cur : Array Value) (w : World) (hg : w.heap[g]? = some (.cells cur 32 (0, 0))) (hcap : ps.length ≤ cap) (hcm : cap ≤ maxLen) (hcs : cur.size = cap) (htake : cur.toList.take ps.length = ps.map encP) (hk : k < ps.length) :
    Calls Tryz.prog 35 #[.slice (some ⟨g, 0, none⟩) ps.length cap, .int .i64 k, .int .i64 ((k : Int) + 1)] w fun e w' => e = .returned (.slice (some ⟨g, 0, none⟩) (ps.length - 1) cap) ∧
      (∃ cur', w'.heap[g]? = some (.cells cur' 32 (0, 0)) ∧ cur'.size = cap ∧ cur'.toList.take (ps.length - 1) = (ps.take k ++ ps.drop (k + 1)).map encP) ∧ w.grownBy w' (some g) := by
  obtain ⟨i0, hi0, hz0, hz1, hz2⟩ := info_parts info30
  have hH : Go.Sort.Holds encP w g 0 ps.toArray := by
    intro j hj
    have hj' : j < ps.length := by simpa using hj
    refine ⟨?_, by simp [World.frozen?, hg]⟩
    rw [Nat.zero_add, cell_of_row w g j cur 32 (0, 0) hg]
    have h1 : (cur.toList.take ps.length)[j]? = some (encP ps[j]) := by rw [htake, List.getElem?_map, List.getElem?_eq_getElem hj']; rfl
    rw [List.getElem?_take, if_pos hj'] at h1
    rw [getElem!_pos ps.toArray j hj]
    simpa using h1
  have h := AnyE.slices_Delete delLays encP (fun _ => rfl) (none, 0, 0) Tryz.zeroValue32 i0 hi0 hz1 g 0 cap k (k + 1) ps.toArray w hH (by simpa using hcap) (by unfold maxLen at hcm; omega) (by omega) (by simp; omega)
  change Calls Tryz.prog 35 _ _ _ at h
  simp only [List.size_toArray] at h
  rw [show (((k + 1 : Nat) : Int)) = (k : Int) + 1 by omega] at h
  refine h.mono ?_
  rintro e w' ⟨rfl, q, rfl⟩
  refine ⟨by rw [show k + 1 - k = 1 by omega], ⟨Go.Sort.putCells encP 0 (ps.take k ++ ps.drop (k + 1) ++ List.replicate (k + 1 - k) (none, 0, 0)).toArray cur, ?_, ?_, ?_⟩, ⟨rfl, rfl, rfl, ?_, ?_⟩⟩
  · simp [Go.Sort.putRow, Go.Sort.mapBlock, Go.Sort.ahead, Array.getElem?_modify, hg, Go.Sort.onCells]
  · simp [Go.Sort.putCells, hcs]
  · have hl1 : (ps.take k ++ ps.drop (k + 1)).length = ps.length - 1 := by simp; omega
    have ht := take_putP cur (ps.take k ++ ps.drop (k + 1)) (List.replicate (k + 1 - k) (none, 0, 0)) (by rw [hl1]; omega)
    rw [hl1] at ht
    exact ht
  · simp [Go.Sort.putRow, Go.Sort.mapBlock, Go.Sort.ahead]
  · intro b hb hne
    have : b ≠ g := fun e => hne (by rw [e])
    simp [Go.Sort.putRow, Go.Sort.mapBlock, Go.Sort.ahead, Array.getElem?_modify, Ne.symm this]


/- a block of bytes -/
def T5 (lo : Nat → Prop) (w : World) (b : Nat) : Prop := (∃ cur, w.heap[b]? = some (.cells cur 5 (0, 0))) ∧ lo b
theorem T5.to {w w' : World} {b : Nat} (h : T5 lo w b) (e : w'.heap[b]? = w.heap[b]?) : T5 lo w' b := by
  obtain ⟨⟨c, hc⟩, hl⟩ := h; exact ⟨⟨c, e.trans hc⟩, hl⟩
/- the packets ps lie in memory: the bytes L -/
def Pks (lo : Nat → Prop) (w : World) (p : Nat) (r : Option Nat) (ps : List Pk) (L : List (List UInt8)) : Prop :=
  ps.length = L.length ∧ ∀ i (h1 : i < ps.length) (h2 : i < L.length), ps[i].2.1 = L[i].length ∧ ps[i].2.1 ≤ ps[i].2.2 ∧ Bs w ps[i].1 L[i] ∧ ∀ y, ps[i].1 = some y → y.block ≠ p ∧ r ≠ some y.block ∧ y.block < w.heap.size ∧ T5 lo w y.block
/- the net at block p, its row at r -/
def NetR (lo : Nat → Prop) (w : World) (p : Nat) (most : Nat) (L : List (List UInt8)) (r : Option Nat) : Prop :=
  most ≤ 256 ∧ L.length ≤ 257 ∧ ∃ v ps, w.heap[p]? = some (.cells #[.int .i64 most, v] 69 (0, 0)) ∧ v.ownBlock = r ∧ w.ownsRow 0 32 1 v L.length (ps.map encP) ∧ r ≠ some p ∧ Pks lo w p r ps L
/- what a step of the net leaves -/
structure NS (w w' : World) (p : Nat) (r r' : Option Nat) : Prop where
  os : w'.os = w.os
  tape : w'.tape = w.tape
  output : w'.output = w.output
  size : w.heap.size ≤ w'.heap.size
  block : ∀ k, k < w.heap.size → k ≠ p → some k ≠ r → w'.heap[k]? = w.heap[k]?
  row : r' = r ∨ ∃ k, r' = some k ∧ w.heap.size ≤ k
theorem NS.refl (w : World) (p : Nat) (r : Option Nat) : NS w w p r r := ⟨rfl, rfl, rfl, Nat.le_refl _, fun _ _ _ _ => rfl, .inl rfl⟩
theorem NS.trans {a b c : World} {p : Nat} {r r1 r2 : Option Nat} (h : NS a b p r r1) (k : NS b c p r1 r2) : NS a c p r r2 := by
  refine ⟨k.os.trans h.os, k.tape.trans h.tape, k.output.trans h.output, Nat.le_trans h.size k.size, fun i hi hp hr => ?_, ?_⟩
  · refine (k.block i (Nat.lt_of_lt_of_le hi h.size) hp ?_).trans (h.block i hi hp hr)
    rcases h.row with e | ⟨n, e, hn⟩
    · rw [e]; exact hr
    · rw [e]; intro e2; have := Option.some.inj e2; omega
  · rcases k.row with e | ⟨n, e, hn⟩
    · rw [e]; exact h.row
    · exact .inr ⟨n, e, Nat.le_trans h.size hn⟩
theorem NS.of_below {a b : World} {p : Nat} {r : Option Nat} (h : Below a.heap.size a b) : NS a b p r r := ⟨h.os, h.tape, h.output, h.size, fun k hk _ _ => h.block k hk, .inl rfl⟩
theorem NS.below {a b : World} {p D : Nat} {r r' : Option Nat} (h : NS a b p r r') (hD : D ≤ a.heap.size) (hp : D ≤ p) (hr : ∀ k, r = some k → D ≤ k) : Below D a b :=
  ⟨h.os, h.tape, h.output, h.size, fun k hk => h.block k (by omega) (by omega) (fun e => by have := hr k e.symm; omega)⟩
theorem NS.rowD {a b : World} {p D : Nat} {r r' : Option Nat} (h : NS a b p r r') (hD : D ≤ a.heap.size) (hr : ∀ k, r = some k → D ≤ k) : ∀ k, r' = some k → D ≤ k := by
  intro k hk
  rcases h.row with e | ⟨n, e, hn⟩
  · exact hr k (e ▸ hk)
  · rw [e] at hk; cases hk; omega

theorem NetR.kept {w w' : World} {p most : Nat} {L : List (List UInt8)} {r : Option Nat} (h : NetR lo w p most L r) (hb : ∀ k, k < w.heap.size → w'.heap[k]? = w.heap[k]?) (hs : w.heap.size ≤ w'.heap.size) : NetR lo w' p most L r := by
  obtain ⟨h1, h2, v, ps, h3, h4, h5, h6, h7, h8⟩ := h
  refine ⟨h1, h2, v, ps, (hb p (Array.getElem?_eq_some_iff.1 h3).1).trans h3, h4, ⟨h5.1, ?_⟩, h6, h7, fun i a b => ?_⟩
  · rcases h5.2 with e | ⟨g, cap, cur, e1, e2, e3, e4⟩
    · exact .inl e
    · exact .inr ⟨g, cap, cur, e1, e2, (hb g (Array.getElem?_eq_some_iff.1 e3).1).trans e3, e4⟩
  · obtain ⟨a1, a2, a3, a4⟩ := h8 i a b
    refine ⟨a1, a2, ⟨a3.1, fun hne => ?_⟩, fun y hy => ⟨(a4 y hy).1, (a4 y hy).2.1, Nat.lt_of_lt_of_le (a4 y hy).2.2.1 hs, (a4 y hy).2.2.2.to (hb _ (a4 y hy).2.2.1)⟩⟩
    obtain ⟨b', off, e, hlt, hc⟩ := a3.2 hne
    exact ⟨b', off, e, Nat.lt_of_lt_of_le hlt hs, fun j hj => (World.cell?_of_block (a := ⟨b', off + j, none⟩) (hb b' hlt)).trans (hc j hj)⟩
theorem NetR.grow {w w' : World} {p most : Nat} {L : List (List UInt8)} {r : Option Nat} (h : NetR lo w p most L r) (hb : Below w.heap.size w w') : NetR lo w' p most L r := h.kept (fun k hk => hb.block k hk) hb.size
/- what the walks read of a net -/
theorem NetR.cells {w : World} {p most : Nat} {L : List (List UInt8)} {r : Option Nat} (h : NetR lo w p most L r) : p < w.heap.size ∧ ∃ a cap, w.cell? ⟨p, 0, none⟩ = some (.int .i64 most) ∧ w.cell? ⟨p, 1, none⟩ = some (.slice a L.length cap) ∧ L.length ≤ cap ∧ cap ≤ maxLen := by
  obtain ⟨h1, h2, v, ps, h3, h4, h5, h6, h7⟩ := h
  refine ⟨(Array.getElem?_eq_some_iff.1 h3).1, ?_⟩
  have c0 : w.cell? ⟨p, 0, none⟩ = some (.int .i64 most) := by rw [cell_of_row w p 0 _ 69 (0, 0) h3]; rfl
  have c1 : w.cell? ⟨p, 1, none⟩ = some v := by rw [cell_of_row w p 1 _ 69 (0, 0) h3]; rfl
  rcases h5.2 with ⟨rfl, e⟩ | ⟨g, cap, cur, e1, e2, e3, e4, e5, e6⟩
  · exact ⟨none, 0, c0, by rw [c1, e], by omega, by simp [maxLen]⟩
  · exact ⟨_, cap, c0, by rw [c1, e1], e4, e5⟩

set_option maxHeartbeats 400000 in
theorem new_ok (n : Int) (w : World) (h1 : 1 ≤ n) (h2 : n ≤ 256) : Calls Tryz.prog 5 #[.int .i64 n] w fun e w' => e = .returned (.pointer (some ⟨w.heap.size, 0, none⟩)) ∧ w' = w.alloc (.cells #[.int .i64 n, .slice none 0 0] 69) := by
  go_enter Tryz.func5, Tryz.ntmps5
  go_wp2
  go_ret
  exact ⟨rfl, rfl⟩
set_option maxHeartbeats 400000 in
theorem new_no (n : Int) (w : World) (h : n < 1 ∨ 256 < n) : Calls Tryz.prog 5 #[.int .i64 n] w fun e w' => e = .returned (.pointer none) ∧ w' = w := by
  rcases h with h | h
  · go_enter Tryz.func5, Tryz.ntmps5
    go_wp2
    go_ret
    exact ⟨rfl, rfl⟩
  · have h1 : ¬ n < 1 := by omega
    go_enter Tryz.func5, Tryz.ntmps5
    go_wp2
    go_ret
    exact ⟨rfl, rfl⟩
theorem netR_new (w : World) (n : Nat) (hn : n ≤ 256) : NetR lo (w.alloc (.cells #[.int .i64 n, .slice none 0 0] 69)) w.heap.size n [] none :=
  ⟨hn, by simp, .slice none 0 0, [], heap_alloc_new w _, rfl, ⟨rfl, .inl ⟨rfl, rfl⟩⟩, by simp, rfl, fun i h => by simp at h⟩

set_option maxHeartbeats 400000 in
theorem len_any (p most : Nat) (L : List (List UInt8)) (r : Option Nat) (w : World) (h : NetR lo w p most L r) : Calls Tryz.prog 17 #[.pointer (some ⟨p, 0, none⟩)] w fun e w' => e = .returned (.int .i64 L.length) ∧ w' = w := by
  obtain ⟨hp, a, cap, c0, c1, _, _⟩ := h.cells
  clear h
  go_enter Tryz.func17, Tryz.ntmps17
  go_wp2
  go_ret
  exact ⟨rfl, rfl⟩

def hasB (L : List (List UInt8)) (k : Int) : Bool := decide (0 ≤ k ∧ k < L.length)
set_option maxHeartbeats 400000 in
theorem has_any (p most : Nat) (L : List (List UInt8)) (r : Option Nat) (k : Int) (w : World) (h : NetR lo w p most L r) : Calls Tryz.prog 24 #[.pointer (some ⟨p, 0, none⟩), .int .i64 k] w fun e w' => e = .returned (.bool (hasB L k)) ∧ w' = w := by
  obtain ⟨hp, a, cap, c0, c1, _, _⟩ := h.cells
  clear h
  by_cases h1 : 0 ≤ k
  · by_cases h2 : k < L.length
    · have e : hasB L k = true := by simp [hasB, h1, h2]
      rw [e]
      go_enter Tryz.func24, Tryz.ntmps24
      go_wp2
      go_ret
      exact ⟨rfl, rfl⟩
    · have e : hasB L k = false := by simp [hasB, h2]
      rw [e]
      go_enter Tryz.func24, Tryz.ntmps24
      go_wp2
      go_ret
      exact ⟨rfl, rfl⟩
  · have e : hasB L k = false := by simp [hasB, h1]
    rw [e]
    go_enter Tryz.func24, Tryz.ntmps24
    go_wp2
    go_ret
    exact ⟨rfl, rfl⟩

theorem Pks.kept {w w' : World} {p : Nat} {r r' : Option Nat} {ps : List Pk} {L : List (List UInt8)} (h : Pks lo w p r ps L) (hs : w.heap.size ≤ w'.heap.size) (hb : ∀ k, k < w.heap.size → k ≠ p → r ≠ some k → w'.heap[k]? = w.heap[k]?) (hr : ∀ k, k < w.heap.size → r ≠ some k → r' ≠ some k) : Pks lo w' p r' ps L := by
  refine ⟨h.1, fun i a b => ?_⟩
  obtain ⟨a1, a2, a3, a4⟩ := h.2 i a b
  refine ⟨a1, a2, ⟨a3.1, fun hne => ?_⟩, fun y hy => ⟨(a4 y hy).1, hr _ (a4 y hy).2.2.1 (a4 y hy).2.1, Nat.lt_of_lt_of_le (a4 y hy).2.2.1 hs, (a4 y hy).2.2.2.to (hb _ (a4 y hy).2.2.1 (a4 y hy).1 (a4 y hy).2.1)⟩⟩
  obtain ⟨b', off, e, hlt, hc⟩ := a3.2 hne
  have := a4 _ e
  exact ⟨b', off, e, Nat.lt_of_lt_of_le hlt hs, fun j hj => (World.cell?_of_block (a := ⟨b', off + j, none⟩) (hb b' hlt this.1 this.2.1)).trans (hc j hj)⟩
theorem Pks.out {w : World} {p : Nat} {r : Option Nat} {ps : List Pk} {L : List (List UInt8)} (h : Pks lo w p r ps L) (k : Nat) : Pks lo w p r (ps.take k ++ ps.drop (k + 1)) (L.take k ++ L.drop (k + 1)) := by
  have hl := h.1
  refine ⟨by simp [hl], fun i a b => ?_⟩
  by_cases hi : i < k
  · by_cases hi2 : i < ps.length
    · have q := h.2 i hi2 (by omega)
      rw [List.getElem_append_left (by simp; omega), List.getElem_append_left (by simp; omega), List.getElem_take, List.getElem_take]
      exact q
    · simp at a; omega
  · have a' := a
    simp only [List.length_append, List.length_take, List.length_drop] at a'
    have hi2 : i + 1 < ps.length := by omega
    have q := h.2 (i + 1) hi2 (by omega)
    have hk : k ≤ ps.length := by omega
    rw [List.getElem_append_right (by simp; omega), List.getElem_append_right (by simp; omega)]
    simp only [List.getElem_drop, List.length_take, Nat.min_eq_left hk, Nat.min_eq_left (hl ▸ hk), show k + 1 + (i - k) = i + 1 by omega]
    exact q
/- the row's slice is laid anew into the net -/
theorem netR_set {w : World} {p most : Nat} {v v' : Value} {L : List (List UInt8)} {ps : List Pk} (h1 : most ≤ 256) (h2 : L.length ≤ 257) (h3 : w.heap[p]? = some (.cells #[.int .i64 most, v] 69 (0, 0)))
    (h5 : w.ownsRow 0 32 1 v' L.length (ps.map encP)) (h6 : v'.ownBlock ≠ some p) (h7 : Pks lo w p v'.ownBlock ps L) : NetR lo (w.setCell ⟨p, 1, none⟩ v') p most L v'.ownBlock := by
  have hk : ∀ k, k ≠ p → (w.setCell ⟨p, 1, none⟩ v').heap[k]? = w.heap[k]? := fun k hk => Below.heap_setCell w ⟨p, 1, none⟩ _ k hk
  refine ⟨h1, h2, v', ps, ?_, rfl, ⟨h5.1, ?_⟩, h6, h7.kept (by simp) (fun k _ hp _ => hk k hp) (fun _ _ x => x)⟩
  · rw [heap_setCell_same w p 1 _ 69 v' h3]; rfl
  · rcases h5.2 with e | ⟨g, cap, cur, e1, e2, e3, e4⟩
    · exact .inl e
    · refine .inr ⟨g, cap, cur, e1, e2, (hk g ?_).trans e3, e4⟩
      intro e; apply h6; rw [e1, e]; rfl

set_option maxHeartbeats 800000 in
theorem remove_any (p most : Nat) (L : List (List UInt8)) (r : Option Nat) (k : Nat) (w : World) (h : NetR lo w p most L r) (hk : k < L.length) : Calls Tryz.prog 25 #[.pointer (some ⟨p, 0, none⟩), .int .i64 k] w fun e w' => e = .returned (.tuple #[]) ∧ NetR lo w' p most (L.take k ++ L.drop (k + 1)) r ∧ NS w w' p r r := by
  obtain ⟨h1, h2, v, ps, h3, h4, h5, h6, hPk⟩ := h
  have hl : ps.length = L.length := hPk.1
  rcases h5.2 with ⟨_, e⟩ | ⟨g, cap, cur, e1, e2, e3, e4, e5, e6, e7⟩
  · omega
  subst e1
  have hr : r = some g := h4.symm
  subst hr
  have hgp : g ≠ p := fun e => h6 (by rw [e])
  have c1 : w.cell? ⟨p, 1, none⟩ = some (.slice (some ⟨g, 0, none⟩) L.length cap) := by rw [cell_of_row w p 1 _ 69 (0, 0) h3]; rfl
  have hp : p < w.heap.size := (Array.getElem?_eq_some_iff.1 h3).1
  have hb : (k : Int) ≤ 257 := by omega
  have hD := delete_any g cap k ps cur w e3 (by omega) e5 (by omega) (by rw [hl, ← Nat.mul_one L.length]; exact e7) (by omega)
  have HL : Hid (ps.length = L.length) := hl
  rw [hl] at hD
  have HD := hidOf hD
  have H3 := hidOf h3
  have HP := hidOf hPk
  have HGP : Hid (g ≠ p) := hgp
  clear hD h3 hPk h5 e3 e7 hl h4 h6 e2 e6 hgp
  go_enter Tryz.func25, Tryz.ntmps25
  go_wp2_with fail
  refine Calls.mono HD.out ?_
  rintro e w1 ⟨rfl, ⟨cur', q1, q2, q3⟩, hg⟩
  have g3 : w1.heap[p]? = some (.cells #[.int .i64 most, .slice (some ⟨g, 0, none⟩) L.length cap] 69 (0, 0)) := (hg.block p hp (fun e => HGP.out (Option.some.inj e).symm)).trans H3.out
  have c1' : w1.cell? ⟨p, 1, none⟩ = some (.slice (some ⟨g, 0, none⟩) L.length cap) := by rw [cell_of_row w1 p 1 _ 69 (0, 0) g3]; rfl
  have f1' : w1.frozen? ⟨p, 1, none⟩ = false := by simp [World.frozen?, g3]
  have PK1 : Pks lo w1 p (some g) (ps.take k ++ ps.drop (k + 1)) (L.take k ++ L.drop (k + 1)) := (HP.out.kept hg.size (fun b hb _ hne => hg.block b hb (fun e => hne e.symm)) (fun _ _ x => x)).out k
  have hL' : (L.take k ++ L.drop (k + 1)).length = L.length - 1 := by simp; omega
  have FIN : Hid (NetR lo (w1.setCell ⟨p, 1, none⟩ (.slice (some ⟨g, 0, none⟩) (L.length - 1) cap)) p most (L.take k ++ L.drop (k + 1)) (some g) ∧ NS w (w1.setCell ⟨p, 1, none⟩ (.slice (some ⟨g, 0, none⟩) (L.length - 1) cap)) p (some g) (some g)) := by
    refine ⟨netR_set (v := .slice (some ⟨g, 0, none⟩) L.length cap) h1 (by omega) g3 ⟨?_, .inr ⟨g, cap, cur', by rw [hL'], Nat.zero_le _, q1, by omega, e5, by omega, ?_⟩⟩ (fun e => HGP.out (Option.some.inj e)) PK1, ⟨hg.os, hg.tape, hg.output, by simpa using hg.size, fun b hb hbp hne => ?_, .inl rfl⟩⟩
    · rw [hL']; have := HL.out; simp; omega
    · rw [hL', Nat.mul_one, ← q3]
    · exact (Below.heap_setCell w1 ⟨p, 1, none⟩ _ b hbp).trans (hg.block b hb hne)
  clear PK1 hg q1 q2 q3 hL' g3 H3 HP
  go_wp2
  go_end0
  exact ⟨rfl, FIN.out⟩

end Go.Proofs.YtcdoejdbmllnnabGreat

/- What add leaves: the packet stands last; where there are too many, the first is gone. -/
namespace Go.Proofs.YtcdoejdbmllnnabGreat
open Go.RowKit
variable {lo : Nat → Prop}

def cutM (most : Nat) (L : List (List UInt8)) : List (List UInt8) := L.drop (L.length - most)
def Pkt (lo : Nat → Prop) (w : World) (p : Nat) (r : Option Nat) (x : Pk) (b : List UInt8) : Prop :=
  x.2.1 = b.length ∧ x.2.1 ≤ x.2.2 ∧ Bs w x.1 b ∧ ∀ y, x.1 = some y → y.block ≠ p ∧ r ≠ some y.block ∧ y.block < w.heap.size ∧ T5 lo w y.block
theorem Pks.more {w : World} {p : Nat} {r : Option Nat} {ps : List Pk} {L : List (List UInt8)} {x : Pk} {b : List UInt8} (h : Pks lo w p r ps L) (hx : Pkt lo w p r x b) : Pks lo w p r (ps ++ [x]) (L ++ [b]) := by
  have hl := h.1
  refine ⟨by simp [hl], fun i a c => ?_⟩
  by_cases hi : i < ps.length
  · rw [List.getElem_append_left hi, List.getElem_append_left (by omega)]
    exact h.2 i hi (by omega)
  · have he : i = ps.length := by simp at a; omega
    subst he
    simp only [List.getElem_concat_length, hl]
    exact hx
theorem Pkt.kept {w w' : World} {p : Nat} {r : Option Nat} {x : Pk} {b : List UInt8} (h : Pkt lo w p r x b) (hs : w.heap.size ≤ w'.heap.size) (hb : ∀ k, k < w.heap.size → k ≠ p → r ≠ some k → w'.heap[k]? = w.heap[k]?) : Pkt lo w' p r x b := by
  obtain ⟨a1, a2, a3, a4⟩ := h
  refine ⟨a1, a2, ⟨a3.1, fun hne => ?_⟩, fun y hy => ⟨(a4 y hy).1, (a4 y hy).2.1, Nat.lt_of_lt_of_le (a4 y hy).2.2.1 hs, (a4 y hy).2.2.2.to (hb _ (a4 y hy).2.2.1 (a4 y hy).1 (a4 y hy).2.1)⟩⟩
  obtain ⟨b', off, e, hlt, hc⟩ := a3.2 hne
  have := a4 _ e
  exact ⟨b', off, e, Nat.lt_of_lt_of_le hlt hs, fun j hj => (World.cell?_of_block (a := ⟨b', off + j, none⟩) (hb b' hlt this.1 this.2.1)).trans (hc j hj)⟩
theorem NetR.drew {w : World} {p most : Nat} {L : List (List UInt8)} {r : Option Nat} (h : NetR lo w p most L r) : NetR lo w.drew p most L r := h.kept (fun _ _ => rfl) (Nat.le_refl _)
theorem NS.drew {w w' : World} {p : Nat} {r r' : Option Nat} (h : NS w w' p r r') : NS w w'.drew p r r' := ⟨h.os, h.tape, h.output, h.size, h.block, h.row⟩

/- what the append and the store behind it leave -/
theorem net_more {w w3 : World} {p most : Nat} {L : List (List UInt8)} {r : Option Nat} {x : Pk} {b : List UInt8} {v v3 : Value} {ps : List Pk} (h1 : most ≤ 256) (hL : L.length ≤ most)
    (h3 : w.heap[p]? = some (.cells #[.int .i64 most, v] 69 (0, 0))) (h4 : v.ownBlock = r) (h6 : r ≠ some p) (h7 : Pks lo w p r ps L) (hx : Pkt lo w p r x b)
    (ho : w3.ownsRow 0 32 1 v3 (L.length + 1) (ps.map encP ++ [encP x])) (hg : (w.alloc (.cells #[encP x] 32)).grownBy w3 v.ownBlock) (hr : v3.ownBlock = v.ownBlock ∨ v3.ownBlock = some (w.heap.size + 1)) :
    NetR lo (w3.setCell ⟨p, 1, none⟩ v3) p most (L ++ [b]) v3.ownBlock ∧ NS w (w3.setCell ⟨p, 1, none⟩ v3) p r v3.ownBlock := by
  have hp : p < w.heap.size := (Array.getElem?_eq_some_iff.1 h3).1
  have hs : w.heap.size + 1 ≤ w3.heap.size := by have := hg.size; rwa [World.size_alloc] at this
  have hb : ∀ k, k < w.heap.size → r ≠ some k → w3.heap[k]? = w.heap[k]? := fun k hk hne => (hg.block k (by rw [World.size_alloc]; omega) (by rw [h4]; exact fun e => hne e.symm)).trans (Below.heap_alloc w _ k hk)
  have hr' : ∀ k, k < w.heap.size → r ≠ some k → v3.ownBlock ≠ some k := by
    intro k hk hne e
    rcases hr with q | q
    · rw [q, h4] at e; exact hne e
    · rw [q] at e; have := Option.some.inj e; omega
  refine ⟨netR_set (ps := ps ++ [x]) (v := v) h1 (by simp; omega) ((hb p hp h6).trans h3) ?_ (hr' p hp h6) ?_, ⟨hg.os, hg.tape, hg.output, by simp; omega, fun k hk hkp hkr => ?_, ?_⟩⟩
  · simpa using ho
  · exact (h7.more hx).kept (by omega) (fun k hk _ hne => hb k hk hne) hr'
  · exact (Below.heap_setCell w3 ⟨p, 1, none⟩ _ k hkp).trans (hb k hk (fun e => hkr e.symm))
  · rcases hr with q | q
    · exact .inl (q.trans h4)
    · exact .inr ⟨_, q, by omega⟩

theorem cut_all (most : Nat) (L : List (List UInt8)) (h : L.length ≤ most) : cutM most L = L := by
  unfold cutM; rw [show L.length - most = 0 by omega]; rfl
theorem cut_one (most : Nat) (L : List (List UInt8)) (h : L.length = most + 1) : cutM most L = L.take 0 ++ L.drop (0 + 1) := by
  unfold cutM; rw [show L.length - most = 0 + 1 by omega]; rfl

set_option maxHeartbeats 800000 in
set_option maxRecDepth 100000 in
theorem add_any (p most : Nat) (L : List (List UInt8)) (r : Option Nat) (x : Pk) (b : List UInt8) (w : World) (h : NetR lo w p most L r) (hL : L.length ≤ most) (hx : Pkt lo w p r x b) :
    Calls Tryz.prog 22 #[.pointer (some ⟨p, 0, none⟩), encP x] w fun e w' => e = .returned (.tuple #[]) ∧ ∃ r', NetR lo w' p most (cutM most (L ++ [b])) r' ∧ NS w w' p r r' := by
  obtain ⟨h1, h2, v, ps, h3, h4, h5, h6, hPk⟩ := h
  obtain ⟨i0, hi0, hz0, hz1, hz2⟩ := info_parts info30
  have c1 : w.cell? ⟨p, 1, none⟩ = some v := by rw [cell_of_row w p 1 _ 69 (0, 0) h3]; rfl
  have hp : p < w.heap.size := (Array.getElem?_eq_some_iff.1 h3).1
  have H3 := hidOf h3
  have H4 := hidOf h4
  have H6 := hidOf h6
  have HP := hidOf hPk
  have HX := hidOf hx
  have H5 := hidOf h5
  have HI := hidOf hi0
  have HZ0 := hidOf hz0
  have HZ1 := hidOf hz1
  have HZ2 := hidOf hz2
  clear h3 h4 h6 hPk hx h5 hi0 hz0 hz1 hz2
  obtain ⟨pa, pn, pc⟩ := x
  have O1 : Hid (∀ u ∈ (#[.slice pa pn pc] : Array Value).toList, u.oneCell' = true) := by intro u hu; simp at hu; subst hu; rfl
  change Calls Tryz.prog 22 #[.pointer (some ⟨p, 0, none⟩), .slice pa pn pc] w _
  go_enter Tryz.func22, Tryz.ntmps22
  go_wp2_with (at_builtin; refine wpList_append_own2 _ rfl (.tmp 8) (.tmp 10) 59 rfl 0 32 i0 (.slice none 0 0) 1 24 Tryz.underlying59 HI.out HZ0.out HZ1.out HZ2.out rfl (by decide) _ _ _ rfl (H5.out.alloc _) ⟨w.heap.size, 0, none⟩ 1 1 (#[.slice pa pn pc] : Array Value).toList rfl rfl (fun j u hj => cell_news w _ _ j u hj) O1.out ?c3 ?c4 (Nat.zero_le _) ?next)
  case c3 => unfold maxLen; omega
  case c4 => omega
  case next =>
    intro v3 w3 ho3 hg3 hw3
    have FIN := hidOf (net_more (x := (pa, pn, pc)) h1 hL H3.out H4.out H6.out HP.out HX.out ho3 hg3 (by first | exact hw3 | (rw [World.size_alloc] at hw3; exact hw3)))
    have g3 : w3.heap[p]? = some (.cells #[.int .i64 most, v] 69 (0, 0)) := ((hg3.block p (by rw [World.size_alloc]; omega) (by rw [H4.out]; exact fun e => H6.out e.symm)).trans (Below.heap_alloc w _ p hp)).trans H3.out
    have c1' : w3.cell? ⟨p, 1, none⟩ = some v := by rw [cell_of_row w3 p 1 _ 69 (0, 0) g3]; rfl
    have c0' : w3.cell? ⟨p, 0, none⟩ = some (.int .i64 most) := by rw [cell_of_row w3 p 0 _ 69 (0, 0) g3]; rfl
    have f1' : w3.frozen? ⟨p, 1, none⟩ = false := by simp [World.frozen?, g3]
    have hp3 : p < w3.heap.size := (Array.getElem?_eq_some_iff.1 g3).1
    obtain ⟨g, cap, hv3, hcap⟩ : ∃ g cap, v3 = .slice (some ⟨g, 0, none⟩) (L.length + 1) cap ∧ L.length + 1 ≤ cap ∧ cap ≤ maxLen := by
      rcases ho3.2 with ⟨e, _⟩ | ⟨g, cap, cur, e1, e2, e3, e4, e5, _⟩
      · omega
      · exact ⟨g, cap, e1, e4, e5⟩
    subst hv3
    clear ho3 hg3 hw3 g3 H3 H4 H6 HP HX H5 HI HZ0 HZ1 HZ2 O1
    by_cases hm0 : most < L.length + 1
    · have HC := hidOf (cut_one most (L ++ [b]) (by simp; omega))
      have hm1 : ((L.length : Int) + 1 > most) := by omega
      have HL1 : Hid (0 < (L ++ [b]).length) := by show 0 < _; simp
      clear hL hm0
      go_wp2
      go_region
      go_wp2_with fail
      refine (remove_any p most (L ++ [b]) _ 0 _ FIN.out.1.drew HL1.out).mono ?_
      rintro e w4 ⟨rfl, hn4, hs4⟩
      rw [← HC.out] at hn4
      have HE := hidOf (show NetR lo w4 p most (cutM most (L ++ [b])) (some g) ∧ NS w w4 p r (some g) from ⟨hn4, FIN.out.2.drew.trans hs4⟩)
      clear hn4 hs4
      go_wp2
      go_end0
      exact ⟨rfl, _, HE.out⟩
    · have HC := hidOf (cut_all most (L ++ [b]) (by simp; omega))
      have hm2 : ¬ ((L.length : Int) + 1 > most) := by omega
      clear hL hm0
      go_wp2
      go_region
      go_wp2
      go_end0
      rw [HC.out]
      exact ⟨rfl, _, FIN.out.1.drew, FIN.out.2.drew⟩

end Go.Proofs.YtcdoejdbmllnnabGreat

/- Send and Lose: what a message that may be written leaves, and one that may not; a packet lost. -/
namespace Go.Proofs.YtcdoejdbmllnnabGreat
open Go.RowKit
variable {lo : Nat → Prop}

theorem NetR.plt {w : World} {p most : Nat} {L : List (List UInt8)} {r : Option Nat} (h : NetR lo w p most L r) : p < w.heap.size := h.cells.1
theorem NetR.rlt {w : World} {p most : Nat} {L : List (List UInt8)} {r : Option Nat} (h : NetR lo w p most L r) : ∀ k, r = some k → k < w.heap.size := by
  obtain ⟨h1, h2, v, ps, h3, h4, h5, h6, h7⟩ := h
  intro k hk
  rcases h5.2 with ⟨e, _⟩ | ⟨g, cap, cur, e1, e2, e3, _⟩
  · rw [e] at h4; rw [hk] at h4; cases h4
  · rw [e1] at h4; rw [hk] at h4; cases h4; exact (Array.getElem?_eq_some_iff.1 e3).1
theorem own_pkt {w : World} {v : Value} {l : List UInt8} {p : Nat} {r : Option Nat} (h : Own w v l) (hl : l.length ≤ 211106232532992) (hb : ∀ k, v.ownBlock = some k → k ≠ p ∧ r ≠ some k ∧ lo k) : ∃ x : Pk, v = encP x ∧ Pkt lo w p r x l := by
  obtain ⟨a', cap', e', hbs⟩ := h.form
  have hlt := h.lt
  rcases h with ⟨e, rfl⟩ | ⟨g, cap, cur, e, hg, hc, hm, hcs, ht⟩
  · subst e
    cases e'
    exact ⟨(none, 0, 0), rfl, rfl, Nat.le_refl _, hbs hl, fun y hy => by cases hy⟩
  · subst e
    cases e'
    exact ⟨(some ⟨g, 0, none⟩, l.length, _), rfl, rfl, hc, hbs hl, fun y hy => by cases hy; exact ⟨(hb g rfl).1, (hb g rfl).2.1, hlt g rfl, ⟨cur, hg⟩, (hb g rfl).2.2⟩⟩
theorem mxl_msg : mx F_msg ≤ 211106232532992 := Nat.le_of_ble_eq_true (by kernel_rfl)
theorem box_msg : (Tryz.prog.info? 50).map (·.size) = some (wd F_msg) := by kernel_rfl

set_option maxHeartbeats 800000 in
set_option maxRecDepth 100000 in
theorem send_no (p most : Nat) (L : List (List UInt8)) (r : Option Nat) (cs : List Value) (v : Vl F_msg) (w : World) (h : NetR lo w p most L r) (hr : Rep w (fun b => b < w.heap.size) F_msg cs v) (hv : (en F_msg v).2 = true) :
    Calls Tryz.prog 8 #[.pointer (some ⟨p, 0, none⟩), .agg cs.toArray] w fun e w' => e = .returned (.int .i64 1) ∧ NetR lo w' p most L r ∧ Below w.heap.size w w' := by
  have hsz : Hid ((Tryz.prog.info? 50).map (·.size) = some cs.toArray.size) := by show _ = _; rw [List.size_toArray, hr.len]; exact box_msg
  have hB0 : Below w.heap.size w (w.alloc (.cells cs.toArray 50)) := (Below.refl _ _).alloc (Nat.le_refl _) _
  have HR : Hid (Rep (w.alloc (.cells cs.toArray 50)) (fun b => b < (w.alloc (.cells cs.toArray 50)).heap.size) F_msg cs v) := hr.kept hB0.size (fun b hb => hB0.block b hb) (fun b x => Nat.lt_of_lt_of_le x hB0.size)
  have HN := hidOf h
  have HV := hidOf hv
  have HB0 := hidOf hB0
  clear h hr hv hB0
  go_enter Tryz.func8, Tryz.ntmps8
  go_wp2_with (refine wpList_load_row rfl 50 (.tmp 3) rfl w.heap.size rfl 50 cs.toArray (0, 0) _ (heap_alloc_new w _) Tryz.underlying50 rfl hsz.out ?_)
  refine (putMsg_w cs v _ HR.out).mono ?_
  rintro e w1 ⟨val, rfl, hO, hN0, hB1⟩
  have hB : Below w.heap.size w w1 := HB0.out.trans (hB1.mono HB0.out.size)
  have HF := hidOf (HN.out.grow hB)
  rw [show codeB (en F_msg v).2 = 1 by rw [HV.out]; rfl]
  clear hO hN0 hB1 HB0 HR
  go_wp2
  go_ret
  exact ⟨rfl, HF.out, hB⟩

set_option maxHeartbeats 800000 in
set_option maxRecDepth 100000 in
theorem send_ok (p most : Nat) (L : List (List UInt8)) (r : Option Nat) (cs : List Value) (v : Vl F_msg) (w : World) (h : NetR lo w p most L r) (hL : L.length ≤ most) (hlo : ∀ b, w.heap.size ≤ b → lo b) (hr : Rep w (fun b => b < w.heap.size) F_msg cs v) (hv : (en F_msg v).2 = false) :
    Calls Tryz.prog 8 #[.pointer (some ⟨p, 0, none⟩), .agg cs.toArray] w fun e w' => e = .returned (.int .i64 0) ∧ ∃ r', NetR lo w' p most (cutM most (L ++ [(en F_msg v).1])) r' ∧ NS w w' p r r' := by
  have hsz : Hid ((Tryz.prog.info? 50).map (·.size) = some cs.toArray.size) := by show _ = _; rw [List.size_toArray, hr.len]; exact box_msg
  have hB0 : Below w.heap.size w (w.alloc (.cells cs.toArray 50)) := (Below.refl _ _).alloc (Nat.le_refl _) _
  have HR : Hid (Rep (w.alloc (.cells cs.toArray 50)) (fun b => b < (w.alloc (.cells cs.toArray 50)).heap.size) F_msg cs v) := hr.kept hB0.size (fun b hb => hB0.block b hb) (fun b x => Nat.lt_of_lt_of_le x hB0.size)
  have HN := hidOf h
  have HV := hidOf hv
  have HB0 := hidOf hB0
  clear h hr hv hB0
  go_enter Tryz.func8, Tryz.ntmps8
  go_wp2_with (refine wpList_load_row rfl 50 (.tmp 3) rfl w.heap.size rfl 50 cs.toArray (0, 0) _ (heap_alloc_new w _) Tryz.underlying50 rfl hsz.out ?_)
  refine (putMsg_w cs v _ HR.out).mono ?_
  rintro e w1 ⟨val, rfl, hO, hN0, hB1⟩
  have hB : Below w.heap.size w w1 := HB0.out.trans (hB1.mono HB0.out.size)
  have HF := hidOf (HN.out.grow hB)
  have hby : bytesB (en F_msg v) = (en F_msg v).1 := by unfold bytesB; rw [HV.out]; rfl
  rw [hby] at hO
  have hl : (en F_msg v).1.length ≤ 211106232532992 := Nat.le_trans (en_len F_msg v) mxl_msg
  obtain ⟨x, rfl, hx⟩ := own_pkt (lo := lo) (p := p) (r := r) hO hl (fun k hk => by
    have h1 := hN0 k hk
    rw [World.size_alloc] at h1
    have h2 := HN.out.plt
    exact ⟨by omega, fun e => by have := HN.out.rlt k e; omega, hlo k (by omega)⟩)
  have HX := hidOf hx
  have HBB := hidOf hB
  rw [show codeB (en F_msg v).2 = 0 by rw [HV.out]; rfl]
  clear hO hN0 hB1 HB0 HR hx hl hby hB
  go_wp2_with fail
  refine (add_any p most L r x _ w1 HF.out hL HX.out).mono ?_
  rintro e w2 ⟨rfl, r', hn2, hs2⟩
  have HE := hidOf (show NetR lo w2 p most (cutM most (L ++ [(en F_msg v).1])) r' ∧ NS w w2 p r r' from ⟨hn2, (NS.of_below HBB.out).trans hs2⟩)
  clear hn2 hs2 HX
  go_wp2
  go_ret
  exact ⟨rfl, r', HE.out⟩

set_option maxHeartbeats 400000 in
theorem lose_no (p most : Nat) (L : List (List UInt8)) (r : Option Nat) (k : Int) (w : World) (h : NetR lo w p most L r) (hk : hasB L k = false) : Calls Tryz.prog 13 #[.pointer (some ⟨p, 0, none⟩), .int .i64 k] w fun e w' => e = .returned (.bool false) ∧ w' = w := by
  have H := hidOf h
  have HK := hidOf hk
  clear h hk
  go_enter Tryz.func13, Tryz.ntmps13
  go_wp2_with fail
  refine (has_any p most L r k w H.out).mono ?_
  rintro e w1 ⟨rfl, hw⟩
  subst hw
  rw [HK.out]
  go_wp2
  go_ret
  exact ⟨rfl, rfl⟩
theorem has_in (L : List (List UInt8)) (k : Nat) (h : k < L.length) : hasB L (k : Int) = true := by simp [hasB]; omega
set_option maxHeartbeats 400000 in
theorem lose_ok (p most : Nat) (L : List (List UInt8)) (r : Option Nat) (k : Nat) (w : World) (h : NetR lo w p most L r) (hk : k < L.length) : Calls Tryz.prog 13 #[.pointer (some ⟨p, 0, none⟩), .int .i64 (k : Int)] w fun e w' => e = .returned (.bool true) ∧ NetR lo w' p most (L.take k ++ L.drop (k + 1)) r ∧ NS w w' p r r := by
  have H := hidOf h
  have HK := hidOf hk
  have HH := hidOf (has_in L k hk)
  clear h hk
  go_enter Tryz.func13, Tryz.ntmps13
  go_wp2_with fail
  refine (has_any p most L r k w H.out).mono ?_
  rintro e w1 ⟨rfl, hw⟩
  subst hw
  rw [HH.out]
  go_wp2_with fail
  refine (remove_any p most L r k _ H.out HK.out).mono ?_
  rintro e w2 ⟨rfl, hn2⟩
  have HE := hidOf hn2
  clear hn2
  go_wp2
  go_ret
  exact ⟨rfl, HE.out⟩

end Go.Proofs.YtcdoejdbmllnnabGreat

/- Copy and Deliver: a packet doubled; a packet taken out, and the message that it is. -/
namespace Go.Proofs.YtcdoejdbmllnnabGreat
open Go.RowKit
variable {lo : Nat → Prop}

theorem NetR.get {w : World} {p most : Nat} {L : List (List UInt8)} {r : Option Nat} (h : NetR lo w p most L r) (k : Nat) (l : List UInt8) (hk : L[k]? = some l) :
    ∃ g cap x, w.cell? ⟨p, 1, none⟩ = some (.slice (some ⟨g, 0, none⟩) L.length cap) ∧ L.length ≤ cap ∧ cap ≤ maxLen ∧ w.cell? ⟨g, k, none⟩ = some (encP x) ∧ Pkt lo w p r x l := by
  obtain ⟨h1, h2, v, ps, h3, h4, h5, h6, h7⟩ := h
  obtain ⟨hkl, hke⟩ := List.getElem?_eq_some_iff.1 hk
  rcases h5.2 with ⟨_, e⟩ | ⟨g, cap, cur, e1, e2, e3, e4, e5, e6, e7⟩
  · omega
  · subst e1
    have hkp : k < ps.length := by have := h7.1; omega
    refine ⟨g, cap, ps[k], ?_, e4, e5, ?_, ?_⟩
    · rw [cell_of_row w p 1 _ 69 (0, 0) h3]; rfl
    · rw [cell_of_row w g k cur 32 (0, 0) e3]
      have h8 : (cur.toList.take (L.length * 1))[k]? = (ps.map encP)[k]? := by rw [e7]
      rw [List.getElem?_take, if_pos (by omega), List.getElem?_map, List.getElem?_eq_getElem hkp] at h8
      simpa using h8
    · have := h7.2 k hkp hkl
      rw [hke] at this
      exact this
/- a block that is not of bytes may be written: the net is as it was -/
theorem NetR.kept1 {w w' : World} {p most q : Nat} {L : List (List UInt8)} {r : Option Nat} {cs : Array Value} {t : TypeId} {fr : Nat × Nat} (h : NetR lo w p most L r) (hq : w.heap[q]? = some (.cells cs t fr)) (ht : t ≠ 5) (hp : p ≠ q) (hr : r ≠ some q)
    (hb : ∀ k, k < w.heap.size → k ≠ q → w'.heap[k]? = w.heap[k]?) (hs : w.heap.size ≤ w'.heap.size) : NetR lo w' p most L r := by
  obtain ⟨h1, h2, v, ps, h3, h4, h5, h6, h7, h8⟩ := h
  refine ⟨h1, h2, v, ps, (hb p (Array.getElem?_eq_some_iff.1 h3).1 hp).trans h3, h4, ⟨h5.1, ?_⟩, h6, h7, fun i a b => ?_⟩
  · rcases h5.2 with e | ⟨g, cap, cur, e1, e2, e3, e4⟩
    · exact .inl e
    · refine .inr ⟨g, cap, cur, e1, e2, (hb g (Array.getElem?_eq_some_iff.1 e3).1 ?_).trans e3, e4⟩
      intro e; subst e; apply hr; rw [← h4, e1]; rfl
  · obtain ⟨a1, a2, a3, a4⟩ := h8 i a b
    have hne5 : ∀ b', T5 lo w b' → b' ≠ q := by
      rintro b' ⟨⟨c, hc⟩, _⟩ e2
      subst e2
      rw [hq] at hc
      cases hc
      exact ht rfl
    refine ⟨a1, a2, ⟨a3.1, fun hne => ?_⟩, fun y hy => ⟨(a4 y hy).1, (a4 y hy).2.1, Nat.lt_of_lt_of_le (a4 y hy).2.2.1 hs, (a4 y hy).2.2.2.to (hb _ (a4 y hy).2.2.1 (hne5 _ (a4 y hy).2.2.2))⟩⟩
    obtain ⟨b', off, e, hlt, hcl⟩ := a3.2 hne
    have hbq : b' ≠ q := hne5 b' (a4 _ e).2.2.2
    exact ⟨b', off, e, Nat.lt_of_lt_of_le hlt hs, fun j hj => (World.cell?_of_block (a := ⟨b', off + j, none⟩) (hb b' hlt hbq)).trans (hcl j hj)⟩
/- a block of another kind is neither the net nor its row -/
theorem NetR.apart {w : World} {p most q : Nat} {L : List (List UInt8)} {r : Option Nat} {cs : Array Value} {t : TypeId} {fr : Nat × Nat} (h : NetR lo w p most L r) (hq : w.heap[q]? = some (.cells cs t fr)) (h60 : t ≠ 69) (h30 : t ≠ 32) : q ≠ p ∧ some q ≠ r := by
  obtain ⟨h1, h2, v, ps, h3, h4, h5, h6, h7, h8⟩ := h
  constructor
  · intro e; subst e; rw [hq] at h3; cases h3; exact h60 rfl
  · intro e
    rcases h5.2 with ⟨e1, _⟩ | ⟨g, cap, cur, e1, e2, e3, e4⟩
    · rw [e1] at h4; rw [← e] at h4; cases h4
    · rw [e1, ← e] at h4; cases h4; rw [hq] at e3; cases e3; exact h30 rfl

set_option maxHeartbeats 800000 in
set_option maxRecDepth 100000 in
theorem copy_ok (p most : Nat) (L : List (List UInt8)) (r : Option Nat) (k : Nat) (l : List UInt8) (w : World) (h : NetR lo w p most L r) (hL : L.length ≤ most) (hkl : L[k]? = some l) :
    Calls Tryz.prog 15 #[.pointer (some ⟨p, 0, none⟩), .int .i64 (k : Int)] w fun e w' => e = .returned (.bool true) ∧ ∃ r', NetR lo w' p most (cutM most (L ++ [l])) r' ∧ NS w w' p r r' := by
  obtain ⟨hk, _⟩ := List.getElem?_eq_some_iff.1 hkl
  obtain ⟨g, cap, x, c1, q1, q2, c2, hx⟩ := h.get k l hkl
  obtain ⟨pa, pn, pc⟩ := x
  have c2' : w.cell? ⟨g, k, none⟩ = some (.slice pa pn pc) := c2
  have h2 : most ≤ 256 := h.1
  have H := hidOf h
  have HX := hidOf hx
  have HH := hidOf (has_in L k hk)
  clear h hx c2 hkl
  go_enter Tryz.func15, Tryz.ntmps15
  go_wp2_with fail
  refine (has_any p most L r k w H.out).mono ?_
  rintro e w1 ⟨rfl, hw⟩
  subst hw
  rw [HH.out]
  go_wp2_with fail
  refine (add_any p most L r (pa, pn, pc) l _ H.out hL HX.out).mono ?_
  rintro e w2 ⟨rfl, hn2⟩
  have HE := hidOf hn2
  clear hn2
  go_wp2
  go_ret
  exact ⟨rfl, HE.out⟩

set_option maxHeartbeats 800000 in
set_option maxRecDepth 100000 in
theorem deliver_ok (p most : Nat) (L : List (List UInt8)) (r : Option Nat) (k : Nat) (l : List UInt8) (w : World) (h : NetR lo w p most L r) (hkl : L[k]? = some l) :
    Calls Tryz.prog 10 #[.pointer (some ⟨p, 0, none⟩), .int .i64 (k : Int)] w fun e w' => ∃ (cs : List Value) (v : Vl F_msg), e = .returned (.tuple #[.agg cs.toArray, .bool (decide ((de F_msg (some l)).2 = some []))]) ∧ Rep w' (NB w w') F_msg cs v ∧
      ((de F_msg (some l)).2 = some [] → v = (de F_msg (some l)).1) ∧ NetR lo w' p most (L.take k ++ L.drop (k + 1)) r ∧ NS w w' p r r := by
  obtain ⟨hk, _⟩ := List.getElem?_eq_some_iff.1 hkl
  have hB0 : Below w.heap.size w (w.alloc (.cells Zr_msg 50)) := (Below.refl _ _).alloc (Nat.le_refl _) _
  have h0 : NetR lo (w.alloc (.cells Zr_msg 50)) p most L r := h.grow hB0
  obtain ⟨g, cap, x, c1, q1, q2, c2, hx⟩ := h0.get k l hkl
  obtain ⟨pa, pn, pc⟩ := x
  have c2' : (w.alloc (.cells Zr_msg 50)).cell? ⟨g, k, none⟩ = some (.slice pa pn pc) := c2
  have g0 : Hid ((w.alloc (.cells Zr_msg 50)).heap[w.heap.size]? = some (.cells Zr_msg 50 (0, 0))) := heap_alloc_new w _
  have h2 : L.length ≤ 257 := h.2.1
  have HP := hidOf h.plt
  have HRL := hidOf h.rlt
  have H := hidOf h0
  have HX := hidOf hx
  have HH := hidOf (has_in L k hk)
  have HK := hidOf hk
  have HB0 := hidOf hB0
  clear h hx c2 hkl h0 hB0
  go_enter Tryz.func10, Tryz.ntmps10
  go_wp2_with fail
  refine (has_any p most L r k _ H.out).mono ?_
  rintro e w1 ⟨rfl, hw⟩
  subst hw
  rw [HH.out]
  go_wp2_with fail
  refine (remove_any p most L r k _ H.out HK.out).mono ?_
  rintro e w2 ⟨rfl, hn2, hs2⟩
  have hsz1 : w.heap.size < (w.alloc (.cells Zr_msg 50)).heap.size := by rw [World.size_alloc]; omega
  have hsz2 : w.heap.size < w2.heap.size := Nat.lt_of_lt_of_le hsz1 hs2.size
  have hne1 : w.heap.size ≠ p := by have := HP.out; omega
  have hne2 : some w.heap.size ≠ r := fun e => by have := HRL.out _ e.symm; omega
  have g2 : w2.heap[w.heap.size]? = some (.cells Zr_msg 50 (0, 0)) := (hs2.block _ hsz1 hne1 hne2).trans g0.out
  have hx2 : Pkt lo w2 p r (pa, pn, pc) l := HX.out.kept hs2.size (fun k hk hp hr => hs2.block k hk hp (fun e => hr e.symm))
  have HX2 := hidOf hx2
  have HN2 := hidOf hn2
  have HS2 := hidOf hs2
  have HG2 := hidOf g2
  have HNE1 := hidOf hne1
  have HNE2 := hidOf hne2
  have HSZ2 := hidOf hsz2
  clear hn2 hs2 hx2 g2 hne1 hne2 hsz1 hsz2 g0 HX H
  go_wp2_with fail
  refine (getv_msg pa pn pc l w2 HX2.out.1 HX2.out.2.1 HX2.out.2.2.1 (fun y hy => (HX2.out.2.2.2 y hy).2.2.1)).mono ?_
  rintro e w3 ⟨cl, vv, he, hrep, hval, hB3⟩
  have hcs : cl.toArray.size = Zr_msg.size := by rw [List.size_toArray, hrep.len]; kernel_rfl
  have HRE : Hid (Rep w3 (NBr (w.heap.size + 1) w3) F_msg cl vv) := hrep.keptN (Nat.le_refl _) (fun _ _ _ => rfl) HSZ2.out
  have HVAL := hidOf hval
  have HCO : Hid (cl.toArray.all (·.oneCell') = true) := hrep.all
  have HN3 := hidOf (HN2.out.grow hB3)
  have HG3 := hidOf ((hB3.block _ HSZ2.out).trans HG2.out)
  have HNS3 := hidOf (((NS.of_below (p := p) (r := r) HB0.out).trans HS2.out).trans (NS.of_below hB3))
  have HSZ3 := hidOf (Nat.lt_of_lt_of_le HSZ2.out hB3.size)
  obtain ⟨cs, hcl⟩ : ∃ cs, Hid (cl.toArray = cs) := ⟨_, rfl⟩
  rw [hcl.out] at he hcs HCO
  have HCS := hidOf hcs
  have HCI : Hid ((Tryz.prog.info? 50).map (·.size) = some cs.size) := by show _ = _; rw [hcs]; exact Zr_msg_i
  obtain ⟨okb, hokb⟩ : ∃ okb, Hid (decide ((de F_msg (some l)).2 = some []) = okb) := ⟨_, rfl⟩
  rw [hokb.out] at he
  subst he
  clear hrep hval hcs hB3 HN2 HS2 HG2 HX2 HB0
  go_wp2_with (refine wpList_store_rowF rfl 50 (.tmp 4) (.tmp 24) rfl w.heap.size cs rfl rfl 50 Zr_msg HG3.out HCI.out HCS.out.symm HCO.out ?next)
  case next =>
    intro w4 hw4h
    have hw4 := hw4h.out
    have blk4 : ∀ b, b ≠ w.heap.size → w4.heap[b]? = w3.heap[b]? := fun b hb => by rw [hw4]; exact setRow_other _ _ _ _ hb
    have hsz4 : w4.heap.size = w3.heap.size := by rw [hw4]; simp [World.setRow]
    have g4 : Hid (w4.heap[w.heap.size]? = some (.cells cs 50 (0, 0))) := by
      show _ = _
      rw [hw4]; exact setRow_heap _ _ _ _ 50 _ HG3.out
    have os4 : w4.os = w3.os := by rw [hw4]; rfl
    have tp4 : w4.tape = w3.tape := by rw [hw4]; rfl
    have ou4 : w4.output = w3.output := by rw [hw4]; rfl
    have HRE4 : Hid (Rep w4 (NB w w4) F_msg cl vv) := HRE.out.keptN (by omega) (fun b h1 h2 => blk4 b (by omega)) (Nat.le_succ _)
    have HN4 := hidOf (HN3.out.kept1 (w' := w4) HG3.out (by decide) (fun e => HNE1.out e.symm) (fun e => HNE2.out e.symm) (fun k _ hk => blk4 k hk) (by omega))
    have hns := HNS3.out
    have HNS4 : Hid (NS w w4 p r r) := ⟨os4.trans hns.os, tp4.trans hns.tape, ou4.trans hns.output, by rw [hsz4]; exact hns.size, fun b hb hp hr => (blk4 b (by omega)).trans (hns.block b hb hp hr), .inl rfl⟩
    clear hw4 hw4h hns blk4 hsz4 os4 tp4 ou4
    go_wp2
    refine bodyPost_ret (v := .tuple #[.agg cs, .bool okb]) ?_ rfl ⟨cl, vv, by rw [hokb.out, hcl.out], HRE4.out, HVAL.out, HN4.out, HNS4.out⟩
    simp [results, Tryz.results10, asAddr, run_loadVar_row w4 w.heap.size 50 50 cs (0, 0) _ g4.out Tryz.underlying50 rfl HCI.out]

end Go.Proofs.YtcdoejdbmllnnabGreat

/- The law's own example: a message is sent, doubled, delivered; what it answers. And the number Ctx of a message in its cells. -/
namespace Go.Proofs.YtcdoejdbmllnnabGreat
open Go.RowKit
variable {lo : Nat → Prop}

def ctxOf (v : Vl F_msg) : Int := v.2.2.2.2.2.2.2.2.1
def toOf (v : Vl F_msg) : Int := v.2.2.1
def withCtx (v : Vl F_msg) (n : Int) : Vl F_msg := (v.1, v.2.1, v.2.2.1, v.2.2.2.1, v.2.2.2.2.1, v.2.2.2.2.2.1, v.2.2.2.2.2.2.1, v.2.2.2.2.2.2.2.1, n, v.2.2.2.2.2.2.2.2.2)
theorem ctx_with (v : Vl F_msg) (n : Int) : ctxOf (withCtx v n) = n := rfl
theorem ctx_cells {w : World} {S : Nat → Prop} {cs : List Value} {v : Vl F_msg} (h : Rep w S F_msg cs v) :
    cs[2]? = some (.int .i64 (toOf v)) ∧ cs[8]? = some (.int .i64 (ctxOf v)) ∧ ∀ n, Rep w S F_msg (cs.set 8 (.int .i64 n)) (withCtx v n) := by
  obtain ⟨_, _, rfl, r0, _, _, rfl, r1, _, _, rfl, r2, _, _, rfl, r3, _, _, rfl, r4, _, _, rfl, r5, _, _, rfl, r6, _, _, rfl, r7, _, t, rfl, r8, rest⟩ := h
  simp only [Rep] at r0 r1 r2 r3 r4 r5 r6 r7 r8
  subst r0 r1 r2 r3 r4 r5 r6 r7 r8
  refine ⟨rfl, rfl, fun n => ⟨_, _, rfl, rfl, _, _, rfl, rfl, _, _, rfl, rfl, _, _, rfl, rfl, _, _, rfl, rfl, _, _, rfl, rfl, _, _, rfl, rfl, _, _, rfl, rfl, [.int .i64 n], t, rfl, rfl, rest⟩⟩

def Km : List Value := [.int .i64 1, .int .i64 0, .int .i64 2, .int .i64 0, .int .i64 0, .int .i64 0, .int .i64 0, .bool false, .int .i64 0, .int .i64 0, .int .i64 0, .int .i64 0, .slice none 0 0, .slice none 0 0, .slice none 0 0, .slice none 0 0, .int .i64 0, .int .i64 0, .int .i64 0, .int .i64 0, .int .i64 0, .int .i64 0, .int .i64 0, .slice none 0 0, .int .i64 0, .bool false, .int .i64 0, .int .i64 0, .int .i64 0, .bool false, .bool false, .int .i64 0, .int .i64 0, .int .i64 0, .slice none 0 0, .int .i64 0, .int .i64 0, .int .i64 0, .slice none 0 0, .slice none 0 0, .bool false, .slice none 0 0, .slice none 0 0, .int .i64 0, .int .i64 0, .slice none 0 0]
def Kv : Vl F_msg := (1, 0, 2, 0, 0, 0, 0, false, 0, 0, 0, 0, [], Zv_conf, [], Zv_cmd, Zv_result)
theorem km_rep (w : World) (S : Nat → Prop) : Rep w S F_msg Km Kv := mk_msg 1 0 2 0 0 0 0 false 0 0 0 0 none 0 [] (.slice none 0 0) (.slice none 0 0) Zv_conf none 0 [] (.int .i64 0) (.int .i64 0) (.int .i64 0) (.int .i64 0) (.int .i64 0) (.int .i64 0) (.int .i64 0) (.slice none 0 0) (.int .i64 0) (.bool false) (.int .i64 0) (.int .i64 0) (.int .i64 0) (.bool false) (.bool false) (.int .i64 0) (.int .i64 0) (.int .i64 0) (.slice none 0 0) (.int .i64 0) (.int .i64 0) (.int .i64 0) (.slice none 0 0) (.slice none 0 0) (.bool false) (.slice none 0 0) (.slice none 0 0) Zv_cmd (.int .i64 0) (.int .i64 0) (.slice none 0 0) Zv_result ⟨by simp, fun h => absurd rfl h⟩ (rz_conf w S) ⟨Nat.le_refl _, ⟨by simp, fun h => absurd rfl h⟩, fun h => absurd rfl h⟩ (rz_cmd w S) (rz_result w S)
theorem kv_ok : (en F_msg Kv).2 = false := by kernel_rfl
theorem kv_to : toOf Kv = 2 := rfl

set_option maxHeartbeats 1600000 in
set_option maxRecDepth 100000 in
theorem known_any (w : World) : Calls Tryz.prog 7 #[] w fun e w' => e = .returned (.bool true) ∧ Below w.heap.size w w' := by
  have hB1 : Below w.heap.size w (w.alloc (.cells #[.int .i64 2, .slice none 0 0] 69)) := (Below.refl _ _).alloc (Nat.le_refl _) _
  have HB1 := hidOf hB1
  have HN1 := hidOf (netR_new (lo := fun _ => True) w 2 (by omega))
  obtain ⟨b, hb⟩ : ∃ b, Hid ((en F_msg Kv).1 = b) := ⟨_, rfl⟩
  have HD : Hid ((de F_msg (some b)).2 = some [] ∧ (de F_msg (some b)).1 = Kv) := by
    have h := de_en F_msg Kv [] kv_ok
    rw [List.append_nil, hb.out] at h
    show _ ∧ _
    rw [h]; exact ⟨rfl, rfl⟩
  clear hB1
  go_enter Tryz.func7, Tryz.ntmps7
  go_wp2_with fail
  refine (new_ok 2 w (by omega) (by omega)).mono ?_
  rintro e w1 ⟨rfl, rfl⟩
  go_wp2_with fail
  refine (send_ok w.heap.size 2 [] none Km Kv _ HN1.out (by simp) (fun _ _ => trivial) (km_rep _ _) kv_ok).mono ?_
  rintro e w2 ⟨rfl, r2, hn2, hs2⟩
  rw [hb.out, List.nil_append, cut_all 2 [b] (by simp)] at hn2
  have HN2 := hidOf hn2
  have HS2 := hidOf hs2
  clear hn2 hs2
  go_wp2_with fail
  refine (copy_ok w.heap.size 2 [b] r2 0 b _ HN2.out (by simp) rfl).mono ?_
  rintro e w3 ⟨rfl, r3, hn3, hs3⟩
  rw [cut_all 2 ([b] ++ [b]) (by simp)] at hn3
  have HN3 := hidOf hn3
  have HS3 := hidOf (HS2.out.trans hs3)
  clear hn3 hs3 HN2 HS2
  go_wp2_with fail
  refine (deliver_ok w.heap.size 2 ([b] ++ [b]) r3 1 b _ HN3.out rfl).mono ?_
  rintro e w4 ⟨cl, vv, he, hrep, hval, hn4, hs4⟩
  have hv : vv = Kv := (hval HD.out.1).trans HD.out.2
  subst hv
  rw [show ([b] ++ [b]).take 1 ++ ([b] ++ [b]).drop (1 + 1) = [b] from rfl] at hn4
  have hcs : cl.toArray.size = Zr_msg.size := by rw [List.size_toArray, hrep.len]; kernel_rfl
  have hco : cl.toArray.all (·.oneCell') = true := hrep.all
  have hto : cl.toArray[2]? = some (.int .i64 2) := by rw [List.getElem?_toArray, (ctx_cells hrep).1, kv_to]
  rw [show decide ((de F_msg (some b)).2 = some []) = true from by simp [HD.out.1]] at he
  obtain ⟨cs, hcl⟩ : ∃ cs, cl.toArray = cs := ⟨_, rfl⟩
  rw [hcl] at he hcs hco hto
  subst he
  have HCS := hidOf hcs
  have HCO := hidOf hco
  have HTO := hidOf hto
  have HCI : Hid ((Tryz.prog.info? 50).map (·.size) = some cs.size) := by show _ = _; rw [hcs]; exact Zr_msg_i
  have HN4 := hidOf hn4
  have HS4 := hidOf (HS3.out.trans hs4)
  clear hn4 hs4 HN3 HS3 hrep hval hcl hcs hco hto
  go_wp2_with (refine wpList_store_rowF rfl 50 (.tmp 4) (.tmp 17) rfl w4.heap.size cs rfl rfl 50 Zr_msg (heap_alloc_new w4 (.cells Zr_msg 50)) HCI.out HCS.out.symm HCO.out ?next)
  case next =>
    intro w5 hw5h
    have hw5 := hw5h.out
    have hB5 : Below w4.heap.size w4 w5 := by rw [hw5]; exact ((Below.refl _ _).alloc (Nat.le_refl _) _).trans ⟨rfl, rfl, rfl, by simp [World.setRow], fun k hk => setRow_other _ _ _ _ (by omega)⟩
    have g5 : w5.heap[w4.heap.size]? = some (.cells cs 50 (0, 0)) := by rw [hw5]; exact setRow_heap _ _ _ _ 50 _ (heap_alloc_new w4 _)
    have c5 : w5.cell? ⟨w4.heap.size, 2, none⟩ = some (.int .i64 2) := by rw [cell_of_row w5 _ 2 _ 50 (0, 0) g5]; exact HTO.out
    have HN5 := hidOf (HN4.out.grow hB5)
    have HS5 := hidOf (HS4.out.trans (NS.of_below hB5))
    clear hw5 hw5h hB5 g5 HN4 HS4
    go_wp2_with fail
    refine (len_any w.heap.size 2 [b] r3 w5 HN5.out).mono ?_
    rintro e w6 ⟨rfl, hw6⟩
    subst hw6
    rw [show (([b] : List (List UInt8)).length : Int) = 1 from rfl]
    go_wp2_with fail
    refine (lose_ok w.heap.size 2 [b] r3 0 _ HN5.out (by simp)).mono ?_
    rintro e w7 ⟨rfl, hn7, hs7⟩
    have HN7 := hidOf hn7
    have HS7 := hidOf (HS5.out.trans hs7)
    clear hn7 hs7 HN5 HS5 c5
    go_wp2_with fail
    refine (lose_no w.heap.size 2 _ r3 0 _ HN7.out (by simp [hasB])).mono ?_
    rintro e w8 ⟨rfl, hw8⟩
    subst hw8
    go_wp2
    go_ret
    exact ⟨rfl, HB1.out.trans (HS7.out.below HB1.out.size (Nat.le_refl _) (fun k hk => by cases hk))⟩

end Go.Proofs.YtcdoejdbmllnnabGreat
