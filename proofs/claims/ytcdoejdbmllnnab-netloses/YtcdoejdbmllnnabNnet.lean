/- A net in memory: its packets stand in a row that it owns, each a slice of bytes; what deletes one leaves. -/
import Derived.Test.YtcdoejdbmllnnabVapp
import Derived.Shelf.SlicesE.Delete
namespace Go.Proofs.Ytcdoejdbmllnnab
open Go.RowKit Go.Shelf

def delRen : Go.Shelf.Ren := ⟨fun | 45 => 23 | n => n, fun | 22 => 58 | 23 => 30 | n => n, fun | n => n⟩
theorem delLays : SlLaysE.n45 Try.prog delRen := { mixed := by kernel_rfl, f45 := ⟨Try.f23.name, by decide, Try.func23.trans (congrArg some (by kernel_rfl))⟩, t0 := Try.underlying0, a0 := Try.isAgg0, z0 := Try.sizeOf0, v0 := Try.zeroValue0, t3 := Try.underlying3, a3 := Try.isAgg3, z3 := Try.sizeOf3, v3 := Try.zeroValue3, t4 := Try.underlying4, a4 := Try.isAgg4, z4 := Try.sizeOf4, v4 := Try.zeroValue4, t22 := Try.underlying58, a22 := Try.isAgg58, z22 := Try.sizeOf58, v22 := Try.zeroValue58, a23 := Try.isAgg30, z23 := Try.sizeOf30 }

theorem hidOf {p : Prop} (h : p) : Hid p := h

/- a packet's slice -/
abbrev Pk := Option Addr × Nat × Nat
def encP (x : Pk) : Value := .slice x.1 x.2.1 x.2.2
theorem encP_one (x : Pk) : (encP x).oneCell' = true := rfl
theorem info30 : (Try.prog.info? 30).map (fun i => (i.zero, i.size, i.bytes)) = some (some (.slice none 0 0), 1, 24) := by kernel_rfl

theorem take_putP (cur : Array Value) (ts us : List Pk) (h : ts.length ≤ cur.size) : (Go.Sort.putCells encP 0 (ts ++ us).toArray cur).toList.take ts.length = ts.map encP := by
  apply List.ext_getElem?
  intro j
  by_cases hj : j < ts.length
  · rw [List.getElem?_take_of_lt hj, Array.getElem?_toList]
    simp [Go.Sort.putCells, hj, show j < cur.size by omega, show j < ts.length + us.length by omega]
  · rw [List.getElem?_eq_none (by simp; omega), List.getElem?_eq_none (by simp; omega)]
theorem delete_any (g cap k : Nat) (ps : List Pk) (cur : Array Value) (w : World) (hg : w.heap[g]? = some (.cells cur 30 (0, 0))) (hcap : ps.length ≤ cap) (hcm : cap ≤ maxLen) (hcs : cur.size = cap) (htake : cur.toList.take ps.length = ps.map encP) (hk : k < ps.length) :
    Calls Try.prog 23 #[.slice (some ⟨g, 0, none⟩) ps.length cap, .int .i64 k, .int .i64 ((k : Int) + 1)] w fun e w' => e = .returned (.slice (some ⟨g, 0, none⟩) (ps.length - 1) cap) ∧
      (∃ cur', w'.heap[g]? = some (.cells cur' 30 (0, 0)) ∧ cur'.size = cap ∧ cur'.toList.take (ps.length - 1) = (ps.take k ++ ps.drop (k + 1)).map encP) ∧ w.grownBy w' (some g) := by
  obtain ⟨i0, hi0, hz0, hz1, hz2⟩ := info_parts info30
  have hH : Go.Sort.Holds encP w g 0 ps.toArray := by
    intro j hj
    have hj' : j < ps.length := by simpa using hj
    refine ⟨?_, by simp [World.frozen?, hg]⟩
    rw [Nat.zero_add, cell_of_row w g j cur 30 (0, 0) hg]
    have h1 : (cur.toList.take ps.length)[j]? = some (encP ps[j]) := by rw [htake, List.getElem?_map, List.getElem?_eq_getElem hj']; rfl
    rw [List.getElem?_take, if_pos hj'] at h1
    rw [getElem!_pos ps.toArray j hj]
    simpa using h1
  have h := AnyE.slices_Delete delLays encP (fun _ => rfl) (none, 0, 0) Try.zeroValue30 i0 hi0 hz1 g 0 cap k (k + 1) ps.toArray w hH (by simpa using hcap) (by unfold maxLen at hcm; omega) (by omega) (by simp; omega)
  change Calls Try.prog 23 _ _ _ at h
  simp only [List.size_toArray] at h
  rw [show (((k + 1 : Nat) : Int)) = (k : Int) + 1 by omega] at h
  refine h.mono ?_
  rintro e w' ⟨rfl, q, rfl⟩
  refine ⟨by rw [show k + 1 - k = 1 by omega], ⟨Go.Sort.putCells encP 0 (ps.take k ++ ps.drop (k + 1) ++ List.replicate (k + 1 - k) (none, 0, 0)).toArray cur, ?_, ?_, ?_⟩, ⟨rfl, rfl, rfl, ?_, ?_⟩⟩
  · simp [Go.Sort.putRow, Go.Sort.mapBlock, Go.Sort.ahead, Array.getElem?_modify, hg, Go.Sort.onCells]
  · simp [Go.Sort.putCells, hcs]
  · have hl1 : (ps.take k ++ ps.drop (k + 1)).length = ps.length - 1 := by simp; omega
    have ht := take_putP cur (ps.take k ++ ps.drop (k + 1)) (List.replicate (k + 1 - k) (none, 0, 0)) (by rw [hl1]; omega)
    rw [hl1] at ht
    exact ht
  · simp [Go.Sort.putRow, Go.Sort.mapBlock, Go.Sort.ahead]
  · intro b hb hne
    have : b ≠ g := fun e => hne (by rw [e])
    simp [Go.Sort.putRow, Go.Sort.mapBlock, Go.Sort.ahead, Array.getElem?_modify, Ne.symm this]


/- a block of bytes -/
def T5 (w : World) (b : Nat) : Prop := ∃ cur, w.heap[b]? = some (.cells cur 5 (0, 0))
theorem T5.to {w w' : World} {b : Nat} (h : T5 w b) (e : w'.heap[b]? = w.heap[b]?) : T5 w' b := by
  obtain ⟨c, hc⟩ := h; exact ⟨c, e.trans hc⟩
/- the packets ps lie in memory: the bytes L -/
def Pks (w : World) (p : Nat) (r : Option Nat) (ps : List Pk) (L : List (List UInt8)) : Prop :=
  ps.length = L.length ∧ ∀ i (h1 : i < ps.length) (h2 : i < L.length), ps[i].2.1 = L[i].length ∧ ps[i].2.1 ≤ ps[i].2.2 ∧ Bs w ps[i].1 L[i] ∧ ∀ y, ps[i].1 = some y → y.block ≠ p ∧ r ≠ some y.block ∧ y.block < w.heap.size ∧ T5 w y.block
/- the net at block p, its row at r -/
def NetR (w : World) (p : Nat) (most : Nat) (L : List (List UInt8)) (r : Option Nat) : Prop :=
  most ≤ 256 ∧ L.length ≤ 257 ∧ ∃ v ps, w.heap[p]? = some (.cells #[.int .i64 most, v] 60 (0, 0)) ∧ v.ownBlock = r ∧ w.ownsRow 0 30 1 v L.length (ps.map encP) ∧ r ≠ some p ∧ Pks w p r ps L
/- what a step of the net leaves -/
structure NS (w w' : World) (p : Nat) (r r' : Option Nat) : Prop where
  os : w'.os = w.os
  tape : w'.tape = w.tape
  output : w'.output = w.output
  size : w.heap.size ≤ w'.heap.size
  block : ∀ k, k < w.heap.size → k ≠ p → some k ≠ r → w'.heap[k]? = w.heap[k]?
  row : r' = r ∨ ∃ k, r' = some k ∧ w.heap.size ≤ k
theorem NS.refl (w : World) (p : Nat) (r : Option Nat) : NS w w p r r := ⟨rfl, rfl, rfl, Nat.le_refl _, fun _ _ _ _ => rfl, .inl rfl⟩
theorem NS.trans {a b c : World} {p : Nat} {r r1 r2 : Option Nat} (h : NS a b p r r1) (k : NS b c p r1 r2) : NS a c p r r2 := by
  refine ⟨k.os.trans h.os, k.tape.trans h.tape, k.output.trans h.output, Nat.le_trans h.size k.size, fun i hi hp hr => ?_, ?_⟩
  · refine (k.block i (Nat.lt_of_lt_of_le hi h.size) hp ?_).trans (h.block i hi hp hr)
    rcases h.row with e | ⟨n, e, hn⟩
    · rw [e]; exact hr
    · rw [e]; intro e2; have := Option.some.inj e2; omega
  · rcases k.row with e | ⟨n, e, hn⟩
    · rw [e]; exact h.row
    · exact .inr ⟨n, e, Nat.le_trans h.size hn⟩
theorem NS.of_below {a b : World} {p : Nat} {r : Option Nat} (h : Below a.heap.size a b) : NS a b p r r := ⟨h.os, h.tape, h.output, h.size, fun k hk _ _ => h.block k hk, .inl rfl⟩
theorem NS.below {a b : World} {p D : Nat} {r r' : Option Nat} (h : NS a b p r r') (hD : D ≤ a.heap.size) (hp : D ≤ p) (hr : ∀ k, r = some k → D ≤ k) : Below D a b :=
  ⟨h.os, h.tape, h.output, h.size, fun k hk => h.block k (by omega) (by omega) (fun e => by have := hr k e.symm; omega)⟩
theorem NS.rowD {a b : World} {p D : Nat} {r r' : Option Nat} (h : NS a b p r r') (hD : D ≤ a.heap.size) (hr : ∀ k, r = some k → D ≤ k) : ∀ k, r' = some k → D ≤ k := by
  intro k hk
  rcases h.row with e | ⟨n, e, hn⟩
  · exact hr k (e ▸ hk)
  · rw [e] at hk; cases hk; omega

theorem NetR.kept {w w' : World} {p most : Nat} {L : List (List UInt8)} {r : Option Nat} (h : NetR w p most L r) (hb : ∀ k, k < w.heap.size → w'.heap[k]? = w.heap[k]?) (hs : w.heap.size ≤ w'.heap.size) : NetR w' p most L r := by
  obtain ⟨h1, h2, v, ps, h3, h4, h5, h6, h7, h8⟩ := h
  refine ⟨h1, h2, v, ps, (hb p (Array.getElem?_eq_some_iff.1 h3).1).trans h3, h4, ⟨h5.1, ?_⟩, h6, h7, fun i a b => ?_⟩
  · rcases h5.2 with e | ⟨g, cap, cur, e1, e2, e3, e4⟩
    · exact .inl e
    · exact .inr ⟨g, cap, cur, e1, e2, (hb g (Array.getElem?_eq_some_iff.1 e3).1).trans e3, e4⟩
  · obtain ⟨a1, a2, a3, a4⟩ := h8 i a b
    refine ⟨a1, a2, ⟨a3.1, fun hne => ?_⟩, fun y hy => ⟨(a4 y hy).1, (a4 y hy).2.1, Nat.lt_of_lt_of_le (a4 y hy).2.2.1 hs, (a4 y hy).2.2.2.to (hb _ (a4 y hy).2.2.1)⟩⟩
    obtain ⟨b', off, e, hlt, hc⟩ := a3.2 hne
    exact ⟨b', off, e, Nat.lt_of_lt_of_le hlt hs, fun j hj => (World.cell?_of_block (a := ⟨b', off + j, none⟩) (hb b' hlt)).trans (hc j hj)⟩
theorem NetR.grow {w w' : World} {p most : Nat} {L : List (List UInt8)} {r : Option Nat} (h : NetR w p most L r) (hb : Below w.heap.size w w') : NetR w' p most L r := h.kept (fun k hk => hb.block k hk) hb.size
/- what the walks read of a net -/
theorem NetR.cells {w : World} {p most : Nat} {L : List (List UInt8)} {r : Option Nat} (h : NetR w p most L r) : p < w.heap.size ∧ ∃ a cap, w.cell? ⟨p, 0, none⟩ = some (.int .i64 most) ∧ w.cell? ⟨p, 1, none⟩ = some (.slice a L.length cap) ∧ L.length ≤ cap ∧ cap ≤ maxLen := by
  obtain ⟨h1, h2, v, ps, h3, h4, h5, h6, h7⟩ := h
  refine ⟨(Array.getElem?_eq_some_iff.1 h3).1, ?_⟩
  have c0 : w.cell? ⟨p, 0, none⟩ = some (.int .i64 most) := by rw [cell_of_row w p 0 _ 60 (0, 0) h3]; rfl
  have c1 : w.cell? ⟨p, 1, none⟩ = some v := by rw [cell_of_row w p 1 _ 60 (0, 0) h3]; rfl
  rcases h5.2 with ⟨rfl, e⟩ | ⟨g, cap, cur, e1, e2, e3, e4, e5, e6⟩
  · exact ⟨none, 0, c0, by rw [c1, e], by omega, by simp [maxLen]⟩
  · exact ⟨_, cap, c0, by rw [c1, e1], e4, e5⟩

set_option maxHeartbeats 400000 in
theorem new_ok (n : Int) (w : World) (h1 : 1 ≤ n) (h2 : n ≤ 256) : Calls Try.prog 6 #[.int .i64 n] w fun e w' => e = .returned (.pointer (some ⟨w.heap.size, 0, none⟩)) ∧ w' = w.alloc (.cells #[.int .i64 n, .slice none 0 0] 60) := by
  go_enter Try.func6, Try.ntmps6
  go_wp2
  go_ret
  exact ⟨rfl, rfl⟩
set_option maxHeartbeats 400000 in
theorem new_no (n : Int) (w : World) (h : n < 1 ∨ 256 < n) : Calls Try.prog 6 #[.int .i64 n] w fun e w' => e = .returned (.pointer none) ∧ w' = w := by
  rcases h with h | h
  · go_enter Try.func6, Try.ntmps6
    go_wp2
    go_ret
    exact ⟨rfl, rfl⟩
  · have h1 : ¬ n < 1 := by omega
    go_enter Try.func6, Try.ntmps6
    go_wp2
    go_ret
    exact ⟨rfl, rfl⟩
theorem netR_new (w : World) (n : Nat) (hn : n ≤ 256) : NetR (w.alloc (.cells #[.int .i64 n, .slice none 0 0] 60)) w.heap.size n [] none :=
  ⟨hn, by simp, .slice none 0 0, [], heap_alloc_new w _, rfl, ⟨rfl, .inl ⟨rfl, rfl⟩⟩, by simp, rfl, fun i h => by simp at h⟩

set_option maxHeartbeats 400000 in
theorem len_any (p most : Nat) (L : List (List UInt8)) (r : Option Nat) (w : World) (h : NetR w p most L r) : Calls Try.prog 9 #[.pointer (some ⟨p, 0, none⟩)] w fun e w' => e = .returned (.int .i64 L.length) ∧ w' = w := by
  obtain ⟨hp, a, cap, c0, c1, _, _⟩ := h.cells
  clear h
  go_enter Try.func9, Try.ntmps9
  go_wp2
  go_ret
  exact ⟨rfl, rfl⟩

def hasB (L : List (List UInt8)) (k : Int) : Bool := decide (0 ≤ k ∧ k < L.length)
set_option maxHeartbeats 400000 in
theorem has_any (p most : Nat) (L : List (List UInt8)) (r : Option Nat) (k : Int) (w : World) (h : NetR w p most L r) : Calls Try.prog 16 #[.pointer (some ⟨p, 0, none⟩), .int .i64 k] w fun e w' => e = .returned (.bool (hasB L k)) ∧ w' = w := by
  obtain ⟨hp, a, cap, c0, c1, _, _⟩ := h.cells
  clear h
  by_cases h1 : 0 ≤ k
  · by_cases h2 : k < L.length
    · have e : hasB L k = true := by simp [hasB, h1, h2]
      rw [e]
      go_enter Try.func16, Try.ntmps16
      go_wp2
      go_ret
      exact ⟨rfl, rfl⟩
    · have e : hasB L k = false := by simp [hasB, h2]
      rw [e]
      go_enter Try.func16, Try.ntmps16
      go_wp2
      go_ret
      exact ⟨rfl, rfl⟩
  · have e : hasB L k = false := by simp [hasB, h1]
    rw [e]
    go_enter Try.func16, Try.ntmps16
    go_wp2
    go_ret
    exact ⟨rfl, rfl⟩

theorem Pks.kept {w w' : World} {p : Nat} {r r' : Option Nat} {ps : List Pk} {L : List (List UInt8)} (h : Pks w p r ps L) (hs : w.heap.size ≤ w'.heap.size) (hb : ∀ k, k < w.heap.size → k ≠ p → r ≠ some k → w'.heap[k]? = w.heap[k]?) (hr : ∀ k, k < w.heap.size → r ≠ some k → r' ≠ some k) : Pks w' p r' ps L := by
  refine ⟨h.1, fun i a b => ?_⟩
  obtain ⟨a1, a2, a3, a4⟩ := h.2 i a b
  refine ⟨a1, a2, ⟨a3.1, fun hne => ?_⟩, fun y hy => ⟨(a4 y hy).1, hr _ (a4 y hy).2.2.1 (a4 y hy).2.1, Nat.lt_of_lt_of_le (a4 y hy).2.2.1 hs, (a4 y hy).2.2.2.to (hb _ (a4 y hy).2.2.1 (a4 y hy).1 (a4 y hy).2.1)⟩⟩
  obtain ⟨b', off, e, hlt, hc⟩ := a3.2 hne
  have := a4 _ e
  exact ⟨b', off, e, Nat.lt_of_lt_of_le hlt hs, fun j hj => (World.cell?_of_block (a := ⟨b', off + j, none⟩) (hb b' hlt this.1 this.2.1)).trans (hc j hj)⟩
theorem Pks.out {w : World} {p : Nat} {r : Option Nat} {ps : List Pk} {L : List (List UInt8)} (h : Pks w p r ps L) (k : Nat) : Pks w p r (ps.take k ++ ps.drop (k + 1)) (L.take k ++ L.drop (k + 1)) := by
  have hl := h.1
  refine ⟨by simp [hl], fun i a b => ?_⟩
  by_cases hi : i < k
  · by_cases hi2 : i < ps.length
    · have q := h.2 i hi2 (by omega)
      rw [List.getElem_append_left (by simp; omega), List.getElem_append_left (by simp; omega), List.getElem_take, List.getElem_take]
      exact q
    · simp at a; omega
  · have a' := a
    simp only [List.length_append, List.length_take, List.length_drop] at a'
    have hi2 : i + 1 < ps.length := by omega
    have q := h.2 (i + 1) hi2 (by omega)
    have hk : k ≤ ps.length := by omega
    rw [List.getElem_append_right (by simp; omega), List.getElem_append_right (by simp; omega)]
    simp only [List.getElem_drop, List.length_take, Nat.min_eq_left hk, Nat.min_eq_left (hl ▸ hk), show k + 1 + (i - k) = i + 1 by omega]
    exact q
/- the row's slice is laid anew into the net -/
theorem netR_set {w : World} {p most : Nat} {v v' : Value} {L : List (List UInt8)} {ps : List Pk} (h1 : most ≤ 256) (h2 : L.length ≤ 257) (h3 : w.heap[p]? = some (.cells #[.int .i64 most, v] 60 (0, 0)))
    (h5 : w.ownsRow 0 30 1 v' L.length (ps.map encP)) (h6 : v'.ownBlock ≠ some p) (h7 : Pks w p v'.ownBlock ps L) : NetR (w.setCell ⟨p, 1, none⟩ v') p most L v'.ownBlock := by
  have hk : ∀ k, k ≠ p → (w.setCell ⟨p, 1, none⟩ v').heap[k]? = w.heap[k]? := fun k hk => Below.heap_setCell w ⟨p, 1, none⟩ _ k hk
  refine ⟨h1, h2, v', ps, ?_, rfl, ⟨h5.1, ?_⟩, h6, h7.kept (by simp) (fun k _ hp _ => hk k hp) (fun _ _ x => x)⟩
  · rw [heap_setCell_same w p 1 _ 60 v' h3]; rfl
  · rcases h5.2 with e | ⟨g, cap, cur, e1, e2, e3, e4⟩
    · exact .inl e
    · refine .inr ⟨g, cap, cur, e1, e2, (hk g ?_).trans e3, e4⟩
      intro e; apply h6; rw [e1, e]; rfl

set_option maxHeartbeats 800000 in
theorem remove_any (p most : Nat) (L : List (List UInt8)) (r : Option Nat) (k : Nat) (w : World) (h : NetR w p most L r) (hk : k < L.length) : Calls Try.prog 17 #[.pointer (some ⟨p, 0, none⟩), .int .i64 k] w fun e w' => e = .returned (.tuple #[]) ∧ NetR w' p most (L.take k ++ L.drop (k + 1)) r ∧ NS w w' p r r := by
  obtain ⟨h1, h2, v, ps, h3, h4, h5, h6, hPk⟩ := h
  have hl : ps.length = L.length := hPk.1
  rcases h5.2 with ⟨_, e⟩ | ⟨g, cap, cur, e1, e2, e3, e4, e5, e6, e7⟩
  · omega
  subst e1
  have hr : r = some g := h4.symm
  subst hr
  have hgp : g ≠ p := fun e => h6 (by rw [e])
  have c1 : w.cell? ⟨p, 1, none⟩ = some (.slice (some ⟨g, 0, none⟩) L.length cap) := by rw [cell_of_row w p 1 _ 60 (0, 0) h3]; rfl
  have hp : p < w.heap.size := (Array.getElem?_eq_some_iff.1 h3).1
  have hb : (k : Int) ≤ 257 := by omega
  have hD := delete_any g cap k ps cur w e3 (by omega) e5 (by omega) (by rw [hl, ← Nat.mul_one L.length]; exact e7) (by omega)
  have HL : Hid (ps.length = L.length) := hl
  rw [hl] at hD
  have HD := hidOf hD
  have H3 := hidOf h3
  have HP := hidOf hPk
  have HGP : Hid (g ≠ p) := hgp
  clear hD h3 hPk h5 e3 e7 hl h4 h6 e2 e6 hgp
  go_enter Try.func17, Try.ntmps17
  go_wp2_with fail
  refine Calls.mono HD.out ?_
  rintro e w1 ⟨rfl, ⟨cur', q1, q2, q3⟩, hg⟩
  have g3 : w1.heap[p]? = some (.cells #[.int .i64 most, .slice (some ⟨g, 0, none⟩) L.length cap] 60 (0, 0)) := (hg.block p hp (fun e => HGP.out (Option.some.inj e).symm)).trans H3.out
  have c1' : w1.cell? ⟨p, 1, none⟩ = some (.slice (some ⟨g, 0, none⟩) L.length cap) := by rw [cell_of_row w1 p 1 _ 60 (0, 0) g3]; rfl
  have f1' : w1.frozen? ⟨p, 1, none⟩ = false := by simp [World.frozen?, g3]
  have PK1 : Pks w1 p (some g) (ps.take k ++ ps.drop (k + 1)) (L.take k ++ L.drop (k + 1)) := (HP.out.kept hg.size (fun b hb _ hne => hg.block b hb (fun e => hne e.symm)) (fun _ _ x => x)).out k
  have hL' : (L.take k ++ L.drop (k + 1)).length = L.length - 1 := by simp; omega
  have FIN : Hid (NetR (w1.setCell ⟨p, 1, none⟩ (.slice (some ⟨g, 0, none⟩) (L.length - 1) cap)) p most (L.take k ++ L.drop (k + 1)) (some g) ∧ NS w (w1.setCell ⟨p, 1, none⟩ (.slice (some ⟨g, 0, none⟩) (L.length - 1) cap)) p (some g) (some g)) := by
    refine ⟨netR_set (v := .slice (some ⟨g, 0, none⟩) L.length cap) h1 (by omega) g3 ⟨?_, .inr ⟨g, cap, cur', by rw [hL'], Nat.zero_le _, q1, by omega, e5, by omega, ?_⟩⟩ (fun e => HGP.out (Option.some.inj e)) PK1, ⟨hg.os, hg.tape, hg.output, by simpa using hg.size, fun b hb hbp hne => ?_, .inl rfl⟩⟩
    · rw [hL']; have := HL.out; simp; omega
    · rw [hL', Nat.mul_one, ← q3]
    · exact (Below.heap_setCell w1 ⟨p, 1, none⟩ _ b hbp).trans (hg.block b hb hne)
  clear PK1 hg q1 q2 q3 hL' g3 H3 HP
  go_wp2
  go_end0
  exact ⟨rfl, FIN.out⟩

end Go.Proofs.Ytcdoejdbmllnnab
