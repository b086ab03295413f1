/- Several texts in one (wip/gen/merge.py). -/
import Derived.Test.YtcdoejdbmllnnabVapp
import Derived.Shelf.SlicesE.Delete
import Derived.Test.YtcdoejdbmllnnabVpwms
import Derived.Test.YtcdoejdbmllnnabVgms
import Derived.Test.YtcdoejdbmllnnabVpoms
import Derived.Test.YtcdoejdbmllnnabSums
import Derived.Great.BuildSlice
/- A net in memory: its packets stand in a row that it owns, each a slice of bytes; what deletes one leaves. -/
namespace Go.Proofs.Ytcdoejdbmllnnab
open Go.RowKit Go.Shelf

def delRen : Go.Shelf.Ren := ⟨fun | 45 => 23 | n => n, fun | 22 => 58 | 23 => 30 | n => n, fun | n => n⟩
theorem delLays : SlLaysE.n45 Try.prog delRen := { mixed := by kernel_rfl, f45 := ⟨Try.f23.name, by decide, Try.func23.trans (congrArg some (by kernel_rfl))⟩, t0 := Try.underlying0, a0 := Try.isAgg0, z0 := Try.sizeOf0, v0 := Try.zeroValue0, t3 := Try.underlying3, a3 := Try.isAgg3, z3 := Try.sizeOf3, v3 := Try.zeroValue3, t4 := Try.underlying4, a4 := Try.isAgg4, z4 := Try.sizeOf4, v4 := Try.zeroValue4, t22 := Try.underlying58, a22 := Try.isAgg58, z22 := Try.sizeOf58, v22 := Try.zeroValue58, a23 := Try.isAgg30, z23 := Try.sizeOf30 }

theorem hidOf {p : Prop} (h : p) : Hid p := h

/- a packet's slice -/
abbrev Pk := Option Addr × Nat × Nat
def encP (x : Pk) : Value := .slice x.1 x.2.1 x.2.2
theorem encP_one (x : Pk) : (encP x).oneCell' = true := rfl
theorem info30 : (Try.prog.info? 30).map (fun i => (i.zero, i.size, i.bytes)) = some (some (.slice none 0 0), 1, 24) := by kernel_rfl

theorem take_putP (cur : Array Value) (ts us : List Pk) (h : ts.length ≤ cur.size) : (Go.Sort.putCells encP 0 (ts ++ us).toArray cur).toList.take ts.length = ts.map encP := by
  apply List.ext_getElem?
  intro j
  by_cases hj : j < ts.length
  · rw [List.getElem?_take_of_lt hj, Array.getElem?_toList]
    simp [Go.Sort.putCells, hj, show j < cur.size by omega, show j < ts.length + us.length by omega]
  · rw [List.getElem?_eq_none (by simp; omega), List.getElem?_eq_none (by simp; omega)]
theorem delete_any (g cap k : Nat) (ps : List Pk) (cur : Array Value) (w : World) (hg : w.heap[g]? = some (.cells cur 30 (0, 0))) (hcap : ps.length ≤ cap) (hcm : cap ≤ maxLen) (hcs : cur.size = cap) (htake : cur.toList.take ps.length = ps.map encP) (hk : k < ps.length) :
    Calls Try.prog 23 #[.slice (some ⟨g, 0, none⟩) ps.length cap, .int .i64 k, .int .i64 ((k : Int) + 1)] w fun e w' => e = .returned (.slice (some ⟨g, 0, none⟩) (ps.length - 1) cap) ∧
      (∃ cur', w'.heap[g]? = some (.cells cur' 30 (0, 0)) ∧ cur'.size = cap ∧ cur'.toList.take (ps.length - 1) = (ps.take k ++ ps.drop (k + 1)).map encP) ∧ w.grownBy w' (some g) := by
  obtain ⟨i0, hi0, hz0, hz1, hz2⟩ := info_parts info30
  have hH : Go.Sort.Holds encP w g 0 ps.toArray := by
    intro j hj
    have hj' : j < ps.length := by simpa using hj
    refine ⟨?_, by simp [World.frozen?, hg]⟩
    rw [Nat.zero_add, cell_of_row w g j cur 30 (0, 0) hg]
    have h1 : (cur.toList.take ps.length)[j]? = some (encP ps[j]) := by rw [htake, List.getElem?_map, List.getElem?_eq_getElem hj']; rfl
    rw [List.getElem?_take, if_pos hj'] at h1
    rw [getElem!_pos ps.toArray j hj]
    simpa using h1
  have h := AnyE.slices_Delete delLays encP (fun _ => rfl) (none, 0, 0) Try.zeroValue30 i0 hi0 hz1 g 0 cap k (k + 1) ps.toArray w hH (by simpa using hcap) (by unfold maxLen at hcm; omega) (by omega) (by simp; omega)
  change Calls Try.prog 23 _ _ _ at h
  simp only [List.size_toArray] at h
  rw [show (((k + 1 : Nat) : Int)) = (k : Int) + 1 by omega] at h
  refine h.mono ?_
  rintro e w' ⟨rfl, q, rfl⟩
  refine ⟨by rw [show k + 1 - k = 1 by omega], ⟨Go.Sort.putCells encP 0 (ps.take k ++ ps.drop (k + 1) ++ List.replicate (k + 1 - k) (none, 0, 0)).toArray cur, ?_, ?_, ?_⟩, ⟨rfl, rfl, rfl, ?_, ?_⟩⟩
  · simp [Go.Sort.putRow, Go.Sort.mapBlock, Go.Sort.ahead, Array.getElem?_modify, hg, Go.Sort.onCells]
  · simp [Go.Sort.putCells, hcs]
  · have hl1 : (ps.take k ++ ps.drop (k + 1)).length = ps.length - 1 := by simp; omega
    have ht := take_putP cur (ps.take k ++ ps.drop (k + 1)) (List.replicate (k + 1 - k) (none, 0, 0)) (by rw [hl1]; omega)
    rw [hl1] at ht
    exact ht
  · simp [Go.Sort.putRow, Go.Sort.mapBlock, Go.Sort.ahead]
  · intro b hb hne
    have : b ≠ g := fun e => hne (by rw [e])
    simp [Go.Sort.putRow, Go.Sort.mapBlock, Go.Sort.ahead, Array.getElem?_modify, Ne.symm this]


/- a block of bytes -/
def T5 (w : World) (b : Nat) : Prop := ∃ cur, w.heap[b]? = some (.cells cur 5 (0, 0))
theorem T5.to {w w' : World} {b : Nat} (h : T5 w b) (e : w'.heap[b]? = w.heap[b]?) : T5 w' b := by
  obtain ⟨c, hc⟩ := h; exact ⟨c, e.trans hc⟩
/- the packets ps lie in memory: the bytes L -/
def Pks (w : World) (p : Nat) (r : Option Nat) (ps : List Pk) (L : List (List UInt8)) : Prop :=
  ps.length = L.length ∧ ∀ i (h1 : i < ps.length) (h2 : i < L.length), ps[i].2.1 = L[i].length ∧ ps[i].2.1 ≤ ps[i].2.2 ∧ Bs w ps[i].1 L[i] ∧ ∀ y, ps[i].1 = some y → y.block ≠ p ∧ r ≠ some y.block ∧ y.block < w.heap.size ∧ T5 w y.block
/- the net at block p, its row at r -/
def NetR (w : World) (p : Nat) (most : Nat) (L : List (List UInt8)) (r : Option Nat) : Prop :=
  most ≤ 256 ∧ L.length ≤ 257 ∧ ∃ v ps, w.heap[p]? = some (.cells #[.int .i64 most, v] 60 (0, 0)) ∧ v.ownBlock = r ∧ w.ownsRow 0 30 1 v L.length (ps.map encP) ∧ r ≠ some p ∧ Pks w p r ps L
/- what a step of the net leaves -/
structure NS (w w' : World) (p : Nat) (r r' : Option Nat) : Prop where
  os : w'.os = w.os
  tape : w'.tape = w.tape
  output : w'.output = w.output
  size : w.heap.size ≤ w'.heap.size
  block : ∀ k, k < w.heap.size → k ≠ p → some k ≠ r → w'.heap[k]? = w.heap[k]?
  row : r' = r ∨ ∃ k, r' = some k ∧ w.heap.size ≤ k
theorem NS.refl (w : World) (p : Nat) (r : Option Nat) : NS w w p r r := ⟨rfl, rfl, rfl, Nat.le_refl _, fun _ _ _ _ => rfl, .inl rfl⟩
theorem NS.trans {a b c : World} {p : Nat} {r r1 r2 : Option Nat} (h : NS a b p r r1) (k : NS b c p r1 r2) : NS a c p r r2 := by
  refine ⟨k.os.trans h.os, k.tape.trans h.tape, k.output.trans h.output, Nat.le_trans h.size k.size, fun i hi hp hr => ?_, ?_⟩
  · refine (k.block i (Nat.lt_of_lt_of_le hi h.size) hp ?_).trans (h.block i hi hp hr)
    rcases h.row with e | ⟨n, e, hn⟩
    · rw [e]; exact hr
    · rw [e]; intro e2; have := Option.some.inj e2; omega
  · rcases k.row with e | ⟨n, e, hn⟩
    · rw [e]; exact h.row
    · exact .inr ⟨n, e, Nat.le_trans h.size hn⟩
theorem NS.of_below {a b : World} {p : Nat} {r : Option Nat} (h : Below a.heap.size a b) : NS a b p r r := ⟨h.os, h.tape, h.output, h.size, fun k hk _ _ => h.block k hk, .inl rfl⟩
theorem NS.below {a b : World} {p D : Nat} {r r' : Option Nat} (h : NS a b p r r') (hD : D ≤ a.heap.size) (hp : D ≤ p) (hr : ∀ k, r = some k → D ≤ k) : Below D a b :=
  ⟨h.os, h.tape, h.output, h.size, fun k hk => h.block k (by omega) (by omega) (fun e => by have := hr k e.symm; omega)⟩
theorem NS.rowD {a b : World} {p D : Nat} {r r' : Option Nat} (h : NS a b p r r') (hD : D ≤ a.heap.size) (hr : ∀ k, r = some k → D ≤ k) : ∀ k, r' = some k → D ≤ k := by
  intro k hk
  rcases h.row with e | ⟨n, e, hn⟩
  · exact hr k (e ▸ hk)
  · rw [e] at hk; cases hk; omega

theorem NetR.kept {w w' : World} {p most : Nat} {L : List (List UInt8)} {r : Option Nat} (h : NetR w p most L r) (hb : ∀ k, k < w.heap.size → w'.heap[k]? = w.heap[k]?) (hs : w.heap.size ≤ w'.heap.size) : NetR w' p most L r := by
  obtain ⟨h1, h2, v, ps, h3, h4, h5, h6, h7, h8⟩ := h
  refine ⟨h1, h2, v, ps, (hb p (Array.getElem?_eq_some_iff.1 h3).1).trans h3, h4, ⟨h5.1, ?_⟩, h6, h7, fun i a b => ?_⟩
  · rcases h5.2 with e | ⟨g, cap, cur, e1, e2, e3, e4⟩
    · exact .inl e
    · exact .inr ⟨g, cap, cur, e1, e2, (hb g (Array.getElem?_eq_some_iff.1 e3).1).trans e3, e4⟩
  · obtain ⟨a1, a2, a3, a4⟩ := h8 i a b
    refine ⟨a1, a2, ⟨a3.1, fun hne => ?_⟩, fun y hy => ⟨(a4 y hy).1, (a4 y hy).2.1, Nat.lt_of_lt_of_le (a4 y hy).2.2.1 hs, (a4 y hy).2.2.2.to (hb _ (a4 y hy).2.2.1)⟩⟩
    obtain ⟨b', off, e, hlt, hc⟩ := a3.2 hne
    exact ⟨b', off, e, Nat.lt_of_lt_of_le hlt hs, fun j hj => (World.cell?_of_block (a := ⟨b', off + j, none⟩) (hb b' hlt)).trans (hc j hj)⟩
theorem NetR.grow {w w' : World} {p most : Nat} {L : List (List UInt8)} {r : Option Nat} (h : NetR w p most L r) (hb : Below w.heap.size w w') : NetR w' p most L r := h.kept (fun k hk => hb.block k hk) hb.size
/- what the walks read of a net -/
theorem NetR.cells {w : World} {p most : Nat} {L : List (List UInt8)} {r : Option Nat} (h : NetR w p most L r) : p < w.heap.size ∧ ∃ a cap, w.cell? ⟨p, 0, none⟩ = some (.int .i64 most) ∧ w.cell? ⟨p, 1, none⟩ = some (.slice a L.length cap) ∧ L.length ≤ cap ∧ cap ≤ maxLen := by
  obtain ⟨h1, h2, v, ps, h3, h4, h5, h6, h7⟩ := h
  refine ⟨(Array.getElem?_eq_some_iff.1 h3).1, ?_⟩
  have c0 : w.cell? ⟨p, 0, none⟩ = some (.int .i64 most) := by rw [cell_of_row w p 0 _ 60 (0, 0) h3]; rfl
  have c1 : w.cell? ⟨p, 1, none⟩ = some v := by rw [cell_of_row w p 1 _ 60 (0, 0) h3]; rfl
  rcases h5.2 with ⟨rfl, e⟩ | ⟨g, cap, cur, e1, e2, e3, e4, e5, e6⟩
  · exact ⟨none, 0, c0, by rw [c1, e], by omega, by simp [maxLen]⟩
  · exact ⟨_, cap, c0, by rw [c1, e1], e4, e5⟩

set_option maxHeartbeats 400000 in
theorem new_ok (n : Int) (w : World) (h1 : 1 ≤ n) (h2 : n ≤ 256) : Calls Try.prog 6 #[.int .i64 n] w fun e w' => e = .returned (.pointer (some ⟨w.heap.size, 0, none⟩)) ∧ w' = w.alloc (.cells #[.int .i64 n, .slice none 0 0] 60) := by
  go_enter Try.func6, Try.ntmps6
  go_wp2
  go_ret
  exact ⟨rfl, rfl⟩
set_option maxHeartbeats 400000 in
theorem new_no (n : Int) (w : World) (h : n < 1 ∨ 256 < n) : Calls Try.prog 6 #[.int .i64 n] w fun e w' => e = .returned (.pointer none) ∧ w' = w := by
  rcases h with h | h
  · go_enter Try.func6, Try.ntmps6
    go_wp2
    go_ret
    exact ⟨rfl, rfl⟩
  · have h1 : ¬ n < 1 := by omega
    go_enter Try.func6, Try.ntmps6
    go_wp2
    go_ret
    exact ⟨rfl, rfl⟩
theorem netR_new (w : World) (n : Nat) (hn : n ≤ 256) : NetR (w.alloc (.cells #[.int .i64 n, .slice none 0 0] 60)) w.heap.size n [] none :=
  ⟨hn, by simp, .slice none 0 0, [], heap_alloc_new w _, rfl, ⟨rfl, .inl ⟨rfl, rfl⟩⟩, by simp, rfl, fun i h => by simp at h⟩

set_option maxHeartbeats 400000 in
theorem len_any (p most : Nat) (L : List (List UInt8)) (r : Option Nat) (w : World) (h : NetR w p most L r) : Calls Try.prog 9 #[.pointer (some ⟨p, 0, none⟩)] w fun e w' => e = .returned (.int .i64 L.length) ∧ w' = w := by
  obtain ⟨hp, a, cap, c0, c1, _, _⟩ := h.cells
  clear h
  go_enter Try.func9, Try.ntmps9
  go_wp2
  go_ret
  exact ⟨rfl, rfl⟩

def hasB (L : List (List UInt8)) (k : Int) : Bool := decide (0 ≤ k ∧ k < L.length)
set_option maxHeartbeats 400000 in
theorem has_any (p most : Nat) (L : List (List UInt8)) (r : Option Nat) (k : Int) (w : World) (h : NetR w p most L r) : Calls Try.prog 16 #[.pointer (some ⟨p, 0, none⟩), .int .i64 k] w fun e w' => e = .returned (.bool (hasB L k)) ∧ w' = w := by
  obtain ⟨hp, a, cap, c0, c1, _, _⟩ := h.cells
  clear h
  by_cases h1 : 0 ≤ k
  · by_cases h2 : k < L.length
    · have e : hasB L k = true := by simp [hasB, h1, h2]
      rw [e]
      go_enter Try.func16, Try.ntmps16
      go_wp2
      go_ret
      exact ⟨rfl, rfl⟩
    · have e : hasB L k = false := by simp [hasB, h2]
      rw [e]
      go_enter Try.func16, Try.ntmps16
      go_wp2
      go_ret
      exact ⟨rfl, rfl⟩
  · have e : hasB L k = false := by simp [hasB, h1]
    rw [e]
    go_enter Try.func16, Try.ntmps16
    go_wp2
    go_ret
    exact ⟨rfl, rfl⟩

theorem Pks.kept {w w' : World} {p : Nat} {r r' : Option Nat} {ps : List Pk} {L : List (List UInt8)} (h : Pks w p r ps L) (hs : w.heap.size ≤ w'.heap.size) (hb : ∀ k, k < w.heap.size → k ≠ p → r ≠ some k → w'.heap[k]? = w.heap[k]?) (hr : ∀ k, k < w.heap.size → r ≠ some k → r' ≠ some k) : Pks w' p r' ps L := by
  refine ⟨h.1, fun i a b => ?_⟩
  obtain ⟨a1, a2, a3, a4⟩ := h.2 i a b
  refine ⟨a1, a2, ⟨a3.1, fun hne => ?_⟩, fun y hy => ⟨(a4 y hy).1, hr _ (a4 y hy).2.2.1 (a4 y hy).2.1, Nat.lt_of_lt_of_le (a4 y hy).2.2.1 hs, (a4 y hy).2.2.2.to (hb _ (a4 y hy).2.2.1 (a4 y hy).1 (a4 y hy).2.1)⟩⟩
  obtain ⟨b', off, e, hlt, hc⟩ := a3.2 hne
  have := a4 _ e
  exact ⟨b', off, e, Nat.lt_of_lt_of_le hlt hs, fun j hj => (World.cell?_of_block (a := ⟨b', off + j, none⟩) (hb b' hlt this.1 this.2.1)).trans (hc j hj)⟩
theorem Pks.out {w : World} {p : Nat} {r : Option Nat} {ps : List Pk} {L : List (List UInt8)} (h : Pks w p r ps L) (k : Nat) : Pks w p r (ps.take k ++ ps.drop (k + 1)) (L.take k ++ L.drop (k + 1)) := by
  have hl := h.1
  refine ⟨by simp [hl], fun i a b => ?_⟩
  by_cases hi : i < k
  · by_cases hi2 : i < ps.length
    · have q := h.2 i hi2 (by omega)
      rw [List.getElem_append_left (by simp; omega), List.getElem_append_left (by simp; omega), List.getElem_take, List.getElem_take]
      exact q
    · simp at a; omega
  · have a' := a
    simp only [List.length_append, List.length_take, List.length_drop] at a'
    have hi2 : i + 1 < ps.length := by omega
    have q := h.2 (i + 1) hi2 (by omega)
    have hk : k ≤ ps.length := by omega
    rw [List.getElem_append_right (by simp; omega), List.getElem_append_right (by simp; omega)]
    simp only [List.getElem_drop, List.length_take, Nat.min_eq_left hk, Nat.min_eq_left (hl ▸ hk), show k + 1 + (i - k) = i + 1 by omega]
    exact q
/- the row's slice is laid anew into the net -/
theorem netR_set {w : World} {p most : Nat} {v v' : Value} {L : List (List UInt8)} {ps : List Pk} (h1 : most ≤ 256) (h2 : L.length ≤ 257) (h3 : w.heap[p]? = some (.cells #[.int .i64 most, v] 60 (0, 0)))
    (h5 : w.ownsRow 0 30 1 v' L.length (ps.map encP)) (h6 : v'.ownBlock ≠ some p) (h7 : Pks w p v'.ownBlock ps L) : NetR (w.setCell ⟨p, 1, none⟩ v') p most L v'.ownBlock := by
  have hk : ∀ k, k ≠ p → (w.setCell ⟨p, 1, none⟩ v').heap[k]? = w.heap[k]? := fun k hk => Below.heap_setCell w ⟨p, 1, none⟩ _ k hk
  refine ⟨h1, h2, v', ps, ?_, rfl, ⟨h5.1, ?_⟩, h6, h7.kept (by simp) (fun k _ hp _ => hk k hp) (fun _ _ x => x)⟩
  · rw [heap_setCell_same w p 1 _ 60 v' h3]; rfl
  · rcases h5.2 with e | ⟨g, cap, cur, e1, e2, e3, e4⟩
    · exact .inl e
    · refine .inr ⟨g, cap, cur, e1, e2, (hk g ?_).trans e3, e4⟩
      intro e; apply h6; rw [e1, e]; rfl

set_option maxHeartbeats 800000 in
theorem remove_any (p most : Nat) (L : List (List UInt8)) (r : Option Nat) (k : Nat) (w : World) (h : NetR w p most L r) (hk : k < L.length) : Calls Try.prog 17 #[.pointer (some ⟨p, 0, none⟩), .int .i64 k] w fun e w' => e = .returned (.tuple #[]) ∧ NetR w' p most (L.take k ++ L.drop (k + 1)) r ∧ NS w w' p r r := by
  obtain ⟨h1, h2, v, ps, h3, h4, h5, h6, hPk⟩ := h
  have hl : ps.length = L.length := hPk.1
  rcases h5.2 with ⟨_, e⟩ | ⟨g, cap, cur, e1, e2, e3, e4, e5, e6, e7⟩
  · omega
  subst e1
  have hr : r = some g := h4.symm
  subst hr
  have hgp : g ≠ p := fun e => h6 (by rw [e])
  have c1 : w.cell? ⟨p, 1, none⟩ = some (.slice (some ⟨g, 0, none⟩) L.length cap) := by rw [cell_of_row w p 1 _ 60 (0, 0) h3]; rfl
  have hp : p < w.heap.size := (Array.getElem?_eq_some_iff.1 h3).1
  have hb : (k : Int) ≤ 257 := by omega
  have hD := delete_any g cap k ps cur w e3 (by omega) e5 (by omega) (by rw [hl, ← Nat.mul_one L.length]; exact e7) (by omega)
  have HL : Hid (ps.length = L.length) := hl
  rw [hl] at hD
  have HD := hidOf hD
  have H3 := hidOf h3
  have HP := hidOf hPk
  have HGP : Hid (g ≠ p) := hgp
  clear hD h3 hPk h5 e3 e7 hl h4 h6 e2 e6 hgp
  go_enter Try.func17, Try.ntmps17
  go_wp2_with fail
  refine Calls.mono HD.out ?_
  rintro e w1 ⟨rfl, ⟨cur', q1, q2, q3⟩, hg⟩
  have g3 : w1.heap[p]? = some (.cells #[.int .i64 most, .slice (some ⟨g, 0, none⟩) L.length cap] 60 (0, 0)) := (hg.block p hp (fun e => HGP.out (Option.some.inj e).symm)).trans H3.out
  have c1' : w1.cell? ⟨p, 1, none⟩ = some (.slice (some ⟨g, 0, none⟩) L.length cap) := by rw [cell_of_row w1 p 1 _ 60 (0, 0) g3]; rfl
  have f1' : w1.frozen? ⟨p, 1, none⟩ = false := by simp [World.frozen?, g3]
  have PK1 : Pks w1 p (some g) (ps.take k ++ ps.drop (k + 1)) (L.take k ++ L.drop (k + 1)) := (HP.out.kept hg.size (fun b hb _ hne => hg.block b hb (fun e => hne e.symm)) (fun _ _ x => x)).out k
  have hL' : (L.take k ++ L.drop (k + 1)).length = L.length - 1 := by simp; omega
  have FIN : Hid (NetR (w1.setCell ⟨p, 1, none⟩ (.slice (some ⟨g, 0, none⟩) (L.length - 1) cap)) p most (L.take k ++ L.drop (k + 1)) (some g) ∧ NS w (w1.setCell ⟨p, 1, none⟩ (.slice (some ⟨g, 0, none⟩) (L.length - 1) cap)) p (some g) (some g)) := by
    refine ⟨netR_set (v := .slice (some ⟨g, 0, none⟩) L.length cap) h1 (by omega) g3 ⟨?_, .inr ⟨g, cap, cur', by rw [hL'], Nat.zero_le _, q1, by omega, e5, by omega, ?_⟩⟩ (fun e => HGP.out (Option.some.inj e)) PK1, ⟨hg.os, hg.tape, hg.output, by simpa using hg.size, fun b hb hbp hne => ?_, .inl rfl⟩⟩
    · rw [hL']; have := HL.out; simp; omega
    · rw [hL', Nat.mul_one, ← q3]
    · exact (Below.heap_setCell w1 ⟨p, 1, none⟩ _ b hbp).trans (hg.block b hb hne)
  clear PK1 hg q1 q2 q3 hL' g3 H3 HP
  go_wp2
  go_end0
  exact ⟨rfl, FIN.out⟩

end Go.Proofs.Ytcdoejdbmllnnab

/- What add leaves: the packet stands last; where there are too many, the first is gone. -/
namespace Go.Proofs.Ytcdoejdbmllnnab
open Go.RowKit

def cutM (most : Nat) (L : List (List UInt8)) : List (List UInt8) := L.drop (L.length - most)
def Pkt (w : World) (p : Nat) (r : Option Nat) (x : Pk) (b : List UInt8) : Prop :=
  x.2.1 = b.length ∧ x.2.1 ≤ x.2.2 ∧ Bs w x.1 b ∧ ∀ y, x.1 = some y → y.block ≠ p ∧ r ≠ some y.block ∧ y.block < w.heap.size ∧ T5 w y.block
theorem Pks.more {w : World} {p : Nat} {r : Option Nat} {ps : List Pk} {L : List (List UInt8)} {x : Pk} {b : List UInt8} (h : Pks w p r ps L) (hx : Pkt w p r x b) : Pks w p r (ps ++ [x]) (L ++ [b]) := by
  have hl := h.1
  refine ⟨by simp [hl], fun i a c => ?_⟩
  by_cases hi : i < ps.length
  · rw [List.getElem_append_left hi, List.getElem_append_left (by omega)]
    exact h.2 i hi (by omega)
  · have he : i = ps.length := by simp at a; omega
    subst he
    simp only [List.getElem_concat_length, hl]
    exact hx
theorem Pkt.kept {w w' : World} {p : Nat} {r : Option Nat} {x : Pk} {b : List UInt8} (h : Pkt w p r x b) (hs : w.heap.size ≤ w'.heap.size) (hb : ∀ k, k < w.heap.size → k ≠ p → r ≠ some k → w'.heap[k]? = w.heap[k]?) : Pkt w' p r x b := by
  obtain ⟨a1, a2, a3, a4⟩ := h
  refine ⟨a1, a2, ⟨a3.1, fun hne => ?_⟩, fun y hy => ⟨(a4 y hy).1, (a4 y hy).2.1, Nat.lt_of_lt_of_le (a4 y hy).2.2.1 hs, (a4 y hy).2.2.2.to (hb _ (a4 y hy).2.2.1 (a4 y hy).1 (a4 y hy).2.1)⟩⟩
  obtain ⟨b', off, e, hlt, hc⟩ := a3.2 hne
  have := a4 _ e
  exact ⟨b', off, e, Nat.lt_of_lt_of_le hlt hs, fun j hj => (World.cell?_of_block (a := ⟨b', off + j, none⟩) (hb b' hlt this.1 this.2.1)).trans (hc j hj)⟩
theorem NetR.drew {w : World} {p most : Nat} {L : List (List UInt8)} {r : Option Nat} (h : NetR w p most L r) : NetR w.drew p most L r := h.kept (fun _ _ => rfl) (Nat.le_refl _)
theorem NS.drew {w w' : World} {p : Nat} {r r' : Option Nat} (h : NS w w' p r r') : NS w w'.drew p r r' := ⟨h.os, h.tape, h.output, h.size, h.block, h.row⟩

/- what the append and the store behind it leave -/
theorem net_more {w w3 : World} {p most : Nat} {L : List (List UInt8)} {r : Option Nat} {x : Pk} {b : List UInt8} {v v3 : Value} {ps : List Pk} (h1 : most ≤ 256) (hL : L.length ≤ most)
    (h3 : w.heap[p]? = some (.cells #[.int .i64 most, v] 60 (0, 0))) (h4 : v.ownBlock = r) (h6 : r ≠ some p) (h7 : Pks w p r ps L) (hx : Pkt w p r x b)
    (ho : w3.ownsRow 0 30 1 v3 (L.length + 1) (ps.map encP ++ [encP x])) (hg : (w.alloc (.cells #[encP x] 30)).grownBy w3 v.ownBlock) (hr : v3.ownBlock = v.ownBlock ∨ v3.ownBlock = some (w.heap.size + 1)) :
    NetR (w3.setCell ⟨p, 1, none⟩ v3) p most (L ++ [b]) v3.ownBlock ∧ NS w (w3.setCell ⟨p, 1, none⟩ v3) p r v3.ownBlock := by
  have hp : p < w.heap.size := (Array.getElem?_eq_some_iff.1 h3).1
  have hs : w.heap.size + 1 ≤ w3.heap.size := by have := hg.size; rwa [World.size_alloc] at this
  have hb : ∀ k, k < w.heap.size → r ≠ some k → w3.heap[k]? = w.heap[k]? := fun k hk hne => (hg.block k (by rw [World.size_alloc]; omega) (by rw [h4]; exact fun e => hne e.symm)).trans (Below.heap_alloc w _ k hk)
  have hr' : ∀ k, k < w.heap.size → r ≠ some k → v3.ownBlock ≠ some k := by
    intro k hk hne e
    rcases hr with q | q
    · rw [q, h4] at e; exact hne e
    · rw [q] at e; have := Option.some.inj e; omega
  refine ⟨netR_set (ps := ps ++ [x]) (v := v) h1 (by simp; omega) ((hb p hp h6).trans h3) ?_ (hr' p hp h6) ?_, ⟨hg.os, hg.tape, hg.output, by simp; omega, fun k hk hkp hkr => ?_, ?_⟩⟩
  · simpa using ho
  · exact (h7.more hx).kept (by omega) (fun k hk _ hne => hb k hk hne) hr'
  · exact (Below.heap_setCell w3 ⟨p, 1, none⟩ _ k hkp).trans (hb k hk (fun e => hkr e.symm))
  · rcases hr with q | q
    · exact .inl (q.trans h4)
    · exact .inr ⟨_, q, by omega⟩

theorem cut_all (most : Nat) (L : List (List UInt8)) (h : L.length ≤ most) : cutM most L = L := by
  unfold cutM; rw [show L.length - most = 0 by omega]; rfl
theorem cut_one (most : Nat) (L : List (List UInt8)) (h : L.length = most + 1) : cutM most L = L.take 0 ++ L.drop (0 + 1) := by
  unfold cutM; rw [show L.length - most = 0 + 1 by omega]; rfl

set_option maxHeartbeats 800000 in
set_option maxRecDepth 100000 in
theorem add_any (p most : Nat) (L : List (List UInt8)) (r : Option Nat) (x : Pk) (b : List UInt8) (w : World) (h : NetR w p most L r) (hL : L.length ≤ most) (hx : Pkt w p r x b) :
    Calls Try.prog 15 #[.pointer (some ⟨p, 0, none⟩), encP x] w fun e w' => e = .returned (.tuple #[]) ∧ ∃ r', NetR w' p most (cutM most (L ++ [b])) r' ∧ NS w w' p r r' := by
  obtain ⟨h1, h2, v, ps, h3, h4, h5, h6, hPk⟩ := h
  obtain ⟨i0, hi0, hz0, hz1, hz2⟩ := info_parts info30
  have c1 : w.cell? ⟨p, 1, none⟩ = some v := by rw [cell_of_row w p 1 _ 60 (0, 0) h3]; rfl
  have hp : p < w.heap.size := (Array.getElem?_eq_some_iff.1 h3).1
  have H3 := hidOf h3
  have H4 := hidOf h4
  have H6 := hidOf h6
  have HP := hidOf hPk
  have HX := hidOf hx
  have H5 := hidOf h5
  have HI := hidOf hi0
  have HZ0 := hidOf hz0
  have HZ1 := hidOf hz1
  have HZ2 := hidOf hz2
  clear h3 h4 h6 hPk hx h5 hi0 hz0 hz1 hz2
  obtain ⟨pa, pn, pc⟩ := x
  have O1 : Hid (∀ u ∈ (#[.slice pa pn pc] : Array Value).toList, u.oneCell' = true) := by intro u hu; simp at hu; subst hu; rfl
  change Calls Try.prog 15 #[.pointer (some ⟨p, 0, none⟩), .slice pa pn pc] w _
  go_enter Try.func15, Try.ntmps15
  go_wp2_with (at_builtin; refine wpList_append_own2 _ rfl (.tmp 8) (.tmp 10) 58 rfl 0 30 i0 (.slice none 0 0) 1 24 Try.underlying58 HI.out HZ0.out HZ1.out HZ2.out rfl (by decide) _ _ _ rfl (H5.out.alloc _) ⟨w.heap.size, 0, none⟩ 1 1 (#[.slice pa pn pc] : Array Value).toList rfl rfl (fun j u hj => cell_news w _ _ j u hj) O1.out ?c3 ?c4 (Nat.zero_le _) ?next)
  case c3 => unfold maxLen; omega
  case c4 => omega
  case next =>
    intro v3 w3 ho3 hg3 hw3
    have FIN := hidOf (net_more (x := (pa, pn, pc)) h1 hL H3.out H4.out H6.out HP.out HX.out ho3 hg3 (by first | exact hw3 | (rw [World.size_alloc] at hw3; exact hw3)))
    have g3 : w3.heap[p]? = some (.cells #[.int .i64 most, v] 60 (0, 0)) := ((hg3.block p (by rw [World.size_alloc]; omega) (by rw [H4.out]; exact fun e => H6.out e.symm)).trans (Below.heap_alloc w _ p hp)).trans H3.out
    have c1' : w3.cell? ⟨p, 1, none⟩ = some v := by rw [cell_of_row w3 p 1 _ 60 (0, 0) g3]; rfl
    have c0' : w3.cell? ⟨p, 0, none⟩ = some (.int .i64 most) := by rw [cell_of_row w3 p 0 _ 60 (0, 0) g3]; rfl
    have f1' : w3.frozen? ⟨p, 1, none⟩ = false := by simp [World.frozen?, g3]
    have hp3 : p < w3.heap.size := (Array.getElem?_eq_some_iff.1 g3).1
    obtain ⟨g, cap, hv3, hcap⟩ : ∃ g cap, v3 = .slice (some ⟨g, 0, none⟩) (L.length + 1) cap ∧ L.length + 1 ≤ cap ∧ cap ≤ maxLen := by
      rcases ho3.2 with ⟨e, _⟩ | ⟨g, cap, cur, e1, e2, e3, e4, e5, _⟩
      · omega
      · exact ⟨g, cap, e1, e4, e5⟩
    subst hv3
    clear ho3 hg3 hw3 g3 H3 H4 H6 HP HX H5 HI HZ0 HZ1 HZ2 O1
    by_cases hm0 : most < L.length + 1
    · have HC := hidOf (cut_one most (L ++ [b]) (by simp; omega))
      have hm1 : ((L.length : Int) + 1 > most) := by omega
      have HL1 : Hid (0 < (L ++ [b]).length) := by show 0 < _; simp
      clear hL hm0
      go_wp2
      go_region
      go_wp2_with fail
      refine (remove_any p most (L ++ [b]) _ 0 _ FIN.out.1.drew HL1.out).mono ?_
      rintro e w4 ⟨rfl, hn4, hs4⟩
      rw [← HC.out] at hn4
      have HE := hidOf (show NetR w4 p most (cutM most (L ++ [b])) (some g) ∧ NS w w4 p r (some g) from ⟨hn4, FIN.out.2.drew.trans hs4⟩)
      clear hn4 hs4
      go_wp2
      go_end0
      exact ⟨rfl, _, HE.out⟩
    · have HC := hidOf (cut_all most (L ++ [b]) (by simp; omega))
      have hm2 : ¬ ((L.length : Int) + 1 > most) := by omega
      clear hL hm0
      go_wp2
      go_region
      go_wp2
      go_end0
      rw [HC.out]
      exact ⟨rfl, _, FIN.out.1.drew, FIN.out.2.drew⟩

end Go.Proofs.Ytcdoejdbmllnnab

/- Send and Lose: what a message that may be written leaves, and one that may not; a packet lost. -/
namespace Go.Proofs.Ytcdoejdbmllnnab
open Go.RowKit

theorem NetR.plt {w : World} {p most : Nat} {L : List (List UInt8)} {r : Option Nat} (h : NetR w p most L r) : p < w.heap.size := h.cells.1
theorem NetR.rlt {w : World} {p most : Nat} {L : List (List UInt8)} {r : Option Nat} (h : NetR w p most L r) : ∀ k, r = some k → k < w.heap.size := by
  obtain ⟨h1, h2, v, ps, h3, h4, h5, h6, h7⟩ := h
  intro k hk
  rcases h5.2 with ⟨e, _⟩ | ⟨g, cap, cur, e1, e2, e3, _⟩
  · rw [e] at h4; rw [hk] at h4; cases h4
  · rw [e1] at h4; rw [hk] at h4; cases h4; exact (Array.getElem?_eq_some_iff.1 e3).1
theorem own_pkt {w : World} {v : Value} {l : List UInt8} {p : Nat} {r : Option Nat} (h : Own w v l) (hl : l.length ≤ 211106232532992) (hb : ∀ k, v.ownBlock = some k → k ≠ p ∧ r ≠ some k) : ∃ x : Pk, v = encP x ∧ Pkt w p r x l := by
  obtain ⟨a', cap', e', hbs⟩ := h.form
  have hlt := h.lt
  rcases h with ⟨e, rfl⟩ | ⟨g, cap, cur, e, hg, hc, hm, hcs, ht⟩
  · subst e
    cases e'
    exact ⟨(none, 0, 0), rfl, rfl, Nat.le_refl _, hbs hl, fun y hy => by cases hy⟩
  · subst e
    cases e'
    exact ⟨(some ⟨g, 0, none⟩, l.length, _), rfl, rfl, hc, hbs hl, fun y hy => by cases hy; exact ⟨(hb g rfl).1, (hb g rfl).2, hlt g rfl, cur, hg⟩⟩
theorem mxl_msg : mx F_msg ≤ 211106232532992 := Nat.le_of_ble_eq_true (by kernel_rfl)
theorem box_msg : (Try.prog.info? 48).map (·.size) = some (wd F_msg) := by kernel_rfl

set_option maxHeartbeats 800000 in
set_option maxRecDepth 100000 in
theorem send_no (p most : Nat) (L : List (List UInt8)) (r : Option Nat) (cs : List Value) (v : Vl F_msg) (w : World) (h : NetR w p most L r) (hr : Rep w (fun b => b < w.heap.size) F_msg cs v) (hv : (en F_msg v).2 = true) :
    Calls Try.prog 8 #[.pointer (some ⟨p, 0, none⟩), .agg cs.toArray] w fun e w' => e = .returned (.int .i64 1) ∧ NetR w' p most L r ∧ Below w.heap.size w w' := by
  have hsz : Hid ((Try.prog.info? 48).map (·.size) = some cs.toArray.size) := by show _ = _; rw [List.size_toArray, hr.len]; exact box_msg
  have hB0 : Below w.heap.size w (w.alloc (.cells cs.toArray 48)) := (Below.refl _ _).alloc (Nat.le_refl _) _
  have HR : Hid (Rep (w.alloc (.cells cs.toArray 48)) (fun b => b < (w.alloc (.cells cs.toArray 48)).heap.size) F_msg cs v) := hr.kept hB0.size (fun b hb => hB0.block b hb) (fun b x => Nat.lt_of_lt_of_le x hB0.size)
  have HN := hidOf h
  have HV := hidOf hv
  have HB0 := hidOf hB0
  clear h hr hv hB0
  go_enter Try.func8, Try.ntmps8
  go_wp2_with (refine wpList_load_row rfl 48 (.tmp 3) rfl w.heap.size rfl 48 cs.toArray (0, 0) _ (heap_alloc_new w _) Try.underlying48 rfl hsz.out ?_)
  refine (putMsg_w cs v _ HR.out).mono ?_
  rintro e w1 ⟨val, rfl, hO, hN0, hB1⟩
  have hB : Below w.heap.size w w1 := HB0.out.trans (hB1.mono HB0.out.size)
  have HF := hidOf (HN.out.grow hB)
  rw [show codeB (en F_msg v).2 = 1 by rw [HV.out]; rfl]
  clear hO hN0 hB1 HB0 HR
  go_wp2
  go_ret
  exact ⟨rfl, HF.out, hB⟩

set_option maxHeartbeats 800000 in
set_option maxRecDepth 100000 in
theorem send_ok (p most : Nat) (L : List (List UInt8)) (r : Option Nat) (cs : List Value) (v : Vl F_msg) (w : World) (h : NetR w p most L r) (hL : L.length ≤ most) (hr : Rep w (fun b => b < w.heap.size) F_msg cs v) (hv : (en F_msg v).2 = false) :
    Calls Try.prog 8 #[.pointer (some ⟨p, 0, none⟩), .agg cs.toArray] w fun e w' => e = .returned (.int .i64 0) ∧ ∃ r', NetR w' p most (cutM most (L ++ [(en F_msg v).1])) r' ∧ NS w w' p r r' := by
  have hsz : Hid ((Try.prog.info? 48).map (·.size) = some cs.toArray.size) := by show _ = _; rw [List.size_toArray, hr.len]; exact box_msg
  have hB0 : Below w.heap.size w (w.alloc (.cells cs.toArray 48)) := (Below.refl _ _).alloc (Nat.le_refl _) _
  have HR : Hid (Rep (w.alloc (.cells cs.toArray 48)) (fun b => b < (w.alloc (.cells cs.toArray 48)).heap.size) F_msg cs v) := hr.kept hB0.size (fun b hb => hB0.block b hb) (fun b x => Nat.lt_of_lt_of_le x hB0.size)
  have HN := hidOf h
  have HV := hidOf hv
  have HB0 := hidOf hB0
  clear h hr hv hB0
  go_enter Try.func8, Try.ntmps8
  go_wp2_with (refine wpList_load_row rfl 48 (.tmp 3) rfl w.heap.size rfl 48 cs.toArray (0, 0) _ (heap_alloc_new w _) Try.underlying48 rfl hsz.out ?_)
  refine (putMsg_w cs v _ HR.out).mono ?_
  rintro e w1 ⟨val, rfl, hO, hN0, hB1⟩
  have hB : Below w.heap.size w w1 := HB0.out.trans (hB1.mono HB0.out.size)
  have HF := hidOf (HN.out.grow hB)
  have hby : bytesB (en F_msg v) = (en F_msg v).1 := by unfold bytesB; rw [HV.out]; rfl
  rw [hby] at hO
  have hl : (en F_msg v).1.length ≤ 211106232532992 := Nat.le_trans (en_len F_msg v) mxl_msg
  obtain ⟨x, rfl, hx⟩ := own_pkt (p := p) (r := r) hO hl (fun k hk => by
    have h1 := hN0 k hk
    rw [World.size_alloc] at h1
    have h2 := HN.out.plt
    exact ⟨by omega, fun e => by have := HN.out.rlt k e; omega⟩)
  have HX := hidOf hx
  have HBB := hidOf hB
  rw [show codeB (en F_msg v).2 = 0 by rw [HV.out]; rfl]
  clear hO hN0 hB1 HB0 HR hx hl hby hB
  go_wp2_with fail
  refine (add_any p most L r x _ w1 HF.out hL HX.out).mono ?_
  rintro e w2 ⟨rfl, r', hn2, hs2⟩
  have HE := hidOf (show NetR w2 p most (cutM most (L ++ [(en F_msg v).1])) r' ∧ NS w w2 p r r' from ⟨hn2, (NS.of_below HBB.out).trans hs2⟩)
  clear hn2 hs2 HX
  go_wp2
  go_ret
  exact ⟨rfl, r', HE.out⟩

set_option maxHeartbeats 400000 in
theorem lose_no (p most : Nat) (L : List (List UInt8)) (r : Option Nat) (k : Int) (w : World) (h : NetR w p most L r) (hk : hasB L k = false) : Calls Try.prog 12 #[.pointer (some ⟨p, 0, none⟩), .int .i64 k] w fun e w' => e = .returned (.bool false) ∧ w' = w := by
  have H := hidOf h
  have HK := hidOf hk
  clear h hk
  go_enter Try.func12, Try.ntmps12
  go_wp2_with fail
  refine (has_any p most L r k w H.out).mono ?_
  rintro e w1 ⟨rfl, hw⟩
  subst hw
  rw [HK.out]
  go_wp2
  go_ret
  exact ⟨rfl, rfl⟩
theorem has_in (L : List (List UInt8)) (k : Nat) (h : k < L.length) : hasB L (k : Int) = true := by simp [hasB]; omega
set_option maxHeartbeats 400000 in
theorem lose_ok (p most : Nat) (L : List (List UInt8)) (r : Option Nat) (k : Nat) (w : World) (h : NetR w p most L r) (hk : k < L.length) : Calls Try.prog 12 #[.pointer (some ⟨p, 0, none⟩), .int .i64 (k : Int)] w fun e w' => e = .returned (.bool true) ∧ NetR w' p most (L.take k ++ L.drop (k + 1)) r ∧ NS w w' p r r := by
  have H := hidOf h
  have HK := hidOf hk
  have HH := hidOf (has_in L k hk)
  clear h hk
  go_enter Try.func12, Try.ntmps12
  go_wp2_with fail
  refine (has_any p most L r k w H.out).mono ?_
  rintro e w1 ⟨rfl, hw⟩
  subst hw
  rw [HH.out]
  go_wp2_with fail
  refine (remove_any p most L r k _ H.out HK.out).mono ?_
  rintro e w2 ⟨rfl, hn2⟩
  have HE := hidOf hn2
  clear hn2
  go_wp2
  go_ret
  exact ⟨rfl, HE.out⟩

end Go.Proofs.Ytcdoejdbmllnnab

/- Copy and Deliver: a packet doubled; a packet taken out, and the message that it is. -/
namespace Go.Proofs.Ytcdoejdbmllnnab
open Go.RowKit

theorem NetR.get {w : World} {p most : Nat} {L : List (List UInt8)} {r : Option Nat} (h : NetR w p most L r) (k : Nat) (l : List UInt8) (hk : L[k]? = some l) :
    ∃ g cap x, w.cell? ⟨p, 1, none⟩ = some (.slice (some ⟨g, 0, none⟩) L.length cap) ∧ L.length ≤ cap ∧ cap ≤ maxLen ∧ w.cell? ⟨g, k, none⟩ = some (encP x) ∧ Pkt w p r x l := by
  obtain ⟨h1, h2, v, ps, h3, h4, h5, h6, h7⟩ := h
  obtain ⟨hkl, hke⟩ := List.getElem?_eq_some_iff.1 hk
  rcases h5.2 with ⟨_, e⟩ | ⟨g, cap, cur, e1, e2, e3, e4, e5, e6, e7⟩
  · omega
  · subst e1
    have hkp : k < ps.length := by have := h7.1; omega
    refine ⟨g, cap, ps[k], ?_, e4, e5, ?_, ?_⟩
    · rw [cell_of_row w p 1 _ 60 (0, 0) h3]; rfl
    · rw [cell_of_row w g k cur 30 (0, 0) e3]
      have h8 : (cur.toList.take (L.length * 1))[k]? = (ps.map encP)[k]? := by rw [e7]
      rw [List.getElem?_take, if_pos (by omega), List.getElem?_map, List.getElem?_eq_getElem hkp] at h8
      simpa using h8
    · have := h7.2 k hkp hkl
      rw [hke] at this
      exact this
/- a block that is not of bytes may be written: the net is as it was -/
theorem NetR.kept1 {w w' : World} {p most q : Nat} {L : List (List UInt8)} {r : Option Nat} {cs : Array Value} {t : TypeId} {fr : Nat × Nat} (h : NetR w p most L r) (hq : w.heap[q]? = some (.cells cs t fr)) (ht : t ≠ 5) (hp : p ≠ q) (hr : r ≠ some q)
    (hb : ∀ k, k < w.heap.size → k ≠ q → w'.heap[k]? = w.heap[k]?) (hs : w.heap.size ≤ w'.heap.size) : NetR w' p most L r := by
  obtain ⟨h1, h2, v, ps, h3, h4, h5, h6, h7, h8⟩ := h
  refine ⟨h1, h2, v, ps, (hb p (Array.getElem?_eq_some_iff.1 h3).1 hp).trans h3, h4, ⟨h5.1, ?_⟩, h6, h7, fun i a b => ?_⟩
  · rcases h5.2 with e | ⟨g, cap, cur, e1, e2, e3, e4⟩
    · exact .inl e
    · refine .inr ⟨g, cap, cur, e1, e2, (hb g (Array.getElem?_eq_some_iff.1 e3).1 ?_).trans e3, e4⟩
      intro e; subst e; apply hr; rw [← h4, e1]; rfl
  · obtain ⟨a1, a2, a3, a4⟩ := h8 i a b
    have hne5 : ∀ b', T5 w b' → b' ≠ q := by
      rintro b' ⟨c, hc⟩ e2
      subst e2
      rw [hq] at hc
      cases hc
      exact ht rfl
    refine ⟨a1, a2, ⟨a3.1, fun hne => ?_⟩, fun y hy => ⟨(a4 y hy).1, (a4 y hy).2.1, Nat.lt_of_lt_of_le (a4 y hy).2.2.1 hs, (a4 y hy).2.2.2.to (hb _ (a4 y hy).2.2.1 (hne5 _ (a4 y hy).2.2.2))⟩⟩
    obtain ⟨b', off, e, hlt, hcl⟩ := a3.2 hne
    have hbq : b' ≠ q := hne5 b' (a4 _ e).2.2.2
    exact ⟨b', off, e, Nat.lt_of_lt_of_le hlt hs, fun j hj => (World.cell?_of_block (a := ⟨b', off + j, none⟩) (hb b' hlt hbq)).trans (hcl j hj)⟩
/- a block of another kind is neither the net nor its row -/
theorem NetR.apart {w : World} {p most q : Nat} {L : List (List UInt8)} {r : Option Nat} {cs : Array Value} {t : TypeId} {fr : Nat × Nat} (h : NetR w p most L r) (hq : w.heap[q]? = some (.cells cs t fr)) (h60 : t ≠ 60) (h30 : t ≠ 30) : q ≠ p ∧ some q ≠ r := by
  obtain ⟨h1, h2, v, ps, h3, h4, h5, h6, h7, h8⟩ := h
  constructor
  · intro e; subst e; rw [hq] at h3; cases h3; exact h60 rfl
  · intro e
    rcases h5.2 with ⟨e1, _⟩ | ⟨g, cap, cur, e1, e2, e3, e4⟩
    · rw [e1] at h4; rw [← e] at h4; cases h4
    · rw [e1, ← e] at h4; cases h4; rw [hq] at e3; cases e3; exact h30 rfl

set_option maxHeartbeats 800000 in
set_option maxRecDepth 100000 in
theorem copy_ok (p most : Nat) (L : List (List UInt8)) (r : Option Nat) (k : Nat) (l : List UInt8) (w : World) (h : NetR w p most L r) (hL : L.length ≤ most) (hkl : L[k]? = some l) :
    Calls Try.prog 13 #[.pointer (some ⟨p, 0, none⟩), .int .i64 (k : Int)] w fun e w' => e = .returned (.bool true) ∧ ∃ r', NetR w' p most (cutM most (L ++ [l])) r' ∧ NS w w' p r r' := by
  obtain ⟨hk, _⟩ := List.getElem?_eq_some_iff.1 hkl
  obtain ⟨g, cap, x, c1, q1, q2, c2, hx⟩ := h.get k l hkl
  obtain ⟨pa, pn, pc⟩ := x
  have c2' : w.cell? ⟨g, k, none⟩ = some (.slice pa pn pc) := c2
  have h2 : most ≤ 256 := h.1
  have H := hidOf h
  have HX := hidOf hx
  have HH := hidOf (has_in L k hk)
  clear h hx c2 hkl
  go_enter Try.func13, Try.ntmps13
  go_wp2_with fail
  refine (has_any p most L r k w H.out).mono ?_
  rintro e w1 ⟨rfl, hw⟩
  subst hw
  rw [HH.out]
  go_wp2_with fail
  refine (add_any p most L r (pa, pn, pc) l _ H.out hL HX.out).mono ?_
  rintro e w2 ⟨rfl, hn2⟩
  have HE := hidOf hn2
  clear hn2
  go_wp2
  go_ret
  exact ⟨rfl, HE.out⟩

set_option maxHeartbeats 800000 in
set_option maxRecDepth 100000 in
theorem deliver_ok (p most : Nat) (L : List (List UInt8)) (r : Option Nat) (k : Nat) (l : List UInt8) (w : World) (h : NetR w p most L r) (hkl : L[k]? = some l) :
    Calls Try.prog 10 #[.pointer (some ⟨p, 0, none⟩), .int .i64 (k : Int)] w fun e w' => ∃ (cs : List Value) (v : Vl F_msg), e = .returned (.tuple #[.agg cs.toArray, .bool (decide ((de F_msg (some l)).2 = some []))]) ∧ Rep w' (NB w w') F_msg cs v ∧
      ((de F_msg (some l)).2 = some [] → v = (de F_msg (some l)).1) ∧ NetR w' p most (L.take k ++ L.drop (k + 1)) r ∧ NS w w' p r r := by
  obtain ⟨hk, _⟩ := List.getElem?_eq_some_iff.1 hkl
  have hB0 : Below w.heap.size w (w.alloc (.cells Zr_msg 48)) := (Below.refl _ _).alloc (Nat.le_refl _) _
  have h0 : NetR (w.alloc (.cells Zr_msg 48)) p most L r := h.grow hB0
  obtain ⟨g, cap, x, c1, q1, q2, c2, hx⟩ := h0.get k l hkl
  obtain ⟨pa, pn, pc⟩ := x
  have c2' : (w.alloc (.cells Zr_msg 48)).cell? ⟨g, k, none⟩ = some (.slice pa pn pc) := c2
  have g0 : Hid ((w.alloc (.cells Zr_msg 48)).heap[w.heap.size]? = some (.cells Zr_msg 48 (0, 0))) := heap_alloc_new w _
  have h2 : L.length ≤ 257 := h.2.1
  have HP := hidOf h.plt
  have HRL := hidOf h.rlt
  have H := hidOf h0
  have HX := hidOf hx
  have HH := hidOf (has_in L k hk)
  have HK := hidOf hk
  have HB0 := hidOf hB0
  clear h hx c2 hkl h0 hB0
  go_enter Try.func10, Try.ntmps10
  go_wp2_with fail
  refine (has_any p most L r k _ H.out).mono ?_
  rintro e w1 ⟨rfl, hw⟩
  subst hw
  rw [HH.out]
  go_wp2_with fail
  refine (remove_any p most L r k _ H.out HK.out).mono ?_
  rintro e w2 ⟨rfl, hn2, hs2⟩
  have hsz1 : w.heap.size < (w.alloc (.cells Zr_msg 48)).heap.size := by rw [World.size_alloc]; omega
  have hsz2 : w.heap.size < w2.heap.size := Nat.lt_of_lt_of_le hsz1 hs2.size
  have hne1 : w.heap.size ≠ p := by have := HP.out; omega
  have hne2 : some w.heap.size ≠ r := fun e => by have := HRL.out _ e.symm; omega
  have g2 : w2.heap[w.heap.size]? = some (.cells Zr_msg 48 (0, 0)) := (hs2.block _ hsz1 hne1 hne2).trans g0.out
  have hx2 : Pkt w2 p r (pa, pn, pc) l := HX.out.kept hs2.size (fun k hk hp hr => hs2.block k hk hp (fun e => hr e.symm))
  have HX2 := hidOf hx2
  have HN2 := hidOf hn2
  have HS2 := hidOf hs2
  have HG2 := hidOf g2
  have HNE1 := hidOf hne1
  have HNE2 := hidOf hne2
  have HSZ2 := hidOf hsz2
  clear hn2 hs2 hx2 g2 hne1 hne2 hsz1 hsz2 g0 HX H
  go_wp2_with fail
  refine (getv_msg pa pn pc l w2 HX2.out.1 HX2.out.2.1 HX2.out.2.2.1 (fun y hy => (HX2.out.2.2.2 y hy).2.2.1)).mono ?_
  rintro e w3 ⟨cl, vv, he, hrep, hval, hB3⟩
  have hcs : cl.toArray.size = Zr_msg.size := by rw [List.size_toArray, hrep.len]; kernel_rfl
  have HRE : Hid (Rep w3 (NBr (w.heap.size + 1) w3) F_msg cl vv) := hrep.keptN (Nat.le_refl _) (fun _ _ _ => rfl) HSZ2.out
  have HVAL := hidOf hval
  have HCO : Hid (cl.toArray.all (·.oneCell') = true) := hrep.all
  have HN3 := hidOf (HN2.out.grow hB3)
  have HG3 := hidOf ((hB3.block _ HSZ2.out).trans HG2.out)
  have HNS3 := hidOf (((NS.of_below (p := p) (r := r) HB0.out).trans HS2.out).trans (NS.of_below hB3))
  have HSZ3 := hidOf (Nat.lt_of_lt_of_le HSZ2.out hB3.size)
  obtain ⟨cs, hcl⟩ : ∃ cs, Hid (cl.toArray = cs) := ⟨_, rfl⟩
  rw [hcl.out] at he hcs HCO
  have HCS := hidOf hcs
  have HCI : Hid ((Try.prog.info? 48).map (·.size) = some cs.size) := by show _ = _; rw [hcs]; exact Zr_msg_i
  obtain ⟨okb, hokb⟩ : ∃ okb, Hid (decide ((de F_msg (some l)).2 = some []) = okb) := ⟨_, rfl⟩
  rw [hokb.out] at he
  subst he
  clear hrep hval hcs hB3 HN2 HS2 HG2 HX2 HB0
  go_wp2_with (refine wpList_store_rowF rfl 48 (.tmp 4) (.tmp 24) rfl w.heap.size cs rfl rfl 48 Zr_msg HG3.out HCI.out HCS.out.symm HCO.out ?next)
  case next =>
    intro w4 hw4h
    have hw4 := hw4h.out
    have blk4 : ∀ b, b ≠ w.heap.size → w4.heap[b]? = w3.heap[b]? := fun b hb => by rw [hw4]; exact setRow_other _ _ _ _ hb
    have hsz4 : w4.heap.size = w3.heap.size := by rw [hw4]; simp [World.setRow]
    have g4 : Hid (w4.heap[w.heap.size]? = some (.cells cs 48 (0, 0))) := by
      show _ = _
      rw [hw4]; exact setRow_heap _ _ _ _ 48 _ HG3.out
    have os4 : w4.os = w3.os := by rw [hw4]; rfl
    have tp4 : w4.tape = w3.tape := by rw [hw4]; rfl
    have ou4 : w4.output = w3.output := by rw [hw4]; rfl
    have HRE4 : Hid (Rep w4 (NB w w4) F_msg cl vv) := HRE.out.keptN (by omega) (fun b h1 h2 => blk4 b (by omega)) (Nat.le_succ _)
    have HN4 := hidOf (HN3.out.kept1 (w' := w4) HG3.out (by decide) (fun e => HNE1.out e.symm) (fun e => HNE2.out e.symm) (fun k _ hk => blk4 k hk) (by omega))
    have hns := HNS3.out
    have HNS4 : Hid (NS w w4 p r r) := ⟨os4.trans hns.os, tp4.trans hns.tape, ou4.trans hns.output, by rw [hsz4]; exact hns.size, fun b hb hp hr => (blk4 b (by omega)).trans (hns.block b hb hp hr), .inl rfl⟩
    clear hw4 hw4h hns blk4 hsz4 os4 tp4 ou4
    go_wp2
    refine bodyPost_ret (v := .tuple #[.agg cs, .bool okb]) ?_ rfl ⟨cl, vv, by rw [hokb.out, hcl.out], HRE4.out, HVAL.out, HN4.out, HNS4.out⟩
    simp [results, Try.results10, asAddr, run_loadVar_row w4 w.heap.size 48 48 cs (0, 0) _ g4.out Try.underlying48 rfl HCI.out]

end Go.Proofs.Ytcdoejdbmllnnab

/- The law's own example: a message is sent, doubled, delivered; what it answers. And the number Ctx of a message in its cells. -/
namespace Go.Proofs.Ytcdoejdbmllnnab
open Go.RowKit

def ctxOf (v : Vl F_msg) : Int := v.2.2.2.2.2.2.2.2.1
def toOf (v : Vl F_msg) : Int := v.2.2.1
def withCtx (v : Vl F_msg) (n : Int) : Vl F_msg := (v.1, v.2.1, v.2.2.1, v.2.2.2.1, v.2.2.2.2.1, v.2.2.2.2.2.1, v.2.2.2.2.2.2.1, v.2.2.2.2.2.2.2.1, n, v.2.2.2.2.2.2.2.2.2)
theorem ctx_with (v : Vl F_msg) (n : Int) : ctxOf (withCtx v n) = n := rfl
theorem ctx_cells {w : World} {S : Nat → Prop} {cs : List Value} {v : Vl F_msg} (h : Rep w S F_msg cs v) :
    cs[2]? = some (.int .i64 (toOf v)) ∧ cs[8]? = some (.int .i64 (ctxOf v)) ∧ ∀ n, Rep w S F_msg (cs.set 8 (.int .i64 n)) (withCtx v n) := by
  obtain ⟨_, _, rfl, r0, _, _, rfl, r1, _, _, rfl, r2, _, _, rfl, r3, _, _, rfl, r4, _, _, rfl, r5, _, _, rfl, r6, _, _, rfl, r7, _, t, rfl, r8, rest⟩ := h
  simp only [Rep] at r0 r1 r2 r3 r4 r5 r6 r7 r8
  subst r0 r1 r2 r3 r4 r5 r6 r7 r8
  refine ⟨rfl, rfl, fun n => ⟨_, _, rfl, rfl, _, _, rfl, rfl, _, _, rfl, rfl, _, _, rfl, rfl, _, _, rfl, rfl, _, _, rfl, rfl, _, _, rfl, rfl, _, _, rfl, rfl, [.int .i64 n], t, rfl, rfl, rest⟩⟩

def Km : List Value := [.int .i64 1, .int .i64 0, .int .i64 2, .int .i64 0, .int .i64 0, .int .i64 0, .int .i64 0, .bool false, .int .i64 0, .int .i64 0, .int .i64 0, .int .i64 0, .slice none 0 0, .slice none 0 0, .slice none 0 0, .slice none 0 0, .int .i64 0, .int .i64 0, .int .i64 0, .int .i64 0, .int .i64 0, .int .i64 0, .int .i64 0, .slice none 0 0, .int .i64 0, .bool false, .int .i64 0, .int .i64 0, .int .i64 0, .bool false, .bool false, .int .i64 0, .int .i64 0, .int .i64 0, .slice none 0 0, .int .i64 0, .int .i64 0, .int .i64 0, .slice none 0 0, .slice none 0 0, .bool false, .slice none 0 0, .slice none 0 0, .int .i64 0, .int .i64 0, .slice none 0 0]
def Kv : Vl F_msg := (1, 0, 2, 0, 0, 0, 0, false, 0, 0, 0, 0, [], Zv_conf, [], Zv_cmd, Zv_result)
theorem km_rep (w : World) (S : Nat → Prop) : Rep w S F_msg Km Kv := mk_msg 1 0 2 0 0 0 0 false 0 0 0 0 none 0 [] (.slice none 0 0) (.slice none 0 0) Zv_conf none 0 [] (.int .i64 0) (.int .i64 0) (.int .i64 0) (.int .i64 0) (.int .i64 0) (.int .i64 0) (.int .i64 0) (.slice none 0 0) (.int .i64 0) (.bool false) (.int .i64 0) (.int .i64 0) (.int .i64 0) (.bool false) (.bool false) (.int .i64 0) (.int .i64 0) (.int .i64 0) (.slice none 0 0) (.int .i64 0) (.int .i64 0) (.int .i64 0) (.slice none 0 0) (.slice none 0 0) (.bool false) (.slice none 0 0) (.slice none 0 0) Zv_cmd (.int .i64 0) (.int .i64 0) (.slice none 0 0) Zv_result ⟨by simp, fun h => absurd rfl h⟩ (rz_conf w S) ⟨Nat.le_refl _, ⟨by simp, fun h => absurd rfl h⟩, fun h => absurd rfl h⟩ (rz_cmd w S) (rz_result w S)
theorem kv_ok : (en F_msg Kv).2 = false := by kernel_rfl
theorem kv_to : toOf Kv = 2 := rfl

set_option maxHeartbeats 1600000 in
set_option maxRecDepth 100000 in
theorem known_any (w : World) : Calls Try.prog 7 #[] w fun e w' => e = .returned (.bool true) ∧ Below w.heap.size w w' := by
  have hB1 : Below w.heap.size w (w.alloc (.cells #[.int .i64 2, .slice none 0 0] 60)) := (Below.refl _ _).alloc (Nat.le_refl _) _
  have HB1 := hidOf hB1
  have HN1 := hidOf (netR_new w 2 (by omega))
  obtain ⟨b, hb⟩ : ∃ b, Hid ((en F_msg Kv).1 = b) := ⟨_, rfl⟩
  have HD : Hid ((de F_msg (some b)).2 = some [] ∧ (de F_msg (some b)).1 = Kv) := by
    have h := de_en F_msg Kv [] kv_ok
    rw [List.append_nil, hb.out] at h
    show _ ∧ _
    rw [h]; exact ⟨rfl, rfl⟩
  clear hB1
  go_enter Try.func7, Try.ntmps7
  go_wp2_with fail
  refine (new_ok 2 w (by omega) (by omega)).mono ?_
  rintro e w1 ⟨rfl, rfl⟩
  go_wp2_with fail
  refine (send_ok w.heap.size 2 [] none Km Kv _ HN1.out (by simp) (km_rep _ _) kv_ok).mono ?_
  rintro e w2 ⟨rfl, r2, hn2, hs2⟩
  rw [hb.out, List.nil_append, cut_all 2 [b] (by simp)] at hn2
  have HN2 := hidOf hn2
  have HS2 := hidOf hs2
  clear hn2 hs2
  go_wp2_with fail
  refine (copy_ok w.heap.size 2 [b] r2 0 b _ HN2.out (by simp) rfl).mono ?_
  rintro e w3 ⟨rfl, r3, hn3, hs3⟩
  rw [cut_all 2 ([b] ++ [b]) (by simp)] at hn3
  have HN3 := hidOf hn3
  have HS3 := hidOf (HS2.out.trans hs3)
  clear hn3 hs3 HN2 HS2
  go_wp2_with fail
  refine (deliver_ok w.heap.size 2 ([b] ++ [b]) r3 1 b _ HN3.out rfl).mono ?_
  rintro e w4 ⟨cl, vv, he, hrep, hval, hn4, hs4⟩
  have hv : vv = Kv := (hval HD.out.1).trans HD.out.2
  subst hv
  rw [show ([b] ++ [b]).take 1 ++ ([b] ++ [b]).drop (1 + 1) = [b] from rfl] at hn4
  have hcs : cl.toArray.size = Zr_msg.size := by rw [List.size_toArray, hrep.len]; kernel_rfl
  have hco : cl.toArray.all (·.oneCell') = true := hrep.all
  have hto : cl.toArray[2]? = some (.int .i64 2) := by rw [List.getElem?_toArray, (ctx_cells hrep).1, kv_to]
  rw [show decide ((de F_msg (some b)).2 = some []) = true from by simp [HD.out.1]] at he
  obtain ⟨cs, hcl⟩ : ∃ cs, cl.toArray = cs := ⟨_, rfl⟩
  rw [hcl] at he hcs hco hto
  subst he
  have HCS := hidOf hcs
  have HCO := hidOf hco
  have HTO := hidOf hto
  have HCI : Hid ((Try.prog.info? 48).map (·.size) = some cs.size) := by show _ = _; rw [hcs]; exact Zr_msg_i
  have HN4 := hidOf hn4
  have HS4 := hidOf (HS3.out.trans hs4)
  clear hn4 hs4 HN3 HS3 hrep hval hcl hcs hco hto
  go_wp2_with (refine wpList_store_rowF rfl 48 (.tmp 4) (.tmp 17) rfl w4.heap.size cs rfl rfl 48 Zr_msg (heap_alloc_new w4 (.cells Zr_msg 48)) HCI.out HCS.out.symm HCO.out ?next)
  case next =>
    intro w5 hw5h
    have hw5 := hw5h.out
    have hB5 : Below w4.heap.size w4 w5 := by rw [hw5]; exact ((Below.refl _ _).alloc (Nat.le_refl _) _).trans ⟨rfl, rfl, rfl, by simp [World.setRow], fun k hk => setRow_other _ _ _ _ (by omega)⟩
    have g5 : w5.heap[w4.heap.size]? = some (.cells cs 48 (0, 0)) := by rw [hw5]; exact setRow_heap _ _ _ _ 48 _ (heap_alloc_new w4 _)
    have c5 : w5.cell? ⟨w4.heap.size, 2, none⟩ = some (.int .i64 2) := by rw [cell_of_row w5 _ 2 _ 48 (0, 0) g5]; exact HTO.out
    have HN5 := hidOf (HN4.out.grow hB5)
    have HS5 := hidOf (HS4.out.trans (NS.of_below hB5))
    clear hw5 hw5h hB5 g5 HN4 HS4
    go_wp2_with fail
    refine (len_any w.heap.size 2 [b] r3 w5 HN5.out).mono ?_
    rintro e w6 ⟨rfl, hw6⟩
    subst hw6
    rw [show (([b] : List (List UInt8)).length : Int) = 1 from rfl]
    go_wp2_with fail
    refine (lose_ok w.heap.size 2 [b] r3 0 _ HN5.out (by simp)).mono ?_
    rintro e w7 ⟨rfl, hn7, hs7⟩
    have HN7 := hidOf hn7
    have HS7 := hidOf (HS5.out.trans hs7)
    clear hn7 hs7 HN5 HS5 c5
    go_wp2_with fail
    refine (lose_no w.heap.size 2 _ r3 0 _ HN7.out (by simp [hasB])).mono ?_
    rintro e w8 ⟨rfl, hw8⟩
    subst hw8
    go_wp2
    go_ret
    exact ⟨rfl, HB1.out.trans (HS7.out.below HB1.out.size (Nat.le_refl _) (fun k hk => by cases hk))⟩

end Go.Proofs.Ytcdoejdbmllnnab

/- Messages are sent one by one, and it is written down which were taken: what the net holds then. -/
namespace Go.Proofs.Ytcdoejdbmllnnab
open Go.RowKit

theorem cut_more (R : Nat) (l : List (List UInt8)) (b : List UInt8) : cutM R (cutM R l ++ [b]) = cutM R (l ++ [b]) := by
  unfold cutM
  simp only [List.length_append, List.length_drop, List.length_cons, List.length_nil]
  by_cases h : l.length ≤ R
  · rw [show l.length - R = 0 by omega]; simp
  · rw [show l.length - (l.length - R) + (0 + 1) - R = 1 - (l.length - (l.length - R) - R) by omega, show l.length - (l.length - R) - R = 0 by omega, List.drop_append, List.drop_append, List.drop_drop]
    simp only [List.length_drop]
    rw [show l.length + (0 + 1) - R = l.length - R + (1 - 0) by omega, show 1 - 0 - (l.length - (l.length - R)) = l.length - R + (1 - 0) - l.length by omega]
theorem cut_le (R : Nat) (l : List (List UInt8)) : (cutM R l).length ≤ R := by unfold cutM; simp; omega

theorem row_kept {w w' : World} {base e size : Nat} {v : Value} {n : Nat} {xs : List Value} (h : w.ownsRow base e size v n xs) (hb : ∀ g cs, v.ownBlock = some g → w.heap[g]? = some (.cells cs e (0, 0)) → w'.heap[g]? = w.heap[g]?) : w'.ownsRow base e size v n xs := by
  refine ⟨h.1, ?_⟩
  rcases h.2 with h1 | ⟨g, cap, cur, e1, e2, e3, e4⟩
  · exact .inl h1
  · exact .inr ⟨g, cap, cur, e1, e2, (hb g cur (by rw [e1]; rfl) e3).trans e3, e4⟩
theorem row_ns {w w' : World} {p most base e size : Nat} {L : List (List UInt8)} {r r' : Option Nat} {v : Value} {n : Nat} {xs : List Value} (h : w.ownsRow base e size v n xs) (hn : NetR w p most L r) (hs : NS w w' p r r') (h60 : e ≠ 60) (h30 : e ≠ 30) : w'.ownsRow base e size v n xs :=
  row_kept h fun g _ _ hg => hs.block g (Array.getElem?_eq_some_iff.1 hg).1 (hn.apart hg h60 h30).1 (hn.apart hg h60 h30).2
theorem row_below {w w' : World} {base e size : Nat} {v : Value} {n : Nat} {xs : List Value} (h : w.ownsRow base e size v n xs) (hs : Below w.heap.size w w') : w'.ownsRow base e size v n xs :=
  row_kept h fun g _ _ hg => hs.block g (Array.getElem?_eq_some_iff.1 hg).1
theorem NetR.grown {w w' : World} {p most base e size : Nat} {L : List (List UInt8)} {r : Option Nat} {v : Value} {n : Nat} {xs : List Value} (h : NetR w p most L r) (ho : w.ownsRow base e size v n xs) (hg : w.grownBy w' v.ownBlock) (h5 : e ≠ 5) (h60 : e ≠ 60) (h30 : e ≠ 30) : NetR w' p most L r := by
  rcases ho.2 with ⟨e1, _⟩ | ⟨g, cap, cur, e1, e2, e3, e4⟩
  · exact h.kept (fun k hk => hg.block k hk (by rw [e1]; exact fun x => by cases x)) hg.size
  · have ha := h.apart e3 h60 h30
    exact h.kept1 e3 h5 (fun x => ha.1 x.symm) (fun x => ha.2 x.symm) (fun k hk hne => hg.block k hk (by rw [e1]; exact fun x => hne (Option.some.inj x))) hg.size

/- k messages g 0, g 1, .. were handed in; those of is were taken; they are written down in the row v -/
def pkG (g : Nat → Vl F_msg) (i : Nat) : List UInt8 := (en F_msg (g i)).1
def OkG (g : Nat → Vl F_msg) (k : Nat) (is : List Nat) : Prop := is.length ≤ k ∧ (∀ i ∈ is, i < k ∧ (en F_msg (g i)).2 = false) ∧ is.Pairwise (· < ·)
theorem OkG.next {g : Nat → Vl F_msg} {k : Nat} {is : List Nat} (h : OkG g k is) : OkG g (k + 1) is := ⟨by have := h.1; omega, fun i hi => ⟨by have := (h.2.1 i hi).1; omega, (h.2.1 i hi).2⟩, h.2.2⟩
theorem OkG.more {g : Nat → Vl F_msg} {k : Nat} {is : List Nat} (h : OkG g k is) (hk : (en F_msg (g k)).2 = false) : OkG g (k + 1) (is ++ [k]) := by
  refine ⟨by have := h.1; simp; omega, fun i hi => ?_, ?_⟩
  · rcases List.mem_append.1 hi with h1 | h1
    · exact h.next.2.1 i h1
    · simp at h1; subst h1; exact ⟨by omega, hk⟩
  · rw [List.pairwise_append]
    exact ⟨h.2.2, by simp, fun a ha b hb => by simp at hb; subst hb; exact (h.2.1 a ha).1⟩
def NetG (W wr : World) (p R : Nat) (g : Nat → Vl F_msg) (is : List Nat) : Prop :=
  Below W.heap.size W wr ∧ W.heap.size ≤ p ∧ ∃ r, NetR wr p R (cutM R (is.map (pkG g))) r ∧ ∀ q, r = some q → W.heap.size ≤ q
theorem NetG.below {W wr w1 : World} {p R : Nat} {g : Nat → Vl F_msg} {is : List Nat} (h : NetG W wr p R g is) (hb : Below wr.heap.size wr w1) : NetG W w1 p R g is := by
  obtain ⟨h1, h2, r, h3, h4⟩ := h
  exact ⟨h1.trans (hb.mono h1.size), h2, r, h3.grow hb, h4⟩
theorem netG_sent {W w1 w2 : World} {p R k : Nat} {g : Nat → Vl F_msg} {is : List Nat} {r r2 : Option Nat} (h1 : Below W.heap.size W w1) (h2 : W.heap.size ≤ p) (h4 : ∀ q, r = some q → W.heap.size ≤ q)
    (hn : NetR w2 p R (cutM R (cutM R (is.map (pkG g)) ++ [(en F_msg (g k)).1])) r2) (hs : NS w1 w2 p r r2) : NetG W w2 p R g (is ++ [k]) := by
  rw [cut_more] at hn
  refine ⟨h1.trans (hs.below h1.size h2 h4), h2, r2, ?_, hs.rowD h1.size h4⟩
  rw [List.map_append]
  exact hn
theorem NetG.grown {W w w' : World} {p R e size : Nat} {g : Nat → Vl F_msg} {is : List Nat} {v : Value} {n : Nat} {xs : List Value} (h : NetG W w p R g is) (ho : w.ownsRow W.heap.size e size v n xs) (hg : w.grownBy w' v.ownBlock) (h5 : e ≠ 5) (h60 : e ≠ 60) (h30 : e ≠ 30) : NetG W w' p R g is := by
  obtain ⟨h1, h2, r, h3, h4⟩ := h
  exact ⟨h1.grown hg h1.size (fun j hj => (ho.lt j hj).1), h2, r, h3.grown ho hg h5 h60 h30, h4⟩

end Go.Proofs.Ytcdoejdbmllnnab

/- The walk of NetFull: whatever room and messages, it returns true and changes nothing that was there. -/
namespace Go.Proofs.Ytcdoejdbmllnnab
open Go.RowKit

/- the message that is handed in at i -/
def gAt (vs : List (Vl F_msg)) (i : Nat) : Vl F_msg := withCtx (vs.getD i Zv_msg) i
def encI (i : Nat) : Value := .int .i64 (i : Int)
theorem rep_gAt {W w3 : World} {vs : List (Vl F_msg)} {k : Nat} (hk : k < vs.length) {es : List Value} (h : Rep W (fun b => b < W.heap.size) F_msg es vs[k]) (hb : Below W.heap.size W w3) : Rep w3 (fun b => b < w3.heap.size) F_msg (es.set 8 (.int .i64 (k : Int))) (gAt vs k) := by
  have h1 : Rep w3 (fun b => b < w3.heap.size) F_msg es vs[k] := h.kept hb.size (fun b x => hb.block b x) (fun b x => Nat.lt_of_lt_of_le x hb.size)
  have h2 := (ctx_cells h1).2.2 k
  rwa [show withCtx vs[k] k = gAt vs k by unfold gAt; rw [List.getD_eq_getElem?_getD, List.getElem?_eq_getElem hk]; rfl] at h2
theorem zr_size (es : List Value) (h : es.length = 46) : Zr_msg.size = es.toArray.size := by rw [show es.toArray.size = 46 from h]; kernel_rfl
theorem ctx_gAt (vs : List (Vl F_msg)) (i : Nat) : ctxOf (gAt vs i) = i := rfl
theorem row_form {w : World} {base e : Nat} {v : Value} {n : Nat} {xs : List Value} (h : w.ownsRow base e 1 v n xs) : ∃ a c, v = .slice a n c ∧ n ≤ c ∧ c ≤ maxLen ∧ ∀ j, j < n → ∃ g, a = some ⟨g, 0, none⟩ ∧ w.cell? ⟨g, j, none⟩ = xs[j]? := by
  rcases h.2 with ⟨e1, e2⟩ | ⟨g, cap, cur, e1, e2, e3, e4, e5, e6, e7⟩
  · exact ⟨none, 0, by rw [e1, e2], by omega, by simp [maxLen], fun j hj => by omega⟩
  · refine ⟨_, cap, e1, e4, e5, fun j hj => ⟨g, rfl, ?_⟩⟩
    rw [cell_of_row w g j cur e (0, 0) e3, ← e7, List.getElem?_take, if_pos (by omega)]
    simp
theorem cut_len (R : Nat) (l : List (List UInt8)) : (cutM R l).length = l.length - (l.length - R) := by unfold cutM; simp
theorem info3' : (Try.prog.info? 3).map (fun i => (i.zero, i.size, i.bytes)) = some (some (.int .i64 0), 1, 8) := by kernel_rfl
theorem de_pk (g : Nat → Vl F_msg) (i : Nat) (h : (en F_msg (g i)).2 = false) : (de F_msg (some (pkG g i))).2 = some [] ∧ (de F_msg (some (pkG g i))).1 = g i := by
  have h1 := de_en F_msg (g i) [] h
  rw [List.append_nil] at h1
  unfold pkG
  rw [h1]
  exact ⟨rfl, rfl⟩

set_option maxHeartbeats 1600000 in
set_option maxRecDepth 100000 in
theorem lawFullNo (W : World) (room : Int) (a : Option Addr) (len cap : Nat) (h : room < 1 ∨ 256 < room) :
    Calls Try.prog 5 #[.int .i64 room, .slice a len cap] W fun e w' => e = .returned (.bool true) ∧ Below W.heap.size W w' := by
  have HN := hidOf (new_no room W h)
  by_cases h1 : room < 1
  · clear h
    go_enter Try.func5, Try.ntmps5
    go_wp2_with fail
    refine HN.out.mono ?_
    rintro e w1 ⟨rfl, hw⟩
    subst hw
    go_wp2_with fail
    refine (known_any _).mono ?_
    rintro e w2 ⟨rfl, hb⟩
    go_wp2
    go_ret
    exact ⟨rfl, hb⟩
  · have h2 : 256 < room := by omega
    clear h
    go_enter Try.func5, Try.ntmps5
    go_wp2_with fail
    refine HN.out.mono ?_
    rintro e w1 ⟨rfl, hw⟩
    subst hw
    go_wp2_with fail
    refine (known_any _).mono ?_
    rintro e w2 ⟨rfl, hb⟩
    go_wp2
    go_ret
    exact ⟨rfl, hb⟩

set_option maxHeartbeats 4000000 in
set_option maxRecDepth 100000 in
theorem lawFullYes (W : World) (R : Nat) (h1 : 1 ≤ R) (h2 : R ≤ 256) (a : Option Addr) (cap : Nat) (vs : List (Vl F_msg)) (hR : RepL W (fun b => b < W.heap.size) F_msg a vs) :
    Calls Try.prog 5 #[.int .i64 (R : Int), .slice a vs.length cap] W fun e w' => e = .returned (.bool true) ∧ Below W.heap.size W w' := by
  have hvl := hR.1
  obtain ⟨i0, hi0, hz0, hz1, hz2⟩ := info_parts info3'
  have HI := hidOf hi0
  have HZ0 := hidOf hz0
  have HZ1 := hidOf hz1
  have HZ2 := hidOf hz2
  have HR := hidOf hR
  have hB1 : Below W.heap.size W (W.alloc (.cells #[.int .i64 (R : Int), .slice none 0 0] 60)) := (Below.refl _ _).alloc (Nat.le_refl _) _
  have HB1 := hidOf hB1
  have HN1 := hidOf (netR_new W R h2)
  clear hR hB1 hi0 hz0 hz1 hz2
  go_enter Try.func5, Try.ntmps5
  go_wp2_with fail
  refine (new_ok (R : Int) W (by omega) (by omega)).mono ?_
  rintro e w1 ⟨rfl, rfl⟩
  go_wp2_with fail
  refine (known_any _).mono ?_
  rintro e w2 ⟨rfl, hb⟩
  have HG : Hid (NetG W w2 W.heap.size R (gAt vs) []) := ⟨HB1.out.trans (hb.mono HB1.out.size), Nat.le_refl _, none, (by rw [List.map_nil, cut_all R [] (by simp)]; exact HN1.out.grow hb), fun q hq => by cases hq⟩
  clear hb
  go_wp2_with fail
  go_loopw [6, 7] (fun v i wr => ∃ k : Nat, ∃ is : List Nat, k ≤ 400 ∧ k ≤ vs.length ∧ i = .int .i64 (k : Int) ∧ wr.ownsRow W.heap.size 3 1 v is.length (is.map encI) ∧ Hid (OkG (gAt vs) k is) ∧ Hid (NetG W wr W.heap.size R (gAt vs) is)) (fun _ i _ => 400 - (intOf i).toNat)
  case atStart => exact ⟨0, [], Nat.zero_le _, Nat.zero_le _, rfl, ⟨rfl, .inl ⟨rfl, rfl⟩⟩, ⟨Nat.le_refl _, fun i hi => (by cases hi), List.Pairwise.nil⟩, HG⟩
  case round =>
    obtain ⟨k, is, hk4, hkl, rfl, ok, HOK, HNG⟩ := hrel
    by_cases hlt : k < vs.length
    · by_cases h400 : k < 400
      · obtain ⟨b, off, rfl, hbW, hat⟩ := HR.out.2 (fun e => by rw [e] at hlt; simp at hlt)
        obtain ⟨es, hrep, hrg⟩ := hat k hlt
        rw [show wd F_msg = 46 from by kernel_rfl] at hrg
        have hB := HNG.out.1
        have HRG := hidOf (rangeAt_kept hrg (hB.block b hbW))
        have hes : es.length = 46 := by rw [hrep.len]; kernel_rfl
        have HEI : Hid ((Try.prog.info? 48).map (·.size) = some es.length) := by show _ = _; rw [hes]; kernel_rfl
        have HEI2 : Hid ((Try.prog.info? 48).map (·.size) = some es.toArray.size) := by show _ = _; rw [List.size_toArray, hes]; kernel_rfl
        have HES : Hid (Zr_msg.size = es.toArray.size) := zr_size es hes
        have HEO : Hid (es.toArray.all (·.oneCell') = true) := hrep.all
        have HREP := hidOf hrep
        have HES0 := hidOf hes
        have hB2' := hidOf hB
        clear hrg hrep hat hbW hB hes
        go_wp2_with (first
          | (refine wpList_load_mid rfl 48 (.tmp 42) rfl b (off + k * 46) rfl es _ HRG.out Try.underlying48 rfl HEI.out ?_)
          | (refine wpList_store_rowF rfl 48 (.tmp 8) (.tmp 43) rfl wr.heap.size es.toArray rfl rfl 48 Zr_msg (heap_alloc_new wr (.cells Zr_msg 48)) HEI2.out HES.out HEO.out ?next))
        case next =>
          intro w3 hw3h
          have hw3 := hw3h.out
          have hB3 : Below wr.heap.size wr w3 := by rw [hw3]; exact ((Below.refl _ _).alloc (Nat.le_refl _) _).trans ⟨rfl, rfl, rfl, by simp [World.setRow], fun k hk => setRow_other _ _ _ _ (by omega)⟩
          have g3 : w3.heap[wr.heap.size]? = some (.cells es.toArray 48 (0, 0)) := by rw [hw3]; exact setRow_heap _ _ _ _ 48 _ (heap_alloc_new wr _)
          obtain ⟨c8, hc8⟩ : ∃ c, w3.cell? ⟨wr.heap.size, 8, none⟩ = some c := ⟨es[8]'(by rw [HES0.out]; omega), by rw [cell_of_row w3 _ 8 _ 48 (0, 0) g3, List.getElem?_toArray, List.getElem?_eq_getElem]⟩
          have f8 : w3.frozen? ⟨wr.heap.size, 8, none⟩ = false := by simp [World.frozen?, g3]
          have hp8 : wr.heap.size < w3.heap.size := (Array.getElem?_eq_some_iff.1 g3).1
          have G4 : Hid ((w3.setCell ⟨wr.heap.size, 8, none⟩ (.int .i64 (k : Int))).heap[wr.heap.size]? = some (.cells (es.set 8 (.int .i64 (k : Int))).toArray 48 (0, 0))) := by
            show _ = _
            rw [heap_setCell_same w3 _ 8 _ 48 _ g3, List.setIfInBounds_toArray]
          have HB4 : Hid (Below wr.heap.size wr (w3.setCell ⟨wr.heap.size, 8, none⟩ (.int .i64 (k : Int)))) := hB3.trans ⟨rfl, rfl, rfl, by simp, fun j hj => Below.heap_setCell _ _ _ _ (by simp; omega)⟩
          have HREP4 := hidOf (rep_gAt hlt HREP.out (hB2'.out.trans (HB4.out.mono hB2'.out.size)))
          have HI4 : Hid ((Try.prog.info? 48).map (·.size) = some (es.set 8 (.int .i64 (k : Int))).toArray.size) := by
            show _ = _
            rw [show (es.set 8 (.int .i64 (k : Int))).toArray.size = 46 from by simpa using HES0.out]; kernel_rfl
          obtain ⟨_, hpW, r, hn, hr⟩ := HNG.out
          have HN4 := hidOf (hn.grow HB4.out)
          have HRR := hidOf hr
          have HOK4 := hidOf (row_below ok HB4.out)
          clear hw3h hw3 g3 hB3 HREP HRG HEI HEI2 HES HEO hn hr ok
          cases hen : (en F_msg (gAt vs k)).2 with
          | true =>
            have HEN := hidOf hen
            clear hen
            go_wp2_with (refine wpList_load_row rfl 48 (.tmp 8) rfl wr.heap.size rfl 48 (es.set 8 (.int .i64 (k : Int))).toArray (0, 0) _ G4.out Try.underlying48 rfl HI4.out ?_)
            refine (send_no W.heap.size R _ r _ (gAt vs k) _ HN4.out HREP4.out HEN.out).mono ?_
            rintro e w5 ⟨rfl, hn5, hB5⟩
            have HNG5 := hidOf (HNG.out.below (HB4.out.trans (hB5.mono HB4.out.size)))
            have ok5 := row_below HOK4.out hB5
            clear hn5 hB5
            go_wp2
            exact ⟨⟨k + 1, is, by omega, by omega, by go_num, ok5, HOK.out.next, HNG5⟩, by simp [intOf]; omega⟩
          | false =>
            have HEN := hidOf hen
            clear hen
            go_wp2_with (refine wpList_load_row rfl 48 (.tmp 8) rfl wr.heap.size rfl 48 (es.set 8 (.int .i64 (k : Int))).toArray (0, 0) _ G4.out Try.underlying48 rfl HI4.out ?_)
            refine (send_ok W.heap.size R _ r _ (gAt vs k) _ HN4.out (cut_le _ _) HREP4.out HEN.out).mono ?_
            rintro e w5 ⟨rfl, r5, hn5, hs5⟩
            have HNG5 := hidOf (netG_sent (hB2'.out.trans (HB4.out.mono hB2'.out.size)) hpW HRR.out hn5 hs5)
            have ok5 := row_ns HOK4.out HN4.out hs5 (by decide) (by decide)
            have HOK5 := hidOf ok5
            have hil := HOK.out.1
            have O1 : Hid (∀ u ∈ (#[.int .i64 (k : Int)] : Array Value).toList, u.oneCell' = true) := by intro u hu; simp at hu; subst hu; rfl
            clear hn5 hs5 HN4 HB4 G4 ok5
            go_wp2_with (at_builtin; refine wpList_append_own2 _ rfl (.tmp 50) (.tmp 52) 23 rfl W.heap.size 3 i0 (.int .i64 0) 1 8 Try.underlying23 HI.out HZ0.out HZ1.out HZ2.out rfl (by decide) _ _ _ rfl (HOK5.out.alloc _) ⟨w5.heap.size, 0, none⟩ 1 1 (#[.int .i64 (k : Int)] : Array Value).toList rfl rfl (fun j u hj => cell_news w5 _ _ j u hj) O1.out ?c3 ?c4 ?c5 ?next2)
            case c3 => unfold maxLen; omega
            case c4 => omega
            case c5 => have := HNG5.out.1.size; rw [World.size_alloc]; omega
            case next2 =>
              intro v6 w6 ho6 hg6 hw6
              have HNG6 := hidOf ((HNG5.out.below ((Below.refl _ _).alloc (Nat.le_refl _) _)).grown (HOK5.out.alloc _) hg6 (by decide) (by decide) (by decide))
              have ok6 : w6.ownsRow W.heap.size 3 1 v6 (is ++ [k]).length ((is ++ [k]).map encI) := by
                rw [List.length_append, List.map_append]; exact ho6
              have HOK6 := hidOf (HOK.out.more HEN.out)
              clear ho6 hg6 hw6 HNG5 HOK5
              go_wp2
              exact ⟨⟨k + 1, is ++ [k], by omega, by omega, by go_num, ok6, HOK6, HNG6⟩, by simp [intOf]; omega⟩
      · -- EXIT1
        obtain ⟨a1, c1, hv, hc1, hc2, hcell⟩ := row_form ok
        subst hv
        clear hcell
        obtain ⟨_, hpW, r, hn, hr⟩ := HNG.out
        have HN := hidOf hn
        have HRR := hidOf hr
        have hil := HOK.out.1
        clear hn hr
        obtain ⟨m, HM⟩ : ∃ m, Hid (is.length = m) := ⟨_, rfl⟩
        rw [HM.out] at ok hc1 hil ⊢
        by_cases hfr : m < R
        · have HD : Hid (cutM R (is.map (pkG (gAt vs))) = (is.map (pkG (gAt vs))).drop 0) := by show _ = _; unfold cutM; rw [List.length_map, HM.out, show m - R = 0 by omega]
          have HL : Hid ((cutM R (is.map (pkG (gAt vs)))).length = m) := by show _ = _; rw [cut_len, List.length_map, HM.out]; omega
          have hneg : (m : Int) - (R : Int) < 0 := by omega

          go_wp2_with fail
          refine (len_any W.heap.size R _ r wr HN.out).mono ?_
          rintro e w5 ⟨rfl, hw⟩
          subst hw
          rw [HL.out]
          go_wp2_with fail
          go_loopw [10] (fun i wq => ∃ j : Nat, 0 ≤ j ∧ j ≤ m ∧ i = .int .i64 (j : Int) ∧ wq.ownsRow W.heap.size 3 1 (.slice a1 (m) c1) (m) (is.map encI) ∧ Hid (Below W.heap.size W wq ∧ NetR wq W.heap.size R ((is.map (pkG (gAt vs))).drop j) r)) (fun i _ => m - (intOf i).toNat)
          case atStart => exact ⟨0, by omega, by omega, by go_num, ok, HNG.out.1, by rw [← HD.out]; exact HN.out⟩
          case round =>
            obtain ⟨j, hj0, hjm, rfl, okq, HQ⟩ := hrel
            by_cases hjlt : j < m
            · have hji : j < is.length := by rw [HM.out]; exact hjlt
              have HJ := hidOf hji
              obtain ⟨nj, hnj⟩ : ∃ nj, is[j]? = some nj := ⟨_, List.getElem?_eq_getElem hji⟩
              have HDE0 := de_pk (gAt vs) nj (HOK.out.2.1 nj (List.mem_of_getElem? hnj)).2
              have HNJ := hidOf hnj
              have HGET0 : ((is.map (pkG (gAt vs))).drop j)[0]? = some (pkG (gAt vs) nj) := by rw [List.getElem?_drop, Nat.add_zero, List.getElem?_map, hnj]; rfl
              obtain ⟨lj, hlj⟩ : ∃ lj, pkG (gAt vs) nj = lj := ⟨_, rfl⟩
              rw [hlj] at HDE0 HGET0
              have HDE := hidOf HDE0
              have HGET := hidOf HGET0
              clear HDE0 HGET0 hnj hlj
              have HOQ := hidOf okq
              clear okq hji
              go_wp2_with fail
              refine (deliver_ok W.heap.size R _ r 0 _ _ HQ.out.2 HGET.out).mono ?_
              rintro e w6 ⟨cl, vv, he, hrep, hval, hn6, hs6⟩
              have hv : vv = gAt vs nj := (hval HDE.out.1).trans HDE.out.2
              subst hv
              rw [show ((is.map (pkG (gAt vs))).drop j).take 0 ++ ((is.map (pkG (gAt vs))).drop j).drop (0 + 1) = (is.map (pkG (gAt vs))).drop (j + 1) from by simp] at hn6
              have hcs : cl.toArray.size = Zr_msg.size := by rw [List.size_toArray, hrep.len]; kernel_rfl
              have hco : cl.toArray.all (·.oneCell') = true := hrep.all
              have hctx : cl.toArray[8]? = some (.int .i64 (nj : Int)) := by rw [List.getElem?_toArray, (ctx_cells hrep).2.1, ctx_gAt]
              rw [show decide ((de F_msg (some lj)).2 = some []) = true from by simp [HDE.out.1]] at he
              obtain ⟨cs, hcl⟩ : ∃ cs, cl.toArray = cs := ⟨_, rfl⟩
              rw [hcl] at he hcs hco hctx
              subst he
              have HCS := hidOf hcs
              have HCO := hidOf hco
              have HCTX := hidOf hctx
              have HCI : Hid ((Try.prog.info? 48).map (·.size) = some cs.size) := by show _ = _; rw [hcs]; exact Zr_msg_i
              have HN6 := hidOf hn6
              have HB6 := hidOf (HQ.out.1.trans (hs6.below HQ.out.1.size (Nat.le_refl _) HRR.out))
              have HO6 := hidOf (row_ns HOQ.out HQ.out.2 hs6 (by decide) (by decide))
              clear hn6 hs6 HQ hrep hval hcl hcs hco hctx HOQ
              go_wp2_with (refine wpList_store_rowF rfl 48 (.tmp 11) (.tmp 77) rfl w6.heap.size cs rfl rfl 48 Zr_msg (heap_alloc_new w6 (.cells Zr_msg 48)) HCI.out HCS.out.symm HCO.out ?next)
              case next =>
                intro w7 hw7h
                have hw7 := hw7h.out
                have hB7 : Below w6.heap.size w6 w7 := by rw [hw7]; exact ((Below.refl _ _).alloc (Nat.le_refl _) _).trans ⟨rfl, rfl, rfl, by simp [World.setRow], fun k hk => setRow_other _ _ _ _ (by omega)⟩
                have g7 : w7.heap[w6.heap.size]? = some (.cells cs 48 (0, 0)) := by rw [hw7]; exact setRow_heap _ _ _ _ 48 _ (heap_alloc_new w6 _)
                have c8 : w7.cell? ⟨w6.heap.size, 8, none⟩ = some (.int .i64 (nj : Int)) := by rw [cell_of_row w7 _ 8 _ 48 (0, 0) g7]; exact HCTX.out
                have HO7 := hidOf (row_below HO6.out hB7)
                obtain ⟨a2, c2, hv2, _, _, hcell2⟩ := row_form HO7.out
                cases hv2
                obtain ⟨gq, rfl, hcq⟩ := hcell2 j hjlt
                rw [List.getElem?_map, HNJ.out] at hcq
                have cq : w7.cell? ⟨gq, j, none⟩ = some (.int .i64 (nj : Int)) := hcq
                have HN7 := hidOf (show Below W.heap.size W w7 ∧ NetR w7 W.heap.size R ((is.map (pkG (gAt vs))).drop (j + 1)) r from ⟨HB6.out.trans (hB7.mono HB6.out.size), HN6.out.grow hB7⟩)
                clear hw7 hw7h hB7 g7 HN6 HB6 HO6 hcell2 hcq HDE HGET
                have HB8 := hidOf ((Below.refl w7.heap.size w7).drew)
                go_wp2
                go_region
                go_wp2
                exact ⟨⟨j + 1, by omega, by omega, by go_num, row_below HO7.out HB8.out, HN7.out.1.trans (HB8.out.mono HN7.out.1.size), HN7.out.2.drew⟩, by simp [intOf]; omega⟩
            · have hje : m ≤ j := by omega
              go_wp2
              go_ret
              exact ⟨rfl, HQ.out.1⟩

        · obtain ⟨f, hf1, hf2⟩ : ∃ f, m ≤ R + f ∧ R + f ≤ m := ⟨m - R, by omega, by omega⟩
          have HF : Hid ((m : Int) - (R : Int) = (f : Int)) := by show _ = _; omega
          have HD : Hid (cutM R (is.map (pkG (gAt vs))) = (is.map (pkG (gAt vs))).drop f) := by show _ = _; unfold cutM; rw [List.length_map, HM.out, show m - R = f by omega]
          have HL : Hid ((cutM R (is.map (pkG (gAt vs)))).length = R) := by show _ = _; rw [cut_len, List.length_map, HM.out]; omega
          have hneg : ¬ ((m : Int) - (R : Int) < 0) := by omega

          go_wp2_with fail
          refine (len_any W.heap.size R _ r wr HN.out).mono ?_
          rintro e w5 ⟨rfl, hw⟩
          subst hw
          rw [HL.out]
          go_wp2_with fail
          rw [HF.out]
          go_loopw [10] (fun i wq => ∃ j : Nat, f ≤ j ∧ j ≤ m ∧ i = .int .i64 (j : Int) ∧ wq.ownsRow W.heap.size 3 1 (.slice a1 (m) c1) (m) (is.map encI) ∧ Hid (Below W.heap.size W wq ∧ NetR wq W.heap.size R ((is.map (pkG (gAt vs))).drop j) r)) (fun i _ => m - (intOf i).toNat)
          case atStart => exact ⟨f, by omega, by omega, by go_num, ok, HNG.out.1, by rw [← HD.out]; exact HN.out⟩
          case round =>
            obtain ⟨j, hj0, hjm, rfl, okq, HQ⟩ := hrel
            by_cases hjlt : j < m
            · have hji : j < is.length := by rw [HM.out]; exact hjlt
              have HJ := hidOf hji
              obtain ⟨nj, hnj⟩ : ∃ nj, is[j]? = some nj := ⟨_, List.getElem?_eq_getElem hji⟩
              have HDE0 := de_pk (gAt vs) nj (HOK.out.2.1 nj (List.mem_of_getElem? hnj)).2
              have HNJ := hidOf hnj
              have HGET0 : ((is.map (pkG (gAt vs))).drop j)[0]? = some (pkG (gAt vs) nj) := by rw [List.getElem?_drop, Nat.add_zero, List.getElem?_map, hnj]; rfl
              obtain ⟨lj, hlj⟩ : ∃ lj, pkG (gAt vs) nj = lj := ⟨_, rfl⟩
              rw [hlj] at HDE0 HGET0
              have HDE := hidOf HDE0
              have HGET := hidOf HGET0
              clear HDE0 HGET0 hnj hlj
              have HOQ := hidOf okq
              clear okq hji
              go_wp2_with fail
              refine (deliver_ok W.heap.size R _ r 0 _ _ HQ.out.2 HGET.out).mono ?_
              rintro e w6 ⟨cl, vv, he, hrep, hval, hn6, hs6⟩
              have hv : vv = gAt vs nj := (hval HDE.out.1).trans HDE.out.2
              subst hv
              rw [show ((is.map (pkG (gAt vs))).drop j).take 0 ++ ((is.map (pkG (gAt vs))).drop j).drop (0 + 1) = (is.map (pkG (gAt vs))).drop (j + 1) from by simp] at hn6
              have hcs : cl.toArray.size = Zr_msg.size := by rw [List.size_toArray, hrep.len]; kernel_rfl
              have hco : cl.toArray.all (·.oneCell') = true := hrep.all
              have hctx : cl.toArray[8]? = some (.int .i64 (nj : Int)) := by rw [List.getElem?_toArray, (ctx_cells hrep).2.1, ctx_gAt]
              rw [show decide ((de F_msg (some lj)).2 = some []) = true from by simp [HDE.out.1]] at he
              obtain ⟨cs, hcl⟩ : ∃ cs, cl.toArray = cs := ⟨_, rfl⟩
              rw [hcl] at he hcs hco hctx
              subst he
              have HCS := hidOf hcs
              have HCO := hidOf hco
              have HCTX := hidOf hctx
              have HCI : Hid ((Try.prog.info? 48).map (·.size) = some cs.size) := by show _ = _; rw [hcs]; exact Zr_msg_i
              have HN6 := hidOf hn6
              have HB6 := hidOf (HQ.out.1.trans (hs6.below HQ.out.1.size (Nat.le_refl _) HRR.out))
              have HO6 := hidOf (row_ns HOQ.out HQ.out.2 hs6 (by decide) (by decide))
              clear hn6 hs6 HQ hrep hval hcl hcs hco hctx HOQ
              go_wp2_with (refine wpList_store_rowF rfl 48 (.tmp 11) (.tmp 77) rfl w6.heap.size cs rfl rfl 48 Zr_msg (heap_alloc_new w6 (.cells Zr_msg 48)) HCI.out HCS.out.symm HCO.out ?next)
              case next =>
                intro w7 hw7h
                have hw7 := hw7h.out
                have hB7 : Below w6.heap.size w6 w7 := by rw [hw7]; exact ((Below.refl _ _).alloc (Nat.le_refl _) _).trans ⟨rfl, rfl, rfl, by simp [World.setRow], fun k hk => setRow_other _ _ _ _ (by omega)⟩
                have g7 : w7.heap[w6.heap.size]? = some (.cells cs 48 (0, 0)) := by rw [hw7]; exact setRow_heap _ _ _ _ 48 _ (heap_alloc_new w6 _)
                have c8 : w7.cell? ⟨w6.heap.size, 8, none⟩ = some (.int .i64 (nj : Int)) := by rw [cell_of_row w7 _ 8 _ 48 (0, 0) g7]; exact HCTX.out
                have HO7 := hidOf (row_below HO6.out hB7)
                obtain ⟨a2, c2, hv2, _, _, hcell2⟩ := row_form HO7.out
                cases hv2
                obtain ⟨gq, rfl, hcq⟩ := hcell2 j hjlt
                rw [List.getElem?_map, HNJ.out] at hcq
                have cq : w7.cell? ⟨gq, j, none⟩ = some (.int .i64 (nj : Int)) := hcq
                have HN7 := hidOf (show Below W.heap.size W w7 ∧ NetR w7 W.heap.size R ((is.map (pkG (gAt vs))).drop (j + 1)) r from ⟨HB6.out.trans (hB7.mono HB6.out.size), HN6.out.grow hB7⟩)
                clear hw7 hw7h hB7 g7 HN6 HB6 HO6 hcell2 hcq HDE HGET
                have HB8 := hidOf ((Below.refl w7.heap.size w7).drew)
                go_wp2
                go_region
                go_wp2
                exact ⟨⟨j + 1, by omega, by omega, by go_num, row_below HO7.out HB8.out, HN7.out.1.trans (HB8.out.mono HN7.out.1.size), HN7.out.2.drew⟩, by simp [intOf]; omega⟩
            · have hje : m ≤ j := by omega
              go_wp2
              go_ret
              exact ⟨rfl, HQ.out.1⟩

    · -- EXIT2
      obtain ⟨a1, c1, hv, hc1, hc2, hcell⟩ := row_form ok
      subst hv
      clear hcell
      obtain ⟨_, hpW, r, hn, hr⟩ := HNG.out
      have HN := hidOf hn
      have HRR := hidOf hr
      have hil := HOK.out.1
      clear hn hr
      obtain ⟨m, HM⟩ : ∃ m, Hid (is.length = m) := ⟨_, rfl⟩
      rw [HM.out] at ok hc1 hil ⊢
      by_cases hfr : m < R
      · have HD : Hid (cutM R (is.map (pkG (gAt vs))) = (is.map (pkG (gAt vs))).drop 0) := by show _ = _; unfold cutM; rw [List.length_map, HM.out, show m - R = 0 by omega]
        have HL : Hid ((cutM R (is.map (pkG (gAt vs)))).length = m) := by show _ = _; rw [cut_len, List.length_map, HM.out]; omega
        have hneg : (m : Int) - (R : Int) < 0 := by omega

        go_wp2_with fail
        refine (len_any W.heap.size R _ r wr HN.out).mono ?_
        rintro e w5 ⟨rfl, hw⟩
        subst hw
        rw [HL.out]
        go_wp2_with fail
        go_loopw [10] (fun i wq => ∃ j : Nat, 0 ≤ j ∧ j ≤ m ∧ i = .int .i64 (j : Int) ∧ wq.ownsRow W.heap.size 3 1 (.slice a1 (m) c1) (m) (is.map encI) ∧ Hid (Below W.heap.size W wq ∧ NetR wq W.heap.size R ((is.map (pkG (gAt vs))).drop j) r)) (fun i _ => m - (intOf i).toNat)
        case atStart => exact ⟨0, by omega, by omega, by go_num, ok, HNG.out.1, by rw [← HD.out]; exact HN.out⟩
        case round =>
          obtain ⟨j, hj0, hjm, rfl, okq, HQ⟩ := hrel
          by_cases hjlt : j < m
          · have hji : j < is.length := by rw [HM.out]; exact hjlt
            have HJ := hidOf hji
            obtain ⟨nj, hnj⟩ : ∃ nj, is[j]? = some nj := ⟨_, List.getElem?_eq_getElem hji⟩
            have HDE0 := de_pk (gAt vs) nj (HOK.out.2.1 nj (List.mem_of_getElem? hnj)).2
            have HNJ := hidOf hnj
            have HGET0 : ((is.map (pkG (gAt vs))).drop j)[0]? = some (pkG (gAt vs) nj) := by rw [List.getElem?_drop, Nat.add_zero, List.getElem?_map, hnj]; rfl
            obtain ⟨lj, hlj⟩ : ∃ lj, pkG (gAt vs) nj = lj := ⟨_, rfl⟩
            rw [hlj] at HDE0 HGET0
            have HDE := hidOf HDE0
            have HGET := hidOf HGET0
            clear HDE0 HGET0 hnj hlj
            have HOQ := hidOf okq
            clear okq hji
            go_wp2_with fail
            refine (deliver_ok W.heap.size R _ r 0 _ _ HQ.out.2 HGET.out).mono ?_
            rintro e w6 ⟨cl, vv, he, hrep, hval, hn6, hs6⟩
            have hv : vv = gAt vs nj := (hval HDE.out.1).trans HDE.out.2
            subst hv
            rw [show ((is.map (pkG (gAt vs))).drop j).take 0 ++ ((is.map (pkG (gAt vs))).drop j).drop (0 + 1) = (is.map (pkG (gAt vs))).drop (j + 1) from by simp] at hn6
            have hcs : cl.toArray.size = Zr_msg.size := by rw [List.size_toArray, hrep.len]; kernel_rfl
            have hco : cl.toArray.all (·.oneCell') = true := hrep.all
            have hctx : cl.toArray[8]? = some (.int .i64 (nj : Int)) := by rw [List.getElem?_toArray, (ctx_cells hrep).2.1, ctx_gAt]
            rw [show decide ((de F_msg (some lj)).2 = some []) = true from by simp [HDE.out.1]] at he
            obtain ⟨cs, hcl⟩ : ∃ cs, cl.toArray = cs := ⟨_, rfl⟩
            rw [hcl] at he hcs hco hctx
            subst he
            have HCS := hidOf hcs
            have HCO := hidOf hco
            have HCTX := hidOf hctx
            have HCI : Hid ((Try.prog.info? 48).map (·.size) = some cs.size) := by show _ = _; rw [hcs]; exact Zr_msg_i
            have HN6 := hidOf hn6
            have HB6 := hidOf (HQ.out.1.trans (hs6.below HQ.out.1.size (Nat.le_refl _) HRR.out))
            have HO6 := hidOf (row_ns HOQ.out HQ.out.2 hs6 (by decide) (by decide))
            clear hn6 hs6 HQ hrep hval hcl hcs hco hctx HOQ
            go_wp2_with (refine wpList_store_rowF rfl 48 (.tmp 11) (.tmp 77) rfl w6.heap.size cs rfl rfl 48 Zr_msg (heap_alloc_new w6 (.cells Zr_msg 48)) HCI.out HCS.out.symm HCO.out ?next)
            case next =>
              intro w7 hw7h
              have hw7 := hw7h.out
              have hB7 : Below w6.heap.size w6 w7 := by rw [hw7]; exact ((Below.refl _ _).alloc (Nat.le_refl _) _).trans ⟨rfl, rfl, rfl, by simp [World.setRow], fun k hk => setRow_other _ _ _ _ (by omega)⟩
              have g7 : w7.heap[w6.heap.size]? = some (.cells cs 48 (0, 0)) := by rw [hw7]; exact setRow_heap _ _ _ _ 48 _ (heap_alloc_new w6 _)
              have c8 : w7.cell? ⟨w6.heap.size, 8, none⟩ = some (.int .i64 (nj : Int)) := by rw [cell_of_row w7 _ 8 _ 48 (0, 0) g7]; exact HCTX.out
              have HO7 := hidOf (row_below HO6.out hB7)
              obtain ⟨a2, c2, hv2, _, _, hcell2⟩ := row_form HO7.out
              cases hv2
              obtain ⟨gq, rfl, hcq⟩ := hcell2 j hjlt
              rw [List.getElem?_map, HNJ.out] at hcq
              have cq : w7.cell? ⟨gq, j, none⟩ = some (.int .i64 (nj : Int)) := hcq
              have HN7 := hidOf (show Below W.heap.size W w7 ∧ NetR w7 W.heap.size R ((is.map (pkG (gAt vs))).drop (j + 1)) r from ⟨HB6.out.trans (hB7.mono HB6.out.size), HN6.out.grow hB7⟩)
              clear hw7 hw7h hB7 g7 HN6 HB6 HO6 hcell2 hcq HDE HGET
              have HB8 := hidOf ((Below.refl w7.heap.size w7).drew)
              go_wp2
              go_region
              go_wp2
              exact ⟨⟨j + 1, by omega, by omega, by go_num, row_below HO7.out HB8.out, HN7.out.1.trans (HB8.out.mono HN7.out.1.size), HN7.out.2.drew⟩, by simp [intOf]; omega⟩
          · have hje : m ≤ j := by omega
            go_wp2
            go_ret
            exact ⟨rfl, HQ.out.1⟩

      · obtain ⟨f, hf1, hf2⟩ : ∃ f, m ≤ R + f ∧ R + f ≤ m := ⟨m - R, by omega, by omega⟩
        have HF : Hid ((m : Int) - (R : Int) = (f : Int)) := by show _ = _; omega
        have HD : Hid (cutM R (is.map (pkG (gAt vs))) = (is.map (pkG (gAt vs))).drop f) := by show _ = _; unfold cutM; rw [List.length_map, HM.out, show m - R = f by omega]
        have HL : Hid ((cutM R (is.map (pkG (gAt vs)))).length = R) := by show _ = _; rw [cut_len, List.length_map, HM.out]; omega
        have hneg : ¬ ((m : Int) - (R : Int) < 0) := by omega

        go_wp2_with fail
        refine (len_any W.heap.size R _ r wr HN.out).mono ?_
        rintro e w5 ⟨rfl, hw⟩
        subst hw
        rw [HL.out]
        go_wp2_with fail
        rw [HF.out]
        go_loopw [10] (fun i wq => ∃ j : Nat, f ≤ j ∧ j ≤ m ∧ i = .int .i64 (j : Int) ∧ wq.ownsRow W.heap.size 3 1 (.slice a1 (m) c1) (m) (is.map encI) ∧ Hid (Below W.heap.size W wq ∧ NetR wq W.heap.size R ((is.map (pkG (gAt vs))).drop j) r)) (fun i _ => m - (intOf i).toNat)
        case atStart => exact ⟨f, by omega, by omega, by go_num, ok, HNG.out.1, by rw [← HD.out]; exact HN.out⟩
        case round =>
          obtain ⟨j, hj0, hjm, rfl, okq, HQ⟩ := hrel
          by_cases hjlt : j < m
          · have hji : j < is.length := by rw [HM.out]; exact hjlt
            have HJ := hidOf hji
            obtain ⟨nj, hnj⟩ : ∃ nj, is[j]? = some nj := ⟨_, List.getElem?_eq_getElem hji⟩
            have HDE0 := de_pk (gAt vs) nj (HOK.out.2.1 nj (List.mem_of_getElem? hnj)).2
            have HNJ := hidOf hnj
            have HGET0 : ((is.map (pkG (gAt vs))).drop j)[0]? = some (pkG (gAt vs) nj) := by rw [List.getElem?_drop, Nat.add_zero, List.getElem?_map, hnj]; rfl
            obtain ⟨lj, hlj⟩ : ∃ lj, pkG (gAt vs) nj = lj := ⟨_, rfl⟩
            rw [hlj] at HDE0 HGET0
            have HDE := hidOf HDE0
            have HGET := hidOf HGET0
            clear HDE0 HGET0 hnj hlj
            have HOQ := hidOf okq
            clear okq hji
            go_wp2_with fail
            refine (deliver_ok W.heap.size R _ r 0 _ _ HQ.out.2 HGET.out).mono ?_
            rintro e w6 ⟨cl, vv, he, hrep, hval, hn6, hs6⟩
            have hv : vv = gAt vs nj := (hval HDE.out.1).trans HDE.out.2
            subst hv
            rw [show ((is.map (pkG (gAt vs))).drop j).take 0 ++ ((is.map (pkG (gAt vs))).drop j).drop (0 + 1) = (is.map (pkG (gAt vs))).drop (j + 1) from by simp] at hn6
            have hcs : cl.toArray.size = Zr_msg.size := by rw [List.size_toArray, hrep.len]; kernel_rfl
            have hco : cl.toArray.all (·.oneCell') = true := hrep.all
            have hctx : cl.toArray[8]? = some (.int .i64 (nj : Int)) := by rw [List.getElem?_toArray, (ctx_cells hrep).2.1, ctx_gAt]
            rw [show decide ((de F_msg (some lj)).2 = some []) = true from by simp [HDE.out.1]] at he
            obtain ⟨cs, hcl⟩ : ∃ cs, cl.toArray = cs := ⟨_, rfl⟩
            rw [hcl] at he hcs hco hctx
            subst he
            have HCS := hidOf hcs
            have HCO := hidOf hco
            have HCTX := hidOf hctx
            have HCI : Hid ((Try.prog.info? 48).map (·.size) = some cs.size) := by show _ = _; rw [hcs]; exact Zr_msg_i
            have HN6 := hidOf hn6
            have HB6 := hidOf (HQ.out.1.trans (hs6.below HQ.out.1.size (Nat.le_refl _) HRR.out))
            have HO6 := hidOf (row_ns HOQ.out HQ.out.2 hs6 (by decide) (by decide))
            clear hn6 hs6 HQ hrep hval hcl hcs hco hctx HOQ
            go_wp2_with (refine wpList_store_rowF rfl 48 (.tmp 11) (.tmp 77) rfl w6.heap.size cs rfl rfl 48 Zr_msg (heap_alloc_new w6 (.cells Zr_msg 48)) HCI.out HCS.out.symm HCO.out ?next)
            case next =>
              intro w7 hw7h
              have hw7 := hw7h.out
              have hB7 : Below w6.heap.size w6 w7 := by rw [hw7]; exact ((Below.refl _ _).alloc (Nat.le_refl _) _).trans ⟨rfl, rfl, rfl, by simp [World.setRow], fun k hk => setRow_other _ _ _ _ (by omega)⟩
              have g7 : w7.heap[w6.heap.size]? = some (.cells cs 48 (0, 0)) := by rw [hw7]; exact setRow_heap _ _ _ _ 48 _ (heap_alloc_new w6 _)
              have c8 : w7.cell? ⟨w6.heap.size, 8, none⟩ = some (.int .i64 (nj : Int)) := by rw [cell_of_row w7 _ 8 _ 48 (0, 0) g7]; exact HCTX.out
              have HO7 := hidOf (row_below HO6.out hB7)
              obtain ⟨a2, c2, hv2, _, _, hcell2⟩ := row_form HO7.out
              cases hv2
              obtain ⟨gq, rfl, hcq⟩ := hcell2 j hjlt
              rw [List.getElem?_map, HNJ.out] at hcq
              have cq : w7.cell? ⟨gq, j, none⟩ = some (.int .i64 (nj : Int)) := hcq
              have HN7 := hidOf (show Below W.heap.size W w7 ∧ NetR w7 W.heap.size R ((is.map (pkG (gAt vs))).drop (j + 1)) r from ⟨HB6.out.trans (hB7.mono HB6.out.size), HN6.out.grow hB7⟩)
              clear hw7 hw7h hB7 g7 HN6 HB6 HO6 hcell2 hcq HDE HGET
              have HB8 := hidOf ((Below.refl w7.heap.size w7).drew)
              go_wp2
              go_region
              go_wp2
              exact ⟨⟨j + 1, by omega, by omega, by go_num, row_below HO7.out HB8.out, HN7.out.1.trans (HB8.out.mono HN7.out.1.size), HN7.out.2.drew⟩, by simp [intOf]; omega⟩
          · have hje : m ≤ j := by omega
            go_wp2
            go_ret
            exact ⟨rfl, HQ.out.1⟩


theorem lawFull (W : World) (room : Int) (_ : (Lit.int .i64 room).wf = true) (a : Option Addr) (len cap : Nat) (vs : List (Vl F_msg)) (hn : len = vs.length) (hR : RepL W (fun b => b < W.heap.size) F_msg a vs) :
    Calls Try.prog 5 #[.int .i64 room, .slice a len cap] W fun e w' => e = .returned (.bool true) ∧ Below W.heap.size W w' := by
  subst hn
  by_cases h : room < 1 ∨ 256 < room
  · exact lawFullNo W room a _ cap h
  · obtain ⟨R, rfl⟩ : ∃ R : Nat, room = R := ⟨room.toNat, by omega⟩
    exact lawFullYes W R (by omega) (by omega) a cap vs hR

end Go.Proofs.Ytcdoejdbmllnnab

/- The law's 'same': two messages of one value that may be written are the same. -/
namespace Go.Proofs.Ytcdoejdbmllnnab
open Go.RowKit

theorem sum_le {α : Type} (m : α → Nat) (b : Nat) (vs : List α) (h : ∀ v ∈ vs, m v ≤ b) : (vs.map m).sum ≤ vs.length * b := by
  induction vs with
  | nil => simp
  | cons v vs ih =>
    have h1 := h v (by simp)
    have h2 := ih (fun x hx => h x (by simp [hx]))
    rw [List.map_cons, List.sum_cons, List.length_cons, Nat.add_mul]
    omega
theorem szb_le (f : Fm) (v : Vl f) (h : (en f v).2 = false) : szb f v ≤ mx f := by
  induction f with
  | num => exact Nat.le_refl _
  | tru => exact Nat.le_refl _
  | byt =>
    have v' : List UInt8 := v
    have h' : (if List.length (α := UInt8) v ≤ 65536 then (enc (List.length (α := UInt8) v : Int) ++ v, false) else ([], true)).2 = false := h
    show 6 + List.length (α := UInt8) v ≤ 65542
    split at h'
    · omega
    · cases h'
  | lst f ih =>
    have h' : (if List.length (α := Vl f) v ≤ 64 then (enc (List.length (α := Vl f) v : Int) ++ List.flatMap (fun v => (en f v).1) v, List.any v fun v => (en f v).2) else ([], true)).2 = false := h
    show 6 + (List.map (fun v => szb f v) v).sum ≤ 6 + 64 * mx f
    split at h'
    · next hl =>
      have h2 := sum_le (fun v => szb f v) (mx f) v (fun x hx => ih x (by
        have := List.any_eq_false.1 h' x hx
        simpa using this))
      have h3 : List.length (α := Vl f) v * mx f ≤ 64 * mx f := Nat.mul_le_mul_right _ hl
      omega
    · cases h'
  | cat a b iha ihb =>
    have h' : ((en a v.1).2 || (en b v.2).2) = false := h
    rw [Bool.or_eq_false_iff] at h'
    show szb a v.1 + szb b v.2 ≤ mx a + mx b
    have h1 := iha v.1 h'.1
    have h2 := ihb v.2 h'.2
    omega
theorem szb_msg_le (v : Vl F_msg) (h : (en F_msg v).2 = false) : szb F_msg v ≤ 137438953472 := Nat.le_trans (szb_le F_msg v h) (Nat.le_of_ble_eq_true (by kernel_rfl))

set_option maxHeartbeats 800000 in
set_option maxRecDepth 100000 in
theorem same_ok (ca cb : List Value) (v : Vl F_msg) (w : World) (ha : Rep w (fun b => b < w.heap.size) F_msg ca v) (hb : Rep w (fun b => b < w.heap.size) F_msg cb v) (hv : (en F_msg v).2 = false) :
    Calls Try.prog 11 #[.agg ca.toArray, .agg cb.toArray] w fun e w' => e = .returned (.bool true) ∧ Below w.heap.size w w' := by
  have HSA : Hid ((Try.prog.info? 48).map (·.size) = some ca.toArray.size) := by show _ = _; rw [List.size_toArray, ha.len]; exact box_msg
  have HSB : Hid ((Try.prog.info? 48).map (·.size) = some cb.toArray.size) := by show _ = _; rw [List.size_toArray, hb.len]; exact box_msg
  have hB0 : Below w.heap.size w ((w.alloc (.cells ca.toArray 48)).alloc (.cells cb.toArray 48)) := ((Below.refl _ _).alloc (Nat.le_refl _) _).alloc (by rw [World.size_alloc]; omega) _
  have GA : Hid (((w.alloc (.cells ca.toArray 48)).alloc (.cells cb.toArray 48)).heap[w.heap.size]? = some (.cells ca.toArray 48 (0, 0))) := by
    show _ = _
    rw [Below.heap_alloc _ _ _ (by rw [World.size_alloc]; omega)]; exact heap_alloc_new w _
  have GB : Hid (((w.alloc (.cells ca.toArray 48)).alloc (.cells cb.toArray 48)).heap[w.heap.size + 1]? = some (.cells cb.toArray 48 (0, 0))) := by
    show _ = _
    have := heap_alloc_new (w.alloc (.cells ca.toArray 48)) (.cells cb.toArray 48)
    rwa [World.size_alloc] at this
  have HA : Hid (Rep ((w.alloc (.cells ca.toArray 48)).alloc (.cells cb.toArray 48)) (fun b => b < ((w.alloc (.cells ca.toArray 48)).alloc (.cells cb.toArray 48)).heap.size) F_msg ca v) := ha.kept hB0.size (fun b x => hB0.block b x) (fun b x => Nat.lt_of_lt_of_le x hB0.size)
  have HB := hidOf hb
  have HB0 := hidOf hB0
  have HV := hidOf hv
  have HZ := hidOf (szb_msg_le v hv)
  clear ha hb hB0 hv
  go_enter Try.func11, Try.ntmps11
  go_wp2_with (refine wpList_load_row rfl 48 (.tmp 2) rfl w.heap.size rfl 48 ca.toArray (0, 0) _ GA.out Try.underlying48 rfl HSA.out ?_)
  refine (putMsg_o ca v _ HZ.out HA.out).mono ?_
  rintro e w1 ⟨x1, rfl, o1, _, b1⟩
  have hB1 : Below w.heap.size w w1 := HB0.out.trans (b1.mono HB0.out.size)
  have HB1 := hidOf hB1
  have HRB : Hid (Rep w1 (fun b => b < w1.heap.size) F_msg cb v) := HB.out.kept hB1.size (fun b x => hB1.block b x) (fun b x => Nat.lt_of_lt_of_le x hB1.size)
  have GB1 : Hid (w1.heap[w.heap.size + 1]? = some (.cells cb.toArray 48 (0, 0))) := (b1.block _ (by rw [World.size_alloc, World.size_alloc]; omega)).trans GB.out
  have O1 := hidOf o1
  clear b1 hB1 o1
  go_wp2_with (refine wpList_load_row rfl 48 (.tmp 3) rfl (w.heap.size + 1) rfl 48 cb.toArray (0, 0) _ GB1.out Try.underlying48 rfl HSB.out ?_)
  refine (putMsg_o cb v _ HZ.out HRB.out).mono ?_
  rintro e w2 ⟨x2, rfl, o2, _, b2⟩
  have HB2 := hidOf (HB1.out.trans (b2.mono HB1.out.size))
  have hl : (bytesB (en F_msg v)).length ≤ 211106232532992 := by
    have h1 := Nat.le_trans (en_len F_msg v) mxl_msg
    unfold bytesB
    rw [HV.out]
    exact h1
  obtain ⟨a1, c1, e1, hb1⟩ := (O1.out.below b2).form
  obtain ⟨a2, c2, e2, hb2⟩ := o2.form
  subst e1 e2
  have HS1 := hidOf (hb1 hl)
  have HS2 := hidOf (hb2 hl)
  obtain ⟨n, hn⟩ : ∃ n, Hid ((bytesB (en F_msg v)).length = n) := ⟨_, hidOf rfl⟩
  rw [hn.out]
  obtain ⟨cd, hcd⟩ : ∃ cd, codeB (en F_msg v).2 = cd := ⟨_, rfl⟩
  rw [hcd]
  clear hb1 hb2 o2 b2 hl hcd O1
  go_wp2_with fail
  refine (same_any a1 a2 n n c1 c2 _ _ w2 hn.out.symm hn.out.symm HS1.out HS2.out).mono ?_
  rintro e w3 ⟨rfl, nq, hw3⟩
  have HB3 := hidOf (HB2.out.trans (by rw [hw3]; exact ⟨rfl, rfl, rfl, Nat.le_refl _, fun _ _ => rfl⟩ : Below w.heap.size w2 w3))
  clear hw3
  rw [show decide (bytesB (en F_msg v) = bytesB (en F_msg v)) = true from by simp]
  go_wp2
  go_ret
  exact ⟨rfl, HB3.out⟩

end Go.Proofs.Ytcdoejdbmllnnab

/- What was sent, in a row of messages; what was taken, in a row of truths; the net between them. -/
namespace Go.Proofs.Ytcdoejdbmllnnab
open Go.RowKit

theorem info48' : (Try.prog.info? 48).map (fun i => (i.zero, i.size, i.bytes)) = some (some (.agg Zr_msg), 46, 536) := by kernel_rfl
theorem fill_one (cs zs : Array Value) (h : cs.size = 46) (hz : zs.size = 46) : Instr.fill (fun i => some (i * 46, 46)) zs [(0, .agg cs)] = some cs := by
  have h1 := Great.fill_whole (s := 46) (by decide) [.agg cs] zs (fun v hv => by simp at hv; subst hv; exact h) (by simpa using hz.symm)
  simpa [Value.cells] using h1
theorem wpList_build48 {ops : Array Oper} {rest : List Oper} {o : Oper} {a : Act} {w : World} {Q : Exit → Act → World → Prop} (hg : o.guard = none) (x : Operand) (ho : o.op = .buildSlice 22 1 #[(0, x)]) (cs : Array Value) (hx : a.eval x = .agg cs) (hs : cs.size = 46)
    (h : wpList Try.prog ops Q rest (a.put o.dst (.slice (some ⟨w.heap.size, 0, none⟩) 1 1)) (w.alloc (.cells cs 48))) : wpList Try.prog ops Q (o :: rest) a w := by
  obtain ⟨i0, hi, hz0, hz1, _⟩ := info_parts info48'
  refine wpList_buildSlice hg 22 48 1 _ ho cs i0 (.agg Zr_msg) Try.underlying22 hi hz0 (by rw [hz1]; decide) (by rw [hz1]; decide) ?_ h
  rw [hz1]
  have : (#[((0 : Nat), x)].map fun (i, x) => (i, a.eval x)).toList = [(0, .agg cs)] := by simp [hx]
  rw [this]
  exact fill_one cs _ hs (by simp)

def SentR (W w : World) (g : Nat → Vl F_msg) (v : Value) (is : List Nat) : Prop :=
  ∃ ess : List (List Value), ess.length = is.length ∧ (∀ j (h1 : j < ess.length) (h2 : j < is.length), Rep W (fun b => b < W.heap.size) F_msg ess[j] (g is[j])) ∧ w.ownsRow W.heap.size 48 46 v is.length ess.flatten
theorem SentR.to {W w w' : World} {g : Nat → Vl F_msg} {v : Value} {is : List Nat} (h : SentR W w g v is) (hb : ∀ q cs, v.ownBlock = some q → w.heap[q]? = some (.cells cs 48 (0, 0)) → w'.heap[q]? = w.heap[q]?) : SentR W w' g v is := by
  obtain ⟨ess, h1, h2, h3⟩ := h
  exact ⟨ess, h1, h2, row_kept h3 hb⟩
theorem wd46 : wd F_msg = 46 := by kernel_rfl
theorem SentR.at {W w : World} {g : Nat → Vl F_msg} {v : Value} {is : List Nat} (h : SentR W w g v is) (j i : Nat) (hj : is[j]? = some i) :
    ∃ b c es, v = .slice (some ⟨b, 0, none⟩) is.length c ∧ is.length ≤ c ∧ c ≤ maxLen ∧ Rep W (fun b => b < W.heap.size) F_msg es (g i) ∧ w.rangeAt b (j * 46) es := by
  obtain ⟨ess, h1, h2, h3⟩ := h
  obtain ⟨hji, hje⟩ := List.getElem?_eq_some_iff.1 hj
  have hjs : j < ess.length := by omega
  have hr := h2 j hjs hji
  rw [hje] at hr
  have hall : ∀ es ∈ ess, es.length = 46 := by
    intro es he
    obtain ⟨q, hq, rfl⟩ := List.mem_iff_getElem.1 he
    rw [(h2 q hq (by omega)).len, wd46]
  rcases h3.2 with ⟨_, e⟩ | ⟨b, cap, cur, e1, e2, e3, e4, e5, e6, e7⟩
  · omega
  · refine ⟨b, cap, ess[j], e1, e4, e5, hr, fun q u hu => ?_⟩
    have hq : q < 46 := by have := (List.getElem?_eq_some_iff.1 hu).1; rw [hall _ (List.getElem_mem hjs)] at this; exact this
    rw [cell_of_row w b _ cur 48 (0, 0) e3]
    have h8 := flatten_get 46 ess hall j hjs q hq
    rw [← e7, List.getElem?_take, if_pos (by omega), hu] at h8
    simpa using h8
theorem SentR.form {W w : World} {g : Nat → Vl F_msg} {v : Value} {is : List Nat} (h : SentR W w g v is) : ∃ a c, v = .slice a is.length c ∧ is.length ≤ c ∧ c ≤ maxLen := by
  obtain ⟨ess, h1, h2, h3⟩ := h
  rcases h3.2 with ⟨e0, e⟩ | ⟨b, cap, cur, e1, e2, e3, e4, e5, e6, e7⟩
  · exact ⟨none, 0, by rw [e0, e], by omega, by simp [maxLen]⟩
  · exact ⟨_, cap, e1, e4, e5⟩

/- which are taken: those that are not in js -/
def tkA (n : Nat) (js : List Nat) : Array Value := ((List.range n).map fun j => Value.bool (decide (j ∉ js))).toArray
theorem tk_size (n : Nat) (js : List Nat) : (tkA n js).size = n := by simp [tkA]
theorem tk_get (n : Nat) (js : List Nat) (j : Nat) (h : j < n) : (tkA n js)[j]? = some (.bool (decide (j ∉ js))) := by
  simp [tkA, h]
theorem tk_new (n : Nat) : tkA n (List.range n) = Array.replicate n (.bool false) := by
  apply Array.ext_getElem?
  intro j
  by_cases h : j < n
  · rw [tk_get n _ j h]; simp [h]
  · rw [Array.getElem?_eq_none (by rw [tk_size]; omega), Array.getElem?_eq_none (by simp; omega)]
theorem mem_out {js : List Nat} {k jj : Nat} (hn : js.Nodup) (hk : js[k]? = some jj) (j : Nat) : j ∈ js.take k ++ js.drop (k + 1) ↔ j ∈ js ∧ j ≠ jj := by
  obtain ⟨hkl, hke⟩ := List.getElem?_eq_some_iff.1 hk
  have e : js = js.take k ++ jj :: js.drop (k + 1) := by
    rw [← hke, ← List.drop_eq_getElem_cons hkl, List.take_append_drop]
  rw [e] at hn
  obtain ⟨h1, h2, h3⟩ := List.nodup_append.1 hn
  obtain ⟨h4, h5⟩ := List.nodup_cons.1 h2
  constructor
  · intro hj
    rcases List.mem_append.1 hj with q | q
    · exact ⟨List.mem_of_mem_take q, fun e2 => h3 j q jj (by simp) e2⟩
    · exact ⟨List.mem_of_mem_drop q, fun e2 => h4 (e2 ▸ q)⟩
  · rintro ⟨hj, hne⟩
    rw [e] at hj
    rcases List.mem_append.1 hj with q | q
    · exact List.mem_append_left _ q
    · rcases List.mem_cons.1 q with q | q
      · exact absurd q hne
      · exact List.mem_append_right _ q
theorem nodup_out {js : List Nat} (k : Nat) (hn : js.Nodup) : (js.take k ++ js.drop (k + 1)).Nodup := by
  rw [← List.eraseIdx_eq_take_drop_succ]
  exact hn.sublist (List.eraseIdx_sublist _ _)
theorem tk_set {n k jj : Nat} {js : List Nat} (hn : js.Nodup) (hk : js[k]? = some jj) : (tkA n js).setIfInBounds jj (.bool true) = tkA n (js.take k ++ js.drop (k + 1)) := by
  apply Array.ext_getElem?
  intro j
  by_cases h : j < n
  · rw [tk_get n _ j h, Array.getElem?_setIfInBounds]
    by_cases e : jj = j
    · subst e
      rw [if_pos rfl, if_pos (by rw [tk_size]; exact h)]
      simp [mem_out hn hk]
    · rw [if_neg e, tk_get n _ j h]
      have : (j ∉ js.take k ++ js.drop (k + 1)) ↔ (j ∉ js) := by
        rw [mem_out hn hk]
        constructor
        · intro h1 h2; exact h1 ⟨h2, fun e2 => e e2.symm⟩
        · intro h1 h2; exact h1 h2.1
      simp only [this]
  · rw [Array.getElem?_eq_none (by rw [Array.size_setIfInBounds, tk_size]; omega), Array.getElem?_eq_none (by rw [tk_size]; omega)]

/- the net holds the messages of js, the row tells that all but those of j2 are taken -/
structure AI (W w : World) (p : Nat) (r : Option Nat) (g : Nat → Vl F_msg) (is js j2 : List Nat) (t : Nat) (v : Value) : Prop where
  below : Below W.heap.size W w
  net : NetR w p 256 (js.map fun j => pkG g (is.getD j 0)) r
  sent : SentR W w g v is
  taken : w.heap[t]? = some (.cells (tkA is.length j2) 4 (0, 0))
  tW : W.heap.size ≤ t
  pW : W.heap.size ≤ p
  rW : ∀ q, r = some q → W.heap.size ≤ q
theorem AI.to {W w w' : World} {p : Nat} {r : Option Nat} {g : Nat → Vl F_msg} {is js j2 : List Nat} {t : Nat} {v : Value} (h : AI W w p r g is js j2 t v) (hb : Below w.heap.size w w') : AI W w' p r g is js j2 t v :=
  ⟨h.below.trans (hb.mono h.below.size), h.net.grow hb, h.sent.to (fun q _ _ hq => hb.block q (Array.getElem?_eq_some_iff.1 hq).1), (hb.block t (Array.getElem?_eq_some_iff.1 h.taken).1).trans h.taken, h.tW, h.pW, h.rW⟩
theorem AI.step {W w w' : World} {p : Nat} {r : Option Nat} {g : Nat → Vl F_msg} {is js js' j2 : List Nat} {t : Nat} {v : Value} (h : AI W w p r g is js j2 t v) (hs : NS w w' p r r) (hn : NetR w' p 256 (js'.map fun j => pkG g (is.getD j 0)) r) : AI W w' p r g is js' j2 t v := by
  have ha := h.net.apart h.taken (by decide) (by decide)
  refine ⟨h.below.trans (hs.below h.below.size h.pW h.rW), hn, h.sent.to (fun q _ _ hq => ?_), (hs.block t (Array.getElem?_eq_some_iff.1 h.taken).1 ha.1 ha.2).trans h.taken, h.tW, h.pW, h.rW⟩
  have hq2 := h.net.apart hq (by decide) (by decide)
  exact hs.block q (Array.getElem?_eq_some_iff.1 hq).1 hq2.1 hq2.2
theorem AI.take {W w : World} {p : Nat} {r : Option Nat} {g : Nat → Vl F_msg} {is js j2 : List Nat} {t k jj : Nat} {v : Value} (h : AI W w p r g is js j2 t v) (hn : j2.Nodup) (hk : j2[k]? = some jj) : AI W (w.setCell ⟨t, jj, none⟩ (.bool true)) p r g is js (j2.take k ++ j2.drop (k + 1)) t v := by
  have ha := h.net.apart h.taken (by decide) (by decide)
  have hk2 : ∀ b, b ≠ t → (w.setCell ⟨t, jj, none⟩ (.bool true)).heap[b]? = w.heap[b]? := fun b hb => Below.heap_setCell w ⟨t, jj, none⟩ _ b hb
  refine ⟨h.below.trans ⟨rfl, rfl, rfl, by simp, fun b hb => hk2 b (by have := h.tW; omega)⟩, h.net.kept1 h.taken (by decide) (fun e => ha.1 e.symm) (fun e => ha.2 e.symm) (fun b _ hb => hk2 b hb) (by simp), h.sent.to (fun q _ _ hq => hk2 q ?_), ?_, h.tW, h.pW, h.rW⟩
  · intro e; subst e; have h2 := h.taken; rw [hq] at h2; cases h2
  · rw [heap_setCell_same w t jj _ 4 _ h.taken, tk_set hn hk]

end Go.Proofs.Ytcdoejdbmllnnab
