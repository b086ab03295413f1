/- Rows of bytes that several slices may look at: what an append onto one of them leaves of the others. -/
import Derived.Test.YtkienmncifonnaaDoorMem
import Derived.Test.YtkienmncifonnaaDoorDmem
namespace Go.Proofs.YtkienmncifonnaaDoor
open Go.RowKit Go.Maps

theorem hidOf {p : Prop} (h : p) : Hid p := h
def lenV : Value → Nat
  | .slice _ n _ => n
  | _ => 0
def capV : Value → Nat
  | .slice _ _ c => c
  | _ => 0
/- there is room behind its bytes -/
def Gr (v : Value) : Prop := lenV v < capV v

/- the slice value v reads as the bytes l -/
def SlR (w : World) (v : Value) (l : List UInt8) : Prop :=
  (v = .slice none 0 0 ∧ l = []) ∨
  ∃ g cap cur, v = .slice (some ⟨g, 0, none⟩) l.length cap ∧ w.heap[g]? = some (.cells cur 5 (0, 0)) ∧ l.length ≤ cap ∧ cap ≤ cur.size ∧ cur.size ≤ maxLen ∧ cur.toList.take l.length = vals l
theorem SlR.nil (w : World) : SlR w (.slice none 0 0) [] := .inl ⟨rfl, rfl⟩
theorem SlR.len {w : World} {v : Value} {l : List UInt8} (h : SlR w v l) : lenV v = l.length := by
  rcases h with ⟨rfl, rfl⟩ | ⟨g, cap, cur, rfl, _⟩ <;> rfl
theorem SlR.le {w : World} {v : Value} {l : List UInt8} (h : SlR w v l) : lenV v ≤ capV v := by
  rcases h with ⟨rfl, rfl⟩ | ⟨g, cap, cur, rfl, _, h1, _⟩
  · exact Nat.le_refl _
  · exact h1
theorem SlR.lt {w : World} {v : Value} {l : List UInt8} (h : SlR w v l) : ∀ k, v.ownBlock = some k → k < w.heap.size := by
  intro k hk
  rcases h with ⟨rfl, _⟩ | ⟨g, cap, cur, rfl, hg, rest⟩
  · simp [Value.ownBlock] at hk
  · simp [Value.ownBlock] at hk
    subst hk
    exact (Array.getElem?_eq_some_iff.1 hg).1
theorem SlR.form {w : World} {v : Value} {l : List UInt8} (h : SlR w v l) : ∃ a cap, v = .slice a l.length cap ∧ l.length ≤ cap ∧ (l.length ≤ 211106232532992 → Bs w a l) := by
  rcases h with ⟨rfl, rfl⟩ | ⟨g, cap, cur, rfl, hg, h1, h2, h3, h4⟩
  · exact ⟨none, 0, rfl, Nat.le_refl _, fun _ => ⟨by simp, fun h => absurd rfl h⟩⟩
  · refine ⟨_, cap, rfl, h1, fun hl => ⟨hl, fun _ => ⟨g, 0, rfl, (Array.getElem?_eq_some_iff.1 hg).1, fun j hj => ?_⟩⟩⟩
    rw [Nat.zero_add, cell_of_row w g j cur 5 (0, 0) hg]
    have := vals_get l j hj
    rw [← h4, List.getElem?_take, if_pos hj] at this
    simpa using this
theorem SlR.kept {w w' : World} {v : Value} {l : List UInt8} (h : SlR w v l) (hb : ∀ k, v.ownBlock = some k → w'.heap[k]? = w.heap[k]?) : SlR w' v l := by
  rcases h with h | ⟨g, cap, cur, rfl, hg, rest⟩
  · exact .inl h
  · exact .inr ⟨g, cap, cur, rfl, by rw [hb g rfl]; exact hg, rest⟩
theorem SlR.grow {w w' : World} {v : Value} {l : List UInt8} (h : SlR w v l) (hb : Below w.heap.size w w') : SlR w' v l := h.kept fun k hk => hb.block k (h.lt k hk)
theorem SlR.own {w : World} {v : Value} {l : List UInt8} (h : Own w v l) : SlR w v l := by
  rcases h with h | ⟨g, cap, cur, h0, hg, h1, h2, h3, h4⟩
  · exact .inl h
  · exact .inr ⟨g, cap, cur, h0, hg, h1, by omega, by omega, h4⟩

/- w' is w with new blocks, with block b turned, and with writes behind v's bytes where there is room; v' has grown out of v -/
structure App (w w' : World) (b : Option Nat) (v v' : Value) : Prop where
  os : w'.os = w.os
  tape : w'.tape = w.tape
  output : w'.output = w.output
  size : w.heap.size ≤ w'.heap.size
  block : ∀ k, k < w.heap.size → some k ≠ b → (Gr v → some k ≠ v.ownBlock) → w'.heap[k]? = w.heap[k]?
  part : Gr v → ∀ g cur, v.ownBlock = some g → w.heap[g]? = some (.cells cur 5 (0, 0)) → ∃ cur', w'.heap[g]? = some (.cells cur' 5 (0, 0)) ∧ cur'.size = cur.size ∧ cur'.toList.take (lenV v) = cur.toList.take (lenV v)
  new : (v'.ownBlock = v.ownBlock ∧ capV v' = capV v ∧ lenV v ≤ lenV v') ∨ ∃ k, v'.ownBlock = some k ∧ w.heap.size ≤ k

/- two slices do not stand in each other's way: where they look at one row, at most one has room, and it sees all that the other one sees -/
def Sep (x y : Value) : Prop := ∀ g, x.ownBlock = some g → y.ownBlock = some g → (Gr x → ¬ Gr y ∧ lenV y ≤ lenV x) ∧ (Gr y → ¬ Gr x ∧ lenV x ≤ lenV y)
/- x does not write where z, which stays as it is, looks -/
def SepK (x z : Value) : Prop := ∀ g, x.ownBlock = some g → z.ownBlock = some g → ¬ Gr x
theorem Sep.symm {x y : Value} (h : Sep x y) : Sep y x := fun g h1 h2 => ⟨(h g h2 h1).2, (h g h2 h1).1⟩
theorem Sep.nil (x : Value) : Sep x (.slice none 0 0) := fun g _ h => by cases h
theorem Sep.nil' (x : Value) : Sep (.slice none 0 0) x := fun g h _ => by cases h
theorem SepK.nil' (x : Value) : SepK (.slice none 0 0) x := fun g h _ => by cases h
theorem SepK.nil (x : Value) : SepK x (.slice none 0 0) := fun g _ h => by cases h

theorem SlR.app {w w' : World} {b : Option Nat} {v v' y : Value} {l : List UInt8} (hy : SlR w y l) (ha : App w w' b v v') (hb : ∀ g, b = some g → y.ownBlock ≠ some g) (hs : Sep v y) : SlR w' y l := by
  rcases hy with h | ⟨g, cap, cur, rfl, hg, h1, h2, h3, h4⟩
  · exact .inl h
  · have hlt : g < w.heap.size := (Array.getElem?_eq_some_iff.1 hg).1
    by_cases hw : Gr v ∧ v.ownBlock = some g
    · obtain ⟨cur', c1, c2, c3⟩ := ha.part hw.1 g cur hw.2 hg
      have hle : l.length ≤ lenV v := ((hs g hw.2 rfl).1 hw.1).2
      refine .inr ⟨g, cap, cur', rfl, c1, h1, by omega, by omega, ?_⟩
      rw [← h4]
      have e : ∀ (A : List Value), A.take l.length = (A.take (lenV v)).take l.length := fun A => by rw [List.take_take, Nat.min_eq_left hle]
      rw [e cur'.toList, c3, ← e]
    · refine .inr ⟨g, cap, cur, rfl, (ha.block g hlt (fun e => hb g e.symm rfl) (fun hgr e => hw ⟨hgr, e.symm⟩)).trans hg, h1, h2, h3, h4⟩
theorem SlR.appK {w w' : World} {b : Option Nat} {v v' y : Value} {l : List UInt8} (hy : SlR w y l) (ha : App w w' b v v') (hb : ∀ g, b = some g → y.ownBlock ≠ some g) (hs : SepK v y) : SlR w' y l :=
  hy.kept fun k hk => ha.block k (hy.lt k hk) (fun e => hb k e.symm hk) (fun hgr e => hs k e.symm hk hgr)
theorem Sep.app {w w' : World} {b : Option Nat} {v v' y : Value} {l l' : List UInt8} (hs : Sep v y) (ha : App w w' b v v') (hy : SlR w y l) (hv' : SlR w' v' l') : Sep v' y := by
  intro g h1 h2
  rcases ha.new with ⟨e1, e2, e3⟩ | ⟨k, e1, e2⟩
  · rw [e1] at h1
    obtain ⟨s1, s2⟩ := hs g h1 h2
    have hle := hv'.le
    refine ⟨fun hgr => ?_, fun hgr => ?_⟩
    · have : Gr v := by unfold Gr at hgr ⊢; omega
      exact ⟨(s1 this).1, by have := (s1 this).2; omega⟩
    · obtain ⟨n1, n2⟩ := s2 hgr
      unfold Gr at n1 ⊢
      exact ⟨by omega, by omega⟩
  · rw [e1] at h1
    cases h1
    have := hy.lt _ h2
    omega
theorem SepK.app {w w' : World} {b : Option Nat} {v v' y : Value} {l : List UInt8} (hs : SepK v y) (ha : App w w' b v v') (hy : SlR w y l) : SepK v' y := by
  intro g h1 h2 hgr
  rcases ha.new with ⟨e1, e2, e3⟩ | ⟨k, e1, e2⟩
  · rw [e1] at h1
    refine hs g h1 h2 ?_
    unfold Gr at hgr ⊢
    omega
  · rw [e1] at h1
    cases h1
    have := hy.lt _ h2
    omega
theorem App.refl (w : World) (b : Option Nat) (v : Value) : App w w b v v := ⟨rfl, rfl, rfl, Nat.le_refl _, fun _ _ _ _ => rfl, fun _ _g cur _ h => ⟨cur, h, rfl, rfl⟩, .inl ⟨rfl, rfl, Nat.le_refl _⟩⟩
/- then block b is turned -/
theorem App.turn {w w1 w2 : World} {b : Nat} {v v' : Value} (h : App w w1 none v v') (hm : w1.mapTurned w2 b) (hb : v.ownBlock ≠ some b) : App w w2 (some b) v v' := by
  have hg := hm.grown
  refine ⟨hg.os.trans h.os, hg.tape.trans h.tape, hg.output.trans h.output, Nat.le_trans h.size hg.size, fun k hk hkb hgr => ?_, fun hgr g cur h1 h2 => ?_, h.new⟩
  · exact (hg.block k (Nat.lt_of_lt_of_le hk h.size) hkb).trans (h.block k hk (by simp) hgr)
  · obtain ⟨cur', c1, c2, c3⟩ := h.part hgr g cur h1 h2
    exact ⟨cur', (hg.block g (Nat.lt_of_lt_of_le (Array.getElem?_eq_some_iff.1 h2).1 h.size) (fun e => hb (by rw [h1, e]))).trans c1, c2, c3⟩
theorem app_turned {w w' : World} {b : Nat} (hm : w.mapTurned w' b) (v : Value) (hb : v.ownBlock ≠ some b) : App w w' (some b) v v := (App.refl w none v).turn hm hb

/- THE LAW OF APPEND, onto a slice that may be looked at by others -/
theorem run_append_s {P : Program} {i : TypeInfo} (ty : TypeId) (hk : P.underlying 38 = some (.slice 5)) (hi : P.info? 5 = some i) (hz : i.zero = some (.int .u8 0)) (hs1 : i.size = 1) (hb1 : i.bytes = 1)
    (w : World) (v : Value) (l : List UInt8) (hown : SlR w v l) (x : Value) (news : List UInt8) (hs : Src P 1 38 x news.length (vals news) w) (hlen : l.length + news.length ≤ 211106232532992) :
    ∃ v' w', (Builtin.append_ #[38, 38] ty #[v, x]).run P w = .ok v' w' ∧ SlR w' v' (l ++ news) ∧ App w w' none v v' := by
  by_cases hn : news = []
  · subst hn
    have hs' : Src P i.size 38 x 0 [] w := by rw [hs1]; exact hs
    have hc := hs'.cells
    have hlen0 := hs'.len
    rcases hown with ⟨rfl, rfl⟩ | ⟨g, cap, cur, rfl, hg, h1, h2, h3, h4⟩
    · exact ⟨.slice none 0 0, w, by simp [Builtin.append_, run_underlying hk, sizeOf, typeInfo, hi, hlen0, hc], .inl ⟨rfl, rfl⟩, App.refl _ _ _⟩
    · have hst := run_storeCells_at P g (l.length * i.size) 5 [] 0 cur w hg (by rw [hs1]; simp; omega) (by simp)
      simp only [Nat.add_zero] at hst
      have ew : (cur.toList.take (l.length * i.size) ++ [] ++ cur.toList.drop (l.length * i.size + ([] : List Value).length)).toArray = cur := by simp
      rw [ew] at hst
      have hr : (Builtin.append_ #[38, 38] ty #[.slice (some ⟨g, 0, none⟩) l.length cap, x]).run P w = .ok (.slice (some ⟨g, 0, none⟩) l.length cap) (w.setRow g cur) := by
        simp [Builtin.append_, run_underlying hk, sizeOf, typeInfo, hi, hlen0, h1, hc, Addr.add_lit, hst]
      have hb : ∀ k, (w.setRow g cur).heap[k]? = w.heap[k]? := fun k => by
        by_cases e : k = g
        · subst e; rw [setRow_heap w k cur _ 5 _ hg, hg]
        · exact setRow_other w g k _ e
      refine ⟨_, _, hr, .inr ⟨g, cap, cur, by simp, (hb g).trans hg, by simpa using h1, h2, h3, by simpa using h4⟩, ⟨rfl, rfl, rfl, by simp, fun k _ _ _ => hb k, fun _ g' cur' e1 e2 => ⟨cur', (hb g').trans e2, rfl, rfl⟩, .inl ⟨rfl, rfl, Nat.le_refl _⟩⟩⟩
  · have hp : 0 < news.length := List.length_pos_iff.2 hn
    have hs' : Src P i.size 38 x news.length (vals news) w := by rw [hs1]; exact hs
    have grown : ∀ (base : Option Addr) (cap : Nat), l.length ≤ cap → cap < l.length + news.length → (Builtin.firstCells i.size l.length (.slice base l.length cap)).run P w.drew = .ok (vals l).toArray w.drew →
        ∃ v' w', (Builtin.append_ #[38, 38] ty #[.slice base l.length cap, x]).run P w = .ok v' w' ∧ SlR w' v' (l ++ news) ∧ App w w' none (.slice base l.length cap) v' := by
      intro base cap hc1 hc2 hold
      have hr := run_append_grow_src w 38 38 ty 5 i (.int .u8 0) hk hi hz base l.length cap (vals l) hold x news.length (vals news) hs' hc2 (by omega) (by rw [hb1, Nat.mul_one]; exact fits_b (by omega) (by omega))
      have hge := grownCap_ge w (l.length + news.length) cap 5
      have hm : grownCap w (l.length + news.length) cap 5 ≤ maxLen := grownCap_le_maxLen w _ cap 5 (by unfold maxLen; omega)
      refine ⟨_, _, hr, SlR.own (.inr ⟨w.heap.size, _, _, by rw [List.length_append], heap_alloc_new w.drew _, by rw [List.length_append]; exact hge, hm, ?_, ?_⟩), ⟨rfl, rfl, rfl, by simp, fun k hk _ _ => Below.heap_alloc w.drew _ k hk, fun _ g cur _ h2 => ⟨cur, (Below.heap_alloc w.drew _ g (Array.getElem?_eq_some_iff.1 h2).1).trans h2, rfl, rfl⟩, .inr ⟨w.heap.size, rfl, Nat.le_refl _⟩⟩⟩
      · simp only [Array.size_append, List.size_toArray, size_zeroCells, List.length_append, vals_length]
        simp [Value.cells]
        omega
      · rw [vals_append]
        simp only [Array.toList_append]
        have : (l ++ news).length = (vals l ++ vals news).length := by simp [vals_length]
        rw [this]
        exact List.take_left
    rcases hown with ⟨rfl, rfl⟩ | ⟨g, cap, cur, rfl, hg, h1, h2, h3, h4⟩
    · exact grown none 0 (Nat.le_refl _) (by simpa using hp) (by exact run_firstCells_none w.drew i.size 0 0 0)
    · by_cases hroom : l.length + news.length ≤ cap
      · have hst := run_storeCells_at P g (l.length * i.size) 5 (vals news) 0 cur w hg (by rw [hs1, vals_length]; omega) (vals_one news)
        simp only [Nat.add_zero] at hst
        have hr : (Builtin.append_ #[38, 38] ty #[.slice (some ⟨g, 0, none⟩) l.length cap, x]).run P w = .ok (.slice (some ⟨g, 0, none⟩) (l.length + news.length) cap)
            (w.setRow g (cur.toList.take (l.length * i.size) ++ vals news ++ cur.toList.drop (l.length * i.size + (vals news).length)).toArray) := by
          simp [Builtin.append_, run_underlying hk, sizeOf, typeInfo, hi, hs'.len, hroom, hs'.cells, Addr.add_lit, hst]
        have hsz : (cur.toList.take (l.length * i.size) ++ vals news ++ cur.toList.drop (l.length * i.size + (vals news).length)).toArray.size = cur.size := by
          simp only [List.size_toArray, List.length_append, List.length_take, List.length_drop, Array.length_toList, vals_length, hs1]
          omega
        have htk : (cur.toList.take (l.length * i.size) ++ vals news ++ cur.toList.drop (l.length * i.size + (vals news).length)).take l.length = cur.toList.take l.length := by
          rw [hs1, Nat.mul_one, List.append_assoc]
          have : (cur.toList.take l.length).length = l.length := by simp; omega
          exact List.take_left' this
        have hgr : Gr (.slice (some ⟨g, 0, none⟩) l.length cap) := by show l.length < cap; omega
        refine ⟨_, _, hr, .inr ⟨g, cap, _, by rw [List.length_append], setRow_heap w g cur _ 5 _ hg, by rw [List.length_append]; exact hroom, by rw [hsz]; exact h2, by rw [hsz]; exact h3, ?_⟩, ⟨rfl, rfl, rfl, by simp, fun k _ _ hk => setRow_other w g k _ (fun e => hk hgr (by simp [Value.ownBlock, e])), fun _ g' cur' e1 e2 => ?_, .inl ⟨rfl, rfl, by show l.length ≤ l.length + news.length; omega⟩⟩⟩
        · rw [hs1, Nat.mul_one, h4, vals_append]
          have : (l ++ news).length = (vals l ++ vals news).length := by simp [vals_length]
          rw [this]
          exact List.take_left
        · have e3 : g = g' := by simpa [Value.ownBlock] using e1
          subst e3
          rw [hg] at e2
          cases e2
          exact ⟨_, setRow_heap w g cur _ 5 _ hg, hsz, htk⟩
      · have hold : ∀ j u, (vals l)[j]? = some u → w.drew.cell? ((⟨g, 0, none⟩ : Addr).add j) = some u := by
          intro j u hu
          obtain ⟨hj, rfl⟩ := vals_get' l j u hu
          have hadd : (⟨g, 0, none⟩ : Addr).add j = ⟨g, j, none⟩ := by unfold Addr.add; split <;> simp_all
          rw [hadd, cell_of_row w.drew g j cur 5 (0, 0) hg]
          have := vals_get l j hj
          rw [← h4, List.getElem?_take, if_pos hj] at this
          simpa using this
        exact grown (some ⟨g, 0, none⟩) cap h1 (by omega) (run_firstCells_some w.drew i.size l.length _ _ _ (vals l) (by rw [hs1, vals_length]; omega) hold)
end Go.Proofs.YtkienmncifonnaaDoor
