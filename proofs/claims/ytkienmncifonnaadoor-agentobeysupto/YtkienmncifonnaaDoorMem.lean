/- Rows of bytes in memory: a slice that owns its row, what an append leaves of the old world, and the law of append for bytes from whatever source. Nothing here speaks of one function of the program. -/
import Derived.Test.YtkienmncifonnaaDoorProg
import Derived.Test.YtkienmncifonnaaDoorMath
import Derived.WalkLawsBesides
import Derived.Deep.AppendSrc
import Derived.KernelRfl
namespace Go.Proofs.YtkienmncifonnaaDoor
open Go.RowKit

def vals (l : List UInt8) : List Value := l.map fun b => Value.int .u8 (b.toNat : Int)
theorem vals_length (l : List UInt8) : (vals l).length = l.length := by simp [vals]
theorem vals_append (a b : List UInt8) : vals (a ++ b) = vals a ++ vals b := by simp [vals]
theorem vals_get (l : List UInt8) (j : Nat) (h : j < l.length) : (vals l)[j]? = some (.int .u8 (bat l j)) := by
  simp [vals, bat, bn, h, List.getD]
theorem vals_get' (l : List UInt8) (j : Nat) (u : Value) (h : (vals l)[j]? = some u) : j < l.length ∧ u = .int .u8 (bat l j) := by
  have hj : j < l.length := by have := (List.getElem?_eq_some_iff.1 h).1; rwa [vals_length] at this
  rw [vals_get l j hj] at h
  exact ⟨hj, (Option.some.inj h).symm⟩
theorem vals_one (l : List UInt8) : ∀ u ∈ vals l, u.oneCell' = true := by
  intro u hu
  simp only [vals, List.mem_map] at hu
  obtain ⟨b, _, rfl⟩ := hu
  rfl

/- the bytes l lie behind the address a -/
def Bs (w : World) (a : Option Addr) (l : List UInt8) : Prop :=
  l.length ≤ 211106232532992 ∧ (l ≠ [] → ∃ b off, a = some ⟨b, off, none⟩ ∧ b < w.heap.size ∧ ∀ j, j < l.length → w.cell? ⟨b, off + j, none⟩ = some (.int .u8 (bat l j)))

/- the slice value v owns a row whose first cells are the bytes l -/
def Own (w : World) (v : Value) (l : List UInt8) : Prop :=
  (v = .slice none 0 0 ∧ l = []) ∨
  ∃ g cap cur, v = .slice (some ⟨g, 0, none⟩) l.length cap ∧ w.heap[g]? = some (.cells cur 5 (0, 0)) ∧ l.length ≤ cap ∧ cap ≤ maxLen ∧ cur.size = cap ∧ cur.toList.take l.length = vals l

/- w' is w with new blocks and with writes to block r alone; the row is now r' : the old one or a new one -/
structure Stp (w w' : World) (r r' : Option Nat) : Prop where
  os : w'.os = w.os
  tape : w'.tape = w.tape
  output : w'.output = w.output
  size : w.heap.size ≤ w'.heap.size
  block : ∀ k, k < w.heap.size → some k ≠ r → w'.heap[k]? = w.heap[k]?
  row : r' = r ∨ ∃ k, r' = some k ∧ w.heap.size ≤ k

theorem Stp.refl (w : World) (r : Option Nat) : Stp w w r r := ⟨rfl, rfl, rfl, Nat.le_refl _, fun _ _ _ => rfl, .inl rfl⟩
theorem Stp.trans {a b c : World} {r r1 r2 : Option Nat} (h : Stp a b r r1) (k : Stp b c r1 r2) : Stp a c r r2 := by
  refine ⟨k.os.trans h.os, k.tape.trans h.tape, k.output.trans h.output, Nat.le_trans h.size k.size, fun i hi hr => ?_, ?_⟩
  · refine (k.block i (Nat.lt_of_lt_of_le hi h.size) ?_).trans (h.block i hi hr)
    rcases h.row with e | ⟨n, e, hn⟩
    · rw [e]; exact hr
    · rw [e]; intro e2; have := Option.some.inj e2; omega
  · rcases k.row with e | ⟨n, e, hn⟩
    · rw [e]; exact h.row
    · exact .inr ⟨n, e, Nat.le_trans h.size hn⟩
theorem Stp.alloc {a w : World} {r r1 : Option Nat} (h : Stp a w r r1) (o : Obj) : Stp a (w.alloc o) r r1 :=
  h.trans ⟨rfl, rfl, rfl, by simp, fun k hk _ => Below.heap_alloc w o k hk, .inl rfl⟩
theorem Stp.drew {a w : World} {r r1 : Option Nat} (h : Stp a w r r1) : Stp a w.drew r r1 := ⟨h.os, h.tape, h.output, h.size, h.block, h.row⟩
theorem Stp.drewN {a w : World} {r r1 : Option Nat} (h : Stp a w r r1) (n : Nat) : Stp a (w.drewN n) r r1 := ⟨h.os, h.tape, h.output, h.size, h.block, h.row⟩
/- below a number that the row does not undercut -/
theorem Stp.below {w w' : World} {r r' : Option Nat} (h : Stp w w' r r') (B : Nat) (hB : B ≤ w.heap.size) (hr : ∀ k, r = some k → B ≤ k) : Below B w w' :=
  ⟨h.os, h.tape, h.output, h.size, fun k hk => h.block k (by omega) (fun e => by have := hr k e.symm; omega)⟩

theorem Stp.belowN {w w' : World} {r' : Option Nat} (h : Stp w w' none r') : Below w.heap.size w w' := h.below _ (Nat.le_refl _) (fun k hk => by cases hk)

theorem Own.kept {w w' : World} {v : Value} {l : List UInt8} (h : Own w v l) (hb : ∀ k, v.ownBlock = some k → w'.heap[k]? = w.heap[k]?) : Own w' v l := by
  rcases h with h | ⟨g, cap, cur, rfl, hg, rest⟩
  · exact .inl h
  · exact .inr ⟨g, cap, cur, rfl, by rw [hb g rfl]; exact hg, rest⟩
theorem Own.lt {w : World} {v : Value} {l : List UInt8} (h : Own w v l) : ∀ k, v.ownBlock = some k → k < w.heap.size := by
  intro k hk
  rcases h with ⟨rfl, _⟩ | ⟨g, cap, cur, rfl, hg, rest⟩
  · simp [Value.ownBlock] at hk
  · simp [Value.ownBlock] at hk
    subst hk
    exact (Array.getElem?_eq_some_iff.1 hg).1
theorem Own.alloc {w : World} {v : Value} {l : List UInt8} (h : Own w v l) (o : Obj) : Own (w.alloc o) v l := h.kept fun k hk => Below.heap_alloc w o k (h.lt k hk)
theorem Own.drew {w : World} {v : Value} {l : List UInt8} (h : Own w v l) : Own w.drew v l := h
theorem Own.drewN {w : World} {v : Value} {l : List UInt8} (h : Own w v l) (n : Nat) : Own (w.drewN n) v l := h
theorem Own.below {w w' : World} {v : Value} {l : List UInt8} (h : Own w v l) (hb : Below w.heap.size w w') : Own w' v l := h.kept fun k hk => hb.block k (h.lt k hk)

theorem Own.form {w : World} {v : Value} {l : List UInt8} (h : Own w v l) : ∃ a cap, v = .slice a l.length cap ∧ (l.length ≤ 211106232532992 → Bs w a l) := by
  rcases h with ⟨rfl, rfl⟩ | ⟨g, cap, cur, rfl, hg, h1, h2, h3, h4⟩
  · exact ⟨none, 0, rfl, fun _ => ⟨by simp, fun h => absurd rfl h⟩⟩
  · refine ⟨_, cap, rfl, fun hl => ⟨hl, fun _ => ⟨g, 0, rfl, (Array.getElem?_eq_some_iff.1 hg).1, fun j hj => ?_⟩⟩⟩
    rw [Nat.zero_add, cell_of_row w g j cur 5 (0, 0) hg]
    have := vals_get l j hj
    rw [← h4, List.getElem?_take, if_pos hj] at this
    simpa using this

theorem Bs.below {w w' : World} {a : Option Addr} {l : List UInt8} (h : Bs w a l) {B : Nat} (hb : Below B w w') (ha : ∀ x, a = some x → x.block < B) : Bs w' a l := by
  refine ⟨h.1, fun hne => ?_⟩
  obtain ⟨b, off, rfl, hlt, hc⟩ := h.2 hne
  have hB := ha _ rfl
  exact ⟨b, off, rfl, Nat.lt_of_lt_of_le hlt hb.size, fun j hj => (hb.cell (p := ⟨b, off + j, none⟩) hB).trans (hc j hj)⟩
theorem Bs.grow {w w' : World} {a : Option Addr} {l : List UInt8} (h : Bs w a l) (hb : Below w.heap.size w w') : Bs w' a l := by
  refine ⟨h.1, fun hne => ?_⟩
  obtain ⟨b, off, rfl, hlt, hc⟩ := h.2 hne
  exact ⟨b, off, rfl, Nat.lt_of_lt_of_le hlt hb.size, fun j hj => (hb.cell (p := ⟨b, off + j, none⟩) hlt).trans (hc j hj)⟩
theorem Bs.drew {w : World} {a : Option Addr} {l : List UInt8} (h : Bs w a l) : Bs w.drew a l := h.grow ((Below.refl _ _).drew)
theorem Bs.alloc {w : World} {a : Option Addr} {l : List UInt8} (h : Bs w a l) (o : Obj) : Bs (w.alloc o) a l := h.grow ((Below.refl _ _).alloc (Nat.le_refl _) o)

/- what an append's second argument yields: bytes behind an address -/
theorem Bs.src {P : Program} {w : World} {a : Option Addr} {l : List UInt8} (h : Bs w a l) (hk : P.underlying 38 = some (.slice 5)) (cap : Nat) : Src P 1 38 (.slice a l.length cap) l.length (vals l) w := by
  by_cases hne : l = []
  · subst hne
    cases a with
    | none => exact Src.ofNil w hk cap
    | some a => exact Src.ofSlice w hk a 0 cap [] rfl (by intro j u hu; simp at hu) (by intro u hu; simp at hu)
  · obtain ⟨b, off, rfl, hlt, hc⟩ := h.2 hne
    refine Src.ofSlice w hk _ _ cap (vals l) (by simp [vals]) (fun j u hu => ?_) (vals_one l)
    obtain ⟨hj, rfl⟩ := vals_get' l j u hu
    have := hc j hj
    rw [← this, Addr.add_lit]

/- what an append asks for fits, up to three quarters of the greatest size -/
theorem fits_b {need old : Nat} (h : old < need) (hb : need ≤ 211106232532992) : Builtin.nextslicecap need old ≤ 281474976710656 := by
  unfold Builtin.nextslicecap
  split
  · omega
  · split
    · omega
    · rw [growBy_four]
      repeat' split
      all_goals omega

/- THE LAW OF APPEND FOR BYTES -/
theorem run_append_b {P : Program} {i : TypeInfo} (ty : TypeId) (hk : P.underlying 38 = some (.slice 5)) (hi : P.info? 5 = some i) (hz : i.zero = some (.int .u8 0)) (hs1 : i.size = 1) (hb1 : i.bytes = 1)
    (w : World) (v : Value) (l : List UInt8) (hown : Own w v l) (x : Value) (news : List UInt8) (hs : Src P 1 38 x news.length (vals news) w) (hlen : l.length + news.length ≤ 211106232532992) :
    ∃ v' w', (Builtin.append_ #[38, 38] ty #[v, x]).run P w = .ok v' w' ∧ Own w' v' (l ++ news) ∧ Stp w w' v.ownBlock v'.ownBlock := by
  have hs' : Src P i.size 38 x news.length (vals news) w := by rw [hs1]; exact hs
  have grown : ∀ (base : Option Addr) (cap : Nat), l.length ≤ cap → cap < l.length + news.length → (Builtin.firstCells i.size l.length (.slice base l.length cap)).run P w.drew = .ok (vals l).toArray w.drew →
      ∃ v' w', (Builtin.append_ #[38, 38] ty #[.slice base l.length cap, x]).run P w = .ok v' w' ∧ Own w' v' (l ++ news) ∧ ∀ r, Stp w w' r v'.ownBlock := by
    intro base cap hc1 hc2 hold
    have hr := run_append_grow_src w 38 38 ty 5 i (.int .u8 0) hk hi hz base l.length cap (vals l) hold x news.length (vals news) hs' hc2 (by omega) (by rw [hb1, Nat.mul_one]; exact fits_b (by omega) (by omega))
    have hge := grownCap_ge w (l.length + news.length) cap 5
    have hm : grownCap w (l.length + news.length) cap 5 ≤ maxLen := grownCap_le_maxLen w _ cap 5 (by unfold maxLen; omega)
    refine ⟨_, _, hr, .inr ⟨w.heap.size, _, _, by rw [List.length_append], heap_alloc_new w.drew _, by rw [List.length_append]; exact hge, hm, ?_, ?_⟩, fun r => ⟨rfl, rfl, rfl, by simp, fun k hk _ => Below.heap_alloc w.drew _ k hk, .inr ⟨w.heap.size, rfl, Nat.le_refl _⟩⟩⟩
    · simp only [Array.size_append, List.size_toArray, size_zeroCells, List.length_append, vals_length]
      simp [Value.cells]
      omega
    · rw [vals_append]
      simp only [Array.toList_append]
      have : (l ++ news).length = (vals l ++ vals news).length := by simp [vals_length]
      rw [this]
      exact List.take_left
  rcases hown with ⟨rfl, rfl⟩ | ⟨g, cap, cur, rfl, hg, h1, h2, h3, h4⟩
  · by_cases hn : news = []
    · subst hn
      refine ⟨.slice none 0 0, w, ?_, .inl ⟨rfl, rfl⟩, Stp.refl _ _⟩
      have hc := hs'.cells
      have hlen0 := hs'.len
      simp only [vals, List.map_nil, List.length_nil] at hc hlen0
      simp [Builtin.append_, run_underlying hk, sizeOf, typeInfo, hi, hlen0, hc]
    · have hp : 0 < news.length := List.length_pos_iff.2 hn
      obtain ⟨v', w', a, b, c⟩ := grown none 0 (Nat.le_refl _) (by simpa using hp) (by exact run_firstCells_none w.drew i.size 0 0 0)
      exact ⟨v', w', a, b, c _⟩
  · by_cases hroom : l.length + news.length ≤ cap
    · have hst := run_storeCells_at P g (l.length * i.size) 5 (vals news) 0 cur w hg (by rw [hs1, vals_length]; omega) (vals_one news)
      simp only [Nat.add_zero] at hst
      have hr : (Builtin.append_ #[38, 38] ty #[.slice (some ⟨g, 0, none⟩) l.length cap, x]).run P w = .ok (.slice (some ⟨g, 0, none⟩) (l.length + news.length) cap)
          (w.setRow g (cur.toList.take (l.length * i.size) ++ vals news ++ cur.toList.drop (l.length * i.size + (vals news).length)).toArray) := by
        simp [Builtin.append_, run_underlying hk, sizeOf, typeInfo, hi, hs'.len, hroom, hs'.cells, Addr.add_lit, hst]
      refine ⟨_, _, hr, .inr ⟨g, cap, _, by rw [List.length_append], setRow_heap w g cur _ 5 _ hg, by rw [List.length_append]; exact hroom, h2, ?_, ?_⟩, ⟨rfl, rfl, rfl, by simp, fun k _ hk => setRow_other w g k _ (fun e => hk (by simp [Value.ownBlock, e])), .inl rfl⟩⟩
      · simp only [List.size_toArray, List.length_append, List.length_take, List.length_drop, Array.length_toList, vals_length, hs1]
        omega
      · rw [hs1, Nat.mul_one, h4, vals_append]
        have : (l ++ news).length = (vals l ++ vals news).length := by simp [vals_length]
        rw [this]
        exact List.take_left
    · have hold : ∀ j u, (vals l)[j]? = some u → w.drew.cell? ((⟨g, 0, none⟩ : Addr).add j) = some u := by
        intro j u hu
        obtain ⟨hj, rfl⟩ := vals_get' l j u hu
        have hadd : (⟨g, 0, none⟩ : Addr).add j = ⟨g, j, none⟩ := by unfold Addr.add; split <;> simp_all
        rw [hadd, cell_of_row w.drew g j cur 5 (0, 0) hg]
        have := vals_get l j hj
        rw [← h4, List.getElem?_take, if_pos hj] at this
        simpa using this
      obtain ⟨v', w', a, b, c⟩ := grown (some ⟨g, 0, none⟩) cap h1 (by omega) (run_firstCells_some w.drew i.size l.length _ _ _ (vals l) (by rw [hs1, vals_length]; omega) hold)
      exact ⟨v', w', a, b, c _⟩

theorem Tryd.info5 : (Tryd.prog.info? 5).map (fun i => (i.zero, i.size, i.bytes)) = some (some (.int .u8 0), 1, 1) := by kernel_rfl

/- the same, as a step of a walk -/
theorem wpList_append_b {ops : Array Oper} {rest : List Oper} {o : Oper} {a : Act} {Q : Exit → Act → World → Prop} (w : World) (hgd : o.guard = none) (s x : Operand)
    (ho : o.op = .call { callee := .builtin .append, args := #[s, x], argTypes := #[38, 38] })
    (v : Value) (l : List UInt8) (hs : a.eval s = v) (hown : Own w v l) (xv : Value) (news : List UInt8) (hx : a.eval x = xv) (hsrc : Src Tryd.prog 1 38 xv news.length (vals news) w) (hlen : l.length + news.length ≤ 211106232532992)
    (h : ∀ v' w', Own w' v' (l ++ news) → Stp w w' v.ownBlock v'.ownBlock → wpList Tryd.prog ops Q rest (a.put o.dst v') w') : wpList Tryd.prog ops Q (o :: rest) a w := by
  refine wpList_plain hgd fun K hK => ?_
  obtain ⟨i, hi, hz0, hz1, hz2⟩ := info_parts Tryd.info5
  obtain ⟨v', w', hr, h2, h3⟩ := run_append_b (P := Tryd.prog) o.type Tryd.underlying38 hi hz0 hz1 hz2 w v l hown xv news hsrc hlen
  unfold Oper.wp execOp
  simp only [ho, resolve, invoke, builtin, Sem.run_bind, Sem.run_pure, Result.andThen_ok, List.map_toArray, List.map_cons, List.map_nil, hs, hx, hr]
  exact hK _ _ (h v' w' h2 h3)

end Go.Proofs.YtkienmncifonnaaDoor
