/- Lists that grow: append to a list of the call's own. -/
import Derived.Test.YteaohmlbioooaaaCbas
import Derived.Deep.AppendSrc
import Derived.Maps.AppendAt
namespace Go.Proofs.Yteaohmlbioooaaa
open Go.RowKit

theorem info3' : (Try.prog.info? 3).map (fun i => (i.zero, i.size, i.bytes)) = some (some (.int .i64 0), 1, 8) := by kernel_rfl
theorem run_app (w : World) (D : Nat) (v : Value) (l : List Int) (ty : TypeId) (ax : Option Addr) (cx : Nat) (k : List Int) (hr : Row w D v l) (hk : Ints w ax k) (hlen : l.length + k.length ≤ 17592186044416) (hD : D ≤ w.heap.size) :
    ∃ v' w', (Builtin.append_ #[22, 22] ty #[v, .slice ax k.length cx]).run Try.prog w = .ok v' w' ∧ Row w' D v' (l ++ k) ∧ w.grownBy w' v.ownBlock ∧ (v'.ownBlock = v.ownBlock ∨ v'.ownBlock = some w.heap.size) := by
  obtain ⟨i0, hi, hz0, hz1, hz2⟩ := info_parts info3'
  by_cases e : k = [] ∧ ax = none
  · obtain ⟨rfl, rfl⟩ := e
    refine ⟨v, w, ?_, by rw [List.append_nil]; exact hr, ⟨rfl, rfl, rfl, Nat.le_refl _, fun _ _ _ => rfl⟩, .inl rfl⟩
    rcases hr.own.2 with ⟨rfl, e⟩ | ⟨g, cap, cur, rfl, h3, h4, h5, h6, h7, h8⟩
    · simp [Builtin.append_, run_underlying Try.underlying22, sizeOf, typeInfo, hi, Builtin.lenOf, Builtin.firstCells]
    · have := run_append_room_src (P := Try.prog) w 22 22 ty 3 i0 Try.underlying22 hi g 0 l.length cap (.slice none 0 cx) 0 [] (Src.ofNil (P := Try.prog) w Try.underlying22 cx) (by omega) (fun j hj => absurd hj (by simp)) (fun j hj => absurd hj (by simp))
      simpa [World.setCells] using this
  · have hx : ∃ ad, ax = some ad := by
      cases ax with
      | some ad => exact ⟨ad, rfl⟩
      | none =>
        by_cases e2 : k = []
        · exact absurd ⟨e2, rfl⟩ e
        · obtain ⟨b, off, h, _⟩ := hk.cells e2; cases h
    obtain ⟨ad, rfl⟩ := hx
    obtain ⟨v', w', h1, h2, h3, h4, h5⟩ := run_append_own_at (P := Try.prog) w D 22 ty 3 i0 (.int .i64 0) 1 8 Try.underlying22 hi hz0 hz1 hz2 rfl (by decide) v l.length (l.map (Value.int .i64)) hr.own ad k.length cx (k.map (Value.int .i64)) (by simp) (fun j u hj => by
      have hjl : j < k.length := by have := (List.getElem?_eq_some_iff.1 hj).1; simpa using this
      obtain ⟨b, off, e1, _, hc⟩ := hk.at hjl
      cases e1
      rw [Addr.add_lit, hc j hjl, nth_get hjl]
      simp [hjl] at hj
      rw [hj]) (fun u hu => by obtain ⟨x, _, rfl⟩ := List.mem_map.1 hu; rfl) (by unfold maxLen; omega) (by omega) hD
    refine ⟨v', w', h1, ⟨?_, by simp; omega⟩, h3, h5⟩
    rw [List.length_append, List.map_append]; exact h2
theorem wpList_app {ops : Array Oper} {rest : List Oper} {o : Oper} {a : Act} {Q : Exit → Act → World → Prop} (w : World) (hgd : o.guard = none) (s x : Operand) (ho : o.op = .call { callee := .builtin .append, args := #[s, x], argTypes := #[22, 22] })
    (D : Nat) (v : Value) (l : List Int) (hs : a.eval s = v) (hr : Row w D v l) (ax : Option Addr) (cx : Nat) (k : List Int) (hx : a.eval x = .slice ax k.length cx) (hk : Ints w ax k) (hlen : l.length + k.length ≤ 17592186044416) (hD : D ≤ w.heap.size)
    (h : ∀ v' w', Row w' D v' (l ++ k) → w.grownBy w' v.ownBlock → (v'.ownBlock = v.ownBlock ∨ v'.ownBlock = some w.heap.size) → wpList Try.prog ops Q rest (a.put o.dst v') w') : wpList Try.prog ops Q (o :: rest) a w := by
  refine wpList_plain hgd fun K hK => ?_
  obtain ⟨v', w', hr1, h2, h3, h5⟩ := run_app w D v l o.type ax cx k hr hk hlen hD
  unfold Oper.wp execOp
  simp only [ho, resolve, invoke, builtin, Sem.run_bind, Sem.run_pure, Result.andThen_ok, List.map_toArray, List.map_cons, List.map_nil, hs, hx, hr1]
  exact hK _ _ (h v' w' h2 h3 h5)
/- one number: it is laid in a block of its own first -/
theorem ints_one (w : World) (x : Int) : Ints (w.alloc (.cells #[.int .i64 x] 3)) (some ⟨w.heap.size, 0, none⟩) [x] := by
  refine ⟨by simp, fun _ => ⟨w.heap.size, 0, rfl, by simp, fun j hj => ?_⟩⟩
  have : j = 0 := by simpa using hj
  subst this
  rw [cell_of_row _ w.heap.size 0 _ 3 (0, 0) (heap_alloc_new w _)]
  rfl
theorem Row.block {w : World} {D : Nat} {v : Value} {l : List Int} (h : Row w D v l) {k : Nat} (hk : v.ownBlock = some k) : D ≤ k ∧ k < w.heap.size := by
  rcases h.own.2 with ⟨rfl, _⟩ | ⟨g, cap, cur, rfl, h3, h4, h5⟩
  · cases hk
  · cases hk; exact ⟨h3, heap_lt h4⟩
theorem grown_below {w w' : World} {D : Nat} {v : Value} {l : List Int} (h : Row w D v l) (hg : w.grownBy w' v.ownBlock) (hD : D ≤ w.heap.size) : Below D w w' :=
  (Below.refl D w).grown hg hD (fun _ hk => (h.block hk).1)
theorem Row.keep {w w' : World} {D : Nat} {v : Value} {l : List Int} {r : Option Nat} (h : Row w D v l) (hg : w.grownBy w' r) (hne : ∀ k, v.ownBlock = some k → r ≠ some k) : Row w' D v l := by
  refine ⟨⟨h.own.1, ?_⟩, h.len⟩
  rcases h.own.2 with h2 | ⟨g, cap, cur, rfl, h3, h4, h5⟩
  · exact .inl h2
  · exact .inr ⟨g, cap, cur, rfl, h3, (hg.block g (heap_lt h4) (fun e => hne g rfl e.symm)).trans h4, h5⟩
theorem Ints.low {w w' : World} {D : Nat} {a : Option Addr} {l : List Int} (h : Ints w a l) (hD : w.heap.size ≤ D) (hb : Below D w w') : Ints w' a l := h.grow (hb.mono hD)
end Go.Proofs.Yteaohmlbioooaaa
