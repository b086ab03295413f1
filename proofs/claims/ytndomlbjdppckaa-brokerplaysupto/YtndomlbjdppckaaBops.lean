/- The heap's calls, by the list of its items in the order in which they came: New, Push, Peek, Pop, Len. -/
import Derived.Test.YtndomlbjdppckaaBsin
import Derived.Deep.RegionLaw
namespace Go.Proofs.Ytndomlbjdppckaa
open Go.RowKit

theorem step_app {P : Program} {ops : Array Oper} {o : Oper} {a : Act} {K : Act → World → Prop} {Q : Exit → Act → World → Prop} {E : Prop} (w : World) (hgd : o.guard = none) (s x : Operand) (t : TypeId)
    (ho : o.op = .call { callee := .builtin .append, args := #[s, x], argTypes := #[t, t] })
    (base : Nat) (e : TypeId) (i : TypeInfo) (z : Value) (size bytes : Nat) (ht : P.underlying t = some (.slice e)) (hi : P.info? e = some i) (hz : i.zero = some z)
    (hsize : i.size = size) (hby : i.bytes = bytes) (hzs : z.cells.size = size) (hsz : 0 < size)
    (v : Value) (n : Nat) (xs : List Value) (hs : a.eval s = v) (hown : w.ownsRow base e size v n xs)
    (ad : Addr) (m c : Nat) (news : List Value) (hx : a.eval x = .slice (some ad) m c) (hl : news.length = m * size) (hnews : ∀ j u, news[j]? = some u → w.cell? (ad.add j) = some u) (h1 : ∀ u ∈ news, u.oneCell' = true)
    (h63 : n + m ≤ maxLen) (hbytes : (n + m) * bytes ≤ 140737488355328) (hbase : base ≤ w.heap.size)
    (h : ∀ v' w', w'.ownsRow base e size v' (n + m) (xs ++ news) → w.grownBy w' v.ownBlock → (v'.ownBlock = v.ownBlock ∨ v'.ownBlock = some w.heap.size) → K (a.put o.dst v') w') :
    if Region.wanted o (yielded ops a.tmps) = true then Oper.wp P o a w K Q else E := by
  have hw : Region.wanted o (yielded ops a.tmps) = true := by simp [Region.wanted, hgd]
  rw [if_pos hw]
  obtain ⟨v', w', hr, h2, h3, _, h4⟩ := run_append_own_at (P := P) w base t o.type e i z size bytes ht hi hz hsize hby hzs hsz v n xs hown ad m c news hl hnews h1 h63 hbytes hbase
  unfold Oper.wp execOp
  simp only [ho, resolve, invoke, builtin, Sem.run_bind, Sem.run_pure, Result.andThen_ok, List.map_toArray, List.map_cons, List.map_nil, hs, hx, hr]
  exact h v' w' h2 h3 h4

/- what a call of the heap leaves: blocks that are neither the heap's nor its row's are as they were -/
structure NS (w w' : World) (p : Nat) (r r' : Option Nat) : Prop where
  os : w'.os = w.os
  tape : w'.tape = w.tape
  output : w'.output = w.output
  size : w.heap.size ≤ w'.heap.size
  block : ∀ k, k < w.heap.size → k ≠ p → some k ≠ r → w'.heap[k]? = w.heap[k]?
  row : r' = r ∨ ∃ k, r' = some k ∧ w.heap.size ≤ k
theorem NS.refl (w : World) (p : Nat) (r : Option Nat) : NS w w p r r := ⟨rfl, rfl, rfl, Nat.le_refl _, fun _ _ _ _ => rfl, .inl rfl⟩
theorem NS.trans {a b c : World} {p : Nat} {r r1 r2 : Option Nat} (h : NS a b p r r1) (k : NS b c p r1 r2) : NS a c p r r2 := by
  refine ⟨k.os.trans h.os, k.tape.trans h.tape, k.output.trans h.output, Nat.le_trans h.size k.size, fun i hi hp hr => ?_, ?_⟩
  · refine (k.block i (Nat.lt_of_lt_of_le hi h.size) hp ?_).trans (h.block i hi hp hr)
    rcases h.row with e | ⟨n, e, hn⟩
    · rw [e]; exact hr
    · rw [e]; intro e2; have := Option.some.inj e2; omega
  · rcases k.row with e | ⟨n, e, hn⟩
    · rw [e]; exact h.row
    · exact .inr ⟨n, e, Nat.le_trans h.size hn⟩
theorem NS.of_below {a b : World} {p : Nat} {r : Option Nat} (h : Below a.heap.size a b) : NS a b p r r := ⟨h.os, h.tape, h.output, h.size, fun k hk _ _ => h.block k hk, .inl rfl⟩
theorem NS.of_rs {a b : World} {p g : Nat} (h : RS a b g) : NS a b p (some g) (some g) := ⟨h.os, h.tape, h.output, h.size, fun k hk _ hr => h.block k hk (fun e => hr (by rw [e])), .inl rfl⟩
theorem NS.drew {a b : World} {p : Nat} {r r' : Option Nat} (h : NS a b p r r') : NS a b.drew p r r' := ⟨h.os, h.tape, h.output, h.size, h.block, h.row⟩
theorem NS.setp {a b : World} {p : Nat} {r r' : Option Nat} (h : NS a b p r r') (j : Nat) (u : Value) : NS a (b.setCell ⟨p, j, none⟩ u) p r r' :=
  h.trans ⟨rfl, rfl, rfl, by simp, fun k _ hk _ => Below.heap_setCell b ⟨p, j, none⟩ u k hk, .inl rfl⟩
theorem NS.below {a b : World} {p D : Nat} {r r' : Option Nat} (h : NS a b p r r') (hD : D ≤ a.heap.size) (hp : D ≤ p) (hr : ∀ k, r = some k → D ≤ k) : Below D a b :=
  ⟨h.os, h.tape, h.output, h.size, fun k hk => h.block k (by omega) (by omega) (fun e => by have := hr k e.symm; omega)⟩
theorem NS.rowD {a b : World} {p D : Nat} {r r' : Option Nat} (h : NS a b p r r') (hD : D ≤ a.heap.size) (hr : ∀ k, r = some k → D ≤ k) : ∀ k, r' = some k → D ≤ k := by
  intro k hk
  rcases h.row with e | ⟨n, e, hn⟩
  · exact hr k (e ▸ hk)
  · rw [e] at hk; cases hk; omega

/- the heap in block p, its items L as they stand -/
def HeapL (w : World) (p : Nat) (L : List It) (n : Nat) (v : Value) : Prop :=
  w.heap[p]? = some (.cells #[v, .int .i64 n] 78 (0, 0)) ∧ v.ownBlock ≠ some p ∧ w.ownsRow 0 82 2 v L.length (enL L)
/- the heap in block p, its items M in the order in which they came, n of them were pushed -/
def HeapR (w : World) (p : Nat) (M : List It) (n : Nat) (r : Option Nat) : Prop :=
  ∃ v L, HeapL w p L n v ∧ v.ownBlock = r ∧ L.Perm M ∧ HeapFrom 0 L ∧ Came M ∧ (∀ a ∈ M, 0 ≤ a.c ∧ a.c < n) ∧ M.length ≤ n

theorem ownsRow_kept {w w' : World} {v : Value} {e n s : Nat} {xs : List Value} (h : w.ownsRow 0 e s v n xs) (hb : ∀ k, v.ownBlock = some k → w'.heap[k]? = w.heap[k]?) : w'.ownsRow 0 e s v n xs := by
  refine ⟨h.1, ?_⟩
  rcases h.2 with h2 | ⟨g, cap, cur, rfl, h3, h4, h5⟩
  · exact .inl h2
  · exact .inr ⟨g, cap, cur, rfl, h3, (hb g rfl).trans h4, h5⟩
theorem ownsRow_lt {w : World} {v : Value} {e n s : Nat} {xs : List Value} (h : w.ownsRow 0 e s v n xs) {k : Nat} (hk : v.ownBlock = some k) : k < w.heap.size := by
  rcases h.2 with ⟨rfl, _⟩ | ⟨g, cap, cur, rfl, h3, h4, h5⟩
  · cases hk
  · cases hk; exact (Array.getElem?_eq_some_iff.1 h4).1
theorem HeapL.kept {w w' : World} {p n : Nat} {L : List It} {v : Value} (h : HeapL w p L n v) (hp : w'.heap[p]? = w.heap[p]?) (hb : ∀ k, v.ownBlock = some k → w'.heap[k]? = w.heap[k]?) : HeapL w' p L n v :=
  ⟨hp.trans h.1, h.2.1, ownsRow_kept h.2.2 hb⟩
theorem HeapR.kept {w w' : World} {p n : Nat} {M : List It} {r : Option Nat} (h : HeapR w p M n r) (hp : w'.heap[p]? = w.heap[p]?) (hb : ∀ k, r = some k → w'.heap[k]? = w.heap[k]?) : HeapR w' p M n r := by
  obtain ⟨v, L, h1, rfl, h2⟩ := h
  exact ⟨v, L, h1.kept hp hb, rfl, h2⟩
theorem HeapR.lt {w : World} {p n : Nat} {M : List It} {r : Option Nat} (h : HeapR w p M n r) : p < w.heap.size ∧ ∀ k, r = some k → k < w.heap.size := by
  obtain ⟨v, L, h1, rfl, h2⟩ := h
  exact ⟨(Array.getElem?_eq_some_iff.1 h1.1).1, fun k hk => ownsRow_lt h1.2.2 hk⟩
theorem HeapR.grow {w w' : World} {p n : Nat} {M : List It} {r : Option Nat} (h : HeapR w p M n r) (hb : Below w.heap.size w w') : HeapR w' p M n r :=
  h.kept (hb.block p h.lt.1) (fun k hk => hb.block k (h.lt.2 k hk))
/- what the walks read -/
theorem HeapL.cells {w : World} {p n : Nat} {L : List It} {v : Value} (h : HeapL w p L n v) : w.cell? ⟨p, 0, none⟩ = some v ∧ w.cell? ⟨p, 1, none⟩ = some (.int .i64 n) ∧ w.frozen? ⟨p, 0, none⟩ = false ∧ w.frozen? ⟨p, 1, none⟩ = false := by
  refine ⟨?_, ?_, ?_, ?_⟩
  · rw [cell_of_row w p 0 _ 78 (0, 0) h.1]; rfl
  · rw [cell_of_row w p 1 _ 78 (0, 0) h.1]; rfl
  · simp [World.frozen?, h.1]
  · simp [World.frozen?, h.1]
theorem HeapL.slice {w : World} {p n : Nat} {L : List It} {v : Value} (h : HeapL w p L n v) : ∃ a cap, v = .slice a L.length cap := by
  rcases h.2.2.2 with ⟨rfl, e⟩ | ⟨g, cap, cur, rfl, _⟩
  · exact ⟨none, 0, by rw [e]⟩
  · exact ⟨_, cap, rfl⟩
theorem rowR_of {w : World} {g cap : Nat} {L : List It} {n : Nat} {p : Nat} (h : HeapL w p L n (.slice (some ⟨g, 0, none⟩) L.length cap)) : RowR w g cap L ∧ p ≠ g := by
  refine ⟨?_, fun e => h.2.1 (by rw [e]; rfl)⟩
  rcases h.2.2.2 with ⟨e, _⟩ | ⟨g', cap', cur, e, _, h3, h4, h5, h6, h7⟩
  · cases e
  · cases e
    exact ⟨h4, h5, cur, h3, h6, fun i hi => itAt_of h7 i hi⟩
theorem heapL_of {w : World} {g cap : Nat} {L : List It} {n : Nat} {p : Nat} (h : RowR w g cap L) (hp : w.heap[p]? = some (.cells #[.slice (some ⟨g, 0, none⟩) L.length cap, .int .i64 n] 78 (0, 0))) (hpg : p ≠ g) : HeapL w p L n (.slice (some ⟨g, 0, none⟩) L.length cap) := by
  obtain ⟨cur, hc, hs, h2⟩ := h.at_
  have hl := h.lec
  exact ⟨hp, fun e => hpg (Option.some.inj e).symm, enL_length L, .inr ⟨g, cap, cur, rfl, Nat.zero_le _, hc, h.lec, h.capm, hs, of_itAt (by omega) h2⟩⟩

set_option maxHeartbeats 400000 in
theorem new_any (w : World) : Calls Try.prog 23 #[] w fun e w' => e = .returned (.pointer (some ⟨w.heap.size, 0, none⟩)) ∧ w' = w.alloc (.cells #[.slice none 0 0, .int .i64 0] 78) := by
  go_enter Try.func23, Try.ntmps23
  go_wp2
  go_ret
  exact ⟨rfl, rfl⟩
theorem heapR_new (w : World) : HeapR (w.alloc (.cells #[.slice none 0 0, .int .i64 0] 78)) w.heap.size [] 0 none :=
  ⟨.slice none 0 0, [], ⟨heap_alloc_new w _, by simp [Value.ownBlock], rfl, .inl ⟨rfl, rfl⟩⟩, rfl, .refl _, fun i j _ hj => by simp at hj, List.Pairwise.nil, (fun a ha => absurd ha (by simp)), Nat.le_refl _⟩

set_option maxHeartbeats 400000 in
theorem peek_any (p n : Nat) (M : List It) (r : Option Nat) (w : World) (h : HeapR w p M n r) : Calls Try.prog 40 #[.pointer (some ⟨p, 0, none⟩)] w fun e w' => ((M = [] ∧ e = .returned (.tuple #[.pointer none, .bool false])) ∨ ∃ m, MinOf M m ∧ e = .returned (.tuple #[.pointer (some ⟨m.p, 0, none⟩), .bool true])) ∧ w' = w := by
  obtain ⟨v, L, h1, rfl, hp, hh, _⟩ := h
  obtain ⟨c0, _⟩ := h1.cells
  by_cases hL : L = []
  · subst hL
    have hM : M = [] := by have := hp.length_eq; simpa using this.symm
    obtain ⟨a, cap, rfl⟩ := h1.slice
    simp only [List.length_nil] at c0
    clear h1 hp hh
    go_enter Try.func40, Try.ntmps40
    go_wp2
    go_ret2
    exact ⟨.inl ⟨hM, rfl⟩, rfl⟩
  · have hM := hidOf (hh.minOf hp hL)
    have hlp : 0 < L.length := List.length_pos_iff.2 hL
    obtain ⟨a, cap, rfl⟩ := h1.slice
    obtain ⟨g, rfl⟩ : ∃ g, a = some ⟨g, 0, none⟩ := by
      rcases h1.2.2.2 with ⟨e, e2⟩ | ⟨g, cap', cur, e, _⟩
      · omega
      · cases e; exact ⟨g, rfl⟩
    obtain ⟨hR, hpg⟩ := rowR_of h1
    obtain ⟨m, hm⟩ : ∃ m, m = gt L 0 := ⟨_, rfl⟩
    obtain ⟨a0, a2⟩ := hR.cells 0 hlp
    rw [← hm] at hM a0 a2
    have hlz : (0 : Int) < (L.length : Int) := by omega
    have hlne : ((L.length : Int) == 0) = false := beq_eq_false_iff_ne.2 (by omega)
    clear h1 hp hh hR hm hL hlp
    go_enter Try.func40, Try.ntmps40
    go_wp2
    go_ret2
    exact ⟨.inr ⟨m, hM.out, rfl⟩, rfl⟩

theorem info82 : (Try.prog.info? 82).map (fun i => (i.zero, i.size, i.bytes)) = some (some (.agg #[.pointer none, .int .i64 0]), 2, 16) := by kernel_rfl
theorem cell_news (w : World) (cs : Array Value) (ty : TypeId) (j : Nat) (u : Value) (h : cs.toList[j]? = some u) : (w.alloc (.cells cs ty)).cell? ((⟨w.heap.size, 0, none⟩ : Addr).add j) = some u := by
  rw [Addr.add_lit]
  simp only [Nat.zero_add]
  rw [Array.getElem?_toList] at h
  rw [cell_of_row (w.alloc (.cells cs ty)) w.heap.size j cs ty (0, 0) (heap_alloc_new w _)]
  exact h
theorem news2 (w : World) (l : List Value) (ty : TypeId) (j : Nat) (u : Value) (h : l[j]? = some u) : (w.alloc (.cells l.toArray ty)).drew.cell? ((⟨w.heap.size, 0, none⟩ : Addr).add j) = some u :=
  cell_news w l.toArray ty j u (by simpa using h)
theorem row_slice {w : World} {v : Value} {e n s : Nat} {xs : List Value} (h : w.ownsRow 0 e s v (n + 1) xs) : ∃ g c, v = .slice (some ⟨g, 0, none⟩) (n + 1) c := by
  rcases h.2 with ⟨_, e⟩ | ⟨g, cap, cur, rfl, _⟩
  · omega
  · exact ⟨g, cap, rfl⟩

theorem push_ns {w w2 w3 : World} {p g3 n l c3 : Nat} {L : List It} {v : Value} (hB : Below w.heap.size w w2) (hG : w2.grownBy w3 v.ownBlock) (hw : (Value.slice (some ⟨g3, 0, none⟩) l c3).ownBlock = v.ownBlock ∨ (Value.slice (some ⟨g3, 0, none⟩) l c3).ownBlock = some w2.heap.size) (_h : HeapL w p L n v) : NS w w3 p v.ownBlock (some g3) := by
  refine ⟨hG.os.trans hB.os, hG.tape.trans hB.tape, hG.output.trans hB.output, Nat.le_trans hB.size hG.size, fun k hk _ hr => (hG.block k (Nat.lt_of_lt_of_le hk hB.size) hr).trans (hB.block k hk), ?_⟩
  rcases hw with e | e
  · exact .inl e
  · exact .inr ⟨g3, rfl, by cases e; exact hB.size⟩
theorem push_l {w w2 w3 : World} {p g3 n c3 : Nat} {L : List It} {v : Value} {x : It} (hB : Below w.heap.size w w2) (hG : w2.grownBy w3 v.ownBlock) (hw : (Value.slice (some ⟨g3, 0, none⟩) (L.length + 1) c3).ownBlock = v.ownBlock ∨ (Value.slice (some ⟨g3, 0, none⟩) (L.length + 1) c3).ownBlock = some w2.heap.size) (h : HeapL w p L n v)
    (ho : w3.ownsRow 0 82 2 (.slice (some ⟨g3, 0, none⟩) (L.length + 1) c3) (L.length + 1) (enL L ++ enI x)) : HeapL (w3.setCell ⟨p, 0, none⟩ (.slice (some ⟨g3, 0, none⟩) (L.length + 1) c3)) p (L ++ [x]) n (.slice (some ⟨g3, 0, none⟩) (L.length + 1) c3) := by
  have hl : p < w.heap.size := (Array.getElem?_eq_some_iff.1 h.1).1
  have hpg : p ≠ g3 := by
    intro e
    rcases hw with e2 | e2
    · exact h.2.1 (by rw [← e2, e]; rfl)
    · have e3 : g3 = w2.heap.size := by cases e2; rfl
      have := hB.size
      omega
  have f3 : w3.heap[p]? = some (.cells #[v, .int .i64 n] 78 (0, 0)) := ((hG.block p (Nat.lt_of_lt_of_le hl hB.size) (fun e => h.2.1 e.symm)).trans (hB.block p hl)).trans h.1
  refine ⟨by rw [heap_setCell_same w3 p 0 _ 78 _ f3]; rfl, fun e => hpg (Option.some.inj e).symm, ?_⟩
  have : (L ++ [x]).length = L.length + 1 := by simp
  rw [this, enL_append]
  exact ownsRow_kept ho (fun k hk => Below.heap_setCell w3 ⟨p, 0, none⟩ _ k (fun e => hpg (by cases hk; exact e.symm)))

theorem push_done {W : World} {p g n c : Nat} {L : List It} {x : It} (h : HeapL W p (L ++ [x]) n (.slice (some ⟨g, 0, none⟩) (L.length + 1) c)) :
    (W.setCell ⟨p, 1, none⟩ (.int .i64 ((n : Int) + 1))).heap[p]? = some (.cells #[.slice (some ⟨g, 0, none⟩) (L ++ [x]).length c, .int .i64 ((n + 1 : Nat) : Int)] 78 (0, 0)) ∧ p ≠ g ∧ RowR (W.setCell ⟨p, 1, none⟩ (.int .i64 ((n : Int) + 1))) g c (L ++ [x]) := by
  have e : (L ++ [x]).length = L.length + 1 := by simp
  rw [← e] at h
  obtain ⟨hR, hpg⟩ := rowR_of h
  refine ⟨?_, hpg, hR.kept (Below.heap_setCell W ⟨p, 1, none⟩ _ g (fun e => hpg e.symm))⟩
  rw [heap_setCell_same W p 1 _ 78 _ h.1]
  rfl
theorem push_end {W w6 : World} {p g n c : Nat} {L L6 M : List It} {x : It} (hxc : x.c = n) (hW : W.heap[p]? = some (.cells #[.slice (some ⟨g, 0, none⟩) (L ++ [x]).length c, .int .i64 ((n + 1 : Nat) : Int)] 78 (0, 0))) (hpg : p ≠ g) (hp6 : L6.Perm (L ++ [x])) (hh6 : HeapFrom 0 L6) (hr6 : RowR w6 g c L6) (hs6 : RS W w6 g)
    (hM : L.Perm M ∧ HeapFrom 0 L ∧ Came M ∧ (∀ a ∈ M, 0 ≤ a.c ∧ a.c < n) ∧ M.length ≤ n) : HeapR w6 p (M ++ [x]) (n + 1) (some g) := by
  obtain ⟨h1, h2, h3, h4, h5⟩ := hM
  rw [← hp6.length_eq] at hW
  refine ⟨_, L6, heapL_of hr6 ((hs6.block p (Array.getElem?_eq_some_iff.1 hW).1 hpg).trans hW) hpg, rfl, hp6.trans (h1.append (.refl _)), hh6, ?_, ?_, by simp; exact h5⟩
  · refine List.pairwise_append.2 ⟨h3, List.pairwise_singleton _ _, fun a ha b hb => ?_⟩
    rw [List.mem_singleton.1 hb, hxc]
    exact (h4 a ha).2
  · intro a ha
    rcases List.mem_append.1 ha with ha | ha
    · have := h4 a ha; omega
    · rw [List.mem_singleton.1 ha, hxc]; omega

theorem push_kn {w w' : World} {p n : Nat} {L M : List It} {v : Value} {r' : Option Nat} (h : HeapL w p L n v) (hn : NS w w' p v.ownBlock r') (hK : ∀ a ∈ M, Kn w a) : ∀ a ∈ M, Kn w' a := by
  intro a ha
  have h1 := hK a ha
  refine ItR.kept h1 (hn.block a.p (ItR.lt h1) (h1.ne2 h.1) ?_)
  intro e
  rcases h.2.2.2 with ⟨rfl, _⟩ | ⟨g, cap, cur, rfl, h3, h4, h5⟩
  · cases e
  · have e2 : a.p = g := Option.some.inj e
    have h' : w.heap[a.p]? = some (.cells (itC a.x) 65 (0, 0)) := h1
    rw [e2, h4] at h'
    cases h'

set_option maxHeartbeats 4000000 in
set_option maxRecDepth 100000 in
theorem push_any (p n : Nat) (M : List It) (r : Option Nat) (b : Nat) (x : Itm) (w : World) (h : HeapR w p M n r) (hx : ItR w b x) (hK : ∀ a ∈ M, Kn w a) (hn : n < 8796093022207) : Calls Try.prog 35 #[.pointer (some ⟨p, 0, none⟩), .pointer (some ⟨b, 0, none⟩)] w fun e w' => e = .returned (.tuple #[]) ∧ ∃ r', HeapR w' p (M ++ [⟨b, x, n⟩]) (n + 1) r' ∧ NS w w' p r r' := by
  obtain ⟨v, L, h1, rfl, hp, hh, hc, hcn, hln⟩ := h
  obtain ⟨c0, c1, z0, z1⟩ := h1.cells
  have hl : p < w.heap.size := (Array.getElem?_eq_some_iff.1 h1.1).1
  have hLn : L.length ≤ n := by rw [hp.length_eq]; exact hln
  obtain ⟨i0, hi0, hz0, hz1, hz2⟩ := info_parts info82
  have HKN : Hid (∀ a ∈ L ++ [(⟨b, x, n⟩ : It)], Kn w a) := hidOf (fun a ha => by
    rcases List.mem_append.1 ha with ha | ha
    · exact hK a (hp.mem_iff.1 ha)
    · rw [List.mem_singleton.1 ha]; exact hx)
  have HI := hidOf hi0
  have HZ0 := hidOf hz0
  have HZ1 := hidOf hz1
  have HZ2 := hidOf hz2
  have H1 := hidOf h1
  have HH := hidOf (And.intro hp (And.intro hh (And.intro hc (And.intro hcn hln))))
  have hB : ∀ o : Obj, Below w.heap.size w (w.alloc o) := fun o => (Below.refl w.heap.size w).alloc (Nat.le_refl _) o
  clear hi0 hz0 hz1 hz2 h1 hp hh hc hcn hln hK hx
  go_enter Try.func35, Try.ntmps35
  go_wp2
  go_region_law (first | (refine step_app _ rfl (.tmp 8) (.tmp 15) 76 rfl 0 82 i0 (.agg #[.pointer none, .int .i64 0]) 2 16 Try.underlying76 HI.out HZ0.out HZ1.out HZ2.out rfl (by decide) v L.length (enL L) rfl (ownsRow_kept H1.out.2.2 (fun k hk => (hB _).block k (ownsRow_lt H1.out.2.2 hk))) ⟨w.heap.size, 0, none⟩ 1 1 [.pointer (some ⟨b, 0, none⟩), .int .i64 n] rfl rfl (fun j u hj => news2 w _ _ j u hj) (by intro u hu; simp at hu; rcases hu with rfl | rfl <;> rfl) (by unfold maxLen; omega) (by omega) (Nat.zero_le _) ?_; intro v3 w3 ho3 hg3 hw3; obtain ⟨g3, c3, rfl⟩ := row_slice ho3; have HO3 := hidOf ho3; have HG3 := hidOf hg3; have HW3 := hidOf hw3; clear ho3 hg3 hw3; have e3 : w3.heap[p]? = w.heap[p]? := (HG3.out.block p (Nat.lt_of_lt_of_le hl (hB _).size) (fun e => H1.out.2.1 e.symm)).trans ((hB _).block p hl); have f3 := e3.trans H1.out.1; have d3 : w3.cell? ⟨p, 0, none⟩ = some v := (by rw [cell_of_row w3 p 0 _ 78 (0, 0) f3]; rfl); have d4 : w3.cell? ⟨p, 1, none⟩ = some (.int .i64 n) := (by rw [cell_of_row w3 p 1 _ 78 (0, 0) f3]; rfl); have z3 : w3.frozen? ⟨p, 0, none⟩ = false := (by simp [World.frozen?, f3]); have z4 : w3.frozen? ⟨p, 1, none⟩ = false := (by simp [World.frozen?, f3]); have F3 := hidOf f3; clear e3 f3))
  all_goals (
    have hb4 : Hid (NS w w3 p v.ownBlock (some g3)) := push_ns (hB _).drew HG3.out HW3.out H1.out
    have G4 : Hid (HeapL (w3.setCell ⟨p, 0, none⟩ (.slice (some ⟨g3, 0, none⟩) (L.length + 1) c3)) p (L ++ [⟨b, x, n⟩]) n (.slice (some ⟨g3, 0, none⟩) (L.length + 1) c3)) := push_l (x := ⟨b, x, n⟩) (hB _).drew HG3.out HW3.out H1.out HO3.out
    obtain ⟨P1, P2, P3⟩ := push_done (x := ⟨b, x, n⟩) G4.out
    have HP1 := hidOf P1
    have HP3 := hidOf P3
    have HK2 := hidOf (push_kn H1.out (hb4.out.setp 0 (.slice (some ⟨g3, 0, none⟩) (L.length + 1) c3) |>.setp 1 (.int .i64 ((n : Int) + 1))) HKN.out)
    clear P1 P3
    go_wp2_with (go_at_call 42; refine (rise_any p g3 c3 (n + 1) L.length (L ++ [⟨b, x, n⟩]) _ HP1.out P2 HP3.out (RInv.start _ HH.out.2.1) HK2.out).mono ?_; rintro e w6 ⟨rfl, L6, hp6, hh6, hr6, hs6⟩)
    go_end0
    refine ⟨rfl, some g3, push_end rfl HP1.out P2 hp6 hh6 hr6 hs6 HH.out, ((hb4.out.setp 0 _).setp 1 _).trans (NS.of_rs hs6)⟩)

end Go.Proofs.Ytndomlbjdppckaa
