/- append: lists within an entry, and lists of entries. -/
import Derived.Test.YtdkmlgkljhhokaaMem
namespace Go.Proofs.Ytdkmlgkljhhokaa
open Go.RowKit

def Zc : List Value := [.int .i64 0, .int .i64 0, .int .i64 0, .int .i64 0, .int .i64 0, .int .i64 0, .int .i64 0, .int .i64 0, .int .i64 0, .slice none 0 0, .int .i64 0, .bool false, .int .i64 0, .int .i64 0, .int .i64 0, .bool false, .bool false, .int .i64 0, .int .i64 0, .int .i64 0, .slice none 0 0, .int .i64 0, .int .i64 0, .int .i64 0, .slice none 0 0, .slice none 0 0, .bool false, .slice none 0 0, .slice none 0 0]
theorem info51 : (Try.prog.info? 51).map (fun i => (i.zero, i.size, i.bytes)) = some (some (.agg Zc.toArray), 29, 320) := by kernel_rfl
theorem info84 : (Try.prog.info? 84).map (fun i => (i.zero, i.size, i.bytes)) = some (some (.agg #[.int .i64 0, .int .i64 0, .int .i64 0]), 3, 24) := by kernel_rfl
theorem info87 : (Try.prog.info? 87).map (fun i => (i.zero, i.size, i.bytes)) = some (some (.agg #[.int .i64 0, .int .i64 0]), 2, 16) := by kernel_rfl
theorem info3 : (Try.prog.info? 3).map (fun i => (i.zero, i.size, i.bytes)) = some (some (.int .i64 0), 1, 8) := by kernel_rfl
theorem info91 : (Try.prog.info? 91).map (fun i => (i.zero, i.size, i.bytes)) = some (some (.agg #[.int .i64 0, .int .i64 0, .int .i64 0, .int .i64 0, .int .i64 0, .int .i64 0, .int .i64 0, .int .i64 0, .int .i64 0, .bool false, .int .i64 0]), 11, 88) := by kernel_rfl

/- onto nothing: a new row, or nothing -/
theorem run_app0 (w : World) (t e ty : TypeId) (i : TypeInfo) (z : Value) (ht : Try.prog.underlying t = some (.slice e)) (hi : Try.prog.info? e = some i) (hz : i.zero = some z) (hzs : z.cells.size = i.size) (x : Value) (n : Nat) (news : List Value) (hs : Src Try.prog i.size t x n news w) (hn : n * i.bytes ≤ 140737488355328) (hnb : n ≤ 1125899906842624) :
    ∃ v' w', (Builtin.append_ #[t, t] ty #[.slice none 0 0, x]).run Try.prog w = .ok v' w' ∧ Below w.heap.size w w' ∧ ((n = 0 ∧ v' = .slice none 0 0 ∧ w' = w) ∨ (0 < n ∧ ∃ cap cur, v' = .slice (some ⟨w.heap.size, 0, none⟩) n cap ∧ n ≤ cap ∧ w'.heap[w.heap.size]? = some (.cells cur e (0, 0)) ∧ w'.rangeAt w.heap.size 0 news ∧ cur.size = cap * i.size)) := by
  rcases Nat.eq_zero_or_pos n with h0 | h0
  · subst h0
    have hnil : news = [] := List.eq_nil_of_length_eq_zero (by rw [hs.newsLen]; omega)
    subst hnil
    refine ⟨.slice none 0 0, w, ?_, Below.refl _ _, .inl ⟨rfl, rfl, rfl⟩⟩
    have hl : (Builtin.lenOf x).run Try.prog w = .ok 0 w := hs.len w
    have hc := hs.cells
    have hn0 : ∀ w' : World, (Builtin.lenOf (.slice none 0 0)).run Try.prog w' = .ok 0 w' := fun _ => rfl
    rcases hs.kind with ⟨e', hk⟩ | hk <;> simp [Builtin.append_, run_underlying ht, sizeOf, typeInfo, hi, hl, hc]
  · have hr := run_append_grow_src (P := Try.prog) w t t ty e i z ht hi hz none 0 0 [] (run_firstCells_none w.drew i.size 0 0 0) x n news hs (by omega) (by omega) (growslice_fits (by omega) (by simpa using hn))
    simp only [Nat.zero_add] at hr
    refine ⟨_, _, hr, ((bdrew w).alloc (by simp) _), .inr ⟨h0, _, _, rfl, grownCap_ge w n 0 e, heap_alloc_new w.drew _, ?_, ?_⟩⟩
    · intro j u hj
      rw [cell_of_row _ w.heap.size _ _ e (0, 0) (heap_alloc_new w.drew _)]
      have hjl := (List.getElem?_eq_some_iff.1 hj).1
      rw [Nat.zero_add, Array.getElem?_append_left (by simpa using hjl)]
      simpa using hj
    · have hg := grownCap_ge w n 0 e
      simp only [Array.size_append, List.size_toArray, List.nil_append, size_zeroCells, hzs, hs.newsLen]
      rw [← Nat.add_mul]
      congr 1
      omega
theorem NsR.src {w0 w : World} {sz : Nat} {v : Value} {t e : TypeId} (ht : Try.prog.underlying t = some (.slice e)) (h : NsR w0 w sz v) : ∃ n news, n ≤ 1048576 ∧ Src Try.prog sz t v n news w := by
  rcases h with ⟨a, rfl⟩ | ⟨b, off, n, cap, news, rfl, h2, h3, h4, h5, _⟩
  · exact ⟨0, [], by omega, src_nil w ht a⟩
  · exact ⟨n, news, h2, Src.ofSlice w ht ⟨b, off, none⟩ n cap news h3 (fun j u hj => by rw [Addr.add_mid]; exact h4 j u hj) h5⟩
theorem ns_app0 (w0 w : World) (t e ty : TypeId) (z : Value) (sz bytes : Nat) (ht : Try.prog.underlying t = some (.slice e)) (hinfo : (Try.prog.info? e).map (fun i => (i.zero, i.size, i.bytes)) = some (some z, sz, bytes)) (hzs : z.cells.size = sz) (he : e ≠ 51 ∧ e ≠ 72 ∧ e ≠ 69) (hb : bytes ≤ 1024) (v : Value) (h : NsR w0 w sz v) :
    ∃ v' w', (Builtin.append_ #[t, t] ty #[.slice none 0 0, v]).run Try.prog w = .ok v' w' ∧ NsR w0 w' sz v' ∧ Below w.heap.size w w' := by
  obtain ⟨i, hi, hz, h1, h2⟩ := info_parts hinfo
  subst h1
  subst h2
  obtain ⟨n, news, hn, hs⟩ := h.src ht
  obtain ⟨v', w', hr, hbel, hc⟩ := run_app0 w t e ty i z ht hi hz hzs v n news hs (by
    have : n * i.bytes ≤ 1048576 * 1024 := Nat.mul_le_mul hn hb
    omega) (by omega)
  refine ⟨v', w', hr, ?_, hbel⟩
  rcases hc with ⟨_, rfl, _⟩ | ⟨_, cap, cur, rfl, _, hg, hra, _⟩
  · exact .inl ⟨_, rfl⟩
  · exact .inr ⟨_, _, _, _, news, rfl, hn, hs.newsLen, hra, hs.one, fun _ => .inr ⟨cur, e, (0, 0), hg, he.1, he.2.1, he.2.2⟩⟩
/- onto a list of entries of one's own -/
theorem OwR.blk {w0 w : World} {v : Value} {L : List En} (h : OwR w0 w v L) {b : Nat} (hb : v.ownBlock = some b) : w0.heap.size ≤ b ∧ ∃ cur, w.heap[b]? = some (.cells cur 51 (0, 0)) := by
  rcases h with ⟨rfl, _⟩ | ⟨b', off, cap, C, cur, rfl, _, _, h4, h5, _⟩
  · cases hb
  · have e2 : b' = b := Option.some.inj hb
    subst e2
    exact ⟨h4, cur, h5⟩
def Sv (v : Value) : Nat → Prop := fun k => v.ownBlock = some k
theorem OwR.chg_kp {w0 w w' : World} {v : Value} {L : List En} (h : OwR w0 w v L) (h0 : w0.heap.size ≤ w.heap.size) (hc : Chg w w' (Sv v)) : Kp w0 w w' :=
  hc.kp h0 (fun _ _ hS => by obtain ⟨a, cur, hb⟩ := h.blk hS; exact ⟨a, cur, 51, (0, 0), hb, .inl rfl⟩)
theorem get_two {L D : List En} {j : Nat} {e : En} (h : (L ++ D)[j]? = some e) : (j < L.length ∧ L[j]? = some e) ∨ (L.length ≤ j ∧ D[j - L.length]? = some e) := by
  by_cases hj : j < L.length
  · rw [List.getElem?_append_left hj] at h; exact .inl ⟨hj, h⟩
  · rw [List.getElem?_append_right (by omega)] at h; exact .inr ⟨by omega, h⟩
theorem run_app (w0 w : World) (h0 : w0.heap.size ≤ w.heap.size) (ty : TypeId) (v x : Value) (L D : List En) (hO : OwR w0 w v L) (hx : EsR w0 w x D) (hlen : L.length + D.length ≤ 67108864) :
    ∃ v' w', (Builtin.append_ #[28, 28] ty #[v, x]).run Try.prog w = .ok v' w' ∧ OwR w0 w' v' (L ++ D) ∧ Chg w w' (Sv v) ∧ (v'.ownBlock = v.ownBlock ∨ v'.ownBlock = some w.heap.size) := by
  obtain ⟨i, hi, hz, h1, h2⟩ := info_parts info51
  obtain ⟨E, hs, hE⟩ := hx.src
  rw [← h1] at hs
  have hEl : ∀ j, j < D.length → (E j).length = 29 := fun j hj => (hE j _ (List.getElem?_eq_getElem hj)).len
  have hzl : (Value.agg Zc.toArray).cells.size = i.size := by rw [h1]; rfl
  rcases id hO with ⟨rfl, rfl⟩ | ⟨b, off, cap, C, cur, rfl, hcap, hC, hb0, hblk, hsz⟩
  · obtain ⟨v', w', hr, hbel, hc⟩ := run_app0 w 28 51 ty i _ Try.underlying28 hi hz hzl x D.length _ hs (by rw [h2]; omega) (by omega)
    refine ⟨v', w', hr, ?_, Chg.bel hbel, ?_⟩
    · rw [List.nil_append]
      rcases hc with ⟨e, rfl, _⟩ | ⟨_, c', cur', rfl, hcc, hg, hra, hcs⟩
      · exact .inl ⟨rfl, List.eq_nil_of_length_eq_zero e⟩
      · refine .inr ⟨_, 0, c', E, cur', rfl, hcc, fun j e hj => ⟨(hE j e hj).kp (Kp.bel h0 hbel), fun k u hk => ?_⟩, h0, hg, by rw [hcs, h1]; omega⟩
        have hjl := (List.getElem?_eq_some_iff.1 hj).1
        have hkl : k < 29 := by have := (List.getElem?_eq_some_iff.1 hk).1; rw [hEl j hjl] at this; exact this
        have := hra (j * 29 + k) u ((fl_get hEl j k hjl hkl).trans hk)
        rw [Nat.zero_add] at this ⊢
        exact this
    · rcases hc with ⟨_, rfl, _⟩ | ⟨_, c', cur', rfl, _⟩
      · exact .inl rfl
      · exact .inr rfl
  · by_cases hroom : L.length + D.length ≤ cap
    · have hth : w.there b (off + L.length * 29) (fl E D.length).length := there_row hblk (by rw [fl_len hEl]; have : (L.length + D.length) * 29 ≤ cap * 29 := Nat.mul_le_mul_right _ hroom; omega)
      have hr := run_append_room_src (P := Try.prog) w 28 28 ty 51 i Try.underlying28 hi b off L.length cap x D.length _ hs hroom (fun j hj => by rw [h1]; exact (hth j hj).1) (fun j hj => by rw [h1]; exact (hth j hj).2)
      rw [h1] at hr
      have hchg : Chg w (w.setCells b (off + L.length * 29) (fl E D.length)) (Sv (.slice (some ⟨b, off, none⟩) L.length cap)) := by
        have := chg_setCells w b (off + L.length * 29) (fl E D.length)
        exact ⟨this.os, this.tape, this.output, this.size, fun k hk hn => this.block k hk (fun e => hn (by rw [e]; rfl))⟩
      have hkp := hO.chg_kp h0 hchg
      obtain ⟨cur', hg', hs'⟩ := setCells_heap (b := b) (t := 51) (fl E D.length) (off + L.length * 29) w cur hblk
      refine ⟨_, _, hr, .inr ⟨b, off, cap, two C E L.length, cur', by rw [List.length_append], by rw [List.length_append]; exact hroom, fun j e hj => ?_, hb0, hg', by rw [hs']; exact hsz⟩, hchg, .inl rfl⟩
      rcases get_two hj with ⟨hjl, hj'⟩ | ⟨hjl, hj'⟩
      · rw [show two C E L.length j = C j from if_pos hjl]
        refine ⟨(hC j e hj').1.kp hkp, World.rangeAt_setCells_apart (hC j e hj').2 _ _ _ (.inr (.inl ?_))⟩
        rw [(hC j e hj').1.len]
        have : (j + 1) * 29 ≤ L.length * 29 := Nat.mul_le_mul_right _ hjl
        omega
      · rw [show two C E L.length j = E (j - L.length) from if_neg (by omega)]
        refine ⟨(hE _ e hj').kp hkp, fun k u hk => ?_⟩
        have hjl2 := (List.getElem?_eq_some_iff.1 hj').1
        have hkl : k < 29 := by have := (List.getElem?_eq_some_iff.1 hk).1; rw [hEl _ hjl2] at this; exact this
        have := World.rangeAt_setCells_same w b (off + L.length * 29) _ hth ((j - L.length) * 29 + k) u ((fl_get hEl _ k hjl2 hkl).trans hk)
        rw [show off + L.length * 29 + ((j - L.length) * 29 + k) = off + j * 29 + k by
          have : L.length * 29 + (j - L.length) * 29 = j * 29 := by rw [← Nat.add_mul]; congr 1; omega
          omega] at this
        exact this
    · have hr := run_append_grow_src (P := Try.prog) w 28 28 ty 51 i _ Try.underlying28 hi hz (some ⟨b, off, none⟩) L.length cap (fl C L.length) (by
        have hs2 := (hC.src (cap := cap)).cellsD
        rw [h1]; exact hs2) x D.length _ hs (by omega) (by omega) (growslice_fits (by omega) (by rw [h2]; omega))
      have hbel : Below w.heap.size w (w.drew.alloc (.cells ((fl C L.length ++ fl E D.length).toArray ++ Builtin.zeroCells (Value.agg Zc.toArray).cells (grownCap w (L.length + D.length) cap 51 - (L.length + D.length))) 51)) := (bdrew w).alloc (by simp) _
      have hkp := Kp.bel h0 hbel
      have hg := grownCap_ge w (L.length + D.length) cap 51
      have hTl : ∀ j, j < L.length + D.length → (two C E L.length j).length = 29 := fun j hj => by
        unfold two
        split
        · exact hC.len j (by assumption)
        · exact hEl _ (by omega)
      refine ⟨_, _, hr, .inr ⟨w.heap.size, 0, _, two C E L.length, _, by rw [List.length_append], by rw [List.length_append]; exact hg, fun j e hj => ?_, h0, heap_alloc_new w.drew _, ?_⟩, Chg.bel hbel, .inr rfl⟩
      · have hen : EnR w0 w (two C E L.length j) e := by
          rcases get_two hj with ⟨hjl, hj'⟩ | ⟨hjl, hj'⟩
          · rw [show two C E L.length j = C j from if_pos hjl]; exact (hC j e hj').1
          · rw [show two C E L.length j = E (j - L.length) from if_neg (by omega)]; exact hE _ e hj'
        have hjl : j < L.length + D.length := by have := (List.getElem?_eq_some_iff.1 hj).1; rw [List.length_append] at this; exact this
        refine ⟨hen.kp hkp, fun k u hk => ?_⟩
        have hkl : k < 29 := by have := (List.getElem?_eq_some_iff.1 hk).1; rw [hen.len] at this; exact this
        have hq := (fl_get hTl j k hjl hkl).trans hk
        rw [fl_two] at hq
        rw [cell_of_row _ w.heap.size _ _ 51 (0, 0) (heap_alloc_new w.drew _)]
        have hql := (List.getElem?_eq_some_iff.1 hq).1
        rw [Nat.zero_add, Array.getElem?_append_left (by simpa using hql)]
        simpa using hq
      · simp only [Array.size_append, List.size_toArray, List.length_append, fl_len hC.len, fl_len hEl, size_zeroCells, hzl, h1]
        rw [Nat.zero_add, ← Nat.add_mul, ← Nat.add_mul]
        refine Nat.mul_le_mul_right _ ?_
        omega
theorem wpList_app {ops : Array Oper} {rest : List Oper} {o : Oper} {a : Act} {Q : Exit → Act → World → Prop} (w : World) (hgd : o.guard = none) (s x : Operand) (ho : o.op = .call { callee := .builtin .append, args := #[s, x], argTypes := #[28, 28] })
    (w0 : World) (h0 : w0.heap.size ≤ w.heap.size) (v xv : Value) (L D : List En) (hs : a.eval s = v) (hO : OwR w0 w v L) (hxe : a.eval x = xv) (hx : EsR w0 w xv D) (hlen : L.length + D.length ≤ 67108864)
    (h : ∀ v' w', OwR w0 w' v' (L ++ D) → Chg w w' (Sv v) → (v'.ownBlock = v.ownBlock ∨ v'.ownBlock = some w.heap.size) → wpList Try.prog ops Q rest (a.put o.dst v') w') : wpList Try.prog ops Q (o :: rest) a w := by
  refine wpList_plain hgd fun K hK => ?_
  obtain ⟨v', w', hr1, h2, h3, h5⟩ := run_app w0 w h0 o.type v xv L D hO hx hlen
  unfold Oper.wp execOp
  simp only [ho, resolve, invoke, builtin, Sem.run_bind, Sem.run_pure, Result.andThen_ok, List.map_toArray, List.map_cons, List.map_nil, hs, hxe, hr1]
  exact hK _ _ (h v' w' h2 h3 h5)
theorem wpList_ns {ops : Array Oper} {rest : List Oper} {o : Oper} {a : Act} {Q : Exit → Act → World → Prop} (w : World) (hgd : o.guard = none) (s x : Operand) (t : TypeId) (ho : o.op = .call { callee := .builtin .append, args := #[s, x], argTypes := #[t, t] })
    (w0 : World) (e : TypeId) (z : Value) (sz bytes : Nat) (ht : Try.prog.underlying t = some (.slice e)) (hinfo : (Try.prog.info? e).map (fun i => (i.zero, i.size, i.bytes)) = some (some z, sz, bytes)) (hzs : z.cells.size = sz) (he : e ≠ 51 ∧ e ≠ 72 ∧ e ≠ 69) (hb : bytes ≤ 1024)
    (v : Value) (hs : a.eval s = .slice none 0 0) (hxe : a.eval x = v) (hv : NsR w0 w sz v)
    (h : ∀ v' w', NsR w0 w' sz v' → Below w.heap.size w w' → wpList Try.prog ops Q rest (a.put o.dst v') w') : wpList Try.prog ops Q (o :: rest) a w := by
  refine wpList_plain hgd fun K hK => ?_
  obtain ⟨v', w', hr1, h2, h3⟩ := ns_app0 w0 w t e o.type z sz bytes ht hinfo hzs he hb v hv
  unfold Oper.wp execOp
  simp only [ho, resolve, invoke, builtin, Sem.run_bind, Sem.run_pure, Result.andThen_ok, List.map_toArray, List.map_cons, List.map_nil, hs, hxe, hr1]
  exact hK _ _ (h v' w' h2 h3)
end Go.Proofs.Ytdkmlgkljhhokaa
