/- append: a list of records onto nothing, one record onto a row of one's own. -/
import Derived.Test.YtblofbdncolikaaSm
import Derived.Test.YtblofbdncolikaaReg
namespace Go.Proofs.Ytblofbdncolikaa
open Go.RowKit

def Uf (w : World) (b : Nat) : Prop := ∃ cs e, w.heap[b]? = some (.cells cs e (0, 0))
theorem Uf.to {w w' : World} {b : Nat} (h : Uf w b) (e : w'.heap[b]? = w.heap[b]?) : Uf w' b := by
 obtain ⟨cs, t, hc⟩ := h
 exact ⟨cs, t, e.trans hc⟩
/- new blocks of one type -/
def NB (lo : Nat) (t : TypeId) (w : World) (b : Nat) : Prop := lo ≤ b ∧ ∃ cs, w.heap[b]? = some (.cells cs t (0, 0))
theorem NB.to {lo lo2 : Nat} {t : TypeId} {w w2 : World} {b : Nat} (h : NB lo t w b) (e : w2.heap[b]? = w.heap[b]?) (hl : lo2 ≤ b) : NB lo2 t w2 b := ⟨hl, by obtain ⟨cs, hc⟩ := h.2; exact ⟨cs, e.trans hc⟩⟩
theorem NB.lt {lo : Nat} {t : TypeId} {w : World} {b : Nat} (h : NB lo t w b) : b < w.heap.size := by obtain ⟨cs, hc⟩ := h.2; exact heap_lt hc
theorem flatten_len (m : Nat) (ess : List (List Value)) (h : ∀ es ∈ ess, es.length = m) : ess.flatten.length = ess.length * m := by
 induction ess with
 | nil => simp
 | cons e ess ih => rw [List.flatten_cons, List.length_append, ih (fun x hx => h x (by simp [hx])), h e (by simp), List.length_cons, Nat.add_mul]; omega
theorem flatten_get (m : Nat) (ess : List (List Value)) (h : ∀ es ∈ ess, es.length = m) (i : Nat) (hi : i < ess.length) (j : Nat) (hj : j < m) : ess.flatten[i * m + j]? = ess[i][j]? := by
 induction ess generalizing i with
 | nil => simp at hi
 | cons e ess ih =>
  have he := h e (by simp)
  cases i with
  | zero =>
   rw [List.flatten_cons, Nat.zero_mul, Nat.zero_add, List.getElem?_append_left (by omega)]; rfl
  | succ i =>
   rw [List.flatten_cons, List.getElem?_append_right (by rw [he, Nat.add_mul]; omega), he, show (i + 1) * m + j - m = i * m + j by rw [Nat.add_mul]; omega]
   exact ih (fun x hx => h x (by simp [hx])) i (by simpa using hi)
/- the cells of a list of records -/
def fl {α : Type} (cs : α → List Value) (L : List α) : List Value := (L.map cs).flatten
theorem fl_len {α : Type} {cs : α → List Value} {k : Nat} (hk : ∀ x, (cs x).length = k) (L : List α) : (fl cs L).length = L.length * k := by
 unfold fl
 rw [flatten_len k _ (fun es hes => by obtain ⟨x, _, rfl⟩ := List.mem_map.1 hes; exact hk x), List.length_map]
theorem fl_get {α : Type} {cs : α → List Value} {k : Nat} (hk : ∀ x, (cs x).length = k) (L : List α) (i : Nat) (hi : i < L.length) (j : Nat) (hj : j < k) : (fl cs L)[i * k + j]? = (cs L[i])[j]? := by
 unfold fl
 rw [flatten_get k _ (fun es hes => by obtain ⟨x, _, rfl⟩ := List.mem_map.1 hes; exact hk x) i (by simpa using hi) j hj, List.getElem_map]
theorem fl_one {α : Type} {cs : α → List Value} (h1 : ∀ x, ∀ u ∈ cs x, u.oneCell' = true) (L : List α) : ∀ u ∈ fl cs L, u.oneCell' = true := by
 intro u hu
 unfold fl at hu
 obtain ⟨es, he, hu⟩ := List.mem_flatten.1 hu
 obtain ⟨x, _, rfl⟩ := List.mem_map.1 he
 exact h1 x u hu
theorem fl_snoc {α : Type} (cs : α → List Value) (L : List α) (x : α) : fl cs (L ++ [x]) = fl cs L ++ cs x := by simp [fl]
theorem fl_at {α : Type} {cs : α → List Value} {k : Nat} (hk : ∀ x, (cs x).length = k) {L : List α} {j : Nat} {u : Value} (h0 : 0 < k) (h : (fl cs L)[j]? = some u) : ∃ hi : j / k < L.length, (cs L[j / k])[j % k]? = some u := by
 have hl := (List.getElem?_eq_some_iff.1 h).1
 rw [fl_len hk] at hl
 have hi : j / k < L.length := Nat.div_lt_of_lt_mul (by rw [Nat.mul_comm]; exact hl)
 refine ⟨hi, ?_⟩
 have := fl_get hk L (j / k) hi (j % k) (Nat.mod_lt _ h0)
 rw [← this, Nat.mul_comm, Nat.div_add_mod]
 exact h
theorem fl_range {α : Type} {cs : α → List Value} {k : Nat} (hk : ∀ x, (cs x).length = k) {w : World} {b off : Nat} {L : List α} (h : w.rangeAt b off (fl cs L)) (i : Nat) (hi : i < L.length) : w.rangeAt b (off + i * k) (cs L[i]) := by
 intro j v hj
 have hjk : j < k := by have := (List.getElem?_eq_some_iff.1 hj).1; rw [hk] at this; exact this
 have := h (i * k + j) v ((fl_get hk L i hi j hjk).trans hj)
 rw [← Nat.add_assoc] at this
 exact this
theorem range_fl {α : Type} {cs : α → List Value} {k : Nat} (hk : ∀ x, (cs x).length = k) (h0 : 0 < k) {w : World} {b off : Nat} {L : List α} (h : ∀ i (hi : i < L.length), w.rangeAt b (off + i * k) (cs L[i])) : w.rangeAt b off (fl cs L) := by
 intro j v hj
 obtain ⟨hi, hv⟩ := fl_at hk h0 hj
 have := h _ hi _ v hv
 rw [Nat.add_assoc, show j / k * k + j % k = j by rw [Nat.mul_comm]; exact Nat.div_add_mod j k] at this
 exact this
theorem Fl.src {α : Type} {cs : α → List Value} {k y : Nat} (hk : ∀ x, (cs x).length = k) (h1 : ∀ x, ∀ u ∈ cs x, u.oneCell' = true) (h0 : 0 < k) {w : World} {S : Nat → Prop} {a : Option Addr} {L : List α} (h : Fl w S k y cs a L) {t e : TypeId} (ht : Try.prog.underlying t = some (.slice e)) (cap : Nat) : Src Try.prog k t (.slice a L.length cap) L.length (fl cs L) w := by
 by_cases hne : L = []
 ·subst hne
  cases a with
  | none => exact Src.ofNil w ht cap
  | some a => exact Src.ofSlice w ht a 0 cap [] (by simp) (by intro j u hu; simp at hu) (by intro u hu; simp at hu)
 ·obtain ⟨b, off, rfl, _, hc⟩ := h.pl hne
  refine Src.ofSlice w ht ⟨b, off, none⟩ L.length cap (fl cs L) (fl_len hk L) (fun j u hu => ?_) (fl_one h1 L)
  rw [Addr.add_mid]
  exact range_fl hk h0 hc j u hu
/- onto nothing: a new row, or nothing -/
theorem run_app0 (w : World) (t e ty : TypeId) (i : TypeInfo) (z : Value) (ht : Try.prog.underlying t = some (.slice e)) (hi : Try.prog.info? e = some i) (hz : i.zero = some z) (hzs : z.cells.size = i.size) (x : Value) (n : Nat) (news : List Value) (hs : Src Try.prog i.size t x n news w) (hn : n * i.bytes ≤ 140737488355328) (hnb : n ≤ 140737488355328) :
  ∃ v' w', (Builtin.append_ #[t, t] ty #[.slice none 0 0, x]).run Try.prog w = .ok v' w' ∧ Below w.heap.size w w' ∧ w'.ownsRow w.heap.size e i.size v' n news := by
 rcases Nat.eq_zero_or_pos n with h0 | h0
 ·subst h0
  have hnil : news = [] := List.eq_nil_of_length_eq_zero (by rw [hs.newsLen]; omega)
  subst hnil
  refine ⟨.slice none 0 0, w, ?_, Below.refl _ _, by simp, .inl ⟨rfl, rfl⟩⟩
  have hl : (Builtin.lenOf x).run Try.prog w = .ok 0 w := hs.len w
  have hc := hs.cells
  rcases hs.kind with ⟨e', hk⟩ | hk <;> simp [Builtin.append_, run_underlying ht, sizeOf, typeInfo, hi, hl, hc]
 ·have hr := run_append_grow_src (P := Try.prog) w t t ty e i z ht hi hz none 0 0 [] (run_firstCells_none w.drew i.size 0 0 0) x n news hs (by omega) (by omega) (growslice_fits (by omega) (by simpa using hn))
  simp only [Nat.zero_add] at hr
  have hg := grownCap_ge w n 0 e
  have hm : grownCap w n 0 e ≤ maxLen := grownCap_le_maxLen w _ 0 e (by unfold maxLen; omega)
  refine ⟨_, _, hr, ((bdrew w).alloc (by simp) _), hs.newsLen, .inr ⟨_, _, _, rfl, Nat.le_refl _, heap_alloc_new w.drew _, hg, hm, ?_, ?_⟩⟩
  ·simp only [Array.size_append, List.size_toArray, List.nil_append, size_zeroCells, hzs, hs.newsLen]
   rw [← Nat.add_mul, Nat.add_sub_of_le hg]
  ·have ht2 : ∀ (r : Array Value), (news.toArray ++ r).toList.take (n * i.size) = news := fun r => by
    rw [Array.toList_append, ← hs.newsLen]
    simp
   exact ht2 _
theorem wpList_app0 {ops : Array Oper} {rest : List Oper} {o : Oper} {a : Act} {Q : Exit → Act → World → Prop} (w : World) (hgd : o.guard = none) (s x : Operand) (t : TypeId) (ho : o.op = .call { callee := .builtin .append, args := #[s, x], argTypes := #[t, t] })
  (e : TypeId) (z : Value) (k y : Nat) (ht : Try.prog.underlying t = some (.slice e)) (hinfo : (Try.prog.info? e).map (fun i => (i.zero, i.size, i.bytes)) = some (some z, k, y)) (hzs : z.cells.size = k) {α : Type} (cs : α → List Value) (hk : ∀ x, (cs x).length = k) (h1 : ∀ x, ∀ u ∈ cs x, u.oneCell' = true) (h0 : 0 < k) (h0y : 0 < y)
  (ad : Option Addr) (L : List α) (cap : Nat) (S : Nat → Prop) (hs : a.eval s = .slice none 0 0) (hxe : a.eval x = .slice ad L.length cap) (hv : Fl w S k y cs ad L)
  (h : ∀ a' c' w', w'.ownsRow w.heap.size e k (.slice a' L.length c') L.length (fl cs L) → Below w.heap.size w w' → wpList Try.prog ops Q rest (a.put o.dst (.slice a' L.length c')) w') : wpList Try.prog ops Q (o :: rest) a w := by
 refine wpList_plain hgd fun K hK => ?_
 obtain ⟨i, hi, hz, e1, e2⟩ := info_parts hinfo
 subst e1
 subst e2
 have hbd := hv.bd
 obtain ⟨v', w', hr1, h2, h3⟩ := run_app0 w t e o.type i z ht hi hz hzs _ L.length _ (hv.src hk h1 h0 ht cap) hbd (by have : L.length * 1 ≤ L.length * i.bytes := Nat.mul_le_mul_left _ h0y; omega)
 obtain ⟨a', c', rfl⟩ : ∃ a' c', v' = .slice a' L.length c' := by
  rcases h3.2 with ⟨rfl, hn⟩ | ⟨g, cap, cur, rfl, _⟩
  ·exact ⟨none, 0, by rw [hn]⟩
  ·exact ⟨_, _, rfl⟩
 unfold Oper.wp execOp
 simp only [ho, resolve, invoke, builtin, Sem.run_bind, Sem.run_pure, Result.andThen_ok, List.map_toArray, List.map_cons, List.map_nil, hs, hxe, hr1]
 exact hK _ _ (h a' c' w' h3 h2)
theorem own_fl {α : Type} {cs : α → List Value} {k y : Nat} (hk : ∀ x, (cs x).length = k) {w : World} {lo : Nat} {e : TypeId} {a : Option Addr} {c : Nat} {L : List α} (h : w.ownsRow lo e k (.slice a L.length c) L.length (fl cs L)) (hb : L.length * y ≤ 140737488355328) : Fl w (NB lo e w) k y cs a L := by
 refine ⟨hb, fun hne => ?_⟩
 rcases h.2 with ⟨_, hn⟩ | ⟨g, cap, cur, hv, hl, hg, hnc, _, hcs, ht⟩
 ·exact absurd (List.eq_nil_of_length_eq_zero hn) hne
 ·refine ⟨g, 0, (Value.slice.inj hv).1, ⟨hl, ⟨_, hg⟩⟩, fun i hi => fl_range hk (fun j v hj => ?_) i hi⟩
  rw [Nat.zero_add, cell_of_row w g j cur e (0, 0) hg]
  have hjl := (List.getElem?_eq_some_iff.1 hj).1
  rw [fl_len hk] at hjl
  have : cur.toList[j]? = some v := by
   rw [← hj, ← ht, List.getElem?_take, if_pos hjl]
  simpa using this
theorem own_kept {w w' : World} {lo k n : Nat} {e : TypeId} {v : Value} {xs : List Value} (h : w.ownsRow lo e k v n xs) (hb : ∀ b, lo ≤ b → b < w.heap.size → w'.heap[b]? = w.heap[b]?) : w'.ownsRow lo e k v n xs := by
 refine ⟨h.1, ?_⟩
 rcases h.2 with h | ⟨g, cap, cur, hv, hl, hg, rest⟩
 ·exact .inl h
 ·exact .inr ⟨g, cap, cur, hv, hl, (hb g hl (heap_lt hg)).trans hg, rest⟩
theorem oper_app1 {o : Oper} {a : Act} {K : Act → World → Prop} {Q : Exit → Act → World → Prop} (w : World) (s x : Operand) (t : TypeId)
  (ho : o.op = .call { callee := .builtin .append, args := #[s, x], argTypes := #[t, t] })
  (base : Nat) (e : TypeId) (z : Value) (k y : Nat) (ht : Try.prog.underlying t = some (.slice e)) (hinfo : (Try.prog.info? e).map (fun i => (i.zero, i.size, i.bytes)) = some (some z, k, y)) (hzs : z.cells.size = k) (h0 : 0 < k)
  (v : Value) (n : Nat) (xs : List Value) (hs : a.eval s = v) (hown : w.ownsRow base e k v n xs)
  (ad : Addr) (c : Nat) (news : List Value) (hx : a.eval x = .slice (some ad) 1 c) (hl : news.length = k) (hnews : ∀ j u, news[j]? = some u → w.cell? (ad.add j) = some u) (h1 : ∀ u ∈ news, u.oneCell' = true)
  (h63 : n + 1 ≤ maxLen) (hbytes : (n + 1) * y ≤ 140737488355328) (hbase : base ≤ w.heap.size)
  (h : ∀ a' c' w', w'.ownsRow base e k (.slice a' (n + 1) c') (n + 1) (xs ++ news) → w.grownBy w' v.ownBlock → K (a.put o.dst (.slice a' (n + 1) c')) w') : Oper.wp Try.prog o a w K Q := by
 obtain ⟨i, hi, hz, e1, e2⟩ := info_parts hinfo
 obtain ⟨v', w', hr, h2, h3, _⟩ := run_append_own (P := Try.prog) w base t o.type e i z k y ht hi hz e1 e2 hzs h0 v n xs hown ad 1 c news (by rw [Nat.one_mul]; exact hl) hnews h1 h63 hbytes hbase
 obtain ⟨a', c', rfl⟩ : ∃ a' c', v' = .slice a' (n + 1) c' := by
  rcases h2.2 with ⟨_, hn⟩ | ⟨g, cap, cur, rfl, _⟩
  ·omega
  ·exact ⟨_, _, rfl⟩
 unfold Oper.wp execOp
 simp only [ho, resolve, invoke, builtin, Sem.run_bind, Sem.run_pure, Result.andThen_ok, List.map_toArray, List.map_cons, List.map_nil, hs, hx, hr]
 exact h a' c' w' h2 h3
theorem wpList_app1 {ops : Array Oper} {rest : List Oper} {o : Oper} {a : Act} {Q : Exit → Act → World → Prop} (w : World) (hgd : o.guard = none) (s x : Operand) (t : TypeId)
  (ho : o.op = .call { callee := .builtin .append, args := #[s, x], argTypes := #[t, t] })
  (base : Nat) (e : TypeId) (z : Value) (k y : Nat) (ht : Try.prog.underlying t = some (.slice e)) (hinfo : (Try.prog.info? e).map (fun i => (i.zero, i.size, i.bytes)) = some (some z, k, y)) (hzs : z.cells.size = k) (h0 : 0 < k)
  (v : Value) (n : Nat) (xs : List Value) (hs : a.eval s = v) (hown : w.ownsRow base e k v n xs)
  (ad : Addr) (c : Nat) (news : List Value) (hx : a.eval x = .slice (some ad) 1 c) (hl : news.length = k) (hnews : ∀ j u, news[j]? = some u → w.cell? (ad.add j) = some u) (h1 : ∀ u ∈ news, u.oneCell' = true)
  (h63 : n + 1 ≤ maxLen) (hbytes : (n + 1) * y ≤ 140737488355328) (hbase : base ≤ w.heap.size)
  (h : ∀ a' c' w', w'.ownsRow base e k (.slice a' (n + 1) c') (n + 1) (xs ++ news) → w.grownBy w' v.ownBlock → wpList Try.prog ops Q rest (a.put o.dst (.slice a' (n + 1) c')) w') : wpList Try.prog ops Q (o :: rest) a w :=
 wpList_plain hgd fun _ hK => oper_app1 w s x t ho base e z k y ht hinfo hzs h0 v n xs hs hown ad c news hx hl hnews h1 h63 hbytes hbase (fun a' c' w' h2 h3 => hK _ _ (h a' c' w' h2 h3))
end Go.Proofs.Ytblofbdncolikaa
