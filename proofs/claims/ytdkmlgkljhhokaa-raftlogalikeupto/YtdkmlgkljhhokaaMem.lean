/- Entries in memory, lists of them, and a log. -/
import Derived.Test.YtdkmlgkljhhokaaProg
import Derived.Test.YtdkmlgkljhhokaaMat
import Derived.WalkKit
import Derived.WalkSpells
import Derived.WalkLawsBesides
import Derived.Deep.AppendSrc
import Derived.Deep.MidRow
import Derived.Laws.AppendOwn
import Derived.OwnWalk
import Derived.KernelRfl
namespace Go.Proofs.Ytdkmlgkljhhokaa
open Go.RowKit

theorem hidOf {p : Prop} (h : p) : Hid p := h
theorem heap_lt {w : World} {k : Nat} {o : Obj} (h : w.heap[k]? = some o) : k < w.heap.size := (Array.getElem?_eq_some_iff.1 h).1
theorem below1 (w : World) (a : Obj) : Below w.heap.size w (w.alloc a) := (Below.refl _ w).alloc (Nat.le_refl _) _
theorem bdrew (w : World) : Below w.heap.size w w.drew := ⟨rfl, rfl, rfl, Nat.le_refl _, fun _ _ => rfl⟩
theorem bdrewN (w : World) (n : Nat) : Below w.heap.size w (w.drewN n) := ⟨rfl, rfl, rfl, Nat.le_refl _, fun _ _ => rfl⟩
theorem range_of {w w' : World} {b o : Nat} {cs : List Value} (h : w.rangeAt b o cs) (hb : w'.heap[b]? = w.heap[b]?) : w'.rangeAt b o cs := fun j v hj => (World.cell?_of_block (w := w) hb).trans (h j v hj)
theorem range_nil (w : World) (b o : Nat) : w.rangeAt b o [] := fun j v hj => by simp at hj
/- all stays but rows of entries and logs, by their types, and nothing below is touched -/
structure Kp (w0 w w' : World) : Prop where
  size : w.heap.size ≤ w'.heap.size
  lo : ∀ k, k < w0.heap.size → w'.heap[k]? = w.heap[k]?
  ty : ∀ (k : Nat) (cur : Array Value) (t : TypeId) (f : Nat × Nat), w.heap[k]? = some (.cells cur t f) → t ≠ 51 → t ≠ 72 → t ≠ 69 → w'.heap[k]? = w.heap[k]?
theorem Kp.trans {w0 a b c : World} (h : Kp w0 a b) (k : Kp w0 b c) : Kp w0 a c :=
  ⟨Nat.le_trans h.size k.size, fun i hi => (k.lo i hi).trans (h.lo i hi), fun i cur t f hi h1 h2 h3 => (k.ty i cur t f ((h.ty i cur t f hi h1 h2 h3).trans hi) h1 h2 h3).trans (h.ty i cur t f hi h1 h2 h3)⟩
theorem Kp.bel {w0 w w' : World} (h0 : w0.heap.size ≤ w.heap.size) (h : Below w.heap.size w w') : Kp w0 w w' :=
  ⟨h.size, fun k hk => h.block k (by omega), fun k _ _ _ hk _ _ _ => h.block k (heap_lt hk)⟩
/- what may have changed: a set of blocks -/
structure Chg (w w' : World) (S : Nat → Prop) : Prop where
  os : w'.os = w.os
  tape : w'.tape = w.tape
  output : w'.output = w.output
  size : w.heap.size ≤ w'.heap.size
  block : ∀ k, k < w.heap.size → ¬ S k → w'.heap[k]? = w.heap[k]?
theorem Chg.bel {w w' : World} {S : Nat → Prop} (h : Below w.heap.size w w') : Chg w w' S := ⟨h.os, h.tape, h.output, h.size, fun k hk _ => h.block k hk⟩
theorem Chg.trans {a b c : World} {S T : Nat → Prop} (h : Chg a b S) (k : Chg b c T) (hT : ∀ i, T i → S i ∨ a.heap.size ≤ i) : Chg a c S :=
  ⟨k.os.trans h.os, k.tape.trans h.tape, k.output.trans h.output, Nat.le_trans h.size k.size, fun i hi hS => (k.block i (Nat.lt_of_lt_of_le hi h.size) (fun e => by
    rcases hT i e with e | e
    · exact hS e
    · omega)).trans (h.block i hi hS)⟩
theorem Chg.below {w w' : World} {S : Nat → Prop} (h : Chg w w' S) {B : Nat} (hB : B ≤ w.heap.size) (hS : ∀ k, S k → B ≤ k) : Below B w w' :=
  ⟨h.os, h.tape, h.output, h.size, fun k hk => h.block k (by omega) (fun e => by have := hS k e; omega)⟩
theorem Chg.kp {w0 w w' : World} {S : Nat → Prop} (h : Chg w w' S) (h0 : w0.heap.size ≤ w.heap.size) (hS : ∀ k, k < w.heap.size → S k → w0.heap.size ≤ k ∧ ∃ cur t f, w.heap[k]? = some (.cells cur t f) ∧ (t = 51 ∨ t = 72 ∨ t = 69)) : Kp w0 w w' :=
  ⟨h.size, fun k hk => h.block k (by omega) (fun e => by have := (hS k (by omega) e).1; omega), fun k cur t f hk h1 h2 h3 => h.block k (heap_lt hk) (fun e => by
    obtain ⟨_, cur', t', f', hc, ht⟩ := hS k (heap_lt hk) e
    rw [hk] at hc
    cases hc
    rcases ht with e | e | e
    · exact h1 e
    · exact h2 e
    · exact h3 e)⟩
/- a list within an entry -/
def NsR (w0 w : World) (sz : Nat) (v : Value) : Prop := (∃ a, v = .slice a 0 0) ∨ ∃ b off n cap news, v = .slice (some ⟨b, off, none⟩) n cap ∧ n ≤ 1048576 ∧ news.length = n * sz ∧ w.rangeAt b off news ∧ (∀ u ∈ news, u.oneCell' = true) ∧ (0 < n → b < w0.heap.size ∨ ∃ cur t f, w.heap[b]? = some (.cells cur t f) ∧ t ≠ 51 ∧ t ≠ 72 ∧ t ≠ 69)
theorem NsR.kp {w0 w w' : World} {sz : Nat} {v : Value} (h : NsR w0 w sz v) (k : Kp w0 w w') : NsR w0 w' sz v := by
  rcases h with h | ⟨b, off, n, cap, news, h1, h2, h3, h4, h5, h6⟩
  · exact .inl h
  · refine .inr ⟨b, off, n, cap, news, h1, h2, h3, ?_, h5, fun hn => ?_⟩
    · rcases Nat.eq_zero_or_pos n with e | e
      · subst e
        have : news = [] := List.eq_nil_of_length_eq_zero (by omega)
        subst this
        exact range_nil _ _ _
      · rcases h6 e with e | ⟨cur, t, f, e1, e2, e3, e4⟩
        · exact range_of h4 (k.lo b e)
        · exact range_of h4 (k.ty b cur t f e1 e2 e3 e4)
    · rcases h6 hn with e | ⟨cur, t, f, e1, e2, e3, e4⟩
      · exact .inl e
      · exact .inr ⟨cur, t, f, (k.ty b cur t f e1 e2 e3 e4).trans e1, e2, e3, e4⟩
theorem NsR.one {w0 w : World} {sz : Nat} {v : Value} (h : NsR w0 w sz v) : v.oneCell' = true := by
  rcases h with ⟨a, rfl⟩ | ⟨b, off, n, cap, news, rfl, _⟩ <;> rfl
/- the cells of an entry -/
structure EnR (w0 w : World) (c : List Value) (e : En) : Prop where
  len : c.length = 29
  c0 : c[0]? = some (.int .i64 e.ix)
  c1 : c[1]? = some (.int .i64 e.tm)
  c2 : c[2]? = some (.int .i64 e.op)
  c5 : c[5]? = some (.int .i64 e.id)
  one : ∀ u ∈ c, u.oneCell' = true
  n9 : ∃ v, c[9]? = some v ∧ NsR w0 w 3 v
  n20 : ∃ v, c[20]? = some v ∧ NsR w0 w 2 v
  n24 : ∃ v, c[24]? = some v ∧ NsR w0 w 1 v
  n25 : ∃ v, c[25]? = some v ∧ NsR w0 w 11 v
  n27 : ∃ v, c[27]? = some v ∧ NsR w0 w 1 v
  n28 : ∃ v, c[28]? = some v ∧ NsR w0 w 1 v
theorem EnR.kp {w0 w w' : World} {c : List Value} {e : En} (h : EnR w0 w c e) (k : Kp w0 w w') : EnR w0 w' c e :=
  ⟨h.len, h.c0, h.c1, h.c2, h.c5, h.one, h.n9.imp fun _ q => ⟨q.1, q.2.kp k⟩, h.n20.imp fun _ q => ⟨q.1, q.2.kp k⟩, h.n24.imp fun _ q => ⟨q.1, q.2.kp k⟩, h.n25.imp fun _ q => ⟨q.1, q.2.kp k⟩, h.n27.imp fun _ q => ⟨q.1, q.2.kp k⟩, h.n28.imp fun _ q => ⟨q.1, q.2.kp k⟩⟩
/- cells of several entries, one behind the other -/
def fl (C : Nat → List Value) : Nat → List Value
  | 0 => []
  | n + 1 => fl C n ++ C n
theorem fl_len {C : Nat → List Value} : ∀ {n : Nat}, (∀ j, j < n → (C j).length = 29) → (fl C n).length = n * 29 := by
  intro n
  induction n with
  | zero => intro _; rfl
  | succ n ih => intro h; rw [fl, List.length_append, ih (fun j hj => h j (by omega)), h n (by omega)]; omega
theorem fl_get {C : Nat → List Value} : ∀ {n : Nat}, (∀ j, j < n → (C j).length = 29) → ∀ j i, j < n → i < 29 → (fl C n)[j * 29 + i]? = (C j)[i]? := by
  intro n
  induction n with
  | zero => intro _ j i hj; omega
  | succ n ih =>
    intro h j i hj hi
    have hl : (fl C n).length = n * 29 := fl_len (fun j hj => h j (by omega))
    rw [fl]
    by_cases e : j < n
    · rw [List.getElem?_append_left (by omega)]
      exact ih (fun j hj => h j (by omega)) j i e hi
    · have : j = n := by omega
      subst this
      rw [List.getElem?_append_right (by omega), hl]
      congr 1
      omega
theorem fl_at {C : Nat → List Value} {n k : Nat} {v : Value} (h : ∀ j, j < n → (C j).length = 29) (hk : (fl C n)[k]? = some v) : ∃ j i, j < n ∧ i < 29 ∧ k = j * 29 + i ∧ (C j)[i]? = some v := by
  have hl := fl_len h
  have hlt : k < n * 29 := by have := (List.getElem?_eq_some_iff.1 hk).1; omega
  have hd : k / 29 < n := by omega
  refine ⟨k / 29, k % 29, hd, Nat.mod_lt _ (by omega), by omega, ?_⟩
  rw [← fl_get h (k / 29) (k % 29) hd (Nat.mod_lt _ (by omega)), show k / 29 * 29 + k % 29 = k by omega]
  exact hk
theorem fl_congr {C D : Nat → List Value} : ∀ {n : Nat}, (∀ j, j < n → C j = D j) → fl C n = fl D n := by
  intro n
  induction n with
  | zero => intro _; rfl
  | succ n ih => intro h; rw [fl, fl, ih (fun j hj => h j (by omega)), h n (by omega)]
def two (C D : Nat → List Value) (n : Nat) : Nat → List Value := fun j => if j < n then C j else D (j - n)
theorem fl_two (C D : Nat → List Value) (n m : Nat) : fl (two C D n) (n + m) = fl C n ++ fl D m := by
  induction m with
  | zero => simp only [Nat.add_zero, fl, List.append_nil]; exact fl_congr (fun j hj => if_pos hj)
  | succ m ih =>
    rw [← Nat.add_assoc, fl, ih, fl, List.append_assoc]
    congr 2
    unfold two
    rw [if_neg (by omega), show n + m - n = m by omega]
/- an empty list, wherever it lies -/
theorem src_nil {sz : Nat} (w : World) {t e : TypeId} (ht : Try.prog.underlying t = some (.slice e)) (a : Option Addr) : Src Try.prog sz t (.slice a 0 0) 0 [] w := by
  cases a with
  | none => exact Src.ofNil w ht 0
  | some a => exact Src.ofSlice w ht a 0 0 [] (by simp) (fun j u hj => by simp at hj) (fun u hu => by cases hu)
/- entries that lie behind an address -/
def EsA (w0 w : World) (b off : Nat) (L : List En) (C : Nat → List Value) : Prop := ∀ (j : Nat) (e : En), L[j]? = some e → EnR w0 w (C j) e ∧ w.rangeAt b (off + j * 29) (C j)
def EsR (w0 w : World) (v : Value) (L : List En) : Prop := ((∃ a, v = .slice a 0 0) ∧ L = []) ∨ ∃ b off cap C, v = .slice (some ⟨b, off, none⟩) L.length cap ∧ L.length ≤ cap ∧ EsA w0 w b off L C
def OwR (w0 w : World) (v : Value) (L : List En) : Prop := (v = .slice none 0 0 ∧ L = []) ∨ ∃ b off cap C cur, v = .slice (some ⟨b, off, none⟩) L.length cap ∧ L.length ≤ cap ∧ EsA w0 w b off L C ∧ w0.heap.size ≤ b ∧ w.heap[b]? = some (.cells cur 51 (0, 0)) ∧ off + cap * 29 ≤ cur.size
theorem OwR.es {w0 w : World} {v : Value} {L : List En} (h : OwR w0 w v L) : EsR w0 w v L := by
  rcases h with h | ⟨b, off, cap, C, cur, h1, h2, h3, _⟩
  · exact .inl ⟨⟨_, h.1⟩, h.2⟩
  · exact .inr ⟨b, off, cap, C, h1, h2, h3⟩
theorem EsR.form {w0 w : World} {v : Value} {L : List En} (h : EsR w0 w v L) : ∃ a cap, v = .slice a L.length cap := by
  rcases h with ⟨⟨a, rfl⟩, rfl⟩ | ⟨b, off, cap, C, h1, _⟩
  · exact ⟨a, 0, rfl⟩
  · exact ⟨_, cap, h1⟩
theorem EsA.len {w0 w : World} {b off : Nat} {L : List En} {C : Nat → List Value} (h : EsA w0 w b off L C) : ∀ j, j < L.length → (C j).length = 29 := fun j hj => (h j _ (List.getElem?_eq_getElem hj)).1.len
theorem EsA.one {w0 w : World} {b off : Nat} {L : List En} {C : Nat → List Value} (h : EsA w0 w b off L C) : ∀ u ∈ fl C L.length, u.oneCell' = true := by
  intro u hu
  obtain ⟨k, hk⟩ := List.getElem?_of_mem hu
  obtain ⟨j, i, hj, hi, _, hc⟩ := fl_at h.len hk
  exact (h j _ (List.getElem?_eq_getElem hj)).1.one u (List.mem_of_getElem? hc)
theorem EsA.cells {w0 w : World} {b off : Nat} {L : List En} {C : Nat → List Value} (h : EsA w0 w b off L C) : w.rangeAt b off (fl C L.length) := by
  intro k v hk
  obtain ⟨j, i, hj, hi, rfl, hc⟩ := fl_at h.len hk
  have := (h j _ (List.getElem?_eq_getElem hj)).2 i v hc
  rw [Nat.add_assoc] at this
  exact this
theorem EsA.src {w0 w : World} {b off cap : Nat} {L : List En} {C : Nat → List Value} (h : EsA w0 w b off L C) : Src Try.prog 29 28 (.slice (some ⟨b, off, none⟩) L.length cap) L.length (fl C L.length) w :=
  Src.ofSlice w Try.underlying28 ⟨b, off, none⟩ L.length cap (fl C L.length) (fl_len h.len) (fun j u hj => by rw [Addr.add_mid]; exact h.cells j u hj) h.one
theorem EsR.src {w0 w : World} {v : Value} {L : List En} (h : EsR w0 w v L) : ∃ C, Src Try.prog 29 28 v L.length (fl C L.length) w ∧ ∀ (j : Nat) (e : En), L[j]? = some e → EnR w0 w (C j) e := by
  rcases h with ⟨⟨a, rfl⟩, rfl⟩ | ⟨b, off, cap, C, rfl, _, h3⟩
  · exact ⟨fun _ => [], src_nil w Try.underlying28 a, fun j e hj => by simp at hj⟩
  · exact ⟨C, h3.src, fun j e hj => (h3 j e hj).1⟩
/- blocks stay -/
theorem EsA.kept {w0 w w' : World} {b off : Nat} {L : List En} {C : Nat → List Value} (h : EsA w0 w b off L C) (k : Kp w0 w w') (hb : L ≠ [] → w'.heap[b]? = w.heap[b]?) : EsA w0 w' b off L C := fun j e hj =>
  ⟨(h j e hj).1.kp k, range_of (h j e hj).2 (hb (fun e => by rw [e] at hj; simp at hj))⟩
theorem OwR.kept {w0 w w' : World} {v : Value} {L : List En} (h : OwR w0 w v L) (k : Kp w0 w w') (hb : ∀ b, v.ownBlock = some b → w'.heap[b]? = w.heap[b]?) : OwR w0 w' v L := by
  rcases h with h | ⟨b, off, cap, C, cur, rfl, h2, h3, h4, h5, h6⟩
  · exact .inl h
  · exact .inr ⟨b, off, cap, C, cur, rfl, h2, h3.kept k (fun _ => hb b rfl), h4, (hb b rfl).trans h5, h6⟩
theorem OwR.below {w0 w w' : World} {v : Value} {L : List En} (h : OwR w0 w v L) (h0 : w0.heap.size ≤ w.heap.size) (hb : Below w.heap.size w w') : OwR w0 w' v L := by
  refine h.kept (Kp.bel h0 hb) (fun b e => ?_)
  rcases h with ⟨rfl, _⟩ | ⟨b', off, cap, C, cur, rfl, h2, h3, h4, h5, h6⟩
  · cases e
  · have e2 : b' = b := Option.some.inj e
    subst e2
    exact hb.block _ (heap_lt h5)
theorem EsR.kept {w0 w w' : World} {v : Value} {L : List En} (h : EsR w0 w v L) (k : Kp w0 w w') (hb : ∀ b, v.ownBlock = some b → L ≠ [] → w'.heap[b]? = w.heap[b]?) : EsR w0 w' v L := by
  rcases h with h | ⟨b, off, cap, C, rfl, h2, h3⟩
  · exact .inl h
  · exact .inr ⟨b, off, cap, C, rfl, h2, h3.kept k (hb b rfl)⟩
theorem EsA.blt {w0 w : World} {b off : Nat} {L : List En} {C : Nat → List Value} (h : EsA w0 w b off L C) (hl : L ≠ []) : b < w.heap.size := by
  cases L with
  | nil => exact absurd rfl hl
  | cons x L =>
    obtain ⟨h1, h2⟩ := h 0 x rfl
    exact World.block_lt_of_cell? w _ (h2 0 _ h1.c0)
theorem EsR.below {w0 w w' : World} {v : Value} {L : List En} (h : EsR w0 w v L) (h0 : w0.heap.size ≤ w.heap.size) (hb : Below w.heap.size w w') : EsR w0 w' v L := by
  refine h.kept (Kp.bel h0 hb) (fun b e hl => ?_)
  rcases h with ⟨_, e⟩ | ⟨b', off, cap, C, rfl, h2, h3⟩
  · exact absurd e hl
  · have e2 : b' = b := Option.some.inj e
    subst e2
    exact hb.block _ (h3.blt hl)
theorem EsR.lo {w0 w w' : World} {v : Value} {L : List En} (h : EsR w0 w v L) (k : Kp w0 w w') (hb : ∀ b, v.ownBlock = some b → L ≠ [] → b < w0.heap.size) : EsR w0 w' v L := h.kept k (fun b e hl => k.lo b (hb b e hl))
theorem EsR.nil (w0 w : World) : EsR w0 w (.slice none 0 0) [] := .inl ⟨⟨_, rfl⟩, rfl⟩
theorem OwR.nil (w0 w : World) : OwR w0 w (.slice none 0 0) [] := .inl ⟨rfl, rfl⟩
/- one cell or more of a row are written -/
theorem setCells_heap {b : Nat} {t : TypeId} : ∀ (vs : List Value) (o : Nat) (w : World) (cur : Array Value), w.heap[b]? = some (.cells cur t (0, 0)) → ∃ cur', (w.setCells b o vs).heap[b]? = some (.cells cur' t (0, 0)) ∧ cur'.size = cur.size
  | [], _, _, cur, h => ⟨cur, h, rfl⟩
  | v :: r, o, w, cur, h => by
    obtain ⟨c', h1, h2⟩ := setCells_heap r (o + 1) (w.setCell ⟨b, o, none⟩ v) _ (heap_setCell_same w b o cur t v h)
    exact ⟨c', h1, by simpa using h2⟩
theorem setCells_other {b k : Nat} (hk : k ≠ b) : ∀ (vs : List Value) (o : Nat) (w : World), (w.setCells b o vs).heap[k]? = w.heap[k]?
  | [], _, _ => rfl
  | v :: r, o, w => (setCells_other hk r (o + 1) _).trans (Below.heap_setCell w ⟨b, o, none⟩ v k hk)
theorem setCells_rest {b : Nat} : ∀ (vs : List Value) (o : Nat) (w : World), (w.setCells b o vs).os = w.os ∧ (w.setCells b o vs).tape = w.tape ∧ (w.setCells b o vs).output = w.output ∧ (w.setCells b o vs).heap.size = w.heap.size
  | [], _, _ => ⟨rfl, rfl, rfl, rfl⟩
  | v :: r, o, w => by
    obtain ⟨h1, h2, h3, h4⟩ := setCells_rest (b := b) r (o + 1) (w.setCell ⟨b, o, none⟩ v)
    exact ⟨h1, h2, h3, h4.trans (by simp)⟩
theorem chg_setCells (w : World) (b o : Nat) (vs : List Value) : Chg w (w.setCells b o vs) (· = b) := by
  obtain ⟨h1, h2, h3, h4⟩ := setCells_rest (b := b) vs o w
  exact ⟨h1, h2, h3, by omega, fun k _ hk => setCells_other hk vs o w⟩
theorem there_row {w : World} {b n o : Nat} {cur : Array Value} {t : TypeId} (h : w.heap[b]? = some (.cells cur t (0, 0))) (hn : o + n ≤ cur.size) : w.there b o n := fun j hj =>
  ⟨by rw [cell_of_row w b _ cur t (0, 0) h, Array.getElem?_eq_getElem (by omega)]; rfl, by simp [World.frozen?, h]⟩
end Go.Proofs.Ytdkmlgkljhhokaa
