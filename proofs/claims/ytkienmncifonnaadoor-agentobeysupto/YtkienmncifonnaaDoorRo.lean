/- Rows that come in, and rows of one's own, of any record; whole structs. -/
import Derived.Test.YtkienmncifonnaaDoorAs
import Derived.Lib.AppendZeros
import Derived.Laws.Tables
namespace Go.Proofs.YtkienmncifonnaaDoor
open Go.RowKit Go.Maps
variable {D : Nat}
theorem results_cell1 {P : Program} {fn : Func} {p : Tmp} {ty : TypeId} (h : fn.results = #[.cell p ty]) (tmps : Array Value) (w : World) (g : Nat) (t : TypeId) (cs : Array Value) (fr : Nat × Nat) (d : TypeDesc)
    (hp : tmps.getD p undef = .pointer (some ⟨g, 0, none⟩)) (hg : w.heap[g]? = some (.cells cs t fr))
    (hu : P.underlying ty = some d) (hd : (match d with | .struct _ | .array _ _ => true | _ => false) = true) (hi : (P.info? ty).map (·.size) = some cs.size) :
    (results fn tmps).run P w = .ok (.agg cs) w := by
  have hp' : tmps[p]?.getD undef = .pointer (some ⟨g, 0, none⟩) := by simpa using hp
  simp [results, h, hp', asAddr, run_loadVar_row w g t ty cs fr d hg hu hd hi]
theorem setRow_at {w : World} {g : Nat} {old cs : Array Value} {t : Nat} {fr : Nat × Nat} (h : w.heap[g]? = some (.cells old t fr)) : (w.setRow g cs).heap[g]? = some (.cells cs t fr) := by
  simp [World.setRow, Array.getElem?_modify, h]
theorem setRow_ne {w : World} {g k : Nat} {cs : Array Value} (h : k ≠ g) : (w.setRow g cs).heap[k]? = w.heap[k]? := by
  simp [World.setRow, Array.getElem?_modify, Ne.symm h]
theorem setRow_below {B : Nat} {a w : World} {g : Nat} {cs : Array Value} (h : Below B a w) (hg : B ≤ g) : Below B a (w.setRow g cs) :=
  ⟨h.os, h.tape, h.output, by simpa [World.setRow] using h.size, fun k hk => (setRow_ne (by omega)).trans (h.block k hk)⟩
/- lists that come in -/
def RdR (D : Nat) (ty s : Nat) {α : Type} (f : α → Array Value) (w : World) (a : Option Addr) (L : List α) : Prop :=
  L ≠ [] → ∃ b off, a = some ⟨b, off, none⟩ ∧ b < w.heap.size ∧ (b < D ∨ ∃ cs, w.heap[b]? = some (.cells cs ty (0, 0))) ∧ ∀ i x, L[i]? = some x → ∀ j u, (f x)[j]? = some u → w.cell? ⟨b, off + i * s + j, none⟩ = some u
theorem RdR.keepB {ty s : Nat} {α : Type} {f : α → Array Value} {w w' : World} {a : Option Addr} {L : List α} (h : RdR D ty s f w a L) (hs : w.heap.size ≤ w'.heap.size) (hD : ∀ k, k < D → k < w.heap.size → w'.heap[k]? = w.heap[k]?) (hf : ∀ (k : Nat) (cs : Array Value), w.heap[k]? = some (.cells cs ty (0, 0)) → w'.heap[k]? = w.heap[k]?) : RdR D ty s f w' a L := by
  intro hne
  obtain ⟨b, off, rfl, h1, h2, h3⟩ := h hne
  have e : w'.heap[b]? = w.heap[b]? := by
    rcases h2 with h2 | ⟨cs, h2⟩
    · exact hD b h2 h1
    · exact hf b cs h2
  refine ⟨b, off, rfl, Nat.lt_of_lt_of_le h1 hs, ?_, fun i x hx j u hu => ?_⟩
  · rcases h2 with h2 | ⟨cs, h2⟩
    · exact .inl h2
    · exact .inr ⟨cs, e.trans h2⟩
  · rw [World.cell?_of_block (w := w) e]; exact h3 i x hx j u hu
theorem RdR.grow {ty s : Nat} {α : Type} {f : α → Array Value} {w w' : World} {a : Option Addr} {L : List α} (h : RdR D ty s f w a L) (hb : Below w.heap.size w w') : RdR D ty s f w' a L := h.keepB hb.size (fun k _ hk => hb.block k hk) (fun k _ hk => hb.block k (heap_lt hk))
theorem RdR.at_ {ty s : Nat} {α : Type} {f : α → Array Value} {w : World} {a : Option Addr} {L : List α} (h : RdR D ty s f w a L) {i : Nat} {x : α} (hx : L[i]? = some x) : ∃ b off, a = some ⟨b, off, none⟩ ∧ b < w.heap.size ∧ ∀ j u, (f x)[j]? = some u → w.cell? ⟨b, off + i * s + j, none⟩ = some u := by
  obtain ⟨b, off, h1, h2, _, h3⟩ := h (fun e => by rw [e] at hx; simp at hx)
  exact ⟨b, off, h1, h2, h3 i x hx⟩
def rows {α : Type} (f : α → Array Value) (R : List α) : List Value := R.flatMap fun x => (f x).toList
theorem rows_len {α : Type} {f : α → Array Value} {s : Nat} (hf : ∀ x, (f x).size = s) (R : List α) : (rows f R).length = R.length * s := by
  induction R with
  | nil => simp [rows]
  | cons x R ih =>
    simp only [rows, List.flatMap_cons, List.length_append, List.length_cons, Array.length_toList, hf] at ih ⊢
    rw [ih, Nat.succ_mul]; omega
theorem rows_snoc {α : Type} (f : α → Array Value) (R : List α) (x : α) : rows f (R ++ [x]) = rows f R ++ (f x).toList := by simp [rows]
theorem rows_get {α : Type} {f : α → Array Value} {s : Nat} (hf : ∀ x, (f x).size = s) : ∀ (R : List α) (i : Nat) (x : α), R[i]? = some x → ∀ j, j < s → (rows f R)[i * s + j]? = (f x)[j]?
  | [], i, x, h, j, hj => by simp at h
  | y :: R, 0, x, h, j, hj => by
    simp at h; subst h
    have e : rows f (y :: R) = (f y).toList ++ rows f R := by simp [rows]
    rw [e, List.getElem?_append_left (by simp [hf]; omega)]; simp
  | y :: R, i + 1, x, h, j, hj => by
    have e : rows f (y :: R) = (f y).toList ++ rows f R := by simp [rows]
    have h2 := rows_get hf R i x (by simpa using h) j hj
    have h4 : (i + 1) * s + j = s + (i * s + j) := by rw [Nat.succ_mul]; omega
    rw [e, h4, List.getElem?_append_right (by simp [hf]), Array.length_toList, hf, ← h2]
    congr 1
    omega
def OwR (lo ty s : Nat) {α : Type} (f : α → Array Value) (w : World) (v : Value) (R : List α) : Prop := w.ownsRow lo ty s v R.length (rows f R)
theorem OwR.nil {lo ty s : Nat} {α : Type} {f : α → Array Value} {w : World} : OwR lo ty s f w (.slice none 0 0) [] := ⟨by simp [rows], .inl ⟨rfl, rfl⟩⟩
theorem OwR.slice {lo ty s : Nat} {α : Type} {f : α → Array Value} {w : World} {v : Value} {R : List α} (h : OwR lo ty s f w v R) : ∃ a cap, v = .slice a R.length cap ∧ R.length ≤ maxLen := by
  rcases h.2 with ⟨rfl, e⟩ | ⟨g, cap, cur, rfl, _, _, h1, h2, _⟩
  · exact ⟨none, 0, by rw [e], by rw [e]; unfold maxLen; omega⟩
  · exact ⟨_, cap, rfl, Nat.le_trans h1 h2⟩
theorem OwR.keepB {lo ty s : Nat} {α : Type} {f : α → Array Value} {w w' : World} {v : Value} {R : List α} (h : OwR lo ty s f w v R) (hf : ∀ (k : Nat) (cs : Array Value), w.heap[k]? = some (.cells cs ty (0, 0)) → w'.heap[k]? = w.heap[k]?) : OwR lo ty s f w' v R := by
  refine ⟨h.1, ?_⟩
  rcases h.2 with h2 | ⟨g, cap, cur, rfl, h3, h4, h5⟩
  · exact .inl h2
  · exact .inr ⟨g, cap, cur, rfl, h3, (hf g cur h4).trans h4, h5⟩
theorem OwR.grow {lo ty s : Nat} {α : Type} {f : α → Array Value} {w w' : World} {v : Value} {R : List α} (h : OwR lo ty s f w v R) (hb : Below w.heap.size w w') : OwR lo ty s f w' v R := h.keepB fun k _ hk => hb.block k (heap_lt hk)
theorem OwR.gb {lo ty s : Nat} {α : Type} {f : α → Array Value} {w w' : World} {v : Value} {R : List α} (h : OwR lo ty s f w v R) {r : Option Nat} (hb : w.grownBy w' r) (hr : ∀ k, r = some k → v.ownBlock ≠ some k) : OwR lo ty s f w' v R := by
  refine ⟨h.1, ?_⟩
  rcases h.2 with h2 | ⟨g, cap, cur, rfl, h3, h4, h5⟩
  · exact .inl h2
  · exact .inr ⟨g, cap, cur, rfl, h3, (hb.block g (heap_lt h4) (fun e => hr g e.symm rfl)).trans h4, h5⟩
theorem OwR.lo {lo ty s : Nat} {α : Type} {f : α → Array Value} {w : World} {v : Value} {R : List α} (h : OwR lo ty s f w v R) : ∀ k, v.ownBlock = some k → lo ≤ k := by
  intro k hk
  rcases h.2 with ⟨rfl, _⟩ | ⟨g, cap, cur, rfl, h3, h4, h5⟩
  · cases hk
  · cases hk; exact h3
theorem OwR.rd {lo D ty s : Nat} {α : Type} {f : α → Array Value} (hf : ∀ x, (f x).size = s) {w : World} {v : Value} {R : List α} (h : OwR lo ty s f w v R) : ∃ a cap, v = .slice a R.length cap ∧ RdR D ty s f w a R := by
  rcases h.2 with ⟨rfl, e⟩ | ⟨g, cap, cur, rfl, h3, h4, h5, h6, h7, h8⟩
  · exact ⟨none, 0, by rw [e], fun hne => absurd (List.eq_nil_of_length_eq_zero e) hne⟩
  · refine ⟨_, cap, rfl, fun _ => ⟨g, 0, rfl, heap_lt h4, .inr ⟨cur, h4⟩, fun i x hx j u hu => ?_⟩⟩
    have hi := (List.getElem?_eq_some_iff.1 hx).1
    have hj : j < s := by
      have := (Array.getElem?_eq_some_iff.1 hu).1
      rw [hf] at this; exact this
    rw [cell_of_row w g _ cur ty (0, 0) h4]
    have h9 := rows_get hf R i x hx j hj
    rw [← h8, List.getElem?_take, hu] at h9
    have h10 : i * s + j < R.length * s := by
      have : (i + 1) * s ≤ R.length * s := Nat.mul_le_mul_right s (by omega)
      rw [Nat.succ_mul] at this; omega
    rw [if_pos h10, Array.getElem?_toList] at h9
    rw [Nat.zero_add]; exact h9
theorem cell_news (w : World) (cs : Array Value) (ty : TypeId) (j : Nat) (u : Value) (h : cs.toList[j]? = some u) : (w.alloc (.cells cs ty)).cell? ((⟨w.heap.size, 0, none⟩ : Addr).add j) = some u := by
  rw [Addr.add_lit]
  simp only [Nat.zero_add]
  rw [Array.getElem?_toList] at h
  rw [cell_of_row (w.alloc (.cells cs ty)) w.heap.size j cs ty (0, 0) (heap_alloc_new w _)]
  exact h
structure IfR (e : TypeId) (sz bytes : Nat) : Prop where
  ex : ∃ (i : TypeInfo) (z : Value), Tryd.prog.info? e = some i ∧ i.zero = some z ∧ i.size = sz ∧ i.bytes = bytes ∧ z.cells.size = sz
theorem IfR.of {e : TypeId} {z : Value} {sz bytes : Nat} (h : (Tryd.prog.info? e).map (fun i => (i.zero, i.size, i.bytes)) = some (some z, sz, bytes)) (hz : z.cells.size = sz) : IfR e sz bytes := by
  obtain ⟨i, h1, h2, h3, h4⟩ := info_parts h
  exact ⟨i, z, h1, h2, h3, h4, hz⟩
theorem wpList_appR {α : Type} {f : α → Array Value} {ops : Array Oper} {rest : List Oper} {o : Oper} {a : Act} {Q : Exit → Act → World → Prop} (w : World) (hgd : o.guard = none) (s x : Operand) (t : TypeId)
    (ho : o.op = .call { callee := .builtin .append, args := #[s, x], argTypes := #[t, t] }) (lo e sz bytes : Nat) (ht : Tryd.prog.underlying t = some (.slice e)) (hI : IfR e sz bytes) (hsz : 0 < sz) (hf : ∀ x, (f x).size = sz)
    (v : Value) (R : List α) (hs : a.eval s = v) (h : OwR lo e sz f w v R) (c : α) (ad : Addr) (cp : Nat) (hx : a.eval x = .slice (some ad) 1 cp)
    (hnews : ∀ j u, (f c).toList[j]? = some u → w.cell? (ad.add j) = some u) (h1 : ∀ u ∈ (f c).toList, u.oneCell' = true)
    (h63 : R.length + 1 ≤ maxLen) (hb : (R.length + 1) * bytes ≤ 140737488355328) (hlo : lo ≤ w.heap.size)
    (hK : ∀ v' w', OwR lo e sz f w' v' (R ++ [c]) → w.grownBy w' v.ownBlock → (v'.ownBlock = v.ownBlock ∨ v'.ownBlock = some w.heap.size) → wpList Tryd.prog ops Q rest (a.put o.dst v') w') :
    wpList Tryd.prog ops Q (o :: rest) a w := by
  obtain ⟨i, z, i1, i2, i3, i4, i5⟩ := hI.ex
  refine wpList_plain hgd fun K' hK' => ?_
  obtain ⟨v', w', hr, h2, h3, _, h4⟩ := run_append_own_at (P := Tryd.prog) w lo t o.type e i z sz bytes ht i1 i2 i3 i4 i5 hsz v R.length (rows f R) h ad 1 cp (f c).toList (by simp [hf]) hnews h1 h63 hb hlo
  unfold Oper.wp execOp
  simp only [ho, resolve, invoke, builtin, Sem.run_bind, Sem.run_pure, Result.andThen_ok, List.map_toArray, List.map_cons, List.map_nil, hs, hx, hr]
  refine hK' _ _ (hK v' w' ?_ h3 h4)
  unfold OwR
  rw [rows_snoc, List.length_append, List.length_singleton]
  exact h2

theorem OwR.mono {lo lo' ty s : Nat} {α : Type} {f : α → Array Value} {w : World} {v : Value} {R : List α} (h : OwR lo ty s f w v R) (hl : lo' ≤ lo) : OwR lo' ty s f w v R := by
  refine ⟨h.1, ?_⟩
  rcases h.2 with h2 | ⟨g, cap, cur, rfl, h3, h4, h5⟩
  · exact .inl h2
  · exact .inr ⟨g, cap, cur, rfl, Nat.le_trans hl h3, h4, h5⟩
end Go.Proofs.YtkienmncifonnaaDoor
