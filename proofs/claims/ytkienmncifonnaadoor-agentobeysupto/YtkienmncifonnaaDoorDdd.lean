/- A deed, done on the files or on the durable files. -/
import Derived.Test.YtkienmncifonnaaDoorDlv
namespace Go.Proofs.YtkienmncifonnaaDoor
open Go.RowKit Go.Maps

/- a variable of a closure: a text -/
def strAt (w : World) (p : Nat) (n : Nm) : Prop := ∃ own : ByteArray, w.heap[p]? = some (.cells #[.string own] 9 (0, 0)) ∧ own.data.toList = n ∧ own.size ≤ maxLen
/- a variable of a closure: bytes -/
def bytAt (w : World) (q : Nat) (d : List UInt8) (z : Value) : Prop := ∃ az zc, z = .slice az d.length zc ∧ w.heap[q]? = some (.cells #[.slice az d.length zc] 38 (0, 0)) ∧ SlR w (.slice az d.length zc) d ∧ d.length ≤ 1048576
def DeedR (w : World) (f : Value) (x : Dd) (z : Value) : Prop :=
  match x with
  | .pt n d => ∃ p q, f = .func (.func 47) #[] #[.pointer (some ⟨q, 0, none⟩), .pointer (some ⟨p, 0, none⟩)] ∧ strAt w p n ∧ bytAt w q d z
theorem DeedR.z {w : World} {f : Value} {x : Dd} {z : Value} (h : DeedR w f x z) : ∃ l, SlR w z l := by
  cases x with
  | pt n d => obtain ⟨_, _, _, _, az, zc, rfl, _, h, _⟩ := h; exact ⟨d, h⟩
/- what a closure knows stays, where the blocks of its variables and its bytes do -/
theorem DeedR.kept {w w' : World} {f : Value} {x : Dd} {z : Value} (h : DeedR w f x z) (h1 : ∀ (k : Nat) (cs : Array Value) (t : TypeId), (t = 9 ∨ t = 38) → w.heap[k]? = some (Obj.cells cs t (0, 0)) → w'.heap[k]? = w.heap[k]?) (h2 : ∀ l, SlR w z l → SlR w' z l) : DeedR w' f x z := by
  have s1 : ∀ {p n}, strAt w p n → strAt w' p n := fun ⟨own, a, b, c⟩ => ⟨own, (h1 _ _ 9 (.inl rfl) a).trans a, b, c⟩
  have s2 : ∀ {q d}, bytAt w q d z → bytAt w' q d z := fun ⟨az, zc, a, b, c, e⟩ => ⟨az, zc, a, (h1 _ _ 38 (.inr rfl) b).trans b, a ▸ h2 _ (a ▸ c), e⟩
  cases x with
  | pt n d => obtain ⟨p, q, a, b, c⟩ := h; exact ⟨p, q, a, s1 b, s2 c⟩
theorem DeedR.below {w w' : World} {f : Value} {x : Dd} {z : Value} (h : DeedR w f x z) (hb : Below w.heap.size w w') : DeedR w' f x z :=
  h.kept (fun k _ _ _ hk => hb.block k (heap_lt hk)) (fun _ hl => hl.grow hb)
theorem App.cells {w w' : World} {b : Nat} {v v' : Value} (ha : App w w' (some b) v v') {l : List UInt8} (hv : SlR w v l) {es : Array MapEntry} {c : Nat} (hb : w.heap[b]? = some (.map es c)) {k : Nat} {cs : Array Value} {t : TypeId} {f : Nat × Nat} (ht : t ≠ 5) (hk : w.heap[k]? = some (.cells cs t f)) : w'.heap[k]? = w.heap[k]? :=
  ha.block k (heap_lt hk) (fun e => by cases e; rw [hb] at hk; cases hk) (fun _ e => hv.ne_cells hk ht e.symm)
theorem DeedR.app {w w' : World} {f : Value} {x : Dd} {z : Value} (h : DeedR w f x z) {b : Nat} {v v' : Value} (ha : App w w' (some b) v v') {l : List UInt8} (hv : SlR w v l) {n : Nat} {D : DataW Value} (hm : MapR w b n D) (hk : SepK v z) : DeedR w' f x z := by
  obtain ⟨es, c, hb⟩ := hm.obj
  exact h.kept (fun k cs t ht hk => ha.cells hv hb (by rcases ht with rfl | rfl <;> decide) hk) (fun _ hl => hl.appK ha (fun g e => by cases e; exact hl.ne_map hm) hk)

def sset {α : Type} (E : Bool → Nm → α) (s : Bool) (g : Nm → α) : Bool → Nm → α := fun s' k => if s' = s then g k else E s' k
theorem sset_same {α : Type} (E : Bool → Nm → α) (s : Bool) (g : Nm → α) (k : Nm) : sset E s g s k = g k := by simp [sset]
theorem sset_eup {α : Type} {E : Bool → Nm → α} {s : Bool} {g h : Nm → α} {n : Nm} {v : α} (hE : ∀ k, E s k = h k) (hg : ∀ k, g k = if k = n then v else h k) : sset E s g = eup E s n v := by
  funext s' k
  unfold sset eup
  by_cases e : s' = s
  · subst e
    rw [if_pos rfl, hg]
    by_cases e2 : k = n
    · rw [if_pos e2, if_pos ⟨rfl, e2⟩]
    · rw [if_neg e2, if_neg (fun x => e2 x.2), hE]
  · rw [if_neg e, if_neg (fun x => e x.1)]
def cOf (fs : FS) : Nm → List UInt8 := fun k => (fs k).getD []

/- what a deed leaves: the map, the slices, what may be written later, and all else -/
structure DPost (w w' : World) (s : Bool) (b n : Nat) (D : DataW Value) (E : Bool → Nm → Value) (C : Bool → Nm → List UInt8) (zs : List Value) (fs fs' : FS) : Prop where
  ex : ∃ D' v v', MapR w' b (n + 1) D' ∧ (∀ k, Maps.has D' (.string k) = (fs' k).isSome) ∧ Liv w' (sset E s (vAt D')) (sset C s (cOf fs')) zs ∧ App w w' (some b) v v' ∧ (v = .slice none 0 0 ∨ ∃ k, v = vAt D k) ∧
    ∀ k g, (vAt D' k).ownBlock = some g → (∃ j, (vAt D j).ownBlock = some g) ∨ (∃ z ∈ zs, z.ownBlock = some g) ∨ w.heap.size ≤ g

theorem isSome_fup (fs : FS) (k j : Nm) (v : Option (List UInt8)) : (fup fs k v j).isSome = if j = k then v.isSome else (fs j).isSome := by
  unfold fup; split <;> rfl
theorem cOf_fup (fs : FS) (k j : Nm) (v : Option (List UInt8)) : cOf (fup fs k v) j = if j = k then v.getD [] else cOf fs j := by
  unfold cOf fup; split <;> rfl

section
variable {w : World} {s : Bool} {b n : Nat} {D : DataW Value} {E : Bool → Nm → Value} {C : Bool → Nm → List UInt8} {zs : List Value} {fs : FS}

theorem kept_nil {w' : World} (ha : App w w' (some b) (.slice none 0 0) (.slice none 0 0)) (hm : MapR w b n D) (hL : Liv w E C zs) : Liv w' E C zs :=
  hL.kept fun s k g hg => ha.block g ((hL.r s k).lt g hg) (fun e => (hL.r s k).ne_map hm (by rw [hg, e])) (fun h => absurd h not_gr_nil)

theorem ptD_call (hm : MapR w b n D) (hn : n < maxLen) (hE : ∀ k, E s k = vAt D k) (hC : ∀ k, C s k = cOf fs k) (hh : ∀ k, Maps.has D (.string k) = (fs k).isSome) (hL : Liv w E C zs) {nm d : List UInt8} {p q : Nat} {z : Value} (hz : z ∈ zs) (h1 : strAt w p nm) (h2 : bytAt w q d z) (u : Nat) :
    Calls Tryd.prog 47 #[.map (some b), .int .i64 (u : Int), .pointer (some ⟨q, 0, none⟩), .pointer (some ⟨p, 0, none⟩)] w fun e w' => e = .returned (.tuple #[]) ∧ DPost w w' s b n D E C zs fs (doD (.pt nm d) u fs) := by
  obtain ⟨own, a1, rfl, a3⟩ := h1
  obtain ⟨az, zc, rfl, b2, b3, b4⟩ := h2
  refine (pt_any b n q p D own az zc u d w hm hn b2 a3 a1 b3).mono ?_
  rintro e w' ⟨rfl, c2, c3⟩
  have hb3 : SlR w' (.slice az d.length zc) d := b3.kept fun k hk => c3.block k (b3.lt k hk) (fun e => b3.ne_map hm (by rw [hk, e])) (fun h => absurd h not_gr_nil)
  refine ⟨rfl, ⟨_, _, _, c2, fun k => ?_, ?_, c3, .inl rfl, fun k g hg2 => ?_⟩⟩
  · rw [has_put hm.isMap, hh, doD, isSome_fup]
    by_cases e : k = own.data.toList <;> simp [e]
  · rw [sset_eup hE (fun k => vAt_put hm.isMap _ k _), sset_eup hC (fun k => by rw [doD, cOf_fup])]
    have hk := kept_nil c3 hm hL
    refine hk.put hk.r hb3.clip (clipV_gr (.slice az d.length zc)) (fun s' k' _ g e1 e2 e3 => ?_)
    have e2' : (Value.slice az d.length zc).ownBlock = some g := by rw [← clipV_own]; exact e2
    exact absurd e3 (hL.kz s' k' _ hz g e1 e2')
  · rw [vAt_put hm.isMap] at hg2
    by_cases e : k = own.data.toList
    · rw [if_pos e] at hg2
      exact .inr (.inl ⟨_, hz, by rw [← clipV_own]; exact hg2⟩)
    · rw [if_neg e] at hg2
      exact .inl ⟨k, hg2⟩

end
end Go.Proofs.YtkienmncifonnaaDoor
