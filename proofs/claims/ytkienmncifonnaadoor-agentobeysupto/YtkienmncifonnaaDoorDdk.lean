/- A disk in memory. -/
import Derived.Test.YtkienmncifonnaaDoorDdd
import Derived.Maps.AppendAt
namespace Go.Proofs.YtkienmncifonnaaDoor
open Go.RowKit Go.Maps

structure Md where
  files : FS
  dur : FS
  done : List (Nat × Dd)
  left : Int
/- a deed as it is kept: its units, what it does, the closure, the bytes that it holds -/
structure Gd where
  u : Nat
  x : Dd
  f : Value
  z : Value
def rowL (G : List Gd) : List Value := G.flatMap fun g => [.int .i64 (g.u : Int), g.f]
theorem rowL_length (G : List Gd) : (rowL G).length = G.length * 2 := by
  induction G with
  | nil => rfl
  | cons g G ih => simp only [rowL, List.flatMap_cons, List.length_append, List.length_cons, List.length_nil] at ih ⊢; omega
theorem rowL_append (G : List Gd) (g : Gd) : rowL (G ++ [g]) = rowL G ++ [.int .i64 (g.u : Int), g.f] := by simp [rowL]
theorem mapz (G : List Gd) (g : Gd) : (G ++ [g]).map (·.z) = G.map (·.z) ++ [g.z] := by simp
theorem rowL_get (G : List Gd) : ∀ i g, G[i]? = some g → (rowL G)[i * 2]? = some (.int .i64 (g.u : Int)) ∧ (rowL G)[i * 2 + 1]? = some g.f := by
  induction G with
  | nil => intro i g h; simp at h
  | cons a G ih =>
    intro i g h
    have e : rowL (a :: G) = [.int .i64 (a.u : Int), a.f] ++ rowL G := by simp [rowL]
    cases i with
    | zero => simp at h; subst h; simp [e]
    | succ i =>
      have := ih i g (by simpa using h)
      rw [e, List.getElem?_append_right (by simp; omega), List.getElem?_append_right (by simp; omega)]
      simp only [List.length_cons, List.length_nil]
      rw [show (i + 1) * 2 - (0 + 1 + 1) = i * 2 by omega, show (i + 1) * 2 + 1 - (0 + 1 + 1) = i * 2 + 1 by omega]
      exact this
def entE (DF DD : DataW Value) : Bool → Nm → Value := fun s => vAt (if s then DD else DF)
def entC (F D : FS) : Bool → Nm → List UInt8 := fun s => cOf (if s then D else F)

structure DkR (w : World) (p : Nat) (M : Md) (cnt bF bD : Nat) (DF DD : DataW Value) (dn : Value) (G : List Gd) : Prop where
  blk : DskB w p bF bD dn M.left
  mF : ∃ n, n ≤ cnt ∧ MapR w bF n DF
  mD : ∃ n, n + G.length ≤ cnt ∧ MapR w bD n DD
  ne : bF ≠ bD
  hF : ∀ k, Maps.has DF (.string k) = (M.files k).isSome
  hD : ∀ k, Maps.has DD (.string k) = (M.dur k).isSome
  liv : Liv w (entE DF DD) (entC M.files M.dur) (G.map (·.z))
  row : w.ownsRow 0 132 2 dn G.length (rowL G)
  done : M.done = G.map fun g => (g.u, g.x)
  deed : ∀ g ∈ G, DeedR w g.f g.x g.z
  leb : -1 ≤ M.left ∧ M.left ≤ 1099511627776
  cn : cnt ≤ 4398046511104

/- the blocks that a call on the disk may write, and the rows of bytes that it looks at -/
def Ft (p bF bD : Nat) (DF DD : DataW Value) (dn : Value) (Z : List Value) : Nat → Prop := fun k => k = p ∨ k = bF ∨ k = bD ∨ dn.ownBlock = some k ∨ (∃ s n, (entE DF DD s n).ownBlock = some k) ∨ ∃ z ∈ Z, z.ownBlock = some k
theorem Ft.one {p bF bD : Nat} {DF DD : DataW Value} {dn z : Value} {Z : List Value} {k : Nat} (h : Ft p bF bD DF DD dn (Z ++ [z]) k) : Ft p bF bD DF DD dn Z k ∨ z.ownBlock = some k := by
  rcases h with e | e | e | e | e | ⟨y, e, e'⟩
  · exact .inl (.inl e)
  · exact .inl (.inr (.inl e))
  · exact .inl (.inr (.inr (.inl e)))
  · exact .inl (.inr (.inr (.inr (.inl e))))
  · exact .inl (.inr (.inr (.inr (.inr (.inl e)))))
  · rcases List.mem_append.1 e with e | e
    · exact .inl (.inr (.inr (.inr (.inr (.inr ⟨y, e, e'⟩)))))
    · rw [List.mem_singleton.1 e] at e'
      exact .inr e'
structure Fr (w w' : World) (F F' : Nat → Prop) : Prop where
  os : w'.os = w.os
  tape : w'.tape = w.tape
  output : w'.output = w.output
  size : w.heap.size ≤ w'.heap.size
  block : ∀ k, k < w.heap.size → ¬ F k → w'.heap[k]? = w.heap[k]?
  foot : ∀ k, F' k → F k ∨ w.heap.size ≤ k
theorem Fr.refl (w : World) (F : Nat → Prop) : Fr w w F F := ⟨rfl, rfl, rfl, Nat.le_refl _, fun _ _ _ => rfl, fun _ h => .inl h⟩
theorem Fr.trans {a b c : World} {F F1 F2 : Nat → Prop} (h : Fr a b F F1) (k : Fr b c F1 F2) : Fr a c F F2 := by
  refine ⟨k.os.trans h.os, k.tape.trans h.tape, k.output.trans h.output, Nat.le_trans h.size k.size, fun i hi hF => ?_, fun i hi => ?_⟩
  · refine (k.block i (Nat.lt_of_lt_of_le hi h.size) (fun e => ?_)).trans (h.block i hi hF)
    rcases h.foot i e with e | e
    · exact hF e
    · omega
  · rcases k.foot i hi with e | e
    · exact h.foot i e
    · exact .inr (Nat.le_trans h.size e)
theorem Fr.of_below {a b : World} {F : Nat → Prop} (h : Below a.heap.size a b) : Fr a b F F := ⟨h.os, h.tape, h.output, h.size, fun k hk _ => h.block k hk, fun _ h => .inl h⟩
theorem Fr.below {a b : World} {F F' : Nat → Prop} (h : Fr a b F F') {B : Nat} (hB : B ≤ a.heap.size) (hF : ∀ k, F k → B ≤ k) : Below B a b :=
  ⟨h.os, h.tape, h.output, h.size, fun k hk => h.block k (by omega) (fun e => by have := hF k e; omega)⟩
theorem Fr.above {a b : World} {F F' : Nat → Prop} (h : Fr a b F F') {B : Nat} (hB : B ≤ a.heap.size) (hF : ∀ k, F k → B ≤ k) : ∀ k, F' k → B ≤ k := fun k hk => by
  rcases h.foot k hk with e | e
  · exact hF k e
  · omega

/- bytes that are new at a call are new at its end -/
theorem Fr.fresh {a b c : World} {p bF bD : Nat} {DF DD : DataW Value} {dn z : Value} {Z : List Value} {F' : Nat → Prop} (h : Below a.heap.size a b) (hz : ∀ k, z.ownBlock = some k → a.heap.size ≤ k) (k : Fr b c (Ft p bF bD DF DD dn (Z ++ [z])) F') : Fr a c (Ft p bF bD DF DD dn Z) F' := by
  refine ⟨k.os.trans h.os, k.tape.trans h.tape, k.output.trans h.output, Nat.le_trans h.size k.size, fun i hi hF => ?_, fun i hi => ?_⟩
  · refine (k.block i (Nat.lt_of_lt_of_le hi h.size) (fun e => ?_)).trans (h.block i hi)
    rcases e.one with e | e
    · exact hF e
    · have := hz i e; omega
  · rcases k.foot i hi with e | e
    · rcases e.one with e | e
      · exact .inl e
      · exact .inr (hz i e)
    · exact .inr (Nat.le_trans h.size e)

/- objects that the rest of a disk looks at: maps, texts, bytes -/
def okT : Obj → Prop
  | .map _ _ => True
  | .cells _ t f => (t = 5 ∨ t = 9 ∨ t = 38) ∧ f = (0, 0)
  | _ => False
def KeepT (w w' : World) : Prop := ∀ (k : Nat) (o : Obj), w.heap[k]? = some o → okT o → w'.heap[k]? = w.heap[k]?
theorem MapR.keepT {w w' : World} {b n : Nat} {D : DataW Value} (h : MapR w b n D) (k : KeepT w w') : MapR w' b n D := by
  obtain ⟨es, c, hb⟩ := h.obj
  exact h.kept (k b _ hb trivial)
theorem SlR.keepT {w w' : World} {v : Value} {l : List UInt8} (h : SlR w v l) (k : KeepT w w') : SlR w' v l := by
  refine h.kept fun g hg => ?_
  rcases h with ⟨rfl, _⟩ | ⟨g', cap, cur, rfl, hg', _⟩
  · cases hg
  · cases hg
    exact k _ _ hg' ⟨.inl rfl, rfl⟩
theorem Liv.keepT {w w' : World} {E : Bool → Nm → Value} {C : Bool → Nm → List UInt8} {Z : List Value} (h : Liv w E C Z) (k : KeepT w w') : Liv w' E C Z := ⟨fun s n => (h.r s n).keepT k, h.sep, h.kz⟩
theorem DeedR.keepT {w w' : World} {f : Value} {x : Dd} {z : Value} (h : DeedR w f x z) (k : KeepT w w') : DeedR w' f x z :=
  h.kept (fun i cs t ht hi => k i _ hi ⟨by rcases ht with rfl | rfl <;> simp, rfl⟩) (fun _ hl => hl.keepT k)
theorem KeepT.below {w w' : World} (h : Below w.heap.size w w') : KeepT w w' := fun k _ hk _ => h.block k (heap_lt hk)

/- what is done to the disk's own block and to its row -/
structure Tch (w w' : World) (p : Nat) (r : Option Nat) : Prop where
  os : w'.os = w.os
  tape : w'.tape = w.tape
  output : w'.output = w.output
  size : w.heap.size ≤ w'.heap.size
  block : ∀ k, k < w.heap.size → k ≠ p → some k ≠ r → w'.heap[k]? = w.heap[k]?
theorem Tch.refl (w : World) (p : Nat) (r : Option Nat) : Tch w w p r := ⟨rfl, rfl, rfl, Nat.le_refl _, fun _ _ _ _ => rfl⟩
theorem Tch.trans {a b c : World} {p : Nat} {r : Option Nat} (h : Tch a b p r) (k : Tch b c p r) : Tch a c p r :=
  ⟨k.os.trans h.os, k.tape.trans h.tape, k.output.trans h.output, Nat.le_trans h.size k.size, fun i hi h1 h2 => (k.block i (Nat.lt_of_lt_of_le hi h.size) h1 h2).trans (h.block i hi h1 h2)⟩
theorem Tch.of_below {a b : World} {p : Nat} {r : Option Nat} (h : Below a.heap.size a b) : Tch a b p r := ⟨h.os, h.tape, h.output, h.size, fun k hk _ _ => h.block k hk⟩
theorem Tch.of_grown {a b : World} {p : Nat} {r : Option Nat} (h : a.grownBy b r) : Tch a b p r := ⟨h.os, h.tape, h.output, h.size, fun k hk _ h2 => h.block k hk h2⟩
theorem Tch.setp (a : World) (p : Nat) (r : Option Nat) (j : Nat) (u : Value) : Tch a (a.setCell ⟨p, j, none⟩ u) p r := ⟨rfl, rfl, rfl, by simp, fun k _ hk _ => Below.heap_setCell a ⟨p, j, none⟩ u k hk⟩
theorem Tch.keepT {w w' : World} {p bF bD : Nat} {dn : Value} {left : Int} {G : List Gd} (h : Tch w w' p dn.ownBlock) (hb : DskB w p bF bD dn left) (hr : w.ownsRow 0 132 2 dn G.length (rowL G)) : KeepT w w' := by
  intro k o hk ho
  refine h.block k (heap_lt hk) (fun e => ?_) (fun e => ?_)
  · subst e
    have hb' : w.heap[k]? = _ := hb
    rw [hb'] at hk
    cases hk
    obtain ⟨h1, _⟩ := ho
    revert h1; decide
  · rcases hr.2 with ⟨rfl, _⟩ | ⟨g, cap, cur, rfl, _, h4, _⟩
    · cases e
    · cases e
      rw [h4] at hk
      cases hk
      obtain ⟨h1, _⟩ := ho
      revert h1; decide
theorem ownsRow_kept {w w' : World} {v : Value} {e n s : Nat} {xs : List Value} (h : w.ownsRow 0 e s v n xs) (hb : ∀ k, v.ownBlock = some k → w'.heap[k]? = w.heap[k]?) : w'.ownsRow 0 e s v n xs := by
  refine ⟨h.1, ?_⟩
  rcases h.2 with h2 | ⟨g, cap, cur, rfl, h3, h4, h5⟩
  · exact .inl h2
  · exact .inr ⟨g, cap, cur, rfl, h3, (hb g rfl).trans h4, h5⟩
theorem ownsRow_blk {w : World} {v : Value} {e n s : Nat} {xs : List Value} (h : w.ownsRow 0 e s v n xs) {k : Nat} (hk : v.ownBlock = some k) : ∃ cur, w.heap[k]? = some (.cells cur e (0, 0)) := by
  rcases h.2 with ⟨rfl, _⟩ | ⟨g, cap, cur, rfl, h3, h4, h5⟩
  · cases hk
  · cases hk; exact ⟨cur, h4⟩
theorem DkR.rowNe {w : World} {p : Nat} {M : Md} {cnt bF bD : Nat} {DF DD : DataW Value} {dn : Value} {G : List Gd} (h : DkR w p M cnt bF bD DF DD dn G) : dn.ownBlock ≠ some p := by
  intro e
  obtain ⟨cur, hc⟩ := ownsRow_blk h.row e
  have hb : w.heap[p]? = _ := h.blk
  rw [hb] at hc
  cases hc
theorem DkR.below {w w' : World} {p : Nat} {M : Md} {cnt bF bD : Nat} {DF DD : DataW Value} {dn : Value} {G : List Gd} (h : DkR w p M cnt bF bD DF DD dn G) (hb : Below w.heap.size w w') : DkR w' p M cnt bF bD DF DD dn G := by
  have kt := KeepT.below hb
  obtain ⟨n, hn, hm⟩ := h.mF
  obtain ⟨n', hn', hm'⟩ := h.mD
  exact ⟨(hb.block p h.blk.lt).trans h.blk, ⟨n, hn, hm.keepT kt⟩, ⟨n', hn', hm'.keepT kt⟩, h.ne, h.hF, h.hD, h.liv.keepT kt, ownsRow_kept h.row (fun k hk => hb.block k (by obtain ⟨cur, hc⟩ := ownsRow_blk h.row hk; exact heap_lt hc)), h.done, fun g hg => (h.deed g hg).keepT kt, h.leb, h.cn⟩
/- a disk stays, where no block that it may write, and none that it looks at, turns: a frame of another's -/
def DkS (w : World) (p : Nat) (M : Md) (cnt : Nat) (F : Nat → Prop) : Prop := ∃ bF bD DF DD dn G, DkR w p M cnt bF bD DF DD dn G ∧ F = Ft p bF bD DF DD dn (G.map (·.z))
theorem DkS.below {w w' : World} {p : Nat} {M : Md} {cnt : Nat} {F : Nat → Prop} (h : DkS w p M cnt F) (hb : Below w.heap.size w w') : DkS w' p M cnt F := by
  obtain ⟨bF, bD, DF, DD, dn, G, h1, h2⟩ := h
  exact ⟨bF, bD, DF, DD, dn, G, h1.below hb, h2⟩
end Go.Proofs.YtkienmncifonnaaDoor
