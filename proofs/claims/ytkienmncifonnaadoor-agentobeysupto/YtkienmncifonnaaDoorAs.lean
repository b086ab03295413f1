/- An agent in memory, and what its calls leave alone. -/
import Derived.Test.YtkienmncifonnaaDoorAt
namespace Go.Proofs.YtkienmncifonnaaDoor
open Go.RowKit Go.Maps

structure Sg where
  a : Ag
  T : TM
  f : Nat
  d : Nat
  L : List Nat
  lf : Int
/- objects that an agent may write or looks at -/
def okA : Obj → Prop
  | .map _ _ => True
  | .cells _ t _ => t = 5 ∨ t = 9 ∨ t = 38 ∨ t = 77 ∨ t = 82 ∨ t = 132
  | _ => False
def KeepA (w w' : World) : Prop := w.heap.size ≤ w'.heap.size ∧ ∀ (k : Nat) (o : Obj), w.heap[k]? = some o → okA o → w'.heap[k]? = w.heap[k]?
theorem KeepA.refl (w : World) : KeepA w w := ⟨Nat.le_refl _, fun _ _ _ _ => rfl⟩
theorem KeepA.trans {a b c : World} (h : KeepA a b) (k : KeepA b c) : KeepA a c := ⟨Nat.le_trans h.1 k.1, fun i o hi ho => (k.2 i o ((h.2 i o hi ho).trans hi) ho).trans (h.2 i o hi ho)⟩
theorem KeepA.below {w w' : World} (h : Below w.heap.size w w') : KeepA w w' := ⟨h.size, fun k _ hk _ => h.block k (heap_lt hk)⟩
theorem KeepA.set (w : World) {b : Nat} {cs : Array Value} {t : TypeId} {fr : Nat × Nat} (h : w.heap[b]? = some (.cells cs t fr)) (ht : ¬ okA (.cells cs t fr)) (j : Nat) (u : Value) : KeepA w (w.setCell ⟨b, j, none⟩ u) := by
  refine ⟨by simp, fun k o hk ho => Below.heap_setCell w ⟨b, j, none⟩ u k (fun e => ?_)⟩
  subst e
  rw [h] at hk
  cases hk
  exact ht ho
theorem KeepA.keepT {w w' : World} (h : KeepA w w') : KeepT w w' := fun k o hk ho => h.2 k o hk (by
  cases o <;> try exact ho
  rcases ho with ⟨e | e | e, _⟩ <;> simp [okA, e])
/- what an agent's call leaves alone: all that is not of its kinds, and all below D -/
structure FrA (D : Nat) (w w' : World) : Prop where
  os : w'.os = w.os
  tape : w'.tape = w.tape
  output : w'.output = w.output
  size : w.heap.size ≤ w'.heap.size
  block : ∀ (k : Nat) (o : Obj), w.heap[k]? = some o → (¬ okA o ∨ k < D) → w'.heap[k]? = w.heap[k]?
variable {D : Nat}
theorem FrA.refl (w : World) : FrA D w w := ⟨rfl, rfl, rfl, Nat.le_refl _, fun _ _ _ _ => rfl⟩
theorem FrA.trans {a b c : World} (h : FrA D a b) (k : FrA D b c) : FrA D a c :=
  ⟨k.os.trans h.os, k.tape.trans h.tape, k.output.trans h.output, Nat.le_trans h.size k.size, fun i o hi ho => (k.block i o ((h.block i o hi ho).trans hi) ho).trans (h.block i o hi ho)⟩
theorem FrA.of_below {w w' : World} (h : Below w.heap.size w w') : FrA D w w' := ⟨h.os, h.tape, h.output, h.size, fun k _ hk _ => h.block k (heap_lt hk)⟩
theorem FrA.below {w w' : World} (h : FrA D w w') (hD : D ≤ w.heap.size) : Below D w w' := ⟨h.os, h.tape, h.output, h.size, fun k hk => (by
  have hl : k < w.heap.size := by omega
  exact h.block k _ (Array.getElem?_eq_getElem hl) (.inr hk))⟩
theorem FrA.cells {w w' : World} (h : FrA D w w') {k : Nat} {cs : Array Value} {t : TypeId} {fr : Nat × Nat} (hk : w.heap[k]? = some (.cells cs t fr)) (ht : ¬ (t = 5 ∨ t = 9 ∨ t = 38 ∨ t = 77 ∨ t = 82 ∨ t = 132)) : w'.heap[k]? = some (.cells cs t fr) := (h.block k _ hk (.inl ht)).trans hk
theorem FrA.of_fr {w w' : World} {F F' : Nat → Prop} (h : Fr w w' F F') (hF : ∀ k o, F k → w.heap[k]? = some o → okA o ∧ D ≤ k) : FrA D w w' := by
  refine ⟨h.os, h.tape, h.output, h.size, fun k o hk ho => h.block k (heap_lt hk) (fun e => ?_)⟩
  obtain ⟨h1, h2⟩ := hF k o e hk
  rcases ho with ho | ho
  · exact ho h1
  · omega
theorem FrA.setp {w : World} {p : Nat} {a : Ag} {pd : Nat} {mv : Value} (h : AgB w p a pd mv) (hp : D ≤ p) (j : Nat) (u : Value) : FrA D w (w.setCell ⟨p, j, none⟩ u) := by
  refine ⟨rfl, rfl, rfl, by simp, fun k o hk ho => Below.heap_setCell w ⟨p, j, none⟩ u k (fun e => ?_)⟩
  subst e
  have h' : w.heap[k]? = _ := h
  rw [h'] at hk
  cases hk
  rcases ho with ho | ho
  · exact ho (by simp [okA])
  · omega

theorem DkR.typ {w : World} {p : Nat} {M : Md} {cnt bF bD : Nat} {DF DD : DataW Value} {dn : Value} {G : List Gd} (h : DkR w p M cnt bF bD DF DD dn G) : ∀ k o, Ft p bF bD DF DD dn (G.map (·.z)) k → w.heap[k]? = some o → okA o := by
  have sl : ∀ {v : Value} {l : List UInt8} {k : Nat} {o : Obj}, SlR w v l → v.ownBlock = some k → w.heap[k]? = some o → okA o := fun {v l k o} hs hv hk => by
    rcases hs with ⟨rfl, _⟩ | ⟨g, cap, cur, rfl, hg, _⟩
    · cases hv
    · cases hv
      rw [hg] at hk
      cases hk
      exact .inl rfl
  intro k o hF hk
  rcases hF with rfl | rfl | rfl | e | ⟨s, n, e⟩ | ⟨z, hz, e⟩
  · have := h.blk
    have h' : w.heap[k]? = _ := this
    rw [h'] at hk; cases hk; simp [okA]
  · obtain ⟨n, _, hm⟩ := h.mF
    obtain ⟨es, c, hb⟩ := hm.obj
    rw [hb] at hk; cases hk; trivial
  · obtain ⟨n, _, hm⟩ := h.mD
    obtain ⟨es, c, hb⟩ := hm.obj
    rw [hb] at hk; cases hk; trivial
  · obtain ⟨cur, hc⟩ := ownsRow_blk h.row e
    rw [hc] at hk; cases hk; simp [okA]
  · exact sl (h.liv.r s n) e hk
  · obtain ⟨g, hg, rfl⟩ := List.mem_map.1 hz
    obtain ⟨l, hl⟩ := (h.deed g hg).z
    exact sl hl e hk
/- a disk stays, where all blocks stay but one that it does not look at -/
theorem DkR.one {w w' : World} {p : Nat} {M : Md} {cnt bF bD : Nat} {DF DD : DataW Value} {dn : Value} {G : List Gd} (h : DkR w p M cnt bF bD DF DD dn G) {b : Nat} (hw : ∀ k, k ≠ b → w'.heap[k]? = w.heap[k]?)
    (hb : ((∃ es c, w.heap[b]? = some (.map es c)) ∧ ¬ Ft p bF bD DF DD dn (G.map (·.z)) b) ∨ ∃ cs t fr, w.heap[b]? = some (.cells cs t fr) ∧ ¬ (t = 5 ∨ t = 9 ∨ t = 38 ∨ t = 82 ∨ t = 132)) : DkR w' p M cnt bF bD DF DD dn G := by
  have hc : ∀ {k : Nat} {cs : Array Value} {t : TypeId} {fr : Nat × Nat}, w.heap[k]? = some (.cells cs t fr) → (t = 5 ∨ t = 9 ∨ t = 38 ∨ t = 82 ∨ t = 132) → w'.heap[k]? = w.heap[k]? := fun {k cs t fr} hk ht => hw k (fun e => by
    subst e
    rcases hb with ⟨⟨es, c, h1⟩, _⟩ | ⟨cs', t', fr', h1, h2⟩
    · rw [h1] at hk; cases hk
    · rw [h1] at hk; cases hk; exact h2 ht)
  have hm : ∀ {k n : Nat} {Dm : DataW Value}, MapR w k n Dm → (k = bF ∨ k = bD) → MapR w' k n Dm := fun {k n Dm} hm hk => hm.kept (hw k (fun e => by
    subst e
    obtain ⟨es, c, h0⟩ := hm.obj
    rcases hb with ⟨_, h1⟩ | ⟨cs', t', fr', h1, _⟩
    · exact h1 (hk.elim (fun e => .inr (.inl e)) (fun e => .inr (.inr (.inl e))))
    · rw [h1] at h0; cases h0))
  have hs : ∀ {v : Value} {l : List UInt8}, SlR w v l → SlR w' v l := fun {v l} hs => hs.kept fun g hg => by
    rcases hs with ⟨rfl, _⟩ | ⟨g', cap, cur, rfl, hg', _⟩
    · cases hg
    · cases hg; exact hc hg' (.inl rfl)
  obtain ⟨n, hn, h1⟩ := h.mF
  obtain ⟨n', hn', h2⟩ := h.mD
  exact ⟨(hc h.blk (by simp)).trans h.blk, ⟨n, hn, hm h1 (.inl rfl)⟩, ⟨n', hn', hm h2 (.inr rfl)⟩, h.ne, h.hF, h.hD, ⟨fun s k => hs (h.liv.r s k), h.liv.sep, h.liv.kz⟩, ownsRow_kept h.row (fun k hk => by
    obtain ⟨cur, hcur⟩ := ownsRow_blk h.row hk
    exact hc hcur (by simp)), h.done, fun g hg => (h.deed g hg).kept (fun k cs t ht hk => hc hk (by rcases ht with rfl | rfl <;> simp)) (fun _ hl => hs hl), h.leb, h.cn⟩
theorem Bk.typ {w : World} {pd f d : Nat} {L : List Nat} {lf : Int} {c : Nat} {F : Nat → Prop} (h : Bk w pd f d L lf c F) : ∀ k o, F k → w.heap[k]? = some o → okA o := by
  obtain ⟨bF, bD, DF, DD, dn, G, h1, rfl, hz⟩ := h.k
  exact h1.typ
theorem Bk.lt {w : World} {pd f d : Nat} {L : List Nat} {lf : Int} {c : Nat} {F : Nat → Prop} (h : Bk w pd f d L lf c F) : ∀ k, F k → k < w.heap.size := by
  obtain ⟨bF, bD, DF, DD, dn, G, h1, rfl, hz⟩ := h.k
  exact h1.ftLt
theorem Bk.one {w w' : World} {pd f d : Nat} {L : List Nat} {lf : Int} {c : Nat} {F : Nat → Prop} (h : Bk w pd f d L lf c F) {b : Nat} (hw : ∀ k, k ≠ b → w'.heap[k]? = w.heap[k]?)
    (hb : ((∃ es c, w.heap[b]? = some (.map es c)) ∧ ¬ F b) ∨ ∃ cs t fr, w.heap[b]? = some (.cells cs t fr) ∧ ¬ (t = 5 ∨ t = 9 ∨ t = 38 ∨ t = 82 ∨ t = 132)) : Bk w' pd f d L lf c F := by
  obtain ⟨bF, bD, DF, DD, dn, G, h1, rfl, hz⟩ := h.k
  exact ⟨⟨bF, bD, DF, DD, dn, G, h1.one hw hb, rfl, hz⟩, h.hf, h.hd, h.hL, h.e⟩
theorem DkR.keepA {w w' : World} {p : Nat} {M : Md} {cnt bF bD : Nat} {DF DD : DataW Value} {dn : Value} {G : List Gd} (h : DkR w p M cnt bF bD DF DD dn G) (hk : KeepA w w') : DkR w' p M cnt bF bD DF DD dn G := by
  have kt := hk.keepT
  obtain ⟨n, hn, hm⟩ := h.mF
  obtain ⟨n', hn', hm'⟩ := h.mD
  exact ⟨(hk.2 p _ h.blk (by simp [okA])).trans h.blk, ⟨n, hn, hm.keepT kt⟩, ⟨n', hn', hm'.keepT kt⟩, h.ne, h.hF, h.hD, h.liv.keepT kt, ownsRow_kept h.row (fun k e => by
    obtain ⟨cur, hc⟩ := ownsRow_blk h.row e
    exact hk.2 k _ hc (by simp [okA])), h.done, fun g hg => (h.deed g hg).keepT kt, h.leb, h.cn⟩
theorem Bk.keepA {w w' : World} {pd f d : Nat} {L : List Nat} {lf : Int} {c : Nat} {F : Nat → Prop} (h : Bk w pd f d L lf c F) (hk : KeepA w w') : Bk w' pd f d L lf c F := by
  obtain ⟨bF, bD, DF, DD, dn, G, h1, rfl, hz⟩ := h.k
  exact ⟨⟨bF, bD, DF, DD, dn, G, h1.keepA hk, rfl, hz⟩, h.hf, h.hd, h.hL, h.e⟩

/- an agent at p: its block, its tasks, its disk at pd, whose blocks are G -/
structure AgR (D : Nat) (w : World) (p : Nat) (s : Sg) (n c pd : Nat) (mv : Value) (G : Nat → Prop) : Prop where
  b : AgB w p s.a pd mv
  t : TkR w mv n s.T
  k : Bk w pd s.f s.d s.L s.lf c G
  hp : D ≤ p
  hG : ∀ k, G k → D ≤ k
  hm : ∀ b, mv = .map (some b) → D ≤ b ∧ ¬ G b
  np : ¬ G p
def AgS (D : Nat) (w : World) (p : Nat) (s : Sg) (n c : Nat) : Prop := ∃ pd mv G, AgR D w p s n c pd mv G
variable {w w' : World} {p : Nat} {s : Sg} {n c pd : Nat} {mv : Value} {G : Nat → Prop}
theorem AgR.keepA (h : AgR D w p s n c pd mv G) (hk : KeepA w w') : AgR D w' p s n c pd mv G :=
  ⟨h.b.keep (hk.2 p _ h.b (by simp [okA])), h.t.kept (fun b e => by
    have ht := h.t
    rw [e] at ht
    obtain ⟨es, cl, ho⟩ := ht.obj
    exact hk.2 b _ ho trivial), h.k.keepA hk, h.hp, h.hG, h.hm, h.np⟩
theorem AgS.keepA (h : AgS D w p s n c) (hk : KeepA w w') : AgS D w' p s n c := by
  obtain ⟨pd, mv, G, h⟩ := h
  exact ⟨pd, mv, G, h.keepA hk⟩
theorem AgR.below (h : AgR D w p s n c pd mv G) (hb : Below w.heap.size w w') : AgR D w' p s n c pd mv G := h.keepA (.below hb)
theorem AgR.more (h : AgR D w p s n c pd mv G) {c' : Nat} (hc : c ≤ c') (hc2 : c' ≤ 4398046511104) : AgR D w p s n c' pd mv G := by
  obtain ⟨bF, bD, DF, DD, dn, G', h1, h2, h3⟩ := h.k.k
  obtain ⟨nF, hn, hm⟩ := h1.mF
  obtain ⟨nD, hn', hm'⟩ := h1.mD
  exact ⟨h.b, h.t, ⟨⟨bF, bD, DF, DD, dn, G', ⟨h1.blk, ⟨nF, by omega, hm⟩, ⟨nD, by omega, hm'⟩, h1.ne, h1.hF, h1.hD, h1.liv, h1.row, h1.done, h1.deed, h1.leb, hc2⟩, h2, h3⟩, h.k.hf, h.k.hd, h.k.hL, h.k.e⟩, h.hp, h.hG, h.hm, h.np⟩
theorem AgR.neMap (h : AgR D w p s n c pd mv G) : mv ≠ .map (some p) := fun e => by
  have ht := h.t
  rw [e] at ht
  obtain ⟨es, cl, ho⟩ := ht.obj
  have hb : w.heap[p]? = _ := h.b
  rw [hb] at ho; cases ho
/- a cell of its own block is written -/
theorem AgR.set (h : AgR D w p s n c pd mv G) {s' : Sg} {mv' : Value} {n' : Nat} (j : Nat) (u : Value) (e : (agC s.a pd mv).setIfInBounds j u = agC s'.a pd mv') (e2 : s'.f = s.f ∧ s'.d = s.d ∧ s'.L = s.L ∧ s'.lf = s.lf)
    (ht : TkR (w.setCell ⟨p, j, none⟩ u) mv' n' s'.T) (hm : ∀ b, mv' = .map (some b) → D ≤ b ∧ ¬ G b) : AgR D (w.setCell ⟨p, j, none⟩ u) p s' n' c pd mv' G := by
  obtain ⟨e2, e3, e4, e5⟩ := e2
  refine ⟨h.b.set j u e, ht, ?_, h.hp, h.hG, hm, h.np⟩
  rw [e2, e3, e4, e5]
  exact h.k.one (b := p) (fun k hk => Below.heap_setCell w ⟨p, j, none⟩ u k hk) (.inr ⟨_, _, _, h.b, by decide⟩)
theorem AgR.set1 (h : AgR D w p s n c pd mv G) {a' : Ag} (j : Nat) (u : Value) (e : (agC s.a pd mv).setIfInBounds j u = agC a' pd mv) : AgR D (w.setCell ⟨p, j, none⟩ u) p { s with a := a' } n c pd mv G :=
  h.set j u e ⟨rfl, rfl, rfl, rfl⟩ (h.t.kept fun b hb => Below.heap_setCell w ⟨p, j, none⟩ u b (fun e => h.neMap (by rw [hb, e]))) h.hm
/- its disk did something -/
theorem AgR.disk (h : AgR D w p s n c pd mv G) {f d c' : Nat} {L : List Nat} {lf : Int} {G' : Nat → Prop} (hk : Bk w' pd f d L lf c' G') (hf : Fr w w' G G') : AgR D w' p { s with f := f, d := d, L := L, lf := lf } n c' pd mv G' ∧ FrA D w w' := by
  have hsz : D ≤ w.heap.size := Nat.le_trans h.hp (Nat.le_of_lt h.b.lt)
  refine ⟨⟨h.b.keep (hf.block p h.b.lt h.np), h.t.kept (fun b e => ?_), hk, h.hp, fun k hk => ?_, fun b e => ⟨(h.hm b e).1, fun hb => ?_⟩, fun hb => ?_⟩, FrA.of_fr hf (fun k o hk ho => ⟨h.k.typ k o hk ho, h.hG k hk⟩)⟩
  · have ht := h.t
    rw [e] at ht
    exact hf.block b ht.lt (h.hm b e).2
  · rcases hf.foot k hk with e | e
    · exact h.hG k e
    · omega
  · have ht := h.t
    rw [e] at ht
    have := ht.lt
    rcases hf.foot b hb with e | e
    · exact (h.hm _ ‹_›).2 e
    · omega
  · rcases hf.foot p hb with e | e
    · exact h.np e
    · have := h.b.lt; omega
end Go.Proofs.YtkienmncifonnaaDoor
