/- Whatever is looked for in any store is found where the document says. -/
import Derived.Test.YtblofbdncolikaaSl
import Derived.Test.YtblofbdncolikaaLk
import Derived.Test.YtblofbdncolikaaRk
import Derived.Deep.Cut
import Derived.Deep.RegionHeld3
namespace Go.Proofs.Ytblofbdncolikaa
open Go.RowKit Go.Shelf
attribute [local go_sem] Oper.semAt_some
theorem box_new2 {w w1 : World} {o : Obj} {cs : List Value} {t : TypeId} (h : Below ((w.alloc o).alloc (.cells cs.toArray t)).heap.size ((w.alloc o).alloc (.cells cs.toArray t)) w1) : w1.rangeAt (w.heap.size + 1) 0 cs := by
 have := box_new h
 rwa [World.size_alloc] at this
theorem two_boxes {w w1 : World} {cs ds : List Value} {t u : TypeId} (h : Below ((w.alloc (.cells cs.toArray t)).alloc (.cells ds.toArray u)).heap.size ((w.alloc (.cells cs.toArray t)).alloc (.cells ds.toArray u)) w1) : w1.rangeAt w.heap.size 0 cs ∧ w1.rangeAt (w.heap.size + 1) 0 ds ∧ Below w.heap.size w w1 ∧ w.heap.size + 1 < w1.heap.size := by
 have h1 : Below (w.alloc (.cells cs.toArray t)).heap.size (w.alloc (.cells cs.toArray t)) w1 := (below1 (w.alloc (.cells cs.toArray t)) (.cells ds.toArray u)).trans (h.mono (by simp))
 have hs := h.size
 simp only [World.size_alloc] at hs
 exact ⟨box_new h1, box_new2 h, (below2 w _ _).trans (h.mono (by simp only [World.size_alloc]; omega)), by omega⟩
structure FdS (w W : World) (st ak : List Value) : Prop where
 s : W.rangeAt w.heap.size 0 st
 a : W.rangeAt (w.heap.size + 1) 0 ak
 b : Below w.heap.size w W
 l : w.heap.size + 1 < W.heap.size
theorem FdS.grow {w W W' : World} {st ak : List Value} (h : FdS w W st ak) (hb : Below W.heap.size W W') : FdS w W' st ak :=
 ⟨range_of h.s (hb.block _ (by have := h.l; omega)), range_of h.a (hb.block _ h.l), h.b.trans (hb.mono h.b.size), Nat.lt_of_lt_of_le h.l hb.size⟩
theorem FdS.drew {w W : World} {st ak : List Value} (h : FdS w W st ak) : FdS w W.drew st ak := h.grow (bdrew W)
theorem FdS.begin (w : World) (st ak : List Value) (t u : TypeId) : FdS w ((w.alloc (.cells st.toArray t)).alloc (.cells ak.toArray u)) st ak := by
 obtain ⟨h1, h2, h3, h4⟩ := two_boxes (cs := st) (ds := ak) (t := t) (u := u) (w := w) (Below.refl _ _)
 exact ⟨h1, h2, h3, h4⟩
theorem alloc_at {w : World} {k : Nat} {o : Obj} (h : w.heap[k]? = some o) (o' : Obj) : (w.alloc o').heap[k]? = some o := (Below.heap_alloc w o' k (heap_lt h)).trans h
theorem row_range {w : World} {b o : Nat} {cur : Array Value} {t : TypeId} (h : w.heap[b]? = some (.cells cur t (0, 0))) {cs : List Value} (hc : ∀ j v, cs[j]? = some v → cur[o + j]? = some v) : w.rangeAt b o cs := fun j v hj => by
 rw [cell_of_row w b _ cur t (0, 0) h]; exact hc j v hj
theorem six (w : World) (a b c d e f : Obj) : ((((((w.alloc a).alloc b).alloc c).alloc d).alloc e).alloc f).heap[w.heap.size]? = some a ∧ ((((((w.alloc a).alloc b).alloc c).alloc d).alloc e).alloc f).heap[w.heap.size + 1 + 1 + 1]? = some d ∧ ((((((w.alloc a).alloc b).alloc c).alloc d).alloc e).alloc f).heap[w.heap.size + 1 + 1 + 1 + 1]? = some e ∧ ((((((w.alloc a).alloc b).alloc c).alloc d).alloc e).alloc f).heap[w.heap.size + 1 + 1 + 1 + 1 + 1]? = some f := by
 have h4 := heap_alloc_new (((w.alloc a).alloc b).alloc c) d
 have h5 := heap_alloc_new ((((w.alloc a).alloc b).alloc c).alloc d) e
 have h6 := heap_alloc_new (((((w.alloc a).alloc b).alloc c).alloc d).alloc e) f
 simp only [World.size_alloc] at h4 h5 h6
 exact ⟨alloc_at (alloc_at (alloc_at (alloc_at (alloc_at (heap_alloc_new w a) _) _) _) _) _, alloc_at (alloc_at h4 _) _, alloc_at h5 _, h6⟩
/- the lists of a store, shallow -/
structure StF (w : World) (S : Nat → Prop) (s : Sc) (J B : List Js) (Nn : List Nd) (A : List Al) (E D : List Qd) (X : List Ss) : Prop where
 n2 : s.n2 = J.length
 n3 : s.n3 = B.length
 n4 : s.n4 = Nn.length
 n5 : s.n5 = A.length
 n6 : s.n6 = E.length
 n7 : s.n7 = D.length
 n8 : s.n8 = X.length
 f2 : Fl w S 7 72 Js.cs s.a2 J
 f3 : Fl w S 7 72 Js.cs s.a3 B
 f4 : Fl w S 8 56 Nd.cs s.a4 Nn
 f5 : Fl w S 11 88 Al.cs s.a5 A
 f6 : Fl w S 4 32 Qd.cs s.a6 E
 f7 : Fl w S 4 32 Qd.cs s.a7 D
 f8 : Fl w S 5 56 Ss.cs s.a8 X
theorem StF.kept {w w' : World} {S S' : Nat → Prop} {s : Sc} {J B : List Js} {Nn : List Nd} {A : List Al} {E D : List Qd} {X : List Ss} (h : StF w S s J B Nn A E D X) (hb : ∀ b, S b → w'.heap[b]? = w.heap[b]?) (hm : ∀ b, S b → S' b) : StF w' S' s J B Nn A E D X :=
 ⟨h.n2, h.n3, h.n4, h.n5, h.n6, h.n7, h.n8, h.f2.kept hb hm, h.f3.kept hb hm, h.f4.kept hb hm, h.f5.kept hb hm, h.f6.kept hb hm, h.f7.kept hb hm, h.f8.kept hb hm⟩
theorem StF.up {w w' : World} {s : Sc} {J B : List Js} {Nn : List Nd} {A : List Al} {E D : List Qd} {X : List Ss} (h : StF w (fun b => b < w.heap.size) s J B Nn A E D X) (hb : Below w.heap.size w w') : StF w' (fun b => b < w'.heap.size) s J B Nn A E D X :=
 h.kept (fun b hb' => hb.block b hb') (fun _ hb' => Nat.lt_of_lt_of_le hb' hb.size)
end Go.Proofs.Ytblofbdncolikaa
