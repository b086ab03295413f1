/- The records of a store as values, and where they lie. -/
import Derived.Test.YtblofbdncolikaaProg
import Derived.WalkKit
import Derived.WalkSpells
import Derived.WalkLawsBesides
import Derived.Deep.AppendSrc
import Derived.Deep.MidRow
import Derived.Laws.AppendOwn
import Derived.OwnWalk
import Derived.KernelRfl
namespace Go.Proofs.Ytblofbdncolikaa
open Go.RowKit

structure Gp where
 n : Int
 c : Int
 m : Int
 deriving DecidableEq
def Gp.cs (x : Gp) : List Value := [.int .i64 x.n, .int .i64 x.c, .int .i64 x.m]
theorem Gp.len (x : Gp) : x.cs.length = 3 := rfl
theorem Gp.one (x : Gp) : ∀ u ∈ x.cs, u.oneCell' = true := by intro u hu; simp only [Gp.cs, List.mem_cons, List.not_mem_nil, or_false] at hu; rcases hu with rfl | rfl | rfl <;> rfl
instance : Inhabited Gp := ⟨⟨0, 0, 0⟩⟩
structure Js where
 id : Int
 ty : Int
 pr : Int
 pa : Int
 ga : Option Addr
 gl : Nat
 gc : Nat
 ve : Int
 sd : Bool

def Js.cs (x : Js) : List Value := [.int .i64 x.id, .int .i64 x.ty, .int .i64 x.pr, .int .i64 x.pa, .slice x.ga x.gl x.gc, .int .i64 x.ve, .bool x.sd]
theorem Js.len (x : Js) : x.cs.length = 7 := rfl
theorem Js.one (x : Js) : ∀ u ∈ x.cs, u.oneCell' = true := by intro u hu; simp only [Js.cs, List.mem_cons, List.not_mem_nil, or_false] at hu; rcases hu with rfl | rfl | rfl | rfl | rfl | rfl | rfl <;> rfl
instance : Inhabited Js := ⟨⟨0, 0, 0, 0, none, 0, 0, 0, false⟩⟩
structure Nd where
 id : Int
 c : Int
 m : Int
 up : Bool
 dr : Bool
 bo : Int
 ep : Int
 se : Int
 deriving DecidableEq
def Nd.cs (x : Nd) : List Value := [.int .i64 x.id, .int .i64 x.c, .int .i64 x.m, .bool x.up, .bool x.dr, .int .i64 x.bo, .int .i64 x.ep, .int .i64 x.se]
theorem Nd.len (x : Nd) : x.cs.length = 8 := rfl
theorem Nd.one (x : Nd) : ∀ u ∈ x.cs, u.oneCell' = true := by intro u hu; simp only [Nd.cs, List.mem_cons, List.not_mem_nil, or_false] at hu; rcases hu with rfl | rfl | rfl | rfl | rfl | rfl | rfl | rfl <;> rfl
instance : Inhabited Nd := ⟨⟨0, 0, 0, false, false, 0, 0, 0⟩⟩
structure Al where
 id : Int
 jb : Int
 ve : Int
 gr : Int
 ix : Int
 nd : Int
 ep : Int
 c : Int
 m : Int
 sp : Bool
 st : Int
 deriving DecidableEq
def Al.cs (x : Al) : List Value := [.int .i64 x.id, .int .i64 x.jb, .int .i64 x.ve, .int .i64 x.gr, .int .i64 x.ix, .int .i64 x.nd, .int .i64 x.ep, .int .i64 x.c, .int .i64 x.m, .bool x.sp, .int .i64 x.st]
theorem Al.len (x : Al) : x.cs.length = 11 := rfl
theorem Al.one (x : Al) : ∀ u ∈ x.cs, u.oneCell' = true := by intro u hu; simp only [Al.cs, List.mem_cons, List.not_mem_nil, or_false] at hu; rcases hu with rfl | rfl | rfl | rfl | rfl | rfl | rfl | rfl | rfl | rfl | rfl <;> rfl
instance : Inhabited Al := ⟨⟨0, 0, 0, 0, 0, 0, 0, 0, 0, false, 0⟩⟩
structure Qd where
 a : Int
 b : Int
 c : Int
 d : Int
 deriving DecidableEq
def Qd.cs (x : Qd) : List Value := [.int .i64 x.a, .int .i64 x.b, .int .i64 x.c, .int .i64 x.d]
theorem Qd.len (x : Qd) : x.cs.length = 4 := rfl
theorem Qd.one (x : Qd) : ∀ u ∈ x.cs, u.oneCell' = true := by intro u hu; simp only [Qd.cs, List.mem_cons, List.not_mem_nil, or_false] at hu; rcases hu with rfl | rfl | rfl | rfl <;> rfl
instance : Inhabited Qd := ⟨⟨0, 0, 0, 0⟩⟩
structure Sc where
 ix : Int
 nx : Int
 a2 : Option Addr
 n2 : Nat
 c2 : Nat
 a3 : Option Addr
 n3 : Nat
 c3 : Nat
 a4 : Option Addr
 n4 : Nat
 c4 : Nat
 a5 : Option Addr
 n5 : Nat
 c5 : Nat
 a6 : Option Addr
 n6 : Nat
 c6 : Nat
 a7 : Option Addr
 n7 : Nat
 c7 : Nat
 a8 : Option Addr
 n8 : Nat
 c8 : Nat

def Sc.cs (x : Sc) : List Value := [.int .i64 x.ix, .int .i64 x.nx, .slice x.a2 x.n2 x.c2, .slice x.a3 x.n3 x.c3, .slice x.a4 x.n4 x.c4, .slice x.a5 x.n5 x.c5, .slice x.a6 x.n6 x.c6, .slice x.a7 x.n7 x.c7, .slice x.a8 x.n8 x.c8]
theorem Sc.len (x : Sc) : x.cs.length = 9 := rfl
theorem Sc.one (x : Sc) : ∀ u ∈ x.cs, u.oneCell' = true := by intro u hu; simp only [Sc.cs, List.mem_cons, List.not_mem_nil, or_false] at hu; rcases hu with rfl | rfl | rfl | rfl | rfl | rfl | rfl | rfl | rfl <;> rfl
instance : Inhabited Sc := ⟨⟨0, 0, none, 0, 0, none, 0, 0, none, 0, 0, none, 0, 0, none, 0, 0, none, 0, 0, none, 0, 0⟩⟩
structure Ss where
 cl : Int
 rq : Int
 co : Int
 va : Int
 aa : Option Addr
 al : Nat
 ac : Nat

def Ss.cs (x : Ss) : List Value := [.int .i64 x.cl, .int .i64 x.rq, .int .i64 x.co, .int .i64 x.va, .slice x.aa x.al x.ac]
theorem Ss.len (x : Ss) : x.cs.length = 5 := rfl
theorem Ss.one (x : Ss) : ∀ u ∈ x.cs, u.oneCell' = true := by intro u hu; simp only [Ss.cs, List.mem_cons, List.not_mem_nil, or_false] at hu; rcases hu with rfl | rfl | rfl | rfl | rfl <;> rfl
instance : Inhabited Ss := ⟨⟨0, 0, 0, 0, none, 0, 0⟩⟩
theorem hidOf {p : Prop} (h : p) : Hid p := h
theorem heap_lt {w : World} {k : Nat} {o : Obj} (h : w.heap[k]? = some o) : k < w.heap.size := (Array.getElem?_eq_some_iff.1 h).1
theorem below1 (w : World) (a : Obj) : Below w.heap.size w (w.alloc a) := (Below.refl _ w).alloc (Nat.le_refl _) _
theorem below2 (w : World) (a b : Obj) : Below w.heap.size w ((w.alloc a).alloc b) := ((Below.refl _ w).alloc (Nat.le_refl _) _).alloc (by simp) _
theorem bdrew (w : World) : Below w.heap.size w w.drew := ⟨rfl, rfl, rfl, Nat.le_refl _, fun _ _ => rfl⟩
theorem bdrewN (w : World) (n : Nat) : Below w.heap.size w (w.drewN n) := ⟨rfl, rfl, rfl, Nat.le_refl _, fun _ _ => rfl⟩
theorem range_of {w w' : World} {b o : Nat} {cs : List Value} (h : w.rangeAt b o cs) (hb : w'.heap[b]? = w.heap[b]?) : w'.rangeAt b o cs := fun j v hj => (World.cell?_of_block (w := w) hb).trans (h j v hj)
theorem bgrown {A B : World} (h : Below A.heap.size A B) : A.grownBy B none := ⟨h.os, h.tape, h.output, h.size, fun k hk _ => h.block k hk⟩
/- a list of records behind an address; its block is in S -/
structure Fl {α : Type} (w : World) (S : Nat → Prop) (k y : Nat) (cs : α → List Value) (a : Option Addr) (L : List α) : Prop where
 bd : L.length * y ≤ 140737488355328
 pl : L ≠ [] → ∃ b off, a = some ⟨b, off, none⟩ ∧ S b ∧ ∀ i (h : i < L.length), w.rangeAt b (off + i * k) (cs L[i])
theorem Fl.kept {α : Type} {w w' : World} {S S' : Nat → Prop} {k y : Nat} {cs : α → List Value} {a : Option Addr} {L : List α} (h : Fl w S k y cs a L) (hb : ∀ b, S b → w'.heap[b]? = w.heap[b]?) (hm : ∀ b, S b → S' b) : Fl w' S' k y cs a L := by
 refine ⟨h.bd, fun hne => ?_⟩
 obtain ⟨b, off, rfl, hS, hc⟩ := h.pl hne
 exact ⟨b, off, rfl, hm b hS, fun i hi => range_of (hc i hi) (hb b hS)⟩
theorem Fl.at {α : Type} {w : World} {S : Nat → Prop} {k y : Nat} {cs : α → List Value} {a : Option Addr} {L : List α} (h : Fl w S k y cs a L) (i : Nat) (hi : i < L.length) : ∃ b off, a = some ⟨b, off, none⟩ ∧ S b ∧ w.rangeAt b (off + i * k) (cs L[i]) := by
 obtain ⟨b, off, e, hS, hc⟩ := h.pl (fun e => by subst e; simp at hi)
 exact ⟨b, off, e, hS, hc i hi⟩
theorem Fl.nil {α : Type} (w : World) (S : Nat → Prop) (k y : Nat) (cs : α → List Value) (a : Option Addr) : Fl w S k y cs a [] := ⟨by simp, fun h => absurd rfl h⟩
/- the world is grown, and these blocks stay -/
structure Kq (Q : Nat → Prop) (w w' : World) : Prop where
 size : w.heap.size ≤ w'.heap.size
 block : ∀ k, Q k → w'.heap[k]? = w.heap[k]?
theorem Kq.refl (Q : Nat → Prop) (w : World) : Kq Q w w := ⟨Nat.le_refl _, fun _ _ => rfl⟩
theorem Kq.trans {Q : Nat → Prop} {a b c : World} (h : Kq Q a b) (k : Kq Q b c) : Kq Q a c := ⟨Nat.le_trans h.size k.size, fun i hi => (k.block i hi).trans (h.block i hi)⟩
theorem Kq.bel {Q : Nat → Prop} {w w' : World} (h : Below w.heap.size w w') (hQ : ∀ k, Q k → k < w.heap.size) : Kq Q w w' := ⟨h.size, fun k hk => h.block k (hQ k hk)⟩
theorem Kq.cell {Q : Nat → Prop} {w w' : World} (h : Kq Q w w') {b : Nat} (hb : Q b) (o : Nat) : w'.cell? ⟨b, o, none⟩ = w.cell? ⟨b, o, none⟩ := World.cell?_of_block (h.block b hb)
theorem Kq.fl {Q : Nat → Prop} {w w' : World} (h : Kq Q w w') {α : Type} {k y : Nat} {cs : α → List Value} {a : Option Addr} {L : List α} (hL : Fl w Q k y cs a L) : Fl w' Q k y cs a L := hL.kept h.block (fun _ x => x)
/- those of the first k that are looked for, with their places -/
def sel {α : Type} [Inhabited α] (P : α → Bool) (L : List α) : Nat → List (Nat × α)
 | 0 => []
 | k + 1 => sel P L k ++ (if P (L[k]?.getD default) = true then [(k, L[k]?.getD default)] else [])
theorem sel_len {α : Type} [Inhabited α] (P : α → Bool) (L : List α) (k : Nat) : (sel P L k).length ≤ k := by
 induction k with
 | zero => simp [sel]
 | succ k ih => rw [sel, List.length_append]; split <;> simp <;> omega
theorem sel_yes {α : Type} [Inhabited α] {P : α → Bool} {L : List α} {k : Nat} (h : P (L[k]?.getD default) = true) : sel P L (k + 1) = sel P L k ++ [(k, L[k]?.getD default)] := by rw [sel, if_pos h]
theorem sel_no {α : Type} [Inhabited α] {P : α → Bool} {L : List α} {k : Nat} (h : P (L[k]?.getD default) = false) : sel P L (k + 1) = sel P L k := by rw [sel, if_neg (by rw [h]; simp), List.append_nil]
theorem sel_pre {α : Type} [Inhabited α] (P : α → Bool) (L : List α) (k d : Nat) : ∃ r, sel P L (k + d) = sel P L k ++ r := by
 induction d with
 | zero => exact ⟨[], by simp⟩
 | succ d ih =>
  obtain ⟨r, hr⟩ := ih
  exact ⟨r ++ _, by rw [← Nat.add_assoc, sel, hr, List.append_assoc]⟩
theorem sel_le {α : Type} [Inhabited α] (P : α → Bool) (L : List α) {k n : Nat} (h : k ≤ n) : ∃ r, sel P L n = sel P L k ++ r := by
 obtain ⟨r, hr⟩ := sel_pre P L k (n - k)
 rw [show k + (n - k) = n by omega] at hr
 exact ⟨r, hr⟩
/- the place of the first that is looked for -/
def fi {α : Type} [Inhabited α] (P : α → Bool) (L : List α) : Int := match sel P L L.length with
 | [] => -1
 | x :: _ => (x.1 : Int)
theorem fi_nil {α : Type} [Inhabited α] {P : α → Bool} {L : List α} (h : sel P L L.length = []) : fi P L = -1 := by rw [fi, h]
theorem fi_hit {α : Type} [Inhabited α] {P : α → Bool} {L : List α} {k : Nat} {x : Nat × α} (hk : k ≤ L.length) (h : sel P L k = [x]) : fi P L = x.1 := by
 obtain ⟨r, hr⟩ := sel_le P L hk
 rw [fi, hr, h]; rfl
theorem getD_at {α : Type} [Inhabited α] (L : List α) (k : Nat) (h : k < L.length) : L[k]?.getD default = L[k] := by simp [h]
def isI (a b : Int) : Bool := decide (a = b)
theorem isI_true {a b : Int} (h : a = b) : isI a b = true := by simp [isI, h]
theorem isI_false {a b : Int} (h : ¬ a = b) : isI a b = false := by simp [isI, h]
theorem hb_cell {B : Nat} {w w' : World} (h : Below B w w') {b o : Nat} (hb : b < B) : w'.cell? ⟨b, o, none⟩ = w.cell? ⟨b, o, none⟩ := h.cell (p := ⟨b, o, none⟩) hb
theorem box_new {wr w1 : World} {cs : List Value} {t : TypeId} (h : Below (wr.alloc (.cells cs.toArray t)).heap.size (wr.alloc (.cells cs.toArray t)) w1) : w1.rangeAt wr.heap.size 0 cs := by
 intro j v hj
 rw [hb_cell h (by simp), cell_of_row _ wr.heap.size _ cs.toArray t (0, 0) (heap_alloc_new wr _), Nat.zero_add]
 simpa using hj

end Go.Proofs.Ytblofbdncolikaa
