/- A store, whole: its records with what they hold. -/
import Derived.Test.YtblofbdncolikaaLf
namespace Go.Proofs.Ytblofbdncolikaa
open Go.RowKit
structure Sn where
 cl : Int
 rq : Int
 co : Int
 va : Int
 al : List Al
 deriving DecidableEq
instance : Inhabited Sn := ⟨⟨0, 0, 0, 0, []⟩⟩
def Sn.sh (d : Sn) (a : Option Addr) (c : Nat) : Ss := ⟨d.cl, d.rq, d.co, d.va, a, d.al.length, c⟩
structure SnR (w : World) (S : Nat → Prop) (a : Option Addr) (Ls : List Ss) (L : List Sn) : Prop where
 len : Ls.length = L.length
 row : Fl w S 5 56 Ss.cs a Ls
 dp : ∀ i (h1 : i < Ls.length) (h2 : i < L.length), ∃ ga gc, Ls[i] = L[i].sh ga gc ∧ Fl w S 11 88 Al.cs ga L[i].al
theorem SnR.kept {w w' : World} {S S' : Nat → Prop} {a : Option Addr} {Ls : List Ss} {L : List Sn} (h : SnR w S a Ls L) (hb : ∀ b, S b → w'.heap[b]? = w.heap[b]?) (hm : ∀ b, S b → S' b) : SnR w' S' a Ls L :=
 ⟨h.len, h.row.kept hb hm, fun i h1 h2 => by obtain ⟨ga, gc, e, f⟩ := h.dp i h1 h2; exact ⟨ga, gc, e, f.kept hb hm⟩⟩
/- a store, whole -/
structure St where
 ix : Int
 nx : Int
 jobs : List Jb
 stab : List Jb
 nodes : List Nd
 allocs : List Al
 evals : List Qd
 deps : List Qd
 seen : List Sn
 deriving DecidableEq
structure StR (w : World) (S : Nat → Prop) (s : Sc) (J B : List Js) (X : List Ss) (d : St) : Prop where
 ix : s.ix = d.ix
 nx : s.nx = d.nx
 f : StF w S s J B d.nodes d.allocs d.evals d.deps X
 j : JbR w S s.a2 J d.jobs
 b : JbR w S s.a3 B d.stab
 x : SnR w S s.a8 X d.seen
theorem StR.kept {w w' : World} {S S' : Nat → Prop} {s : Sc} {J B : List Js} {X : List Ss} {d : St} (h : StR w S s J B X d) (hb : ∀ b, S b → w'.heap[b]? = w.heap[b]?) (hm : ∀ b, S b → S' b) : StR w' S' s J B X d :=
 ⟨h.ix, h.nx, h.f.kept hb hm, h.j.kept hb hm, h.b.kept hb hm, h.x.kept hb hm⟩
theorem StR.up {w w' : World} {s : Sc} {J B : List Js} {X : List Ss} {d : St} (h : StR w (fun b => b < w.heap.size) s J B X d) (hb : Below w.heap.size w w') : StR w' (fun b => b < w'.heap.size) s J B X d :=
 h.kept (fun b hb' => hb.block b hb') (fun _ hb' => Nat.lt_of_lt_of_le hb' hb.size)
end Go.Proofs.Ytblofbdncolikaa
