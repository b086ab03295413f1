/- How many slots of a job there are and run, of the code. -/
import Derived.Test.YtblofbdncolikaaLk
namespace Go.Proofs.Ytblofbdncolikaa
open Go.RowKit Go.Shelf
attribute [local go_sem] Oper.semAt_some
structure Jb where
 id : Int
 ty : Int
 pr : Int
 pa : Int
 gs : List Gp
 ve : Int
 sd : Bool
 deriving DecidableEq
instance : Inhabited Jb := ⟨⟨0, 0, 0, 0, [], 0, false⟩⟩
def Jb.sh (d : Jb) (a : Option Addr) (c : Nat) : Js := ⟨d.id, d.ty, d.pr, d.pa, a, d.gs.length, c, d.ve, d.sd⟩
/- jobs with their groups -/
structure JbR (w : World) (S : Nat → Prop) (a : Option Addr) (Ls : List Js) (L : List Jb) : Prop where
 len : Ls.length = L.length
 row : Fl w S 7 72 Js.cs a Ls
 dp : ∀ i (h1 : i < Ls.length) (h2 : i < L.length), ∃ ga gc, Ls[i] = L[i].sh ga gc ∧ Fl w S 3 24 Gp.cs ga L[i].gs
theorem JbR.kept {w w' : World} {S S' : Nat → Prop} {a : Option Addr} {Ls : List Js} {L : List Jb} (h : JbR w S a Ls L) (hb : ∀ b, S b → w'.heap[b]? = w.heap[b]?) (hm : ∀ b, S b → S' b) : JbR w' S' a Ls L :=
 ⟨h.len, h.row.kept hb hm, fun i h1 h2 => by obtain ⟨ga, gc, e, f⟩ := h.dp i h1 h2; exact ⟨ga, gc, e, f.kept hb hm⟩⟩
theorem sel_idx {α β : Type} [Inhabited α] [Inhabited β] {P : α → Bool} {Q : β → Bool} {L : List α} {M : List β} (k : Nat) (h : ∀ i, i < k → P (L[i]?.getD default) = Q (M[i]?.getD default)) : (sel P L k).map (·.1) = (sel Q M k).map (·.1) := by
 induction k with
 | zero => rfl
 | succ k ih =>
  rw [sel, sel, List.map_append, List.map_append, ih (fun i hi => h i (by omega)), h k (by omega)]
  congr 1
  split <;> rfl
theorem fi_map {α : Type} [Inhabited α] (P : α → Bool) (L : List α) : fi P L = (((sel P L L.length).map (·.1)).head?.map (fun n : Nat => (n : Int))).getD (-1) := by
 unfold fi
 cases sel P L L.length <;> rfl
theorem JbR.fi {w : World} {S : Nat → Prop} {a : Option Addr} {Ls : List Js} {L : List Jb} (h : JbR w S a Ls L) (id : Int) : fi (fun x : Js => isI x.id id) Ls = fi (fun x : Jb => isI x.id id) L := by
 rw [fi_map, fi_map, h.len]
 have key : (sel (fun x : Js => isI x.id id) Ls L.length).map (·.1) = (sel (fun x : Jb => isI x.id id) L L.length).map (·.1) := sel_idx L.length (fun i hi => ?_)
 ·rw [key]
 have h1 : i < Ls.length := by rw [h.len]; exact hi
 obtain ⟨ga, gc, e, _⟩ := h.dp i h1 hi
 rw [getD_at Ls i h1, getD_at L i hi, e]
 rfl
end Go.Proofs.Ytblofbdncolikaa
