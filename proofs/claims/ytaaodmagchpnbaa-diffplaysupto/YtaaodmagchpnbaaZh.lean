/- A store of one's own, as far as Diff looks at it: cells written. -/
import Derived.Test.YtaaodmagchpnbaaRc
import Derived.Test.YtaaodmagchpnbaaZg
namespace Go.Proofs.Ytaaodmagchpnbaa
open Go.RowKit Go.Shelf
theorem fl_set {α : Type} {cs : α → List Value} {k : Nat} (hk : ∀ x, (cs x).length = k) (L : List α) (i : Nat) (hi : i < L.length) (j : Nat) (hj : j < k) (v : Value) (x' : α) (hx : cs x' = (cs L[i]).set j v) : (fl cs L).set (i * k + j) v = fl cs (L.set i x') := by
  induction L generalizing i with
  | nil => simp at hi
  | cons y L ih =>
    cases i with
    | zero =>
      simp only [List.getElem_cons_zero] at hx
      simp only [fl, List.map_cons, List.flatten_cons, List.set_cons_zero, Nat.zero_mul, Nat.zero_add]
      rw [List.set_append_left _ _ (by rw [hk]; exact hj), hx]
    | succ i =>
      have := ih i (by simpa using hi) (by simpa using hx)
      simp only [fl, List.map_cons, List.flatten_cons, List.set_cons_succ] at this ⊢
      rw [List.set_append_right _ _ (by rw [hk, Nat.add_mul]; omega), hk, show (i + 1) * k + j - k = i * k + j by rw [Nat.add_mul]; omega, this]
/- a row of one's own: where it lies, what is in it, a cell written -/
structure OwA {α : Type} (cs : α → List Value) (lo e k : Nat) (w : World) (a : Option Addr) (c : Nat) (L : List α) (g : Nat) : Prop where
  ad : a = some ⟨g, 0, none⟩
  ge : lo ≤ g
  lt : g < w.heap.size
  ty : ∃ cur, w.heap[g]? = some (.cells cur e (0, 0))
  fz : ∀ j, w.frozen? ⟨g, j, none⟩ = false
  el : ∀ i (h : i < L.length), w.rangeAt g (i * k) (cs L[i])
  set : ∀ i (hi : i < L.length) j, j < k → ∀ v x', cs x' = (cs L[i]).set j v → (w.setCell ⟨g, i * k + j, none⟩ v).ownsRow lo e k (.slice a (L.set i x').length c) (L.set i x').length (fl cs (L.set i x'))
theorem own_at {α : Type} {cs : α → List Value} {k : Nat} (hk : ∀ x, (cs x).length = k) {w : World} {lo e : Nat} {a : Option Addr} {c : Nat} {L : List α} (h : w.ownsRow lo e k (.slice a L.length c) L.length (fl cs L)) (hne : 0 < L.length) : ∃ g, OwA cs lo e k w a c L g := by
  rcases h.2 with ⟨_, hn⟩ | ⟨g, cap, cur, hv, hl, hg, hnc, hm, hcs, ht⟩
  · omega
  · obtain ⟨e1, _, e3⟩ := Value.slice.inj hv
    subst e3
    refine ⟨g, e1, hl, heap_lt hg, ⟨cur, hg⟩, fun j => frozen_of_row w g j cur e hg, fun i hi => ?_, fun i hi j hj v x' hx => ?_⟩
    · have hr : w.rangeAt g 0 (fl cs L) := fun j v hj => by
        rw [Nat.zero_add, cell_of_row w g j cur e (0, 0) hg]
        have hjl := (List.getElem?_eq_some_iff.1 hj).1
        rw [fl_len hk] at hjl
        have : cur.toList[j]? = some v := by rw [← hj, ← ht, List.getElem?_take, if_pos hjl]
        simpa using this
      have := fl_range hk hr i hi
      rw [Nat.zero_add] at this
      exact this
    · have h2 := heap_setCell_same w g (i * k + j) cur e v hg
      rw [List.length_set]
      refine ⟨by rw [fl_len hk, List.length_set], .inr ⟨g, c, _, hv, hl, h2, hnc, hm, by rw [Array.size_setIfInBounds]; exact hcs, ?_⟩⟩
      rw [← fl_set hk L i hi j hj v x' hx, ← ht]
      simp [List.take_set]
theorem own_keptB {w w' : World} {lo k n : Nat} {e : TypeId} {a : Option Addr} {c : Nat} {xs : List Value} (h : w.ownsRow lo e k (.slice a n c) n xs) (hb : ∀ b, lo ≤ b → b < w.heap.size → (∃ cur, w.heap[b]? = some (.cells cur e (0, 0))) → a = some ⟨b, 0, none⟩ → w'.heap[b]? = w.heap[b]?) : w'.ownsRow lo e k (.slice a n c) n xs := by
  refine ⟨h.1, ?_⟩
  rcases h.2 with h | ⟨g, cap, cur, hv, hl, hg, rest⟩
  · exact .inl h
  · exact .inr ⟨g, cap, cur, hv, hl, (hb g hl (heap_lt hg) ⟨cur, hg⟩ (Value.slice.inj hv).1).trans hg, rest⟩
/- rows of one's own: jobs with their groups, nodes, allocations -/
structure OwD (lo : Nat) (w : World) (s : Sc) (J : List Js) (Lj : List Jb) (Ln : List Nd) (A : List Al) : Prop where
  n2 : s.n2 = J.length
  n4 : s.n4 = Ln.length
  n5 : s.n5 = A.length
  jl : J.length = Lj.length
  jb : CpR 51 7 Js.cs 71 3 24 Gp.cs Jb.gs Jb.sh lo w s.a2 s.c2 J Lj
  no : w.ownsRow lo 54 8 (.slice s.a4 Ln.length s.c4) Ln.length (fl Nd.cs Ln)
  ao : w.ownsRow lo 47 11 (.slice s.a5 A.length s.c5) A.length (fl Al.cs A)
  bj : J.length * 72 ≤ 140737488355328
  bn : Ln.length * 56 ≤ 140737488355328
  ba : A.length * 88 ≤ 140737488355328
theorem OwD.j {lo : Nat} {w : World} {s : Sc} {J : List Js} {Lj : List Jb} {Ln : List Nd} {A : List Al} (h : OwD lo w s J Lj Ln A) : JbR w (fun b => b < w.heap.size) s.a2 J Lj :=
  ⟨h.jl, (own_fl Js.len h.jb.own h.bj).kept (fun _ _ => rfl) (fun _ hb => hb.lt), fun i h1 h2 => by obtain ⟨ga, gc, e, f⟩ := h.jb.dp i h1 h2; exact ⟨ga, gc, e, f.kept (fun _ _ => rfl) (fun _ hb => hb.lt)⟩⟩
theorem OwD.n {lo : Nat} {w : World} {s : Sc} {J : List Js} {Lj : List Jb} {Ln : List Nd} {A : List Al} (h : OwD lo w s J Lj Ln A) : Fl w (fun b => b < w.heap.size) 8 56 Nd.cs s.a4 Ln := (own_fl Nd.len h.no h.bn).kept (fun _ _ => rfl) (fun _ hb => hb.lt)
theorem OwD.a {lo : Nat} {w : World} {s : Sc} {J : List Js} {Lj : List Jb} {Ln : List Nd} {A : List Al} (h : OwD lo w s J Lj Ln A) : Fl w (fun b => b < w.heap.size) 11 88 Al.cs s.a5 A := (own_fl Al.len h.ao h.ba).kept (fun _ _ => rfl) (fun _ hb => hb.lt)
theorem OwD.keep {lo : Nat} {w w' : World} {s : Sc} {J : List Js} {Lj : List Jb} {Ln : List Nd} {A : List Al} (h : OwD lo w s J Lj Ln A) (hz : w.heap.size ≤ w'.heap.size) (hb : ∀ b, lo ≤ b → b < w.heap.size → w'.heap[b]? = w.heap[b]?) : OwD lo w' s J Lj Ln A :=
  ⟨h.n2, h.n4, h.n5, h.jl, h.jb.kept ⟨hz, fun b hb' => hb b hb'.1 hb'.2⟩, own_kept h.no hb, own_kept h.ao hb, h.bj, h.bn, h.ba⟩
theorem OwD.up {lo : Nat} {w w' : World} {s : Sc} {J : List Js} {Lj : List Jb} {Ln : List Nd} {A : List Al} (h : OwD lo w s J Lj Ln A) (hb : Below w.heap.size w w') : OwD lo w' s J Lj Ln A := h.keep hb.size (fun b _ hl => hb.block b hl)
theorem ty_ne {w : World} {b g e e' : Nat} {c c' : Array Value} (hb : w.heap[b]? = some (.cells c e (0, 0))) (hg : w.heap[g]? = some (.cells c' e' (0, 0))) (hne : e ≠ e') : b ≠ g := fun h => by
  rw [h, hg] at hb
  cases hb
  exact hne rfl
theorem own_ty {w w' : World} {lo k n e e' g : Nat} {a : Option Addr} {c : Nat} {xs : List Value} {cu : Array Value} (h : w.ownsRow lo e k (.slice a n c) n xs) (hg : w.heap[g]? = some (.cells cu e' (0, 0))) (hne : e ≠ e') (ho : ∀ b, b ≠ g → w'.heap[b]? = w.heap[b]?) : w'.ownsRow lo e k (.slice a n c) n xs :=
  own_keptB h (fun b _ _ hc _ => by obtain ⟨cur, hc⟩ := hc; exact ho b (ty_ne hc hg hne))
theorem fl_ty {α : Type} {cs : α → List Value} {k y lo : Nat} {e e' g : Nat} {w w' : World} {a : Option Addr} {L : List α} {cu : Array Value} (h : Fl w (NB lo e w) k y cs a L) (hg : w.heap[g]? = some (.cells cu e' (0, 0))) (hne : e ≠ e') (ho : ∀ b, b ≠ g → w'.heap[b]? = w.heap[b]?) : Fl w' (NB lo e w') k y cs a L :=
  h.kept (fun b hb => by obtain ⟨_, cur, hc⟩ := hb; exact ho b (ty_ne hc hg hne)) (fun b hb => hb.to (by obtain ⟨_, cur, hc⟩ := hb; exact ho b (ty_ne hc hg hne)) hb.1)
theorem OwD.node {lo : Nat} {w : World} {s : Sc} {J : List Js} {Lj : List Jb} {Ln : List Nd} {A : List Al} (h : OwD lo w s J Lj Ln A) (i : Nat) (hi : i < Ln.length) : ∃ g, OwA Nd.cs lo 54 8 w s.a4 s.c4 Ln g ∧ OwD lo (w.setCell ⟨g, i * 8 + 4, none⟩ (.bool true)) s J Lj (Ln.set i { Ln[i] with dr := true }) A := by
  obtain ⟨g, hg⟩ := own_at Nd.len h.no (by omega)
  obtain ⟨cu, hcu⟩ := hg.ty
  have ho : ∀ b, b ≠ g → (w.setCell ⟨g, i * 8 + 4, none⟩ (.bool true)).heap[b]? = w.heap[b]? := fun b hb => heap_setCell_other w ⟨g, i * 8 + 4, none⟩ b _ hb
  exact ⟨g, hg, h.n2, by rw [List.length_set]; exact h.n4, h.n5, h.jl, ⟨own_ty h.jb.own hcu (by decide) ho, fun j h1 h2 => by obtain ⟨ga, gc, e, f⟩ := h.jb.dp j h1 h2; exact ⟨ga, gc, e, fl_ty f hcu (by decide) ho⟩⟩, hg.set i hi 4 (by decide) (.bool true) _ rfl, own_ty h.ao hcu (by decide) ho, h.bj, by rw [List.length_set]; exact h.bn, h.ba⟩
theorem OwD.alloc {lo : Nat} {w : World} {s : Sc} {J : List Js} {Lj : List Jb} {Ln : List Nd} {A : List Al} (h : OwD lo w s J Lj Ln A) (i : Nat) (hi : i < A.length) : ∃ g, OwA Al.cs lo 47 11 w s.a5 s.c5 A g ∧ OwD lo (w.setCell ⟨g, i * 11 + 9, none⟩ (.bool true)) s J Lj Ln (A.set i { A[i] with sp := true }) := by
  obtain ⟨g, hg⟩ := own_at Al.len h.ao (by omega)
  obtain ⟨cu, hcu⟩ := hg.ty
  have ho : ∀ b, b ≠ g → (w.setCell ⟨g, i * 11 + 9, none⟩ (.bool true)).heap[b]? = w.heap[b]? := fun b hb => heap_setCell_other w ⟨g, i * 11 + 9, none⟩ b _ hb
  exact ⟨g, hg, h.n2, h.n4, by rw [List.length_set]; exact h.n5, h.jl, ⟨own_ty h.jb.own hcu (by decide) ho, fun j h1 h2 => by obtain ⟨ga, gc, e, f⟩ := h.jb.dp j h1 h2; exact ⟨ga, gc, e, fl_ty f hcu (by decide) ho⟩⟩, own_ty h.no hcu (by decide) ho, hg.set i hi 9 (by decide) (.bool true) _ rfl, h.bj, h.bn, by rw [List.length_set]; exact h.ba⟩
theorem OwD.job {lo : Nat} {w : World} {s : Sc} {J : List Js} {Lj : List Jb} {Ln : List Nd} {A : List Al} (h : OwD lo w s J Lj Ln A) (i : Nat) (hi : i < J.length) (hi2 : i < Lj.length) : ∃ g, OwA Js.cs lo 51 7 w s.a2 s.c2 J g ∧ OwD lo (w.setCell ⟨g, i * 7 + 6, none⟩ (.bool true)) s (J.set i { J[i] with sd := true }) (Lj.set i { Lj[i] with sd := true }) Ln A := by
  obtain ⟨g, hg⟩ := own_at Js.len h.jb.own (by omega)
  obtain ⟨cu, hcu⟩ := hg.ty
  have ho : ∀ b, b ≠ g → (w.setCell ⟨g, i * 7 + 6, none⟩ (.bool true)).heap[b]? = w.heap[b]? := fun b hb => heap_setCell_other w ⟨g, i * 7 + 6, none⟩ b _ hb
  refine ⟨g, hg, by rw [List.length_set]; exact h.n2, h.n4, h.n5, by rw [List.length_set, List.length_set]; exact h.jl, ⟨hg.set i hi 6 (by decide) (.bool true) _ rfl, fun j h1 h2 => ?_⟩, own_ty h.no hcu (by decide) ho, own_ty h.ao hcu (by decide) ho, by rw [List.length_set]; exact h.bj, h.bn, h.ba⟩
  have h1' : j < J.length := by rw [List.length_set] at h1; exact h1
  have h2' : j < Lj.length := by rw [List.length_set] at h2; exact h2
  obtain ⟨ga, gc, e, f⟩ := h.jb.dp j h1' h2'
  refine ⟨ga, gc, ?_, ?_⟩
  · by_cases hij : i = j
    · subst hij
      rw [List.getElem_set_self, List.getElem_set_self, e]
      rfl
    · rw [List.getElem_set_ne hij, List.getElem_set_ne hij]; exact e
  · have hgs : (Lj.set i { Lj[i] with sd := true })[j].gs = Lj[j].gs := by
      by_cases hij : i = j
      · subst hij; rw [List.getElem_set_self]
      · rw [List.getElem_set_ne hij]
    rw [hgs]
    exact fl_ty f hcu (by decide) ho
theorem owd_copy {w w' : World} {s : Sc} {J B : List Js} {X : List Ss} {d : St} (hS : StR w' (NBr w.heap.size w') s J B X d) (ha : w'.ownsRow w.heap.size 47 11 (.slice s.a5 s.n5 s.c5) d.allocs.length (fl Al.cs d.allocs)) (hj : CpR 51 7 Js.cs 71 3 24 Gp.cs Jb.gs Jb.sh w.heap.size w' s.a2 s.c2 J d.jobs) (hn : w'.ownsRow w.heap.size 54 8 (.slice s.a4 s.n4 s.c4) d.nodes.length (fl Nd.cs d.nodes)) : OwD w.heap.size w' s J d.jobs d.nodes d.allocs :=
  ⟨hS.f.n2, hS.f.n4, hS.f.n5, hS.j.len, hj, by rw [← hS.f.n4] at hn ⊢; exact hn, by rw [← hS.f.n5] at ha ⊢; exact ha, hS.f.f2.bd, hS.f.f4.bd, hS.f.f5.bd⟩
/- how many slots there are at most -/
theorem slK_bd (ixs : Gp → List Int) (G : List Gp) (M : Nat) (h : ∀ g, (ixs g).length ≤ M) (k : Nat) : (slK ixs G k).length ≤ k * M := by
  induction k with
  | zero => simp [slK]
  | succ k ih =>
    rw [slK, List.length_append, List.length_map, Nat.add_mul]
    have := h (G[k]?.getD default)
    omega
theorem slV_bd (d : Jb) (Ln : List Nd) (M : Nat) (h4 : 4 ≤ M) (hn : Ln.length ≤ M) : (slV d Ln).length ≤ d.gs.length * M := by
  unfold slV
  split
  · simp
  · refine slK_bd _ _ _ (fun g => ?_) _
    unfold ixV
    split
    · exact Nat.le_trans (opK_len Ln Ln.length) hn
    · rw [ups_len]; unfold cnN; omega
theorem sl_ok {d : Jb} {Ln : List Nd} (hg : d.gs.length ≤ 1048576) (hn : Ln.length ≤ 1048576) : (slV d Ln).length * 16 ≤ 140737488355328 := by
  have h1 := slV_bd d Ln 1048576 (by omega) hn
  have h2 : d.gs.length * 1048576 ≤ 1048576 * 1048576 := Nat.mul_le_mul_right _ hg
  omega
end Go.Proofs.Ytaaodmagchpnbaa
