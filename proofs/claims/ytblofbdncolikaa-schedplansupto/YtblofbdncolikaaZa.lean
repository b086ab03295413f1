/- A look in memory, whole; what the code's Diff answers, as a function of plain lists. -/
import Derived.Test.YtblofbdncolikaaGx
import Derived.Test.YtblofbdncolikaaGy
namespace Go.Proofs.Ytblofbdncolikaa
open Go.RowKit Go.Shelf
def idA (A : List Al) (v : Int) : Int := (alA A v).id
structure LkR (lo p hb sb : Nat) (d : Jb) (ga : Option Addr) (gc : Nat) (lb : Array Value) (aa : Option Addr) (ac : Nat) (A : List Al) (S : List (Int × Int)) (T : List Int) (ia : Option Addr) (ic : Nat) (w : World) : Prop where
 ce : w.heap[p]? = some (.cells (lkC d ga gc lb aa A.length ac (some hb) (some sb) ia T.length ic).toArray 93 (0, 0))
 ho : MpR w hb kS (hoK d.id S A A.length)
 st : MpR w sb kI (unS T)
 ro : w.ownsRow lo 3 1 (.slice ia T.length ic) T.length (fl iC (T.map (idA A)))
 al : Fl w (fun b => b < lo ∧ b ≠ p ∧ b ≠ sb) 11 88 Al.cs aa A
 ne : p ≠ sb ∧ p ≠ hb ∧ hb ≠ sb ∧ p < lo ∧ sb < lo ∧ hb < lo ∧ lo ≤ w.heap.size
theorem LkR.lo_out {lo p hb sb : Nat} {d : Jb} {ga : Option Addr} {gc : Nat} {lb : Array Value} {aa : Option Addr} {ac : Nat} {A : List Al} {S : List (Int × Int)} {T : List Int} {ia : Option Addr} {ic : Nat} {w : World} (h : LkR lo p hb sb d ga gc lb aa ac A S T ia ic w) {k : Nat} (hk : k < lo) (h1 : k ≠ p) (h2 : k ≠ sb) : ¬ LO p sb ia k := fun hL => by
 rcases hL with e | e | e
 ·exact h1 e
 ·exact h2 e
 ·have := (own_blk2 h.ro k (by cases ia with | none => cases e | some a => exact e)).1
  omega
theorem LkR.lo_lt {lo p hb sb : Nat} {d : Jb} {ga : Option Addr} {gc : Nat} {lb : Array Value} {aa : Option Addr} {ac : Nat} {A : List Al} {S : List (Int × Int)} {T : List Int} {ia : Option Addr} {ic : Nat} {w : World} (h : LkR lo p hb sb d ga gc lb aa ac A S T ia ic w) : ∀ k, LO p sb ia k → k < w.heap.size := fun k hL => by
 obtain ⟨_, _, _, n1, n2, n3, n4⟩ := h.ne
 rcases hL with e | e | e
 ·omega
 ·omega
 ·exact (own_blk2 h.ro k (by cases ia with | none => cases e | some a => exact e)).2
theorem LkR.keep {lo p hb sb : Nat} {d : Jb} {ga : Option Addr} {gc : Nat} {lb : Array Value} {aa : Option Addr} {ac : Nat} {A : List Al} {S : List (Int × Int)} {T : List Int} {ia : Option Addr} {ic : Nat} {w w' : World} (h : LkR lo p hb sb d ga gc lb aa ac A S T ia ic w) (hb1 : ∀ k, LO p sb ia k → w'.heap[k]? = w.heap[k]?) (hb2 : ∀ k, k < lo → k ≠ p → k ≠ sb → w'.heap[k]? = w.heap[k]?) (hz : w.heap.size ≤ w'.heap.size) : LkR lo p hb sb d ga gc lb aa ac A S T ia ic w' := by
 obtain ⟨n0, n1, n2, n3, n4, n5, n6⟩ := h.ne
 refine ⟨(hb1 p (.inl rfl)).trans h.ce, h.ho.keep (hb2 hb n5 (fun e => n1 e.symm) n2), h.st.keep (hb1 sb (.inr (.inl rfl))), ⟨h.ro.1, ?_⟩, h.al.kept (fun b hb' => hb2 b hb'.1 hb'.2.1 hb'.2.2) (fun _ x => x), n0, n1, n2, n3, n4, n5, by omega⟩
 rcases h.ro.2 with h3 | ⟨g, cap, cur, hv, hl, hg, rest⟩
 ·exact .inl h3
 ·refine .inr ⟨g, cap, cur, hv, hl, (hb1 g (.inr (.inr ?_))).trans hg, rest⟩
  have := (Value.slice.inj hv).1
  rw [this]; rfl
theorem LkR.bel {lo p hb sb : Nat} {d : Jb} {ga : Option Addr} {gc : Nat} {lb : Array Value} {aa : Option Addr} {ac : Nat} {A : List Al} {S : List (Int × Int)} {T : List Int} {ia : Option Addr} {ic : Nat} {w w' : World} (h : LkR lo p hb sb d ga gc lb aa ac A S T ia ic w) (hB : Below w.heap.size w w') : LkR lo p hb sb d ga gc lb aa ac A S T ia ic w' := by
 have := h.ne
 exact h.keep (fun k hk => hB.block k (h.lo_lt k hk)) (fun k hk _ _ => hB.block k (by omega)) hB.size
theorem LkR.rg {lo p hb sb : Nat} {d : Jb} {ga : Option Addr} {gc : Nat} {lb : Array Value} {aa : Option Addr} {ac : Nat} {A : List Al} {S : List (Int × Int)} {T : List Int} {ia : Option Addr} {ic : Nat} {w : World} (h : LkR lo p hb sb d ga gc lb aa ac A S T ia ic w) : w.rangeAt p 0 (lkC d ga gc lb aa A.length ac (some hb) (some sb) ia T.length ic) := row_range h.ce (fun j v h => by simpa using h)
theorem LkR.fl {lo p hb sb : Nat} {d : Jb} {ga : Option Addr} {gc : Nat} {lb : Array Value} {aa : Option Addr} {ac : Nat} {A : List Al} {S : List (Int × Int)} {T : List Int} {ia : Option Addr} {ic : Nat} {w : World} (h : LkR lo p hb sb d ga gc lb aa ac A S T ia ic w) : Fl w (fun b => b < w.heap.size) 11 88 Al.cs aa A := h.al.kept (fun _ _ => rfl) (fun b hb => by have := h.ne; omega)
theorem moves_l {lo p hb sb : Nat} {d : Jb} {ga : Option Addr} {gc : Nat} {lb : Array Value} {aa : Option Addr} {ac : Nat} {A : List Al} {S : List (Int × Int)} {T : List Int} {ia : Option Addr} {ic : Nat} {w : World} (h : LkR lo p hb sb d ga gc lb aa ac A S T ia ic w) (g i : Int) (hS : (g, i) ∈ S) :
  Calls Try.prog 52 #[.pointer (some ⟨p, 0, none⟩), .agg #[.int .i64 g, .int .i64 i]] w fun e w' => e = .returned (.bool (mvB d A T (fiK (slB d.id g i) A A.length))) ∧ Below w.heap.size w w' :=
 moves_any p d ga gc lb aa ac A hb sb ia T.length ic S T g i w h.rg (heap_lt h.ce) h.fl h.ho h.st hS
theorem stop_l {lo p hb sb : Nat} {d : Jb} {ga : Option Addr} {gc : Nat} {lb : Array Value} {aa : Option Addr} {ac : Nat} {A : List Al} {S : List (Int × Int)} {T : List Int} {ia : Option Addr} {ic : Nat} {w : World} (h : LkR lo p hb sb d ga gc lb aa ac A S T ia ic w) (m : Nat) (hm : m < A.length) (hbd : (T.length + 1) * 8 ≤ 140737488355328) :
  Calls Try.prog 51 #[.pointer (some ⟨p, 0, none⟩), .int .i64 (m : Int)] w fun e w' => e = .returned (.tuple #[]) ∧ ∃ ia' ic', LkR lo p hb sb d ga gc lb aa ac A S (T ++ [(m : Int)]) ia' ic' w' ∧ Frm (LO p sb ia) (LO p sb ia') w w' := by
 obtain ⟨n0, n1, n2, n3, n4, n5, n6⟩ := h.ne
 have hl : (T.map (idA A)).length = T.length := List.length_map _
 refine (stop_any lo p d ga gc lb aa ac A hb sb ia ic (T.map (idA A)) T m hm w n0 n3 n4 n6 (by rw [hl]; exact hbd) (by rw [hl]; exact h.ce) h.al h.st (by rw [hl]; exact h.ro)).mono ?_
 rintro e w' ⟨rfl, ia', ic', h1, h2, h3, h4⟩
 rw [hl] at h1 h3
 have hs := h4.size
 have hT : T.map (idA A) ++ [A[m].id] = (T ++ [(m : Int)]).map (idA A) := by
  rw [List.map_append]
  simp [idA, alA, hm]
 have hl2 : (T ++ [(m : Int)]).length = T.length + 1 := by simp
 refine ⟨rfl, ia', ic', ⟨by rw [hl2]; exact h1, h.ho.keep (h4.same hb (by omega) (h.lo_out n5 (fun e => n1 e.symm) n2)), h2, by rw [hl2, ← hT]; exact h3, h.al.kept (fun b hb' => h4.same b (by omega) (h.lo_out hb'.1 hb'.2.1 hb'.2.2)) (fun _ x => x), n0, n1, n2, n3, n4, n5, by omega⟩, h4⟩
/- the iterator over a look's slots, as it may be ranged over -/
def ItR (p sb lo : Nat) (lb : Array Value) (S : List (Int × Int)) (w : World) : Prop := ∃ (Q : Nat → Prop) (w0 : World), (∀ n, SeqY n 66 lb eS Q S w0) ∧ Kq Q w0 w ∧ ∀ k, Q k → k < lo ∧ k ≠ p ∧ k ≠ sb
theorem ItR.keep {p sb lo : Nat} {lb : Array Value} {S : List (Int × Int)} {w w' : World} (h : ItR p sb lo lb S w) (hb : ∀ k, k < lo → k ≠ p → k ≠ sb → w'.heap[k]? = w.heap[k]?) (hz : w.heap.size ≤ w'.heap.size) : ItR p sb lo lb S w' := by
 obtain ⟨Q, w0, h1, h2, h3⟩ := h
 exact ⟨Q, w0, h1, h2.trans ⟨hz, fun k hk => hb k (h3 k hk).1 (h3 k hk).2.1 (h3 k hk).2.2⟩, h3⟩
/- what is to stop as it stands -/
def ndD (Ln : List Nd) (z : Int) : Bool := ((fnM Ln Ln.length z).map Nd.dr).getD false
def skB (d : Jb) (x : Al) : Bool := !decide (x.jb = d.id) || (ovr x.st || x.sp)
def unB (d : Jb) (Ln : List Nd) (S : List (Int × Int)) (x : Al) : Bool := !decide ((x.gr, x.ix) ∈ S) || ((!decide (d.ty = 1) && !decide (x.ve = d.ve)) || ndD Ln x.nd)
def suK (d : Jb) (Ln : List Nd) (S : List (Int × Int)) (A : List Al) : Nat → List Int
 | 0 => []
 | k + 1 => if skB d (A[k]?.getD default) = false ∧ unB d Ln S (A[k]?.getD default) = true then suK d Ln S A k ++ [(k : Int)] else suK d Ln S A k
theorem suK_at (d : Jb) (Ln : List Nd) (S : List (Int × Int)) (A : List Al) (k : Nat) (T : List Int) (hT : T = suK d Ln S A k) (h : k < A.length) (x : Al) (hx : A[k] = x) : suK d Ln S A (k + 1) = if skB d x = false ∧ unB d Ln S x = true then T ++ [(k : Int)] else T := by
 rw [suK, ← hT, getD_at A k h, hx]
theorem suK_len (d : Jb) (Ln : List Nd) (S : List (Int × Int)) (A : List Al) (k : Nat) : (suK d Ln S A k).length ≤ k := by
 induction k with
 | zero => simp [suK]
 | succ k ih =>
  rw [suK]
  split
  ·rw [List.length_append]; simp; omega
  ·omega
/- what more is to stop as a change rolls -/
def hoV (d : Jb) (A : List Al) (s : Int × Int) : Int := fiK (slB d.id s.1 s.2) A A.length
def mvN (d : Jb) (A : List Al) (T : List Int) (L : List (Int × Int)) : Nat := (L.filter (fun s => mvB d A T (hoV d A s))).length
def rlS (d : Jb) (A : List Al) (z : List Int × Int) (s : Int × Int) : List Int × Int :=
 if d.pa ≤ z.2 then z else if mvB d A z.1 (hoV d A s) = true ∨ (alA A (hoV d A s)).ve = d.ve then z else (z.1 ++ [hoV d A s], z.2 + 1)
def rlV (d : Jb) (A : List Al) (z : List Int × Int) (L : List (Int × Int)) : List Int × Int := L.foldl (rlS d A) z
theorem rlV_snoc (d : Jb) (A : List Al) (z : List Int × Int) (L : List (Int × Int)) (s : Int × Int) : rlV d A z (L ++ [s]) = rlS d A (rlV d A z L) s := by simp [rlV]
theorem rlV_stay (d : Jb) (A : List Al) (z : List Int × Int) (L : List (Int × Int)) (h : d.pa ≤ z.2) : rlV d A z L = z := by
 induction L with
 | nil => rfl
 | cons s L ih =>
  show rlV d A (rlS d A z s) L = z
  rw [show rlS d A z s = z by unfold rlS; rw [if_pos h]]; exact ih
theorem rlV_app (d : Jb) (A : List Al) (z : List Int × Int) (L M : List (Int × Int)) : rlV d A z (L ++ M) = rlV d A (rlV d A z L) M := by simp [rlV]
theorem rlV_cut (d : Jb) (A : List Al) (z : List Int × Int) (L S : List (Int × Int)) (hp : L <+: S) (h : d.pa ≤ (rlV d A z L).2) : rlV d A z S = rlV d A z L := by
 obtain ⟨M, rfl⟩ := hp
 rw [rlV_app, rlV_stay _ _ _ _ h]
theorem rlV_len (d : Jb) (A : List Al) (z : List Int × Int) (L : List (Int × Int)) : (rlV d A z L).1.length ≤ z.1.length + L.length := by
 induction L generalizing z with
 | nil => exact Nat.le_refl _
 | cons s L ih =>
  have h1 : rlV d A z (s :: L) = rlV d A (rlS d A z s) L := rfl
  have h2 := ih (rlS d A z s)
  have h3 : (rlS d A z s).1.length ≤ z.1.length + 1 := by
   unfold rlS
   split
   ·omega
   ·split
    ·omega
    ·simp
  rw [h1, List.length_cons]
  omega
/- what is to be filled -/
def emV (d : Jb) (A : List Al) (S : List (Int × Int)) : List (Int × Int) := S.filter (fun s => !decide (s ∈ dnV d A) && decide (hoV d A s = -1))
def diT (d : Jb) (Ln : List Nd) (A : List Al) : List Int :=
 if d.ty = 1 then (rlV d A (suK d Ln (slV d Ln) A A.length, (mvN d A (suK d Ln (slV d Ln) A A.length) (slV d Ln) : Int)) (slV d Ln)).1 else suK d Ln (slV d Ln) A A.length
end Go.Proofs.Ytblofbdncolikaa
