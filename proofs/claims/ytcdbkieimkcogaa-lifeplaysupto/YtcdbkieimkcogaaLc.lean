/- Nodes, deployments and commands in memory; down, revert. -/
import Derived.Test.YtcdbkieimkcogaaLb
import Derived.Deep.Cut
import Derived.Deep.RegionHeld3
import Derived.Lib.AppendZeros
import Derived.Laws.Tables
namespace Go.Proofs.Ytcdbkieimkcogaa
open Go.RowKit
variable {D : Nat}

structure Nd where
  id : Int
  c1 : Int
  c2 : Int
  up : Bool
  dr : Bool
  bt : Int
  ep : Int
  sq : Int
deriving DecidableEq
instance : Inhabited Nd := ⟨⟨0, 0, 0, false, false, 0, 0, 0⟩⟩
def ndC (n : Nd) : Array Value := #[.int .i64 n.id, .int .i64 n.c1, .int .i64 n.c2, .bool n.up, .bool n.dr, .int .i64 n.bt, .int .i64 n.ep, .int .i64 n.sq]
structure Dp where
  jb : Int
  vr : Int
  st : Int
  ix : Int
deriving DecidableEq
instance : Inhabited Dp := ⟨⟨0, 0, 0, 0⟩⟩
def dpC (d : Dp) : Array Value := #[.int .i64 d.jb, .int .i64 d.vr, .int .i64 d.st, .int .i64 d.ix]
structure Cm where
  op : Int
  jb : Int
  vr : Int
  nd : Int
  ep : Int
  sq : Int
deriving DecidableEq
instance : Inhabited Cm := ⟨⟨0, 0, 0, 0, 0, 0⟩⟩
def zi : Value := .int .i64 0
def cmC (c : Cm) : Array Value := #[.int .i64 c.op, .int .i64 0, .int .i64 0, .int .i64 c.jb, .int .i64 0, .int .i64 0, .int .i64 0, .slice none 0 0, .int .i64 c.vr, .bool false, .int .i64 c.nd, .int .i64 0, .int .i64 0, .bool false, .bool false, .int .i64 0, .int .i64 c.ep, .int .i64 c.sq, .slice none 0 0, .int .i64 0, .int .i64 0, .int .i64 0, .slice none 0 0, .slice none 0 0, .bool false, .slice none 0 0, .slice none 0 0]
def dnC (n : Nd) : Cm := ⟨7, 0, 0, n.id, n.ep, n.sq⟩
def rvC (d : Dp) : Cm := ⟨10, d.jb, d.vr, 0, 0, 0⟩

theorem results_cell1 {P : Program} {fn : Func} {p : Tmp} {ty : TypeId} (h : fn.results = #[.cell p ty]) (tmps : Array Value) (w : World) (g : Nat) (t : TypeId) (cs : Array Value) (fr : Nat × Nat) (d : TypeDesc)
    (hp : tmps.getD p undef = .pointer (some ⟨g, 0, none⟩)) (hg : w.heap[g]? = some (.cells cs t fr))
    (hu : P.underlying ty = some d) (hd : (match d with | .struct _ | .array _ _ => true | _ => false) = true) (hi : (P.info? ty).map (·.size) = some cs.size) :
    (results fn tmps).run P w = .ok (.agg cs) w := by
  have hp' : tmps[p]?.getD undef = .pointer (some ⟨g, 0, none⟩) := by simpa using hp
  simp [results, h, hp', asAddr, run_loadVar_row w g t ty cs fr d hg hu hd hi]
theorem setRow_at {w : World} {g : Nat} {old cs : Array Value} {t : Nat} {fr : Nat × Nat} (h : w.heap[g]? = some (.cells old t fr)) : (w.setRow g cs).heap[g]? = some (.cells cs t fr) := by
  simp [World.setRow, Array.getElem?_modify, h]
theorem setRow_ne {w : World} {g k : Nat} {cs : Array Value} (h : k ≠ g) : (w.setRow g cs).heap[k]? = w.heap[k]? := by
  simp [World.setRow, Array.getElem?_modify, Ne.symm h]
theorem setRow_below {B : Nat} {a w : World} {g : Nat} {cs : Array Value} (h : Below B a w) (hg : B ≤ g) : Below B a (w.setRow g cs) :=
  ⟨h.os, h.tape, h.output, by simpa [World.setRow] using h.size, fun k hk => (setRow_ne (by omega)).trans (h.block k hk)⟩
def zC : Array Value := #[.int .i64 0, .int .i64 0, .int .i64 0, .int .i64 0, .int .i64 0, .int .i64 0, .int .i64 0, .slice none 0 0, .int .i64 0, .bool false, .int .i64 0, .int .i64 0, .int .i64 0, .bool false, .bool false, .int .i64 0, .int .i64 0, .int .i64 0, .slice none 0 0, .int .i64 0, .int .i64 0, .int .i64 0, .slice none 0 0, .slice none 0 0, .bool false, .slice none 0 0, .slice none 0 0]

theorem cm_all (c : Cm) : (cmC c).all (·.oneCell') = true := by simp [cmC, Value.oneCell']
theorem cm_size (c : Cm) : (cmC c).size = 27 := rfl
set_option maxHeartbeats 4000000 in
set_option maxRecDepth 100000 in
theorem down_any (n : Nd) (w : World) : Calls Try.prog 16 #[.agg (ndC n)] w fun e w' => e = .returned (.agg (cmC (dnC n))) ∧ Below w.heap.size w w' := by
  have HB2 : Hid (∀ a b : Obj, Below w.heap.size w ((w.alloc a).alloc b)) := hidOf (fun a b => ((Below.refl _ w).alloc (Nat.le_refl _) _).alloc (by simp) _)
  unfold ndC
  have hI : (Try.prog.info? 60).map (·.size) = some 27 := by kernel_rfl
  have HI := hidOf hI
  clear hI
  go_enter Try.func16, Try.ntmps16
  go_upto_region 1 with (fail)
  obtain ⟨W0, hW0⟩ : ∃ y, y = (w.alloc (.cells #[.int .i64 n.id, .int .i64 n.c1, .int .i64 n.c2, .bool n.up, .bool n.dr, .int .i64 n.bt, .int .i64 n.ep, .int .i64 n.sq] 52)).alloc (.cells zC 60) := ⟨_, rfl⟩
  have hb := HB2.out (.cells #[.int .i64 n.id, .int .i64 n.c1, .int .i64 n.c2, .bool n.up, .bool n.dr, .int .i64 n.bt, .int .i64 n.ep, .int .i64 n.sq] 52) (.cells zC 60)
  have hq := heap_alloc_new (w.alloc (.cells #[.int .i64 n.id, .int .i64 n.c1, .int .i64 n.c2, .bool n.up, .bool n.dr, .int .i64 n.bt, .int .i64 n.ep, .int .i64 n.sq] 52)) (.cells zC 60)
  have hr : W0.heap[w.heap.size]? = some (.cells #[.int .i64 n.id, .int .i64 n.c1, .int .i64 n.c2, .bool n.up, .bool n.dr, .int .i64 n.bt, .int .i64 n.ep, .int .i64 n.sq] 52 (0, 0)) := by
    rw [hW0]; exact ((below1 _ _).block _ (by simp)).trans (heap_alloc_new w _)
  rw [World.size_alloc] at hq
  rw [← hW0] at hb hq
  rw [show (w.alloc (.cells #[.int .i64 n.id, .int .i64 n.c1, .int .i64 n.c2, .bool n.up, .bool n.dr, .int .i64 n.bt, .int .i64 n.ep, .int .i64 n.sq] 52)).alloc (.cells #[.int .i64 0, .int .i64 0, .int .i64 0, .int .i64 0, .int .i64 0, .int .i64 0, .int .i64 0, .slice none 0 0, .int .i64 0, .bool false, .int .i64 0, .int .i64 0, .int .i64 0, .bool false, .bool false, .int .i64 0, .int .i64 0, .int .i64 0, .slice none 0 0, .int .i64 0, .int .i64 0, .int .i64 0, .slice none 0 0, .slice none 0 0, .bool false, .slice none 0 0, .slice none 0 0] 60) = W0 from hW0.symm]
  have r0 : W0.cell? ⟨w.heap.size, 0, none⟩ = some (.int .i64 n.id) := by rw [cell_of_row _ _ 0 _ 52 (0, 0) hr]; rfl
  have r6 : W0.cell? ⟨w.heap.size, 6, none⟩ = some (.int .i64 n.ep) := by rw [cell_of_row _ _ 6 _ 52 (0, 0) hr]; rfl
  have r7 : W0.cell? ⟨w.heap.size, 7, none⟩ = some (.int .i64 n.sq) := by rw [cell_of_row _ _ 7 _ 52 (0, 0) hr]; rfl
  have HB := hidOf hb
  have HQ := hidOf hq
  clear hW0 hb hq hr HB2
  go_wp2_with (refine wpList_store_row rfl 60 (.tmp 2) (.tmp 10) rfl (w.heap.size + 1) (cmC (dnC n)) rfl rfl 60 zC HQ.out HI.out rfl (cm_all _) ?_)
  refine bodyPost_ret (results_cell1 Try.results16 _ _ (w.heap.size + 1) 60 (cmC (dnC n)) (0, 0) _ rfl (setRow_at HQ.out) Try.underlying60 rfl HI.out) rfl ?_
  exact ⟨rfl, setRow_below HB.out (by omega)⟩
set_option maxHeartbeats 4000000 in
set_option maxRecDepth 100000 in
theorem revert_any (n : Dp) (w : World) : Calls Try.prog 17 #[.agg (dpC n)] w fun e w' => e = .returned (.agg (cmC (rvC n))) ∧ Below w.heap.size w w' := by
  have HB2 : Hid (∀ a b : Obj, Below w.heap.size w ((w.alloc a).alloc b)) := hidOf (fun a b => ((Below.refl _ w).alloc (Nat.le_refl _) _).alloc (by simp) _)
  unfold dpC
  have hI : (Try.prog.info? 60).map (·.size) = some 27 := by kernel_rfl
  have HI := hidOf hI
  clear hI
  go_enter Try.func17, Try.ntmps17
  go_upto_region 1 with (fail)
  obtain ⟨W0, hW0⟩ : ∃ y, y = (w.alloc (.cells #[.int .i64 n.jb, .int .i64 n.vr, .int .i64 n.st, .int .i64 n.ix] 71)).alloc (.cells zC 60) := ⟨_, rfl⟩
  have hb := HB2.out (.cells #[.int .i64 n.jb, .int .i64 n.vr, .int .i64 n.st, .int .i64 n.ix] 71) (.cells zC 60)
  have hq := heap_alloc_new (w.alloc (.cells #[.int .i64 n.jb, .int .i64 n.vr, .int .i64 n.st, .int .i64 n.ix] 71)) (.cells zC 60)
  have hr : W0.heap[w.heap.size]? = some (.cells #[.int .i64 n.jb, .int .i64 n.vr, .int .i64 n.st, .int .i64 n.ix] 71 (0, 0)) := by
    rw [hW0]; exact ((below1 _ _).block _ (by simp)).trans (heap_alloc_new w _)
  rw [World.size_alloc] at hq
  rw [← hW0] at hb hq
  rw [show (w.alloc (.cells #[.int .i64 n.jb, .int .i64 n.vr, .int .i64 n.st, .int .i64 n.ix] 71)).alloc (.cells #[.int .i64 0, .int .i64 0, .int .i64 0, .int .i64 0, .int .i64 0, .int .i64 0, .int .i64 0, .slice none 0 0, .int .i64 0, .bool false, .int .i64 0, .int .i64 0, .int .i64 0, .bool false, .bool false, .int .i64 0, .int .i64 0, .int .i64 0, .slice none 0 0, .int .i64 0, .int .i64 0, .int .i64 0, .slice none 0 0, .slice none 0 0, .bool false, .slice none 0 0, .slice none 0 0] 60) = W0 from hW0.symm]
  have r0 : W0.cell? ⟨w.heap.size, 0, none⟩ = some (.int .i64 n.jb) := by rw [cell_of_row _ _ 0 _ 71 (0, 0) hr]; rfl
  have r1 : W0.cell? ⟨w.heap.size, 1, none⟩ = some (.int .i64 n.vr) := by rw [cell_of_row _ _ 1 _ 71 (0, 0) hr]; rfl
  have HB := hidOf hb
  have HQ := hidOf hq
  clear hW0 hb hq hr HB2
  go_wp2_with (refine wpList_store_row rfl 60 (.tmp 2) (.tmp 8) rfl (w.heap.size + 1) (cmC (rvC n)) rfl rfl 60 zC HQ.out HI.out rfl (cm_all _) ?_)
  refine bodyPost_ret (results_cell1 Try.results17 _ _ (w.heap.size + 1) 60 (cmC (rvC n)) (0, 0) _ rfl (setRow_at HQ.out) Try.underlying60 rfl HI.out) rfl ?_
  exact ⟨rfl, setRow_below HB.out (by omega)⟩

/- lists that come in -/
def RdR (D : Nat) (ty s : Nat) {α : Type} (f : α → Array Value) (w : World) (a : Option Addr) (L : List α) : Prop :=
  L ≠ [] → ∃ b off, a = some ⟨b, off, none⟩ ∧ b < w.heap.size ∧ (b < D ∨ ∃ cs, w.heap[b]? = some (.cells cs ty (0, 0))) ∧ ∀ i x, L[i]? = some x → ∀ j u, (f x)[j]? = some u → w.cell? ⟨b, off + i * s + j, none⟩ = some u
abbrev NdR (D : Nat) (w : World) (a : Option Addr) (L : List Nd) : Prop := RdR D 52 8 ndC w a L
abbrev DpR (D : Nat) (w : World) (a : Option Addr) (L : List Dp) : Prop := RdR D 71 4 dpC w a L
theorem RdR.frt {ty s : Nat} {α : Type} {f : α → Array Value} {T : List Nat} {w w' : World} {a : Option Addr} {L : List α} (h : RdR D ty s f w a L) (hf : FrT D T w w') (hT : ty ∉ T) : RdR D ty s f w' a L := by
  intro hne
  obtain ⟨b, off, rfl, h1, h2, h3⟩ := h hne
  have e : w'.heap[b]? = w.heap[b]? := by
    rcases h2 with h2 | ⟨cs, h2⟩
    · have h4 := Array.getElem?_eq_getElem (xs := w.heap) h1
      rw [h4]; exact hf.block b _ h4 (.inr h2)
    · rw [h2]; exact hf.cells h2 hT
  refine ⟨b, off, rfl, Nat.lt_of_lt_of_le h1 hf.size, ?_, fun i x hx j u hu => ?_⟩
  · rcases h2 with h2 | ⟨cs, h2⟩
    · exact .inl h2
    · exact .inr ⟨cs, e.trans h2⟩
  · rw [World.cell?_of_block (w := w) e]; exact h3 i x hx j u hu
theorem RdR.grow {ty s : Nat} {α : Type} {f : α → Array Value} {w w' : World} {a : Option Addr} {L : List α} (h : RdR D ty s f w a L) (hb : Below w.heap.size w w') : RdR D ty s f w' a L := h.frt (T := []) (FrT.of_below hb) (by simp)
theorem RdR.at_ {ty s : Nat} {α : Type} {f : α → Array Value} {w : World} {a : Option Addr} {L : List α} (h : RdR D ty s f w a L) {i : Nat} {x : α} (hx : L[i]? = some x) : ∃ b off, a = some ⟨b, off, none⟩ ∧ b < w.heap.size ∧ ∀ j u, (f x)[j]? = some u → w.cell? ⟨b, off + i * s + j, none⟩ = some u := by
  obtain ⟨b, off, h1, h2, _, h3⟩ := h (fun e => by rw [e] at hx; simp at hx)
  exact ⟨b, off, h1, h2, h3 i x hx⟩
theorem nd_at {w : World} {a : Option Addr} {L : List Nd} (h : NdR D w a L) {i : Nat} {x : Nd} (hx : L[i]? = some x) : ∃ b off, a = some ⟨b, off, none⟩ ∧ b < w.heap.size ∧ w.cell? ⟨b, off + i * 8, none⟩ = some (.int .i64 x.id) ∧ w.cell? ⟨b, off + i * 8 + 1, none⟩ = some (.int .i64 x.c1) ∧ w.cell? ⟨b, off + i * 8 + 2, none⟩ = some (.int .i64 x.c2) ∧ w.cell? ⟨b, off + i * 8 + 3, none⟩ = some (.bool x.up) ∧ w.cell? ⟨b, off + i * 8 + 4, none⟩ = some (.bool x.dr) ∧ w.cell? ⟨b, off + i * 8 + 5, none⟩ = some (.int .i64 x.bt) ∧ w.cell? ⟨b, off + i * 8 + 6, none⟩ = some (.int .i64 x.ep) ∧ w.cell? ⟨b, off + i * 8 + 7, none⟩ = some (.int .i64 x.sq) := by
  obtain ⟨b, off, h1, h2, h3⟩ := RdR.at_ h hx
  exact ⟨b, off, h1, h2, h3 0 _ rfl, h3 1 _ rfl, h3 2 _ rfl, h3 3 _ rfl, h3 4 _ rfl, h3 5 _ rfl, h3 6 _ rfl, h3 7 _ rfl⟩
theorem dp_at {w : World} {a : Option Addr} {L : List Dp} (h : DpR D w a L) {i : Nat} {x : Dp} (hx : L[i]? = some x) : ∃ b off, a = some ⟨b, off, none⟩ ∧ b < w.heap.size ∧ w.cell? ⟨b, off + i * 4, none⟩ = some (.int .i64 x.jb) ∧ w.cell? ⟨b, off + i * 4 + 1, none⟩ = some (.int .i64 x.vr) ∧ w.cell? ⟨b, off + i * 4 + 2, none⟩ = some (.int .i64 x.st) ∧ w.cell? ⟨b, off + i * 4 + 3, none⟩ = some (.int .i64 x.ix) := by
  obtain ⟨b, off, h1, h2, h3⟩ := RdR.at_ h hx
  exact ⟨b, off, h1, h2, h3 0 _ rfl, h3 1 _ rfl, h3 2 _ rfl, h3 3 _ rfl⟩

/- rows of one's own -/
def rows {α : Type} (f : α → Array Value) (R : List α) : List Value := R.flatMap fun x => (f x).toList
theorem rows_len {α : Type} {f : α → Array Value} {s : Nat} (hf : ∀ x, (f x).size = s) (R : List α) : (rows f R).length = R.length * s := by
  induction R with
  | nil => simp [rows]
  | cons x R ih =>
    simp only [rows, List.flatMap_cons, List.length_append, List.length_cons, Array.length_toList, hf] at ih ⊢
    rw [ih, Nat.succ_mul]; omega
theorem rows_snoc {α : Type} (f : α → Array Value) (R : List α) (x : α) : rows f (R ++ [x]) = rows f R ++ (f x).toList := by simp [rows]
theorem rows_get {α : Type} {f : α → Array Value} {s : Nat} (hf : ∀ x, (f x).size = s) : ∀ (R : List α) (i : Nat) (x : α), R[i]? = some x → ∀ j, j < s → (rows f R)[i * s + j]? = (f x)[j]?
  | [], i, x, h, j, hj => by simp at h
  | y :: R, 0, x, h, j, hj => by
    simp at h; subst h
    have e : rows f (y :: R) = (f y).toList ++ rows f R := by simp [rows]
    rw [e, List.getElem?_append_left (by simp [hf]; omega)]; simp
  | y :: R, i + 1, x, h, j, hj => by
    have e : rows f (y :: R) = (f y).toList ++ rows f R := by simp [rows]
    have h2 := rows_get hf R i x (by simpa using h) j hj
    have h4 : (i + 1) * s + j = s + (i * s + j) := by rw [Nat.succ_mul]; omega
    rw [e, h4, List.getElem?_append_right (by simp [hf]), Array.length_toList, hf, ← h2]
    congr 1
    omega
def OwR (lo ty s : Nat) {α : Type} (f : α → Array Value) (w : World) (v : Value) (R : List α) : Prop := w.ownsRow lo ty s v R.length (rows f R)
theorem OwR.nil {lo ty s : Nat} {α : Type} {f : α → Array Value} {w : World} : OwR lo ty s f w (.slice none 0 0) [] := ⟨by simp [rows], .inl ⟨rfl, rfl⟩⟩
theorem OwR.slice {lo ty s : Nat} {α : Type} {f : α → Array Value} {w : World} {v : Value} {R : List α} (h : OwR lo ty s f w v R) : ∃ a cap, v = .slice a R.length cap ∧ R.length ≤ maxLen := by
  rcases h.2 with ⟨rfl, e⟩ | ⟨g, cap, cur, rfl, _, _, h1, h2, _⟩
  · exact ⟨none, 0, by rw [e], by rw [e]; unfold maxLen; omega⟩
  · exact ⟨_, cap, rfl, Nat.le_trans h1 h2⟩
theorem OwR.keepT {lo ty s : Nat} {α : Type} {f : α → Array Value} {D : Nat} {T : List Nat} {w w' : World} {v : Value} {R : List α} (h : OwR lo ty s f w v R) (hf : FrT D T w w') (ht : ty ∉ T) : OwR lo ty s f w' v R := by
  refine ⟨h.1, ?_⟩
  rcases h.2 with h2 | ⟨g, cap, cur, rfl, h3, h4, h5⟩
  · exact .inl h2
  · exact .inr ⟨g, cap, cur, rfl, h3, hf.cells h4 ht, h5⟩
theorem OwR.grow {lo ty s : Nat} {α : Type} {f : α → Array Value} {w w' : World} {v : Value} {R : List α} (h : OwR lo ty s f w v R) (hb : Below w.heap.size w w') : OwR lo ty s f w' v R := h.keepT (D := 0) (T := []) (FrT.of_below hb) (by simp)
theorem OwR.gb {lo ty s : Nat} {α : Type} {f : α → Array Value} {w w' : World} {v : Value} {R : List α} (h : OwR lo ty s f w v R) {r : Option Nat} (hb : w.grownBy w' r) (hr : ∀ k, r = some k → v.ownBlock ≠ some k) : OwR lo ty s f w' v R := by
  refine ⟨h.1, ?_⟩
  rcases h.2 with h2 | ⟨g, cap, cur, rfl, h3, h4, h5⟩
  · exact .inl h2
  · exact .inr ⟨g, cap, cur, rfl, h3, (hb.block g (heap_lt h4) (fun e => hr g e.symm rfl)).trans h4, h5⟩
theorem OwR.lo {lo ty s : Nat} {α : Type} {f : α → Array Value} {w : World} {v : Value} {R : List α} (h : OwR lo ty s f w v R) : ∀ k, v.ownBlock = some k → lo ≤ k := by
  intro k hk
  rcases h.2 with ⟨rfl, _⟩ | ⟨g, cap, cur, rfl, h3, h4, h5⟩
  · cases hk
  · cases hk; exact h3
theorem OwR.rd {lo D ty s : Nat} {α : Type} {f : α → Array Value} (hf : ∀ x, (f x).size = s) {w : World} {v : Value} {R : List α} (h : OwR lo ty s f w v R) : ∃ a cap, v = .slice a R.length cap ∧ RdR D ty s f w a R := by
  rcases h.2 with ⟨rfl, e⟩ | ⟨g, cap, cur, rfl, h3, h4, h5, h6, h7, h8⟩
  · exact ⟨none, 0, by rw [e], fun hne => absurd (List.eq_nil_of_length_eq_zero e) hne⟩
  · refine ⟨_, cap, rfl, fun _ => ⟨g, 0, rfl, heap_lt h4, .inr ⟨cur, h4⟩, fun i x hx j u hu => ?_⟩⟩
    have hi := (List.getElem?_eq_some_iff.1 hx).1
    have hj : j < s := by
      have := (Array.getElem?_eq_some_iff.1 hu).1
      rw [hf] at this; exact this
    rw [cell_of_row w g _ cur ty (0, 0) h4]
    have h9 := rows_get hf R i x hx j hj
    rw [← h8, List.getElem?_take, hu] at h9
    have h10 : i * s + j < R.length * s := by
      have : (i + 1) * s ≤ R.length * s := Nat.mul_le_mul_right s (by omega)
      rw [Nat.succ_mul] at this; omega
    rw [if_pos h10, Array.getElem?_toList] at h9
    rw [Nat.zero_add]; exact h9
end Go.Proofs.Ytcdbkieimkcogaa
