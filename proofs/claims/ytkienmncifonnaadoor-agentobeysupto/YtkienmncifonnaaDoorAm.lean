/- Tasks by their IDs in memory; an agent's own block. -/
import Derived.Test.YtkienmncifonnaaDoorBo
import Derived.Deep.RegionHeld3
import Derived.Deep.Cut
import Derived.Lib.LaidTab
namespace Go.Proofs.YtkienmncifonnaaDoor
open Go.RowKit Go.Maps

structure Al where
  id : Int
  jb : Int
  vr : Int
  gp : Int
  ix : Int
  nd : Int
  ep : Int
  c1 : Int
  c2 : Int
  sp : Bool
  st : Int
deriving DecidableEq
instance : Inhabited Al := ⟨⟨0, 0, 0, 0, 0, 0, 0, 0, 0, false, 0⟩⟩
def alC (a : Al) : Array Value := #[.int .i64 a.id, .int .i64 a.jb, .int .i64 a.vr, .int .i64 a.gp, .int .i64 a.ix, .int .i64 a.nd, .int .i64 a.ep, .int .i64 a.c1, .int .i64 a.c2, .bool a.sp, .int .i64 a.st]
def alV (a : Al) : Value := .agg (alC a)
structure Ak where
  al : Al
  s : Int
deriving DecidableEq
instance : Inhabited Ak := ⟨⟨default, 0⟩⟩
def akC (a : Ak) : Array Value := #[.int .i64 a.al.id, .int .i64 a.al.jb, .int .i64 a.al.vr, .int .i64 a.al.gp, .int .i64 a.al.ix, .int .i64 a.al.nd, .int .i64 a.al.ep, .int .i64 a.al.c1, .int .i64 a.al.c2, .bool a.al.sp, .int .i64 a.al.st, .int .i64 a.s]
def akV (a : Ak) : Value := .agg (akC a)
def zA : Value := akV default
theorem law3 : Keyed Tryd.prog 3 := int_keyed Tryd.underlying3
def wf64 (k : Int) : Prop := -9223372036854775808 ≤ k ∧ k ≤ 9223372036854775807
theorem key3 {k : Int} (h : wf64 k) : keyOf Tryd.prog 3 (.int .i64 k) = some (.int .i64 k) := keyOf_int_mk Tryd.underlying3 (by
  obtain ⟨h1, h2⟩ := h
  have e1 : IntKind.min .i64 = -9223372036854775808 := by decide
  have e2 : IntKind.max .i64 = 9223372036854775807 := by decide
  simp only [Lit.wf, e1, e2, Bool.and_eq_true, decide_eq_true_eq]
  exact ⟨h1, h2⟩)
abbrev TM := Int → Option Ak
def tk0 : TM := fun _ => none
def tup (T : TM) (k : Int) (a : Ak) : TM := fun j => if j = k then some a else T j
def getA (T : TM) (k : Int) : Ak := (T k).getD default
def aAt (D : DataW Value) (k : Int) : Value := match D.atKey (.int .i64 k) (.held zA) with
  | .held v => v
  | _ => zA
structure TkD (D : DataW Value) (T : TM) : Prop where
  has : ∀ k, Maps.has D (.int .i64 k) = (T k).isSome
  val : ∀ k, aAt D k = akV (getA T k)
def MapA (w : World) (b n : Nat) (D : DataW Value) : Prop := w.ownsMap Tryd.prog 3 RV b n D
/- tasks: no map, or one -/
def TkR (w : World) (mv : Value) (n : Nat) (T : TM) : Prop := (mv = .map none ∧ T = tk0) ∨ ∃ b D, mv = .map (some b) ∧ MapA w b n D ∧ TkD D T
theorem TkR.kept {w w' : World} {mv : Value} {n : Nat} {T : TM} (h : TkR w mv n T) (hb : ∀ b, mv = .map (some b) → w'.heap[b]? = w.heap[b]?) : TkR w' mv n T := by
  rcases h with h | ⟨b, D, rfl, ⟨es, c, h1, h2⟩, h3⟩
  · exact .inl h
  · exact .inr ⟨b, D, rfl, ⟨es, c, (hb b rfl).trans h1, h2⟩, h3⟩
theorem TkR.lt {w : World} {b n : Nat} {T : TM} (h : TkR w (.map (some b)) n T) : b < w.heap.size := by
  rcases h with ⟨e, _⟩ | ⟨b', D, e, h1, _⟩
  · cases e
  · cases e; exact World.ownsMap.lt h1
theorem TkR.obj {w : World} {b n : Nat} {T : TM} (h : TkR w (.map (some b)) n T) : ∃ es c, w.heap[b]? = some (.map es c) := by
  rcases h with ⟨e, _⟩ | ⟨b', D, e, ⟨es, c, h1, _⟩, _⟩
  · cases e
  · cases e; exact ⟨es, c, h1⟩
theorem zero69 (w : World) : (zeroValue 86).run Tryd.prog w = .ok zA w := Tryd.zeroValue86 w
theorem TkD.read {D : DataW Value} {T : TM} (h : TkD D T) {k : Int} {v : Value} {ps : List MemPlace} (hv : RV v = some (D.atKey (.int .i64 k) (.held zA), ps)) : v = akV (getA T k) := by
  have e : DataW.atKey D (.int .i64 k) (.held zA) = .held v := by
    have := congrArg (fun o => o.map Prod.fst) hv
    simp [RV] at this
    exact this.symm
  have := h.val k
  unfold aAt at this
  rw [e] at this
  exact this
theorem nil_look (k : Int) (c : Bool) (w : World) : (Instr.lookup 75 (.map none) (.int .i64 k) c).run Tryd.prog w = .ok (if c then .tuple #[zA, .bool false] else zA) w := by
  have hz := zero69 w
  have hck : (Instr.checkKey true 10000 3 (.int .i64 k)).run Tryd.prog w = .ok () w := by
    have h3 := Tryd.underlying3
    unfold Instr.checkKey
    simp [go_sem]
  have hf : (Instr.findKey 3 (.int .i64 k) []).run Tryd.prog w = .ok none w := by
    unfold Instr.findKey
    simp only [Sem.run_bind, run_underlying Tryd.underlying3, Result.andThen_ok]
    rfl
  unfold Instr.lookup
  simp [run_underlying Tryd.underlying75, hz, hck, hf, Result.andThen]
theorem TkR.look {w : World} {mv : Value} {n : Nat} {T : TM} (h : TkR w mv n T) {k : Int} (hk : wf64 k) : (Instr.lookup 75 mv (.int .i64 k) false).run Tryd.prog w = .ok (akV (getA T k)) w := by
  rcases h with ⟨rfl, rfl⟩ | ⟨b, D, rfl, h1, h3⟩
  · exact nil_look k false w
  · obtain ⟨v, ps, hrun, hv⟩ := World.ownsMap.lookup (t := 75) (e := 86) h1 law3 Tryd.underlying75 (z := zA) (zero69 w) (zd := .held zA) (zp := []) rfl (key3 hk)
    rw [← h3.read hv]
    exact hrun
theorem TkR.lookOk {w : World} {mv : Value} {n : Nat} {T : TM} (h : TkR w mv n T) {k : Int} (hk : wf64 k) : (Instr.lookup 75 mv (.int .i64 k) true).run Tryd.prog w = .ok (.tuple #[akV (getA T k), .bool (T k).isSome]) w := by
  rcases h with ⟨rfl, rfl⟩ | ⟨b, D, rfl, h1, h3⟩
  · exact nil_look k true w
  · obtain ⟨v, ps, hrun, hv⟩ := World.ownsMap.look_ok (t := 75) (e := 86) h1 law3 Tryd.underlying75 (z := zA) (zero69 w) (zd := .held zA) (zp := []) rfl (key3 hk)
    rw [← h3.read hv, ← h3.has]
    exact hrun
theorem TkD.put {D : DataW Value} {T : TM} (h : TkD D T) (hm : IsMap D) (k : Int) (a : Ak) : TkD (D.put (.int .i64 k) (.held (akV a))) (tup T k a) := by
  refine ⟨fun j => ?_, fun j => ?_⟩
  · unfold tup
    by_cases e : j = k
    · subst e
      rw [has_put_same hm (by simp [WideAt.IsKeyLit]), if_pos rfl]; rfl
    · rw [has_put_other (by simpa using e), if_neg e]
      exact h.has j
  · unfold aAt getA tup
    by_cases e : j = k
    · subst e
      rw [atKey_put_same hm (by simp [WideAt.IsKeyLit]), if_pos rfl]; rfl
    · rw [atKey_put_other (by simpa using e), if_neg e]
      exact h.val j

/- an agent's numbers -/
structure Ag where
  id : Int
  c1 : Int
  c2 : Int
  sv : Int
  bt : Int
  ck : Int
  sn : Int
  hi : Int
  ep : Int
  le : Int
  bs : Int
  tk : Int
  t0 : Int
  t1 : Int
  t2 : Int
  t3 : Int
  t4 : Int
  t5 : Int
  t6 : Int
  t7 : Int
def agC (a : Ag) (pd : Nat) (mv : Value) : Array Value := #[.int .i64 a.id, .int .i64 a.c1, .int .i64 a.c2, .int .i64 a.sv, .pointer (some ⟨pd, 0, none⟩), .int .i64 a.bt, .int .i64 a.ck, .int .i64 a.sn, .int .i64 a.hi, .int .i64 a.ep, .int .i64 a.le, .int .i64 a.bs, .int .i64 a.tk, .int .i64 a.t0, .int .i64 a.t1, .int .i64 a.t2, .int .i64 a.t3, .int .i64 a.t4, .int .i64 a.t5, .int .i64 a.t6, .int .i64 a.t7, mv]
def AgB (w : World) (p : Nat) (a : Ag) (pd : Nat) (mv : Value) : Prop := w.heap[p]? = some (.cells (agC a pd mv) 77 (0, 0))
theorem AgB.at_ {w : World} {p : Nat} {a : Ag} {pd : Nat} {mv : Value} (h : AgB w p a pd mv) (j : Nat) : w.cell? ⟨p, j, none⟩ = (agC a pd mv)[j]? := cell_of_row w p j _ 77 (0, 0) h
theorem AgB.lt {w : World} {p : Nat} {a : Ag} {pd : Nat} {mv : Value} (h : AgB w p a pd mv) : p < w.heap.size := heap_lt h
theorem AgB.fr {w : World} {p : Nat} {a : Ag} {pd : Nat} {mv : Value} (h : AgB w p a pd mv) (o : Nat) : w.frozen? ⟨p, o, none⟩ = false := by
  have h' : w.heap[p]? = _ := h
  simp [World.frozen?, h']
theorem AgB.set {w : World} {p : Nat} {a a' : Ag} {pd : Nat} {mv mv' : Value} (h : AgB w p a pd mv) (j : Nat) (u : Value) (e : (agC a pd mv).setIfInBounds j u = agC a' pd mv') : AgB (w.setCell ⟨p, j, none⟩ u) p a' pd mv' := by
  have h' : w.heap[p]? = _ := h
  show _ = _
  rw [heap_setCell_same w p j _ 77 _ h', e]
theorem AgB.keep {w w' : World} {p : Nat} {a : Ag} {pd : Nat} {mv : Value} (h : AgB w p a pd mv) (e : w'.heap[p]? = w.heap[p]?) : AgB w' p a pd mv := e.trans h

/- the table of powers that Itoa reads lies below D -/
def Tb (D : Nat) (w : World) : Prop := Lib.TabIs Tryd.prog w "internal/strconv.uint64pow10" .u64 Lib.pow10Tab ∧ ∃ g, Tryd.prog.globalNamed "internal/strconv.uint64pow10" = some g ∧ g < D
theorem Tb.below {D : Nat} {w w' : World} (h : Tb D w) (hb : Below D w w') : Tb D w' := by
  obtain ⟨h1, g, h2, h3⟩ := h
  refine ⟨?_, g, h2, h3⟩
  unfold Lib.TabIs World.var? at h1 ⊢
  rw [h2] at h1 ⊢
  simp only [Option.bind_some] at h1 ⊢
  rw [hb.block g h3]
  exact h1
theorem below_grow {D : Nat} {w : World} (h : D ≤ w.heap.size) (k : Nat) (os : Array Obj) : Below D w (Go.Sort.grow (w.drewN k) os) := by
  refine ⟨rfl, rfl, rfl, ?_, fun j hj => ?_⟩
  · simp [Go.Sort.grow, World.drewN]
  · simp only [Go.Sort.grow, World.drewN]
    rw [Array.getElem?_append_left (by omega)]
theorem below_bytes {D : Nat} {w : World} (h : D ≤ w.heap.size) (t : TypeId) (s : ByteArray) : Below D w (Lib.bytesWorld w t s) := by
  refine ⟨rfl, rfl, rfl, by rw [Lib.bytesWorld_size]; omega, fun j hj => Lib.bytesWorld_at_old w t s j (by omega)⟩
end Go.Proofs.YtkienmncifonnaaDoor
