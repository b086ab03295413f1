/- Several texts in one (wip/gen/group.py). -/
import Derived.Test.YtblofbdncolikaaXs
import Derived.Maps.OwnIn
import Derived.Maps.OwnSet
import Derived.Test.YtblofbdncolikaaAp
import Derived.Test.YtblofbdncolikaaLf
/- Maps in memory, by what they hold for each key. -/
namespace Go.Proofs.Ytblofbdncolikaa
open Go.RowKit Go.Shelf
set_option maxRecDepth 100000 in
theorem eq39 (a b c d : Int) (w : World) : (Op.equal 60 (.agg #[.int .i64 a, .int .i64 b]) (.agg #[.int .i64 c, .int .i64 d])).run Try.prog w = .ok (decide ((c, d) = (a, b))) w := by
 have hu := Try.underlying60
 have h3 := Try.underlying3
 unfold Op.equal Op.maxDepth
 unfold Op.equalIn
 simp [go_sem, h3]
 by_cases h1 : a = c <;> by_cases h2 : b = d <;> simp [h1, h2] <;> first | omega | (intros; omega)
theorem ck3 (em : Bool) (n : Nat) (a : Int) (w : World) : (Instr.checkKey em (n + 1) 3 (.int .i64 a)).run Try.prog w = .ok () w := by
 have h3 := Try.underlying3
 unfold Instr.checkKey
 simp [go_sem]
set_option maxRecDepth 100000 in
theorem ck39 (em : Bool) (a b : Int) (w : World) : (Instr.checkKey em 10000 60 (.agg #[.int .i64 a, .int .i64 b])).run Try.prog w = .ok () w := by
 have hu := Try.underlying60
 have h3 := Try.underlying3
 unfold Instr.checkKey
 simp [go_sem, ck3]
def fnd {κ : Type} [DecidableEq κ] (k : κ) : List (κ × Value × Nat) → Nat → Option (Nat × Value)
 | [], _ => none
 | e :: L, i => if e.1 = k then some (i, e.2.1) else fnd k L (i + 1)
def enE {κ : Type} (kv : κ → Value) (e : κ × Value × Nat) : MapEntry := { key := kv e.1, val := e.2.1, born := e.2.2 }
structure Ky (κ : Type) [DecidableEq κ] (kt : TypeId) (kv : κ → Value) : Prop where
 check : ∀ (em : Bool) (w : World) (k : κ), (Instr.checkKey em 10000 kt (kv k)).run Try.prog w = .ok () w
 find : ∀ (w : World) (k : κ) (L : List (κ × Value × Nat)), (Instr.findKey kt (kv k) (L.map (enE kv))).run Try.prog w = .ok (fnd k L 0) w
 stay : ∀ (w : World) (k : κ), (Instr.keyThatStays (kv k) (kv k)).run Try.prog w = .ok (kv k) w
def kI (a : Int) : Value := .int .i64 a
def kS (a : Int × Int) : Value := .agg #[.int .i64 a.1, .int .i64 a.2]
theorem kyI : Ky Int 3 kI := by
 refine ⟨fun em w k => ck3 em 9999 k w, fun w k L => ?_, fun w k => by simp [Instr.keyThatStays, Instr.sameBits, kI]⟩
 have h : ∀ (L : List (Int × Value × Nat)) (i : Nat), Instr.findNow (.int .i64) (kI k) (L.map (enE kI)) i = some (fnd k L i) := by
  intro L
  induction L with
  | nil => intro i; rfl
  | cons e L ih =>
   intro i
   by_cases h : e.1 = k
   ·simp [Instr.findNow, Instr.sameNow, fnd, enE, kI, h]
   ·have h2 : ¬ k = e.1 := fun e' => h e'.symm
    have hb : (k == e.1) = false := by simp [h2]
    rw [List.map_cons, Instr.findNow, fnd, if_neg h]
    simp only [enE, kI, Instr.sameNow, if_true, hb]
    exact ih (i + 1)
 exact MapKept.run_findKey Try.underlying3 (h L 0)
theorem kyS : Ky (Int × Int) 60 kS := by
 refine ⟨fun em w k => ck39 em k.1 k.2 w, fun w k L => ?_, fun w k => by simp [Instr.keyThatStays, Instr.sameBits, kS]⟩
 have h : ∀ (L : List ((Int × Int) × Value × Nat)) (i : Nat), (Instr.findAsking 60 (kS k) (L.map (enE kS)) i).run Try.prog w = .ok (fnd k L i) w := by
  intro L
  induction L with
  | nil => intro i; simp [Instr.findAsking, fnd]
  | cons e L ih =>
   intro i
   have he := eq39 k.1 k.2 e.1.1 e.1.2 w
   rw [List.map_cons, Instr.findAsking, fnd]
   simp only [Sem.run_bind, enE, kS, he, Result.andThen_ok]
   by_cases h : e.1 = k
   ·simp [h]
   ·have h2 : ¬ ((e.1.1, e.1.2) = (k.1, k.2)) := fun e' => h e'
    rw [if_neg h, decide_eq_false h2]
    exact ih (i + 1)
 have hu := Try.underlying60
 cases L with
 | nil => simp [Instr.findKey, go_sem, Instr.findNow, fnd]
 | cons e L =>
  have hn : Instr.findNow (.struct #[{ name := "Group", type := 3, offset := 0, embedded := false, tag := "", pkgPath := "", byteOffset := 0 }, { name := "Index", type := 3, offset := 1, embedded := false, tag := "", pkgPath := "", byteOffset := 8 }]) (kS k) ((e :: L).map (enE kS)) 0 = none := by
   simp [Instr.findNow, Instr.sameNow, enE, kS]
  unfold Instr.findKey
  simp only [Sem.run_bind, run_underlying hu, Result.andThen_ok, hn]
  exact h _ 0
def MpR {κ : Type} [DecidableEq κ] (w : World) (b : Nat) (kv : κ → Value) (m : κ → Option Value) : Prop :=
 ∃ (L : List (κ × Value × Nat)) (clock : Nat), w.heap[b]? = some (.map (L.map (enE kv)).toArray clock) ∧ ∀ k, m k = (fnd k L 0).map (·.2)
theorem MpR.keep {κ : Type} [DecidableEq κ] {w w' : World} {b : Nat} {kv : κ → Value} {m : κ → Option Value} (h : MpR w b kv m) (hb : w'.heap[b]? = w.heap[b]?) : MpR w' b kv m := by
 obtain ⟨L, c, h1, h2⟩ := h
 exact ⟨L, c, hb.trans h1, h2⟩
theorem MpR.lt {κ : Type} [DecidableEq κ] {w : World} {b : Nat} {kv : κ → Value} {m : κ → Option Value} (h : MpR w b kv m) : b < w.heap.size := by
 obtain ⟨L, c, h1, h2⟩ := h
 exact heap_lt h1
theorem MpR.new {κ : Type} [DecidableEq κ] (w : World) (kv : κ → Value) : MpR (w.alloc (.map #[] 0)) w.heap.size kv (fun _ => none) := ⟨[], 0, (MapKept.heap_alloc w _).1, fun _ => rfl⟩
theorem MpR.look {κ : Type} [DecidableEq κ] {w : World} {b : Nat} {kv : κ → Value} {m : κ → Option Value} (h : MpR w b kv m) {kt et t : TypeId} (K : Ky κ kt kv) (ht : Try.prog.underlying t = some (.map kt et)) {z : Value} (hz : (zeroValue et).run Try.prog w = .ok z w) (k : κ) (c : Bool) :
  (Instr.lookup t (.map (some b)) (kv k) c).run Try.prog w = .ok (if c then .tuple #[(m k).getD z, .bool (m k).isSome] else (m k).getD z) w := by
 obtain ⟨L, cl, h1, h2⟩ := h
 have hf := K.find w k L
 rw [h2 k]
 have hgo : (getObj b).run Try.prog w = .ok (.map (L.map (enE kv)).toArray cl) w := by simp [getObj, Sem.run, h1]
 have hck := K.check (L.map (enE kv)).toArray.isEmpty w k
 unfold Instr.lookup
 simp only [Sem.run_bind, run_underlying ht, Result.andThen_ok, hgo, Sem.run_pure, hck, hf]
 cases hv : fnd k L 0 with
 | none => cases c <;> simp [hz, Result.andThen]
 | some x => cases c <;> simp
theorem fnd_up {κ : Type} [DecidableEq κ] (k : κ) (v : Value) : ∀ (L : List (κ × Value × Nat)) (i j : Nat) (x : Value), fnd k L i = some (j, x) → i ≤ j ∧ (∃ e, L[j - i]? = some e ∧ e.1 = k) ∧ ∀ k', (fnd k' (L.modify (j - i) fun e => (e.1, v, e.2.2)) i).map (·.2) = if k' = k then some v else (fnd k' L i).map (·.2)
 | [], i, j, x, h => by simp [fnd] at h
 | e :: L, i, j, x, h => by
  by_cases he : e.1 = k
  ·rw [fnd, if_pos he] at h
   cases h
   refine ⟨Nat.le_refl _, ⟨e, by simp, he⟩, fun k' => ?_⟩
   simp only [Nat.sub_self, List.modify_zero_cons, fnd]
   by_cases hk : k' = k
   ·subst hk; simp [he]
   ·have hne : ¬ e.1 = k' := fun e' => hk (e'.symm.trans he)
    rw [if_neg hne, if_neg hne, if_neg hk]
  ·rw [fnd, if_neg he] at h
   obtain ⟨h1, ⟨e2, h2, h2k⟩, h3⟩ := fnd_up k v L (i + 1) j x h
   have hj : j - i = (j - (i + 1)) + 1 := by omega
   refine ⟨by omega, ⟨e2, by rw [hj, List.getElem?_cons_succ]; exact h2, h2k⟩, fun k' => ?_⟩
   rw [hj, List.modify_succ_cons, fnd, fnd]
   by_cases hk : e.1 = k'
   ·have hne : ¬ k' = k := fun e' => he (hk.trans e')
    simp [hk, hne]
   ·rw [if_neg hk, if_neg hk]; exact h3 k'
theorem fnd_push {κ : Type} [DecidableEq κ] (k : κ) (v : Value) (n : Nat) : ∀ (L : List (κ × Value × Nat)) (i : Nat), fnd k L i = none → ∀ k', (fnd k' (L ++ [(k, v, n)]) i).map (·.2) = if k' = k then some v else (fnd k' L i).map (·.2)
 | [], i, _, k' => by
  by_cases hk : k' = k
  ·subst hk; simp [fnd]
  ·have : ¬ k = k' := fun e => hk e.symm
   simp [fnd, hk, this]
 | e :: L, i, h, k' => by
  by_cases he : e.1 = k
  ·rw [fnd, if_pos he] at h; cases h
  ·rw [fnd, if_neg he] at h
   rw [List.cons_append, fnd, fnd]
   by_cases hk : e.1 = k'
   ·have hne : ¬ k' = k := fun e' => he (hk.trans e')
    simp [hk, hne]
   ·rw [if_neg hk, if_neg hk]; exact fnd_push k v n L (i + 1) h k'
theorem MpR.up {κ : Type} [DecidableEq κ] {w : World} {b : Nat} {kv : κ → Value} {m : κ → Option Value} (h : MpR w b kv m) {kt et t : TypeId} (K : Ky κ kt kv) (ht : Try.prog.underlying t = some (.map kt et)) (k : κ) (v : Value) :
  ∃ w', (Instr.mapUpdate t (.map (some b)) (kv k) v).run Try.prog w = .ok () w' ∧ MpR w' b kv (fun j => if j = k then some v else m j) ∧ (∀ i, i ≠ b → w'.heap[i]? = w.heap[i]?) ∧ w'.heap.size = w.heap.size ∧ w.grownBy w' (some b) := by
 obtain ⟨L, cl, h1, h2⟩ := h
 have hf := K.find w k L
 have hlt := heap_lt h1
 have hgo : (getObj b).run Try.prog w = .ok (.map (L.map (enE kv)).toArray cl) w := by simp [getObj, Sem.run, h1]
 have hso : ∀ o, (setObj b o).run Try.prog w = .ok () (w.putObj b o) := fun o => by simp [setObj, Sem.run, World.putObj, h1]
 cases hv : fnd k L 0 with
 | none =>
  rw [hv] at hf
  refine ⟨w.putObj b (.map ((L ++ [(k, v, cl)]).map (enE kv)).toArray (cl + 1)), ?_, ⟨L ++ [(k, v, cl)], cl + 1, World.putObj_heap_same hlt, fun k' => ?_⟩, fun i hi => World.putObj_heap_other hi, put_size _ _ _, grownBy_putObj' _ _ _⟩
  ·unfold Instr.mapUpdate
   simp only [Sem.run_bind, run_underlying ht, Result.andThen_ok, hgo, K.check, hf]
   rw [hso]
   simp [enE]
  ·show (if k' = k then some v else m k') = _
   rw [h2 k']; exact (fnd_push k v cl L 0 hv k').symm
 | some x =>
  obtain ⟨j, y⟩ := x
  rw [hv] at hf
  obtain ⟨_, ⟨e, he, hek⟩, hm⟩ := fnd_up k v L 0 j y hv
  simp only [Nat.sub_zero] at he hm
  refine ⟨w.putObj b (.map ((L.modify j fun e => (e.1, v, e.2.2)).map (enE kv)).toArray cl), ?_, ⟨L.modify j fun e => (e.1, v, e.2.2), cl, World.putObj_heap_same hlt, fun k' => ?_⟩, fun i hi => World.putObj_heap_other hi, put_size _ _ _, grownBy_putObj' _ _ _⟩
  ·have harr : ((L.map (enE kv)).toArray.modify j fun e => { e with key := kv k, val := v }) = ((L.modify j fun e => (e.1, v, e.2.2)).map (enE kv)).toArray := by
    apply Array.ext'
    simp only [Array.toList_modify]
    apply List.ext_getElem?
    intro i
    simp only [List.getElem?_modify, List.getElem?_map]
    by_cases hi : j = i
    ·subst hi; simp [he, enE, hek]
    ·simp [hi]
   unfold Instr.mapUpdate
   have hst : (Instr.keyThatStays ((((L.map (enE kv)).toArray[j]?).map (·.key)).getD (kv k)) (kv k)).run Try.prog w = .ok (kv k) w := by
    have : (((L.map (enE kv)).toArray[j]?).map (·.key)).getD (kv k) = kv k := by simp [he, enE, hek]
    rw [this]; exact K.stay w k
   simp only [Sem.run_bind, run_underlying ht, Result.andThen_ok, hgo, K.check, hf, hst]
   rw [hso, harr]
  ·show (if k' = k then some v else m k') = _
   rw [h2 k']; exact (hm k').symm
theorem wpList_mapX {κ : Type} [DecidableEq κ] (w : World) {ops : Array Oper} {rest : List Oper} {o : Oper} {a : Act} {Q : Exit → Act → World → Prop}
  (hg : o.guard = none) (m x v : Operand) (t : TypeId) (hop : o.op = Op.mapUpdate t m x v) (kt et : TypeId) {kv : κ → Value} (K : Ky κ kt kv) (ht : Try.prog.underlying t = some (.map kt et)) (b : Nat) (mm : κ → Option Value)
  (hm : a.eval m = .map (some b)) (h : MpR w b kv mm) (k : κ) (val : Value) (hx : a.eval x = kv k) (hv : a.eval v = val)
  (hK : ∀ w', MpR w' b kv (fun j => if j = k then some val else mm j) → (∀ i, i ≠ b → w'.heap[i]? = w.heap[i]?) → w'.heap.size = w.heap.size → w.grownBy w' (some b) → wpList Try.prog ops Q rest (a.put o.dst undef) w') :
  wpList Try.prog ops Q (o :: rest) a w := by
 refine wpList_plain hg fun K' hK' => ?_
 obtain ⟨w', hrun, r1, r2, r3, r4⟩ := h.up K ht k val
 unfold Oper.wp
 simp [execOp, hop, hm, hx, hv, hrun, Result.andThen]
 exact hK' _ _ (hK w' r1 r2 r3 r4)
theorem wpListIn_mapX {κ : Type} [DecidableEq κ] {F : Fence} {nF : Nat} (w : World) {ops : Array Oper} {rest : List Oper} {o : Oper} {a : Act} {Q : Exit → Act → World → Prop}
  (hg : o.guard = none) (m x v : Operand) (t : TypeId) (hop : o.op = Op.mapUpdate t m x v) (kt et : TypeId) {kv : κ → Value} (K : Ky κ kt kv) (ht : Try.prog.underlying t = some (.map kt et)) (b : Nat) (mm : κ → Option Value)
  (hm : a.eval m = .map (some b)) (h : MpR w b kv mm) (k : κ) (val : Value) (hx : a.eval x = kv k) (hv : a.eval v = val)
  (hK : ∀ w', MpR w' b kv (fun j => if j = k then some val else mm j) → (∀ i, i ≠ b → w'.heap[i]? = w.heap[i]?) → w'.heap.size = w.heap.size → w.grownBy w' (some b) → wpListIn F nF Try.prog ops Q rest (a.put o.dst undef) w') :
  wpListIn F nF Try.prog ops Q (o :: rest) a w := by
 refine wpListIn_plain hg fun K' hK' => ?_
 obtain ⟨w', hrun, r1, r2, r3, r4⟩ := h.up K ht k val
 unfold Oper.wpIn
 refine ⟨by simp [Oper.about, hop], ?_⟩
 rw [Oper.semAt_plain F _ _ (by rw [hop]; intro c hc'; cases hc')]
 simp [execOp, hop, hm, hx, hv, hrun, Result.andThen]
 exact hK' _ _ (hK w' r1 r2 r3 r4)
end Go.Proofs.Ytblofbdncolikaa

/- Which nodes take tasks: the code's openNodes. -/
namespace Go.Proofs.Ytblofbdncolikaa
open Go.RowKit Go.Shelf
def opK (L : List Nd) : Nat → List Int
 | 0 => []
 | k + 1 => if (L[k]?.getD default).id ∈ opK L k ∨ (L[k]?.getD default).up = false ∨ (L[k]?.getD default).dr = true then opK L k else opK L k ++ [(L[k]?.getD default).id]
theorem opK_at (L : List Nd) (k : Nat) (x : Nd) (D : List Int) (hD : D = opK L k) (h : k < L.length) (hx : L[k] = x) : opK L (k + 1) = if x.id ∈ D ∨ x.up = false ∨ x.dr = true then D else D ++ [x.id] := by
 rw [opK, ← hD, getD_at L k h, hx]
theorem opK_len (L : List Nd) (k : Nat) : (opK L k).length ≤ k := by
 induction k with
 | zero => simp [opK]
 | succ k ih =>
  rw [opK]
  split
  ·omega
  ·rw [List.length_append, List.length_singleton]; omega
theorem iC_len (x : Int) : (iC x).length = 1 := rfl
theorem iC_one (x : Int) : ∀ u ∈ iC x, u.oneCell' = true := by intro u hu; simp [iC] at hu; subst hu; rfl
theorem info3 : (Try.prog.info? 3).map (fun i => (i.zero, i.size, i.bytes)) = some (some (.int .i64 0), 1, 8) := by kernel_rfl
def unS (D : List Int) (j : Int) : Option Value := if j ∈ D then some (.agg #[]) else none
theorem unS_snoc (D : List Int) (z : Int) : (fun j => if j = z then some (.agg #[]) else unS D j) = unS (D ++ [z]) := by
 funext j
 unfold unS
 by_cases h : j = z
 ·simp [h]
 ·by_cases h2 : j ∈ D
  ·simp [h, h2]
  ·simp [h, h2]
theorem unS_look {w : World} {b : Nat} {D : List Int} (h : MpR w b kI (unS D)) (z : Int) : (Instr.lookup 91 (.map (some b)) (.int .i64 z) true).run Try.prog w = .ok (.tuple #[.agg #[], .bool (decide (z ∈ D))]) w := by
 have := h.look kyI Try.underlying91 (Try.zeroValue115 w) z true
 rw [if_pos rfl] at this
 refine this.trans ?_
 unfold unS
 by_cases h : z ∈ D <;> simp [h]
theorem newN (w : World) (cs : List Value) (t : TypeId) : ∀ (j : Nat) (u : Value), cs[j]? = some u → (w.alloc (.cells cs.toArray t)).cell? ((⟨w.heap.size, 0, none⟩ : Addr).add j) = some u := by
 intro j u hj
 have := box_new (wr := w) (cs := cs) (t := t) (Below.refl _ _) j u hj
 unfold Addr.add
 split
 ·rename_i h; subst h; exact this
 ·exact this
theorem new1 (w : World) (x : Int) : ∀ (j : Nat) (u : Value), (iC x)[j]? = some u → (w.alloc (.cells #[.int .i64 x] 3)).cell? ((⟨w.heap.size, 0, none⟩ : Addr).add j) = some u := newN w (iC x) 3
theorem own_blk2 {w : World} {base e k n : Nat} {v : Value} {xs : List Value} (h : w.ownsRow base e k v n xs) : ∀ g, v.ownBlock = some g → base ≤ g ∧ g < w.heap.size := by
 intro g hg
 rcases h.2 with ⟨hv, _⟩ | ⟨g', cap, cur, hv, hl, hg', _⟩
 ·subst hv; cases hg
 ·subst hv
  cases hg
  exact ⟨hl, heap_lt hg'⟩
set_option maxRecDepth 100000 in
set_option maxHeartbeats 4000000 in
theorem open_any (L : List Nd) (a : Option Addr) (cap : Nat) (w : World) (hL : Fl w (fun b => b < w.heap.size) 8 56 Nd.cs a L) :
  Calls Try.prog 63 #[.slice a L.length cap] w fun e w' => ∃ a' c', e = .returned (.slice a' (opK L L.length).length c') ∧ w'.ownsRow (w.heap.size + 1) 3 1 (.slice a' (opK L L.length).length c') (opK L L.length).length (fl iC (opK L L.length)) ∧ Below w.heap.size w w' := by
 have hbd := hL.bd
 have HL := hidOf hL
 clear hL
 have hmm := @run_makeMap Try.prog
 go_enter Try.func63, Try.ntmps63
 go_wp2
 go_loopw [12, 3] (fun i o wr => ∃ (k : Nat) (D : List Int) (a' : Option Addr) (c' : Nat), k ≤ L.length ∧ i = .int .i64 k ∧ o = .slice a' D.length c' ∧ Hid (D = opK L k) ∧ Hid (wr.ownsRow (w.heap.size + 1) 3 1 (.slice a' D.length c') D.length (fl iC D)) ∧ Hid (MpR wr w.heap.size kI (unS D)) ∧ Hid (Below w.heap.size w wr) ∧ w.heap.size + 1 ≤ wr.heap.size) (fun i _ _ => L.length - (intOf i).toNat)
 case atStart => exact ⟨0, [], none, 0, Nat.zero_le _, rfl, rfl, hidOf rfl, hidOf (World.ownsRow_nil _ _ _ _), hidOf (MpR.new w kI), hidOf (below1 w _), by simp⟩
 case round =>
  obtain ⟨k, D, a', c', hk, rfl, rfl, HD, HO, HM, HB, hsz⟩ := hrel
  by_cases hlt : k < L.length
  ·obtain ⟨b, off, ha, hQb, hcc⟩ := HL.out.at k hlt
   have hbw : b < w.heap.size := hQb
   obtain ⟨x, hx⟩ : ∃ x, L[k] = x := ⟨_, rfl⟩
   have HOP := hidOf (opK_at L k x D HD.out hlt hx)
   rw [hx] at hcc
   have hdl : D.length ≤ k := by rw [HD.out]; exact opK_len L k
   clear hx
   subst ha
   have hcr := range_of hcc (HB.out.block b hbw)
   have hbl : b < wr.heap.size := by omega
   have c0 : wr.cell? ⟨b, off + k * 8, none⟩ = some (.int .i64 x.id) := hcr 0 _ rfl
   have c1 : wr.cell? ⟨b, off + k * 8 + 1, none⟩ = some (.int .i64 x.c) := hcr 1 _ rfl
   have c2 : wr.cell? ⟨b, off + k * 8 + 2, none⟩ = some (.int .i64 x.m) := hcr 2 _ rfl
   have c3 : wr.cell? ⟨b, off + k * 8 + 3, none⟩ = some (.bool x.up) := hcr 3 _ rfl
   have c4 : wr.cell? ⟨b, off + k * 8 + 4, none⟩ = some (.bool x.dr) := hcr 4 _ rfl
   have c5 : wr.cell? ⟨b, off + k * 8 + 5, none⟩ = some (.int .i64 x.bo) := hcr 5 _ rfl
   have c6 : wr.cell? ⟨b, off + k * 8 + 6, none⟩ = some (.int .i64 x.ep) := hcr 6 _ rfl
   have c7 : wr.cell? ⟨b, off + k * 8 + 7, none⟩ = some (.int .i64 x.se) := hcr 7 _ rfl
   clear hcc hcr
   have HMW : Hid (∀ W, Below wr.heap.size wr W → MpR W w.heap.size kI (unS D)) := hidOf fun W hb => HM.out.keep (hb.block _ (by omega))
   have hlk := unS_look (HMW.out _ (below1 wr (.cells #[.int .i64 x.id, .int .i64 x.c, .int .i64 x.m, .bool x.up, .bool x.dr, .int .i64 x.bo, .int .i64 x.ep, .int .i64 x.se] 46))) x.id
   by_cases hm : x.id ∈ D
   ·rw [decide_eq_true hm] at hlk
    have HN : Hid (D = opK L (k + 1)) := hidOf (by rw [HOP.out, if_pos (.inl hm)])
    go_wp2
    go_roundw
    case rel => exact ⟨k + 1, D, a', c', by omega, by simp, rfl, HN, hidOf (own_kept HO.out (fun b _ hb => (below2 wr _ _).block b hb)), hidOf (HMW.out _ (below2 wr _ _)), hidOf (HB.out.trans ((below2 wr _ _).mono HB.out.size)), by simp; omega⟩
    case measure => simp [intOf]; omega
   ·rw [decide_eq_false hm] at hlk
    cases hup : x.up with
    | false =>
     rw [hup] at c3 hlk
     have HN : Hid (D = opK L (k + 1)) := hidOf (by rw [HOP.out, if_pos (.inr (.inl hup))])
     go_wp2
     go_roundw
     case rel => exact ⟨k + 1, D, a', c', by omega, by simp, rfl, HN, hidOf (own_kept HO.out (fun b _ hb => (below2 wr _ _).block b hb)), hidOf (HMW.out _ (below2 wr _ _)), hidOf (HB.out.trans ((below2 wr _ _).mono HB.out.size)), by simp; omega⟩
     case measure => simp [intOf]; omega
    | true =>
     rw [hup] at c3 hlk
     cases hdr : x.dr with
     | true =>
      rw [hdr] at c4 hlk
      have HN : Hid (D = opK L (k + 1)) := hidOf (by rw [HOP.out, if_pos (.inr (.inr hdr))])
      go_wp2
      go_roundw
      case rel => exact ⟨k + 1, D, a', c', by omega, by simp, rfl, HN, hidOf (own_kept HO.out (fun b _ hb => (below2 wr _ _).block b hb)), hidOf (HMW.out _ (below2 wr _ _)), hidOf (HB.out.trans ((below2 wr _ _).mono HB.out.size)), by simp; omega⟩
      case measure => simp [intOf]; omega
     | false =>
      rw [hdr] at c4 hlk
      have HN : Hid (D ++ [x.id] = opK L (k + 1)) := hidOf (by rw [HOP.out, if_neg (by rw [hup, hdr]; simp [hm])])
      have hbx : ((((wr.alloc (.cells #[.int .i64 x.id, .int .i64 x.c, .int .i64 x.m, .bool true, .bool false, .int .i64 x.bo, .int .i64 x.ep, .int .i64 x.se] 46)).alloc (.cells #[] 115))).cell? ⟨wr.heap.size, 0, none⟩ = some (.int .i64 x.id)) := box_new (wr := wr) (cs := [.int .i64 x.id, .int .i64 x.c, .int .i64 x.m, .bool true, .bool false, .int .i64 x.bo, .int .i64 x.ep, .int .i64 x.se]) (t := 46) (below1 _ _) 0 _ rfl
      go_wp2_with (first | (at_mapUpdate; refine wpList_mapX _ rfl _ _ _ 91 rfl 3 115 kyI Try.underlying91 w.heap.size _ rfl (HMW.out _ (below2 wr _ _)) x.id (.agg #[]) rfl rfl ?_; intro w2 hm2 hs2 hz2 hg2; have e0 : w2.cell? ⟨wr.heap.size, 0, none⟩ = some (.int .i64 x.id) := (World.cell?_of_block (hs2 wr.heap.size (by omega))).trans hbx; rw [unS_snoc] at hm2; have HM2 := hidOf hm2; have HS2 := hidOf hs2; have HG2 := hidOf hg2; have hz3 : w2.heap.size = wr.heap.size + 1 + 1 := (by rw [hz2]; simp); have lx : wr.heap.size < w2.heap.size := (by omega); have HZ3 := hidOf hz3; have HO2 := hidOf (own_kept HO.out (w' := w2.alloc (.cells #[.int .i64 x.id] 3)) (fun b h1 hb => ((below1 w2 _).block b (by omega)).trans ((hs2 b (by omega)).trans ((below2 wr _ _).block b hb)))); clear hm2 hs2 hz2 hg2 hz3) | (at_builtin; refine wpList_app1 _ rfl _ _ 33 rfl (w.heap.size + 1) 3 _ 1 8 Try.underlying33 info3 rfl (by decide) _ D.length (fl iC D) rfl HO2.out ⟨w2.heap.size, 0, none⟩ 1 (iC x.id) rfl rfl (new1 w2 x.id) (iC_one _) (by unfold maxLen; omega) (by omega) (by simp; omega) ?_; intro a2 c2 w3 hown3 hg3; have HO3 := hidOf hown3; have HG3 := hidOf hg3; clear hown3 hg3))
      have hblk := own_blk2 HO.out
      have hz3 := HZ3.out
      have hs3 := HG3.out.size
      simp only [World.size_alloc] at hs3
      go_roundw
      case rel =>
       exact ⟨k + 1, D ++ [x.id], a2, c2, by omega, by simp, by simp, HN, hidOf (by rw [fl_snoc, List.length_append]; exact HO3.out), hidOf (HM2.out.keep ((HG3.out.block _ (by simp; omega) (fun e => by have := (hblk _ e.symm).1; omega)).trans ((below1 w2 _).block _ (by omega)))), hidOf ((((HB.out.trans ((below2 wr _ _).mono HB.out.size)).grown HG2.out (by simp; omega) (fun k e => by cases e; exact Nat.le_refl _)).alloc (by omega) _).grown HG3.out (by simp; omega) (fun k e => by have := (hblk k e).1; omega)), by omega⟩
      case measure => simp [intOf]; omega
  ·have hkl : k = L.length := by omega
   subst hkl
   have HDD := HD.out
   subst HDD
   go_wp2
   go_ret
   exact ⟨a', c', rfl, HO.out, HB.out⟩
end Go.Proofs.Ytblofbdncolikaa

/- The maker of the iterator over slots; the nodes by their IDs. -/
namespace Go.Proofs.Ytblofbdncolikaa
open Go.RowKit Go.Shelf
theorem run_store_func {P : Program} {w : World} {a : Addr} {m : Mode} (fn : Fn) (x y : Array Value) : (store a (.func fn x y) m).run P w = stored P w a (.func fn x y) m := run_store P w a _ m rfl
attribute [local go_sem] run_store_func
def ixV (d : Jb) (Ln : List Nd) : Gp → List Int := if d.ty = 3 then fun _ => opK Ln Ln.length else fun g => ups (cnN g.n)
def slV (d : Jb) (Ln : List Nd) : List (Int × Int) := if d.sd = true then [] else slK (ixV d Ln) d.gs d.gs.length
set_option maxRecDepth 100000 in
set_option maxHeartbeats 4000000 in
theorem slots_any (d : Jb) (ga : Option Addr) (gc : Nat) (Ln : List Nd) (na : Option Addr) (nc : Nat) (S : Nat → Prop) (w : World) (hS : ∀ k, S k → k < w.heap.size) (hG : Fl w S 3 24 Gp.cs ga d.gs) (hN : Fl w (fun b => b < w.heap.size) 8 56 Nd.cs na Ln) :
  Calls Try.prog 46 #[.agg #[.int .i64 d.id, .int .i64 d.ty, .int .i64 d.pr, .int .i64 d.pa, .slice ga d.gs.length gc, .int .i64 d.ve, .bool d.sd], .slice na Ln.length nc] w fun e w' => e = .returned (.func (.func 66) #[] #[.pointer (some ⟨w.heap.size, 0, none⟩), .pointer (some ⟨w.heap.size + 1, 0, none⟩)]) ∧ Below w.heap.size w w' ∧ w.heap.size + 1 < w'.heap.size ∧ ∀ n, SeqY n 66 #[.pointer (some ⟨w.heap.size, 0, none⟩), .pointer (some ⟨w.heap.size + 1, 0, none⟩)] eS (fun k => S k ∨ (w.heap.size ≤ k ∧ k < w'.heap.size)) (slV d Ln) w' := by
 have hmf : ∀ (fn : Fn) (first cap : Array Value) (w : World), (Instr.makeFunc fn first cap).run Try.prog w = .ok (.func fn first cap) w := fun _ _ _ _ => rfl
 have hB1 := below2 w (.cells #[.int .i64 d.id, .int .i64 d.ty, .int .i64 d.pr, .int .i64 d.pa, .slice ga d.gs.length gc, .int .i64 d.ve, .bool d.sd] 51) (.cells #[.func (.func 62) #[] #[]] 130)
 have HJ := hidOf (two_boxes (cs := [.int .i64 d.id, .int .i64 d.ty, .int .i64 d.pr, .int .i64 d.pa, .slice ga d.gs.length gc, .int .i64 d.ve, .bool d.sd]) (ds := [.func (.func 62) #[] #[]]) (t := 51) (u := 130) (w := w) (Below.refl _ _))
 have HG := hidOf hG
 have HN := hidOf hN
 have HS := hidOf hS
 have HB1 := hidOf hB1
 clear hG hN hS hB1
 by_cases hty : d.ty = 3
 ·have HV : Hid (slV d Ln = if d.sd = true then [] else slK (fun _ => opK Ln Ln.length) d.gs d.gs.length) := hidOf (by unfold slV ixV; rw [if_pos hty])
  have HTY := hidOf hty
  have hbq : ((d.ty == 3) = true) := by rw [hty]; rfl
  clear hty
  have j1 : ((w.alloc (.cells #[.int .i64 d.id, .int .i64 d.ty, .int .i64 d.pr, .int .i64 d.pa, .slice ga d.gs.length gc, .int .i64 d.ve, .bool d.sd] 51)).alloc (.cells #[.func (.func 62) #[] #[]] 130)).cell? ⟨w.heap.size, 1, none⟩ = some (.int .i64 d.ty) := HJ.out.1 1 _ rfl
  have HOP := hidOf (open_any Ln na nc ((w.alloc (.cells #[.int .i64 d.id, .int .i64 d.ty, .int .i64 d.pr, .int .i64 d.pa, .slice ga d.gs.length gc, .int .i64 d.ve, .bool d.sd] 51)).alloc (.cells #[.func (.func 62) #[] #[]] 130)) (HN.out.kept (fun b hb => HB1.out.block b hb) (fun b hb => Nat.lt_of_lt_of_le hb HB1.out.size)))
  go_enter Try.func46, Try.ntmps46
  go_wp2_with (go_at_call 63; refine HOP.out.mono ?_; rintro e w2 ⟨a', c', rfl, hown, hb2⟩; have HOW := hidOf hown; have HB2 := hidOf hb2; have hs2 := hb2.size; simp only [World.size_alloc] at hs2; have q1 : w2.cell? ⟨w.heap.size + 1, 0, none⟩ = some (.func (.func 62) #[] #[]) := (hb_cell hb2 (by simp)).trans (HJ.out.2.1 0 _ rfl); have lq : w.heap.size + 1 < w2.heap.size := (by omega); have fq : w2.frozen? ⟨w.heap.size + 1, 0, none⟩ = false := frozen_of_row w2 _ 0 #[.func (.func 62) #[] #[]] 130 ((hb2.block _ (by simp)).trans (by have := heap_alloc_new (w.alloc (.cells #[.int .i64 d.id, .int .i64 d.ty, .int .i64 d.pr, .int .i64 d.pa, .slice ga d.gs.length gc, .int .i64 d.ve, .bool d.sd] 51)) (.cells #[.func (.func 62) #[] #[]] 130); rw [World.size_alloc] at this; exact this)); clear hown hb2)
  go_ret
  obtain ⟨v, hv⟩ : ∃ v, Value.func (.func 64) #[] #[.pointer (some ⟨w2.heap.size, 0, none⟩)] = v := ⟨_, rfl⟩
  rw [hv]
  have hbl1 := opK_len Ln Ln.length
  have hbd := HN.out.bd
  have BZ : Below w.heap.size w ((w2.setCell ⟨w.heap.size + 1, 0, none⟩ v).alloc (.cells #[.slice a' (opK Ln Ln.length).length c'] 33)) := ((HB1.out.trans (HB2.out.mono HB1.out.size)).setCell (p := ⟨w.heap.size + 1, 0, none⟩) (by show w.heap.size ≤ w.heap.size + 1; omega) _).alloc (by simp; omega) _
  have hzz : ((w2.setCell ⟨w.heap.size + 1, 0, none⟩ v).alloc (.cells #[.slice a' (opK Ln Ln.length).length c'] 33)).heap.size = w2.heap.size + 1 := by simp
  have hoth : ∀ b, b < w2.heap.size → b ≠ w.heap.size + 1 → ((w2.setCell ⟨w.heap.size + 1, 0, none⟩ v).alloc (.cells #[.slice a' (opK Ln Ln.length).length c'] 33)).heap[b]? = w2.heap[b]? := fun b hb hne => ((below1 _ _).block b (by simpa using hb)).trans (heap_setCell_other w2 ⟨w.heap.size + 1, 0, none⟩ b _ hne)
  refine ⟨rfl, BZ, by omega, fun n => ?_⟩
  rw [HV.out]
  refine it43o n w.heap.size (w.heap.size + 1) w2.heap.size a' c' (opK Ln Ln.length) d ga gc _ _ (fun k hk => hk.elim (fun h => Nat.lt_of_lt_of_le (HS.out k h) BZ.size) (fun h => h.2)) (.inr ⟨Nat.le_refl _, by omega⟩) (.inr ⟨by omega, by omega⟩) (.inr ⟨by omega, by omega⟩) ?_ ?_ ?_ ?_ (HG.out.kept (fun b hb => BZ.block b (HS.out b hb)) (fun _ h => .inl h))
  ·exact range_of HJ.out.1 ((hoth _ (by omega) (by omega)).trans (HB2.out.block _ (by simp; omega)))
  ·rw [hv]
   exact (hb_cell (below1 _ _) (by simp; omega)).trans (World.cell?_setCell_same' w2 ⟨w.heap.size + 1, 0, none⟩ v (by rw [q1]; rfl))
  ·have := (Boxed.new (w2.setCell ⟨w.heap.size + 1, 0, none⟩ v) 33 (.slice a' (opK Ln Ln.length).length c')).cell
   simpa using this
  ·refine (own_fl (y := 8) iC_len HOW.out (by omega)).kept (fun b hb => ?_) (fun b hb => ?_)
   ·have h1 := hb.1; simp at h1; exact hoth b hb.lt (by omega)
   ·have h1 := hb.1; have h2 := hb.lt; simp at h1; exact .inr ⟨by omega, by omega⟩
 ·have HV : Hid (slV d Ln = if d.sd = true then [] else slK (fun g => ups (cnN g.n)) d.gs d.gs.length) := hidOf (by unfold slV ixV; rw [if_neg hty])
  have hbq : ((d.ty == 3) = false) := by simp [hty]
  have j1 : ((w.alloc (.cells #[.int .i64 d.id, .int .i64 d.ty, .int .i64 d.pr, .int .i64 d.pa, .slice ga d.gs.length gc, .int .i64 d.ve, .bool d.sd] 51)).alloc (.cells #[.func (.func 62) #[] #[]] 130)).cell? ⟨w.heap.size, 1, none⟩ = some (.int .i64 d.ty) := HJ.out.1 1 _ rfl
  go_enter Try.func46, Try.ntmps46
  go_wp2
  go_ret
  refine ⟨rfl, HB1.out, by simp, fun n => ?_⟩
  rw [HV.out]
  exact it43c n w.heap.size (w.heap.size + 1) d ga gc _ ((w.alloc (.cells #[.int .i64 d.id, .int .i64 d.ty, .int .i64 d.pr, .int .i64 d.pa, .slice ga d.gs.length gc, .int .i64 d.ve, .bool d.sd] 51)).alloc (.cells #[.func (.func 62) #[] #[]] 130)) (fun k hk => hk.elim (fun h => Nat.lt_of_lt_of_le (HS.out k h) HB1.out.size) (fun h => h.2)) (.inr ⟨Nat.le_refl _, by simp; omega⟩) (.inr ⟨by omega, by simp⟩) HJ.out.1 (HJ.out.2.1 0 _ rfl) (HG.out.kept (fun b hb => HB1.out.block b (HS.out b hb)) (fun _ h => .inl h))
def ndV (x : Nd) : Value := .agg #[.int .i64 x.id, .int .i64 x.c, .int .i64 x.m, .bool x.up, .bool x.dr, .int .i64 x.bo, .int .i64 x.ep, .int .i64 x.se]
def fnM (L : List Nd) (k : Nat) (j : Int) : Option Nd := (L.take k).find? (fun x => isI x.id j)
def fnV (L : List Nd) (k : Nat) (j : Int) : Option Value := (fnM L k j).map ndV
theorem fnM_at (L : List Nd) (k : Nat) (h : k < L.length) (j : Int) : fnM L (k + 1) j = (fnM L k j).or (if isI L[k].id j = true then some L[k] else none) := by
 unfold fnM
 rw [take_snoc L k h, List.find?_append]
 congr 1
 simp only [List.find?_cons, List.find?_nil]
 split <;> simp_all
theorem fnV_old (L : List Nd) (k : Nat) (h : k < L.length) (x y : Nd) (hx : L[k] = x) (hy : fnM L k x.id = some y) : fnV L (k + 1) = fnV L k := by
 funext j
 unfold fnV
 rw [fnM_at L k h j, hx]
 by_cases hj : isI x.id j = true
 ·have : x.id = j := by simpa [isI] using hj
  rw [← this, hy]; rfl
 ·rw [if_neg hj, Option.or_none]
theorem fnV_new (L : List Nd) (k : Nat) (h : k < L.length) (x : Nd) (hx : L[k] = x) (hy : fnM L k x.id = none) : (fun j => if j = x.id then some (ndV x) else fnV L k j) = fnV L (k + 1) := by
 funext j
 unfold fnV
 rw [fnM_at L k h j, hx]
 by_cases hj : j = x.id
 ·subst hj; rw [hy]; simp [isI]
 ·have h2 : ¬ isI x.id j = true := fun e => hj (by simp [isI] at e; exact e.symm)
  rw [if_neg hj, if_neg h2, Option.or_none]
theorem fnV_look {w : World} {b : Nat} {L : List Nd} {k : Nat} (h : MpR w b kI (fnV L k)) (z : Int) (c : Bool) : (Instr.lookup 107 (.map (some b)) (.int .i64 z) c).run Try.prog w = .ok (if c then .tuple #[((fnM L k z).map ndV).getD (.agg #[.int .i64 0, .int .i64 0, .int .i64 0, .bool false, .bool false, .int .i64 0, .int .i64 0, .int .i64 0]), .bool (fnM L k z).isSome] else ((fnM L k z).map ndV).getD (.agg #[.int .i64 0, .int .i64 0, .int .i64 0, .bool false, .bool false, .int .i64 0, .int .i64 0, .int .i64 0])) w := by
 have := h.look kyI Try.underlying107 (Try.zeroValue46 w) z c
 refine this.trans ?_
 unfold fnV
 simp
set_option maxRecDepth 100000 in
set_option maxHeartbeats 4000000 in
theorem nodes_any (L : List Nd) (a : Option Addr) (cap : Nat) (w : World) (hL : Fl w (fun b => b < w.heap.size) 8 56 Nd.cs a L) :
  Calls Try.prog 48 #[.slice a L.length cap] w fun e w' => e = .returned (.map (some w.heap.size)) ∧ MpR w' w.heap.size kI (fnV L L.length) ∧ Below w.heap.size w w' := by
 have hbd := hL.bd
 have HL := hidOf hL
 clear hL
 have hmm := @run_makeMap Try.prog
 go_enter Try.func48, Try.ntmps48
 go_wp2
 go_loopw [11] (fun i wr => ∃ (k : Nat), k ≤ L.length ∧ i = .int .i64 k ∧ Hid (MpR wr w.heap.size kI (fnV L k)) ∧ Hid (Below w.heap.size w wr) ∧ w.heap.size + 1 ≤ wr.heap.size) (fun i _ => L.length - (intOf i).toNat)
 case atStart => exact ⟨0, Nat.zero_le _, rfl, hidOf (MpR.new w kI), hidOf (below1 w _), by simp⟩
 case round =>
  obtain ⟨k, hk, rfl, HM, HB, hsz⟩ := hrel
  by_cases hlt : k < L.length
  ·obtain ⟨b, off, ha, hQb, hcc⟩ := HL.out.at k hlt
   have hbw : b < w.heap.size := hQb
   have HOLD := hidOf (fnV_old L k hlt)
   have HNEW := hidOf (fnV_new L k hlt)
   obtain ⟨x, hx⟩ : ∃ x, L[k] = x := ⟨_, rfl⟩
   rw [hx] at hcc
   have HOLD := hidOf (fun y => HOLD.out x y hx)
   have HNEW := hidOf (HNEW.out x hx)
   clear hx
   subst ha
   have hcr := range_of hcc (HB.out.block b hbw)
   have hbl : b < wr.heap.size := by omega
   have c0 : wr.cell? ⟨b, off + k * 8, none⟩ = some (.int .i64 x.id) := hcr 0 _ rfl
   have c1 : wr.cell? ⟨b, off + k * 8 + 1, none⟩ = some (.int .i64 x.c) := hcr 1 _ rfl
   have c2 : wr.cell? ⟨b, off + k * 8 + 2, none⟩ = some (.int .i64 x.m) := hcr 2 _ rfl
   have c3 : wr.cell? ⟨b, off + k * 8 + 3, none⟩ = some (.bool x.up) := hcr 3 _ rfl
   have c4 : wr.cell? ⟨b, off + k * 8 + 4, none⟩ = some (.bool x.dr) := hcr 4 _ rfl
   have c5 : wr.cell? ⟨b, off + k * 8 + 5, none⟩ = some (.int .i64 x.bo) := hcr 5 _ rfl
   have c6 : wr.cell? ⟨b, off + k * 8 + 6, none⟩ = some (.int .i64 x.ep) := hcr 6 _ rfl
   have c7 : wr.cell? ⟨b, off + k * 8 + 7, none⟩ = some (.int .i64 x.se) := hcr 7 _ rfl
   clear hcc hcr
   have HMW : Hid (∀ W, Below wr.heap.size wr W → MpR W w.heap.size kI (fnV L k)) := hidOf fun W hb => HM.out.keep (hb.block _ (by omega))
   have hlk := fnV_look (HMW.out _ (below1 wr (.cells #[.int .i64 x.id, .int .i64 x.c, .int .i64 x.m, .bool x.up, .bool x.dr, .int .i64 x.bo, .int .i64 x.ep, .int .i64 x.se] 46))) x.id true
   rw [if_pos rfl] at hlk
   cases hf : fnM L k x.id with
   | some y =>
    rw [hf] at hlk
    simp only [Option.map_some, Option.getD_some, Option.isSome_some, ndV] at hlk
    have HE := hidOf (HOLD.out y hf)
    clear hf
    go_wp2
    go_roundw
    case rel => exact ⟨k + 1, by omega, by simp, hidOf (by rw [HE.out]; exact HMW.out _ (below2 wr _ _)), hidOf (HB.out.trans ((below2 wr _ _).mono HB.out.size)), by simp; omega⟩
    case measure => simp [intOf]; omega
   | none =>
    rw [hf] at hlk
    simp only [Option.map_none, Option.getD_none, Option.isSome_none] at hlk
    have HE := hidOf (HNEW.out hf)
    clear hf
    have hbx := box_new (wr := wr) (cs := [.int .i64 x.id, .int .i64 x.c, .int .i64 x.m, .bool x.up, .bool x.dr, .int .i64 x.bo, .int .i64 x.ep, .int .i64 x.se]) (t := 46) (below1 (wr.alloc (.cells #[.int .i64 x.id, .int .i64 x.c, .int .i64 x.m, .bool x.up, .bool x.dr, .int .i64 x.bo, .int .i64 x.ep, .int .i64 x.se] 46)) (.cells #[.int .i64 0, .int .i64 0, .int .i64 0, .bool false, .bool false, .int .i64 0, .int .i64 0, .int .i64 0] 46))
    go_wp2_with (at_mapUpdate; refine wpList_mapX _ rfl _ _ _ 107 rfl 3 46 kyI Try.underlying107 w.heap.size _ rfl (HMW.out _ (below2 wr _ _)) x.id (ndV x) rfl rfl ?_; intro w2 hm2 hs2 hz2 hg2; have HM2 := hidOf hm2; have HG2 := hidOf hg2; have HZ2 := hidOf hz2; clear hm2 hs2 hz2 hg2)
    have hz2 := HZ2.out
    simp only [World.size_alloc] at hz2
    go_roundw
    case rel => exact ⟨k + 1, by omega, by simp, hidOf (by rw [← HE.out]; exact HM2.out), hidOf ((HB.out.trans ((below2 wr _ _).mono HB.out.size)).grown HG2.out (by simp; omega) (fun k e => by cases e; exact Nat.le_refl _)), by omega⟩
    case measure => simp [intOf]; omega
  ·have hkl : k = L.length := by omega
   subst hkl
   go_wp2
   go_ret
   exact ⟨rfl, HM.out, HB.out⟩
end Go.Proofs.Ytblofbdncolikaa
