/- Maps in memory, by what they hold for each key; what a call leaves alone, told by the types of blocks. -/
import Derived.Test.YtcdbkieimkcogaaProg
import Derived.WalkLawsBesides
import Derived.KernelRfl
import Derived.ProofKit
import Derived.Maps.OwnIn
import Derived.Maps.OwnSet
import Derived.RangeFuncOwn
namespace Go.Proofs.Ytcdbkieimkcogaa
open Go.RowKit
theorem hidOf {p : Prop} (h : p) : Hid p := h
theorem put_size (W : World) (l : Nat) (o' : Obj) : (W.putObj l o').heap.size = W.heap.size := by simp [World.putObj]
theorem heap_lt {w : World} {b : Nat} {o : Obj} (h : w.heap[b]? = some o) : b < w.heap.size := (Array.getElem?_eq_some_iff.1 h).1
theorem ck3 (em : Bool) (n : Nat) (a : Int) (w : World) : (Instr.checkKey em (n + 1) 3 (.int .i64 a)).run Try.prog w = .ok () w := by
  have h3 := Try.underlying3
  unfold Instr.checkKey
  simp [go_sem]
/- a clock's sign -/
structure Sg where
  kd : Int
  id : Int
  er : Int
  la : Int
deriving DecidableEq
instance : Inhabited Sg := ⟨⟨0, 0, 0, 0⟩⟩
def kS (a : Sg) : Value := .agg #[.int .i64 a.kd, .int .i64 a.id, .int .i64 a.er, .int .i64 a.la]
set_option maxRecDepth 100000 in
theorem eq68 (a b : Sg) (w : World) : (Op.equal 68 (kS a) (kS b)).run Try.prog w = .ok (decide (b = a)) w := by
  have hu := Try.underlying68
  have h3 := Try.underlying3
  obtain ⟨a0, a1, a2, a3⟩ := a
  obtain ⟨b0, b1, b2, b3⟩ := b
  unfold Op.equal Op.maxDepth
  unfold Op.equalIn
  simp [go_sem, h3, kS]
  by_cases h0 : a0 = b0 <;> by_cases h1 : a1 = b1 <;> by_cases h2 : a2 = b2 <;> by_cases h3 : a3 = b3 <;> simp [h0, h1, h2, h3] <;> first | omega | (intros; omega)
set_option maxRecDepth 100000 in
theorem ck68 (em : Bool) (a : Sg) (w : World) : (Instr.checkKey em 10000 68 (kS a)).run Try.prog w = .ok () w := by
  have hu := Try.underlying68
  have h3 := Try.underlying3
  unfold Instr.checkKey
  simp [go_sem, ck3, kS]
def fnd {κ : Type} [DecidableEq κ] (k : κ) : List (κ × Value × Nat) → Nat → Option (Nat × Value)
  | [], _ => none
  | e :: L, i => if e.1 = k then some (i, e.2.1) else fnd k L (i + 1)
def enE {κ : Type} (kv : κ → Value) (e : κ × Value × Nat) : MapEntry := { key := kv e.1, val := e.2.1, born := e.2.2 }
structure Ky (κ : Type) [DecidableEq κ] (kt : TypeId) (kv : κ → Value) : Prop where
  check : ∀ (em : Bool) (w : World) (k : κ), (Instr.checkKey em 10000 kt (kv k)).run Try.prog w = .ok () w
  find : ∀ (w : World) (k : κ) (L : List (κ × Value × Nat)), (Instr.findKey kt (kv k) (L.map (enE kv))).run Try.prog w = .ok (fnd k L 0) w
  stay : ∀ (w : World) (k : κ), (Instr.keyThatStays (kv k) (kv k)).run Try.prog w = .ok (kv k) w
theorem kyS : Ky Sg 68 kS := by
  refine ⟨fun em w k => ck68 em k w, fun w k L => ?_, fun w k => by simp [Instr.keyThatStays, Instr.sameBits, kS]⟩
  have h : ∀ (L : List (Sg × Value × Nat)) (i : Nat), (Instr.findAsking 68 (kS k) (L.map (enE kS)) i).run Try.prog w = .ok (fnd k L i) w := by
    intro L
    induction L with
    | nil => intro i; simp [Instr.findAsking, fnd]
    | cons e L ih =>
      intro i
      have he := eq68 k e.1 w
      rw [List.map_cons, Instr.findAsking, fnd]
      simp only [Sem.run_bind, enE, he, Result.andThen_ok]
      by_cases h : e.1 = k
      · simp [h]
      · rw [if_neg h, decide_eq_false h]
        exact ih (i + 1)
  have hu := Try.underlying68
  cases L with
  | nil =>
    have hn : ∀ d, Instr.findNow d (kS k) (([] : List (Sg × Value × Nat)).map (enE kS)) 0 = some none := fun d => rfl
    unfold Instr.findKey
    simp only [Sem.run_bind, run_underlying hu, Result.andThen_ok, hn]
    rfl
  | cons e L =>
    have hn : ∀ f, Instr.findNow (.struct f) (kS k) ((e :: L).map (enE kS)) 0 = none := by
      intro f
      simp [Instr.findNow, Instr.sameNow, enE, kS]
    unfold Instr.findKey
    simp only [Sem.run_bind, run_underlying hu, Result.andThen_ok, hn]
    exact h _ 0
def MpR {κ : Type} [DecidableEq κ] (w : World) (b : Nat) (kv : κ → Value) (m : κ → Option Value) : Prop :=
  ∃ (L : List (κ × Value × Nat)) (clock : Nat), w.heap[b]? = some (.map (L.map (enE kv)).toArray clock) ∧ ∀ k, m k = (fnd k L 0).map (·.2)
theorem MpR.keep {κ : Type} [DecidableEq κ] {w w' : World} {b : Nat} {kv : κ → Value} {m : κ → Option Value} (h : MpR w b kv m) (hb : w'.heap[b]? = w.heap[b]?) : MpR w' b kv m := by
  obtain ⟨L, c, h1, h2⟩ := h
  exact ⟨L, c, hb.trans h1, h2⟩
theorem MpR.lt {κ : Type} [DecidableEq κ] {w : World} {b : Nat} {kv : κ → Value} {m : κ → Option Value} (h : MpR w b kv m) : b < w.heap.size := by
  obtain ⟨L, c, h1, h2⟩ := h
  exact heap_lt h1
theorem MpR.new {κ : Type} [DecidableEq κ] (w : World) (kv : κ → Value) : MpR (w.alloc (.map #[] 0)) w.heap.size kv (fun _ => none) := ⟨[], 0, (MapKept.heap_alloc w _).1, fun _ => rfl⟩
theorem MpR.look {κ : Type} [DecidableEq κ] {w : World} {b : Nat} {kv : κ → Value} {m : κ → Option Value} (h : MpR w b kv m) {kt et t : TypeId} (K : Ky κ kt kv) (ht : Try.prog.underlying t = some (.map kt et)) {z : Value} (hz : (zeroValue et).run Try.prog w = .ok z w) (k : κ) (c : Bool) :
    (Instr.lookup t (.map (some b)) (kv k) c).run Try.prog w = .ok (if c then .tuple #[(m k).getD z, .bool (m k).isSome] else (m k).getD z) w := by
  obtain ⟨L, cl, h1, h2⟩ := h
  have hf := K.find w k L
  rw [h2 k]
  have hgo : (getObj b).run Try.prog w = .ok (.map (L.map (enE kv)).toArray cl) w := by simp [getObj, Sem.run, h1]
  have hck := K.check (L.map (enE kv)).toArray.isEmpty w k
  unfold Instr.lookup
  simp only [Sem.run_bind, run_underlying ht, Result.andThen_ok, hgo, Sem.run_pure, hck, hf]
  cases hv : fnd k L 0 with
  | none => cases c <;> simp [hz, Result.andThen]
  | some x => cases c <;> simp
theorem fnd_up {κ : Type} [DecidableEq κ] (k : κ) (v : Value) : ∀ (L : List (κ × Value × Nat)) (i j : Nat) (x : Value), fnd k L i = some (j, x) → i ≤ j ∧ (∃ e, L[j - i]? = some e ∧ e.1 = k) ∧ ∀ k', (fnd k' (L.modify (j - i) fun e => (e.1, v, e.2.2)) i).map (·.2) = if k' = k then some v else (fnd k' L i).map (·.2)
  | [], i, j, x, h => by simp [fnd] at h
  | e :: L, i, j, x, h => by
    by_cases he : e.1 = k
    · rw [fnd, if_pos he] at h
      cases h
      refine ⟨Nat.le_refl _, ⟨e, by simp, he⟩, fun k' => ?_⟩
      simp only [Nat.sub_self, List.modify_zero_cons, fnd]
      by_cases hk : k' = k
      · subst hk; simp [he]
      · have hne : ¬ e.1 = k' := fun e' => hk (e'.symm.trans he)
        rw [if_neg hne, if_neg hne, if_neg hk]
    · rw [fnd, if_neg he] at h
      obtain ⟨h1, ⟨e2, h2, h2k⟩, h3⟩ := fnd_up k v L (i + 1) j x h
      have hj : j - i = (j - (i + 1)) + 1 := by omega
      refine ⟨by omega, ⟨e2, by rw [hj, List.getElem?_cons_succ]; exact h2, h2k⟩, fun k' => ?_⟩
      rw [hj, List.modify_succ_cons, fnd, fnd]
      by_cases hk : e.1 = k'
      · have hne : ¬ k' = k := fun e' => he (hk.trans e')
        simp [hk, hne]
      · rw [if_neg hk, if_neg hk]; exact h3 k'
theorem fnd_push {κ : Type} [DecidableEq κ] (k : κ) (v : Value) (n : Nat) : ∀ (L : List (κ × Value × Nat)) (i : Nat), fnd k L i = none → ∀ k', (fnd k' (L ++ [(k, v, n)]) i).map (·.2) = if k' = k then some v else (fnd k' L i).map (·.2)
  | [], i, _, k' => by
    by_cases hk : k' = k
    · subst hk; simp [fnd]
    · have : ¬ k = k' := fun e => hk e.symm
      simp [fnd, hk, this]
  | e :: L, i, h, k' => by
    by_cases he : e.1 = k
    · rw [fnd, if_pos he] at h; cases h
    · rw [fnd, if_neg he] at h
      rw [List.cons_append, fnd, fnd]
      by_cases hk : e.1 = k'
      · have hne : ¬ k' = k := fun e' => he (hk.trans e')
        simp [hk, hne]
      · rw [if_neg hk, if_neg hk]; exact fnd_push k v n L (i + 1) h k'
theorem MpR.up {κ : Type} [DecidableEq κ] {w : World} {b : Nat} {kv : κ → Value} {m : κ → Option Value} (h : MpR w b kv m) {kt et t : TypeId} (K : Ky κ kt kv) (ht : Try.prog.underlying t = some (.map kt et)) (k : κ) (v : Value) :
    ∃ w', (Instr.mapUpdate t (.map (some b)) (kv k) v).run Try.prog w = .ok () w' ∧ MpR w' b kv (fun j => if j = k then some v else m j) ∧ (∀ i, i ≠ b → w'.heap[i]? = w.heap[i]?) ∧ w'.heap.size = w.heap.size ∧ w.grownBy w' (some b) := by
  obtain ⟨L, cl, h1, h2⟩ := h
  have hf := K.find w k L
  have hlt := heap_lt h1
  have hgo : (getObj b).run Try.prog w = .ok (.map (L.map (enE kv)).toArray cl) w := by simp [getObj, Sem.run, h1]
  have hso : ∀ o, (setObj b o).run Try.prog w = .ok () (w.putObj b o) := fun o => by simp [setObj, Sem.run, World.putObj, h1]
  cases hv : fnd k L 0 with
  | none =>
    rw [hv] at hf
    refine ⟨w.putObj b (.map ((L ++ [(k, v, cl)]).map (enE kv)).toArray (cl + 1)), ?_, ⟨L ++ [(k, v, cl)], cl + 1, World.putObj_heap_same hlt, fun k' => ?_⟩, fun i hi => World.putObj_heap_other hi, put_size _ _ _, grownBy_putObj' _ _ _⟩
    · unfold Instr.mapUpdate
      simp only [Sem.run_bind, run_underlying ht, Result.andThen_ok, hgo, K.check, hf]
      rw [hso]
      simp [enE]
    · show (if k' = k then some v else m k') = _
      rw [h2 k']; exact (fnd_push k v cl L 0 hv k').symm
  | some x =>
    obtain ⟨j, y⟩ := x
    rw [hv] at hf
    obtain ⟨_, ⟨e, he, hek⟩, hm⟩ := fnd_up k v L 0 j y hv
    simp only [Nat.sub_zero] at he hm
    refine ⟨w.putObj b (.map ((L.modify j fun e => (e.1, v, e.2.2)).map (enE kv)).toArray cl), ?_, ⟨L.modify j fun e => (e.1, v, e.2.2), cl, World.putObj_heap_same hlt, fun k' => ?_⟩, fun i hi => World.putObj_heap_other hi, put_size _ _ _, grownBy_putObj' _ _ _⟩
    · have harr : ((L.map (enE kv)).toArray.modify j fun e => { e with key := kv k, val := v }) = ((L.modify j fun e => (e.1, v, e.2.2)).map (enE kv)).toArray := by
        apply Array.ext'
        simp only [Array.toList_modify]
        apply List.ext_getElem?
        intro i
        simp only [List.getElem?_modify, List.getElem?_map]
        by_cases hi : j = i
        · subst hi; simp [he, enE, hek]
        · simp [hi]
      unfold Instr.mapUpdate
      have hst : (Instr.keyThatStays ((((L.map (enE kv)).toArray[j]?).map (·.key)).getD (kv k)) (kv k)).run Try.prog w = .ok (kv k) w := by
        have : (((L.map (enE kv)).toArray[j]?).map (·.key)).getD (kv k) = kv k := by simp [he, enE, hek]
        rw [this]; exact K.stay w k
      simp only [Sem.run_bind, run_underlying ht, Result.andThen_ok, hgo, K.check, hf, hst]
      rw [hso, harr]
    · show (if k' = k then some v else m k') = _
      rw [h2 k']; exact (hm k').symm
theorem wpList_mapX {κ : Type} [DecidableEq κ] (w : World) {ops : Array Oper} {rest : List Oper} {o : Oper} {a : Act} {Q : Exit → Act → World → Prop}
    (hg : o.guard = none) (m x v : Operand) (t : TypeId) (hop : o.op = Op.mapUpdate t m x v) (kt et : TypeId) {kv : κ → Value} (K : Ky κ kt kv) (ht : Try.prog.underlying t = some (.map kt et)) (b : Nat) (mm : κ → Option Value)
    (hm : a.eval m = .map (some b)) (h : MpR w b kv mm) (k : κ) (val : Value) (hx : a.eval x = kv k) (hv : a.eval v = val)
    (hK : ∀ w', MpR w' b kv (fun j => if j = k then some val else mm j) → (∀ i, i ≠ b → w'.heap[i]? = w.heap[i]?) → w'.heap.size = w.heap.size → w.grownBy w' (some b) → wpList Try.prog ops Q rest (a.put o.dst undef) w') :
    wpList Try.prog ops Q (o :: rest) a w := by
  refine wpList_plain hg fun K' hK' => ?_
  obtain ⟨w', hrun, r1, r2, r3, r4⟩ := h.up K ht k val
  unfold Oper.wp
  simp [execOp, hop, hm, hx, hv, hrun, Result.andThen]
  exact hK' _ _ (hK w' r1 r2 r3 r4)
theorem MpR.clear {κ : Type} [DecidableEq κ] {w : World} {b : Nat} {kv : κ → Value} {m : κ → Option Value} (h : MpR w b kv m) {t kt et : TypeId} (ht : Try.prog.underlying t = some (.map kt et)) (r : TypeId) :
    ∃ w', (Builtin.clear_ #[t] r #[.map (some b)]).run Try.prog w = .ok (.tuple #[]) w' ∧ MpR w' b kv (fun _ => none) ∧ (∀ i, i ≠ b → w'.heap[i]? = w.heap[i]?) ∧ w'.heap.size = w.heap.size ∧ w.grownBy w' (some b) := by
  obtain ⟨L, cl, h1, h2⟩ := h
  have hlt := heap_lt h1
  have hgo : (getObj b).run Try.prog w = .ok (.map (L.map (enE kv)).toArray cl) w := by simp [getObj, Sem.run, h1]
  have hso : ∀ o, (setObj b o).run Try.prog w = .ok () (w.putObj b o) := fun o => by simp [setObj, Sem.run, World.putObj, h1]
  refine ⟨w.putObj b (.map #[] cl), ?_, ⟨[], cl, World.putObj_heap_same hlt, fun _ => rfl⟩, fun i hi => World.putObj_heap_other hi, put_size _ _ _, grownBy_putObj' _ _ _⟩
  unfold Builtin.clear_
  simp [Sem.run_bind, run_underlying ht, hgo, hso]
variable {D : Nat}

/- w' is w with new blocks, and with writes to blocks of the types T alone -/
def isT (T : List Nat) : Obj → Bool
  | .cells _ t _ => T.contains t
  | .map _ _ => T.contains 9999
  | _ => false
structure FrT (D : Nat) (T : List Nat) (w w' : World) : Prop where
  os : w'.os = w.os
  tape : w'.tape = w.tape
  output : w'.output = w.output
  size : w.heap.size ≤ w'.heap.size
  block : ∀ (k : Nat) (o : Obj), w.heap[k]? = some o → (isT T o = false ∨ k < D) → w'.heap[k]? = some o
theorem FrT.refl (D : Nat) (T : List Nat) (w : World) : FrT D T w w := ⟨rfl, rfl, rfl, Nat.le_refl _, fun _ _ h _ => h⟩
theorem FrT.trans {T : List Nat} {a b c : World} (h : FrT D T a b) (k : FrT D T b c) : FrT D T a c :=
  ⟨k.os.trans h.os, k.tape.trans h.tape, k.output.trans h.output, Nat.le_trans h.size k.size, fun i o hi ho => k.block i o (h.block i o hi ho) ho⟩
theorem FrT.mono {T T' : List Nat} {a b : World} (h : FrT D T a b) (hs : ∀ t ∈ T, t ∈ T') : FrT D T' a b :=
  ⟨h.os, h.tape, h.output, h.size, fun i o hi ho => h.block i o hi (by
    rcases ho with ho | ho
    · left
      cases o with
      | cells c t z =>
        simp only [isT] at ho ⊢
        cases hc : T.contains t with
        | false => rfl
        | true =>
          have h1 : t ∈ T := by simpa using hc
          have h2 := hs t h1
          have h3 : T'.contains t = true := by simpa using h2
          rw [h3] at ho; cases ho
      | map e c =>
        simp only [isT] at ho ⊢
        cases hc : T.contains 9999 with
        | false => rfl
        | true =>
          have h1 : 9999 ∈ T := by simpa using hc
          have h2 := hs 9999 h1
          have h3 : T'.contains 9999 = true := by simpa using h2
          rw [h3] at ho; cases ho
      | _ => rfl
    · exact .inr ho)⟩
theorem FrT.below {T : List Nat} {a b : World} (h : FrT D T a b) (hD : D ≤ a.heap.size) : Below D a b :=
  ⟨h.os, h.tape, h.output, h.size, fun k hk => by
    have h1 := Array.getElem?_eq_getElem (xs := a.heap) (i := k) (by omega)
    rw [h1]; exact h.block k _ h1 (.inr hk)⟩
theorem FrT.of_below {T : List Nat} {a b : World} (h : Below a.heap.size a b) : FrT D T a b := ⟨h.os, h.tape, h.output, h.size, fun k _o hk _ => (h.block k (heap_lt hk)).trans hk⟩
theorem FrT.drew {T : List Nat} {a b : World} (h : FrT D T a b) : FrT D T a b.drew := ⟨h.os, h.tape, h.output, h.size, h.block⟩
theorem FrT.alloc {T : List Nat} {a b : World} (h : FrT D T a b) (o : Obj) : FrT D T a (b.alloc o) := h.trans (FrT.of_below ((Below.refl _ b).alloc (Nat.le_refl _) o))
theorem FrT.set {T : List Nat} {a b : World} {p : Nat} {cs : Array Value} {t : Nat} (h : FrT D T a b) (hp : b.heap[p]? = some (.cells cs t (0, 0))) (ht : t ∈ T) (hD : D ≤ p) (j : Nat) (u : Value) : FrT D T a (b.setCell ⟨p, j, none⟩ u) :=
  h.trans ⟨rfl, rfl, rfl, by simp, fun k o hk ho => by
    by_cases e : k = p
    · subst e
      rw [hp] at hk; cases hk
      have h3 : T.contains t = true := by simpa using ht
      rcases ho with ho | ho
      · have ho' : T.contains t = false := ho
        rw [h3] at ho'; cases ho'
      · omega
    · exact (Below.heap_setCell b ⟨p, j, none⟩ u k e).trans hk⟩
theorem FrT.cells {T : List Nat} {w w' : World} (h : FrT D T w w') {k : Nat} {cs : Array Value} {t : Nat} (hk : w.heap[k]? = some (.cells cs t (0, 0))) (ht : t ∉ T) : w'.heap[k]? = some (.cells cs t (0, 0)) :=
  h.block k _ hk (.inl (by simpa [isT] using ht))
theorem FrT.of_one {T : List Nat} {w w' : World} {p : Nat} {cs : Array Value} {t : Nat} (hp : w.heap[p]? = some (.cells cs t (0, 0))) (ht : t ∈ T) (hD : D ≤ p) (ho : w'.os = w.os) (hta : w'.tape = w.tape) (hou : w'.output = w.output) (hs : w.heap.size ≤ w'.heap.size) (hb : ∀ k, k < w.heap.size → k ≠ p → w'.heap[k]? = w.heap[k]?) : FrT D T w w' :=
  ⟨ho, hta, hou, hs, fun k o hk hko => by
    by_cases e : k = p
    · subst e
      rw [hp] at hk; cases hk
      have h3 : T.contains t = true := by simpa using ht
      rcases hko with hko | hko
      · have ho' : T.contains t = false := hko
        rw [h3] at ho'; cases ho'
      · omega
    · exact (hb k (heap_lt hk) e).trans hk⟩
theorem below1 (w : World) (o : Obj) : Below w.heap.size w (w.alloc o) := (Below.refl _ w).alloc (Nat.le_refl _) o
end Go.Proofs.Ytcdbkieimkcogaa
