/- Maps in memory, by what they hold for each key. -/
import Derived.Test.YtaaodmagchpnbaaXs
import Derived.Maps.OwnIn
import Derived.Maps.OwnSet
namespace Go.Proofs.Ytaaodmagchpnbaa
open Go.RowKit Go.Shelf
set_option maxRecDepth 100000 in
theorem eq39 (a b c d : Int) (w : World) : (Op.equal 39 (.agg #[.int .i64 a, .int .i64 b]) (.agg #[.int .i64 c, .int .i64 d])).run Try.prog w = .ok (decide ((c, d) = (a, b))) w := by
  have hu := Try.underlying39
  have h3 := Try.underlying3
  unfold Op.equal Op.maxDepth
  unfold Op.equalIn
  simp [go_sem, h3]
  by_cases h1 : a = c <;> by_cases h2 : b = d <;> simp [h1, h2] <;> first | omega | (intros; omega)
theorem ck3 (em : Bool) (n : Nat) (a : Int) (w : World) : (Instr.checkKey em (n + 1) 3 (.int .i64 a)).run Try.prog w = .ok () w := by
  have h3 := Try.underlying3
  unfold Instr.checkKey
  simp [go_sem]
set_option maxRecDepth 100000 in
theorem ck39 (em : Bool) (a b : Int) (w : World) : (Instr.checkKey em 10000 39 (.agg #[.int .i64 a, .int .i64 b])).run Try.prog w = .ok () w := by
  have hu := Try.underlying39
  have h3 := Try.underlying3
  unfold Instr.checkKey
  simp [go_sem, ck3]
def fnd {κ : Type} [DecidableEq κ] (k : κ) : List (κ × Value × Nat) → Nat → Option (Nat × Value)
  | [], _ => none
  | e :: L, i => if e.1 = k then some (i, e.2.1) else fnd k L (i + 1)
def enE {κ : Type} (kv : κ → Value) (e : κ × Value × Nat) : MapEntry := { key := kv e.1, val := e.2.1, born := e.2.2 }
structure Ky (κ : Type) [DecidableEq κ] (kt : TypeId) (kv : κ → Value) : Prop where
  check : ∀ (em : Bool) (w : World) (k : κ), (Instr.checkKey em 10000 kt (kv k)).run Try.prog w = .ok () w
  find : ∀ (w : World) (k : κ) (L : List (κ × Value × Nat)), (Instr.findKey kt (kv k) (L.map (enE kv))).run Try.prog w = .ok (fnd k L 0) w
  stay : ∀ (w : World) (k : κ), (Instr.keyThatStays (kv k) (kv k)).run Try.prog w = .ok (kv k) w
def kI (a : Int) : Value := .int .i64 a
def kS (a : Int × Int) : Value := .agg #[.int .i64 a.1, .int .i64 a.2]
theorem kyI : Ky Int 3 kI := by
  refine ⟨fun em w k => ck3 em 9999 k w, fun w k L => ?_, fun w k => by simp [Instr.keyThatStays, Instr.sameBits, kI]⟩
  have h : ∀ (L : List (Int × Value × Nat)) (i : Nat), Instr.findNow (.int .i64) (kI k) (L.map (enE kI)) i = some (fnd k L i) := by
    intro L
    induction L with
    | nil => intro i; rfl
    | cons e L ih =>
      intro i
      by_cases h : e.1 = k
      · simp [Instr.findNow, Instr.sameNow, fnd, enE, kI, h]
      · have h2 : ¬ k = e.1 := fun e' => h e'.symm
        have hb : (k == e.1) = false := by simp [h2]
        rw [List.map_cons, Instr.findNow, fnd, if_neg h]
        simp only [enE, kI, Instr.sameNow, if_true, hb]
        exact ih (i + 1)
  exact MapKept.run_findKey Try.underlying3 (h L 0)
theorem kyS : Ky (Int × Int) 39 kS := by
  refine ⟨fun em w k => ck39 em k.1 k.2 w, fun w k L => ?_, fun w k => by simp [Instr.keyThatStays, Instr.sameBits, kS]⟩
  have h : ∀ (L : List ((Int × Int) × Value × Nat)) (i : Nat), (Instr.findAsking 39 (kS k) (L.map (enE kS)) i).run Try.prog w = .ok (fnd k L i) w := by
    intro L
    induction L with
    | nil => intro i; simp [Instr.findAsking, fnd]
    | cons e L ih =>
      intro i
      have he := eq39 k.1 k.2 e.1.1 e.1.2 w
      rw [List.map_cons, Instr.findAsking, fnd]
      simp only [Sem.run_bind, enE, kS, he, Result.andThen_ok]
      by_cases h : e.1 = k
      · simp [h]
      · have h2 : ¬ ((e.1.1, e.1.2) = (k.1, k.2)) := fun e' => h e'
        rw [if_neg h, decide_eq_false h2]
        exact ih (i + 1)
  have hu := Try.underlying39
  cases L with
  | nil => simp [Instr.findKey, go_sem, Instr.findNow, fnd]
  | cons e L =>
    have hn : Instr.findNow (.struct #[{ name := "Group", type := 3, offset := 0, embedded := false, tag := "", pkgPath := "", byteOffset := 0 }, { name := "Index", type := 3, offset := 1, embedded := false, tag := "", pkgPath := "", byteOffset := 8 }]) (kS k) ((e :: L).map (enE kS)) 0 = none := by
      simp [Instr.findNow, Instr.sameNow, enE, kS]
    unfold Instr.findKey
    simp only [Sem.run_bind, run_underlying hu, Result.andThen_ok, hn]
    exact h _ 0
def MpR {κ : Type} [DecidableEq κ] (w : World) (b : Nat) (kv : κ → Value) (m : κ → Option Value) : Prop :=
  ∃ (L : List (κ × Value × Nat)) (clock : Nat), w.heap[b]? = some (.map (L.map (enE kv)).toArray clock) ∧ ∀ k, m k = (fnd k L 0).map (·.2)
theorem MpR.keep {κ : Type} [DecidableEq κ] {w w' : World} {b : Nat} {kv : κ → Value} {m : κ → Option Value} (h : MpR w b kv m) (hb : w'.heap[b]? = w.heap[b]?) : MpR w' b kv m := by
  obtain ⟨L, c, h1, h2⟩ := h
  exact ⟨L, c, hb.trans h1, h2⟩
theorem MpR.lt {κ : Type} [DecidableEq κ] {w : World} {b : Nat} {kv : κ → Value} {m : κ → Option Value} (h : MpR w b kv m) : b < w.heap.size := by
  obtain ⟨L, c, h1, h2⟩ := h
  exact heap_lt h1
theorem MpR.new {κ : Type} [DecidableEq κ] (w : World) (kv : κ → Value) : MpR (w.alloc (.map #[] 0)) w.heap.size kv (fun _ => none) := ⟨[], 0, (MapKept.heap_alloc w _).1, fun _ => rfl⟩
theorem MpR.look {κ : Type} [DecidableEq κ] {w : World} {b : Nat} {kv : κ → Value} {m : κ → Option Value} (h : MpR w b kv m) {kt et t : TypeId} (K : Ky κ kt kv) (ht : Try.prog.underlying t = some (.map kt et)) {z : Value} (hz : (zeroValue et).run Try.prog w = .ok z w) (k : κ) (c : Bool) :
    (Instr.lookup t (.map (some b)) (kv k) c).run Try.prog w = .ok (if c then .tuple #[(m k).getD z, .bool (m k).isSome] else (m k).getD z) w := by
  obtain ⟨L, cl, h1, h2⟩ := h
  have hf := K.find w k L
  rw [h2 k]
  have hgo : (getObj b).run Try.prog w = .ok (.map (L.map (enE kv)).toArray cl) w := by simp [getObj, Sem.run, h1]
  have hck := K.check (L.map (enE kv)).toArray.isEmpty w k
  unfold Instr.lookup
  simp only [Sem.run_bind, run_underlying ht, Result.andThen_ok, hgo, Sem.run_pure, hck, hf]
  cases hv : fnd k L 0 with
  | none => cases c <;> simp [hz, Result.andThen]
  | some x => cases c <;> simp
theorem fnd_up {κ : Type} [DecidableEq κ] (k : κ) (v : Value) : ∀ (L : List (κ × Value × Nat)) (i j : Nat) (x : Value), fnd k L i = some (j, x) → i ≤ j ∧ (∃ e, L[j - i]? = some e ∧ e.1 = k) ∧ ∀ k', (fnd k' (L.modify (j - i) fun e => (e.1, v, e.2.2)) i).map (·.2) = if k' = k then some v else (fnd k' L i).map (·.2)
  | [], i, j, x, h => by simp [fnd] at h
  | e :: L, i, j, x, h => by
    by_cases he : e.1 = k
    · rw [fnd, if_pos he] at h
      cases h
      refine ⟨Nat.le_refl _, ⟨e, by simp, he⟩, fun k' => ?_⟩
      simp only [Nat.sub_self, List.modify_zero_cons, fnd]
      by_cases hk : k' = k
      · subst hk; simp [he]
      · have hne : ¬ e.1 = k' := fun e' => hk (e'.symm.trans he)
        rw [if_neg hne, if_neg hne, if_neg hk]
    · rw [fnd, if_neg he] at h
      obtain ⟨h1, ⟨e2, h2, h2k⟩, h3⟩ := fnd_up k v L (i + 1) j x h
      have hj : j - i = (j - (i + 1)) + 1 := by omega
      refine ⟨by omega, ⟨e2, by rw [hj, List.getElem?_cons_succ]; exact h2, h2k⟩, fun k' => ?_⟩
      rw [hj, List.modify_succ_cons, fnd, fnd]
      by_cases hk : e.1 = k'
      · have hne : ¬ k' = k := fun e' => he (hk.trans e')
        simp [hk, hne]
      · rw [if_neg hk, if_neg hk]; exact h3 k'
theorem fnd_push {κ : Type} [DecidableEq κ] (k : κ) (v : Value) (n : Nat) : ∀ (L : List (κ × Value × Nat)) (i : Nat), fnd k L i = none → ∀ k', (fnd k' (L ++ [(k, v, n)]) i).map (·.2) = if k' = k then some v else (fnd k' L i).map (·.2)
  | [], i, _, k' => by
    by_cases hk : k' = k
    · subst hk; simp [fnd]
    · have : ¬ k = k' := fun e => hk e.symm
      simp [fnd, hk, this]
  | e :: L, i, h, k' => by
    by_cases he : e.1 = k
    · rw [fnd, if_pos he] at h; cases h
    · rw [fnd, if_neg he] at h
      rw [List.cons_append, fnd, fnd]
      by_cases hk : e.1 = k'
      · have hne : ¬ k' = k := fun e' => he (hk.trans e')
        simp [hk, hne]
      · rw [if_neg hk, if_neg hk]; exact fnd_push k v n L (i + 1) h k'
theorem MpR.up {κ : Type} [DecidableEq κ] {w : World} {b : Nat} {kv : κ → Value} {m : κ → Option Value} (h : MpR w b kv m) {kt et t : TypeId} (K : Ky κ kt kv) (ht : Try.prog.underlying t = some (.map kt et)) (k : κ) (v : Value) :
    ∃ w', (Instr.mapUpdate t (.map (some b)) (kv k) v).run Try.prog w = .ok () w' ∧ MpR w' b kv (fun j => if j = k then some v else m j) ∧ (∀ i, i ≠ b → w'.heap[i]? = w.heap[i]?) ∧ w'.heap.size = w.heap.size ∧ w.grownBy w' (some b) := by
  obtain ⟨L, cl, h1, h2⟩ := h
  have hf := K.find w k L
  have hlt := heap_lt h1
  have hgo : (getObj b).run Try.prog w = .ok (.map (L.map (enE kv)).toArray cl) w := by simp [getObj, Sem.run, h1]
  have hso : ∀ o, (setObj b o).run Try.prog w = .ok () (w.putObj b o) := fun o => by simp [setObj, Sem.run, World.putObj, h1]
  cases hv : fnd k L 0 with
  | none =>
    rw [hv] at hf
    refine ⟨w.putObj b (.map ((L ++ [(k, v, cl)]).map (enE kv)).toArray (cl + 1)), ?_, ⟨L ++ [(k, v, cl)], cl + 1, World.putObj_heap_same hlt, fun k' => ?_⟩, fun i hi => World.putObj_heap_other hi, put_size _ _ _, grownBy_putObj' _ _ _⟩
    · unfold Instr.mapUpdate
      simp only [Sem.run_bind, run_underlying ht, Result.andThen_ok, hgo, K.check, hf]
      rw [hso]
      simp [enE]
    · show (if k' = k then some v else m k') = _
      rw [h2 k']; exact (fnd_push k v cl L 0 hv k').symm
  | some x =>
    obtain ⟨j, y⟩ := x
    rw [hv] at hf
    obtain ⟨_, ⟨e, he, hek⟩, hm⟩ := fnd_up k v L 0 j y hv
    simp only [Nat.sub_zero] at he hm
    refine ⟨w.putObj b (.map ((L.modify j fun e => (e.1, v, e.2.2)).map (enE kv)).toArray cl), ?_, ⟨L.modify j fun e => (e.1, v, e.2.2), cl, World.putObj_heap_same hlt, fun k' => ?_⟩, fun i hi => World.putObj_heap_other hi, put_size _ _ _, grownBy_putObj' _ _ _⟩
    · have harr : ((L.map (enE kv)).toArray.modify j fun e => { e with key := kv k, val := v }) = ((L.modify j fun e => (e.1, v, e.2.2)).map (enE kv)).toArray := by
        apply Array.ext'
        simp only [Array.toList_modify]
        apply List.ext_getElem?
        intro i
        simp only [List.getElem?_modify, List.getElem?_map]
        by_cases hi : j = i
        · subst hi; simp [he, enE, hek]
        · simp [hi]
      unfold Instr.mapUpdate
      have hst : (Instr.keyThatStays ((((L.map (enE kv)).toArray[j]?).map (·.key)).getD (kv k)) (kv k)).run Try.prog w = .ok (kv k) w := by
        have : (((L.map (enE kv)).toArray[j]?).map (·.key)).getD (kv k) = kv k := by simp [he, enE, hek]
        rw [this]; exact K.stay w k
      simp only [Sem.run_bind, run_underlying ht, Result.andThen_ok, hgo, K.check, hf, hst]
      rw [hso, harr]
    · show (if k' = k then some v else m k') = _
      rw [h2 k']; exact (hm k').symm
theorem wpList_mapX {κ : Type} [DecidableEq κ] (w : World) {ops : Array Oper} {rest : List Oper} {o : Oper} {a : Act} {Q : Exit → Act → World → Prop}
    (hg : o.guard = none) (m x v : Operand) (t : TypeId) (hop : o.op = Op.mapUpdate t m x v) (kt et : TypeId) {kv : κ → Value} (K : Ky κ kt kv) (ht : Try.prog.underlying t = some (.map kt et)) (b : Nat) (mm : κ → Option Value)
    (hm : a.eval m = .map (some b)) (h : MpR w b kv mm) (k : κ) (val : Value) (hx : a.eval x = kv k) (hv : a.eval v = val)
    (hK : ∀ w', MpR w' b kv (fun j => if j = k then some val else mm j) → (∀ i, i ≠ b → w'.heap[i]? = w.heap[i]?) → w'.heap.size = w.heap.size → w.grownBy w' (some b) → wpList Try.prog ops Q rest (a.put o.dst undef) w') :
    wpList Try.prog ops Q (o :: rest) a w := by
  refine wpList_plain hg fun K' hK' => ?_
  obtain ⟨w', hrun, r1, r2, r3, r4⟩ := h.up K ht k val
  unfold Oper.wp
  simp [execOp, hop, hm, hx, hv, hrun, Result.andThen]
  exact hK' _ _ (hK w' r1 r2 r3 r4)
theorem wpListIn_mapX {κ : Type} [DecidableEq κ] {F : Fence} {nF : Nat} (w : World) {ops : Array Oper} {rest : List Oper} {o : Oper} {a : Act} {Q : Exit → Act → World → Prop}
    (hg : o.guard = none) (m x v : Operand) (t : TypeId) (hop : o.op = Op.mapUpdate t m x v) (kt et : TypeId) {kv : κ → Value} (K : Ky κ kt kv) (ht : Try.prog.underlying t = some (.map kt et)) (b : Nat) (mm : κ → Option Value)
    (hm : a.eval m = .map (some b)) (h : MpR w b kv mm) (k : κ) (val : Value) (hx : a.eval x = kv k) (hv : a.eval v = val)
    (hK : ∀ w', MpR w' b kv (fun j => if j = k then some val else mm j) → (∀ i, i ≠ b → w'.heap[i]? = w.heap[i]?) → w'.heap.size = w.heap.size → w.grownBy w' (some b) → wpListIn F nF Try.prog ops Q rest (a.put o.dst undef) w') :
    wpListIn F nF Try.prog ops Q (o :: rest) a w := by
  refine wpListIn_plain hg fun K' hK' => ?_
  obtain ⟨w', hrun, r1, r2, r3, r4⟩ := h.up K ht k val
  unfold Oper.wpIn
  refine ⟨by simp [Oper.about, hop], ?_⟩
  rw [Oper.semAt_plain F _ _ (by rw [hop]; intro c hc'; cases hc')]
  simp [execOp, hop, hm, hx, hv, hrun, Result.andThen]
  exact hK' _ _ (hK w' r1 r2 r3 r4)
end Go.Proofs.Ytaaodmagchpnbaa
