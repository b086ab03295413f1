/- Messages that are built: cells; a block written to. -/
import Derived.Test.YtkienmncifonnaaDoorTk2
import Derived.Test.YtkienmncifonnaaDoorRp
import Derived.Deep.MidRow
import Derived.Deep.Upon
namespace Go.Proofs.YtkienmncifonnaaDoor
open Go.RowKit Go.Maps
variable {D : Nat} {w w' : World} {p : Nat} {s : Sg} {n c pd : Nat} {mv : Value} {G : Nat → Prop}
def ndC (id c1 c2 bt ep sq : Int) : Array Value := #[.int .i64 id, .int .i64 c1, .int .i64 c2, .bool false, .bool false, .int .i64 bt, .int .i64 ep, .int .i64 sq]
def cmC (op id c1 c2 bt ep sq : Int) (rp : Value) : Array Value := #[.int .i64 op, .int .i64 0, .int .i64 0, .int .i64 0, .int .i64 0, .int .i64 0, .int .i64 0, .slice none 0 0, .int .i64 0, .bool false, .int .i64 id, .int .i64 c1, .int .i64 c2, .bool false, .bool false, .int .i64 bt, .int .i64 ep, .int .i64 sq, rp, .int .i64 0, .int .i64 0, .int .i64 0, .slice none 0 0, .slice none 0 0, .bool false, .slice none 0 0, .slice none 0 0]
def mgC (kd fr to cx op id c1 c2 bt ep sq : Int) (rp : Value) : Array Value := #[.int .i64 kd, .int .i64 fr, .int .i64 to, .int .i64 0, .int .i64 0, .int .i64 0, .int .i64 0, .bool false, .int .i64 cx, .int .i64 0, .int .i64 0, .int .i64 0, .slice none 0 0, .slice none 0 0, .slice none 0 0, .slice none 0 0, .int .i64 op, .int .i64 0, .int .i64 0, .int .i64 0, .int .i64 0, .int .i64 0, .int .i64 0, .slice none 0 0, .int .i64 0, .bool false, .int .i64 id, .int .i64 c1, .int .i64 c2, .bool false, .bool false, .int .i64 bt, .int .i64 ep, .int .i64 sq, rp, .int .i64 0, .int .i64 0, .int .i64 0, .slice none 0 0, .slice none 0 0, .bool false, .slice none 0 0, .slice none 0 0, .int .i64 0, .int .i64 0, .slice none 0 0]
abbrev nilS : Value := .slice none 0 0
set_option maxRecDepth 100000 in
theorem built30r (id c1 c2 bt : Int) : Tryd.prog.built 30 [(0, .int .i64 id), (1, .agg #[.int .i64 c1, .int .i64 c2]), (4, .int .i64 bt)] = some (ndC id c1 c2 bt 0 0) := by kernel_rfl
set_option maxRecDepth 100000 in
theorem built30b (id ep sq : Int) : Tryd.prog.built 30 [(0, .int .i64 id), (5, .int .i64 ep), (6, .int .i64 sq)] = some (ndC id 0 0 0 ep sq) := by kernel_rfl
set_option maxRecDepth 100000 in
theorem built47r (id c1 c2 bt : Int) : Tryd.prog.built 47 [(0, .int .i64 5), (4, .agg (ndC id c1 c2 bt 0 0))] = some (cmC 5 id c1 c2 bt 0 0 nilS) := by kernel_rfl
set_option maxRecDepth 100000 in
theorem built47b (id ep sq : Int) (a : Option Addr) (l k : Nat) : Tryd.prog.built 47 [(0, .int .i64 6), (4, .agg (ndC id 0 0 0 ep sq)), (5, .slice a l k)] = some (cmC 6 id 0 0 0 ep sq (.slice a l k)) := by kernel_rfl
set_option maxRecDepth 100000 in
theorem built51 (fr to : Int) : Tryd.prog.built 51 [(0, .int .i64 9), (1, .int .i64 fr), (2, .int .i64 to)] = some (mgC 9 fr to 0 0 0 0 0 0 0 0 nilS) := by kernel_rfl
theorem info51 : (Tryd.prog.info? 51).map (·.size) = some 46 := by kernel_rfl
theorem info47 : (Tryd.prog.info? 47).map (·.size) = some 27 := by kernel_rfl
theorem mg_all (kd fr to cx op id c1 c2 bt ep sq : Int) (a : Option Addr) (l k : Nat) : (mgC kd fr to cx op id c1 c2 bt ep sq (.slice a l k)).all (·.oneCell') = true := by simp [mgC, Value.oneCell']
theorem cm_all (op id c1 c2 bt ep sq : Int) (a : Option Addr) (l k : Nat) : (cmC op id c1 c2 bt ep sq (.slice a l k)).all (·.oneCell') = true := by simp [cmC, Value.oneCell']
theorem mgR (kd fr to cx op id c1 c2 bt ep sq : Int) (a : Option Addr) (l k : Nat) : MsR (mgC kd fr to cx op id c1 c2 bt ep sq (.slice a l k)) ⟨kd, fr, to, cx, 0, op, bt, ep, 0, 0, none, [], 0⟩ :=
  ⟨rfl, mg_all .., rfl, rfl, rfl, rfl, rfl, rfl, rfl, rfl, rfl, rfl, rfl⟩
def setAll (cs : Array Value) (o : Nat) : List Value → Array Value
  | [] => cs
  | v :: r => setAll (cs.setIfInBounds o v) (o + 1) r
theorem setCells_row (b : Nat) (t : TypeId) : ∀ (vs : List Value) (o : Nat) (w : World) (cs : Array Value), w.heap[b]? = some (.cells cs t (0, 0)) → (w.setCells b o vs).heap[b]? = some (.cells (setAll cs o vs) t (0, 0))
  | [], _, _, _, h => h
  | v :: r, o, w, cs, h => by
    rw [World.setCells, setAll]
    exact setCells_row b t r (o + 1) _ _ (heap_setCell_same w b o cs t v h)
theorem setAll_cmd (kd fr to cx op id c1 c2 bt ep sq : Int) (rp : Value) : setAll (mgC kd fr to cx 0 0 0 0 0 0 0 nilS) 16 (cmC op id c1 c2 bt ep sq rp).toList = mgC kd fr to cx op id c1 c2 bt ep sq rp := by kernel_rfl
/- one block alone was written to -/
structure Upd (V V' : World) (m : Nat) : Prop where
  os : V'.os = V.os
  tape : V'.tape = V.tape
  output : V'.output = V.output
  size : V.heap.size ≤ V'.heap.size
  block : ∀ k, k < V.heap.size → k ≠ m → V'.heap[k]? = V.heap[k]?
theorem Upd.refl (V : World) (m : Nat) : Upd V V m := ⟨rfl, rfl, rfl, Nat.le_refl _, fun _ _ _ => rfl⟩
theorem Upd.trans {a b c : World} {m : Nat} (h : Upd a b m) (k : Upd b c m) : Upd a c m := ⟨k.os.trans h.os, k.tape.trans h.tape, k.output.trans h.output, Nat.le_trans h.size k.size, fun i hi hm => (k.block i (Nat.lt_of_lt_of_le hi h.size) hm).trans (h.block i hi hm)⟩
theorem Upd.of_below {V V' : World} (m : Nat) (h : Below V.heap.size V V') : Upd V V' m := ⟨h.os, h.tape, h.output, h.size, fun k hk _ => h.block k hk⟩
theorem Upd.row (V : World) (m : Nat) (cs : Array Value) : Upd V (V.setRow m cs) m := ⟨rfl, rfl, rfl, by simp [World.setRow], fun _ _ hm => setRow_ne hm⟩
theorem Upd.cell (V : World) (m o : Nat) (u : Value) : Upd V (V.setCell ⟨m, o, none⟩ u) m := ⟨rfl, rfl, rfl, by simp, fun k _ hm => Below.heap_setCell V ⟨m, o, none⟩ u k hm⟩
theorem Upd.cells (m : Nat) : ∀ (vs : List Value) (o : Nat) (V : World), Upd V (V.setCells m o vs) m
  | [], _, V => .refl V m
  | v :: r, o, V => by rw [World.setCells]; exact (Upd.cell V m o v).trans (Upd.cells m r (o + 1) _)
theorem Upd.keepA {V V' : World} {m : Nat} (h : Upd V V' m) {cs : Array Value} {t : TypeId} {fr : Nat × Nat} (hm : V.heap[m]? = some (.cells cs t fr)) (ht : ¬ okA (.cells cs t fr)) : KeepA V V' :=
  ⟨h.size, fun k o hk ho => h.block k (heap_lt hk) (fun e => by subst e; rw [hm] at hk; cases hk; exact ht ho)⟩
theorem FrA.upd {V V' : World} {m : Nat} (h : FrA D w V) (u : Upd V V' m) (hm : w.heap.size ≤ m) : FrA D w V' :=
  ⟨u.os.trans h.os, u.tape.trans h.tape, u.output.trans h.output, Nat.le_trans h.size u.size, fun k o hk ho => (u.block k (Nat.lt_of_lt_of_le (heap_lt hk) h.size) (by have := heap_lt hk; omega)).trans (h.block k o hk ho)⟩
theorem no51 (cs : Array Value) : ¬ okA (.cells cs 51 (0, 0)) := by simp [okA]
theorem there_row {w : World} {b : Nat} {cs : Array Value} {t : TypeId} (h : w.heap[b]? = some (.cells cs t (0, 0))) {o n : Nat} (hn : o + n ≤ cs.size) : w.there b o n := fun j hj => by
  refine ⟨?_, by simp [World.frozen?, h]⟩
  rw [cell_of_row w b (o + j) cs t (0, 0) h]
  simp; omega
theorem yieldsIf_build {P : Program} {ops : Array Oper} {S : World → Prop} {op : Oper} {a : Act} (hw : Region.wanted op (yielded ops a.tmps) = true) (t : TypeId) (parts : Array (Nat × Operand)) (ho : op.op = .build t parts)
    (vs : List (Nat × Value)) (hv : (parts.map fun (i, x) => (i, a.eval x)).toList = vs) (cells : Array Value) (hc : P.built t vs = some cells) : YieldsIf P ops S op (.agg cells) a :=
  .inl ⟨hw, fun w _ => by
    unfold execOp
    rw [ho]
    simp only [Sem.run_bind, run_build w t (parts.map fun (i, x) => (i, a.eval x)) cells (by rw [hv]; exact hc), Result.andThen_ok]
    rfl⟩
theorem tkU_base (a : Ag) (i v : Int) : (tkU a i v).id = a.id ∧ (tkU a i v).c1 = a.c1 ∧ (tkU a i v).c2 = a.c2 ∧ (tkU a i v).sv = a.sv ∧ (tkU a i v).bt = a.bt ∧ (tkU a i v).ck = a.ck ∧ (tkU a i v).sn = a.sn ∧ (tkU a i v).hi = a.hi ∧ (tkU a i v).ep = a.ep ∧ (tkU a i v).le = a.le ∧ (tkU a i v).bs = a.bs ∧ (tkU a i v).tk = a.tk := by
  unfold tkU
  repeat' split
  all_goals exact ⟨rfl, rfl, rfl, rfl, rfl, rfl, rfl, rfl, rfl, rfl, rfl, rfl⟩
theorem sdA_base (a : Ag) (v : Int) : (sdA a v).id = a.id ∧ (sdA a v).c1 = a.c1 ∧ (sdA a v).c2 = a.c2 ∧ (sdA a v).sv = a.sv ∧ (sdA a v).bt = a.bt ∧ (sdA a v).ck = a.ck ∧ (sdA a v).sn = a.sn ∧ (sdA a v).hi = a.hi ∧ (sdA a v).ep = a.ep ∧ (sdA a v).le = a.le ∧ (sdA a v).bs = a.bs + 1 ∧ (sdA a v).tk = a.tk := tkU_base _ _ _
theorem wpAnyL_two {P : Program} {ops : Array Oper} {Q : Exit → Act → World → Prop} {md : Region.Mode} {S : World → Prop} {L : Nat} {i j : Nat} {oi oj : Oper} {fuel : Nat} {listed : Array Bool} {a : Act} {w : World} (hr : Region.ready md ops listed = [i, j]) (hi : ops[i]? = some oi) (hj : ops[j]? = some oj)
    (h1 : ∀ K' : Act → World → Prop, Shut (∀ a w, (i ≠ L → S w) → wpAnyL P md ops Q S L fuel (listed.setIfInBounds i true) a w → K' a w) → if Region.wanted oi (yielded ops a.tmps) = true then Oper.wp P oi a w K' Q else K' (a.put oi.dst undef) w)
    (h2 : ∀ K' : Act → World → Prop, Shut (∀ a w, (j ≠ L → S w) → wpAnyL P md ops Q S L fuel (listed.setIfInBounds j true) a w → K' a w) → if Region.wanted oj (yielded ops a.tmps) = true then Oper.wp P oj a w K' Q else K' (a.put oj.dst undef) w) :
    wpAnyL P md ops Q S L (fuel + 1) listed a w := by
  refine ⟨fun h0 => (by rw [hr] at h0; cases h0), fun k hk => ?_⟩
  rw [hr] at hk
  rcases List.mem_cons.1 hk with e | e
  · subst e
    exact wpOp_step hi (fun K' hK => h1 K' (fun a w hS hW => hK a w ⟨hS, hW⟩))
  · rw [List.mem_singleton] at e
    subst e
    exact wpOp_step hj (fun K' hK => h2 K' (fun a w hS hW => hK a w ⟨hS, hW⟩))
end Go.Proofs.YtkienmncifonnaaDoor
