/- Files by name in a map; the closures that do a deed on such a map. -/
import Derived.Test.YtkienmncifonnaaDoorDsl
import Derived.Test.YtkienmncifonnaaDoorReg
import Derived.Test.YtkienmncifonnaaDoorDcl
namespace Go.Proofs.YtkienmncifonnaaDoor
open Go.RowKit Go.Maps

def nilV : Value := .slice none 0 0
/- what stands in the map at a name: nil where nothing does -/
def vAt (D : DataW Value) (k : List UInt8) : Value := match D.atKey (.string k) (.held (.slice none 0 0)) with
  | .held v => v
  | _ => .slice none 0 0
theorem vAt_put {D : DataW Value} (h : IsMap D) (k j : List UInt8) (v : Value) : vAt (D.put (.string k) (.held v)) j = if j = k then v else vAt D j := by
  by_cases e : j = k
  · subst e
    rw [if_pos rfl]
    unfold vAt
    rw [atKey_put_same h (by simp [WideAt.IsKeyLit])]
  · rw [if_neg e]
    unfold vAt
    rw [atKey_put_other (by simpa using e)]
theorem vAt_del (D : DataW Value) (k j : List UInt8) : vAt (D.del (.string k)) j = if j = k then .slice none 0 0 else vAt D j := by
  by_cases e : j = k
  · subst e
    rw [if_pos rfl]
    unfold vAt
    rw [atKey_del_same]
  · rw [if_neg e]
    unfold vAt
    rw [atKey_del_other (by simpa using e)]
theorem has_put {D : DataW Value} (h : IsMap D) (k j : List UInt8) (d : DataW Value) : Maps.has (D.put (.string k) d) (.string j) = (decide (j = k) || Maps.has D (.string j)) := by
  by_cases e : j = k
  · subst e
    rw [has_put_same h (by simp [WideAt.IsKeyLit])]
    simp
  · rw [has_put_other (by simpa using e)]
    simp [e]
theorem has_del (D : DataW Value) (k j : List UInt8) : Maps.has (D.del (.string k)) (.string j) = (!decide (j = k) && Maps.has D (.string j)) := by
  by_cases e : j = k
  · subst e
    rw [has_del_same]
    simp
  · rw [has_del_other (by simpa using e)]
    simp [e]
theorem vAt_no {D : DataW Value} {k : List UInt8} (h : Maps.has D (.string k) = false) : vAt D k = .slice none 0 0 := by
  unfold vAt
  rw [atKey_of_not_has h]
theorem MapR.isMap {w : World} {b n : Nat} {D : DataW Value} (h : MapR w b n D) : IsMap D := World.ownsMap.isMap h
theorem MapR.look {w : World} {b n : Nat} {D : DataW Value} (h : MapR w b n D) (s : ByteArray) (hs : s.size ≤ maxLen) : (Instr.lookup 79 (.map (some b)) (.string s) false).run Tryd.prog w = .ok (vAt D s.data.toList) w := by
  obtain ⟨v, ps, hrun, hv⟩ := World.ownsMap.lookup (t := 79) (e := 38) h law9 Tryd.underlying79 (z := .slice none 0 0) (Tryd.zeroValue38 w) (zd := .held (.slice none 0 0)) (zp := []) rfl (key_of s hs)
  have e : DataW.atKey D (kOf s) (.held (.slice none 0 0)) = .held v := by
    have := congrArg (fun o => o.map Prod.fst) hv
    simp [RV] at this
    exact this.symm
  have e2 : vAt D s.data.toList = v := by
    unfold vAt
    have : DataW.atKey D (.string s.data.toList) (.held (.slice none 0 0)) = .held v := e
    rw [this]
  rw [e2]
  exact hrun
theorem MapR.lookOk {w : World} {b n : Nat} {D : DataW Value} (h : MapR w b n D) (s : ByteArray) (hs : s.size ≤ maxLen) : (Instr.lookup 79 (.map (some b)) (.string s) true).run Tryd.prog w = .ok (.tuple #[vAt D s.data.toList, .bool (Maps.has D (.string s.data.toList))]) w := by
  obtain ⟨v, ps, hrun, hv⟩ := World.ownsMap.look_ok (t := 79) (e := 38) h law9 Tryd.underlying79 (z := .slice none 0 0) (Tryd.zeroValue38 w) (zd := .held (.slice none 0 0)) (zp := []) rfl (key_of s hs)
  have e : DataW.atKey D (kOf s) (.held (.slice none 0 0)) = .held v := by
    have := congrArg (fun o => o.map Prod.fst) hv
    simp [RV] at this
    exact this.symm
  have e2 : vAt D s.data.toList = v := by
    unfold vAt
    have : DataW.atKey D (.string s.data.toList) (.held (.slice none 0 0)) = .held v := e
    rw [this]
  rw [e2]
  exact hrun
theorem MapR.lt {w : World} {b n : Nat} {D : DataW Value} (h : MapR w b n D) : b < w.heap.size := World.ownsMap.lt h
theorem MapR.obj {w : World} {b n : Nat} {D : DataW Value} (h : MapR w b n D) : ∃ es c, w.heap[b]? = some (.map es c) := by
  obtain ⟨es, clock, hb, _⟩ := h
  exact ⟨es, clock, hb⟩
theorem MapR.kept {w w' : World} {b n : Nat} {D : DataW Value} (h : MapR w b n D) (e : w'.heap[b]? = w.heap[b]?) : MapR w' b n D := by
  obtain ⟨es, clock, hb, rest⟩ := h
  exact ⟨es, clock, e.trans hb, rest⟩
theorem MapR.tight {w : World} {b n : Nat} {D : DataW Value} (h : MapR w b n D) : MapR w b (Maps.size D) D := by
  obtain ⟨es, clock, hb, F, hs, hD⟩ := h
  refine ⟨es, clock, hb, F, ?_, hD⟩
  rw [hD]
  simp [Maps.size, length_sorted]
/- a slice of bytes does not look at a map -/
theorem SlR.ne_map {w : World} {v : Value} {l : List UInt8} (h : SlR w v l) {b n : Nat} {D : DataW Value} (hm : MapR w b n D) : v.ownBlock ≠ some b := by
  intro e
  rcases h with ⟨rfl, _⟩ | ⟨g, cap, cur, rfl, hg, _⟩
  · cases e
  · obtain ⟨es, c, hb⟩ := hm.obj
    have : g = b := by simpa [Value.ownBlock] using e
    rw [this, hb] at hg
    cases hg

/- append and the map's store, as steps of a drawn region -/
theorem oper_append_s {o : Oper} {a : Act} {Q : Exit → Act → World → Prop} {K : Act → World → Prop} (w : World) (s x : Operand)
    (ho : o.op = .call { callee := .builtin .append, args := #[s, x], argTypes := #[38, 38] })
    (v : Value) (l : List UInt8) (hs : a.eval s = v) (hown : SlR w v l) (xv : Value) (news : List UInt8) (hx : a.eval x = xv) (hsrc : Src Tryd.prog 1 38 xv news.length (vals news) w) (hlen : l.length + news.length ≤ 211106232532992)
    (h : ∀ v' w', SlR w' v' (l ++ news) → App w w' none v v' → K (a.put o.dst v') w') : Oper.wp Tryd.prog o a w K Q := by
  obtain ⟨i, hi, hz0, hz1, hz2⟩ := info_parts Tryd.info5
  obtain ⟨v', w', hr, h2, h3⟩ := run_append_s (P := Tryd.prog) o.type Tryd.underlying38 hi hz0 hz1 hz2 w v l hown xv news hsrc hlen
  unfold Oper.wp execOp
  simp only [ho, resolve, invoke, builtin, Sem.run_bind, Sem.run_pure, Result.andThen_ok, List.map_toArray, List.map_cons, List.map_nil, hs, hx, hr]
  exact h v' w' h2 h3
theorem oper_mapUpdate {o : Oper} {a : Act} {Q : Exit → Act → World → Prop} {K : Act → World → Prop} (w : World) (m x v : Operand)
    (hop : o.op = Op.mapUpdate 79 m x v) (b n : Nat) (D : DataW Value) (hm : a.eval m = .map (some b)) (hown : MapR w b n D) (hn : n < maxLen) (s : ByteArray) (hs : s.size ≤ maxLen) (val : Value) (hx : a.eval x = .string s) (hv : a.eval v = val)
    (h : ∀ w', MapR w' b (n + 1) (D.put (.string s.data.toList) (.held val)) → w.mapTurned w' b → K (a.put o.dst undef) w') : Oper.wp Tryd.prog o a w K Q := by
  obtain ⟨w', hrun, r1, r2⟩ := World.ownsMap.store (t := 79) (e := 38) hown law9 Tryd.underlying79 hn (key_of s hs) (val := val) (d := .held val) (ps := []) rfl
  unfold Oper.wp
  simp [execOp, hop, hm, hx, hv, hrun, Result.andThen]
  exact h w' r1 r2

set_option maxHeartbeats 400000 in
theorem clip_any (a : Option Addr) (n cap : Nat) (w : World) (h : n ≤ cap) (ha : a = none → n = 0 ∧ cap = 0) (hm : n ≤ maxLen) : Calls Tryd.prog 48 #[.slice a n cap] w fun e w' => e = .returned (.slice a n n) ∧ w' = w := by
  unfold maxLen at hm
  cases a with
  | none =>
    obtain ⟨rfl, rfl⟩ := ha rfl
    go_enter Tryd.func48, Tryd.ntmps48
    go_wp2
    go_ret
    exact ⟨rfl, rfl⟩
  | some a =>
    go_enter Tryd.func48, Tryd.ntmps48
    go_wp2
    go_ret
    exact ⟨rfl, rfl⟩

theorem App.undrew {w w' : World} {b : Option Nat} {v v' : Value} (h : App w.drew w' b v v') : App w w' b v v' := ⟨h.os, h.tape, h.output, h.size, h.block, h.part, h.new⟩
theorem heap_lt {w : World} {k : Nat} {o : Obj} (h : w.heap[k]? = some o) : k < w.heap.size := (Array.getElem?_eq_some_iff.1 h).1
theorem SlR.ne_cells {w : World} {v : Value} {l : List UInt8} (h : SlR w v l) {b : Nat} {cs : Array Value} {t : TypeId} {f : Nat × Nat} (hb : w.heap[b]? = some (.cells cs t f)) (ht : t ≠ 5) : v.ownBlock ≠ some b := by
  intro e
  rcases h with ⟨rfl, _⟩ | ⟨g, cap, cur, rfl, hg, _⟩
  · cases e
  · have : g = b := by simpa [Value.ownBlock] using e
    rw [this, hb] at hg
    cases hg
    exact ht rfl
theorem cell_one {w : World} {k : Nat} {v : Value} {t : TypeId} (h : w.heap[k]? = some (.cells #[v] t (0, 0))) : w.cell? ⟨k, 0, none⟩ = some v := by
  rw [cell_of_row w k 0 _ t (0, 0) h]
  rfl
theorem bat_take (l : List UInt8) (u j : Nat) (h : j < (l.take u).length) : bat (l.take u) j = bat l j := by
  have h2 : j < u ∧ j < l.length := by rw [List.length_take] at h; omega
  simp [bat, bn, List.getD, h2.1]
theorem Bs.take {w : World} {a : Option Addr} {l : List UInt8} (h : Bs w a l) (u : Nat) : Bs w a (l.take u) := by
  refine ⟨by have := h.1; rw [List.length_take]; omega, fun hne => ?_⟩
  obtain ⟨b, off, rfl, hlt, hc⟩ := h.2 (fun e => hne (by rw [e]; simp))
  exact ⟨b, off, rfl, hlt, fun j hj => by rw [bat_take l u j hj]; exact hc j (by rw [List.length_take] at hj; omega)⟩
theorem SlR.drew {w : World} {v : Value} {l : List UInt8} (h : SlR w v l) : SlR w.drew v l := h
theorem SlR.nilOf {{w : World}} {{az : Option Addr}} {{n zc : Nat}} {{l : List UInt8}} (h : SlR w (.slice az n zc) l) : (az = none → n = 0 ∧ zc = 0) ∧ n ≤ zc ∧ n ≤ maxLen := by
  rcases h with ⟨e, _⟩ | ⟨g, cap, cur, e, _, h1, h2, h3, _⟩
  · cases e; exact ⟨fun _ => ⟨rfl, rfl⟩, Nat.le_refl _, by unfold maxLen; omega⟩
  · cases e; exact ⟨fun h => (by cases h), h1, by omega⟩
set_option maxHeartbeats 4000000 in
set_option maxRecDepth 100000 in
theorem pt_any (b n p1 q1 : Nat) (D : DataW Value) (own : ByteArray) (az : Option Addr) (zc u : Nat) (data : List UInt8) (w : World) (hm : MapR w b n D) (hn : n < maxLen) (o1 : w.heap[p1]? = some (.cells #[.slice az data.length zc] 38 (0, 0))) (ho : own.size ≤ maxLen) (o2 : w.heap[q1]? = some (.cells #[.string own] 9 (0, 0)))
    (hz : SlR w (.slice az data.length zc) data) :
    Calls Tryd.prog 47 #[.map (some b), .int .i64 (u : Int), .pointer (some ⟨p1, 0, none⟩), .pointer (some ⟨q1, 0, none⟩)] w fun e w' => e = .returned (.tuple #[]) ∧ MapR w' b (n + 1) (D.put (.string own.data.toList) (.held (.slice az data.length data.length))) ∧ App w w' (some b) (.slice none 0 0) (.slice none 0 0) := by
  have HM := hidOf hm
  obtain ⟨haz, hzc, hdm⟩ := hz.nilOf
  have c1 := cell_one o1
  have c2 := cell_one o2
  clear hm hz o1 o2
  go_enter Tryd.func47, Tryd.ntmps47
  go_wp2
  refine wp_region_L (fun w' : World => w'.cell? ⟨p1, 0, none⟩ = some (.slice az data.length zc) ∧ w'.cell? ⟨q1, 0, none⟩ = some (.string own) ∧ MapR w' b n D) 4 (by kernel_rfl) ?_
  have hHeld : (fun w' : World => w'.cell? ⟨p1, 0, none⟩ = some (.slice az data.length zc) ∧ w'.cell? ⟨q1, 0, none⟩ = some (.string own) ∧ MapR w' b n D) _ := ⟨c1, c2, HM.out⟩
  refine wpAnyL_take (i := 0) (oi := { dst := some 6, op := Op.move (Operand.tmp 0), type := 79, pos := "disk.go:59", after := #[], guard := none }) (v := .map (some b)) rfl (by kernel_rfl) (by kernel_rfl) (by kernel_rfl) (by kernel_rfl) (fun _ _ _ h => h) (Or.inl ⟨by rfl, ?_⟩) hHeld ?_
  · (intro w hSw; (try dsimp only at hSw); go_simp)
  try simp only [Act.put, List.setIfInBounds_toArray, List.set_cons_zero, List.set_cons_succ]
  refine wpAnyL_take (i := 1) (oi := { dst := some 7, op := Op.load 9 (Operand.tmp 3), type := 9, pos := "disk.go:59", after := #[], guard := none }) (v := .string own) rfl (by kernel_rfl) (by kernel_rfl) (by kernel_rfl) (by kernel_rfl) (fun _ _ _ h => h) (Or.inl ⟨by rfl, ?_⟩) hHeld ?_
  · (intro w hSw; obtain ⟨s1, s2, _⟩ := hSw; go_simp)
  try simp only [Act.put, List.setIfInBounds_toArray, List.set_cons_zero, List.set_cons_succ]
  refine wpAnyL_take (i := 2) (oi := { dst := some 8, op := Op.load 38 (Operand.tmp 2), type := 38, pos := "disk.go:59", after := #[], guard := none }) (v := .slice az data.length zc) rfl (by kernel_rfl) (by kernel_rfl) (by kernel_rfl) (by kernel_rfl) (fun _ _ _ h => h) (Or.inl ⟨by rfl, ?_⟩) hHeld ?_
  · (intro w hSw; obtain ⟨s1, s2, _⟩ := hSw; go_simp)
  try simp only [Act.put, List.setIfInBounds_toArray, List.set_cons_zero, List.set_cons_succ]
  refine wpAnyL_one (i := 3) (o := { dst := some 9, op := Op.call { callee := Callee.value (Operand.func 48), args := #[Operand.tmp 8], argTypes := #[38] }, type := 38, pos := "disk.go:59", after := #[{ on := 2, ground := Ground.data }], guard := none }) (by kernel_rfl) rfl (fun K hK => ?_)
  rw [if_pos (by rfl)]
  go_simp
  refine (clip_any az data.length zc _ hzc haz hdm).mono ?_
  rintro e w1 ⟨rfl, rfl⟩
  refine hK.out _ _ (fun _ => hHeld) ?_
  clear hK K
  try simp only [Act.put, List.setIfInBounds_toArray, List.set_cons_zero, List.set_cons_succ]
  refine wpAnyL_one (i := 4) (o := { dst := none, op := Op.mapUpdate 79 (Operand.tmp 6) (Operand.tmp 7) (Operand.tmp 9), type := 0, pos := "disk.go:59", after := #[{ on := 0, ground := Ground.data }, { on := 1, ground := Ground.data }, { on := 3, ground := Ground.data }, { on := 3, ground := Ground.chain }, { on := 0, ground := Ground.phase }, { on := 1, ground := Ground.phase }, { on := 2, ground := Ground.phase }, { on := 3, ground := Ground.phase }], guard := none }) (by kernel_rfl) rfl (fun K hK => ?_)
  rw [if_pos (by rfl)]
  refine oper_mapUpdate _ (.tmp 6) (.tmp 7) (.tmp 9) rfl b n D rfl HM.out hn own ho (.slice az data.length data.length) rfl rfl (fun w2 hm2 ht => ?_)
  refine hK.out _ _ (fun h => absurd rfl h) ?_
  clear hK K
  try simp only [Act.put]
  refine wpAnyL_done (by kernel_rfl) ?_ _
  go_end0
  exact ⟨rfl, hm2, (app_turned ht _ (by simp [Value.ownBlock])).undrew⟩
end Go.Proofs.YtkienmncifonnaaDoor
