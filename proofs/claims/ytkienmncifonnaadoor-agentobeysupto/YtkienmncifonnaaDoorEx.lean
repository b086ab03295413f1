/- Exit. -/
import Derived.Test.YtkienmncifonnaaDoorRw
import Derived.Deep.DeepMust
namespace Go.Proofs.YtkienmncifonnaaDoor
open Go.RowKit Go.Maps
variable {D : Nat} {w w' : World} {p : Nat} {s : Sg} {n c pd : Nat} {mv : Value} {G : Nat → Prop}

theorem AgR.put {b m : Nat} {D1 : DataW Value} {T' : TM} (h : AgR D w p s n c pd (.map (some b)) G) (hm : MapA w' b m D1) (ht : TkD D1 T') (hd : w.mapTurned w' b) : AgR D w' p { s with T := T' } m c pd (.map (some b)) G ∧ FrA D w w' := by
  have ho := turned_other hd
  have hob := h.t.obj
  refine ⟨⟨h.b.keep (ho p (fun e => ?_)), .inr ⟨b, D1, rfl, hm, ht⟩, h.k.one ho (.inl ⟨hob, (h.hm b rfl).2⟩), h.hp, h.hG, h.hm, h.np⟩, ⟨hd.grown.os, hd.grown.tape, hd.grown.output, hd.grown.size, fun k o hk hko => ho k (fun e => ?_)⟩⟩
  · obtain ⟨es, cl, hx⟩ := hob
    have hb' : w.heap[p]? = _ := h.b
    rw [e, hx] at hb'; cases hb'
  · obtain ⟨es, cl, hx⟩ := hob
    rw [e, hx] at hk; cases hk
    rcases hko with hko | hko
    · exact hko trivial
    · have := (h.hm b rfl).1; omega
def exB (T : TM) (k : Int) : Bool := decide ((getA T k).s = 2)
def exS (s : Sg) (k : Int) (f : Bool) : Sg := if exB s.T k = true then { s with T := tup s.T k { getA s.T k with s := if f then 4 else 3 } } else s
set_option maxHeartbeats 4000000 in
set_option maxRecDepth 100000 in
theorem exit_any (k : Int) (f : Bool) (h : AgS D w p s n c) (hk : wf64 k) (hn : n ≤ 1099511627776) :
    Calls Tryd.prog 14 #[.pointer (some ⟨p, 0, none⟩), .int .i64 k, .bool f] w fun e w' => e = .returned (.bool (exB s.T k)) ∧ AgS D w' p (exS s k f) (n + 1) c ∧ FrA D w w' := by
  obtain ⟨pd, mv, G, h⟩ := h
  have c21 : w.cell? ⟨p, 21, none⟩ = some mv := h.b.at_ 21
  have lp := h.b.lt
  obtain ⟨a, ha⟩ : ∃ a, a = getA s.T k := ⟨_, rfl⟩
  have hlk : (Instr.lookup 75 mv (.int .i64 k) false).run Tryd.prog w = .ok (.agg #[.int .i64 a.al.id, .int .i64 a.al.jb, .int .i64 a.al.vr, .int .i64 a.al.gp, .int .i64 a.al.ix, .int .i64 a.al.nd, .int .i64 a.al.ep, .int .i64 a.al.c1, .int .i64 a.al.c2, .bool a.al.sp, .int .i64 a.al.st, .int .i64 a.s]) w := by rw [h.t.look hk, ← ha]; rfl
  have HA := hidOf h
  have HB : Hid (Below w.heap.size w (w.alloc (.cells #[.int .i64 a.al.id, .int .i64 a.al.jb, .int .i64 a.al.vr, .int .i64 a.al.gp, .int .i64 a.al.ix, .int .i64 a.al.nd, .int .i64 a.al.ep, .int .i64 a.al.c1, .int .i64 a.al.c2, .bool a.al.sp, .int .i64 a.al.st, .int .i64 a.s] 86))) := hidOf (below1 w _)
  have HAa := hidOf ha
  obtain ⟨r, hr⟩ : ∃ r, r = exS s k f := ⟨_, rfl⟩
  obtain ⟨u, hu⟩ : ∃ u, u = exB s.T k := ⟨_, rfl⟩
  have HR := hidOf hr
  have HU := hidOf hu
  rw [← hr, ← hu]
  by_cases e1 : a.s = 2
  · have ed : decide (a.s = 2) = true := by simp [e1]
    have eu : u = true := by rw [HU.out]; unfold exB; rw [← HAa.out]; simp [e1]
    have er : r = { s with T := tup s.T k { a with s := if f then 4 else 3 } } := by rw [HR.out]; unfold exS exB; rw [← HAa.out, if_pos (by simp [e1])]
    rw [er, eu]
    rcases h.t with ⟨rfl, hT⟩ | ⟨b, D0, rfl, hm, hd⟩
    · rw [ha, hT] at e1; cases e1
    · have HM := hidOf hm
      have HTK := hidOf hd
      clear h hr hu ha er eu HR HU hm hd e1
      cases f with
      | true =>
        go_enter Tryd.func14, Tryd.ntmps14
        go_upto_region 7 with ((go_at_call 22; go_must (refine (runs_any a _).mono ?_; rintro e w2 ⟨rfl, hb2⟩; have HB2 := hidOf ((HB.out).trans (hb2.mono HB.out.size)); have HT2 : Hid (w2.heap[w.heap.size]? = some (.cells (akC a) 86 (0, 0))) := hidOf ((hb2.block _ (by simp)).trans (heap_alloc_new w _)); have fz2 : ∀ j, w2.frozen? ⟨w.heap.size, j, none⟩ = false := (fun j => (by simp [World.frozen?, HT2.out])); have l2 : w.heap.size < w2.heap.size := heap_lt HT2.out; clear hb2; have y0 : w2.cell? ⟨w.heap.size, 0, none⟩ = some (.int .i64 a.al.id) := (cell_of_row _ _ 0 _ 86 (0, 0) HT2.out).trans rfl; have y1 : w2.cell? ⟨w.heap.size, 1, none⟩ = some (.int .i64 a.al.jb) := (cell_of_row _ _ 1 _ 86 (0, 0) HT2.out).trans rfl; have y2 : w2.cell? ⟨w.heap.size, 2, none⟩ = some (.int .i64 a.al.vr) := (cell_of_row _ _ 2 _ 86 (0, 0) HT2.out).trans rfl; have y3 : w2.cell? ⟨w.heap.size, 3, none⟩ = some (.int .i64 a.al.gp) := (cell_of_row _ _ 3 _ 86 (0, 0) HT2.out).trans rfl; have y4 : w2.cell? ⟨w.heap.size, 4, none⟩ = some (.int .i64 a.al.ix) := (cell_of_row _ _ 4 _ 86 (0, 0) HT2.out).trans rfl; have y5 : w2.cell? ⟨w.heap.size, 5, none⟩ = some (.int .i64 a.al.nd) := (cell_of_row _ _ 5 _ 86 (0, 0) HT2.out).trans rfl; have y6 : w2.cell? ⟨w.heap.size, 6, none⟩ = some (.int .i64 a.al.ep) := (cell_of_row _ _ 6 _ 86 (0, 0) HT2.out).trans rfl; have y7 : w2.cell? ⟨w.heap.size, 7, none⟩ = some (.int .i64 a.al.c1) := (cell_of_row _ _ 7 _ 86 (0, 0) HT2.out).trans rfl; have y8 : w2.cell? ⟨w.heap.size, 8, none⟩ = some (.int .i64 a.al.c2) := (cell_of_row _ _ 8 _ 86 (0, 0) HT2.out).trans rfl; have y9 : w2.cell? ⟨w.heap.size, 9, none⟩ = some (.bool a.al.sp) := (cell_of_row _ _ 9 _ 86 (0, 0) HT2.out).trans rfl; have y10 : w2.cell? ⟨w.heap.size, 10, none⟩ = some (.int .i64 a.al.st) := (cell_of_row _ _ 10 _ 86 (0, 0) HT2.out).trans rfl; have y11 : w2.cell? ⟨w.heap.size, 11, none⟩ = some (.int .i64 a.s) := (cell_of_row _ _ 11 _ 86 (0, 0) HT2.out).trans rfl)))
        have HQ : Hid (((w2.setCell ⟨w.heap.size, 11, none⟩ (.int .i64 3)).setCell ⟨w.heap.size, 11, none⟩ (.int .i64 4)).drew.heap[w.heap.size]? = some (.cells #[.int .i64 a.al.id, .int .i64 a.al.jb, .int .i64 a.al.vr, .int .i64 a.al.gp, .int .i64 a.al.ix, .int .i64 a.al.nd, .int .i64 a.al.ep, .int .i64 a.al.c1, .int .i64 a.al.c2, .bool a.al.sp, .int .i64 a.al.st, .int .i64 4] 86 (0, 0))) := hidOf (heap_setCell_same (w2.setCell ⟨w.heap.size, 11, none⟩ (.int .i64 3)) w.heap.size 11 _ 86 (.int .i64 4) (heap_setCell_same w2 w.heap.size 11 _ 86 (.int .i64 3) HT2.out))
        have HB3 : Hid (Below w.heap.size w ((w2.setCell ⟨w.heap.size, 11, none⟩ (.int .i64 3)).setCell ⟨w.heap.size, 11, none⟩ (.int .i64 4)).drew) := hidOf (((HB2.out.setCell (p := ⟨w.heap.size, 11, none⟩) (Nat.le_refl _) _).setCell (p := ⟨w.heap.size, 11, none⟩) (Nat.le_refl _) _).drew)
        have HA3 := hidOf (HA.out.below HB3.out)
        refine wp_region_L (fun Y : World => Y.cell? ⟨p, 21, none⟩ = some (.map (some b)) ∧ Y.cell? ⟨w.heap.size, 0, none⟩ = some (.int .i64 a.al.id) ∧ Y.cell? ⟨w.heap.size, 1, none⟩ = some (.int .i64 a.al.jb) ∧ Y.cell? ⟨w.heap.size, 2, none⟩ = some (.int .i64 a.al.vr) ∧ Y.cell? ⟨w.heap.size, 3, none⟩ = some (.int .i64 a.al.gp) ∧ Y.cell? ⟨w.heap.size, 4, none⟩ = some (.int .i64 a.al.ix) ∧ Y.cell? ⟨w.heap.size, 5, none⟩ = some (.int .i64 a.al.nd) ∧ Y.cell? ⟨w.heap.size, 6, none⟩ = some (.int .i64 a.al.ep) ∧ Y.cell? ⟨w.heap.size, 7, none⟩ = some (.int .i64 a.al.c1) ∧ Y.cell? ⟨w.heap.size, 8, none⟩ = some (.int .i64 a.al.c2) ∧ Y.cell? ⟨w.heap.size, 9, none⟩ = some (.bool a.al.sp) ∧ Y.cell? ⟨w.heap.size, 10, none⟩ = some (.int .i64 a.al.st) ∧ Y.cell? ⟨w.heap.size, 11, none⟩ = some (.int .i64 4)) 6 (by kernel_rfl) ?_
        have hHeld : (fun Y : World => Y.cell? ⟨p, 21, none⟩ = some (.map (some b)) ∧ Y.cell? ⟨w.heap.size, 0, none⟩ = some (.int .i64 a.al.id) ∧ Y.cell? ⟨w.heap.size, 1, none⟩ = some (.int .i64 a.al.jb) ∧ Y.cell? ⟨w.heap.size, 2, none⟩ = some (.int .i64 a.al.vr) ∧ Y.cell? ⟨w.heap.size, 3, none⟩ = some (.int .i64 a.al.gp) ∧ Y.cell? ⟨w.heap.size, 4, none⟩ = some (.int .i64 a.al.ix) ∧ Y.cell? ⟨w.heap.size, 5, none⟩ = some (.int .i64 a.al.nd) ∧ Y.cell? ⟨w.heap.size, 6, none⟩ = some (.int .i64 a.al.ep) ∧ Y.cell? ⟨w.heap.size, 7, none⟩ = some (.int .i64 a.al.c1) ∧ Y.cell? ⟨w.heap.size, 8, none⟩ = some (.int .i64 a.al.c2) ∧ Y.cell? ⟨w.heap.size, 9, none⟩ = some (.bool a.al.sp) ∧ Y.cell? ⟨w.heap.size, 10, none⟩ = some (.int .i64 a.al.st) ∧ Y.cell? ⟨w.heap.size, 11, none⟩ = some (.int .i64 4)) _ := ⟨HA3.out.b.at_ 21, (cell_of_row _ w.heap.size 0 _ 86 (0, 0) HQ.out).trans rfl, (cell_of_row _ w.heap.size 1 _ 86 (0, 0) HQ.out).trans rfl, (cell_of_row _ w.heap.size 2 _ 86 (0, 0) HQ.out).trans rfl, (cell_of_row _ w.heap.size 3 _ 86 (0, 0) HQ.out).trans rfl, (cell_of_row _ w.heap.size 4 _ 86 (0, 0) HQ.out).trans rfl, (cell_of_row _ w.heap.size 5 _ 86 (0, 0) HQ.out).trans rfl, (cell_of_row _ w.heap.size 6 _ 86 (0, 0) HQ.out).trans rfl, (cell_of_row _ w.heap.size 7 _ 86 (0, 0) HQ.out).trans rfl, (cell_of_row _ w.heap.size 8 _ 86 (0, 0) HQ.out).trans rfl, (cell_of_row _ w.heap.size 9 _ 86 (0, 0) HQ.out).trans rfl, (cell_of_row _ w.heap.size 10 _ 86 (0, 0) HQ.out).trans rfl, (cell_of_row _ w.heap.size 11 _ 86 (0, 0) HQ.out).trans rfl⟩
        refine wpAnyL_take (i := 0) (oi := { dst := some 20, op := Op.move (Operand.tmp 0), type := 23, pos := "agent.go:88", after := #[], guard := none }) (v := .pointer (some ⟨p, 0, none⟩)) rfl (by kernel_rfl) (by kernel_rfl) (by kernel_rfl) (by kernel_rfl) (fun _ _ _ h => h) (Or.inl ⟨by rfl, ?_⟩) hHeld ?_
        · (intro w hSw; (try dsimp only at hSw); go_simp)
        try simp only [Act.put, List.setIfInBounds_toArray, List.set_cons_zero, List.set_cons_succ]
        refine wpAnyL_take (i := 1) (oi := { dst := some 21, op := Op.nilCheck (Operand.tmp 20), type := 0, pos := "agent.go:88", after := #[{ on := 0, ground := Ground.data }], guard := none }) (v := .pointer (some ⟨p, 0, none⟩)) rfl (by kernel_rfl) (by kernel_rfl) (by kernel_rfl) (by kernel_rfl) (fun _ _ _ h => h) (Or.inl ⟨by rfl, ?_⟩) hHeld ?_
        · (intro w hSw; (try dsimp only at hSw); go_simp)
        try simp only [Act.put, List.setIfInBounds_toArray, List.set_cons_zero, List.set_cons_succ]
        refine wpAnyL_take (i := 2) (oi := { dst := some 22, op := Op.fieldAddr 77 (Operand.tmp 21) 11, type := 0, pos := "agent.go:88", after := #[{ on := 1, ground := Ground.data }], guard := none }) (v := .pointer (some ⟨p, 21, none⟩)) rfl (by kernel_rfl) (by kernel_rfl) (by kernel_rfl) (by kernel_rfl) (fun _ _ _ h => h) (Or.inl ⟨by rfl, ?_⟩) hHeld ?_
        · (intro w hSw; (try dsimp only at hSw); go_simp)
        try simp only [Act.put, List.setIfInBounds_toArray, List.set_cons_zero, List.set_cons_succ]
        refine wpAnyL_take (i := 3) (oi := { dst := some 23, op := Op.load 75 (Operand.tmp 22), type := 75, pos := "agent.go:88", after := #[{ on := 2, ground := Ground.data }], guard := none }) (v := .map (some b)) rfl (by kernel_rfl) (by kernel_rfl) (by kernel_rfl) (by kernel_rfl) (fun _ _ _ h => h) (Or.inl ⟨by rfl, ?_⟩) hHeld ?_
        · (intro w hSw; (try dsimp only at hSw); go_simp)
        try simp only [Act.put, List.setIfInBounds_toArray, List.set_cons_zero, List.set_cons_succ]
        refine wpAnyL_take (i := 4) (oi := { dst := some 24, op := Op.move (Operand.tmp 1), type := 3, pos := "agent.go:88", after := #[], guard := none }) (v := .int .i64 k) rfl (by kernel_rfl) (by kernel_rfl) (by kernel_rfl) (by kernel_rfl) (fun _ _ _ h => h) (Or.inl ⟨by rfl, ?_⟩) hHeld ?_
        · (intro w hSw; (try dsimp only at hSw); go_simp)
        try simp only [Act.put, List.setIfInBounds_toArray, List.set_cons_zero, List.set_cons_succ]
        refine wpAnyL_take (i := 5) (oi := { dst := some 25, op := Op.load 86 (Operand.tmp 7), type := 86, pos := "agent.go:88", after := #[], guard := none }) (v := .agg #[.int .i64 a.al.id, .int .i64 a.al.jb, .int .i64 a.al.vr, .int .i64 a.al.gp, .int .i64 a.al.ix, .int .i64 a.al.nd, .int .i64 a.al.ep, .int .i64 a.al.c1, .int .i64 a.al.c2, .bool a.al.sp, .int .i64 a.al.st, .int .i64 4]) rfl (by kernel_rfl) (by kernel_rfl) (by kernel_rfl) (by kernel_rfl) (fun _ _ _ h => h) (Or.inl ⟨by rfl, ?_⟩) hHeld ?_
        · (intro w hSw; (try dsimp only at hSw); go_simp)
        try simp only [Act.put, List.setIfInBounds_toArray, List.set_cons_zero, List.set_cons_succ]
        refine wpAnyL_one (i := 6) (o := { dst := none, op := Op.mapUpdate 75 (Operand.tmp 23) (Operand.tmp 24) (Operand.tmp 25), type := 0, pos := "agent.go:88", after := #[{ on := 3, ground := Ground.data }, { on := 4, ground := Ground.data }, { on := 5, ground := Ground.data }, { on := 0, ground := Ground.phase }, { on := 1, ground := Ground.phase }, { on := 2, ground := Ground.phase }, { on := 3, ground := Ground.phase }, { on := 4, ground := Ground.phase }, { on := 5, ground := Ground.phase }], guard := none }) (by kernel_rfl) rfl (fun K hK => ?_)
        rw [if_pos (by rfl)]
        refine oper_mapA _ (.tmp 23) (.tmp 24) (.tmp 25) rfl b n D0 rfl (HM.out.kept (HB3.out.block b (World.ownsMap.lt HM.out))) (by unfold maxLen; omega) k hk { a with s := 4 } rfl rfl (fun w3 hm3 ht3 => ?_)
        have HM3 := hidOf hm3
        have HT3 := hidOf ht3
        clear hm3 ht3
        refine hK.out _ _ (fun h => absurd rfl h) ?_
        clear hK K
        try simp only [Act.put]
        refine wpAnyL_done (by kernel_rfl) ?_ _
        go_wp2
        go_ret
        have hp := HA3.out.put HM3.out (HTK.out.put (World.ownsMap.isMap HM.out) k { a with s := 4 }) HT3.out
        exact ⟨rfl, ⟨pd, _, G, hp.1⟩, (FrA.of_below HB3.out).trans hp.2⟩
      | false =>
        go_enter Tryd.func14, Tryd.ntmps14
        go_upto_region 7 with ((go_at_call 22; go_must (refine (runs_any a _).mono ?_; rintro e w2 ⟨rfl, hb2⟩; have HB2 := hidOf ((HB.out).trans (hb2.mono HB.out.size)); have HT2 : Hid (w2.heap[w.heap.size]? = some (.cells (akC a) 86 (0, 0))) := hidOf ((hb2.block _ (by simp)).trans (heap_alloc_new w _)); have fz2 : ∀ j, w2.frozen? ⟨w.heap.size, j, none⟩ = false := (fun j => (by simp [World.frozen?, HT2.out])); have l2 : w.heap.size < w2.heap.size := heap_lt HT2.out; clear hb2; have y0 : w2.cell? ⟨w.heap.size, 0, none⟩ = some (.int .i64 a.al.id) := (cell_of_row _ _ 0 _ 86 (0, 0) HT2.out).trans rfl; have y1 : w2.cell? ⟨w.heap.size, 1, none⟩ = some (.int .i64 a.al.jb) := (cell_of_row _ _ 1 _ 86 (0, 0) HT2.out).trans rfl; have y2 : w2.cell? ⟨w.heap.size, 2, none⟩ = some (.int .i64 a.al.vr) := (cell_of_row _ _ 2 _ 86 (0, 0) HT2.out).trans rfl; have y3 : w2.cell? ⟨w.heap.size, 3, none⟩ = some (.int .i64 a.al.gp) := (cell_of_row _ _ 3 _ 86 (0, 0) HT2.out).trans rfl; have y4 : w2.cell? ⟨w.heap.size, 4, none⟩ = some (.int .i64 a.al.ix) := (cell_of_row _ _ 4 _ 86 (0, 0) HT2.out).trans rfl; have y5 : w2.cell? ⟨w.heap.size, 5, none⟩ = some (.int .i64 a.al.nd) := (cell_of_row _ _ 5 _ 86 (0, 0) HT2.out).trans rfl; have y6 : w2.cell? ⟨w.heap.size, 6, none⟩ = some (.int .i64 a.al.ep) := (cell_of_row _ _ 6 _ 86 (0, 0) HT2.out).trans rfl; have y7 : w2.cell? ⟨w.heap.size, 7, none⟩ = some (.int .i64 a.al.c1) := (cell_of_row _ _ 7 _ 86 (0, 0) HT2.out).trans rfl; have y8 : w2.cell? ⟨w.heap.size, 8, none⟩ = some (.int .i64 a.al.c2) := (cell_of_row _ _ 8 _ 86 (0, 0) HT2.out).trans rfl; have y9 : w2.cell? ⟨w.heap.size, 9, none⟩ = some (.bool a.al.sp) := (cell_of_row _ _ 9 _ 86 (0, 0) HT2.out).trans rfl; have y10 : w2.cell? ⟨w.heap.size, 10, none⟩ = some (.int .i64 a.al.st) := (cell_of_row _ _ 10 _ 86 (0, 0) HT2.out).trans rfl; have y11 : w2.cell? ⟨w.heap.size, 11, none⟩ = some (.int .i64 a.s) := (cell_of_row _ _ 11 _ 86 (0, 0) HT2.out).trans rfl)))
        have HQ : Hid ((w2.setCell ⟨w.heap.size, 11, none⟩ (.int .i64 3)).drew.heap[w.heap.size]? = some (.cells #[.int .i64 a.al.id, .int .i64 a.al.jb, .int .i64 a.al.vr, .int .i64 a.al.gp, .int .i64 a.al.ix, .int .i64 a.al.nd, .int .i64 a.al.ep, .int .i64 a.al.c1, .int .i64 a.al.c2, .bool a.al.sp, .int .i64 a.al.st, .int .i64 3] 86 (0, 0))) := hidOf (heap_setCell_same w2 w.heap.size 11 _ 86 (.int .i64 3) HT2.out)
        have HB3 : Hid (Below w.heap.size w (w2.setCell ⟨w.heap.size, 11, none⟩ (.int .i64 3)).drew) := hidOf ((HB2.out.setCell (p := ⟨w.heap.size, 11, none⟩) (Nat.le_refl _) _).drew)
        have HA3 := hidOf (HA.out.below HB3.out)
        refine wp_region_L (fun Y : World => Y.cell? ⟨p, 21, none⟩ = some (.map (some b)) ∧ Y.cell? ⟨w.heap.size, 0, none⟩ = some (.int .i64 a.al.id) ∧ Y.cell? ⟨w.heap.size, 1, none⟩ = some (.int .i64 a.al.jb) ∧ Y.cell? ⟨w.heap.size, 2, none⟩ = some (.int .i64 a.al.vr) ∧ Y.cell? ⟨w.heap.size, 3, none⟩ = some (.int .i64 a.al.gp) ∧ Y.cell? ⟨w.heap.size, 4, none⟩ = some (.int .i64 a.al.ix) ∧ Y.cell? ⟨w.heap.size, 5, none⟩ = some (.int .i64 a.al.nd) ∧ Y.cell? ⟨w.heap.size, 6, none⟩ = some (.int .i64 a.al.ep) ∧ Y.cell? ⟨w.heap.size, 7, none⟩ = some (.int .i64 a.al.c1) ∧ Y.cell? ⟨w.heap.size, 8, none⟩ = some (.int .i64 a.al.c2) ∧ Y.cell? ⟨w.heap.size, 9, none⟩ = some (.bool a.al.sp) ∧ Y.cell? ⟨w.heap.size, 10, none⟩ = some (.int .i64 a.al.st) ∧ Y.cell? ⟨w.heap.size, 11, none⟩ = some (.int .i64 3)) 6 (by kernel_rfl) ?_
        have hHeld : (fun Y : World => Y.cell? ⟨p, 21, none⟩ = some (.map (some b)) ∧ Y.cell? ⟨w.heap.size, 0, none⟩ = some (.int .i64 a.al.id) ∧ Y.cell? ⟨w.heap.size, 1, none⟩ = some (.int .i64 a.al.jb) ∧ Y.cell? ⟨w.heap.size, 2, none⟩ = some (.int .i64 a.al.vr) ∧ Y.cell? ⟨w.heap.size, 3, none⟩ = some (.int .i64 a.al.gp) ∧ Y.cell? ⟨w.heap.size, 4, none⟩ = some (.int .i64 a.al.ix) ∧ Y.cell? ⟨w.heap.size, 5, none⟩ = some (.int .i64 a.al.nd) ∧ Y.cell? ⟨w.heap.size, 6, none⟩ = some (.int .i64 a.al.ep) ∧ Y.cell? ⟨w.heap.size, 7, none⟩ = some (.int .i64 a.al.c1) ∧ Y.cell? ⟨w.heap.size, 8, none⟩ = some (.int .i64 a.al.c2) ∧ Y.cell? ⟨w.heap.size, 9, none⟩ = some (.bool a.al.sp) ∧ Y.cell? ⟨w.heap.size, 10, none⟩ = some (.int .i64 a.al.st) ∧ Y.cell? ⟨w.heap.size, 11, none⟩ = some (.int .i64 3)) _ := ⟨HA3.out.b.at_ 21, (cell_of_row _ w.heap.size 0 _ 86 (0, 0) HQ.out).trans rfl, (cell_of_row _ w.heap.size 1 _ 86 (0, 0) HQ.out).trans rfl, (cell_of_row _ w.heap.size 2 _ 86 (0, 0) HQ.out).trans rfl, (cell_of_row _ w.heap.size 3 _ 86 (0, 0) HQ.out).trans rfl, (cell_of_row _ w.heap.size 4 _ 86 (0, 0) HQ.out).trans rfl, (cell_of_row _ w.heap.size 5 _ 86 (0, 0) HQ.out).trans rfl, (cell_of_row _ w.heap.size 6 _ 86 (0, 0) HQ.out).trans rfl, (cell_of_row _ w.heap.size 7 _ 86 (0, 0) HQ.out).trans rfl, (cell_of_row _ w.heap.size 8 _ 86 (0, 0) HQ.out).trans rfl, (cell_of_row _ w.heap.size 9 _ 86 (0, 0) HQ.out).trans rfl, (cell_of_row _ w.heap.size 10 _ 86 (0, 0) HQ.out).trans rfl, (cell_of_row _ w.heap.size 11 _ 86 (0, 0) HQ.out).trans rfl⟩
        refine wpAnyL_take (i := 0) (oi := { dst := some 20, op := Op.move (Operand.tmp 0), type := 23, pos := "agent.go:88", after := #[], guard := none }) (v := .pointer (some ⟨p, 0, none⟩)) rfl (by kernel_rfl) (by kernel_rfl) (by kernel_rfl) (by kernel_rfl) (fun _ _ _ h => h) (Or.inl ⟨by rfl, ?_⟩) hHeld ?_
        · (intro w hSw; (try dsimp only at hSw); go_simp)
        try simp only [Act.put, List.setIfInBounds_toArray, List.set_cons_zero, List.set_cons_succ]
        refine wpAnyL_take (i := 1) (oi := { dst := some 21, op := Op.nilCheck (Operand.tmp 20), type := 0, pos := "agent.go:88", after := #[{ on := 0, ground := Ground.data }], guard := none }) (v := .pointer (some ⟨p, 0, none⟩)) rfl (by kernel_rfl) (by kernel_rfl) (by kernel_rfl) (by kernel_rfl) (fun _ _ _ h => h) (Or.inl ⟨by rfl, ?_⟩) hHeld ?_
        · (intro w hSw; (try dsimp only at hSw); go_simp)
        try simp only [Act.put, List.setIfInBounds_toArray, List.set_cons_zero, List.set_cons_succ]
        refine wpAnyL_take (i := 2) (oi := { dst := some 22, op := Op.fieldAddr 77 (Operand.tmp 21) 11, type := 0, pos := "agent.go:88", after := #[{ on := 1, ground := Ground.data }], guard := none }) (v := .pointer (some ⟨p, 21, none⟩)) rfl (by kernel_rfl) (by kernel_rfl) (by kernel_rfl) (by kernel_rfl) (fun _ _ _ h => h) (Or.inl ⟨by rfl, ?_⟩) hHeld ?_
        · (intro w hSw; (try dsimp only at hSw); go_simp)
        try simp only [Act.put, List.setIfInBounds_toArray, List.set_cons_zero, List.set_cons_succ]
        refine wpAnyL_take (i := 3) (oi := { dst := some 23, op := Op.load 75 (Operand.tmp 22), type := 75, pos := "agent.go:88", after := #[{ on := 2, ground := Ground.data }], guard := none }) (v := .map (some b)) rfl (by kernel_rfl) (by kernel_rfl) (by kernel_rfl) (by kernel_rfl) (fun _ _ _ h => h) (Or.inl ⟨by rfl, ?_⟩) hHeld ?_
        · (intro w hSw; (try dsimp only at hSw); go_simp)
        try simp only [Act.put, List.setIfInBounds_toArray, List.set_cons_zero, List.set_cons_succ]
        refine wpAnyL_take (i := 4) (oi := { dst := some 24, op := Op.move (Operand.tmp 1), type := 3, pos := "agent.go:88", after := #[], guard := none }) (v := .int .i64 k) rfl (by kernel_rfl) (by kernel_rfl) (by kernel_rfl) (by kernel_rfl) (fun _ _ _ h => h) (Or.inl ⟨by rfl, ?_⟩) hHeld ?_
        · (intro w hSw; (try dsimp only at hSw); go_simp)
        try simp only [Act.put, List.setIfInBounds_toArray, List.set_cons_zero, List.set_cons_succ]
        refine wpAnyL_take (i := 5) (oi := { dst := some 25, op := Op.load 86 (Operand.tmp 7), type := 86, pos := "agent.go:88", after := #[], guard := none }) (v := .agg #[.int .i64 a.al.id, .int .i64 a.al.jb, .int .i64 a.al.vr, .int .i64 a.al.gp, .int .i64 a.al.ix, .int .i64 a.al.nd, .int .i64 a.al.ep, .int .i64 a.al.c1, .int .i64 a.al.c2, .bool a.al.sp, .int .i64 a.al.st, .int .i64 3]) rfl (by kernel_rfl) (by kernel_rfl) (by kernel_rfl) (by kernel_rfl) (fun _ _ _ h => h) (Or.inl ⟨by rfl, ?_⟩) hHeld ?_
        · (intro w hSw; (try dsimp only at hSw); go_simp)
        try simp only [Act.put, List.setIfInBounds_toArray, List.set_cons_zero, List.set_cons_succ]
        refine wpAnyL_one (i := 6) (o := { dst := none, op := Op.mapUpdate 75 (Operand.tmp 23) (Operand.tmp 24) (Operand.tmp 25), type := 0, pos := "agent.go:88", after := #[{ on := 3, ground := Ground.data }, { on := 4, ground := Ground.data }, { on := 5, ground := Ground.data }, { on := 0, ground := Ground.phase }, { on := 1, ground := Ground.phase }, { on := 2, ground := Ground.phase }, { on := 3, ground := Ground.phase }, { on := 4, ground := Ground.phase }, { on := 5, ground := Ground.phase }], guard := none }) (by kernel_rfl) rfl (fun K hK => ?_)
        rw [if_pos (by rfl)]
        refine oper_mapA _ (.tmp 23) (.tmp 24) (.tmp 25) rfl b n D0 rfl (HM.out.kept (HB3.out.block b (World.ownsMap.lt HM.out))) (by unfold maxLen; omega) k hk { a with s := 3 } rfl rfl (fun w3 hm3 ht3 => ?_)
        have HM3 := hidOf hm3
        have HT3 := hidOf ht3
        clear hm3 ht3
        refine hK.out _ _ (fun h => absurd rfl h) ?_
        clear hK K
        try simp only [Act.put]
        refine wpAnyL_done (by kernel_rfl) ?_ _
        go_wp2
        go_ret
        have hp := HA3.out.put HM3.out (HTK.out.put (World.ownsMap.isMap HM.out) k { a with s := 3 }) HT3.out
        exact ⟨rfl, ⟨pd, _, G, hp.1⟩, (FrA.of_below HB3.out).trans hp.2⟩
  · have ed : decide (a.s = 2) = false := by simp [e1]
    have eu : u = false := by rw [HU.out]; unfold exB; rw [← HAa.out]; simp [e1]
    have er : r = s := by rw [HR.out]; unfold exS exB; rw [← HAa.out, if_neg (by simp [e1])]
    rw [er, eu]
    clear h hr hu ha er eu HR HU e1
    go_enter Tryd.func14, Tryd.ntmps14
    go_wp2_with ((go_at_call 22; go_must (refine (runs_any a _).mono ?_; rintro e w2 ⟨rfl, hb2⟩; have HB2 := hidOf ((HB.out).trans (hb2.mono HB.out.size)); have HT2 : Hid (w2.heap[w.heap.size]? = some (.cells (akC a) 86 (0, 0))) := hidOf ((hb2.block _ (by simp)).trans (heap_alloc_new w _)); have fz2 : ∀ j, w2.frozen? ⟨w.heap.size, j, none⟩ = false := (fun j => (by simp [World.frozen?, HT2.out])); have l2 : w.heap.size < w2.heap.size := heap_lt HT2.out; clear hb2; have y0 : w2.cell? ⟨w.heap.size, 0, none⟩ = some (.int .i64 a.al.id) := (cell_of_row _ _ 0 _ 86 (0, 0) HT2.out).trans rfl; have y1 : w2.cell? ⟨w.heap.size, 1, none⟩ = some (.int .i64 a.al.jb) := (cell_of_row _ _ 1 _ 86 (0, 0) HT2.out).trans rfl; have y2 : w2.cell? ⟨w.heap.size, 2, none⟩ = some (.int .i64 a.al.vr) := (cell_of_row _ _ 2 _ 86 (0, 0) HT2.out).trans rfl; have y3 : w2.cell? ⟨w.heap.size, 3, none⟩ = some (.int .i64 a.al.gp) := (cell_of_row _ _ 3 _ 86 (0, 0) HT2.out).trans rfl; have y4 : w2.cell? ⟨w.heap.size, 4, none⟩ = some (.int .i64 a.al.ix) := (cell_of_row _ _ 4 _ 86 (0, 0) HT2.out).trans rfl; have y5 : w2.cell? ⟨w.heap.size, 5, none⟩ = some (.int .i64 a.al.nd) := (cell_of_row _ _ 5 _ 86 (0, 0) HT2.out).trans rfl; have y6 : w2.cell? ⟨w.heap.size, 6, none⟩ = some (.int .i64 a.al.ep) := (cell_of_row _ _ 6 _ 86 (0, 0) HT2.out).trans rfl; have y7 : w2.cell? ⟨w.heap.size, 7, none⟩ = some (.int .i64 a.al.c1) := (cell_of_row _ _ 7 _ 86 (0, 0) HT2.out).trans rfl; have y8 : w2.cell? ⟨w.heap.size, 8, none⟩ = some (.int .i64 a.al.c2) := (cell_of_row _ _ 8 _ 86 (0, 0) HT2.out).trans rfl; have y9 : w2.cell? ⟨w.heap.size, 9, none⟩ = some (.bool a.al.sp) := (cell_of_row _ _ 9 _ 86 (0, 0) HT2.out).trans rfl; have y10 : w2.cell? ⟨w.heap.size, 10, none⟩ = some (.int .i64 a.al.st) := (cell_of_row _ _ 10 _ 86 (0, 0) HT2.out).trans rfl; have y11 : w2.cell? ⟨w.heap.size, 11, none⟩ = some (.int .i64 a.s) := (cell_of_row _ _ 11 _ 86 (0, 0) HT2.out).trans rfl)))
    go_ret
    exact ⟨rfl, ⟨pd, mv, G, (HA.out.below HB2.out).moreN (Nat.le_succ n)⟩, .of_below HB2.out⟩
end Go.Proofs.YtkienmncifonnaaDoor
