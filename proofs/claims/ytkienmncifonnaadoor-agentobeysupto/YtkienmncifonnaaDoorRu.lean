/- run: tasks by what is told. -/
import Derived.Test.YtkienmncifonnaaDoorFo
namespace Go.Proofs.YtkienmncifonnaaDoor
open Go.RowKit Go.Maps
variable {D : Nat} {w w' : World} {p : Nat} {s : Sg} {n c pd : Nat} {mv : Value} {G : Nat → Prop}

/- an agent stays, where one map turns that is not its own -/
theorem AgR.one (h : AgR D w p s n c pd mv G) {b : Nat} (hw : ∀ k, k ≠ b → w'.heap[k]? = w.heap[k]?) (hb : ∃ es cl, w.heap[b]? = some (.map es cl)) (hG : ¬ G b) (hm : mv ≠ .map (some b)) : AgR D w' p s n c pd mv G := by
  refine ⟨h.b.keep (hw p (fun e => ?_)), h.t.kept (fun k e => hw k (fun e2 => hm (by rw [e, e2]))), h.k.one hw (.inl ⟨hb, hG⟩), h.hp, h.hG, h.hm, h.np⟩
  obtain ⟨es, cl, ho⟩ := hb
  have hb' : w.heap[p]? = _ := h.b
  rw [e] at hb'
  rw [hb'] at ho; cases ho
def rnS (T : TM) (id ep : Int) (M : TM) (x : Al) : TM := if x.nd = id ∧ x.ep = ep then tup M x.id (tkF T x) else M
def runT (T : TM) (id ep : Int) (L : List Al) : TM := L.foldl (rnS T id ep) tk0
theorem runT_snoc (T : TM) (id ep : Int) (L : List Al) (x : Al) : runT T id ep (L ++ [x]) = rnS T id ep (runT T id ep L) x := by simp [runT]
theorem turned_other {w w' : World} {b : Nat} (h : w.mapTurned w' b) : ∀ k, k ≠ b → w'.heap[k]? = w.heap[k]? := by
  obtain ⟨es, cl, es', cl', h1, rfl⟩ := h
  intro k hk
  exact Go.ChangeMaps.heap_setBlock_other h1 _ hk
theorem oper_mapA {o : Oper} {a : Act} {Q : Exit → Act → World → Prop} {K : Act → World → Prop} (w : World) (m x v : Operand)
    (hop : o.op = Op.mapUpdate 75 m x v) (b n : Nat) (D : DataW Value) (hm : a.eval m = .map (some b)) (hown : MapA w b n D) (hn : n < maxLen) (k : Int) (hk : wf64 k) (y : Ak) (hx : a.eval x = .int .i64 k) (hv : a.eval v = akV y)
    (h : ∀ w', MapA w' b (n + 1) (D.put (.int .i64 k) (.held (akV y))) → w.mapTurned w' b → K (a.put o.dst undef) w') : Oper.wp Tryd.prog o a w K Q := by
  obtain ⟨w', hrun, r1, r2⟩ := World.ownsMap.store (t := 75) (e := 86) hown law3 Tryd.underlying75 hn (key3 hk) (val := akV y) (d := .held (akV y)) (ps := []) rfl
  unfold Oper.wp
  simp [execOp, hop, hm, hx, hv, hrun, Result.andThen]
  exact h w' r1 r2
theorem tkD_new : TkD (.map []) tk0 := ⟨fun _ => rfl, fun _ => rfl⟩
theorem MapA.kept {w w' : World} {b n : Nat} {D0 : DataW Value} (h : MapA w b n D0) (e : w'.heap[b]? = w.heap[b]?) : MapA w' b n D0 := by
  obtain ⟨es, cl, h1, h2⟩ := h
  exact ⟨es, cl, e.trans h1, h2⟩
theorem MapA.obj {w : World} {b n : Nat} {D0 : DataW Value} (h : MapA w b n D0) : ∃ es cl, w.heap[b]? = some (.map es cl) := by
  obtain ⟨es, cl, h1, h2⟩ := h
  exact ⟨es, cl, h1⟩
theorem al_at {w : World} {a : Option Addr} {L : List Al} {D : Nat} (h : RdR D 67 11 alC w a L) {i : Nat} {x : Al} (hx : L[i]? = some x) : ∃ b off, a = some ⟨b, off, none⟩ ∧ b < w.heap.size ∧ w.cell? ⟨b, off + i * 11, none⟩ = some (.int .i64 x.id) ∧ w.cell? ⟨b, off + i * 11 + 1, none⟩ = some (.int .i64 x.jb) ∧ w.cell? ⟨b, off + i * 11 + 2, none⟩ = some (.int .i64 x.vr) ∧ w.cell? ⟨b, off + i * 11 + 3, none⟩ = some (.int .i64 x.gp) ∧ w.cell? ⟨b, off + i * 11 + 4, none⟩ = some (.int .i64 x.ix) ∧ w.cell? ⟨b, off + i * 11 + 5, none⟩ = some (.int .i64 x.nd) ∧ w.cell? ⟨b, off + i * 11 + 6, none⟩ = some (.int .i64 x.ep) ∧ w.cell? ⟨b, off + i * 11 + 7, none⟩ = some (.int .i64 x.c1) ∧ w.cell? ⟨b, off + i * 11 + 8, none⟩ = some (.int .i64 x.c2) ∧ w.cell? ⟨b, off + i * 11 + 9, none⟩ = some (.bool x.sp) ∧ w.cell? ⟨b, off + i * 11 + 10, none⟩ = some (.int .i64 x.st) := by
  obtain ⟨b, off, h1, h2, h3⟩ := RdR.at_ h hx
  exact ⟨b, off, h1, h2, h3 0 _ rfl, h3 1 _ rfl, h3 2 _ rfl, h3 3 _ rfl, h3 4 _ rfl, h3 5 _ rfl, h3 6 _ rfl, h3 7 _ rfl, h3 8 _ rfl, h3 9 _ rfl, h3 10 _ rfl⟩
set_option maxHeartbeats 8000000 in
set_option maxRecDepth 100000 in
theorem run_any (L : List Al) (la : Option Addr) (lc : Nat) (h : AgS D w p s n c) (hL : RdR D 67 11 alC w la L) (hll : L.length ≤ 1099511627776) (hwfL : ∀ x ∈ L, wf64 x.id) :
    Calls Tryd.prog 37 #[.pointer (some ⟨p, 0, none⟩), .slice la L.length lc] w fun e w' => e = .returned (.tuple #[]) ∧ AgS D w' p { s with T := runT s.T s.a.id s.a.ep L } L.length c ∧ FrA D w w' := by
  obtain ⟨pd, mv, G, h⟩ := h
  have hD : D ≤ w.heap.size := Nat.le_trans h.hp (Nat.le_of_lt h.b.lt)
  have H := hidOf h
  have HL := hidOf hL
  have HWF := hidOf hwfL
  have hpl := h.b.lt
  have hmm := @run_makeMap Tryd.prog
  have HGlt := hidOf h.k.lt
  have HMlt : Hid (∀ b, mv = .map (some b) → b < w.heap.size) := hidOf (fun b e => by have := h.t; rw [e] at this; exact this.lt)
  clear h hL hwfL
  go_enter Tryd.func37, Tryd.ntmps37
  go_wp2
  obtain ⟨nb, hnb⟩ : ∃ y, y = w.heap.size := ⟨_, rfl⟩
  obtain ⟨w0, hw0⟩ : ∃ y, y = w.alloc (.map #[] 0) := ⟨_, rfl⟩
  have HB0 : Hid (Below w.heap.size w w0) := hidOf (by rw [hw0]; exact (Below.refl _ w).alloc (Nat.le_refl _) _)
  have HM0 : Hid (MapA w0 nb 0 (.map [])) := hidOf (by rw [hw0, hnb]; exact World.ownsMap_made w Tryd.prog 3 RV)
  rw [← hw0, ← hnb]
  have HN : Hid (nb = w.heap.size) := hidOf hnb
  clear hw0 hnb hmm
  go_loopw [10] (fun i wr => ∃ (k m : Nat) (D0 : DataW Value), k ≤ L.length ∧ m ≤ k ∧ i = .int .i64 (k : Int) ∧ Hid (MapA wr nb m D0) ∧ Hid (TkD D0 (runT s.T s.a.id s.a.ep (L.take k))) ∧ Hid (AgR D wr p s n c pd mv G) ∧ Hid (RdR D 67 11 alC wr la L) ∧ Hid (Below w.heap.size w wr)) (fun i _ => L.length - (intOf i).toNat)
  case atStart => exact ⟨0, 0, _, Nat.zero_le _, Nat.le_refl _, rfl, HM0, hidOf tkD_new, hidOf (H.out.below HB0.out), hidOf (HL.out.grow HB0.out), HB0⟩
  case round =>
    obtain ⟨k, m, D0, hk, hm, rfl, HM, HTK, HA, HR, HB⟩ := hrel
    by_cases hlt : k < L.length
    · have hltz : (k : Int) < (L.length : Int) := by omega
      obtain ⟨x, hx⟩ : ∃ x, L[k]? = some x := ⟨_, List.getElem?_eq_getElem hlt⟩
      obtain ⟨b, off, hla, hbl, x0, x1, x2, x3, x4, x5, x6, x7, x8, x9, x10⟩ := al_at HR.out hx
      subst hla
      have hwf := HWF.out x (List.mem_of_getElem? hx)
      have c0 : wr.cell? ⟨p, 0, none⟩ = some (.int .i64 s.a.id) := HA.out.b.at_ 0
      have c9 : wr.cell? ⟨p, 9, none⟩ = some (.int .i64 s.a.ep) := HA.out.b.at_ 9
      have lpr := HA.out.b.lt
      have HX := hidOf (show L.take (k + 1) = L.take k ++ [x] by rw [List.take_add_one, hx]; rfl)
      have HQ : Hid (((wr.alloc (.cells #[.int .i64 x.id, .int .i64 x.jb, .int .i64 x.vr, .int .i64 x.gp, .int .i64 x.ix, .int .i64 x.nd, .int .i64 x.ep, .int .i64 x.c1, .int .i64 x.c2, .bool x.sp, .int .i64 x.st] 67)).drew.drew).heap[wr.heap.size]? = some (.cells #[.int .i64 x.id, .int .i64 x.jb, .int .i64 x.vr, .int .i64 x.gp, .int .i64 x.ix, .int .i64 x.nd, .int .i64 x.ep, .int .i64 x.c1, .int .i64 x.c2, .bool x.sp, .int .i64 x.st] 67 (0, 0))) := hidOf (heap_alloc_new wr _)
      have HB2 : Hid (Below wr.heap.size wr ((wr.alloc (.cells #[.int .i64 x.id, .int .i64 x.jb, .int .i64 x.vr, .int .i64 x.gp, .int .i64 x.ix, .int .i64 x.nd, .int .i64 x.ep, .int .i64 x.c1, .int .i64 x.c2, .bool x.sp, .int .i64 x.st] 67)).drew.drew)) := hidOf ((below1 wr _).drew.drew)
      have HB2' : Hid (Below wr.heap.size wr ((wr.alloc (.cells #[.int .i64 x.id, .int .i64 x.jb, .int .i64 x.vr, .int .i64 x.gp, .int .i64 x.ix, .int .i64 x.nd, .int .i64 x.ep, .int .i64 x.c1, .int .i64 x.c2, .bool x.sp, .int .i64 x.st] 67)).drew)) := hidOf ((below1 wr _).drew)
      have HA2 := hidOf (HA.out.below HB2.out)
      have HNM : Hid (¬ G nb ∧ mv ≠ .map (some nb)) := hidOf ⟨fun e => by have := HGlt.out nb e; have := HN.out; omega, fun e => by have := HMlt.out nb e; have := HN.out; omega⟩
      clear hx
      by_cases e1 : x.nd = s.a.id
      · by_cases e2 : x.ep = s.a.ep
        · have b1 : (x.nd == s.a.id) = true := by simp [e1]
          have b2 : (x.ep == s.a.ep) = true := by simp [e2]
          have HE : Hid (runT s.T s.a.id s.a.ep (L.take (k + 1)) = tup (runT s.T s.a.id s.a.ep (L.take k)) x.id (tkF s.T x)) := hidOf (by rw [HX.out, runT_snoc]; unfold rnS; rw [if_pos ⟨e1, e2⟩])
          clear e1 e2
          go_wp2
          go_region
          all_goals
            go_wp2
            refine wp_region_L (fun Y : World => Y.cell? ⟨wr.heap.size, 0, none⟩ = some (.int .i64 x.id) ∧ Y.cell? ⟨wr.heap.size, 1, none⟩ = some (.int .i64 x.jb) ∧ Y.cell? ⟨wr.heap.size, 2, none⟩ = some (.int .i64 x.vr) ∧ Y.cell? ⟨wr.heap.size, 3, none⟩ = some (.int .i64 x.gp) ∧ Y.cell? ⟨wr.heap.size, 4, none⟩ = some (.int .i64 x.ix) ∧ Y.cell? ⟨wr.heap.size, 5, none⟩ = some (.int .i64 x.nd) ∧ Y.cell? ⟨wr.heap.size, 6, none⟩ = some (.int .i64 x.ep) ∧ Y.cell? ⟨wr.heap.size, 7, none⟩ = some (.int .i64 x.c1) ∧ Y.cell? ⟨wr.heap.size, 8, none⟩ = some (.int .i64 x.c2) ∧ Y.cell? ⟨wr.heap.size, 9, none⟩ = some (.bool x.sp) ∧ Y.cell? ⟨wr.heap.size, 10, none⟩ = some (.int .i64 x.st)) 6 (by kernel_rfl) ?_
            have hHeld : (fun Y : World => Y.cell? ⟨wr.heap.size, 0, none⟩ = some (.int .i64 x.id) ∧ Y.cell? ⟨wr.heap.size, 1, none⟩ = some (.int .i64 x.jb) ∧ Y.cell? ⟨wr.heap.size, 2, none⟩ = some (.int .i64 x.vr) ∧ Y.cell? ⟨wr.heap.size, 3, none⟩ = some (.int .i64 x.gp) ∧ Y.cell? ⟨wr.heap.size, 4, none⟩ = some (.int .i64 x.ix) ∧ Y.cell? ⟨wr.heap.size, 5, none⟩ = some (.int .i64 x.nd) ∧ Y.cell? ⟨wr.heap.size, 6, none⟩ = some (.int .i64 x.ep) ∧ Y.cell? ⟨wr.heap.size, 7, none⟩ = some (.int .i64 x.c1) ∧ Y.cell? ⟨wr.heap.size, 8, none⟩ = some (.int .i64 x.c2) ∧ Y.cell? ⟨wr.heap.size, 9, none⟩ = some (.bool x.sp) ∧ Y.cell? ⟨wr.heap.size, 10, none⟩ = some (.int .i64 x.st)) _ := ⟨(cell_of_row _ wr.heap.size 0 _ 67 (0, 0) HQ.out).trans rfl, (cell_of_row _ wr.heap.size 1 _ 67 (0, 0) HQ.out).trans rfl, (cell_of_row _ wr.heap.size 2 _ 67 (0, 0) HQ.out).trans rfl, (cell_of_row _ wr.heap.size 3 _ 67 (0, 0) HQ.out).trans rfl, (cell_of_row _ wr.heap.size 4 _ 67 (0, 0) HQ.out).trans rfl, (cell_of_row _ wr.heap.size 5 _ 67 (0, 0) HQ.out).trans rfl, (cell_of_row _ wr.heap.size 6 _ 67 (0, 0) HQ.out).trans rfl, (cell_of_row _ wr.heap.size 7 _ 67 (0, 0) HQ.out).trans rfl, (cell_of_row _ wr.heap.size 8 _ 67 (0, 0) HQ.out).trans rfl, (cell_of_row _ wr.heap.size 9 _ 67 (0, 0) HQ.out).trans rfl, (cell_of_row _ wr.heap.size 10 _ 67 (0, 0) HQ.out).trans rfl⟩
            refine wpAnyL_take (i := 0) (oi := { dst := some 30, op := Op.move (Operand.tmp 4), type := 75, pos := "task.go:28", after := #[], guard := none }) (v := .map (some nb)) rfl (by kernel_rfl) (by kernel_rfl) (by kernel_rfl) (by kernel_rfl) (fun _ _ _ h => h) (Or.inl ⟨by rfl, ?_⟩) hHeld ?_
            · (intro w hSw; (try dsimp only at hSw); go_simp)
            try simp only [Act.put, List.setIfInBounds_toArray, List.set_cons_zero, List.set_cons_succ]
            refine wpAnyL_take (i := 1) (oi := { dst := some 31, op := Op.fieldAddr 67 (Operand.tmp 6) 0, type := 0, pos := "task.go:28", after := #[], guard := none }) (v := .pointer (some ⟨wr.heap.size, 0, none⟩)) rfl (by kernel_rfl) (by kernel_rfl) (by kernel_rfl) (by kernel_rfl) (fun _ _ _ h => h) (Or.inl ⟨by rfl, ?_⟩) hHeld ?_
            · (intro w hSw; (try dsimp only at hSw); go_simp)
            try simp only [Act.put, List.setIfInBounds_toArray, List.set_cons_zero, List.set_cons_succ]
            refine wpAnyL_take (i := 2) (oi := { dst := some 32, op := Op.load 3 (Operand.tmp 31), type := 3, pos := "task.go:28", after := #[{ on := 1, ground := Ground.data }], guard := none }) (v := .int .i64 x.id) rfl (by kernel_rfl) (by kernel_rfl) (by kernel_rfl) (by kernel_rfl) (fun _ _ _ h => h) (Or.inl ⟨by rfl, ?_⟩) hHeld ?_
            · (intro w hSw; (try dsimp only at hSw); go_simp)
            try simp only [Act.put, List.setIfInBounds_toArray, List.set_cons_zero, List.set_cons_succ]
            refine wpAnyL_take (i := 3) (oi := { dst := some 33, op := Op.move (Operand.tmp 0), type := 23, pos := "task.go:28", after := #[], guard := none }) (v := .pointer (some ⟨p, 0, none⟩)) rfl (by kernel_rfl) (by kernel_rfl) (by kernel_rfl) (by kernel_rfl) (fun _ _ _ h => h) (Or.inl ⟨by rfl, ?_⟩) hHeld ?_
            · (intro w hSw; (try dsimp only at hSw); go_simp)
            try simp only [Act.put, List.setIfInBounds_toArray, List.set_cons_zero, List.set_cons_succ]
            refine wpAnyL_take (i := 4) (oi := { dst := some 34, op := Op.load 67 (Operand.tmp 6), type := 67, pos := "task.go:28", after := #[], guard := none }) (v := .agg #[.int .i64 x.id, .int .i64 x.jb, .int .i64 x.vr, .int .i64 x.gp, .int .i64 x.ix, .int .i64 x.nd, .int .i64 x.ep, .int .i64 x.c1, .int .i64 x.c2, .bool x.sp, .int .i64 x.st]) rfl (by kernel_rfl) (by kernel_rfl) (by kernel_rfl) (by kernel_rfl) (fun _ _ _ h => h) (Or.inl ⟨by rfl, ?_⟩) hHeld ?_
            · (intro w hSw; (try dsimp only at hSw); go_simp)
            try simp only [Act.put, List.setIfInBounds_toArray, List.set_cons_zero, List.set_cons_succ]
            refine wpAnyL_one (i := 5) (o := { dst := some 35, op := Op.call { callee := Callee.value (Operand.func 56), args := #[Operand.tmp 33, Operand.tmp 34], argTypes := #[23, 67] }, type := 86, pos := "task.go:28", after := #[{ on := 3, ground := Ground.data }, { on := 4, ground := Ground.data }], guard := none }) (by kernel_rfl) rfl (fun K hK => ?_)
            rw [if_pos (by rfl)]
            go_simp
            refine (follow_any x HA2.out hwf).mono ?_
            rintro e w2 ⟨rfl, hb⟩
            have HB3 := hidOf hb
            have HQ2 := hidOf ((hb.block _ (by simp)).trans HQ.out)
            clear hb
            refine hK.out _ _ (fun _ => ⟨(cell_of_row w2 wr.heap.size 0 _ 67 (0, 0) HQ2.out).trans rfl, (cell_of_row w2 wr.heap.size 1 _ 67 (0, 0) HQ2.out).trans rfl, (cell_of_row w2 wr.heap.size 2 _ 67 (0, 0) HQ2.out).trans rfl, (cell_of_row w2 wr.heap.size 3 _ 67 (0, 0) HQ2.out).trans rfl, (cell_of_row w2 wr.heap.size 4 _ 67 (0, 0) HQ2.out).trans rfl, (cell_of_row w2 wr.heap.size 5 _ 67 (0, 0) HQ2.out).trans rfl, (cell_of_row w2 wr.heap.size 6 _ 67 (0, 0) HQ2.out).trans rfl, (cell_of_row w2 wr.heap.size 7 _ 67 (0, 0) HQ2.out).trans rfl, (cell_of_row w2 wr.heap.size 8 _ 67 (0, 0) HQ2.out).trans rfl, (cell_of_row w2 wr.heap.size 9 _ 67 (0, 0) HQ2.out).trans rfl, (cell_of_row w2 wr.heap.size 10 _ 67 (0, 0) HQ2.out).trans rfl⟩) ?_
            clear hK K
            try simp only [Act.put, List.setIfInBounds_toArray, List.set_cons_zero, List.set_cons_succ]
            refine wpAnyL_one (i := 6) (o := { dst := none, op := Op.mapUpdate 75 (Operand.tmp 30) (Operand.tmp 32) (Operand.tmp 35), type := 0, pos := "task.go:28", after := #[{ on := 0, ground := Ground.data }, { on := 2, ground := Ground.data }, { on := 5, ground := Ground.data }, { on := 5, ground := Ground.chain }, { on := 0, ground := Ground.phase }, { on := 1, ground := Ground.phase }, { on := 2, ground := Ground.phase }, { on := 3, ground := Ground.phase }, { on := 4, ground := Ground.phase }, { on := 5, ground := Ground.phase }], guard := none }) (by kernel_rfl) rfl (fun K hK => ?_)
            rw [if_pos (by rfl)]
            have HM2 := hidOf (HM.out.kept ((HB2.out.trans (HB3.out.mono HB2.out.size)).block nb (World.ownsMap.lt HM.out)))
            refine oper_mapA _ (.tmp 30) (.tmp 32) (.tmp 35) rfl nb m _ rfl HM2.out (by unfold maxLen; omega) x.id hwf (tkF s.T x) rfl rfl (fun w3 hm3 ht3 => ?_)
            have HM3 := hidOf hm3
            have HT3 := hidOf ht3
            clear hm3 ht3
            refine hK.out _ _ (fun h => absurd rfl h) ?_
            clear hK K
            try simp only [Act.put]
            refine wpAnyL_done (by kernel_rfl) ?_ _
            go_wp2
            go_roundw
            case rel =>
              have HB4 := HB2.out.trans (HB3.out.mono HB2.out.size)
              have htd := turned_other HT3.out
              have hms : w2.heap.size ≤ w3.heap.size := HT3.out.grown.size
              refine ⟨k + 1, m + 1, _, by omega, by omega, by go_num, HM3, hidOf (by rw [HE.out]; exact HTK.out.put (World.ownsMap.isMap HM.out) x.id _), hidOf ((HA2.out.below HB3.out).one htd HM2.out.obj HNM.out.1 HNM.out.2), hidOf ((HR.out.grow HB4).keepB hms (fun j hj hj2 => htd j (fun e => by have := HN.out; omega)) (fun j cs hj => htd j (fun e => ?_))), hidOf ((HB.out.trans (HB4.mono HB.out.size)).grown HT3.out.grown (by have := HB.out.size; have := HB4.size; omega) (fun j hj => by cases hj; exact Nat.le_of_eq HN.out.symm))⟩
              obtain ⟨es, cl, ho⟩ := HM2.out.obj
              rw [e, ho] at hj; cases hj
            case measure => simp [intOf]; omega
        · have b1 : (x.nd == s.a.id) = true := by simp [e1]
          have b2 : (x.ep == s.a.ep) = false := by simp [e2]
          have HE : Hid (runT s.T s.a.id s.a.ep (L.take (k + 1)) = runT s.T s.a.id s.a.ep (L.take k)) := hidOf (by rw [HX.out, runT_snoc]; unfold rnS; rw [if_neg (fun e => e2 e.2)])
          clear e1 e2
          go_wp2
          go_region
          all_goals
            go_wp2
            go_roundw
            case rel => exact ⟨k + 1, m, D0, by omega, by omega, by go_num, hidOf (HM.out.kept (HB2'.out.block nb (World.ownsMap.lt HM.out))), hidOf (by rw [HE.out]; exact HTK.out), hidOf (HA.out.below HB2'.out), hidOf (HR.out.grow HB2'.out), hidOf (HB.out.trans (HB2'.out.mono HB.out.size))⟩
            case measure => simp [intOf]; omega
      · have b1 : (x.nd == s.a.id) = false := by simp [e1]
        have HE : Hid (runT s.T s.a.id s.a.ep (L.take (k + 1)) = runT s.T s.a.id s.a.ep (L.take k)) := hidOf (by rw [HX.out, runT_snoc]; unfold rnS; rw [if_neg (fun e => e1 e.1)])
        clear e1
        go_wp2
        go_region
        all_goals
          go_wp2
          go_roundw
          case rel => exact ⟨k + 1, m, D0, by omega, by omega, by go_num, hidOf (HM.out.kept (HB2'.out.block nb (World.ownsMap.lt HM.out))), hidOf (by rw [HE.out]; exact HTK.out), hidOf (HA.out.below HB2'.out), hidOf (HR.out.grow HB2'.out), hidOf (HB.out.trans (HB2'.out.mono HB.out.size))⟩
          case measure => simp [intOf]; omega
    · obtain rfl : k = L.length := by omega
      have hltz : ¬ (L.length : Int) < (L.length : Int) := by omega
      have c21 : wr.cell? ⟨p, 21, none⟩ = some mv := HA.out.b.at_ 21
      have f21 := HA.out.b.fr 21
      have lpr := HA.out.b.lt
      go_wp2
      go_end0
      have hpm : p ≠ nb := fun e => by have := HN.out; have := H.out.b.lt; omega
      refine ⟨rfl, ⟨pd, .map (some nb), G, HA.out.set (s' := { s with T := runT s.T s.a.id s.a.ep L }) (mv' := .map (some nb)) 21 (.map (some nb)) rfl ⟨rfl, rfl, rfl, rfl⟩ (.inr ⟨nb, D0, rfl, ?_, ?_⟩) (fun b e => ?_)⟩, (FrA.of_below HB.out).trans (.setp HA.out.b HA.out.hp 21 _)⟩
      · obtain ⟨es, cl, h1, h2, h3, h4⟩ := HM.out
        exact ⟨es, cl, (Below.heap_setCell wr ⟨p, 21, none⟩ (.map (some nb)) nb (Ne.symm hpm)).trans h1, h2, Nat.le_trans h3 hm, h4⟩
      · have := HTK.out; rw [List.take_length] at this; exact this
      · cases e
        exact ⟨by have := HN.out; omega, fun e => by have := HGlt.out nb e; have := HN.out; omega⟩
end Go.Proofs.YtkienmncifonnaaDoor
