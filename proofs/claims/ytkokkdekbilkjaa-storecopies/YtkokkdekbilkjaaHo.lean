/- Whether an allocation holds one of a job s slots. -/
import Derived.Test.YtkokkdekbilkjaaCn
import Derived.BigRegion
import Derived.Deep.Cut
import Derived.Deep.RegionHeld3
namespace Go.Proofs.Ytkokkdekbilkjaa
open Go.RowKit Go.Shelf
attribute [local go_sem] Oper.semAt_some
theorem box_new2 {w w1 : World} {o : Obj} {cs : List Value} {t : TypeId} (h : Below ((w.alloc o).alloc (.cells cs.toArray t)).heap.size ((w.alloc o).alloc (.cells cs.toArray t)) w1) : w1.rangeAt (w.heap.size + 1) 0 cs := by
  have := box_new h
  rwa [World.size_alloc] at this
theorem two_boxes {w w1 : World} {cs ds : List Value} {t u : TypeId} (h : Below ((w.alloc (.cells cs.toArray t)).alloc (.cells ds.toArray u)).heap.size ((w.alloc (.cells cs.toArray t)).alloc (.cells ds.toArray u)) w1) : w1.rangeAt w.heap.size 0 cs ∧ w1.rangeAt (w.heap.size + 1) 0 ds ∧ Below w.heap.size w w1 ∧ w.heap.size + 1 < w1.heap.size := by
  have h1 : Below (w.alloc (.cells cs.toArray t)).heap.size (w.alloc (.cells cs.toArray t)) w1 := (below1 (w.alloc (.cells cs.toArray t)) (.cells ds.toArray u)).trans (h.mono (by simp))
  have hs := h.size
  simp only [World.size_alloc] at hs
  exact ⟨box_new h1, box_new2 h, (below2 w _ _).trans (h.mono (by simp only [World.size_alloc]; omega)), by omega⟩
def gat (G : List Gp) (i : Int) : Int := (G[i.toNat]?.getD default).n
def hoB (id : Int) (G : List Gp) (x : Al) : Bool := isI x.jb id && (!ovr x.st && (decide (0 ≤ x.gr) && (decide (x.gr < G.length) && (decide (0 ≤ x.ix) && decide (x.ix < cn (gat G x.gr))))))
set_option maxRecDepth 100000 in
set_option maxHeartbeats 4000000 in
theorem holds_any (x : Al) (id ty pr pa ve : Int) (sd : Bool) (ga : Option Addr) (gc : Nat) (G : List Gp) (S : Nat → Prop) (w : World) (hS : ∀ b, S b → b < w.heap.size) (hG : Fl w S 3 24 Gp.cs ga G) :
    Calls Try.prog 76 #[.agg #[.int .i64 x.id, .int .i64 x.jb, .int .i64 x.ve, .int .i64 x.gr, .int .i64 x.ix, .int .i64 x.nd, .int .i64 x.ep, .int .i64 x.c, .int .i64 x.m, .bool x.sp, .int .i64 x.st], .agg #[.int .i64 id, .int .i64 ty, .int .i64 pr, .int .i64 pa, .slice ga G.length gc, .int .i64 ve, .bool sd]] w fun e w' => e = .returned (.bool (hoB id G x)) ∧ Below w.heap.size w w' := by
  have hlen : G.length ≤ 140737488355328 := by have := hG.bd; omega
  have HG := hidOf hG
  have HS := hidOf hS
  clear hG hS
  by_cases h1 : x.jb = id
  · have b1 : (x.jb == id) = true := by simp [h1]
    have b1' : (x.jb != id) = false := by simp [h1]
    have HO := hidOf (fun w => over_any x w)
    cases h2 : ovr x.st with
    | true =>
      have e : hoB id G x = false := by rw [hoB, h2]; simp
      rw [e]
      rw [h2] at HO
      clear h1 e h2
      go_enter Try.func76, Try.ntmps76
      go_wp2_with (go_at_call 20; refine (HO.out _).mono ?_; rintro e w1 ⟨rfl, hb⟩; have HB := hidOf ((below2 w _ _).trans (hb.mono (by simp <;> omega))); clear hb)
      go_ret
      exact ⟨rfl, HB.out⟩
    | false =>
      rw [h2] at HO
      by_cases h3 : x.gr < 0
      · have e : hoB id G x = false := by rw [hoB, decide_eq_false (show ¬ 0 ≤ x.gr by omega)]; simp
        rw [e]
        clear h1 e h2
        go_enter Try.func76, Try.ntmps76
        go_wp2_with (go_at_call 20; refine (HO.out _).mono ?_; rintro e w1 ⟨rfl, hb⟩; obtain ⟨hd, hj, hbw, hz⟩ := two_boxes (cs := [.int .i64 x.id, .int .i64 x.jb, .int .i64 x.ve, .int .i64 x.gr, .int .i64 x.ix, .int .i64 x.nd, .int .i64 x.ep, .int .i64 x.c, .int .i64 x.m, .bool x.sp, .int .i64 x.st]) (ds := [.int .i64 id, .int .i64 ty, .int .i64 pr, .int .i64 pa, .slice ga G.length gc, .int .i64 ve, .bool sd]) hb; have HB := hidOf hbw; clear hb hbw hj; have d0 : w1.cell? ⟨w.heap.size, 0, none⟩ = some (.int .i64 x.id) := hd 0 _ rfl; have d1 : w1.cell? ⟨w.heap.size, 1, none⟩ = some (.int .i64 x.jb) := hd 1 _ rfl; have d2 : w1.cell? ⟨w.heap.size, 2, none⟩ = some (.int .i64 x.ve) := hd 2 _ rfl; have d3 : w1.cell? ⟨w.heap.size, 3, none⟩ = some (.int .i64 x.gr) := hd 3 _ rfl; have d4 : w1.cell? ⟨w.heap.size, 4, none⟩ = some (.int .i64 x.ix) := hd 4 _ rfl; have d5 : w1.cell? ⟨w.heap.size, 5, none⟩ = some (.int .i64 x.nd) := hd 5 _ rfl; have d6 : w1.cell? ⟨w.heap.size, 6, none⟩ = some (.int .i64 x.ep) := hd 6 _ rfl; have d7 : w1.cell? ⟨w.heap.size, 7, none⟩ = some (.int .i64 x.c) := hd 7 _ rfl; have d8 : w1.cell? ⟨w.heap.size, 8, none⟩ = some (.int .i64 x.m) := hd 8 _ rfl; have d9 : w1.cell? ⟨w.heap.size, 9, none⟩ = some (.bool x.sp) := hd 9 _ rfl; have d10 : w1.cell? ⟨w.heap.size, 10, none⟩ = some (.int .i64 x.st) := hd 10 _ rfl; clear hd)
        go_ret
        exact ⟨rfl, HB.out⟩
      · by_cases h4 : (G.length : Int) ≤ x.gr
        · have e : hoB id G x = false := by rw [hoB, decide_eq_false (show ¬ x.gr < (G.length : Int) by omega)]; simp
          rw [e]
          clear h1 e h2
          go_enter Try.func76, Try.ntmps76
          go_wp2_with (go_at_call 20; refine (HO.out _).mono ?_; rintro e w1 ⟨rfl, hb⟩; obtain ⟨hd, hj, hbw, hz⟩ := two_boxes (cs := [.int .i64 x.id, .int .i64 x.jb, .int .i64 x.ve, .int .i64 x.gr, .int .i64 x.ix, .int .i64 x.nd, .int .i64 x.ep, .int .i64 x.c, .int .i64 x.m, .bool x.sp, .int .i64 x.st]) (ds := [.int .i64 id, .int .i64 ty, .int .i64 pr, .int .i64 pa, .slice ga G.length gc, .int .i64 ve, .bool sd]) hb; have HB := hidOf hbw; clear hb hbw; have d0 : w1.cell? ⟨w.heap.size, 0, none⟩ = some (.int .i64 x.id) := hd 0 _ rfl; have d1 : w1.cell? ⟨w.heap.size, 1, none⟩ = some (.int .i64 x.jb) := hd 1 _ rfl; have d2 : w1.cell? ⟨w.heap.size, 2, none⟩ = some (.int .i64 x.ve) := hd 2 _ rfl; have d3 : w1.cell? ⟨w.heap.size, 3, none⟩ = some (.int .i64 x.gr) := hd 3 _ rfl; have d4 : w1.cell? ⟨w.heap.size, 4, none⟩ = some (.int .i64 x.ix) := hd 4 _ rfl; have d5 : w1.cell? ⟨w.heap.size, 5, none⟩ = some (.int .i64 x.nd) := hd 5 _ rfl; have d6 : w1.cell? ⟨w.heap.size, 6, none⟩ = some (.int .i64 x.ep) := hd 6 _ rfl; have d7 : w1.cell? ⟨w.heap.size, 7, none⟩ = some (.int .i64 x.c) := hd 7 _ rfl; have d8 : w1.cell? ⟨w.heap.size, 8, none⟩ = some (.int .i64 x.m) := hd 8 _ rfl; have d9 : w1.cell? ⟨w.heap.size, 9, none⟩ = some (.bool x.sp) := hd 9 _ rfl; have d10 : w1.cell? ⟨w.heap.size, 10, none⟩ = some (.int .i64 x.st) := hd 10 _ rfl; have j4 : w1.cell? ⟨w.heap.size + 1, 4, none⟩ = some (.slice ga G.length gc) := hj 4 _ rfl; clear hd hj)
          go_ret
          exact ⟨rfl, HB.out⟩
        · obtain ⟨gi, hgi⟩ : ∃ k : Nat, x.gr = (k : Int) := ⟨x.gr.toNat, by omega⟩
          have hgl : gi < G.length := by omega
          obtain ⟨b, off, ha, hSb, hc⟩ := HG.out.at gi hgl
          subst ha
          have hbl : b < w.heap.size := HS.out b hSb
          have hga : gat G x.gr = G[gi].n := by rw [gat, hgi, Int.toNat_natCast, getD_at G gi hgl]
          have HE : Hid (hoB id G x = (decide (0 ≤ x.ix) && decide (x.ix < cn G[gi].n))) := hidOf (by rw [hoB, isI_true h1, h2, decide_eq_true (show 0 ≤ x.gr by omega), decide_eq_true (show x.gr < (G.length : Int) by omega), hga]; rfl)
          generalize G[gi] = g at *
          have g0 : w.cell? ⟨b, off + gi * 3, none⟩ = some (.int .i64 g.n) := hc 0 _ rfl
          have g1 : w.cell? ⟨b, off + gi * 3 + 1, none⟩ = some (.int .i64 g.c) := hc 1 _ rfl
          have g2 : w.cell? ⟨b, off + gi * 3 + 2, none⟩ = some (.int .i64 g.m) := hc 2 _ rfl
          obtain ⟨xid, xjb, xve, xgr, xix, xnd, xep, xc, xm, xsp, xst⟩ := x
          simp only at hgi
          subst hgi
          have HX := hidOf (Eq.refl xix)
          by_cases h5 : 0 ≤ xix
          · have HE2 : Hid (hoB id G ⟨xid, xjb, xve, (gi : Int), xix, xnd, xep, xc, xm, xsp, xst⟩ = decide (xix < cn g.n)) := hidOf (by rw [HE.out]; simp [h5])
            rw [HE2.out]
            clear HE HE2 h1 h2 hga hc h3 h4 HG HS
            go_enter Try.func76, Try.ntmps76
            go_upto_region 3 with (go_at_call 20; refine (HO.out _).mono ?_; rintro e w1 ⟨rfl, hb⟩; obtain ⟨hd, hj, hbw, hz⟩ := two_boxes (cs := [.int .i64 xid, .int .i64 xjb, .int .i64 xve, .int .i64 (gi : Int), .int .i64 xix, .int .i64 xnd, .int .i64 xep, .int .i64 xc, .int .i64 xm, .bool xsp, .int .i64 xst]) (ds := [.int .i64 id, .int .i64 ty, .int .i64 pr, .int .i64 pa, .slice (some ⟨b, off, none⟩) G.length gc, .int .i64 ve, .bool sd]) hb; have HB := hidOf hbw; have q0 := (hb_cell hbw hbl).trans g0; have q1 := (hb_cell hbw hbl).trans g1; have q2 := (hb_cell hbw hbl).trans g2; clear hb hbw; have d3 : w1.cell? ⟨w.heap.size, 3, none⟩ = some (.int .i64 (gi : Int)) := hd 3 _ rfl; have d4 : w1.cell? ⟨w.heap.size, 4, none⟩ = some (.int .i64 xix) := hd 4 _ rfl; have j4 : w1.cell? ⟨w.heap.size + 1, 4, none⟩ = some (.slice (some ⟨b, off, none⟩) G.length gc) := hj 4 _ rfl; clear hd hj)
            refine wp_region_held_drew (S := fun wz => (wz.cell? ⟨w.heap.size, 4, none⟩ = some (.int .i64 xix) ∧ wz.cell? ⟨w.heap.size, 3, none⟩ = some (.int .i64 (gi : Int)) ∧ wz.cell? ⟨w.heap.size + 1, 4, none⟩ = some (.slice (some ⟨b, off, none⟩) G.length gc)) ∧ (wz.cell? ⟨b, off + gi * 3, none⟩ = some (.int .i64 g.n) ∧ wz.cell? ⟨b, off + gi * 3 + 1, none⟩ = some (.int .i64 g.c) ∧ wz.cell? ⟨b, off + gi * 3 + 2, none⟩ = some (.int .i64 g.m))) (by kernel_rfl) ⟨⟨d4, d3, j4⟩, q0, q1, q2⟩ (fun hHeld => ?_)
            refine wpAnyH_take (i := 0) (oi := { dst := some 27, op := Op.fieldAddr 33 (Operand.tmp 2) 4, type := 0, pos := "store.go:99", after := #[], guard := none }) (v := .pointer (some ⟨w.heap.size, 4, none⟩)) rfl (by kernel_rfl) (by kernel_rfl) (by kernel_rfl) (fun _ _ _ h => h) (Or.inl ⟨by rfl, ?_⟩) hHeld ?_
            · (intro w hSw; (try dsimp only at hSw); go_simp)
            try simp only [Act.put, List.setIfInBounds_toArray, List.set_cons_zero, List.set_cons_succ]
            refine wpAnyH_take (i := 1) (oi := { dst := some 28, op := Op.load 3 (Operand.tmp 27), type := 3, pos := "store.go:99", after := #[{ on := 0, ground := Ground.data }], guard := none }) (v := .int .i64 xix) rfl (by kernel_rfl) (by kernel_rfl) (by kernel_rfl) (fun _ _ _ h => h) (Or.inl ⟨by rfl, ?_⟩) hHeld ?_
            · (intro w hSw; (try dsimp only at hSw); go_simp)
            try simp only [Act.put, List.setIfInBounds_toArray, List.set_cons_zero, List.set_cons_succ]
            refine wpAnyH_take (i := 2) (oi := { dst := some 29, op := Op.binOp BinOp.geq 3 (Operand.tmp 28) (Operand.const (Value.int IntKind.i64 0)) 3, type := 4, pos := "store.go:99", after := #[{ on := 1, ground := Ground.data }], guard := none }) (v := .bool true) rfl (by kernel_rfl) (by kernel_rfl) (by kernel_rfl) (fun _ _ _ h => h) (Or.inl ⟨by rfl, ?_⟩) hHeld ?_
            · (intro w hSw; (try dsimp only at hSw); go_simp)
            try simp only [Act.put, List.setIfInBounds_toArray, List.set_cons_zero, List.set_cons_succ]
            refine wpAnyH_take (i := 3) (oi := { dst := some 30, op := Op.move (Operand.tmp 29), type := 4, pos := "store.go:99", after := #[{ on := 2, ground := Ground.data }], guard := none }) (v := .bool true) rfl (by kernel_rfl) (by kernel_rfl) (by kernel_rfl) (fun _ _ _ h => h) (Or.inl ⟨by rfl, ?_⟩) hHeld ?_
            · (intro w hSw; (try dsimp only at hSw); go_simp)
            try simp only [Act.put, List.setIfInBounds_toArray, List.set_cons_zero, List.set_cons_succ]
            refine wpAnyH_take (i := 4) (oi := { dst := some 31, op := Op.fieldAddr 33 (Operand.tmp 2) 4, type := 0, pos := "store.go:99", after := #[{ on := 3, ground := Ground.guard }], guard := some (3, true) }) (v := .pointer (some ⟨w.heap.size, 4, none⟩)) rfl (by kernel_rfl) (by kernel_rfl) (by kernel_rfl) (fun _ _ _ h => h) (Or.inl ⟨by rfl, ?_⟩) hHeld ?_
            · (intro w hSw; (try dsimp only at hSw); go_simp)
            try simp only [Act.put, List.setIfInBounds_toArray, List.set_cons_zero, List.set_cons_succ]
            refine wpAnyH_take (i := 5) (oi := { dst := some 32, op := Op.load 3 (Operand.tmp 31), type := 3, pos := "store.go:99", after := #[{ on := 4, ground := Ground.data }, { on := 3, ground := Ground.guard }], guard := some (3, true) }) (v := .int .i64 xix) rfl (by kernel_rfl) (by kernel_rfl) (by kernel_rfl) (fun _ _ _ h => h) (Or.inl ⟨by rfl, ?_⟩) hHeld ?_
            · (intro w hSw; (try dsimp only at hSw); go_simp)
            try simp only [Act.put, List.setIfInBounds_toArray, List.set_cons_zero, List.set_cons_succ]
            refine wpAnyH_take (i := 6) (oi := { dst := some 33, op := Op.fieldAddr 55 (Operand.tmp 3) 4, type := 0, pos := "store.go:99", after := #[{ on := 3, ground := Ground.guard }], guard := some (3, true) }) (v := .pointer (some ⟨w.heap.size + 1, 4, none⟩)) rfl (by kernel_rfl) (by kernel_rfl) (by kernel_rfl) (fun _ _ _ h => h) (Or.inl ⟨by rfl, ?_⟩) hHeld ?_
            · (intro w hSw; (try dsimp only at hSw); go_simp)
            try simp only [Act.put, List.setIfInBounds_toArray, List.set_cons_zero, List.set_cons_succ]
            refine wpAnyH_take (i := 7) (oi := { dst := some 34, op := Op.load 53 (Operand.tmp 33), type := 53, pos := "store.go:99", after := #[{ on := 6, ground := Ground.data }, { on := 3, ground := Ground.guard }], guard := some (3, true) }) (v := .slice (some ⟨b, off, none⟩) G.length gc) rfl (by kernel_rfl) (by kernel_rfl) (by kernel_rfl) (fun _ _ _ h => h) (Or.inl ⟨by rfl, ?_⟩) hHeld ?_
            · (intro w hSw; (try dsimp only at hSw); go_simp)
            try simp only [Act.put, List.setIfInBounds_toArray, List.set_cons_zero, List.set_cons_succ]
            refine wpAnyH_take (i := 8) (oi := { dst := some 35, op := Op.fieldAddr 33 (Operand.tmp 2) 3, type := 0, pos := "store.go:99", after := #[{ on := 3, ground := Ground.guard }], guard := some (3, true) }) (v := .pointer (some ⟨w.heap.size, 3, none⟩)) rfl (by kernel_rfl) (by kernel_rfl) (by kernel_rfl) (fun _ _ _ h => h) (Or.inl ⟨by rfl, ?_⟩) hHeld ?_
            · (intro w hSw; (try dsimp only at hSw); go_simp)
            try simp only [Act.put, List.setIfInBounds_toArray, List.set_cons_zero, List.set_cons_succ]
            refine wpAnyH_take (i := 9) (oi := { dst := some 36, op := Op.load 3 (Operand.tmp 35), type := 3, pos := "store.go:99", after := #[{ on := 8, ground := Ground.data }, { on := 3, ground := Ground.guard }], guard := some (3, true) }) (v := .int .i64 (gi : Int)) rfl (by kernel_rfl) (by kernel_rfl) (by kernel_rfl) (fun _ _ _ h => h) (Or.inl ⟨by rfl, ?_⟩) hHeld ?_
            · (intro w hSw; (try dsimp only at hSw); go_simp)
            try simp only [Act.put, List.setIfInBounds_toArray, List.set_cons_zero, List.set_cons_succ]
            refine wpAnyH_take (i := 10) (oi := { dst := some 37, op := Op.indexAddr 53 (Operand.tmp 34) (Operand.tmp 36), type := 0, pos := "store.go:99", after := #[{ on := 7, ground := Ground.data }, { on := 9, ground := Ground.data }, { on := 3, ground := Ground.guard }], guard := some (3, true) }) (v := .pointer (some ⟨b, off + gi * 3, none⟩)) rfl (by kernel_rfl) (by kernel_rfl) (by kernel_rfl) (fun _ _ _ h => h) (Or.inl ⟨by rfl, ?_⟩) hHeld ?_
            · (intro w hSw; (try dsimp only at hSw); go_simp)
            try simp only [Act.put, List.setIfInBounds_toArray, List.set_cons_zero, List.set_cons_succ]
            refine wpAnyH_take (i := 11) (oi := { dst := some 38, op := Op.load 57 (Operand.tmp 37), type := 57, pos := "store.go:99", after := #[{ on := 10, ground := Ground.data }, { on := 3, ground := Ground.guard }], guard := some (3, true) }) (v := .agg #[.int .i64 g.n, .int .i64 g.c, .int .i64 g.m]) rfl (by kernel_rfl) (by kernel_rfl) (by kernel_rfl) (fun _ _ _ h => h) (Or.inl ⟨by rfl, ?_⟩) hHeld ?_
            · (intro w hSw; (try dsimp only at hSw); go_simp)
            try simp only [Act.put, List.setIfInBounds_toArray, List.set_cons_zero, List.set_cons_succ]
            refine wpAnyH_ready (rs := [12]) (by kernel_rfl) (by simp) ?_
            refine AllReadyH.cons (o := { dst := some 39, op := Op.call { callee := Callee.value (Operand.func 46), args := #[Operand.tmp 38], argTypes := #[57] }, type := 3, pos := "store.go:99", after := #[{ on := 11, ground := Ground.data }, { on := 3, ground := Ground.chain }, { on := 3, ground := Ground.guard }], guard := some (3, true) }) rfl (fun K hK => ?_) AllReadyH.nil
            go_simp
            refine (count_any g _).mono ?_
            rintro e w2 ⟨rfl, hb⟩
            have HB2 := hidOf ((HB.out.trans ((bdrew w1).mono HB.out.size)).trans (hb.mono HB.out.size))
            have hbl1 : b < w1.heap.size := Nat.lt_of_lt_of_le hbl HB.out.size
            refine hK.out _ _ ⟨⟨(hb_cell hb (show _ < w1.heap.size by omega)).trans d4, (hb_cell hb (show _ < w1.heap.size by omega)).trans d3, (hb_cell hb (show _ < w1.heap.size by omega)).trans j4⟩, (hb_cell hb (show _ < w1.heap.size by omega)).trans q0, (hb_cell hb (show _ < w1.heap.size by omega)).trans q1, (hb_cell hb (show _ < w1.heap.size by omega)).trans q2⟩ (fun hHeld1 => ?_)
            clear hK K
            try simp only [Act.put, List.setIfInBounds_toArray, List.set_cons_zero, List.set_cons_succ]
            refine wpAnyH_take (i := 13) (oi := { dst := some 40, op := Op.binOp BinOp.lss 3 (Operand.tmp 32) (Operand.tmp 39) 3, type := 4, pos := "store.go:99", after := #[{ on := 5, ground := Ground.data }, { on := 12, ground := Ground.data }, { on := 3, ground := Ground.guard }], guard := some (3, true) }) (v := .bool (decide (xix < cn g.n))) rfl (by kernel_rfl) (by kernel_rfl) (by kernel_rfl) (fun _ _ _ h => h) (Or.inl ⟨by rfl, ?_⟩) hHeld1 ?_
            · (intro w hSw; (try dsimp only at hSw); go_simp)
            try simp only [Act.put, List.setIfInBounds_toArray, List.set_cons_zero, List.set_cons_succ]
            refine wpAnyH_take (i := 14) (oi := { dst := some 41, op := Op.pick (Operand.tmp 30) (Operand.tmp 40) (Operand.const (Value.bool false)), type := 4, pos := "store.go:99", after := #[{ on := 3, ground := Ground.data }, { on := 13, ground := Ground.data }], guard := none }) (v := .bool (decide (xix < cn g.n))) rfl (by kernel_rfl) (by kernel_rfl) (by kernel_rfl) (fun _ _ _ h => h) (Or.inl ⟨by rfl, ?_⟩) hHeld1 ?_
            · (intro w hSw; (try dsimp only at hSw); go_simp)
            try simp only [Act.put, List.setIfInBounds_toArray, List.set_cons_zero, List.set_cons_succ]
            refine wpAnyH_take (i := 15) (oi := { dst := some 4, op := Op.assign (Operand.tmp 41), type := 4, pos := "store.go:99", after := #[{ on := 14, ground := Ground.data }, { on := 12, ground := Ground.chain }, { on := 0, ground := Ground.phase }, { on := 1, ground := Ground.phase }, { on := 2, ground := Ground.phase }, { on := 3, ground := Ground.phase }, { on := 4, ground := Ground.phase }, { on := 5, ground := Ground.phase }, { on := 6, ground := Ground.phase }, { on := 7, ground := Ground.phase }, { on := 8, ground := Ground.phase }, { on := 9, ground := Ground.phase }, { on := 10, ground := Ground.phase }, { on := 11, ground := Ground.phase }, { on := 12, ground := Ground.phase }, { on := 13, ground := Ground.phase }, { on := 14, ground := Ground.phase }], guard := none }) (v := .bool (decide (xix < cn g.n))) rfl (by kernel_rfl) (by kernel_rfl) (by kernel_rfl) (fun _ _ _ h => h) (Or.inl ⟨by rfl, ?_⟩) hHeld1 ?_
            · (intro w hSw; (try dsimp only at hSw); go_simp)
            try simp only [Act.put, List.setIfInBounds_toArray, List.set_cons_zero, List.set_cons_succ]
            refine wpAnyH_done (by kernel_rfl) ?_ _
            go_wp2
            go_ret
            exact ⟨rfl, HB2.out⟩
          · have HE2 : Hid (hoB id G ⟨xid, xjb, xve, (gi : Int), xix, xnd, xep, xc, xm, xsp, xst⟩ = false) := hidOf (by rw [HE.out]; simp [h5])
            rw [HE2.out]
            clear HE HE2 h1 h2 hga hc h3 h4 HG HS
            go_enter Try.func76, Try.ntmps76
            go_upto_region 3 with (go_at_call 20; refine (HO.out _).mono ?_; rintro e w1 ⟨rfl, hb⟩; obtain ⟨hd, hj, hbw, hz⟩ := two_boxes (cs := [.int .i64 xid, .int .i64 xjb, .int .i64 xve, .int .i64 (gi : Int), .int .i64 xix, .int .i64 xnd, .int .i64 xep, .int .i64 xc, .int .i64 xm, .bool xsp, .int .i64 xst]) (ds := [.int .i64 id, .int .i64 ty, .int .i64 pr, .int .i64 pa, .slice (some ⟨b, off, none⟩) G.length gc, .int .i64 ve, .bool sd]) hb; have HB := hidOf hbw; have q0 := (hb_cell hbw hbl).trans g0; have q1 := (hb_cell hbw hbl).trans g1; have q2 := (hb_cell hbw hbl).trans g2; clear hb hbw; have d3 : w1.cell? ⟨w.heap.size, 3, none⟩ = some (.int .i64 (gi : Int)) := hd 3 _ rfl; have d4 : w1.cell? ⟨w.heap.size, 4, none⟩ = some (.int .i64 xix) := hd 4 _ rfl; have j4 : w1.cell? ⟨w.heap.size + 1, 4, none⟩ = some (.slice (some ⟨b, off, none⟩) G.length gc) := hj 4 _ rfl; clear hd hj)
            refine wp_region_held_drew (S := fun wz => (wz.cell? ⟨w.heap.size, 4, none⟩ = some (.int .i64 xix) ∧ wz.cell? ⟨w.heap.size, 3, none⟩ = some (.int .i64 (gi : Int)) ∧ wz.cell? ⟨w.heap.size + 1, 4, none⟩ = some (.slice (some ⟨b, off, none⟩) G.length gc)) ∧ (wz.cell? ⟨b, off + gi * 3, none⟩ = some (.int .i64 g.n) ∧ wz.cell? ⟨b, off + gi * 3 + 1, none⟩ = some (.int .i64 g.c) ∧ wz.cell? ⟨b, off + gi * 3 + 2, none⟩ = some (.int .i64 g.m))) (by kernel_rfl) ⟨⟨d4, d3, j4⟩, q0, q1, q2⟩ (fun hHeld => ?_)
            refine wpAnyH_take (i := 0) (oi := { dst := some 27, op := Op.fieldAddr 33 (Operand.tmp 2) 4, type := 0, pos := "store.go:99", after := #[], guard := none }) (v := .pointer (some ⟨w.heap.size, 4, none⟩)) rfl (by kernel_rfl) (by kernel_rfl) (by kernel_rfl) (fun _ _ _ h => h) (Or.inl ⟨by rfl, ?_⟩) hHeld ?_
            · (intro w hSw; (try dsimp only at hSw); go_simp)
            try simp only [Act.put, List.setIfInBounds_toArray, List.set_cons_zero, List.set_cons_succ]
            refine wpAnyH_take (i := 1) (oi := { dst := some 28, op := Op.load 3 (Operand.tmp 27), type := 3, pos := "store.go:99", after := #[{ on := 0, ground := Ground.data }], guard := none }) (v := .int .i64 xix) rfl (by kernel_rfl) (by kernel_rfl) (by kernel_rfl) (fun _ _ _ h => h) (Or.inl ⟨by rfl, ?_⟩) hHeld ?_
            · (intro w hSw; (try dsimp only at hSw); go_simp)
            try simp only [Act.put, List.setIfInBounds_toArray, List.set_cons_zero, List.set_cons_succ]
            refine wpAnyH_take (i := 2) (oi := { dst := some 29, op := Op.binOp BinOp.geq 3 (Operand.tmp 28) (Operand.const (Value.int IntKind.i64 0)) 3, type := 4, pos := "store.go:99", after := #[{ on := 1, ground := Ground.data }], guard := none }) (v := .bool false) rfl (by kernel_rfl) (by kernel_rfl) (by kernel_rfl) (fun _ _ _ h => h) (Or.inl ⟨by rfl, ?_⟩) hHeld ?_
            · (intro w hSw; (try dsimp only at hSw); go_simp)
            try simp only [Act.put, List.setIfInBounds_toArray, List.set_cons_zero, List.set_cons_succ]
            refine wpAnyH_take (i := 3) (oi := { dst := some 30, op := Op.move (Operand.tmp 29), type := 4, pos := "store.go:99", after := #[{ on := 2, ground := Ground.data }], guard := none }) (v := .bool false) rfl (by kernel_rfl) (by kernel_rfl) (by kernel_rfl) (fun _ _ _ h => h) (Or.inl ⟨by rfl, ?_⟩) hHeld ?_
            · (intro w hSw; (try dsimp only at hSw); go_simp)
            try simp only [Act.put, List.setIfInBounds_toArray, List.set_cons_zero, List.set_cons_succ]
            refine wpAnyH_take (i := 4) (oi := { dst := some 31, op := Op.fieldAddr 33 (Operand.tmp 2) 4, type := 0, pos := "store.go:99", after := #[{ on := 3, ground := Ground.guard }], guard := some (3, true) }) (v := undef) rfl (by kernel_rfl) (by kernel_rfl) (by kernel_rfl) (fun _ _ _ h => h) (Or.inr ⟨by rfl, rfl⟩) hHeld ?_
            try simp only [Act.put, List.setIfInBounds_toArray, List.set_cons_zero, List.set_cons_succ]
            refine wpAnyH_take (i := 5) (oi := { dst := some 32, op := Op.load 3 (Operand.tmp 31), type := 3, pos := "store.go:99", after := #[{ on := 4, ground := Ground.data }, { on := 3, ground := Ground.guard }], guard := some (3, true) }) (v := undef) rfl (by kernel_rfl) (by kernel_rfl) (by kernel_rfl) (fun _ _ _ h => h) (Or.inr ⟨by rfl, rfl⟩) hHeld ?_
            try simp only [Act.put, List.setIfInBounds_toArray, List.set_cons_zero, List.set_cons_succ]
            refine wpAnyH_take (i := 6) (oi := { dst := some 33, op := Op.fieldAddr 55 (Operand.tmp 3) 4, type := 0, pos := "store.go:99", after := #[{ on := 3, ground := Ground.guard }], guard := some (3, true) }) (v := undef) rfl (by kernel_rfl) (by kernel_rfl) (by kernel_rfl) (fun _ _ _ h => h) (Or.inr ⟨by rfl, rfl⟩) hHeld ?_
            try simp only [Act.put, List.setIfInBounds_toArray, List.set_cons_zero, List.set_cons_succ]
            refine wpAnyH_take (i := 7) (oi := { dst := some 34, op := Op.load 53 (Operand.tmp 33), type := 53, pos := "store.go:99", after := #[{ on := 6, ground := Ground.data }, { on := 3, ground := Ground.guard }], guard := some (3, true) }) (v := undef) rfl (by kernel_rfl) (by kernel_rfl) (by kernel_rfl) (fun _ _ _ h => h) (Or.inr ⟨by rfl, rfl⟩) hHeld ?_
            try simp only [Act.put, List.setIfInBounds_toArray, List.set_cons_zero, List.set_cons_succ]
            refine wpAnyH_take (i := 8) (oi := { dst := some 35, op := Op.fieldAddr 33 (Operand.tmp 2) 3, type := 0, pos := "store.go:99", after := #[{ on := 3, ground := Ground.guard }], guard := some (3, true) }) (v := undef) rfl (by kernel_rfl) (by kernel_rfl) (by kernel_rfl) (fun _ _ _ h => h) (Or.inr ⟨by rfl, rfl⟩) hHeld ?_
            try simp only [Act.put, List.setIfInBounds_toArray, List.set_cons_zero, List.set_cons_succ]
            refine wpAnyH_take (i := 9) (oi := { dst := some 36, op := Op.load 3 (Operand.tmp 35), type := 3, pos := "store.go:99", after := #[{ on := 8, ground := Ground.data }, { on := 3, ground := Ground.guard }], guard := some (3, true) }) (v := undef) rfl (by kernel_rfl) (by kernel_rfl) (by kernel_rfl) (fun _ _ _ h => h) (Or.inr ⟨by rfl, rfl⟩) hHeld ?_
            try simp only [Act.put, List.setIfInBounds_toArray, List.set_cons_zero, List.set_cons_succ]
            refine wpAnyH_take (i := 10) (oi := { dst := some 37, op := Op.indexAddr 53 (Operand.tmp 34) (Operand.tmp 36), type := 0, pos := "store.go:99", after := #[{ on := 7, ground := Ground.data }, { on := 9, ground := Ground.data }, { on := 3, ground := Ground.guard }], guard := some (3, true) }) (v := undef) rfl (by kernel_rfl) (by kernel_rfl) (by kernel_rfl) (fun _ _ _ h => h) (Or.inr ⟨by rfl, rfl⟩) hHeld ?_
            try simp only [Act.put, List.setIfInBounds_toArray, List.set_cons_zero, List.set_cons_succ]
            refine wpAnyH_take (i := 11) (oi := { dst := some 38, op := Op.load 57 (Operand.tmp 37), type := 57, pos := "store.go:99", after := #[{ on := 10, ground := Ground.data }, { on := 3, ground := Ground.guard }], guard := some (3, true) }) (v := undef) rfl (by kernel_rfl) (by kernel_rfl) (by kernel_rfl) (fun _ _ _ h => h) (Or.inr ⟨by rfl, rfl⟩) hHeld ?_
            try simp only [Act.put, List.setIfInBounds_toArray, List.set_cons_zero, List.set_cons_succ]
            refine wpAnyH_take (i := 12) (oi := { dst := some 39, op := Op.call { callee := Callee.value (Operand.func 46), args := #[Operand.tmp 38], argTypes := #[57] }, type := 3, pos := "store.go:99", after := #[{ on := 11, ground := Ground.data }, { on := 3, ground := Ground.chain }, { on := 3, ground := Ground.guard }], guard := some (3, true) }) (v := undef) rfl (by kernel_rfl) (by kernel_rfl) (by kernel_rfl) (fun _ _ _ h => h) (Or.inr ⟨by rfl, rfl⟩) hHeld ?_
            try simp only [Act.put, List.setIfInBounds_toArray, List.set_cons_zero, List.set_cons_succ]
            refine wpAnyH_take (i := 13) (oi := { dst := some 40, op := Op.binOp BinOp.lss 3 (Operand.tmp 32) (Operand.tmp 39) 3, type := 4, pos := "store.go:99", after := #[{ on := 5, ground := Ground.data }, { on := 12, ground := Ground.data }, { on := 3, ground := Ground.guard }], guard := some (3, true) }) (v := undef) rfl (by kernel_rfl) (by kernel_rfl) (by kernel_rfl) (fun _ _ _ h => h) (Or.inr ⟨by rfl, rfl⟩) hHeld ?_
            try simp only [Act.put, List.setIfInBounds_toArray, List.set_cons_zero, List.set_cons_succ]
            refine wpAnyH_take (i := 14) (oi := { dst := some 41, op := Op.pick (Operand.tmp 30) (Operand.tmp 40) (Operand.const (Value.bool false)), type := 4, pos := "store.go:99", after := #[{ on := 3, ground := Ground.data }, { on := 13, ground := Ground.data }], guard := none }) (v := .bool false) rfl (by kernel_rfl) (by kernel_rfl) (by kernel_rfl) (fun _ _ _ h => h) (Or.inl ⟨by rfl, ?_⟩) hHeld ?_
            · (intro w hSw; (try dsimp only at hSw); go_simp)
            try simp only [Act.put, List.setIfInBounds_toArray, List.set_cons_zero, List.set_cons_succ]
            refine wpAnyH_take (i := 15) (oi := { dst := some 4, op := Op.assign (Operand.tmp 41), type := 4, pos := "store.go:99", after := #[{ on := 14, ground := Ground.data }, { on := 12, ground := Ground.chain }, { on := 0, ground := Ground.phase }, { on := 1, ground := Ground.phase }, { on := 2, ground := Ground.phase }, { on := 3, ground := Ground.phase }, { on := 4, ground := Ground.phase }, { on := 5, ground := Ground.phase }, { on := 6, ground := Ground.phase }, { on := 7, ground := Ground.phase }, { on := 8, ground := Ground.phase }, { on := 9, ground := Ground.phase }, { on := 10, ground := Ground.phase }, { on := 11, ground := Ground.phase }, { on := 12, ground := Ground.phase }, { on := 13, ground := Ground.phase }, { on := 14, ground := Ground.phase }], guard := none }) (v := .bool false) rfl (by kernel_rfl) (by kernel_rfl) (by kernel_rfl) (fun _ _ _ h => h) (Or.inl ⟨by rfl, ?_⟩) hHeld ?_
            · (intro w hSw; (try dsimp only at hSw); go_simp)
            try simp only [Act.put, List.setIfInBounds_toArray, List.set_cons_zero, List.set_cons_succ]
            refine wpAnyH_done (by kernel_rfl) ?_ _
            go_wp2
            go_ret
            exact ⟨rfl, HB.out.trans ((bdrew w1).mono HB.out.size)⟩
  · have b1 : (x.jb == id) = false := by simp [h1]
    have b1' : (x.jb != id) = true := by simp [h1]
    have e : hoB id G x = false := by rw [hoB, isI_false h1]; rfl
    rw [e]
    clear e h1
    go_enter Try.func76, Try.ntmps76
    go_wp2
    go_ret
    exact ⟨rfl, below2 w _ _⟩
end Go.Proofs.Ytkokkdekbilkjaa
