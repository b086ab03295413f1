/- follow: what becomes of an allocation that is told. -/
import Derived.Test.YtkienmncifonnaaDoorKn
import Derived.Test.YtkienmncifonnaaDoorTb
import Derived.Deep.DeepMust
namespace Go.Proofs.YtkienmncifonnaaDoor
open Go.RowKit Go.Maps
variable {D : Nat} {w w' : World} {p : Nat} {s : Sg} {n c pd : Nat} {mv : Value} {G : Nat → Prop}

def tk1 (T : TM) (x : Al) : Ak := match T x.id with | some a => a | none => ⟨x, 2⟩
def tkF (T : TM) (x : Al) : Ak := if x.sp = true ∧ (tk1 T x).s = 2 then { tk1 T x with s := 5 } else tk1 T x
set_option maxHeartbeats 1200000 in
set_option maxRecDepth 100000 in
theorem follow_any (x : Al) (h : AgR D w p s n c pd mv G) (hx : wf64 x.id) :
    Calls Tryd.prog 56 #[.pointer (some ⟨p, 0, none⟩), .agg (alC x)] w fun e w' => e = .returned (akV (tkF s.T x)) ∧ Below w.heap.size w w' := by
  have HZ : Hid ((Tryd.prog.info? 86).map (·.size) = some 12) := hidOf (by kernel_rfl)
  have HZ7 : Hid ((Tryd.prog.info? 67).map (·.size) = some 11) := hidOf (by kernel_rfl)
  obtain ⟨i0, i1, i2, i3, i4, i5, i6, i7, i8, sp, i10⟩ := x
  have hx : wf64 i0 := hx
  obtain ⟨W0, hW0⟩ : ∃ y, y = (w.alloc (.cells #[.int .i64 i0, .int .i64 i1, .int .i64 i2, .int .i64 i3, .int .i64 i4, .int .i64 i5, .int .i64 i6, .int .i64 i7, .int .i64 i8, .bool sp, .int .i64 i10] 67)).alloc (.cells #[.int .i64 0, .int .i64 0, .int .i64 0, .int .i64 0, .int .i64 0, .int .i64 0, .int .i64 0, .int .i64 0, .int .i64 0, .bool false, .int .i64 0, .int .i64 0] 86) := ⟨_, rfl⟩
  have hb : Below w.heap.size w W0 := by rw [hW0]; exact ((Below.refl _ w).alloc (Nat.le_refl _) _).alloc (by simp) _
  have hr0 : W0.heap[w.heap.size]? = some (.cells #[.int .i64 i0, .int .i64 i1, .int .i64 i2, .int .i64 i3, .int .i64 i4, .int .i64 i5, .int .i64 i6, .int .i64 i7, .int .i64 i8, .bool sp, .int .i64 i10] 67 (0, 0)) := by
    rw [hW0]; exact ((below1 _ _).block _ (by simp)).trans (heap_alloc_new w _)
  have hq0 : W0.heap[w.heap.size + 1]? = some (.cells #[.int .i64 0, .int .i64 0, .int .i64 0, .int .i64 0, .int .i64 0, .int .i64 0, .int .i64 0, .int .i64 0, .int .i64 0, .bool false, .int .i64 0, .int .i64 0] 86 (0, 0)) := by
    have := heap_alloc_new (w.alloc (.cells #[.int .i64 i0, .int .i64 i1, .int .i64 i2, .int .i64 i3, .int .i64 i4, .int .i64 i5, .int .i64 i6, .int .i64 i7, .int .i64 i8, .bool sp, .int .i64 i10] 67)) (.cells #[.int .i64 0, .int .i64 0, .int .i64 0, .int .i64 0, .int .i64 0, .int .i64 0, .int .i64 0, .int .i64 0, .int .i64 0, .bool false, .int .i64 0, .int .i64 0] 86)
    rw [World.size_alloc] at this
    rw [hW0]; exact this
  have hsz : W0.heap.size = w.heap.size + 1 + 1 := by rw [hW0]; simp
  have hd := h.below hb
  have c21 : W0.cell? ⟨p, 21, none⟩ = some mv := hd.b.at_ 21
  have lp := hd.b.lt
  have r0 : W0.cell? ⟨w.heap.size, 0, none⟩ = some (.int .i64 i0) := by rw [cell_of_row _ _ 0 _ 67 (0, 0) hr0]; rfl
  obtain ⟨a, ha⟩ : ∃ a, a = getA s.T i0 := ⟨_, rfl⟩
  obtain ⟨o, ho⟩ : ∃ o, o = (s.T i0).isSome := ⟨_, rfl⟩
  obtain ⟨r, hr⟩ : ∃ r, r = tkF s.T ⟨i0, i1, i2, i3, i4, i5, i6, i7, i8, sp, i10⟩ := ⟨_, rfl⟩
  have hlk : (Instr.lookup 75 mv (.int .i64 i0) true).run Tryd.prog W0.drew = .ok (.tuple #[.agg #[.int .i64 a.al.id, .int .i64 a.al.jb, .int .i64 a.al.vr, .int .i64 a.al.gp, .int .i64 a.al.ix, .int .i64 a.al.nd, .int .i64 a.al.ep, .int .i64 a.al.c1, .int .i64 a.al.c2, .bool a.al.sp, .int .i64 a.al.st, .int .i64 a.s], .bool o]) W0.drew := by
    have hd2 : AgR D W0.drew p s n c pd mv G := hd.below ⟨rfl, rfl, rfl, Nat.le_refl _, fun _ _ => rfl⟩
    rw [hd2.t.lookOk hx, ← ha, ← ho]; rfl
  have hlk2 : (Instr.lookup 75 mv (.int .i64 i0) true).run Tryd.prog (W0.alloc (.cells #[.int .i64 0, .int .i64 0, .int .i64 0, .int .i64 0, .int .i64 0, .int .i64 0, .int .i64 0, .int .i64 0, .int .i64 0, .bool false, .int .i64 0, .int .i64 0] 86)).drew = .ok (.tuple #[.agg #[.int .i64 a.al.id, .int .i64 a.al.jb, .int .i64 a.al.vr, .int .i64 a.al.gp, .int .i64 a.al.ix, .int .i64 a.al.nd, .int .i64 a.al.ep, .int .i64 a.al.c1, .int .i64 a.al.c2, .bool a.al.sp, .int .i64 a.al.st, .int .i64 a.s], .bool o]) (W0.alloc (.cells #[.int .i64 0, .int .i64 0, .int .i64 0, .int .i64 0, .int .i64 0, .int .i64 0, .int .i64 0, .int .i64 0, .int .i64 0, .bool false, .int .i64 0, .int .i64 0] 86)).drew := by
    have hd2 : AgR D (W0.alloc (.cells #[.int .i64 0, .int .i64 0, .int .i64 0, .int .i64 0, .int .i64 0, .int .i64 0, .int .i64 0, .int .i64 0, .int .i64 0, .bool false, .int .i64 0, .int .i64 0] 86)).drew p s n c pd mv G := hd.below ((Below.refl _ W0).alloc (Nat.le_refl _) _).drew
    rw [hd2.t.lookOk hx, ← ha, ← ho]; rfl
  have lq : w.heap.size < W0.heap.size := by omega
  have lq1 : w.heap.size + 1 < W0.heap.size := by omega
  have HR := hidOf hr
  have HAa := hidOf ha
  have HO := hidOf ho
  have HB := hidOf hb
  have HQ := hidOf hq0
  have HR0 := hidOf hr0
  have HS := hidOf hsz
  have fz : ∀ j, W0.frozen? ⟨w.heap.size, j, none⟩ = false := fun j => by simp [World.frozen?, hr0]
  have HW := hidOf hW0
  have HX : Hid (o = false → tk1 s.T ⟨i0, i1, i2, i3, i4, i5, i6, i7, i8, sp, i10⟩ = ⟨⟨i0, i1, i2, i3, i4, i5, i6, i7, i8, sp, i10⟩, 2⟩) := hidOf (fun e => by
    rw [HO.out] at e
    cases ht : s.T i0 with
    | none => unfold tk1; rw [ht]
    | some b => rw [ht] at e; cases e)
  have HY : Hid (o = true → tk1 s.T ⟨i0, i1, i2, i3, i4, i5, i6, i7, i8, sp, i10⟩ = a) := hidOf (fun e => by
    rw [HO.out] at e
    cases ht : s.T i0 with
    | none => rw [ht] at e; cases e
    | some b => unfold tk1; rw [HAa.out, getA_some ht, ht])
  rw [← hr]
  unfold alC
  clear hr ha ho h hb hq0 hr0 hd fz hsz
  go_enter Tryd.func56, Tryd.ntmps56
  go_upto_region 1 with (fail)
  rw [← hW0]
  clear hW0
  have HQ2 : Hid (∀ ob : Obj, (W0.alloc ob).drew.heap[w.heap.size + 1]? = some (.cells #[.int .i64 0, .int .i64 0, .int .i64 0, .int .i64 0, .int .i64 0, .int .i64 0, .int .i64 0, .int .i64 0, .int .i64 0, .bool false, .int .i64 0, .int .i64 0] 86 (0, 0))) := hidOf (fun ob => ((below1 W0 ob).block _ lq1).trans HQ.out)
  have HR2 : Hid (∀ ob : Obj, (W0.alloc ob).drew.heap[w.heap.size]? = some (.cells #[.int .i64 i0, .int .i64 i1, .int .i64 i2, .int .i64 i3, .int .i64 i4, .int .i64 i5, .int .i64 i6, .int .i64 i7, .int .i64 i8, .bool sp, .int .i64 i10] 67 (0, 0))) := hidOf (fun ob => ((below1 W0 ob).block _ lq).trans HR0.out)
  have HB3 : Hid (∀ ob : Obj, Below w.heap.size w (W0.alloc ob).drew) := hidOf (fun ob => (HB.out.alloc HB.out.size _).drew)
  go_region
  all_goals
    obtain ⟨Y, hY⟩ : ∃ y, y = (W0.alloc (.cells #[.int .i64 a.al.id, .int .i64 a.al.jb, .int .i64 a.al.vr, .int .i64 a.al.gp, .int .i64 a.al.ix, .int .i64 a.al.nd, .int .i64 a.al.ep, .int .i64 a.al.c1, .int .i64 a.al.c2, .bool a.al.sp, .int .i64 a.al.st, .int .i64 a.s] 86)).drew := ⟨_, rfl⟩
    rw [← hY]
    have HT : Hid (Y.heap[W0.heap.size]? = some (.cells #[.int .i64 a.al.id, .int .i64 a.al.jb, .int .i64 a.al.vr, .int .i64 a.al.gp, .int .i64 a.al.ix, .int .i64 a.al.nd, .int .i64 a.al.ep, .int .i64 a.al.c1, .int .i64 a.al.c2, .bool a.al.sp, .int .i64 a.al.st, .int .i64 a.s] 86 (0, 0))) := hidOf (by rw [hY]; exact heap_alloc_new W0 _)
    have HRY : Hid (Y.heap[w.heap.size]? = some (.cells #[.int .i64 i0, .int .i64 i1, .int .i64 i2, .int .i64 i3, .int .i64 i4, .int .i64 i5, .int .i64 i6, .int .i64 i7, .int .i64 i8, .bool sp, .int .i64 i10] 67 (0, 0))) := hidOf (by rw [hY]; exact HR2.out _)
    have HQY : Hid (Y.heap[w.heap.size + 1]? = some (.cells #[.int .i64 0, .int .i64 0, .int .i64 0, .int .i64 0, .int .i64 0, .int .i64 0, .int .i64 0, .int .i64 0, .int .i64 0, .bool false, .int .i64 0, .int .i64 0] 86 (0, 0))) := hidOf (by rw [hY]; exact HQ2.out _)
    have HBY : Hid (Below w.heap.size w Y) := hidOf (by rw [hY]; exact HB3.out _)
    clear hY hlk hlk2 c21 r0
    have z0Y : Y.cell? ⟨W0.heap.size, 0, none⟩ = some (.int .i64 a.al.id) := (cell_of_row _ _ 0 _ 86 (0, 0) HT.out).trans rfl
    have z1Y : Y.cell? ⟨W0.heap.size, 1, none⟩ = some (.int .i64 a.al.jb) := (cell_of_row _ _ 1 _ 86 (0, 0) HT.out).trans rfl
    have z2Y : Y.cell? ⟨W0.heap.size, 2, none⟩ = some (.int .i64 a.al.vr) := (cell_of_row _ _ 2 _ 86 (0, 0) HT.out).trans rfl
    have z3Y : Y.cell? ⟨W0.heap.size, 3, none⟩ = some (.int .i64 a.al.gp) := (cell_of_row _ _ 3 _ 86 (0, 0) HT.out).trans rfl
    have z4Y : Y.cell? ⟨W0.heap.size, 4, none⟩ = some (.int .i64 a.al.ix) := (cell_of_row _ _ 4 _ 86 (0, 0) HT.out).trans rfl
    have z5Y : Y.cell? ⟨W0.heap.size, 5, none⟩ = some (.int .i64 a.al.nd) := (cell_of_row _ _ 5 _ 86 (0, 0) HT.out).trans rfl
    have z6Y : Y.cell? ⟨W0.heap.size, 6, none⟩ = some (.int .i64 a.al.ep) := (cell_of_row _ _ 6 _ 86 (0, 0) HT.out).trans rfl
    have z7Y : Y.cell? ⟨W0.heap.size, 7, none⟩ = some (.int .i64 a.al.c1) := (cell_of_row _ _ 7 _ 86 (0, 0) HT.out).trans rfl
    have z8Y : Y.cell? ⟨W0.heap.size, 8, none⟩ = some (.int .i64 a.al.c2) := (cell_of_row _ _ 8 _ 86 (0, 0) HT.out).trans rfl
    have z9Y : Y.cell? ⟨W0.heap.size, 9, none⟩ = some (.bool a.al.sp) := (cell_of_row _ _ 9 _ 86 (0, 0) HT.out).trans rfl
    have z10Y : Y.cell? ⟨W0.heap.size, 10, none⟩ = some (.int .i64 a.al.st) := (cell_of_row _ _ 10 _ 86 (0, 0) HT.out).trans rfl
    have z11Y : Y.cell? ⟨W0.heap.size, 11, none⟩ = some (.int .i64 a.s) := (cell_of_row _ _ 11 _ 86 (0, 0) HT.out).trans rfl
    have s9Y : Y.cell? ⟨w.heap.size, 9, none⟩ = some (.bool sp) := (cell_of_row _ _ 9 _ 67 (0, 0) HRY.out).trans rfl
    have x0 : Y.cell? ⟨w.heap.size, 0, none⟩ = some (.int .i64 i0) := (cell_of_row _ _ 0 _ 67 (0, 0) HRY.out).trans rfl
    have x1 : Y.cell? ⟨w.heap.size, 1, none⟩ = some (.int .i64 i1) := (cell_of_row _ _ 1 _ 67 (0, 0) HRY.out).trans rfl
    have x2 : Y.cell? ⟨w.heap.size, 2, none⟩ = some (.int .i64 i2) := (cell_of_row _ _ 2 _ 67 (0, 0) HRY.out).trans rfl
    have x3 : Y.cell? ⟨w.heap.size, 3, none⟩ = some (.int .i64 i3) := (cell_of_row _ _ 3 _ 67 (0, 0) HRY.out).trans rfl
    have x4 : Y.cell? ⟨w.heap.size, 4, none⟩ = some (.int .i64 i4) := (cell_of_row _ _ 4 _ 67 (0, 0) HRY.out).trans rfl
    have x5 : Y.cell? ⟨w.heap.size, 5, none⟩ = some (.int .i64 i5) := (cell_of_row _ _ 5 _ 67 (0, 0) HRY.out).trans rfl
    have x6 : Y.cell? ⟨w.heap.size, 6, none⟩ = some (.int .i64 i6) := (cell_of_row _ _ 6 _ 67 (0, 0) HRY.out).trans rfl
    have x7 : Y.cell? ⟨w.heap.size, 7, none⟩ = some (.int .i64 i7) := (cell_of_row _ _ 7 _ 67 (0, 0) HRY.out).trans rfl
    have x8 : Y.cell? ⟨w.heap.size, 8, none⟩ = some (.int .i64 i8) := (cell_of_row _ _ 8 _ 67 (0, 0) HRY.out).trans rfl
    have x9 : Y.cell? ⟨w.heap.size, 9, none⟩ = some (.bool sp) := (cell_of_row _ _ 9 _ 67 (0, 0) HRY.out).trans rfl
    have x10 : Y.cell? ⟨w.heap.size, 10, none⟩ = some (.int .i64 i10) := (cell_of_row _ _ 10 _ 67 (0, 0) HRY.out).trans rfl
    clear HQ2
    cases o with
    | false =>
      cases sp with
      | true =>
        have ed : decide ((⟨⟨i0, i1, i2, i3, i4, i5, i6, i7, i8, true, i10⟩, 2⟩ : Ak).s = 2) = true := by simp
        obtain rfl : r = { (⟨⟨i0, i1, i2, i3, i4, i5, i6, i7, i8, true, i10⟩, 2⟩ : Ak) with s := 5 } := by rw [HR.out]; unfold tkF; rw [HX.out rfl, if_pos ⟨rfl, rfl⟩]
        go_upto_region 3 with (fail)
        refine wp_region_lit ?_
        refine wpList_load_row rfl 67 (.tmp 3) rfl w.heap.size rfl 67 (alC ⟨i0, i1, i2, i3, i4, i5, i6, i7, i8, true, i10⟩) (0, 0) _ HRY.out Tryd.underlying67 rfl HZ7.out ?_
        try simp only [Act.put, List.setIfInBounds_toArray, List.set_cons_zero, List.set_cons_succ]
        refine wpList_buildE rfl 86 #[(0, .tmp 19), (1, .const (.int .i64 2))] rfl [(0, .agg (alC ⟨i0, i1, i2, i3, i4, i5, i6, i7, i8, true, i10⟩)), (1, .int .i64 2)] (by kernel_rfl) (akC ⟨⟨i0, i1, i2, i3, i4, i5, i6, i7, i8, true, i10⟩, 2⟩) (built86 ⟨i0, i1, i2, i3, i4, i5, i6, i7, i8, true, i10⟩ 2) ?_
        try simp only [Act.put, List.setIfInBounds_toArray, List.set_cons_zero, List.set_cons_succ]
        refine wpList_store_row rfl 86 (.tmp 5) (.tmp 20) rfl W0.heap.size (akC ⟨⟨i0, i1, i2, i3, i4, i5, i6, i7, i8, true, i10⟩, 2⟩) rfl rfl 86 #[.int .i64 a.al.id, .int .i64 a.al.jb, .int .i64 a.al.vr, .int .i64 a.al.gp, .int .i64 a.al.ix, .int .i64 a.al.nd, .int .i64 a.al.ep, .int .i64 a.al.c1, .int .i64 a.al.c2, .bool a.al.sp, .int .i64 a.al.st, .int .i64 a.s] HT.out HZ.out rfl (ak_all _) ?_
        try simp only [Act.put]
        obtain ⟨Z, hZ⟩ : ∃ y, y = Y.setRow W0.heap.size (akC ⟨⟨i0, i1, i2, i3, i4, i5, i6, i7, i8, true, i10⟩, 2⟩) := ⟨_, rfl⟩
        rw [← hZ]
        have HTZ : Hid (Z.heap[W0.heap.size]? = some (.cells (akC ⟨⟨i0, i1, i2, i3, i4, i5, i6, i7, i8, true, i10⟩, 2⟩) 86 (0, 0))) := hidOf (by rw [hZ]; exact setRow_at HT.out)
        have HRZ : Hid (Z.heap[w.heap.size]? = some (.cells #[.int .i64 i0, .int .i64 i1, .int .i64 i2, .int .i64 i3, .int .i64 i4, .int .i64 i5, .int .i64 i6, .int .i64 i7, .int .i64 i8, .bool true, .int .i64 i10] 67 (0, 0))) := hidOf (by rw [hZ]; exact (setRow_ne (by omega)).trans HRY.out)
        have HQZ : Hid (Z.heap[w.heap.size + 1]? = some (.cells #[.int .i64 0, .int .i64 0, .int .i64 0, .int .i64 0, .int .i64 0, .int .i64 0, .int .i64 0, .int .i64 0, .int .i64 0, .bool false, .int .i64 0, .int .i64 0] 86 (0, 0))) := hidOf (by rw [hZ]; exact (setRow_ne (by omega)).trans HQY.out)
        have HBZ : Hid (Below w.heap.size w Z) := hidOf (by rw [hZ]; exact setRow_below HBY.out (by omega))
        clear hZ
        have z0Z : Z.cell? ⟨W0.heap.size, 0, none⟩ = some (.int .i64 i0) := (cell_of_row _ _ 0 _ 86 (0, 0) HTZ.out).trans rfl
        have z1Z : Z.cell? ⟨W0.heap.size, 1, none⟩ = some (.int .i64 i1) := (cell_of_row _ _ 1 _ 86 (0, 0) HTZ.out).trans rfl
        have z2Z : Z.cell? ⟨W0.heap.size, 2, none⟩ = some (.int .i64 i2) := (cell_of_row _ _ 2 _ 86 (0, 0) HTZ.out).trans rfl
        have z3Z : Z.cell? ⟨W0.heap.size, 3, none⟩ = some (.int .i64 i3) := (cell_of_row _ _ 3 _ 86 (0, 0) HTZ.out).trans rfl
        have z4Z : Z.cell? ⟨W0.heap.size, 4, none⟩ = some (.int .i64 i4) := (cell_of_row _ _ 4 _ 86 (0, 0) HTZ.out).trans rfl
        have z5Z : Z.cell? ⟨W0.heap.size, 5, none⟩ = some (.int .i64 i5) := (cell_of_row _ _ 5 _ 86 (0, 0) HTZ.out).trans rfl
        have z6Z : Z.cell? ⟨W0.heap.size, 6, none⟩ = some (.int .i64 i6) := (cell_of_row _ _ 6 _ 86 (0, 0) HTZ.out).trans rfl
        have z7Z : Z.cell? ⟨W0.heap.size, 7, none⟩ = some (.int .i64 i7) := (cell_of_row _ _ 7 _ 86 (0, 0) HTZ.out).trans rfl
        have z8Z : Z.cell? ⟨W0.heap.size, 8, none⟩ = some (.int .i64 i8) := (cell_of_row _ _ 8 _ 86 (0, 0) HTZ.out).trans rfl
        have z9Z : Z.cell? ⟨W0.heap.size, 9, none⟩ = some (.bool true) := (cell_of_row _ _ 9 _ 86 (0, 0) HTZ.out).trans rfl
        have z10Z : Z.cell? ⟨W0.heap.size, 10, none⟩ = some (.int .i64 i10) := (cell_of_row _ _ 10 _ 86 (0, 0) HTZ.out).trans rfl
        have z11Z : Z.cell? ⟨W0.heap.size, 11, none⟩ = some (.int .i64 2) := (cell_of_row _ _ 11 _ 86 (0, 0) HTZ.out).trans rfl
        have s9Z : Z.cell? ⟨w.heap.size, 9, none⟩ = some (.bool true) := (cell_of_row _ _ 9 _ 67 (0, 0) HRZ.out).trans rfl
        go_wp2_with (first | (go_at_call 22; go_must (refine (runs_any (⟨⟨i0, i1, i2, i3, i4, i5, i6, i7, i8, true, i10⟩, 2⟩) _).mono ?_; rintro e w2 ⟨rfl, hb2⟩; have HB2 := hidOf hb2; have HT2 : Hid (w2.heap[W0.heap.size]? = some (.cells (akC (⟨⟨i0, i1, i2, i3, i4, i5, i6, i7, i8, true, i10⟩, 2⟩)) 86 (0, 0))) := hidOf ((hb2.block _ (heap_lt HTZ.out)).trans HTZ.out); have HQ2 : Hid (w2.heap[w.heap.size + 1]? = some (.cells #[.int .i64 0, .int .i64 0, .int .i64 0, .int .i64 0, .int .i64 0, .int .i64 0, .int .i64 0, .int .i64 0, .int .i64 0, .bool false, .int .i64 0, .int .i64 0] 86 (0, 0))) := hidOf ((hb2.block _ (heap_lt HQZ.out)).trans HQZ.out); have fz2 : ∀ j, w2.frozen? ⟨W0.heap.size, j, none⟩ = false := (fun j => (by simp [World.frozen?, HT2.out])); have l2 : W0.heap.size < w2.heap.size := heap_lt HT2.out; clear hb2; have y0 : w2.cell? ⟨W0.heap.size, 0, none⟩ = some (.int .i64 i0) := (cell_of_row _ _ 0 _ 86 (0, 0) HT2.out).trans rfl; have y1 : w2.cell? ⟨W0.heap.size, 1, none⟩ = some (.int .i64 i1) := (cell_of_row _ _ 1 _ 86 (0, 0) HT2.out).trans rfl; have y2 : w2.cell? ⟨W0.heap.size, 2, none⟩ = some (.int .i64 i2) := (cell_of_row _ _ 2 _ 86 (0, 0) HT2.out).trans rfl; have y3 : w2.cell? ⟨W0.heap.size, 3, none⟩ = some (.int .i64 i3) := (cell_of_row _ _ 3 _ 86 (0, 0) HT2.out).trans rfl; have y4 : w2.cell? ⟨W0.heap.size, 4, none⟩ = some (.int .i64 i4) := (cell_of_row _ _ 4 _ 86 (0, 0) HT2.out).trans rfl; have y5 : w2.cell? ⟨W0.heap.size, 5, none⟩ = some (.int .i64 i5) := (cell_of_row _ _ 5 _ 86 (0, 0) HT2.out).trans rfl; have y6 : w2.cell? ⟨W0.heap.size, 6, none⟩ = some (.int .i64 i6) := (cell_of_row _ _ 6 _ 86 (0, 0) HT2.out).trans rfl; have y7 : w2.cell? ⟨W0.heap.size, 7, none⟩ = some (.int .i64 i7) := (cell_of_row _ _ 7 _ 86 (0, 0) HT2.out).trans rfl; have y8 : w2.cell? ⟨W0.heap.size, 8, none⟩ = some (.int .i64 i8) := (cell_of_row _ _ 8 _ 86 (0, 0) HT2.out).trans rfl; have y9 : w2.cell? ⟨W0.heap.size, 9, none⟩ = some (.bool true) := (cell_of_row _ _ 9 _ 86 (0, 0) HT2.out).trans rfl; have y10 : w2.cell? ⟨W0.heap.size, 10, none⟩ = some (.int .i64 i10) := (cell_of_row _ _ 10 _ 86 (0, 0) HT2.out).trans rfl; have y11 : w2.cell? ⟨W0.heap.size, 11, none⟩ = some (.int .i64 2) := (cell_of_row _ _ 11 _ 86 (0, 0) HT2.out).trans rfl)) | (refine wpList_store_row rfl 86 (.tmp 4) (.tmp 28) rfl (w.heap.size + 1) (akC ({ (⟨⟨i0, i1, i2, i3, i4, i5, i6, i7, i8, true, i10⟩, 2⟩ : Ak) with s := 5 })) rfl rfl 86 #[.int .i64 0, .int .i64 0, .int .i64 0, .int .i64 0, .int .i64 0, .int .i64 0, .int .i64 0, .int .i64 0, .int .i64 0, .bool false, .int .i64 0, .int .i64 0] ((Below.heap_setCell w2 ⟨W0.heap.size, 11, none⟩ (.int .i64 5) (w.heap.size + 1) (show w.heap.size + 1 ≠ W0.heap.size by omega)).trans HQ2.out) HZ.out rfl (ak_all _) ?_))
        refine bodyPost_ret (results_cell1 Tryd.results56 _ _ (w.heap.size + 1) 86 (akC ({ (⟨⟨i0, i1, i2, i3, i4, i5, i6, i7, i8, true, i10⟩, 2⟩ : Ak) with s := 5 })) (0, 0) _ rfl (setRow_at ((Below.heap_setCell w2 ⟨W0.heap.size, 11, none⟩ (.int .i64 5) (w.heap.size + 1) (show w.heap.size + 1 ≠ W0.heap.size by omega)).trans HQ2.out)) Tryd.underlying86 rfl HZ.out) rfl ?_
        exact ⟨rfl, setRow_below ((HBZ.out.trans (HB2.out.mono HBZ.out.size)).setCell (p := ⟨W0.heap.size, 11, none⟩) (show w.heap.size ≤ W0.heap.size by omega) _) (by omega)⟩
      | false =>
        have er : r = ⟨⟨i0, i1, i2, i3, i4, i5, i6, i7, i8, false, i10⟩, 2⟩ := by rw [HR.out]; unfold tkF; rw [HX.out rfl, if_neg (fun e => by cases e.1)]
        clear HR
        subst er
        go_upto_region 3 with (fail)
        refine wp_region_lit ?_
        refine wpList_load_row rfl 67 (.tmp 3) rfl w.heap.size rfl 67 (alC ⟨i0, i1, i2, i3, i4, i5, i6, i7, i8, false, i10⟩) (0, 0) _ HRY.out Tryd.underlying67 rfl HZ7.out ?_
        try simp only [Act.put, List.setIfInBounds_toArray, List.set_cons_zero, List.set_cons_succ]
        refine wpList_buildE rfl 86 #[(0, .tmp 19), (1, .const (.int .i64 2))] rfl [(0, .agg (alC ⟨i0, i1, i2, i3, i4, i5, i6, i7, i8, false, i10⟩)), (1, .int .i64 2)] (by kernel_rfl) (akC ⟨⟨i0, i1, i2, i3, i4, i5, i6, i7, i8, false, i10⟩, 2⟩) (built86 ⟨i0, i1, i2, i3, i4, i5, i6, i7, i8, false, i10⟩ 2) ?_
        try simp only [Act.put, List.setIfInBounds_toArray, List.set_cons_zero, List.set_cons_succ]
        refine wpList_store_row rfl 86 (.tmp 5) (.tmp 20) rfl W0.heap.size (akC ⟨⟨i0, i1, i2, i3, i4, i5, i6, i7, i8, false, i10⟩, 2⟩) rfl rfl 86 #[.int .i64 a.al.id, .int .i64 a.al.jb, .int .i64 a.al.vr, .int .i64 a.al.gp, .int .i64 a.al.ix, .int .i64 a.al.nd, .int .i64 a.al.ep, .int .i64 a.al.c1, .int .i64 a.al.c2, .bool a.al.sp, .int .i64 a.al.st, .int .i64 a.s] HT.out HZ.out rfl (ak_all _) ?_
        try simp only [Act.put]
        obtain ⟨Z, hZ⟩ : ∃ y, y = Y.setRow W0.heap.size (akC ⟨⟨i0, i1, i2, i3, i4, i5, i6, i7, i8, false, i10⟩, 2⟩) := ⟨_, rfl⟩
        rw [← hZ]
        have HTZ : Hid (Z.heap[W0.heap.size]? = some (.cells (akC ⟨⟨i0, i1, i2, i3, i4, i5, i6, i7, i8, false, i10⟩, 2⟩) 86 (0, 0))) := hidOf (by rw [hZ]; exact setRow_at HT.out)
        have HRZ : Hid (Z.heap[w.heap.size]? = some (.cells #[.int .i64 i0, .int .i64 i1, .int .i64 i2, .int .i64 i3, .int .i64 i4, .int .i64 i5, .int .i64 i6, .int .i64 i7, .int .i64 i8, .bool false, .int .i64 i10] 67 (0, 0))) := hidOf (by rw [hZ]; exact (setRow_ne (by omega)).trans HRY.out)
        have HQZ : Hid (Z.heap[w.heap.size + 1]? = some (.cells #[.int .i64 0, .int .i64 0, .int .i64 0, .int .i64 0, .int .i64 0, .int .i64 0, .int .i64 0, .int .i64 0, .int .i64 0, .bool false, .int .i64 0, .int .i64 0] 86 (0, 0))) := hidOf (by rw [hZ]; exact (setRow_ne (by omega)).trans HQY.out)
        have HBZ : Hid (Below w.heap.size w Z) := hidOf (by rw [hZ]; exact setRow_below HBY.out (by omega))
        clear hZ
        have z0Z : Z.cell? ⟨W0.heap.size, 0, none⟩ = some (.int .i64 i0) := (cell_of_row _ _ 0 _ 86 (0, 0) HTZ.out).trans rfl
        have z1Z : Z.cell? ⟨W0.heap.size, 1, none⟩ = some (.int .i64 i1) := (cell_of_row _ _ 1 _ 86 (0, 0) HTZ.out).trans rfl
        have z2Z : Z.cell? ⟨W0.heap.size, 2, none⟩ = some (.int .i64 i2) := (cell_of_row _ _ 2 _ 86 (0, 0) HTZ.out).trans rfl
        have z3Z : Z.cell? ⟨W0.heap.size, 3, none⟩ = some (.int .i64 i3) := (cell_of_row _ _ 3 _ 86 (0, 0) HTZ.out).trans rfl
        have z4Z : Z.cell? ⟨W0.heap.size, 4, none⟩ = some (.int .i64 i4) := (cell_of_row _ _ 4 _ 86 (0, 0) HTZ.out).trans rfl
        have z5Z : Z.cell? ⟨W0.heap.size, 5, none⟩ = some (.int .i64 i5) := (cell_of_row _ _ 5 _ 86 (0, 0) HTZ.out).trans rfl
        have z6Z : Z.cell? ⟨W0.heap.size, 6, none⟩ = some (.int .i64 i6) := (cell_of_row _ _ 6 _ 86 (0, 0) HTZ.out).trans rfl
        have z7Z : Z.cell? ⟨W0.heap.size, 7, none⟩ = some (.int .i64 i7) := (cell_of_row _ _ 7 _ 86 (0, 0) HTZ.out).trans rfl
        have z8Z : Z.cell? ⟨W0.heap.size, 8, none⟩ = some (.int .i64 i8) := (cell_of_row _ _ 8 _ 86 (0, 0) HTZ.out).trans rfl
        have z9Z : Z.cell? ⟨W0.heap.size, 9, none⟩ = some (.bool false) := (cell_of_row _ _ 9 _ 86 (0, 0) HTZ.out).trans rfl
        have z10Z : Z.cell? ⟨W0.heap.size, 10, none⟩ = some (.int .i64 i10) := (cell_of_row _ _ 10 _ 86 (0, 0) HTZ.out).trans rfl
        have z11Z : Z.cell? ⟨W0.heap.size, 11, none⟩ = some (.int .i64 2) := (cell_of_row _ _ 11 _ 86 (0, 0) HTZ.out).trans rfl
        have s9Z : Z.cell? ⟨w.heap.size, 9, none⟩ = some (.bool false) := (cell_of_row _ _ 9 _ 67 (0, 0) HRZ.out).trans rfl
        go_wp2_with (first | (refine wpList_store_row rfl 86 (.tmp 4) (.tmp 28) rfl (w.heap.size + 1) (akC (⟨⟨i0, i1, i2, i3, i4, i5, i6, i7, i8, false, i10⟩, 2⟩)) rfl rfl 86 #[.int .i64 0, .int .i64 0, .int .i64 0, .int .i64 0, .int .i64 0, .int .i64 0, .int .i64 0, .int .i64 0, .int .i64 0, .bool false, .int .i64 0, .int .i64 0] (HQZ.out) HZ.out rfl (ak_all _) ?_))
        refine bodyPost_ret (results_cell1 Tryd.results56 _ _ (w.heap.size + 1) 86 (akC (⟨⟨i0, i1, i2, i3, i4, i5, i6, i7, i8, false, i10⟩, 2⟩)) (0, 0) _ rfl (setRow_at (HQZ.out)) Tryd.underlying86 rfl HZ.out) rfl ?_
        exact ⟨rfl, setRow_below (HBZ.out) (by omega)⟩
    | true =>
      cases sp with
      | true =>
        by_cases e2 : a.s = 2
        · have ed : decide ((a : Ak).s = 2) = true := by simp [e2]
          obtain rfl : r = { (a : Ak) with s := 5 } := by rw [HR.out]; unfold tkF; rw [HY.out rfl, if_pos ⟨rfl, e2⟩]
          clear e2
          go_wp2_with (first | (go_at_call 22; go_must (refine (runs_any (a) _).mono ?_; rintro e w2 ⟨rfl, hb2⟩; have HB2 := hidOf hb2; have HT2 : Hid (w2.heap[W0.heap.size]? = some (.cells (akC (a)) 86 (0, 0))) := hidOf ((hb2.block _ (heap_lt HT.out)).trans HT.out); have HQ2 : Hid (w2.heap[w.heap.size + 1]? = some (.cells #[.int .i64 0, .int .i64 0, .int .i64 0, .int .i64 0, .int .i64 0, .int .i64 0, .int .i64 0, .int .i64 0, .int .i64 0, .bool false, .int .i64 0, .int .i64 0] 86 (0, 0))) := hidOf ((hb2.block _ (heap_lt HQY.out)).trans HQY.out); have fz2 : ∀ j, w2.frozen? ⟨W0.heap.size, j, none⟩ = false := (fun j => (by simp [World.frozen?, HT2.out])); have l2 : W0.heap.size < w2.heap.size := heap_lt HT2.out; clear hb2; have y0 : w2.cell? ⟨W0.heap.size, 0, none⟩ = some (.int .i64 a.al.id) := (cell_of_row _ _ 0 _ 86 (0, 0) HT2.out).trans rfl; have y1 : w2.cell? ⟨W0.heap.size, 1, none⟩ = some (.int .i64 a.al.jb) := (cell_of_row _ _ 1 _ 86 (0, 0) HT2.out).trans rfl; have y2 : w2.cell? ⟨W0.heap.size, 2, none⟩ = some (.int .i64 a.al.vr) := (cell_of_row _ _ 2 _ 86 (0, 0) HT2.out).trans rfl; have y3 : w2.cell? ⟨W0.heap.size, 3, none⟩ = some (.int .i64 a.al.gp) := (cell_of_row _ _ 3 _ 86 (0, 0) HT2.out).trans rfl; have y4 : w2.cell? ⟨W0.heap.size, 4, none⟩ = some (.int .i64 a.al.ix) := (cell_of_row _ _ 4 _ 86 (0, 0) HT2.out).trans rfl; have y5 : w2.cell? ⟨W0.heap.size, 5, none⟩ = some (.int .i64 a.al.nd) := (cell_of_row _ _ 5 _ 86 (0, 0) HT2.out).trans rfl; have y6 : w2.cell? ⟨W0.heap.size, 6, none⟩ = some (.int .i64 a.al.ep) := (cell_of_row _ _ 6 _ 86 (0, 0) HT2.out).trans rfl; have y7 : w2.cell? ⟨W0.heap.size, 7, none⟩ = some (.int .i64 a.al.c1) := (cell_of_row _ _ 7 _ 86 (0, 0) HT2.out).trans rfl; have y8 : w2.cell? ⟨W0.heap.size, 8, none⟩ = some (.int .i64 a.al.c2) := (cell_of_row _ _ 8 _ 86 (0, 0) HT2.out).trans rfl; have y9 : w2.cell? ⟨W0.heap.size, 9, none⟩ = some (.bool a.al.sp) := (cell_of_row _ _ 9 _ 86 (0, 0) HT2.out).trans rfl; have y10 : w2.cell? ⟨W0.heap.size, 10, none⟩ = some (.int .i64 a.al.st) := (cell_of_row _ _ 10 _ 86 (0, 0) HT2.out).trans rfl; have y11 : w2.cell? ⟨W0.heap.size, 11, none⟩ = some (.int .i64 a.s) := (cell_of_row _ _ 11 _ 86 (0, 0) HT2.out).trans rfl)) | (refine wpList_store_row rfl 86 (.tmp 4) (.tmp 28) rfl (w.heap.size + 1) (akC ({ (a : Ak) with s := 5 })) rfl rfl 86 #[.int .i64 0, .int .i64 0, .int .i64 0, .int .i64 0, .int .i64 0, .int .i64 0, .int .i64 0, .int .i64 0, .int .i64 0, .bool false, .int .i64 0, .int .i64 0] ((Below.heap_setCell w2 ⟨W0.heap.size, 11, none⟩ (.int .i64 5) (w.heap.size + 1) (show w.heap.size + 1 ≠ W0.heap.size by omega)).trans HQ2.out) HZ.out rfl (ak_all _) ?_))
          refine bodyPost_ret (results_cell1 Tryd.results56 _ _ (w.heap.size + 1) 86 (akC ({ (a : Ak) with s := 5 })) (0, 0) _ rfl (setRow_at ((Below.heap_setCell w2 ⟨W0.heap.size, 11, none⟩ (.int .i64 5) (w.heap.size + 1) (show w.heap.size + 1 ≠ W0.heap.size by omega)).trans HQ2.out)) Tryd.underlying86 rfl HZ.out) rfl ?_
          exact ⟨rfl, setRow_below ((HBY.out.trans (HB2.out.mono HBY.out.size)).setCell (p := ⟨W0.heap.size, 11, none⟩) (show w.heap.size ≤ W0.heap.size by omega) _) (by omega)⟩
        · have ed : decide ((a : Ak).s = 2) = false := by simp [e2]
          have er : r = a := by rw [HR.out]; unfold tkF; rw [HY.out rfl, if_neg (fun e => e2 e.2)]
          clear e2 HR
          subst er
          go_wp2_with (first | (go_at_call 22; go_must (refine (runs_any (r) _).mono ?_; rintro e w2 ⟨rfl, hb2⟩; have HB2 := hidOf hb2; have HT2 : Hid (w2.heap[W0.heap.size]? = some (.cells (akC (r)) 86 (0, 0))) := hidOf ((hb2.block _ (heap_lt HT.out)).trans HT.out); have HQ2 : Hid (w2.heap[w.heap.size + 1]? = some (.cells #[.int .i64 0, .int .i64 0, .int .i64 0, .int .i64 0, .int .i64 0, .int .i64 0, .int .i64 0, .int .i64 0, .int .i64 0, .bool false, .int .i64 0, .int .i64 0] 86 (0, 0))) := hidOf ((hb2.block _ (heap_lt HQY.out)).trans HQY.out); have fz2 : ∀ j, w2.frozen? ⟨W0.heap.size, j, none⟩ = false := (fun j => (by simp [World.frozen?, HT2.out])); have l2 : W0.heap.size < w2.heap.size := heap_lt HT2.out; clear hb2; have y0 : w2.cell? ⟨W0.heap.size, 0, none⟩ = some (.int .i64 r.al.id) := (cell_of_row _ _ 0 _ 86 (0, 0) HT2.out).trans rfl; have y1 : w2.cell? ⟨W0.heap.size, 1, none⟩ = some (.int .i64 r.al.jb) := (cell_of_row _ _ 1 _ 86 (0, 0) HT2.out).trans rfl; have y2 : w2.cell? ⟨W0.heap.size, 2, none⟩ = some (.int .i64 r.al.vr) := (cell_of_row _ _ 2 _ 86 (0, 0) HT2.out).trans rfl; have y3 : w2.cell? ⟨W0.heap.size, 3, none⟩ = some (.int .i64 r.al.gp) := (cell_of_row _ _ 3 _ 86 (0, 0) HT2.out).trans rfl; have y4 : w2.cell? ⟨W0.heap.size, 4, none⟩ = some (.int .i64 r.al.ix) := (cell_of_row _ _ 4 _ 86 (0, 0) HT2.out).trans rfl; have y5 : w2.cell? ⟨W0.heap.size, 5, none⟩ = some (.int .i64 r.al.nd) := (cell_of_row _ _ 5 _ 86 (0, 0) HT2.out).trans rfl; have y6 : w2.cell? ⟨W0.heap.size, 6, none⟩ = some (.int .i64 r.al.ep) := (cell_of_row _ _ 6 _ 86 (0, 0) HT2.out).trans rfl; have y7 : w2.cell? ⟨W0.heap.size, 7, none⟩ = some (.int .i64 r.al.c1) := (cell_of_row _ _ 7 _ 86 (0, 0) HT2.out).trans rfl; have y8 : w2.cell? ⟨W0.heap.size, 8, none⟩ = some (.int .i64 r.al.c2) := (cell_of_row _ _ 8 _ 86 (0, 0) HT2.out).trans rfl; have y9 : w2.cell? ⟨W0.heap.size, 9, none⟩ = some (.bool r.al.sp) := (cell_of_row _ _ 9 _ 86 (0, 0) HT2.out).trans rfl; have y10 : w2.cell? ⟨W0.heap.size, 10, none⟩ = some (.int .i64 r.al.st) := (cell_of_row _ _ 10 _ 86 (0, 0) HT2.out).trans rfl; have y11 : w2.cell? ⟨W0.heap.size, 11, none⟩ = some (.int .i64 r.s) := (cell_of_row _ _ 11 _ 86 (0, 0) HT2.out).trans rfl)) | (refine wpList_store_row rfl 86 (.tmp 4) (.tmp 28) rfl (w.heap.size + 1) (akC (r)) rfl rfl 86 #[.int .i64 0, .int .i64 0, .int .i64 0, .int .i64 0, .int .i64 0, .int .i64 0, .int .i64 0, .int .i64 0, .int .i64 0, .bool false, .int .i64 0, .int .i64 0] (HQ2.out) HZ.out rfl (ak_all _) ?_))
          refine bodyPost_ret (results_cell1 Tryd.results56 _ _ (w.heap.size + 1) 86 (akC (r)) (0, 0) _ rfl (setRow_at (HQ2.out)) Tryd.underlying86 rfl HZ.out) rfl ?_
          exact ⟨rfl, setRow_below ((HBY.out.trans (HB2.out.mono HBY.out.size))) (by omega)⟩
      | false =>
        have er : r = a := by rw [HR.out]; unfold tkF; rw [HY.out rfl, if_neg (fun e => by cases e.1)]
        clear HR
        subst er
        go_wp2_with (first | (refine wpList_store_row rfl 86 (.tmp 4) (.tmp 28) rfl (w.heap.size + 1) (akC (r)) rfl rfl 86 #[.int .i64 0, .int .i64 0, .int .i64 0, .int .i64 0, .int .i64 0, .int .i64 0, .int .i64 0, .int .i64 0, .int .i64 0, .bool false, .int .i64 0, .int .i64 0] (HQY.out) HZ.out rfl (ak_all _) ?_))
        refine bodyPost_ret (results_cell1 Tryd.results56 _ _ (w.heap.size + 1) 86 (akC (r)) (0, 0) _ rfl (setRow_at (HQY.out)) Tryd.underlying86 rfl HZ.out) rfl ?_
        exact ⟨rfl, setRow_below (HBY.out) (by omega)⟩
end Go.Proofs.YtkienmncifonnaaDoor
