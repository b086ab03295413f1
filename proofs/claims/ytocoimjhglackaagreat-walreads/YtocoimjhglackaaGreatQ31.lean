/- Wgd, Wge -/
import Derived.Test.YtocoimjhglackaaGreatQ30
set_option maxHeartbeats 8000000
set_option maxRecDepth 100000
namespace Go.Proofs.YtocoimjhglackaaGreat
section
open Go.RowKit Go.Maps
theorem yN7 (p cnt : Nat) (M : Md) (F : Nat -> Prop) (w : World) (h : Dsk w p M cnt F) : Calls Tryz.prog 17 #[.pointer (some ⟨p, 0, none⟩), .string lgB] w fun e w' => ∃ z, e = .returned (.tuple #[z, .int .i64 (if (M.files lgN).isSome = true then 0 else 12)]) /\ SlR w' z (cOf M.files lgN) /\ Frs w z /\ Below w.heap.size w w' := by
 obtain ⟨⟨bF, bD, DF, DD, dn, G, hd, _⟩, hM⟩ := h
 cases hf : M.files lgN with
 | none =>
  refine (xB4 lgB p cnt bF bD M DF DD dn G w hd zZ2 hf).mono ?_
  rintro e w' ⟨rfl, rfl⟩
  exact ⟨_, rfl, by unfold cOf; rw [hf]; exact SlR.nil _, (fun k hk => by cases hk), Below.refl _ _⟩
 | some d =>
  have hl : d.length <= 1048576 := by have := hM.files.1 lgN; unfold cOf at this; rw [hf] at this; exact this
  refine (xS3 lgB d p cnt bF bD M DF DD dn G w hd zZ2 hf hl).mono ?_
  rintro e w' ⟨z, rfl, h1, h2, h3⟩
  exact ⟨z, rfl, by unfold cOf; rw [hf]; exact h1, h2, h3⟩
theorem Dsk.lgl {w : World} {p : Nat} {M : Md} {cnt : Nat} {F : Nat -> Prop} (h : Dsk w p M cnt F) : (cOf M.files lgN).length <= 1048576 := h.2.files.1 lgN
theorem xH7 (q p cnt : Nat) (M : Md) (F : Nat -> Prop) (w : World) (h : Dsk w p M cnt F) (hq : w.cell? ⟨q, 0, none⟩ = some (.pointer (some ⟨p, 0, none⟩))) (_lq : q < w.heap.size) : Calls Tryz.prog 92 #[.pointer (some ⟨q, 0, none⟩)] w fun e w' => e = .returned (.int .i64 ((cOf M.files lgN).length : Nat)) /\ Below w.heap.size w w' := by
 have HR := zA0 (yN7 p cnt M F w h)
 clear h
 go_enter Tryz.func92, Tryz.ntmps92
 go_wp2_with fail
 refine Calls.mono HR.out ?_
 rintro e w1 ⟨z, rfl, h1, h2, h3⟩
 obtain ⟨za, zc, hz⟩ := yG2 h1
 subst hz
 have HB := zA0 h3
 clear h1 h2 h3 HR
 obtain ⟨zn, hzn⟩ : ∃ zn, zn = (cOf M.files lgN).length := ⟨_, rfl⟩
 rw [<- hzn]
 have HZ := zA0 hzn
 generalize (if (M.files lgN).isSome = true then (0 : Int) else 12) = ee
 clear hzn
 go_wp2
 go_ret
 exact ⟨by rw [<- HZ.out]; rfl, HB.out⟩
theorem zL8.form {w : World} {S : Nat -> Prop} {cs : List Value} {s : Sd} (h : zL8 w S cs s) : ∃ a n c a' n' c', cs = [.int .i64 s.t, .int .i64 s.v, .slice a n c, .int .i64 s.base, .slice a' n' c'] := by
 obtain ⟨sv, ev, rfl, h1, h2⟩ := h
 obtain ⟨a, n, c, rfl⟩ := h1.form
 obtain ⟨a', c', rfl, _⟩ := h2
 exact ⟨_, _, _, _, _, _, rfl⟩
def zN4 (M : Md) (mo nx : Sd) : List Ax := if 524288 < (cOf M.files lgN).length + (zE1 mo).length then wa (zE1 nx) else ad (zE1 mo)
theorem xB7 {w : World} {a : Option Addr} {n c : Nat} {l : List UInt8} (h : Own w (.slice a n c) l) : a = none -> l = [] := by
 rintro rfl
 rcases h with ⟨_, e⟩ | ⟨g, cap, cur, e, _⟩
 · exact e
 · cases e
theorem xB8 {w : World} {a : Option Addr} {n c B : Nat} {l : List UInt8} {F : Nat -> Prop} (h : Own w (.slice a n c) l) (hn : ∀ k, (Value.slice a n c).ownBlock = some k -> B <= k) (hF : ∀ k, F k -> k < B) : ∀ y, a = some y -> ¬ F y.block /\ y.block < w.heap.size := by
 rintro y rfl
 exact ⟨fun e => by have := hF _ e; have := hn _ rfl; omega, h.lt _ rfl⟩
theorem yH3 (q p cnt : Nat) (rf : Bool) (y0 y1 y2 y3 y4 : Value) (cm cn : List Value) (mo nx : Sd) (M : Md) (F : Nat -> Prop) (w : World) (h : Dsk w p M cnt F)
    (hq : w.heap[q]? = some (.cells #[.pointer (some ⟨p, 0, none⟩), .bool rf, y0, y1, y2, y3, y4] 98 (0, 0))) (nq : ¬ F q) (hm : zL8 w (fun k => k < w.heap.size) cm mo) (hx : zL8 w (fun k => k < w.heap.size) cn nx) (hfm : FrOk mo) (hfx : FrOk nx) (hnl : (zE1 nx).length <= 1048576) (hml : (zE1 mo).length <= 281474976710) (hfw : Fw M.files) (hc : cnt + 5 <= 2199023255552) :
    Calls Tryz.prog 60 #[.pointer (some ⟨q, 0, none⟩), .agg cm.toArray, .agg cn.toArray] w (DoP w q p cnt F (zN4 M mo nx) M) := by
 have lq := zA4 hq
 have hFl := h.flt
 obtain ⟨a1, b1, c1, d1, e1, f1, rfl⟩ := hm.form
 obtain ⟨a2, b2, c2, d2, e2, f2, rfl⟩ := hx.form
 obtain ⟨w2, hw2⟩ : ∃ w2, w2 = ((w.alloc (.cells #[.pointer (some ⟨q, 0, none⟩)] 29)).alloc (.cells #[.int .i64 mo.t, .int .i64 mo.v, .slice a1 b1 c1, .int .i64 mo.base, .slice d1 e1 f1] 94)).alloc (.cells #[.int .i64 nx.t, .int .i64 nx.v, .slice a2 b2 c2, .int .i64 nx.base, .slice d2 e2 f2] 94) := ⟨_, rfl⟩
 have hB2 : Below w.heap.size w w2 := by rw [hw2]; exact ((zB7 w _).alloc (by simp) _).alloc (by simp; omega) _
 have hs2 : w2.heap.size = w.heap.size + 3 := by rw [hw2]; simp
 have g0 : w2.heap[w.heap.size]? = some (.cells #[.pointer (some ⟨q, 0, none⟩)] 29 (0, 0)) := by rw [hw2]; exact (Below.heap_alloc _ _ _ (by simp; omega)).trans ((Below.heap_alloc _ _ _ (by simp)).trans (heap_alloc_new w _))
 have g1 : w2.heap[w.heap.size + 1]? = some (.cells #[.int .i64 mo.t, .int .i64 mo.v, .slice a1 b1 c1, .int .i64 mo.base, .slice d1 e1 f1] 94 (0, 0)) := by
  rw [hw2]
  refine (Below.heap_alloc _ _ _ (by simp)).trans ?_
  have := heap_alloc_new (w.alloc (.cells #[.pointer (some ⟨q, 0, none⟩)] 29)) (.cells #[.int .i64 mo.t, .int .i64 mo.v, .slice a1 b1 c1, .int .i64 mo.base, .slice d1 e1 f1] 94)
  rwa [World.size_alloc] at this
 have g2 : w2.heap[w.heap.size + 2]? = some (.cells #[.int .i64 nx.t, .int .i64 nx.v, .slice a2 b2 c2, .int .i64 nx.base, .slice d2 e2 f2] 94 (0, 0)) := by
  rw [hw2]
  have := heap_alloc_new ((w.alloc (.cells #[.pointer (some ⟨q, 0, none⟩)] 29)).alloc (.cells #[.int .i64 mo.t, .int .i64 mo.v, .slice a1 b1 c1, .int .i64 mo.base, .slice d1 e1 f1] 94)) (.cells #[.int .i64 nx.t, .int .i64 nx.v, .slice a2 b2 c2, .int .i64 nx.base, .slice d2 e2 f2] 94)
  rwa [World.size_alloc, World.size_alloc] at this
 have hmA : zG1 w2 (fun k => k < w.heap.size) (w.heap.size + 1) 0 mo := ⟨_, hm.kept hB2.size (fun k hk => hB2.block k hk) (fun k hk => hk), fun j v hv => by rw [Nat.zero_add, cell_of_row _ _ _ _ 94 (0, 0) g1]; simpa using hv⟩
 have hxA : zG1 w2 (fun k => k < w.heap.size) (w.heap.size + 2) 0 nx := ⟨_, hx.kept hB2.size (fun k hk => hB2.block k hk) (fun k hk => hk), fun j v hv => by rw [Nat.zero_add, cell_of_row _ _ _ _ 94 (0, 0) g2]; simpa using hv⟩
 have HFM := zA0 (yD2 (fun k => k < w.heap.size) (w.heap.size + 1) 0 mo w2 hmA (fun k hk => by omega) (by omega) hfm)
 have HXA := zA0 hxA
 have HFX := zA0 hfx
 have HNL := zA0 hnl
 have HML := zA0 hml
 have HFW := zA0 hfw
 have HC := zA0 hc
 have H := zA0 h
 have HQ := zA0 hq
 have NQ := zA0 nq
 have LQ := zA0 lq
 have HFL := zA0 hFl
 have HB2 := zA0 hB2
 have HS2 := zA0 hs2
 have C02 : Hid (w2.cell? ⟨w.heap.size, 0, none⟩ = some (.pointer (some ⟨q, 0, none⟩))) := zA0 (by rw [cell_of_row _ _ _ _ 29 (0, 0) g0]; rfl)
 have hlg := h.lgl
 have HW2 := zA0 hw2
 clear hm hx hfm hfx hnl hml hfw hc h hq nq lq hFl hB2 hs2 g0 g1 g2 hmA hxA hw2
 go_enter Tryz.func60, Tryz.ntmps60
 go_upto_region 1 with (fail)
 rw [<- HW2.out]
 clear HW2
 go_wp2_with fail
 refine Calls.mono HFM.out ?_
 rintro e w3x ⟨v3, rfl, ho3, hn3, hb3⟩
 obtain ⟨fa, fc, hv3, hbs3⟩ := ho3.form
 subst hv3
 obtain ⟨w3, hw3⟩ : ∃ w3, w3 = w3x.alloc (.cells #[.slice fa (zE1 mo).length fc] 22) := ⟨_, rfl⟩
 have hB3 : Below w3x.heap.size w3x w3 := by rw [hw3]; exact zB7 _ _
 have hB23 : Below w2.heap.size w2 w3 := hb3.trans (hB3.mono hb3.size)
 have hBw3 : Below w.heap.size w w3 := HB2.out.trans (hB23.mono HB2.out.size)
 have hs3 : w3.heap.size = w3x.heap.size + 1 := by rw [hw3]; simp
 have g7 : w3.heap[w3x.heap.size]? = some (.cells #[.slice fa (zE1 mo).length fc] 22 (0, 0)) := by rw [hw3]; exact heap_alloc_new _ _
 have C33 : Hid (w3.cell? ⟨w.heap.size, 0, none⟩ = some (.pointer (some ⟨q, 0, none⟩))) := zA0 ((hB23.cell (p := ⟨w.heap.size, 0, none⟩) (by have := HS2.out; show w.heap.size < _; omega)).trans C02.out)
 have C730 : w3.cell? ⟨w3x.heap.size, 0, none⟩ = some (.slice fa (zE1 mo).length fc) := by rw [cell_of_row _ _ _ _ 22 (0, 0) g7]; rfl
 have LC3 : Hid (w.heap.size < w3.heap.size) := zA0 (by have := HS2.out; have := hB23.size; omega)
 have LC7 : Hid (w3x.heap.size < w3.heap.size) := zA0 (by omega)
 have HQ3 := zA0 ((hBw3.block q LQ.out).trans HQ.out)
 have HD3 := zA0 (H.out.below hBw3)
 have HSZ := zA0 (xH7 q p cnt M F w3.drew HD3.out.drew (by have : w3.cell? ⟨q, 0, none⟩ = some (.pointer (some ⟨p, 0, none⟩)) := (by rw [cell_of_row _ _ _ _ 98 (0, 0) HQ3.out]; rfl); exact this) (zA4 HQ3.out))
 have HBS3 : Hid (Bs w3 fa (zE1 mo)) := zA0 ((hbs3 (by have := HML.out; omega)).grow hB3)
 have HO3 := zA0 ho3
 have HX3 := zA0 hb3.size
 have HN3 := zA0 hn3
 have HBW3 := zA0 hBw3
 have HXA3 := zA0 (HXA.out.kept (S' := fun k => k < w.heap.size) hB23.size (fun k hk => hB23.block k (by have := HS2.out; omega)) (fun k hk => hk) (hB23.block _ (by have := HS2.out; omega)))
 have HB23 := zA0 hB23
 have HML2 := HML.out
 have HAB3 : Hid (∀ y, fa = some y -> ¬ F y.block /\ y.block < w3.heap.size) := zA0 (fun y hy => by
  obtain ⟨u1, u2⟩ := xB8 (B := w2.heap.size) ho3 hn3 (F := F) (fun k hk => by have := HFL.out k hk; have := HS2.out; omega) y hy
  exact ⟨u1, by omega⟩)
 obtain ⟨fn, hfn⟩ : ∃ fn, fn = (zE1 mo).length := ⟨_, rfl⟩
 rw [<- hfn] at C730 HML2 ⊢
 rw [<- hfn] at hw3
 have C73 := zA0 C730
 have HFN := zA0 hfn
 have HW3 := zA0 hw3
 clear hB3 hb3 hB23 hBw3 hs3 g7 C730 ho3 hn3 hbs3 hfn hw3 HFM
 go_upto_region 2 with (fail)
 rw [<- HW3.out]
 clear HW3
 refine wp_region_held_drew (S := fun wz : World => wz.cell? ⟨w.heap.size, 0, none⟩ = some (.pointer (some ⟨q, 0, none⟩)) /\ wz.cell? ⟨w3x.heap.size, 0, none⟩ = some (.slice fa fn fc)) (by kernel_rfl) ⟨C33.out, C73.out⟩ (fun hHeld => ?_)
 refine wpAnyH_take (i := 0) (oi := { dst := some 9, op := Op.load 29 (Operand.tmp 3), type := 29, pos := "wal.go:94", after := #[], guard := none }) (v := .pointer (some ⟨q, 0, none⟩)) rfl (by kernel_rfl) (by kernel_rfl) (by kernel_rfl) (fun _ _ _ h => h) (Or.inl ⟨by rfl, ?_⟩) hHeld ?_
 · (intro w hSw; obtain ⟨s1, s2⟩ := hSw; go_simp)
 try simp only [Act.put, List.setIfInBounds_toArray, List.set_cons_zero, List.set_cons_succ]
 refine wpAnyH_take (i := 2) (oi := { dst := some 11, op := Op.load 22 (Operand.tmp 7), type := 22, pos := "wal.go:94", after := #[], guard := none }) (v := .slice fa fn fc) rfl (by kernel_rfl) (by kernel_rfl) (by kernel_rfl) (fun _ _ _ h => h) (Or.inl ⟨by rfl, ?_⟩) hHeld ?_
 · (intro w hSw; obtain ⟨s1, s2⟩ := hSw; go_simp)
 try simp only [Act.put, List.setIfInBounds_toArray, List.set_cons_zero, List.set_cons_succ]
 refine wpAnyH_take (i := 3) (oi := { dst := some 12, op := Op.call { callee := Callee.builtin Builtin.len, args := #[Operand.tmp 11], argTypes := #[22] }, type := 3, pos := "wal.go:94", after := #[{ on := 2, ground := Ground.data }], guard := none }) (v := .int .i64 (fn : Int)) rfl (by kernel_rfl) (by kernel_rfl) (by kernel_rfl) (fun _ _ _ h => h) (Or.inl ⟨by rfl, ?_⟩) hHeld ?_
 · (intro w hSw; (try dsimp only at hSw); go_simp)
 try simp only [Act.put, List.setIfInBounds_toArray, List.set_cons_zero, List.set_cons_succ]
 refine wpAnyH_ready (rs := [1]) (by kernel_rfl) (by simp) ?_
 refine AllReadyH.cons (o := { dst := some 10, op := Op.call { callee := Callee.value (Operand.func 92), args := #[Operand.tmp 9], argTypes := #[29] }, type := 3, pos := "wal.go:94", after := #[{ on := 0, ground := Ground.data }], guard := none }) rfl (fun K hK => ?_) AllReadyH.nil
 go_simp
 refine Calls.mono HSZ.out ?_
 rintro e w4 ⟨rfl, hb4⟩
 have HB4 : Hid (Below w3.heap.size w3 w4) := zA0 ⟨hb4.os, hb4.tape, hb4.output, hb4.size, hb4.block⟩
 have s4 : (fun wz : World => wz.cell? ⟨w.heap.size, 0, none⟩ = some (.pointer (some ⟨q, 0, none⟩)) /\ wz.cell? ⟨w3x.heap.size, 0, none⟩ = some (.slice fa fn fc)) w4 := ⟨(HB4.out.cell (p := ⟨w.heap.size, 0, none⟩) LC3.out).trans C33.out, (HB4.out.cell (p := ⟨w3x.heap.size, 0, none⟩) LC7.out).trans C73.out⟩
 clear hb4
 refine hK.out _ _ s4 (fun hHeld1 => ?_)
 clear hK K
 try simp only [Act.put, List.setIfInBounds_toArray, List.set_cons_zero, List.set_cons_succ]
 refine wpAnyH_take (i := 4) (oi := { dst := some 13, op := Op.binOp BinOp.add 3 (Operand.tmp 10) (Operand.tmp 12) 3, type := 3, pos := "wal.go:94", after := #[{ on := 1, ground := Ground.data }, { on := 3, ground := Ground.data }], guard := none }) (v := .int .i64 ((cOf M.files lgN).length + (fn : Int))) rfl (by kernel_rfl) (by kernel_rfl) (by kernel_rfl) (fun _ _ _ h => h) (Or.inl ⟨by rfl, ?_⟩) hHeld1 ?_
 · (intro w hSw; clear hSw; go_simp; all_goals (first | done | (rw [IntKind.wrap_i64]; omega)))
 try simp only [Act.put, List.setIfInBounds_toArray, List.set_cons_zero, List.set_cons_succ]
 refine wpAnyH_take (i := 5) (oi := { dst := some 14, op := Op.binOp BinOp.gtr 3 (Operand.tmp 13) (Operand.const (Value.int IntKind.i64 524288)) 3, type := 4, pos := "wal.go:94", after := #[{ on := 4, ground := Ground.data }], guard := none }) (v := .bool (decide (524288 < ((cOf M.files lgN).length : Int) + (fn : Int)))) rfl (by kernel_rfl) (by kernel_rfl) (by kernel_rfl) (fun _ _ _ h => h) (Or.inl ⟨by rfl, ?_⟩) hHeld1 ?_
 · (intro w hSw; (try dsimp only at hSw); go_simp)
 try simp only [Act.put, List.setIfInBounds_toArray, List.set_cons_zero, List.set_cons_succ]
 refine wpAnyH_done (by kernel_rfl) ?_ _
 have HB43 := HB4
 have hBw4 : Below w.heap.size w w4 := HBW3.out.trans (HB4.out.mono HBW3.out.size)
 have BW4 := zA0 hBw4
 have HQ4 := zA0 ((hBw4.block q LQ.out).trans HQ.out)
 have CQ4 : Hid (w4.cell? ⟨q, 0, none⟩ = some (.pointer (some ⟨p, 0, none⟩))) := zA0 (by rw [cell_of_row _ _ _ _ 98 (0, 0) HQ4.out]; rfl)
 have LQ4 := zA0 (zA4 HQ4.out)
 have HD4 := zA0 (H.out.below hBw4)
 have C34 : Hid (w4.cell? ⟨w.heap.size, 0, none⟩ = some (.pointer (some ⟨q, 0, none⟩))) := zA0 ((HB4.out.cell (p := ⟨w.heap.size, 0, none⟩) LC3.out).trans C33.out)
 have C74 : Hid (w4.cell? ⟨w3x.heap.size, 0, none⟩ = some (.slice fa fn fc)) := zA0 ((HB4.out.cell (p := ⟨w3x.heap.size, 0, none⟩) LC7.out).trans C73.out)
 have LC34 : Hid (w.heap.size < w4.heap.size) := zA0 (Nat.lt_of_lt_of_le LC3.out HB4.out.size)
 have LC74 : Hid (w3x.heap.size < w4.heap.size) := zA0 (Nat.lt_of_lt_of_le LC7.out HB4.out.size)
 have HXA4 := zA0 (HXA3.out.kept (S' := fun k => k < w.heap.size) HB4.out.size (fun k hk => HB4.out.block k (by have := LC3.out; omega)) (fun k hk => hk) (HB4.out.block _ (by have := HS2.out; have := HB23.out.size; omega)))
 have NC3 : Hid (¬ F w.heap.size /\ w.heap.size ≠ q) := zA0 ⟨fun e => by have := HFL.out _ e; omega, by have := LQ.out; omega⟩
 have HFL4 : Hid (∀ k, F k -> k < w4.heap.size) := zA0 (fun k hk => by have := HFL.out k hk; have := LC34.out; omega)
 clear hBw4
 by_cases hbig : 524288 < ((cOf M.files lgN).length : Int) + (fn : Int)
 · have HAC : Hid (zN4 M mo nx = wa (zE1 nx)) := zA0 (if_pos (by have := HFN.out; omega))
   rw [decide_eq_true hbig]
   have HFN := zA0 (yD2 (fun k => k < w.heap.size) (w.heap.size + 2) 0 nx w4.drew HXA4.out (fun k hk => by have := LC34.out; show k < w4.heap.size; omega) (by have := HS2.out; have := HB23.out.size; have := HB43.out.size; show w.heap.size + 2 < w4.heap.size; omega) HFX.out)
   have CQ5 : ∀ {w5 : World}, Below w4.heap.size w4 w5 -> w5.cell? ⟨q, 0, none⟩ = some (.pointer (some ⟨p, 0, none⟩)) /\ q < w5.heap.size /\ ¬ F q := fun hb => ⟨(hb.cell (p := ⟨q, 0, none⟩) LQ4.out).trans CQ4.out, Nat.lt_of_lt_of_le LQ4.out hb.size, NQ.out⟩
   clear hbig
   go_wp2
   refine wp_region_held_drew (S := fun wz : World => wz.cell? ⟨w.heap.size, 0, none⟩ = some (.pointer (some ⟨q, 0, none⟩))) (by kernel_rfl) C34.out (fun hHeld => ?_)
   refine wpAnyH_take (i := 0) (oi := { dst := some 15, op := Op.load 29 (Operand.tmp 3), type := 29, pos := "wal.go:95", after := #[], guard := none }) (v := .pointer (some ⟨q, 0, none⟩)) rfl (by kernel_rfl) (by kernel_rfl) (by kernel_rfl) (fun _ _ _ h => h) (Or.inl ⟨by rfl, ?_⟩) hHeld ?_
   · (intro w hSw; go_simp)
   try simp only [Act.put, List.setIfInBounds_toArray, List.set_cons_zero, List.set_cons_succ]
   refine wpAnyH_ready (rs := [1]) (by kernel_rfl) (by simp) ?_
   refine AllReadyH.cons (o := { dst := some 16, op := Op.call { callee := Callee.value (Operand.func 81), args := #[Operand.tmp 5], argTypes := #[94] }, type := 22, pos := "wal.go:95", after := #[], guard := none }) rfl (fun K hK => ?_) AllReadyH.nil
   go_simp
   refine Calls.mono HFN.out ?_
   rintro e w5 ⟨v5, rfl, ho5, hn5, hb5⟩
   have HB5 : Hid (Below w4.heap.size w4 w5) := zA0 ⟨hb5.os, hb5.tape, hb5.output, hb5.size, hb5.block⟩
   obtain ⟨ga, gc, hv5, hbs5⟩ := ho5.form
   subst hv5
   have HBS5 := zA0 (hbs5 (by have := HNL.out; omega))
   have HN5 := zA0 hn5
   have HO5 := zA0 ho5
   have s5 : (fun wz : World => wz.cell? ⟨w.heap.size, 0, none⟩ = some (.pointer (some ⟨q, 0, none⟩))) w5 := (HB5.out.cell (p := ⟨w.heap.size, 0, none⟩) LC34.out).trans C34.out
   have HWN := zA0 (zQ0 q p cnt rf y0 y1 y2 y3 y4 ga (zE1 nx).length gc (zE1 nx) M F w5 (HD4.out.below HB5.out) ((HB5.out.block q LQ4.out).trans HQ4.out) NQ.out rfl HBS5.out (xB7 HO5.out) (xB8 HO5.out HN5.out HFL4.out) HNL.out HFW.out HC.out)
   obtain ⟨gn, hgn⟩ : ∃ gn, gn = (zE1 nx).length := ⟨_, rfl⟩
   rw [<- hgn] at HWN ⊢
   clear hb5 ho5 hn5 hbs5 hgn
   refine hK.out _ _ s5 (fun hHeld1 => ?_)
   clear hK K
   try simp only [Act.put, List.setIfInBounds_toArray, List.set_cons_zero, List.set_cons_succ]
   refine wpAnyH_ready (rs := [2]) (by kernel_rfl) (by simp) ?_
   refine AllReadyH.cons (o := { dst := some 17, op := Op.call { callee := Callee.value (Operand.func 38), args := #[Operand.tmp 15, Operand.tmp 16], argTypes := #[29, 22] }, type := 25, pos := "wal.go:95", after := #[{ on := 0, ground := Ground.data }, { on := 1, ground := Ground.data }, { on := 1, ground := Ground.chain }], guard := none }) rfl (fun K hK => ?_) AllReadyH.nil
   go_simp
   refine Calls.mono HWN.out ?_
   rintro e w6 hdo
   obtain ⟨EE, hEE, e5⟩ := yA3 hdo (CQ5 HB5.out)
   subst hEE
   have HD := zA0 (hdo.pre (BW4.out.trans (HB5.out.mono BW4.out.size)))
   have s6 : (fun wz : World => wz.cell? ⟨w.heap.size, 0, none⟩ = some (.pointer (some ⟨q, 0, none⟩))) w6 := e5.2 _ (Nat.lt_of_lt_of_le LC34.out HB5.out.size) NC3.out s5
   clear hdo e5
   refine hK.out _ _ s6 (fun hHeld2 => ?_)
   clear hK K
   try simp only [Act.put, List.setIfInBounds_toArray, List.set_cons_zero, List.set_cons_succ]
   refine wpAnyH_take (i := 3) (oi := { dst := some 6, op := Op.assign (Operand.tmp 17), type := 25, pos := "wal.go:95", after := #[{ on := 2, ground := Ground.data }, { on := 2, ground := Ground.chain }, { on := 0, ground := Ground.phase }, { on := 1, ground := Ground.phase }, { on := 2, ground := Ground.phase }], guard := none }) (v := .int .i64 EE) rfl (by kernel_rfl) (by kernel_rfl) (by kernel_rfl) (fun _ _ _ h => h) (Or.inl ⟨by rfl, ?_⟩) hHeld2 ?_
   · (intro w hSw; (try dsimp only at hSw); go_simp)
   try simp only [Act.put, List.setIfInBounds_toArray, List.set_cons_zero, List.set_cons_succ]
   refine wpAnyH_done (by kernel_rfl) ?_ _
   go_wp2
   go_ret
   rw [HAC.out]
   exact HD.out
 · have HAC : Hid (zN4 M mo nx = ad (zE1 mo)) := zA0 (if_neg (by have := HFN.out; omega))
   rw [decide_eq_false hbig]
   have hB7 : Below w4.heap.size w4 (w4.drew.alloc (.cells #[.func (.func 93) #[] #[.pointer (some ⟨w.heap.size, 0, none⟩), .pointer (some ⟨w3x.heap.size, 0, none⟩)], .func (.func 11) #[.pointer (some ⟨p, 0, none⟩)] #[]] 27)) := (Below.refl _ w4).drew.alloc (Nat.le_refl _) _
   have BB7 := zA0 (BW4.out.trans (hB7.mono BW4.out.size))
   have C37 : Hid (((w4.drew.alloc (.cells #[.func (.func 93) #[] #[.pointer (some ⟨w.heap.size, 0, none⟩), .pointer (some ⟨w3x.heap.size, 0, none⟩)], .func (.func 11) #[.pointer (some ⟨p, 0, none⟩)] #[]] 27))).cell? ⟨w.heap.size, 0, none⟩ = some (.pointer (some ⟨q, 0, none⟩))) := zA0 ((hB7.cell (p := ⟨w.heap.size, 0, none⟩) LC34.out).trans C34.out)
   have C77 : ((w4.drew.alloc (.cells #[.func (.func 93) #[] #[.pointer (some ⟨w.heap.size, 0, none⟩), .pointer (some ⟨w3x.heap.size, 0, none⟩)], .func (.func 11) #[.pointer (some ⟨p, 0, none⟩)] #[]] 27))).cell? ⟨w3x.heap.size, 0, none⟩ = some (.slice fa fn fc) := (hB7.cell (p := ⟨w3x.heap.size, 0, none⟩) LC74.out).trans C74.out
   have CQ7 : Hid (((w4.drew.alloc (.cells #[.func (.func 93) #[] #[.pointer (some ⟨w.heap.size, 0, none⟩), .pointer (some ⟨w3x.heap.size, 0, none⟩)], .func (.func 11) #[.pointer (some ⟨p, 0, none⟩)] #[]] 27))).cell? ⟨q, 0, none⟩ = some (.pointer (some ⟨p, 0, none⟩)) /\ q < ((w4.drew.alloc (.cells #[.func (.func 93) #[] #[.pointer (some ⟨w.heap.size, 0, none⟩), .pointer (some ⟨w3x.heap.size, 0, none⟩)], .func (.func 11) #[.pointer (some ⟨p, 0, none⟩)] #[]] 27))).heap.size /\ ¬ F q) := zA0 ⟨(hB7.cell (p := ⟨q, 0, none⟩) LQ4.out).trans CQ4.out, Nat.lt_of_lt_of_le LQ4.out hB7.size, NQ.out⟩
   have LC37 : Hid (w.heap.size < ((w4.drew.alloc (.cells #[.func (.func 93) #[] #[.pointer (some ⟨w.heap.size, 0, none⟩), .pointer (some ⟨w3x.heap.size, 0, none⟩)], .func (.func 11) #[.pointer (some ⟨p, 0, none⟩)] #[]] 27))).heap.size) := zA0 (Nat.lt_of_lt_of_le LC34.out hB7.size)
   have g9 : ((w4.drew.alloc (.cells #[.func (.func 93) #[] #[.pointer (some ⟨w.heap.size, 0, none⟩), .pointer (some ⟨w3x.heap.size, 0, none⟩)], .func (.func 11) #[.pointer (some ⟨p, 0, none⟩)] #[]] 27))).heap[w4.heap.size]? = some (.cells #[.func (.func 93) #[] #[.pointer (some ⟨w.heap.size, 0, none⟩), .pointer (some ⟨w3x.heap.size, 0, none⟩)], .func (.func 11) #[.pointer (some ⟨p, 0, none⟩)] #[]] 27 (0, 0)) := heap_alloc_new w4.drew _
   have l9 : w4.heap.size < ((w4.drew.alloc (.cells #[.func (.func 93) #[] #[.pointer (some ⟨w.heap.size, 0, none⟩), .pointer (some ⟨w3x.heap.size, 0, none⟩)], .func (.func 11) #[.pointer (some ⟨p, 0, none⟩)] #[]] 27))).heap.size := by simp
   have HDO := zA0 (xP1 q p cnt w4.heap.size rf y0 y1 y2 y3 y4 (ad (zE1 mo)) [.func (.func 93) #[] #[.pointer (some ⟨w.heap.size, 0, none⟩), .pointer (some ⟨w3x.heap.size, 0, none⟩)], .func (.func 11) #[.pointer (some ⟨p, 0, none⟩)] #[]] 2 M F (w4.drew.alloc (.cells #[.func (.func 93) #[] #[.pointer (some ⟨w.heap.size, 0, none⟩), .pointer (some ⟨w3x.heap.size, 0, none⟩)], .func (.func 11) #[.pointer (some ⟨p, 0, none⟩)] #[]] 27)) (HD4.out.below hB7) ((hB7.block q LQ4.out).trans HQ4.out) NQ.out rfl rfl (fun j v hv => by rw [Nat.zero_add, cell_of_row _ _ _ _ 27 (0, 0) g9]; simpa using hv) l9 (fun e => by have := HFL4.out _ e; omega)
    (fun i v x hv hx => by
     match i, hv, hx with
     | 0, hv, hx =>
      cases hv; cases hx
      refine ⟨_, _, fa, fc, rfl, C37.out, LC37.out, NC3.out.1, by rw [<- HFN.out]; exact C77, Nat.lt_of_lt_of_le LC74.out hB7.size, fun e => ?_, ((HBS3.out.grow HB43.out)).grow hB7, xB7 HO3.out, fun y hy => ⟨(HAB3.out y hy).1, Nat.lt_of_lt_of_le (Nat.lt_of_lt_of_le (HAB3.out y hy).2 HB43.out.size) hB7.size⟩⟩
      have := HFL.out _ e
      have := HS2.out
      have := HB23.out.size
      have := HX3.out
      omega
     | 1, hv, hx => cases hv; cases hx; rfl
     | k + 2, hv, hx => simp [ad] at hx)
    (fun k => HFW.out.runT _ k) (kG3 (by have := HFN.out; omega)) (by have := HC.out; simp [ad]; omega) (by simp [ad]))
   clear hbig hB7 C77 g9 l9
   go_wp2
   refine wp_region_held_drew (S := fun wz : World => wz.cell? ⟨w.heap.size, 0, none⟩ = some (.pointer (some ⟨q, 0, none⟩)) /\ wz.cell? ⟨q, 0, none⟩ = some (.pointer (some ⟨p, 0, none⟩))) (by kernel_rfl) ⟨C34.out, CQ4.out⟩ (fun hHeld => ?_)
   refine wpAnyH_take (i := 0) (oi := { dst := some 18, op := Op.load 29 (Operand.tmp 3), type := 29, pos := "wal.go:97", after := #[], guard := none }) (v := .pointer (some ⟨q, 0, none⟩)) rfl (by kernel_rfl) (by kernel_rfl) (by kernel_rfl) (fun _ _ _ h => h) (Or.inl ⟨by rfl, ?_⟩) hHeld ?_
   · (intro w hSw; obtain ⟨s1, s2⟩ := hSw; go_simp)
   try simp only [Act.put, List.setIfInBounds_toArray, List.set_cons_zero, List.set_cons_succ]
   refine wpAnyH_take (i := 1) (oi := { dst := some 19, op := Op.makeFunc (Fn.func 93) #[] #[Operand.tmp 3, Operand.tmp 7], type := 27, pos := "wal.go:97", after := #[], guard := none }) (v := .func (.func 93) #[] #[.pointer (some ⟨w.heap.size, 0, none⟩), .pointer (some ⟨w3x.heap.size, 0, none⟩)]) rfl (by kernel_rfl) (by kernel_rfl) (by kernel_rfl) (fun _ _ _ h => h) (Or.inl ⟨by rfl, ?_⟩) hHeld ?_
   · (intro w hSw; (try dsimp only at hSw); go_simp)
   try simp only [Act.put, List.setIfInBounds_toArray, List.set_cons_zero, List.set_cons_succ]
   refine wpAnyH_take (i := 2) (oi := { dst := some 20, op := Op.load 29 (Operand.tmp 3), type := 29, pos := "wal.go:97", after := #[], guard := none }) (v := .pointer (some ⟨q, 0, none⟩)) rfl (by kernel_rfl) (by kernel_rfl) (by kernel_rfl) (fun _ _ _ h => h) (Or.inl ⟨by rfl, ?_⟩) hHeld ?_
   · (intro w hSw; obtain ⟨s1, s2⟩ := hSw; go_simp)
   try simp only [Act.put, List.setIfInBounds_toArray, List.set_cons_zero, List.set_cons_succ]
   refine wpAnyH_take (i := 3) (oi := { dst := some 21, op := Op.nilCheck (Operand.tmp 20), type := 0, pos := "wal.go:97", after := #[{ on := 2, ground := Ground.data }], guard := none }) (v := .pointer (some ⟨q, 0, none⟩)) rfl (by kernel_rfl) (by kernel_rfl) (by kernel_rfl) (fun _ _ _ h => h) (Or.inl ⟨by rfl, ?_⟩) hHeld ?_
   · (intro w hSw; (try dsimp only at hSw); go_simp)
   try simp only [Act.put, List.setIfInBounds_toArray, List.set_cons_zero, List.set_cons_succ]
   refine wpAnyH_take (i := 4) (oi := { dst := some 22, op := Op.fieldAddr 98 (Operand.tmp 21) 0, type := 0, pos := "wal.go:97", after := #[{ on := 3, ground := Ground.data }], guard := none }) (v := .pointer (some ⟨q, 0, none⟩)) rfl (by kernel_rfl) (by kernel_rfl) (by kernel_rfl) (fun _ _ _ h => h) (Or.inl ⟨by rfl, ?_⟩) hHeld ?_
   · (intro w hSw; (try dsimp only at hSw); go_simp)
   try simp only [Act.put, List.setIfInBounds_toArray, List.set_cons_zero, List.set_cons_succ]
   refine wpAnyH_take (i := 5) (oi := { dst := some 23, op := Op.load 23 (Operand.tmp 22), type := 23, pos := "wal.go:97", after := #[{ on := 4, ground := Ground.data }], guard := none }) (v := .pointer (some ⟨p, 0, none⟩)) rfl (by kernel_rfl) (by kernel_rfl) (by kernel_rfl) (fun _ _ _ h => h) (Or.inl ⟨by rfl, ?_⟩) hHeld ?_
   · (intro w hSw; obtain ⟨s1, s2⟩ := hSw; go_simp)
   try simp only [Act.put, List.setIfInBounds_toArray, List.set_cons_zero, List.set_cons_succ]
   refine wpAnyH_take (i := 6) (oi := { dst := some 24, op := Op.makeFunc (Fn.func 11) #[Operand.tmp 23] #[], type := 27, pos := "wal.go:97", after := #[{ on := 5, ground := Ground.data }], guard := none }) (v := .func (.func 11) #[.pointer (some ⟨p, 0, none⟩)] #[]) rfl (by kernel_rfl) (by kernel_rfl) (by kernel_rfl) (fun _ _ _ h => h) (Or.inl ⟨by rfl, ?_⟩) hHeld ?_
   · (intro w hSw; (try dsimp only at hSw); go_simp)
   try simp only [Act.put, List.setIfInBounds_toArray, List.set_cons_zero, List.set_cons_succ]
   refine wpAnyH_ready (rs := [7]) (by kernel_rfl) (by simp) ?_
   refine AllReadyH.cons (o := { dst := some 25, op := Op.buildSlice 155 2 #[(0, Operand.tmp 19), (1, Operand.tmp 24)], type := 155, pos := "wal.go:97", after := #[{ on := 1, ground := Ground.data }, { on := 6, ground := Ground.data }], guard := none }) rfl (fun K hK => ?_) AllReadyH.nil
   go_simp
   have s4 : (fun wz : World => wz.cell? ⟨w.heap.size, 0, none⟩ = some (.pointer (some ⟨q, 0, none⟩)) /\ wz.cell? ⟨q, 0, none⟩ = some (.pointer (some ⟨p, 0, none⟩))) (w4.drew.alloc (.cells #[.func (.func 93) #[] #[.pointer (some ⟨w.heap.size, 0, none⟩), .pointer (some ⟨w3x.heap.size, 0, none⟩)], .func (.func 11) #[.pointer (some ⟨p, 0, none⟩)] #[]] 27)) := ⟨C37.out, CQ7.out.1⟩
   refine hK.out _ _ s4 (fun hHeld1 => ?_)
   clear hK K
   try simp only [Act.put, List.setIfInBounds_toArray, List.set_cons_zero, List.set_cons_succ]
   refine wpAnyH_ready (rs := [8]) (by kernel_rfl) (by simp) ?_
   refine AllReadyH.cons (o := { dst := some 26, op := Op.call { callee := Callee.value (Operand.func 65), args := #[Operand.tmp 18, Operand.tmp 25], argTypes := #[29, 155] }, type := 25, pos := "wal.go:97", after := #[{ on := 0, ground := Ground.data }, { on := 7, ground := Ground.data }], guard := none }) rfl (fun K hK => ?_) AllReadyH.nil
   go_simp
   refine Calls.mono HDO.out ?_
   rintro e w8 hdo
   obtain ⟨EE, hEE, e5⟩ := yA3 hdo CQ7.out
   subst hEE
   have HD := zA0 (hdo.pre BB7.out)
   have s6 : (fun wz : World => wz.cell? ⟨w.heap.size, 0, none⟩ = some (.pointer (some ⟨q, 0, none⟩)) /\ wz.cell? ⟨q, 0, none⟩ = some (.pointer (some ⟨p, 0, none⟩))) w8 := ⟨e5.2 _ LC37.out NC3.out C37.out, e5.1⟩
   clear hdo e5
   refine hK.out _ _ s6 (fun hHeld2 => ?_)
   clear hK K
   try simp only [Act.put, List.setIfInBounds_toArray, List.set_cons_zero, List.set_cons_succ]
   refine wpAnyH_take (i := 9) (oi := { dst := some 6, op := Op.assign (Operand.tmp 26), type := 25, pos := "wal.go:97", after := #[{ on := 8, ground := Ground.data }, { on := 8, ground := Ground.chain }, { on := 0, ground := Ground.phase }, { on := 1, ground := Ground.phase }, { on := 2, ground := Ground.phase }, { on := 3, ground := Ground.phase }, { on := 4, ground := Ground.phase }, { on := 5, ground := Ground.phase }, { on := 6, ground := Ground.phase }, { on := 7, ground := Ground.phase }, { on := 8, ground := Ground.phase }], guard := none }) (v := .int .i64 EE) rfl (by kernel_rfl) (by kernel_rfl) (by kernel_rfl) (fun _ _ _ h => h) (Or.inl ⟨by rfl, ?_⟩) hHeld2 ?_
   · (intro w hSw; (try dsimp only at hSw); go_simp)
   try simp only [Act.put, List.setIfInBounds_toArray, List.set_cons_zero, List.set_cons_succ]
   refine wpAnyH_done (by kernel_rfl) ?_ _
   go_wp2
   go_ret
   rw [HAC.out]
   exact HD.out
end
section
open Go.RowKit Go.Maps
def Wb (w : World) (q p : Nat) (rf : Bool) (m : Sd) (sv ev : Value) : Prop := w.heap[q]? = some (.cells #[.pointer (some ⟨p, 0, none⟩), .bool rf, .int .i64 m.t, .int .i64 m.v, sv, .int .i64 m.base, ev] 98 (0, 0))
def Sw (w : World) (F : Nat -> Prop) (q : Nat) : Nat -> Prop := fun k => k < w.heap.size /\ ¬ F k /\ k ≠ q
structure WalR (w : World) (q p : Nat) (M : Md) (cnt : Nat) (F : Nat -> Prop) (m : Sd) (rf : Bool) : Prop where
 blk : ∃ sv ev, Wb w q p rf m sv ev /\ SnV w (Sw w F q) sv m.sn /\ RowB w (Sw w F q) ev m.bs
 dsk : Dsk w p M cnt F
 nq : ¬ F q
 okd : Okd m
 len : m.bs.length <= 2097152
theorem Wb.cells {w : World} {q p : Nat} {rf : Bool} {m : Sd} {sv ev : Value} (h : Wb w q p rf m sv ev) : w.cell? ⟨q, 0, none⟩ = some (.pointer (some ⟨p, 0, none⟩)) /\ w.cell? ⟨q, 1, none⟩ = some (.bool rf) /\ w.cell? ⟨q, 2, none⟩ = some (.int .i64 m.t) /\ w.cell? ⟨q, 3, none⟩ = some (.int .i64 m.v) /\ w.cell? ⟨q, 4, none⟩ = some sv /\ w.cell? ⟨q, 5, none⟩ = some (.int .i64 m.base) /\ w.cell? ⟨q, 6, none⟩ = some ev /\ q < w.heap.size /\ ∀ o, w.frozen? ⟨q, o, none⟩ = false := by
 refine ⟨?_, ?_, ?_, ?_, ?_, ?_, ?_, zA4 h, fun o => by simp [World.frozen?, show w.heap[q]? = _ from h]⟩ <;> rw [cell_of_row w q _ _ 98 (0, 0) h] <;> rfl
theorem Wb.at {w : World} {S : Nat -> Prop} {q p : Nat} {rf : Bool} {m : Sd} {sv ev : Value} (h : Wb w q p rf m sv ev) (h1 : SnV w S sv m.sn) (h2 : RowB w S ev m.bs) : zG1 w S q 2 m := by
 obtain ⟨_, _, c2, c3, c4, c5, c6, _⟩ := h.cells
 refine ⟨_, ⟨sv, ev, rfl, h1, h2⟩, fun j v hv => ?_⟩
 match j, hv with
 | 0, hv => cases hv; exact c2
 | 1, hv => cases hv; exact c3
 | 2, hv => cases hv; exact c4
 | 3, hv => cases hv; exact c5
 | 4, hv => cases hv; exact c6
 | j + 5, hv => simp at hv
theorem WalR.at {w : World} {q p : Nat} {M : Md} {cnt : Nat} {F : Nat -> Prop} {m : Sd} {rf : Bool} (h : WalR w q p M cnt F m rf) : zG1 w (Sw w F q) q 2 m := by
 obtain ⟨sv, ev, h1, h2, h3⟩ := h.blk
 exact h1.at h2 h3
theorem WalR.lq {w : World} {q p : Nat} {M : Md} {cnt : Nat} {F : Nat -> Prop} {m : Sd} {rf : Bool} (h : WalR w q p M cnt F m rf) : q < w.heap.size := by
 obtain ⟨sv, ev, h1, _⟩ := h.blk
 exact zA4 h1
theorem WalR.below {w w' : World} {q p : Nat} {M : Md} {cnt : Nat} {F : Nat -> Prop} {m : Sd} {rf : Bool} (h : WalR w q p M cnt F m rf) (hb : Below w.heap.size w w') : WalR w' q p M cnt F m rf := by
 obtain ⟨sv, ev, h1, h2, h3⟩ := h.blk
 have hS : ∀ k, Sw w F q k -> Sw w' F q k := fun k hk => ⟨Nat.lt_of_lt_of_le hk.1 hb.size, hk.2.1, hk.2.2⟩
 exact ⟨⟨sv, ev, (hb.block q (zA4 h1)).trans h1, h2.kept (fun k hk => hb.block k hk.1) hS, h3.kept hb.size (fun k hk => hb.block k hk.1) hS⟩, h.dsk.below hb, h.nq, h.okd, h.len⟩
theorem yL6 (q p cnt : Nat) (M : Md) (F : Nat -> Prop) (m : Sd) (rf : Bool) (w : World) (h : WalR w q p M cnt F m rf) : Calls Tryz.prog 20 #[.pointer (some ⟨q, 0, none⟩)] w (SvP w m) := by
 have lq := h.lq
 have hB := zB7 w (.cells Z39 39)
 have hat : zG1 (w.alloc (.cells Z39 39)) (fun k => k < w.heap.size) q 2 m := h.at.kept hB.size (fun k hk => hB.block k hk.1) (fun k hk => hk.1) (hB.block q lq)
 have HSV := zA0 (xA7 (fun k => k < w.heap.size) q 2 m (w.alloc (.cells Z39 39)) hat (fun k hk => by simp; omega) (by simp; omega) h.okd (by have := h.len; omega))
 clear hat hB h
 go_enter Tryz.func20, Tryz.ntmps20
 go_wp2_with fail
 refine Calls.mono HSV.out ?_
 rintro e w1 ⟨cs, rfl, hrep, hb⟩
 have hcl : cs.toArray.size = Z39.size := by rw [List.size_toArray, hrep.len]; rfl
 have HCS := zA0 hcl
 have HCO : Hid (cs.toArray.all (·.oneCell') = true) := hrep.all
 have HCI : Hid ((Tryz.prog.info? 39).map (·.size) = some cs.toArray.size) := by show _ = _; rw [hcl]; exact zD3
 have HG : Hid (w1.heap[w.heap.size]? = some (.cells Z39 39 (0, 0))) := zA0 ((hb.block _ (by simp)).trans (heap_alloc_new w _))
 have HREP := zA0 hrep
 have HB := zA0 hb
 clear hrep hb hcl HSV
 go_wp2_with (refine zA7 rfl 39 (.tmp 2) (.tmp 6) rfl w.heap.size cs.toArray rfl rfl 39 Z39 HG.out HCI.out HCS.out.symm HCO.out ?nz)
 case nz =>
  intro w9 hw9h
  have hw9 := hw9h.out
  have g9 : Hid (w9.heap[w.heap.size]? = some (.cells cs.toArray 39 (0, 0))) := zA0 (by rw [hw9]; exact setRow_heap _ _ _ _ 39 _ HG.out)
  have k9 : ∀ j, j ≠ w.heap.size -> w9.heap[j]? = w1.heap[j]? := fun j hj => by rw [hw9]; exact setRow_other _ _ _ _ hj
  have s9 : w9.heap.size = w1.heap.size := by rw [hw9]; simp [World.setRow]
  have b9 : Below w.heap.size w1 w9 := by rw [hw9]; exact ⟨rfl, rfl, rfl, by simp [World.setRow], fun k hk => setRow_other _ _ _ _ (by omega)⟩
  have HREP9 : Hid (Rep w9 (NBr w.heap.size w9) zC6 cs (dec m)) := zA0 (HREP.out.keptN (by rw [s9]; exact Nat.le_refl _) (fun j h1 h2 => k9 j (by simp at h1; omega)) (by simp))
  have HB9 := zA0 (((zB7 w (.cells Z39 39)).trans (HB.out.mono (by simp))).trans b9)
  clear hw9 hw9h k9 s9 b9
  go_wp2
  refine bodyPost_ret (v := .agg cs.toArray) ?_ rfl ⟨cs, rfl, HREP9.out, HB9.out⟩
  refine results_cell_row Tryz.results20 _ _ w.heap.size 39 _ (0, 0) _ ?_ g9.out Tryz.underlying39 rfl HCI.out
  rfl
end
end Go.Proofs.YtocoimjhglackaaGreat
