/- A plan is for its job alone. -/
import Derived.Test.YtblofbdncolikaaTk
import Derived.Test.YtblofbdncolikaaPd
import Derived.Test.YtblofbdncolikaaLi
import Derived.Test.YtblofbdncolikaaTf
namespace Go.Proofs.Ytblofbdncolikaa
open Go.RowKit Go.Shelf
def oLon_0 : Oper := { dst := some 35, op := Op.move (Operand.tmp 8), type := 4, pos := "law.go:144", after := #[], guard := none }
def oLon_1 : Oper := { dst := some 36, op := Op.move (Operand.tmp 35), type := 4, pos := "law.go:144", after := #[{ on := 0, ground := Ground.data }], guard := none }
def oLon_2 : Oper := { dst := some 37, op := Op.fieldAddr 29 (Operand.tmp 2) 5, type := 0, pos := "law.go:144", after := #[{ on := 1, ground := Ground.guard }], guard := some (1, false) }
def oLon_3 : Oper := { dst := some 38, op := Op.load 24 (Operand.tmp 37), type := 24, pos := "law.go:144", after := #[{ on := 2, ground := Ground.data }, { on := 1, ground := Ground.guard }], guard := some (1, false) }
def oLon_4 : Oper := { dst := some 39, op := Op.move (Operand.tmp 9), type := 3, pos := "law.go:144", after := #[{ on := 1, ground := Ground.guard }], guard := some (1, false) }
def oLon_5 : Oper := { dst := some 40, op := Op.indexAddr 24 (Operand.tmp 38) (Operand.tmp 39), type := 0, pos := "law.go:144", after := #[{ on := 3, ground := Ground.data }, { on := 4, ground := Ground.data }, { on := 1, ground := Ground.guard }], guard := some (1, false) }
def oLon_6 : Oper := { dst := some 41, op := Op.fieldAddr 42 (Operand.tmp 40) 0, type := 0, pos := "law.go:144", after := #[{ on := 5, ground := Ground.data }, { on := 1, ground := Ground.guard }], guard := some (1, false) }
def oLon_7 : Oper := { dst := some 42, op := Op.load 3 (Operand.tmp 41), type := 3, pos := "law.go:144", after := #[{ on := 6, ground := Ground.data }, { on := 1, ground := Ground.guard }], guard := some (1, false) }
def oLon_8 : Oper := { dst := some 43, op := Op.fieldAddr 35 (Operand.tmp 6) 3, type := 0, pos := "law.go:144", after := #[{ on := 1, ground := Ground.guard }], guard := some (1, false) }
def oLon_9 : Oper := { dst := some 44, op := Op.load 33 (Operand.tmp 43), type := 33, pos := "law.go:144", after := #[{ on := 8, ground := Ground.data }, { on := 1, ground := Ground.guard }], guard := some (1, false) }
def oLon_10 : Oper := { dst := some 45, op := Op.move (Operand.tmp 7), type := 3, pos := "law.go:144", after := #[{ on := 1, ground := Ground.guard }], guard := some (1, false) }
def oLon_11 : Oper := { dst := some 46, op := Op.indexAddr 33 (Operand.tmp 44) (Operand.tmp 45), type := 0, pos := "law.go:144", after := #[{ on := 9, ground := Ground.data }, { on := 10, ground := Ground.data }, { on := 1, ground := Ground.guard }], guard := some (1, false) }
def oLon_12 : Oper := { dst := some 47, op := Op.load 3 (Operand.tmp 46), type := 3, pos := "law.go:144", after := #[{ on := 11, ground := Ground.data }, { on := 1, ground := Ground.guard }], guard := some (1, false) }
def oLon_13 : Oper := { dst := some 48, op := Op.binOp BinOp.eql 3 (Operand.tmp 42) (Operand.tmp 47) 3, type := 4, pos := "law.go:144", after := #[{ on := 7, ground := Ground.data }, { on := 12, ground := Ground.data }, { on := 1, ground := Ground.guard }], guard := some (1, false) }
def oLon_14 : Oper := { dst := some 49, op := Op.move (Operand.tmp 48), type := 4, pos := "law.go:144", after := #[{ on := 13, ground := Ground.data }, { on := 1, ground := Ground.chain }, { on := 1, ground := Ground.guard }], guard := some (1, false) }
def oLon_15 : Oper := { dst := some 50, op := Op.fieldAddr 29 (Operand.tmp 2) 5, type := 0, pos := "law.go:144", after := #[{ on := 14, ground := Ground.guard }], guard := some (14, true) }
def oLon_16 : Oper := { dst := some 51, op := Op.load 24 (Operand.tmp 50), type := 24, pos := "law.go:144", after := #[{ on := 15, ground := Ground.data }, { on := 14, ground := Ground.guard }], guard := some (14, true) }
def oLon_17 : Oper := { dst := some 52, op := Op.move (Operand.tmp 9), type := 3, pos := "law.go:144", after := #[{ on := 14, ground := Ground.guard }], guard := some (14, true) }
def oLon_18 : Oper := { dst := some 53, op := Op.indexAddr 24 (Operand.tmp 51) (Operand.tmp 52), type := 0, pos := "law.go:144", after := #[{ on := 16, ground := Ground.data }, { on := 17, ground := Ground.data }, { on := 14, ground := Ground.guard }], guard := some (14, true) }
def oLon_19 : Oper := { dst := some 54, op := Op.fieldAddr 42 (Operand.tmp 53) 1, type := 0, pos := "law.go:144", after := #[{ on := 18, ground := Ground.data }, { on := 14, ground := Ground.guard }], guard := some (14, true) }
def oLon_20 : Oper := { dst := some 55, op := Op.load 3 (Operand.tmp 54), type := 3, pos := "law.go:144", after := #[{ on := 19, ground := Ground.data }, { on := 14, ground := Ground.guard }], guard := some (14, true) }
def oLon_21 : Oper := { dst := some 56, op := Op.move (Operand.tmp 1), type := 3, pos := "law.go:144", after := #[{ on := 14, ground := Ground.guard }], guard := some (14, true) }
def oLon_22 : Oper := { dst := some 57, op := Op.binOp BinOp.eql 3 (Operand.tmp 55) (Operand.tmp 56) 3, type := 4, pos := "law.go:144", after := #[{ on := 20, ground := Ground.data }, { on := 21, ground := Ground.data }, { on := 14, ground := Ground.guard }], guard := some (14, true) }
def oLon_23 : Oper := { dst := some 58, op := Op.pick (Operand.tmp 49) (Operand.tmp 57) (Operand.const (Value.bool false)), type := 4, pos := "law.go:144", after := #[{ on := 14, ground := Ground.data }, { on := 22, ground := Ground.data }, { on := 1, ground := Ground.guard }], guard := some (1, false) }
def oLon_24 : Oper := { dst := some 59, op := Op.pick (Operand.tmp 36) (Operand.const (Value.bool true)) (Operand.tmp 58), type := 4, pos := "law.go:144", after := #[{ on := 1, ground := Ground.data }, { on := 23, ground := Ground.data }], guard := none }
def oLon_25 : Oper := { dst := some 8, op := Op.assign (Operand.tmp 59), type := 4, pos := "law.go:144", after := #[{ on := 24, ground := Ground.data }, { on := 14, ground := Ground.chain }, { on := 0, ground := Ground.phase }, { on := 1, ground := Ground.phase }, { on := 2, ground := Ground.phase }, { on := 3, ground := Ground.phase }, { on := 4, ground := Ground.phase }, { on := 5, ground := Ground.phase }, { on := 6, ground := Ground.phase }, { on := 7, ground := Ground.phase }, { on := 8, ground := Ground.phase }, { on := 9, ground := Ground.phase }, { on := 10, ground := Ground.phase }, { on := 11, ground := Ground.phase }, { on := 12, ground := Ground.phase }, { on := 13, ground := Ground.phase }, { on := 14, ground := Ground.phase }, { on := 15, ground := Ground.phase }, { on := 16, ground := Ground.phase }, { on := 17, ground := Ground.phase }, { on := 18, ground := Ground.phase }, { on := 19, ground := Ground.phase }, { on := 20, ground := Ground.phase }, { on := 21, ground := Ground.phase }, { on := 22, ground := Ground.phase }, { on := 23, ground := Ground.phase }, { on := 24, ground := Ground.phase }], guard := none }
def oLon_26 : Oper := { dst := some 93, op := Op.fieldAddr 35 (Operand.tmp 6) 4, type := 0, pos := "law.go:156", after := #[], guard := none }
def oLon_27 : Oper := { dst := some 94, op := Op.load 24 (Operand.tmp 93), type := 24, pos := "law.go:156", after := #[{ on := 0, ground := Ground.data }], guard := none }
def oLon_28 : Oper := { dst := some 95, op := Op.move (Operand.tmp 12), type := 3, pos := "law.go:156", after := #[], guard := none }
def oLon_29 : Oper := { dst := some 96, op := Op.indexAddr 24 (Operand.tmp 94) (Operand.tmp 95), type := 0, pos := "law.go:156", after := #[{ on := 1, ground := Ground.data }, { on := 2, ground := Ground.data }], guard := none }
def oLon_30 : Oper := { dst := some 97, op := Op.fieldAddr 42 (Operand.tmp 96) 3, type := 0, pos := "law.go:156", after := #[{ on := 3, ground := Ground.data }], guard := none }
def oLon_31 : Oper := { dst := some 98, op := Op.load 3 (Operand.tmp 97), type := 3, pos := "law.go:156", after := #[{ on := 4, ground := Ground.data }], guard := none }
def oLon_32 : Oper := { dst := some 99, op := Op.fieldAddr 42 (Operand.tmp 11) 3, type := 0, pos := "law.go:156", after := #[], guard := none }
def oLon_33 : Oper := { dst := some 100, op := Op.load 3 (Operand.tmp 99), type := 3, pos := "law.go:156", after := #[{ on := 6, ground := Ground.data }], guard := none }
def oLon_34 : Oper := { dst := some 101, op := Op.binOp BinOp.eql 3 (Operand.tmp 98) (Operand.tmp 100) 3, type := 4, pos := "law.go:156", after := #[{ on := 5, ground := Ground.data }, { on := 7, ground := Ground.data }], guard := none }
def oLon_35 : Oper := { dst := some 102, op := Op.move (Operand.tmp 101), type := 4, pos := "law.go:156", after := #[{ on := 8, ground := Ground.data }], guard := none }
def oLon_36 : Oper := { dst := some 103, op := Op.fieldAddr 35 (Operand.tmp 6) 4, type := 0, pos := "law.go:156", after := #[{ on := 9, ground := Ground.guard }], guard := some (9, true) }
def oLon_37 : Oper := { dst := some 104, op := Op.load 24 (Operand.tmp 103), type := 24, pos := "law.go:156", after := #[{ on := 10, ground := Ground.data }, { on := 9, ground := Ground.guard }], guard := some (9, true) }
def oLon_38 : Oper := { dst := some 105, op := Op.move (Operand.tmp 12), type := 3, pos := "law.go:156", after := #[{ on := 9, ground := Ground.guard }], guard := some (9, true) }
def oLon_39 : Oper := { dst := some 106, op := Op.indexAddr 24 (Operand.tmp 104) (Operand.tmp 105), type := 0, pos := "law.go:156", after := #[{ on := 11, ground := Ground.data }, { on := 12, ground := Ground.data }, { on := 9, ground := Ground.guard }], guard := some (9, true) }
def oLon_40 : Oper := { dst := some 107, op := Op.fieldAddr 42 (Operand.tmp 106) 4, type := 0, pos := "law.go:156", after := #[{ on := 13, ground := Ground.data }, { on := 9, ground := Ground.guard }], guard := some (9, true) }
def oLon_41 : Oper := { dst := some 108, op := Op.load 3 (Operand.tmp 107), type := 3, pos := "law.go:156", after := #[{ on := 14, ground := Ground.data }, { on := 9, ground := Ground.guard }], guard := some (9, true) }
def oLon_42 : Oper := { dst := some 109, op := Op.fieldAddr 42 (Operand.tmp 11) 4, type := 0, pos := "law.go:156", after := #[{ on := 9, ground := Ground.guard }], guard := some (9, true) }
def oLon_43 : Oper := { dst := some 110, op := Op.load 3 (Operand.tmp 109), type := 3, pos := "law.go:156", after := #[{ on := 16, ground := Ground.data }, { on := 9, ground := Ground.guard }], guard := some (9, true) }
def oLon_44 : Oper := { dst := some 111, op := Op.binOp BinOp.eql 3 (Operand.tmp 108) (Operand.tmp 110) 3, type := 4, pos := "law.go:156", after := #[{ on := 15, ground := Ground.data }, { on := 17, ground := Ground.data }, { on := 9, ground := Ground.guard }], guard := some (9, true) }
def oLon_45 : Oper := { dst := some 112, op := Op.pick (Operand.tmp 102) (Operand.tmp 111) (Operand.const (Value.bool false)), type := 4, pos := "law.go:156", after := #[{ on := 9, ground := Ground.data }, { on := 18, ground := Ground.data }], guard := none }
attribute [local go_sem] Oper.semAt_some
theorem any_tk {A : List Al} {k : Nat} (h : k < A.length) (P : Al → Bool) : (A.take (k + 1)).any P = ((A.take k).any P || P A[k]) := by
 rw [take_snoc A k h, List.any_append]; simp
theorem own_lenQ {w : World} {lo k n e : Nat} {a : Option Addr} {c : Nat} {xs : List Value} (h : w.ownsRow lo e k (.slice a n c) n xs) : n ≤ maxLen := by
 rcases h.2 with ⟨_, hn⟩ | ⟨g, cap, cur, hv, _, _, h1, h2, _⟩
 ·omega
 ·omega
set_option maxRecDepth 100000 in
set_option maxHeartbeats 8000000 in
theorem walkOnly (s : Sc) (J B : List Js) (X : List Ss) (d : St) (job : Int) (w : World) (hS : StR w (fun b => b < w.heap.size) s J B X d) (hbb : StB 1048576 d) :
  Calls Try.prog 5 #[.agg #[.int .i64 s.ix, .int .i64 s.nx, .slice s.a2 s.n2 s.c2, .slice s.a3 s.n3 s.c3, .slice s.a4 s.n4 s.c4, .slice s.a5 s.n5 s.c5, .slice s.a6 s.n6 s.c6, .slice s.a7 s.n7 s.c7, .slice s.a8 s.n8 s.c8], .int .i64 job] w fun e w' => e = .returned (.bool true) ∧ Below w.heap.size w w' := by
 obtain ⟨ix, nx, a2, n2, c2, a3, n3, c3, a4, n4, c4, a5, n5, c5, a6, n6, c6, a7, n7, c7, a8, n8, c8⟩ := s
 obtain ⟨e2, e4, e5, e6⟩ : n2 = J.length ∧ n4 = d.nodes.length ∧ n5 = d.allocs.length ∧ n6 = d.evals.length := ⟨hS.f.n2, hS.f.n4, hS.f.n5, hS.f.n6⟩
 subst e2
 subst e4
 subst e5
 subst e6
 have hJ : JbR w (fun b => b < w.heap.size) a2 J d.jobs := hS.j
 have hN : Fl w (fun b => b < w.heap.size) 8 56 Nd.cs a4 d.nodes := hS.f.f4
 have hA : Fl w (fun b => b < w.heap.size) 11 88 Al.cs a5 d.allocs := hS.f.f5
 have hE : Fl w (fun b => b < w.heap.size) 4 32 Qd.cs a6 d.evals := hS.f.f6
 obtain ⟨hbn, _, hbg⟩ := hbb
 have hsl : ¬ dfI d.jobs job < 0 → (slV (dfJ d.jobs job) d.nodes).length * 16 ≤ 140737488355328 := fun h => sl_ok (hbg _ (dfJ_id h).2) hbn
 have hfl := fl_ok (A := d.allocs) (job := job) hbg hbn
 clear hS hbn hbg
 generalize d.nodes = Ln at *
 generalize d.allocs = A at *
 generalize d.jobs = Lj at *
 generalize d.evals = E at *
 obtain ⟨wb, hwb⟩ : ∃ wb, w.alloc (.cells #[.int .i64 ix, .int .i64 nx, .slice a2 J.length c2, .slice a3 n3 c3, .slice a4 Ln.length c4, .slice a5 A.length c5, .slice a6 E.length c6, .slice a7 n7 c7, .slice a8 n8 c8] 29) = wb := ⟨_, rfl⟩
 have HB0 : Hid (Below w.heap.size w wb) := hidOf (by rw [← hwb]; exact below1 _ _)
 have HT : Hid (wb.rangeAt w.heap.size 0 [.int .i64 ix, .int .i64 nx, .slice a2 J.length c2, .slice a3 n3 c3, .slice a4 Ln.length c4, .slice a5 A.length c5, .slice a6 E.length c6, .slice a7 n7 c7, .slice a8 n8 c8]) := hidOf (by rw [← hwb]; exact box_new (wr := w) (cs := [.int .i64 ix, .int .i64 nx, .slice a2 J.length c2, .slice a3 n3 c3, .slice a4 Ln.length c4, .slice a5 A.length c5, .slice a6 E.length c6, .slice a7 n7 c7, .slice a8 n8 c8]) (t := 29) (Below.refl _ _))
 have hB2l : w.heap.size < wb.heap.size := by rw [← hwb]; simp
 have HCA := hidOf (caps_any ⟨ix, nx, a2, J.length, c2, a3, n3, c3, a4, Ln.length, c4, a5, A.length, c5, a6, E.length, c6, a7, n7, c7, a8, n8, c8⟩ Ln A wb ⟨rfl, rfl, hN.kept (fun b hb => HB0.out.block b hb) (fun b hb => Nat.lt_of_lt_of_le hb HB0.out.size), hA.kept (fun b hb => HB0.out.block b hb) (fun b hb => Nat.lt_of_lt_of_le hb HB0.out.size)⟩)
 have HPL := hidOf (fun (W : World) (h : Below w.heap.size w W) (hc : cpL Ln = true) => plan_any ⟨ix, nx, a2, J.length, c2, a3, n3, c3, a4, Ln.length, c4, a5, A.length, c5, a6, E.length, c6, a7, n7, c7, a8, n8, c8⟩ job J Lj Ln A E W rfl rfl rfl rfl (hJ.kept (fun b hb => h.block b hb) (fun b hb => Nat.lt_of_lt_of_le hb h.size)) (hN.kept (fun b hb => h.block b hb) (fun b hb => Nat.lt_of_lt_of_le hb h.size)) (hA.kept (fun b hb => h.block b hb) (fun b hb => Nat.lt_of_lt_of_le hb h.size)) (hE.kept (fun b hb => h.block b hb) (fun b hb => Nat.lt_of_lt_of_le hb h.size)) hc hsl hfl)
 have HSL := hidOf (fun (gr i : Int) (W : World) (h : Below w.heap.size w W) => refSlot_any ⟨ix, nx, a2, J.length, c2, a3, n3, c3, a4, Ln.length, c4, a5, A.length, c5, a6, E.length, c6, a7, n7, c7, a8, n8, c8⟩ job gr i A W rfl (hA.kept (fun b hb => h.block b hb) (fun b hb => Nat.lt_of_lt_of_le hb h.size)))
 have HA0 := hidOf hA
 clear hJ hN hA hE hsl hfl
 cases hcp : cpL Ln with
 | false =>
  rw [hcp] at HCA
  clear hcp HPL
  have t0 : wb.cell? ⟨w.heap.size, 0, none⟩ = some (.int .i64 ix) := HT.out 0 _ rfl
  have t1 : wb.cell? ⟨w.heap.size, 1, none⟩ = some (.int .i64 nx) := HT.out 1 _ rfl
  have t2 : wb.cell? ⟨w.heap.size, 2, none⟩ = some (.slice a2 J.length c2) := HT.out 2 _ rfl
  have t3 : wb.cell? ⟨w.heap.size, 3, none⟩ = some (.slice a3 n3 c3) := HT.out 3 _ rfl
  have t4 : wb.cell? ⟨w.heap.size, 4, none⟩ = some (.slice a4 Ln.length c4) := HT.out 4 _ rfl
  have t5 : wb.cell? ⟨w.heap.size, 5, none⟩ = some (.slice a5 A.length c5) := HT.out 5 _ rfl
  have t6 : wb.cell? ⟨w.heap.size, 6, none⟩ = some (.slice a6 E.length c6) := HT.out 6 _ rfl
  have t7 : wb.cell? ⟨w.heap.size, 7, none⟩ = some (.slice a7 n7 c7) := HT.out 7 _ rfl
  have t8 : wb.cell? ⟨w.heap.size, 8, none⟩ = some (.slice a8 n8 c8) := HT.out 8 _ rfl
  have l0 : w.heap.size < wb.heap.size := lt_of_cell t0
  go_enter Try.func5, Try.ntmps5
  go_upto_region 1 with (fail)
  try rw [hwb]
  clear hwb
  go_wp2_with (first | (go_at_call 6; refine HCA.out.mono ?_; rintro e w1 ⟨rfl, hb1⟩; have HB1 := hidOf hb1; clear hb1) | (go_at_call 7; refine (lives_any _).mono ?_; rintro e wl ⟨rfl, hbl⟩; have HBL := hidOf hbl; clear hbl))
  go_ret
  exact ⟨rfl, (HB0.out.trans (HB1.out.mono HB0.out.size)).trans (HBL.out.mono (by have := HB0.out.size; have := HB1.out.size; omega))⟩
 | true =>
  have HPL := hidOf (fun (W : World) (h : Below w.heap.size w W) => HPL.out W h hcp)
  rw [hcp] at HCA
  clear hcp
  have HST : Hid (∀ z ∈ (pnV Lj Ln A E job).st, A.any (onB job z) = true) := hidOf pn_st
  have HPI := hidOf (pn_pl (Lj := Lj) (Ln := Ln) (A := A) (E := E) (job := job))
  obtain ⟨v, hv⟩ : ∃ v, pnV Lj Ln A E job = v := ⟨_, rfl⟩
  rw [hv] at HPL HST HPI
  clear hv
  have t0 : wb.cell? ⟨w.heap.size, 0, none⟩ = some (.int .i64 ix) := HT.out 0 _ rfl
  have t1 : wb.cell? ⟨w.heap.size, 1, none⟩ = some (.int .i64 nx) := HT.out 1 _ rfl
  have t2 : wb.cell? ⟨w.heap.size, 2, none⟩ = some (.slice a2 J.length c2) := HT.out 2 _ rfl
  have t3 : wb.cell? ⟨w.heap.size, 3, none⟩ = some (.slice a3 n3 c3) := HT.out 3 _ rfl
  have t4 : wb.cell? ⟨w.heap.size, 4, none⟩ = some (.slice a4 Ln.length c4) := HT.out 4 _ rfl
  have t5 : wb.cell? ⟨w.heap.size, 5, none⟩ = some (.slice a5 A.length c5) := HT.out 5 _ rfl
  have t6 : wb.cell? ⟨w.heap.size, 6, none⟩ = some (.slice a6 E.length c6) := HT.out 6 _ rfl
  have t7 : wb.cell? ⟨w.heap.size, 7, none⟩ = some (.slice a7 n7 c7) := HT.out 7 _ rfl
  have t8 : wb.cell? ⟨w.heap.size, 8, none⟩ = some (.slice a8 n8 c8) := HT.out 8 _ rfl
  have l0 : w.heap.size < wb.heap.size := lt_of_cell t0
  go_enter Try.func5, Try.ntmps5
  go_upto_region 1 with (fail)
  try rw [hwb]
  clear hwb
  go_upto_region 4 with (go_at_call 6; refine HCA.out.mono ?_; rintro e w1 ⟨rfl, hb1⟩; have HB1 := hidOf hb1; clear hb1)
  clear t0 t1 t2 t3 t4 t5 t6 t7 t8 l0
  have HW1 := hidOf (HB0.out.trans (HB1.out.mono HB0.out.size))
  obtain ⟨B2, hB2⟩ : ∃ B2, w.heap.size = B2 := ⟨_, rfl⟩
  have HT1 : Hid (w1.rangeAt B2 0 [.int .i64 ix, .int .i64 nx, .slice a2 J.length c2, .slice a3 n3 c3, .slice a4 Ln.length c4, .slice a5 A.length c5, .slice a6 E.length c6, .slice a7 n7 c7, .slice a8 n8 c8]) := hidOf (by rw [← hB2]; exact range_of HT.out (HB1.out.block _ hB2l))
  have HBB : Hid (w.heap.size = B2) := hidOf hB2
  rw [hB2]
  clear hB2 HT HCA hB2l
  have t0 : w1.cell? ⟨B2, 0, none⟩ = some (.int .i64 ix) := HT1.out 0 _ rfl
  have t1 : w1.cell? ⟨B2, 1, none⟩ = some (.int .i64 nx) := HT1.out 1 _ rfl
  have t2 : w1.cell? ⟨B2, 2, none⟩ = some (.slice a2 J.length c2) := HT1.out 2 _ rfl
  have t3 : w1.cell? ⟨B2, 3, none⟩ = some (.slice a3 n3 c3) := HT1.out 3 _ rfl
  have t4 : w1.cell? ⟨B2, 4, none⟩ = some (.slice a4 Ln.length c4) := HT1.out 4 _ rfl
  have t5 : w1.cell? ⟨B2, 5, none⟩ = some (.slice a5 A.length c5) := HT1.out 5 _ rfl
  have t6 : w1.cell? ⟨B2, 6, none⟩ = some (.slice a6 E.length c6) := HT1.out 6 _ rfl
  have t7 : w1.cell? ⟨B2, 7, none⟩ = some (.slice a7 n7 c7) := HT1.out 7 _ rfl
  have t8 : w1.cell? ⟨B2, 8, none⟩ = some (.slice a8 n8 c8) := HT1.out 8 _ rfl
  have l0 : B2 < w1.heap.size := lt_of_cell t0
  go_upto_region 5 with (go_at_call 9; refine (HPL.out _ HW1.out).mono ?_; rintro e w2 ⟨⟨sa, sc, pa, pc, rfl, ho1, ho2⟩, hb2⟩; have HO1 := hidOf ho1; have HO2 := hidOf ho2; have HB2 := hidOf hb2; clear ho1 ho2 hb2)
  have HT2 := hidOf (range_of HT1.out (HB2.out.block B2 l0))
  clear t0 t1 t2 t3 t4 t5 t6 t7 t8 l0
  have HW2 := hidOf (HW1.out.trans (HB2.out.mono HW1.out.size))
  obtain ⟨BP, hBP⟩ : ∃ BP, w2.heap.size = BP := ⟨_, rfl⟩
  obtain ⟨w3, hw3⟩ : ∃ w3, w2.alloc (.cells #[.int .i64 v.jb, .int .i64 v.ve, .int .i64 v.ix, .slice sa v.st.length sc, .slice pa v.pl.length pc, .bool v.bl] 35) = w3 := ⟨_, rfl⟩
  have hb3 := below1 w2 (.cells #[.int .i64 v.jb, .int .i64 v.ve, .int .i64 v.ix, .slice sa v.st.length sc, .slice pa v.pl.length pc, .bool v.bl] 35)
  have hx3 : (w2.alloc (.cells #[.int .i64 v.jb, .int .i64 v.ve, .int .i64 v.ix, .slice sa v.st.length sc, .slice pa v.pl.length pc, .bool v.bl] 35)).rangeAt w2.heap.size 0 [.int .i64 v.jb, .int .i64 v.ve, .int .i64 v.ix, .slice sa v.st.length sc, .slice pa v.pl.length pc, .bool v.bl] := box_new (Below.refl _ _)
  have hz3 : (w2.alloc (.cells #[.int .i64 v.jb, .int .i64 v.ve, .int .i64 v.ix, .slice sa v.st.length sc, .slice pa v.pl.length pc, .bool v.bl] 35)).heap.size = w2.heap.size + 1 := by simp
  try rw [hw3]
  try rw [hBP]
  rw [hw3] at hb3 hx3 hz3
  rw [hBP] at hx3 hz3
  clear hw3 hBP
  have HX3 := hidOf hx3
  have HT3 := hidOf (range_of HT2.out (hb3.block B2 (lt_of_cell (HT2.out 0 _ rfl))))
  have HW3 := hidOf (HW2.out.trans (hb3.mono HW2.out.size))
  have hm1 := own_lenQ HO1.out
  have hm2 := own_lenQ HO2.out
  unfold maxLen at hm1 hm2
  have HF1 := hidOf ((own_fl (y := 0) iC_len HO1.out (by omega)).kept (w' := w3) (S' := fun b => b < w3.heap.size) (fun b hb => hb3.block b hb.lt) (fun b hb => Nat.lt_of_lt_of_le hb.lt hb3.size))
  have HF2 := hidOf ((own_fl (y := 0) Al.len HO2.out (by omega)).kept (w' := w3) (S' := fun b => b < w3.heap.size) (fun b hb => hb3.block b hb.lt) (fun b hb => Nat.lt_of_lt_of_le hb.lt hb3.size))
  have HA3 := hidOf (HA0.out.kept (w' := w3) (S' := fun b => b < w3.heap.size) (fun b hb => HW3.out.block b hb) (fun b hb => Nat.lt_of_lt_of_le hb HW3.out.size))
  have hAl : A.length * 88 ≤ 140737488355328 := HA0.out.bd
  have hlp3 : BP < w3.heap.size := by omega
  have hl23 : B2 < w3.heap.size := lt_of_cell (HT3.out 0 _ rfl)
  clear hb3 hx3 hz3 HO1 HO2 HT2 HT1 HW1 HW2 HPL HB0 HB1 HB2 HA0


  go_wp2
  go_loopw [7] (fun i wr => ∃ k : Nat, k ≤ v.st.length ∧ i = .int .i64 k ∧ Hid (Below w3.heap.size w3 wr)) (fun i _ => v.st.length - (intOf i).toNat)
  case atStart => exact ⟨0, Nat.zero_le _, rfl, hidOf (Below.refl _ _)⟩
  case round =>
   obtain ⟨k, hk, rfl, HBr⟩ := hrel
   have t0 : wr.cell? ⟨B2, 0, none⟩ = some (.int .i64 ix) := (range_of HT3.out (HBr.out.block B2 hl23)) 0 _ rfl
   have t1 : wr.cell? ⟨B2, 1, none⟩ = some (.int .i64 nx) := (range_of HT3.out (HBr.out.block B2 hl23)) 1 _ rfl
   have t2 : wr.cell? ⟨B2, 2, none⟩ = some (.slice a2 J.length c2) := (range_of HT3.out (HBr.out.block B2 hl23)) 2 _ rfl
   have t3 : wr.cell? ⟨B2, 3, none⟩ = some (.slice a3 n3 c3) := (range_of HT3.out (HBr.out.block B2 hl23)) 3 _ rfl
   have t4 : wr.cell? ⟨B2, 4, none⟩ = some (.slice a4 Ln.length c4) := (range_of HT3.out (HBr.out.block B2 hl23)) 4 _ rfl
   have t5 : wr.cell? ⟨B2, 5, none⟩ = some (.slice a5 A.length c5) := (range_of HT3.out (HBr.out.block B2 hl23)) 5 _ rfl
   have t6 : wr.cell? ⟨B2, 6, none⟩ = some (.slice a6 E.length c6) := (range_of HT3.out (HBr.out.block B2 hl23)) 6 _ rfl
   have t7 : wr.cell? ⟨B2, 7, none⟩ = some (.slice a7 n7 c7) := (range_of HT3.out (HBr.out.block B2 hl23)) 7 _ rfl
   have t8 : wr.cell? ⟨B2, 8, none⟩ = some (.slice a8 n8 c8) := (range_of HT3.out (HBr.out.block B2 hl23)) 8 _ rfl
   have l0 : B2 < wr.heap.size := lt_of_cell t0
   have p0 : wr.cell? ⟨BP, 0, none⟩ = some (.int .i64 v.jb) := (range_of HX3.out (HBr.out.block BP hlp3)) 0 _ rfl
   have p1 : wr.cell? ⟨BP, 1, none⟩ = some (.int .i64 v.ve) := (range_of HX3.out (HBr.out.block BP hlp3)) 1 _ rfl
   have p2 : wr.cell? ⟨BP, 2, none⟩ = some (.int .i64 v.ix) := (range_of HX3.out (HBr.out.block BP hlp3)) 2 _ rfl
   have p3 : wr.cell? ⟨BP, 3, none⟩ = some (.slice sa v.st.length sc) := (range_of HX3.out (HBr.out.block BP hlp3)) 3 _ rfl
   have p4 : wr.cell? ⟨BP, 4, none⟩ = some (.slice pa v.pl.length pc) := (range_of HX3.out (HBr.out.block BP hlp3)) 4 _ rfl
   have p5 : wr.cell? ⟨BP, 5, none⟩ = some (.bool v.bl) := (range_of HX3.out (HBr.out.block BP hlp3)) 5 _ rfl
   have lp : BP < wr.heap.size := lt_of_cell p0
   by_cases hlt : k < v.st.length
   ·obtain ⟨g, of2, hg, hQg, hcg⟩ := HF1.out.at k hlt
    have hQg' : g < w3.heap.size := hQg
    have hst := HST.out v.st[k] (List.getElem_mem hlt)
    obtain ⟨z, hz⟩ : ∃ z, v.st[k] = z := ⟨_, rfl⟩
    rw [hz] at hcg hst
    have HAN := hidOf hst
    subst hg
    clear hz hst hQg
    clear t0 t1 t2 t3 t4 t5 t6 t7 t8 l0 lp p0 p1 p2 p3 p4 p5
    have hi0 : ¬ ((k : Int) < 0) := by omega
    have hi1 : (k : Int) < (v.st.length : Int) := by omega
    have p3' : wr.cell? ⟨BP, 3, none⟩ = some (.slice (some ⟨g, of2, none⟩) v.st.length sc) := (range_of HX3.out (HBr.out.block BP hlp3)) 3 _ rfl
    have lp : BP < wr.heap.size := lt_of_cell p3'
    go_wp2
    clear p3' lp
    obtain ⟨wk, hwk⟩ : ∃ x, x = wr := ⟨_, rfl⟩
    subst hwk
    go_loopw [8, 9] (fun f i wr => ∃ k2 : Nat, k2 ≤ A.length ∧ i = .int .i64 k2 ∧ f = .bool ((A.take k2).any (onB job z)) ∧ Hid (Below wk.heap.size wk wr)) (fun _ i _ => A.length - (intOf i).toNat)
    case atStart => exact ⟨0, Nat.zero_le _, rfl, by simp, hidOf (Below.refl _ _)⟩
    case round =>
     obtain ⟨k2, hk2, rfl, rfl, HZ⟩ := hrel
     have HBz := hidOf (HBr.out.trans (HZ.out.mono HBr.out.size))
     have t5 : wr.cell? ⟨B2, 5, none⟩ = some (.slice a5 A.length c5) := (range_of HT3.out (HBz.out.block B2 hl23)) 5 _ rfl
     have p3 : wr.cell? ⟨BP, 3, none⟩ = some (.slice (some ⟨g, of2, none⟩) v.st.length sc) := (range_of HX3.out (HBz.out.block BP hlp3)) 3 _ rfl
     have l0 : B2 < wr.heap.size := lt_of_cell t5
     have lp : BP < wr.heap.size := lt_of_cell p3
     by_cases hl2 : k2 < A.length
     ·obtain ⟨b, off, ha, hQb, hcc⟩ := HA3.out.at k2 hl2
      have hQb' : b < w3.heap.size := hQb
      have HTK := hidOf (any_tk hl2 (onB job z))
      obtain ⟨x, hx⟩ : ∃ x, A[k2] = x := ⟨_, rfl⟩
      rw [hx] at hcc HTK
      subst ha
      have hcr := range_of hcc (HBz.out.block b hQb')
      have z0 : wr.cell? ⟨g, of2 + k, none⟩ = some (.int .i64 z) := (hb_cell HBz.out hQg').trans (by have := hcg 0 _ rfl; simpa using this)
      have x0 : wr.cell? ⟨b, off + k2 * 11, none⟩ = some (.int .i64 x.id) := hcr 0 _ rfl
      have x1 : wr.cell? ⟨b, off + k2 * 11 + 1, none⟩ = some (.int .i64 x.jb) := hcr 1 _ rfl
      have lb : b < wr.heap.size := lt_of_cell x0
      have lg : g < wr.heap.size := lt_of_cell z0
      have hj0 : ¬ ((k2 : Int) < 0) := by omega
      have hj1 : (k2 : Int) < (A.length : Int) := by omega
      clear hcc hcr hQb hx hcg
      go_upto_region 12 with (fail)
      cases hf : (A.take k2).any (onB job z) with
      | true =>
       have HF := hidOf hf
       clear hf
       as_aux_lemma =>
        refine wp_region_held_drew (S := fun (_Y : World) => True) (by kernel_rfl) trivial (fun hHeld => ?_)
        refine tkH 0 oLon_0 35 (.bool true) hHeld (by intro w hS; dsimp only [oLon_0] at hS ⊢; go_simp) ?_
        try simp only [pA, pC, pD]
        refine tkH 1 oLon_1 36 (.bool true) hHeld (by intro w hS; dsimp only [oLon_1] at hS ⊢; go_simp) ?_
        try simp only [pA, pC, pD]
        refine tkN 2 oLon_2 37 hHeld ?_
        try simp only [pA, pC, pD]
        refine tkN 3 oLon_3 38 hHeld ?_
        try simp only [pA, pC, pD]
        refine tkN 4 oLon_4 39 hHeld ?_
        try simp only [pA, pC, pD]
        refine tkN 5 oLon_5 40 hHeld ?_
        try simp only [pA, pC, pD]
        refine tkN 6 oLon_6 41 hHeld ?_
        try simp only [pA, pC, pD]
        refine tkN 7 oLon_7 42 hHeld ?_
        try simp only [pA, pC, pD]
        refine tkN 8 oLon_8 43 hHeld ?_
        try simp only [pA, pC, pD]
        refine tkN 9 oLon_9 44 hHeld ?_
        try simp only [pA, pC, pD]
        refine tkN 10 oLon_10 45 hHeld ?_
        try simp only [pA, pC, pD]
        refine tkN 11 oLon_11 46 hHeld ?_
        try simp only [pA, pC, pD]
        refine tkN 12 oLon_12 47 hHeld ?_
        try simp only [pA, pC, pD]
        refine tkN 13 oLon_13 48 hHeld ?_
        try simp only [pA, pC, pD]
        refine tkN 14 oLon_14 49 hHeld ?_
        try simp only [pA, pC, pD]
        refine tkN 15 oLon_15 50 hHeld ?_
        try simp only [pA, pC, pD]
        refine tkN 16 oLon_16 51 hHeld ?_
        try simp only [pA, pC, pD]
        refine tkN 17 oLon_17 52 hHeld ?_
        try simp only [pA, pC, pD]
        refine tkN 18 oLon_18 53 hHeld ?_
        try simp only [pA, pC, pD]
        refine tkN 19 oLon_19 54 hHeld ?_
        try simp only [pA, pC, pD]
        refine tkN 20 oLon_20 55 hHeld ?_
        try simp only [pA, pC, pD]
        refine tkN 21 oLon_21 56 hHeld ?_
        try simp only [pA, pC, pD]
        refine tkN 22 oLon_22 57 hHeld ?_
        try simp only [pA, pC, pD]
        refine tkN 23 oLon_23 58 hHeld ?_
        try simp only [pA, pC, pD]
        refine tkH 24 oLon_24 59 (.bool true) hHeld (by intro w hS; dsimp only [oLon_24] at hS ⊢; go_simp) ?_
        try simp only [pA, pC, pD]
        refine tkH 25 oLon_25 8 (.bool true) hHeld (by intro w hS; dsimp only [oLon_25] at hS ⊢; go_simp) ?_
        try simp only [pA, pC, pD]
        refine wpAnyH_done (by kernel_rfl) ?_ _
        go_wp2
        go_roundw
        case rel => exact ⟨k2 + 1, by omega, by simp, by rw [HTK.out, HF.out]; rfl, hidOf (HZ.out.trans ((bdrew wr).mono HZ.out.size))⟩
        case measure => simp [intOf]; omega
      | false =>
       have HF := hidOf hf
       clear hf
       by_cases he : x.id = z
       ·have hq : (x.id == z) = true := by simp [he]
        have HE := hidOf he
        clear he
        by_cases hj : x.jb = job
        ·have hq2 : (x.jb == job) = true := by simp [hj]
         have HJ := hidOf hj
         clear hj
         as_aux_lemma =>
          refine wp_region_held_drew (S := fun (Y : World) => Y.cell? ⟨B2, 5, none⟩ = some (.slice (some ⟨b, off, none⟩) A.length c5) ∧ Y.cell? ⟨b, off + k2 * 11, none⟩ = some (.int .i64 x.id) ∧ Y.cell? ⟨BP, 3, none⟩ = some (.slice (some ⟨g, of2, none⟩) v.st.length sc) ∧ Y.cell? ⟨g, of2 + k, none⟩ = some (.int .i64 z) ∧ Y.cell? ⟨b, off + k2 * 11 + 1, none⟩ = some (.int .i64 x.jb)) (by kernel_rfl) ⟨t5, x0, p3, z0, x1⟩ (fun hHeld => ?_)
          refine tkH 0 oLon_0 35 (.bool false) hHeld (by intro w hS; dsimp only [oLon_0] at hS ⊢; go_simp) ?_
          try simp only [pA, pC, pD]
          refine tkH 1 oLon_1 36 (.bool false) hHeld (by intro w hS; dsimp only [oLon_1] at hS ⊢; go_simp) ?_
          try simp only [pA, pC, pD]
          refine tkH 2 oLon_2 37 (.pointer (some ⟨B2, 5, none⟩)) hHeld (by intro w hS; dsimp only [oLon_2] at hS ⊢; go_simp) ?_
          try simp only [pA, pC, pD]
          refine tkH 3 oLon_3 38 (.slice (some ⟨b, off, none⟩) A.length c5) hHeld (by intro w hS; dsimp only [oLon_3] at hS ⊢; go_simp) ?_
          try simp only [pA, pC, pD]
          refine tkH 4 oLon_4 39 (.int .i64 (k2 : Int)) hHeld (by intro w hS; dsimp only [oLon_4] at hS ⊢; go_simp) ?_
          try simp only [pA, pC, pD]
          refine tkH 5 oLon_5 40 (.pointer (some ⟨b, off + k2 * 11, none⟩)) hHeld (by intro w hS; dsimp only [oLon_5] at hS ⊢; go_simp) ?_
          try simp only [pA, pC, pD]
          refine tkH 6 oLon_6 41 (.pointer (some ⟨b, off + k2 * 11, none⟩)) hHeld (by intro w hS; dsimp only [oLon_6] at hS ⊢; go_simp) ?_
          try simp only [pA, pC, pD]
          refine tkH 7 oLon_7 42 (.int .i64 x.id) hHeld (by intro w hS; dsimp only [oLon_7] at hS ⊢; go_simp) ?_
          try simp only [pA, pC, pD]
          refine tkH 8 oLon_8 43 (.pointer (some ⟨BP, 3, none⟩)) hHeld (by intro w hS; dsimp only [oLon_8] at hS ⊢; go_simp) ?_
          try simp only [pA, pC, pD]
          refine tkH 9 oLon_9 44 (.slice (some ⟨g, of2, none⟩) v.st.length sc) hHeld (by intro w hS; dsimp only [oLon_9] at hS ⊢; go_simp) ?_
          try simp only [pA, pC, pD]
          refine tkH 10 oLon_10 45 (.int .i64 (k : Int)) hHeld (by intro w hS; dsimp only [oLon_10] at hS ⊢; go_simp) ?_
          try simp only [pA, pC, pD]
          refine tkH 11 oLon_11 46 (.pointer (some ⟨g, of2 + k, none⟩)) hHeld (by intro w hS; dsimp only [oLon_11] at hS ⊢; go_simp) ?_
          try simp only [pA, pC, pD]
          refine tkH 12 oLon_12 47 (.int .i64 z) hHeld (by intro w hS; dsimp only [oLon_12] at hS ⊢; go_simp) ?_
          try simp only [pA, pC, pD]
          refine tkH 13 oLon_13 48 (.bool true) hHeld (by intro w hS; dsimp only [oLon_13] at hS ⊢; go_simp) ?_
          try simp only [pA, pC, pD]
          refine tkH 14 oLon_14 49 (.bool true) hHeld (by intro w hS; dsimp only [oLon_14] at hS ⊢; go_simp) ?_
          try simp only [pA, pC, pD]
          refine tkH 15 oLon_15 50 (.pointer (some ⟨B2, 5, none⟩)) hHeld (by intro w hS; dsimp only [oLon_15] at hS ⊢; go_simp) ?_
          try simp only [pA, pC, pD]
          refine tkH 16 oLon_16 51 (.slice (some ⟨b, off, none⟩) A.length c5) hHeld (by intro w hS; dsimp only [oLon_16] at hS ⊢; go_simp) ?_
          try simp only [pA, pC, pD]
          refine tkH 17 oLon_17 52 (.int .i64 (k2 : Int)) hHeld (by intro w hS; dsimp only [oLon_17] at hS ⊢; go_simp) ?_
          try simp only [pA, pC, pD]
          refine tkH 18 oLon_18 53 (.pointer (some ⟨b, off + k2 * 11, none⟩)) hHeld (by intro w hS; dsimp only [oLon_18] at hS ⊢; go_simp) ?_
          try simp only [pA, pC, pD]
          refine tkH 19 oLon_19 54 (.pointer (some ⟨b, off + k2 * 11 + 1, none⟩)) hHeld (by intro w hS; dsimp only [oLon_19] at hS ⊢; go_simp) ?_
          try simp only [pA, pC, pD]
          refine tkH 20 oLon_20 55 (.int .i64 x.jb) hHeld (by intro w hS; dsimp only [oLon_20] at hS ⊢; go_simp) ?_
          try simp only [pA, pC, pD]
          refine tkH 21 oLon_21 56 (.int .i64 job) hHeld (by intro w hS; dsimp only [oLon_21] at hS ⊢; go_simp) ?_
          try simp only [pA, pC, pD]
          refine tkH 22 oLon_22 57 (.bool true) hHeld (by intro w hS; dsimp only [oLon_22] at hS ⊢; go_simp) ?_
          try simp only [pA, pC, pD]
          refine tkH 23 oLon_23 58 (.bool true) hHeld (by intro w hS; dsimp only [oLon_23] at hS ⊢; go_simp) ?_
          try simp only [pA, pC, pD]
          refine tkH 24 oLon_24 59 (.bool true) hHeld (by intro w hS; dsimp only [oLon_24] at hS ⊢; go_simp) ?_
          try simp only [pA, pC, pD]
          refine tkH 25 oLon_25 8 (.bool true) hHeld (by intro w hS; dsimp only [oLon_25] at hS ⊢; go_simp) ?_
          try simp only [pA, pC, pD]
          refine wpAnyH_done (by kernel_rfl) ?_ _
          go_wp2
          go_roundw
          case rel => exact ⟨k2 + 1, by omega, by simp, by rw [HTK.out, HF.out]; simp [onB, HE.out, HJ.out], hidOf (HZ.out.trans ((bdrew wr).mono HZ.out.size))⟩
          case measure => simp [intOf]; omega
        ·have hq2 : (x.jb == job) = false := by simp [hj]
         have HJ := hidOf hj
         clear hj
         as_aux_lemma =>
          refine wp_region_held_drew (S := fun (Y : World) => Y.cell? ⟨B2, 5, none⟩ = some (.slice (some ⟨b, off, none⟩) A.length c5) ∧ Y.cell? ⟨b, off + k2 * 11, none⟩ = some (.int .i64 x.id) ∧ Y.cell? ⟨BP, 3, none⟩ = some (.slice (some ⟨g, of2, none⟩) v.st.length sc) ∧ Y.cell? ⟨g, of2 + k, none⟩ = some (.int .i64 z) ∧ Y.cell? ⟨b, off + k2 * 11 + 1, none⟩ = some (.int .i64 x.jb)) (by kernel_rfl) ⟨t5, x0, p3, z0, x1⟩ (fun hHeld => ?_)
          refine tkH 0 oLon_0 35 (.bool false) hHeld (by intro w hS; dsimp only [oLon_0] at hS ⊢; go_simp) ?_
          try simp only [pA, pC, pD]
          refine tkH 1 oLon_1 36 (.bool false) hHeld (by intro w hS; dsimp only [oLon_1] at hS ⊢; go_simp) ?_
          try simp only [pA, pC, pD]
          refine tkH 2 oLon_2 37 (.pointer (some ⟨B2, 5, none⟩)) hHeld (by intro w hS; dsimp only [oLon_2] at hS ⊢; go_simp) ?_
          try simp only [pA, pC, pD]
          refine tkH 3 oLon_3 38 (.slice (some ⟨b, off, none⟩) A.length c5) hHeld (by intro w hS; dsimp only [oLon_3] at hS ⊢; go_simp) ?_
          try simp only [pA, pC, pD]
          refine tkH 4 oLon_4 39 (.int .i64 (k2 : Int)) hHeld (by intro w hS; dsimp only [oLon_4] at hS ⊢; go_simp) ?_
          try simp only [pA, pC, pD]
          refine tkH 5 oLon_5 40 (.pointer (some ⟨b, off + k2 * 11, none⟩)) hHeld (by intro w hS; dsimp only [oLon_5] at hS ⊢; go_simp) ?_
          try simp only [pA, pC, pD]
          refine tkH 6 oLon_6 41 (.pointer (some ⟨b, off + k2 * 11, none⟩)) hHeld (by intro w hS; dsimp only [oLon_6] at hS ⊢; go_simp) ?_
          try simp only [pA, pC, pD]
          refine tkH 7 oLon_7 42 (.int .i64 x.id) hHeld (by intro w hS; dsimp only [oLon_7] at hS ⊢; go_simp) ?_
          try simp only [pA, pC, pD]
          refine tkH 8 oLon_8 43 (.pointer (some ⟨BP, 3, none⟩)) hHeld (by intro w hS; dsimp only [oLon_8] at hS ⊢; go_simp) ?_
          try simp only [pA, pC, pD]
          refine tkH 9 oLon_9 44 (.slice (some ⟨g, of2, none⟩) v.st.length sc) hHeld (by intro w hS; dsimp only [oLon_9] at hS ⊢; go_simp) ?_
          try simp only [pA, pC, pD]
          refine tkH 10 oLon_10 45 (.int .i64 (k : Int)) hHeld (by intro w hS; dsimp only [oLon_10] at hS ⊢; go_simp) ?_
          try simp only [pA, pC, pD]
          refine tkH 11 oLon_11 46 (.pointer (some ⟨g, of2 + k, none⟩)) hHeld (by intro w hS; dsimp only [oLon_11] at hS ⊢; go_simp) ?_
          try simp only [pA, pC, pD]
          refine tkH 12 oLon_12 47 (.int .i64 z) hHeld (by intro w hS; dsimp only [oLon_12] at hS ⊢; go_simp) ?_
          try simp only [pA, pC, pD]
          refine tkH 13 oLon_13 48 (.bool true) hHeld (by intro w hS; dsimp only [oLon_13] at hS ⊢; go_simp) ?_
          try simp only [pA, pC, pD]
          refine tkH 14 oLon_14 49 (.bool true) hHeld (by intro w hS; dsimp only [oLon_14] at hS ⊢; go_simp) ?_
          try simp only [pA, pC, pD]
          refine tkH 15 oLon_15 50 (.pointer (some ⟨B2, 5, none⟩)) hHeld (by intro w hS; dsimp only [oLon_15] at hS ⊢; go_simp) ?_
          try simp only [pA, pC, pD]
          refine tkH 16 oLon_16 51 (.slice (some ⟨b, off, none⟩) A.length c5) hHeld (by intro w hS; dsimp only [oLon_16] at hS ⊢; go_simp) ?_
          try simp only [pA, pC, pD]
          refine tkH 17 oLon_17 52 (.int .i64 (k2 : Int)) hHeld (by intro w hS; dsimp only [oLon_17] at hS ⊢; go_simp) ?_
          try simp only [pA, pC, pD]
          refine tkH 18 oLon_18 53 (.pointer (some ⟨b, off + k2 * 11, none⟩)) hHeld (by intro w hS; dsimp only [oLon_18] at hS ⊢; go_simp) ?_
          try simp only [pA, pC, pD]
          refine tkH 19 oLon_19 54 (.pointer (some ⟨b, off + k2 * 11 + 1, none⟩)) hHeld (by intro w hS; dsimp only [oLon_19] at hS ⊢; go_simp) ?_
          try simp only [pA, pC, pD]
          refine tkH 20 oLon_20 55 (.int .i64 x.jb) hHeld (by intro w hS; dsimp only [oLon_20] at hS ⊢; go_simp) ?_
          try simp only [pA, pC, pD]
          refine tkH 21 oLon_21 56 (.int .i64 job) hHeld (by intro w hS; dsimp only [oLon_21] at hS ⊢; go_simp) ?_
          try simp only [pA, pC, pD]
          refine tkH 22 oLon_22 57 (.bool false) hHeld (by intro w hS; dsimp only [oLon_22] at hS ⊢; go_simp) ?_
          try simp only [pA, pC, pD]
          refine tkH 23 oLon_23 58 (.bool false) hHeld (by intro w hS; dsimp only [oLon_23] at hS ⊢; go_simp) ?_
          try simp only [pA, pC, pD]
          refine tkH 24 oLon_24 59 (.bool false) hHeld (by intro w hS; dsimp only [oLon_24] at hS ⊢; go_simp) ?_
          try simp only [pA, pC, pD]
          refine tkH 25 oLon_25 8 (.bool false) hHeld (by intro w hS; dsimp only [oLon_25] at hS ⊢; go_simp) ?_
          try simp only [pA, pC, pD]
          refine wpAnyH_done (by kernel_rfl) ?_ _
          go_wp2
          go_roundw
          case rel => exact ⟨k2 + 1, by omega, by simp, by rw [HTK.out, HF.out]; simp [onB, HE.out, HJ.out], hidOf (HZ.out.trans ((bdrew wr).mono HZ.out.size))⟩
          case measure => simp [intOf]; omega
       ·have hq : (x.id == z) = false := by simp [he]
        have HE := hidOf he
        clear he
        as_aux_lemma =>
         refine wp_region_held_drew (S := fun (Y : World) => Y.cell? ⟨B2, 5, none⟩ = some (.slice (some ⟨b, off, none⟩) A.length c5) ∧ Y.cell? ⟨b, off + k2 * 11, none⟩ = some (.int .i64 x.id) ∧ Y.cell? ⟨BP, 3, none⟩ = some (.slice (some ⟨g, of2, none⟩) v.st.length sc) ∧ Y.cell? ⟨g, of2 + k, none⟩ = some (.int .i64 z)) (by kernel_rfl) ⟨t5, x0, p3, z0⟩ (fun hHeld => ?_)
         refine tkH 0 oLon_0 35 (.bool false) hHeld (by intro w hS; dsimp only [oLon_0] at hS ⊢; go_simp) ?_
         try simp only [pA, pC, pD]
         refine tkH 1 oLon_1 36 (.bool false) hHeld (by intro w hS; dsimp only [oLon_1] at hS ⊢; go_simp) ?_
         try simp only [pA, pC, pD]
         refine tkH 2 oLon_2 37 (.pointer (some ⟨B2, 5, none⟩)) hHeld (by intro w hS; dsimp only [oLon_2] at hS ⊢; go_simp) ?_
         try simp only [pA, pC, pD]
         refine tkH 3 oLon_3 38 (.slice (some ⟨b, off, none⟩) A.length c5) hHeld (by intro w hS; dsimp only [oLon_3] at hS ⊢; go_simp) ?_
         try simp only [pA, pC, pD]
         refine tkH 4 oLon_4 39 (.int .i64 (k2 : Int)) hHeld (by intro w hS; dsimp only [oLon_4] at hS ⊢; go_simp) ?_
         try simp only [pA, pC, pD]
         refine tkH 5 oLon_5 40 (.pointer (some ⟨b, off + k2 * 11, none⟩)) hHeld (by intro w hS; dsimp only [oLon_5] at hS ⊢; go_simp) ?_
         try simp only [pA, pC, pD]
         refine tkH 6 oLon_6 41 (.pointer (some ⟨b, off + k2 * 11, none⟩)) hHeld (by intro w hS; dsimp only [oLon_6] at hS ⊢; go_simp) ?_
         try simp only [pA, pC, pD]
         refine tkH 7 oLon_7 42 (.int .i64 x.id) hHeld (by intro w hS; dsimp only [oLon_7] at hS ⊢; go_simp) ?_
         try simp only [pA, pC, pD]
         refine tkH 8 oLon_8 43 (.pointer (some ⟨BP, 3, none⟩)) hHeld (by intro w hS; dsimp only [oLon_8] at hS ⊢; go_simp) ?_
         try simp only [pA, pC, pD]
         refine tkH 9 oLon_9 44 (.slice (some ⟨g, of2, none⟩) v.st.length sc) hHeld (by intro w hS; dsimp only [oLon_9] at hS ⊢; go_simp) ?_
         try simp only [pA, pC, pD]
         refine tkH 10 oLon_10 45 (.int .i64 (k : Int)) hHeld (by intro w hS; dsimp only [oLon_10] at hS ⊢; go_simp) ?_
         try simp only [pA, pC, pD]
         refine tkH 11 oLon_11 46 (.pointer (some ⟨g, of2 + k, none⟩)) hHeld (by intro w hS; dsimp only [oLon_11] at hS ⊢; go_simp) ?_
         try simp only [pA, pC, pD]
         refine tkH 12 oLon_12 47 (.int .i64 z) hHeld (by intro w hS; dsimp only [oLon_12] at hS ⊢; go_simp) ?_
         try simp only [pA, pC, pD]
         refine tkH 13 oLon_13 48 (.bool false) hHeld (by intro w hS; dsimp only [oLon_13] at hS ⊢; go_simp) ?_
         try simp only [pA, pC, pD]
         refine tkH 14 oLon_14 49 (.bool false) hHeld (by intro w hS; dsimp only [oLon_14] at hS ⊢; go_simp) ?_
         try simp only [pA, pC, pD]
         refine tkN 15 oLon_15 50 hHeld ?_
         try simp only [pA, pC, pD]
         refine tkN 16 oLon_16 51 hHeld ?_
         try simp only [pA, pC, pD]
         refine tkN 17 oLon_17 52 hHeld ?_
         try simp only [pA, pC, pD]
         refine tkN 18 oLon_18 53 hHeld ?_
         try simp only [pA, pC, pD]
         refine tkN 19 oLon_19 54 hHeld ?_
         try simp only [pA, pC, pD]
         refine tkN 20 oLon_20 55 hHeld ?_
         try simp only [pA, pC, pD]
         refine tkN 21 oLon_21 56 hHeld ?_
         try simp only [pA, pC, pD]
         refine tkN 22 oLon_22 57 hHeld ?_
         try simp only [pA, pC, pD]
         refine tkH 23 oLon_23 58 (.bool false) hHeld (by intro w hS; dsimp only [oLon_23] at hS ⊢; go_simp) ?_
         try simp only [pA, pC, pD]
         refine tkH 24 oLon_24 59 (.bool false) hHeld (by intro w hS; dsimp only [oLon_24] at hS ⊢; go_simp) ?_
         try simp only [pA, pC, pD]
         refine tkH 25 oLon_25 8 (.bool false) hHeld (by intro w hS; dsimp only [oLon_25] at hS ⊢; go_simp) ?_
         try simp only [pA, pC, pD]
         refine wpAnyH_done (by kernel_rfl) ?_ _
         go_wp2
         go_roundw
         case rel => exact ⟨k2 + 1, by omega, by simp, by rw [HTK.out, HF.out]; simp [onB, HE.out], hidOf (HZ.out.trans ((bdrew wr).mono HZ.out.size))⟩
         case measure => simp [intOf]; omega
     ·have hkl : k2 = A.length := by omega
      subst hkl
      have hfound : (A.take A.length).any (onB job z) = true := by rw [List.take_length]; exact HAN.out
      rw [hfound]
      clear hfound
      go_wp2
      go_roundw
      case rel => exact ⟨k + 1, by omega, by simp, HBz⟩
      case measure => simp [intOf]; omega
   ·have hkl : k = v.st.length := by omega
    subst hkl
    clear HST HF1
    go_wp2
    clear t0 t1 t2 t3 t4 t5 t6 t7 t8 l0 lp p0 p1 p2 p3 p4 p5
    go_loopw [10] (fun i wr => ∃ k : Nat, k ≤ v.pl.length ∧ i = .int .i64 k ∧ Hid (Below w3.heap.size w3 wr)) (fun i _ => v.pl.length - (intOf i).toNat)
    case atStart => exact ⟨0, Nat.zero_le _, rfl, HBr⟩
    case round =>
     obtain ⟨k, hk, rfl, HBr⟩ := hrel
     by_cases hlt : k < v.pl.length
     ·obtain ⟨g, of2, hg, hQg, hcg⟩ := HF2.out.at k hlt
      have hQg' : g < w3.heap.size := hQg
      obtain ⟨hxj, hxs⟩ := HPI.out.2 v.pl[k] (List.getElem_mem hlt)
      have HNE := hidOf (fun (k2 : Nat) (h : k2 < k) => ky_ne HPI.out.1 hlt h)
      obtain ⟨x, hx⟩ : ∃ x, v.pl[k] = x := ⟨_, rfl⟩
      simp only [hx] at hcg hxj hxs HNE
      have HXJ := hidOf hxj
      have HXS := hidOf hxs
      subst hg
      clear hx hxj hxs hQg
      have hi0 : ¬ ((k : Int) < 0) := by omega
      have hi1 : (k : Int) < (v.pl.length : Int) := by omega
      have p4 : wr.cell? ⟨BP, 4, none⟩ = some (.slice (some ⟨g, of2, none⟩) v.pl.length pc) := (range_of HX3.out (HBr.out.block BP hlp3)) 4 _ rfl
      have lp : BP < wr.heap.size := lt_of_cell p4
      have hcr := range_of hcg (HBr.out.block g hQg')
      have x0 : wr.cell? ⟨g, of2 + k * 11, none⟩ = some (.int .i64 x.id) := hcr 0 _ rfl
      have x1 : wr.cell? ⟨g, of2 + k * 11 + 1, none⟩ = some (.int .i64 x.jb) := hcr 1 _ rfl
      have x2 : wr.cell? ⟨g, of2 + k * 11 + 2, none⟩ = some (.int .i64 x.ve) := hcr 2 _ rfl
      have x3 : wr.cell? ⟨g, of2 + k * 11 + 3, none⟩ = some (.int .i64 x.gr) := hcr 3 _ rfl
      have x4 : wr.cell? ⟨g, of2 + k * 11 + 4, none⟩ = some (.int .i64 x.ix) := hcr 4 _ rfl
      have x5 : wr.cell? ⟨g, of2 + k * 11 + 5, none⟩ = some (.int .i64 x.nd) := hcr 5 _ rfl
      have x6 : wr.cell? ⟨g, of2 + k * 11 + 6, none⟩ = some (.int .i64 x.ep) := hcr 6 _ rfl
      have x7 : wr.cell? ⟨g, of2 + k * 11 + 7, none⟩ = some (.int .i64 x.c) := hcr 7 _ rfl
      have x8 : wr.cell? ⟨g, of2 + k * 11 + 8, none⟩ = some (.int .i64 x.m) := hcr 8 _ rfl
      have x9 : wr.cell? ⟨g, of2 + k * 11 + 9, none⟩ = some (.bool x.sp) := hcr 9 _ rfl
      have x10 : wr.cell? ⟨g, of2 + k * 11 + 10, none⟩ = some (.int .i64 x.st) := hcr 10 _ rfl
      have lg : g < wr.heap.size := lt_of_cell x0
      clear hcr hcg
      go_upto_region 19 with (fail)
      obtain ⟨BA, hBA⟩ : ∃ BA, wr.heap.size = BA := ⟨_, rfl⟩
      obtain ⟨wq, hwq⟩ : ∃ wq, wr.alloc (.cells #[.int .i64 x.id, .int .i64 x.jb, .int .i64 x.ve, .int .i64 x.gr, .int .i64 x.ix, .int .i64 x.nd, .int .i64 x.ep, .int .i64 x.c, .int .i64 x.m, .bool x.sp, .int .i64 x.st] 42) = wq := ⟨_, rfl⟩
      have hbq := below1 wr (.cells #[.int .i64 x.id, .int .i64 x.jb, .int .i64 x.ve, .int .i64 x.gr, .int .i64 x.ix, .int .i64 x.nd, .int .i64 x.ep, .int .i64 x.c, .int .i64 x.m, .bool x.sp, .int .i64 x.st] 42)
      have hxq : (wr.alloc (.cells #[.int .i64 x.id, .int .i64 x.jb, .int .i64 x.ve, .int .i64 x.gr, .int .i64 x.ix, .int .i64 x.nd, .int .i64 x.ep, .int .i64 x.c, .int .i64 x.m, .bool x.sp, .int .i64 x.st] 42)).rangeAt wr.heap.size 0 [.int .i64 x.id, .int .i64 x.jb, .int .i64 x.ve, .int .i64 x.gr, .int .i64 x.ix, .int .i64 x.nd, .int .i64 x.ep, .int .i64 x.c, .int .i64 x.m, .bool x.sp, .int .i64 x.st] := box_new (Below.refl _ _)
      try rw [hwq]
      try rw [hBA]
      rw [hwq] at hbq hxq
      rw [hBA] at hxq
      clear hwq hBA p4 lp lg x0 x1 x2 x3 x4 x5 x6 x7 x8 x9 x10
      have HXQ := hidOf hxq
      have HBq := hidOf (HBr.out.trans (hbq.mono HBr.out.size))
      have HWq := hidOf (HW3.out.trans (HBq.out.mono HW3.out.size))
      have HS0 := hidOf (HSL.out x.gr x.ix wq HWq.out)
      rw [HXS.out] at HS0
      have hne : (x.jb != job) = false := by rw [HXJ.out]; simp
      have hge : decide ((0 : Int) ≤ -1) = false := by decide
      have t0 : wq.cell? ⟨B2, 0, none⟩ = some (.int .i64 ix) := (range_of HT3.out (HBq.out.block B2 hl23)) 0 _ rfl
      have t1 : wq.cell? ⟨B2, 1, none⟩ = some (.int .i64 nx) := (range_of HT3.out (HBq.out.block B2 hl23)) 1 _ rfl
      have t2 : wq.cell? ⟨B2, 2, none⟩ = some (.slice a2 J.length c2) := (range_of HT3.out (HBq.out.block B2 hl23)) 2 _ rfl
      have t3 : wq.cell? ⟨B2, 3, none⟩ = some (.slice a3 n3 c3) := (range_of HT3.out (HBq.out.block B2 hl23)) 3 _ rfl
      have t4 : wq.cell? ⟨B2, 4, none⟩ = some (.slice a4 Ln.length c4) := (range_of HT3.out (HBq.out.block B2 hl23)) 4 _ rfl
      have t5 : wq.cell? ⟨B2, 5, none⟩ = some (.slice a5 A.length c5) := (range_of HT3.out (HBq.out.block B2 hl23)) 5 _ rfl
      have t6 : wq.cell? ⟨B2, 6, none⟩ = some (.slice a6 E.length c6) := (range_of HT3.out (HBq.out.block B2 hl23)) 6 _ rfl
      have t7 : wq.cell? ⟨B2, 7, none⟩ = some (.slice a7 n7 c7) := (range_of HT3.out (HBq.out.block B2 hl23)) 7 _ rfl
      have t8 : wq.cell? ⟨B2, 8, none⟩ = some (.slice a8 n8 c8) := (range_of HT3.out (HBq.out.block B2 hl23)) 8 _ rfl
      have l0 : B2 < wq.heap.size := lt_of_cell t0
      have x0 : wq.cell? ⟨BA, 0, none⟩ = some (.int .i64 x.id) := HXQ.out 0 _ rfl
      have x1 : wq.cell? ⟨BA, 1, none⟩ = some (.int .i64 x.jb) := HXQ.out 1 _ rfl
      have x2 : wq.cell? ⟨BA, 2, none⟩ = some (.int .i64 x.ve) := HXQ.out 2 _ rfl
      have x3 : wq.cell? ⟨BA, 3, none⟩ = some (.int .i64 x.gr) := HXQ.out 3 _ rfl
      have x4 : wq.cell? ⟨BA, 4, none⟩ = some (.int .i64 x.ix) := HXQ.out 4 _ rfl
      have x5 : wq.cell? ⟨BA, 5, none⟩ = some (.int .i64 x.nd) := HXQ.out 5 _ rfl
      have x6 : wq.cell? ⟨BA, 6, none⟩ = some (.int .i64 x.ep) := HXQ.out 6 _ rfl
      have x7 : wq.cell? ⟨BA, 7, none⟩ = some (.int .i64 x.c) := HXQ.out 7 _ rfl
      have x8 : wq.cell? ⟨BA, 8, none⟩ = some (.int .i64 x.m) := HXQ.out 8 _ rfl
      have x9 : wq.cell? ⟨BA, 9, none⟩ = some (.bool x.sp) := HXQ.out 9 _ rfl
      have x10 : wq.cell? ⟨BA, 10, none⟩ = some (.int .i64 x.st) := HXQ.out 10 _ rfl
      have lb : BA < wq.heap.size := lt_of_cell x0
      clear hbq hxq
      go_upto_region 21 with (go_at_call 13; refine HS0.out.mono ?_; rintro e w5 ⟨rfl, hb5⟩; have HB5 := hidOf hb5; clear hb5)
      have HX5 := hidOf (range_of HXQ.out (HB5.out.block BA lb))
      have hla : BA < w5.heap.size := lt_of_cell (HX5.out 0 _ rfl)
      have HB6 := hidOf (HBq.out.trans (HB5.out.mono HBq.out.size))
      clear t0 t1 t2 t3 t4 t5 t6 t7 t8 l0 lb x0 x1 x2 x3 x4 x5 x6 x7 x8 x9 x10 hne hge
      clear HS0 HXQ HB5 HBq
      go_wp2
      go_loopw [12] (fun i wr => ∃ k2 : Nat, k2 ≤ k ∧ i = .int .i64 k2 ∧ Hid (Below w5.heap.size w5 wr)) (fun i _ => k - (intOf i).toNat)
      case atStart => exact ⟨0, Nat.zero_le _, rfl, hidOf (Below.refl _ _)⟩
      case round =>
       obtain ⟨k2, hk2, rfl, HZ⟩ := hrel
       have HBz := hidOf (HB6.out.trans (HZ.out.mono HB6.out.size))
       by_cases hl2 : k2 < k
       ·obtain ⟨g', of2', hg, hQ2, hcc⟩ := HF2.out.at k2 (by omega)
        cases hg
        have hQ2' : g < w3.heap.size := hQ2
        have hky := HNE.out k2 hl2
        obtain ⟨y, hy⟩ : ∃ y, v.pl[k2] = y := ⟨_, rfl⟩
        simp only [hy] at hcc hky
        have hcr := range_of hcc (HBz.out.block g hQ2')
        have HKY := hidOf hky
        have p4 : wr.cell? ⟨BP, 4, none⟩ = some (.slice (some ⟨g, of2, none⟩) v.pl.length pc) := (range_of HX3.out (HBz.out.block BP hlp3)) 4 _ rfl
        have lp : BP < wr.heap.size := lt_of_cell p4
        have x3 : wr.cell? ⟨BA, 3, none⟩ = some (.int .i64 x.gr) := (hb_cell HZ.out hla).trans (HX5.out 3 _ rfl)
        have x4 : wr.cell? ⟨BA, 4, none⟩ = some (.int .i64 x.ix) := (hb_cell HZ.out hla).trans (HX5.out 4 _ rfl)
        have y3 : wr.cell? ⟨g, of2 + k2 * 11 + 3, none⟩ = some (.int .i64 y.gr) := hcr 3 _ rfl
        have y4 : wr.cell? ⟨g, of2 + k2 * 11 + 4, none⟩ = some (.int .i64 y.ix) := hcr 4 _ rfl
        have la : BA < wr.heap.size := lt_of_cell x3
        have lg : g < wr.heap.size := lt_of_cell y3
        have hj0 : ¬ ((k2 : Int) < 0) := by omega
        have hj1 : (k2 : Int) < (v.pl.length : Int) := by omega
        have hk1 : (k2 : Int) < (k : Int) := by omega
        clear hcc hcr hQ2 hy hky
        go_upto_region 24 with (fail)
        by_cases he : y.gr = x.gr
        ·have hq : (y.gr == x.gr) = true := by simp [he]
         have hq2 : (y.ix == x.ix) = false := by have := HKY.out; simp; exact fun h => this ⟨he, h⟩
         clear he
         as_aux_lemma =>
          refine wp_region_held_drew (S := fun (Y : World) => Y.cell? ⟨BP, 4, none⟩ = some (.slice (some ⟨g, of2, none⟩) v.pl.length pc) ∧ Y.cell? ⟨g, of2 + k2 * 11 + 3, none⟩ = some (.int .i64 y.gr) ∧ Y.cell? ⟨BA, 3, none⟩ = some (.int .i64 x.gr) ∧ Y.cell? ⟨g, of2 + k2 * 11 + 4, none⟩ = some (.int .i64 y.ix) ∧ Y.cell? ⟨BA, 4, none⟩ = some (.int .i64 x.ix)) (by kernel_rfl) ⟨p4, y3, x3, y4, x4⟩ (fun hHeld => ?_)
          refine tkH 0 oLon_26 93 (.pointer (some ⟨BP, 4, none⟩)) hHeld (by intro w hS; dsimp only [oLon_26] at hS ⊢; go_simp) ?_
          try simp only [pA, pC, pD]
          refine tkH 1 oLon_27 94 (.slice (some ⟨g, of2, none⟩) v.pl.length pc) hHeld (by intro w hS; dsimp only [oLon_27] at hS ⊢; go_simp) ?_
          try simp only [pA, pC, pD]
          refine tkH 2 oLon_28 95 (.int .i64 (k2 : Int)) hHeld (by intro w hS; dsimp only [oLon_28] at hS ⊢; go_simp) ?_
          try simp only [pA, pC, pD]
          refine tkH 3 oLon_29 96 (.pointer (some ⟨g, of2 + k2 * 11, none⟩)) hHeld (by intro w hS; dsimp only [oLon_29] at hS ⊢; go_simp) ?_
          try simp only [pA, pC, pD]
          refine tkH 4 oLon_30 97 (.pointer (some ⟨g, of2 + k2 * 11 + 3, none⟩)) hHeld (by intro w hS; dsimp only [oLon_30] at hS ⊢; go_simp) ?_
          try simp only [pA, pC, pD]
          refine tkH 5 oLon_31 98 (.int .i64 y.gr) hHeld (by intro w hS; dsimp only [oLon_31] at hS ⊢; go_simp) ?_
          try simp only [pA, pC, pD]
          refine tkH 6 oLon_32 99 (.pointer (some ⟨BA, 3, none⟩)) hHeld (by intro w hS; dsimp only [oLon_32] at hS ⊢; go_simp) ?_
          try simp only [pA, pC, pD]
          refine tkH 7 oLon_33 100 (.int .i64 x.gr) hHeld (by intro w hS; dsimp only [oLon_33] at hS ⊢; go_simp) ?_
          try simp only [pA, pC, pD]
          refine tkH 8 oLon_34 101 (.bool true) hHeld (by intro w hS; dsimp only [oLon_34] at hS ⊢; go_simp) ?_
          try simp only [pA, pC, pD]
          refine tkH 9 oLon_35 102 (.bool true) hHeld (by intro w hS; dsimp only [oLon_35] at hS ⊢; go_simp) ?_
          try simp only [pA, pC, pD]
          refine tkH 10 oLon_36 103 (.pointer (some ⟨BP, 4, none⟩)) hHeld (by intro w hS; dsimp only [oLon_36] at hS ⊢; go_simp) ?_
          try simp only [pA, pC, pD]
          refine tkH 11 oLon_37 104 (.slice (some ⟨g, of2, none⟩) v.pl.length pc) hHeld (by intro w hS; dsimp only [oLon_37] at hS ⊢; go_simp) ?_
          try simp only [pA, pC, pD]
          refine tkH 12 oLon_38 105 (.int .i64 (k2 : Int)) hHeld (by intro w hS; dsimp only [oLon_38] at hS ⊢; go_simp) ?_
          try simp only [pA, pC, pD]
          refine tkH 13 oLon_39 106 (.pointer (some ⟨g, of2 + k2 * 11, none⟩)) hHeld (by intro w hS; dsimp only [oLon_39] at hS ⊢; go_simp) ?_
          try simp only [pA, pC, pD]
          refine tkH 14 oLon_40 107 (.pointer (some ⟨g, of2 + k2 * 11 + 4, none⟩)) hHeld (by intro w hS; dsimp only [oLon_40] at hS ⊢; go_simp) ?_
          try simp only [pA, pC, pD]
          refine tkH 15 oLon_41 108 (.int .i64 y.ix) hHeld (by intro w hS; dsimp only [oLon_41] at hS ⊢; go_simp) ?_
          try simp only [pA, pC, pD]
          refine tkH 16 oLon_42 109 (.pointer (some ⟨BA, 4, none⟩)) hHeld (by intro w hS; dsimp only [oLon_42] at hS ⊢; go_simp) ?_
          try simp only [pA, pC, pD]
          refine tkH 17 oLon_43 110 (.int .i64 x.ix) hHeld (by intro w hS; dsimp only [oLon_43] at hS ⊢; go_simp) ?_
          try simp only [pA, pC, pD]
          refine tkH 18 oLon_44 111 (.bool false) hHeld (by intro w hS; dsimp only [oLon_44] at hS ⊢; go_simp) ?_
          try simp only [pA, pC, pD]
          refine tkH 19 oLon_45 112 (.bool false) hHeld (by intro w hS; dsimp only [oLon_45] at hS ⊢; go_simp) ?_
          try simp only [pA, pC, pD]
          refine wpAnyH_done (by kernel_rfl) ?_ _
          go_wp2
          go_roundw
          case rel => exact ⟨k2 + 1, by omega, by simp, hidOf (HZ.out.trans ((bdrew wr).mono HZ.out.size))⟩
          case measure => simp [intOf]; omega
        ·have hq : (y.gr == x.gr) = false := by simp [he]
         clear he
         as_aux_lemma =>
          refine wp_region_held_drew (S := fun (Y : World) => Y.cell? ⟨BP, 4, none⟩ = some (.slice (some ⟨g, of2, none⟩) v.pl.length pc) ∧ Y.cell? ⟨g, of2 + k2 * 11 + 3, none⟩ = some (.int .i64 y.gr) ∧ Y.cell? ⟨BA, 3, none⟩ = some (.int .i64 x.gr)) (by kernel_rfl) ⟨p4, y3, x3⟩ (fun hHeld => ?_)
          refine tkH 0 oLon_26 93 (.pointer (some ⟨BP, 4, none⟩)) hHeld (by intro w hS; dsimp only [oLon_26] at hS ⊢; go_simp) ?_
          try simp only [pA, pC, pD]
          refine tkH 1 oLon_27 94 (.slice (some ⟨g, of2, none⟩) v.pl.length pc) hHeld (by intro w hS; dsimp only [oLon_27] at hS ⊢; go_simp) ?_
          try simp only [pA, pC, pD]
          refine tkH 2 oLon_28 95 (.int .i64 (k2 : Int)) hHeld (by intro w hS; dsimp only [oLon_28] at hS ⊢; go_simp) ?_
          try simp only [pA, pC, pD]
          refine tkH 3 oLon_29 96 (.pointer (some ⟨g, of2 + k2 * 11, none⟩)) hHeld (by intro w hS; dsimp only [oLon_29] at hS ⊢; go_simp) ?_
          try simp only [pA, pC, pD]
          refine tkH 4 oLon_30 97 (.pointer (some ⟨g, of2 + k2 * 11 + 3, none⟩)) hHeld (by intro w hS; dsimp only [oLon_30] at hS ⊢; go_simp) ?_
          try simp only [pA, pC, pD]
          refine tkH 5 oLon_31 98 (.int .i64 y.gr) hHeld (by intro w hS; dsimp only [oLon_31] at hS ⊢; go_simp) ?_
          try simp only [pA, pC, pD]
          refine tkH 6 oLon_32 99 (.pointer (some ⟨BA, 3, none⟩)) hHeld (by intro w hS; dsimp only [oLon_32] at hS ⊢; go_simp) ?_
          try simp only [pA, pC, pD]
          refine tkH 7 oLon_33 100 (.int .i64 x.gr) hHeld (by intro w hS; dsimp only [oLon_33] at hS ⊢; go_simp) ?_
          try simp only [pA, pC, pD]
          refine tkH 8 oLon_34 101 (.bool false) hHeld (by intro w hS; dsimp only [oLon_34] at hS ⊢; go_simp) ?_
          try simp only [pA, pC, pD]
          refine tkH 9 oLon_35 102 (.bool false) hHeld (by intro w hS; dsimp only [oLon_35] at hS ⊢; go_simp) ?_
          try simp only [pA, pC, pD]
          refine tkN 10 oLon_36 103 hHeld ?_
          try simp only [pA, pC, pD]
          refine tkN 11 oLon_37 104 hHeld ?_
          try simp only [pA, pC, pD]
          refine tkN 12 oLon_38 105 hHeld ?_
          try simp only [pA, pC, pD]
          refine tkN 13 oLon_39 106 hHeld ?_
          try simp only [pA, pC, pD]
          refine tkN 14 oLon_40 107 hHeld ?_
          try simp only [pA, pC, pD]
          refine tkN 15 oLon_41 108 hHeld ?_
          try simp only [pA, pC, pD]
          refine tkN 16 oLon_42 109 hHeld ?_
          try simp only [pA, pC, pD]
          refine tkN 17 oLon_43 110 hHeld ?_
          try simp only [pA, pC, pD]
          refine tkN 18 oLon_44 111 hHeld ?_
          try simp only [pA, pC, pD]
          refine tkH 19 oLon_45 112 (.bool false) hHeld (by intro w hS; dsimp only [oLon_45] at hS ⊢; go_simp) ?_
          try simp only [pA, pC, pD]
          refine wpAnyH_done (by kernel_rfl) ?_ _
          go_wp2
          go_roundw
          case rel => exact ⟨k2 + 1, by omega, by simp, hidOf (HZ.out.trans ((bdrew wr).mono HZ.out.size))⟩
          case measure => simp [intOf]; omega
       ·have hkl : k2 = k := by omega
        subst hkl
        go_wp2
        go_roundw
        case rel => exact ⟨k2 + 1, by omega, by simp, HBz⟩
        case measure => simp [intOf]; omega
     ·have hkl : k = v.pl.length := by omega
      subst hkl
      have p4 : wr.cell? ⟨BP, 4, none⟩ = some (.slice pa v.pl.length pc) := (range_of HX3.out (HBr.out.block BP hlp3)) 4 _ rfl
      have lp : BP < wr.heap.size := lt_of_cell p4
      go_wp2_with (go_at_call 7; refine (lives_any _).mono ?_; rintro e wl ⟨rfl, hbl⟩; have HBL := hidOf hbl; clear hbl)
      go_ret
      exact ⟨rfl, (HW3.out.trans (HBr.out.mono HW3.out.size)).trans (HBL.out.mono (by have := HW3.out.size; have := HBr.out.size; omega))⟩
end Go.Proofs.Ytblofbdncolikaa
