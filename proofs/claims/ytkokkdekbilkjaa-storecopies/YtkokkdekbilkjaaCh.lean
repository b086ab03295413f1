/- A store is changed in one place. -/
import Derived.Test.YtkokkdekbilkjaaPk
import Derived.Deep.Cut
import Derived.Deep.CutRange
import Derived.BigRegion
namespace Go.Proofs.Ytkokkdekbilkjaa
open Go.RowKit Go.Shelf
attribute [local go_sem] Oper.semAt_some
def ChP (lo : Nat) (Ex : Nat → Prop) (w : World) (e : Ending) (w' : World) : Prop := ∃ (s : Sc) (J B : List Js) (X : List Ss) (d : St), e = .returned (.agg #[.int .i64 s.ix, .int .i64 s.nx, .slice s.a2 s.n2 s.c2, .slice s.a3 s.n3 s.c3, .slice s.a4 s.n4 s.c4, .slice s.a5 s.n5 s.c5, .slice s.a6 s.n6 s.c6, .slice s.a7 s.n7 s.c7, .slice s.a8 s.n8 s.c8]) ∧ StR w' (fun b => NBr lo w' b ∧ Ex b) s J B X d ∧ Below lo w w' ∧ ∀ b, b < w.heap.size → ¬ Ex b → w'.heap[b]? = w.heap[b]?
theorem StR.lens {w : World} {S : Nat → Prop} {s : Sc} {J B : List Js} {X : List Ss} {d : St} (h : StR w S s J B X d) : StR w S ⟨s.ix, s.nx, s.a2, J.length, s.c2, s.a3, B.length, s.c3, s.a4, d.nodes.length, s.c4, s.a5, d.allocs.length, s.c5, s.a6, d.evals.length, s.c6, s.a7, d.deps.length, s.c7, s.a8, X.length, s.c8⟩ J B X d := ⟨h.ix, h.nx, ⟨rfl, rfl, rfl, rfl, rfl, rfl, rfl, h.f.f2, h.f.f3, h.f.f4, h.f.f5, h.f.f6, h.f.f7, h.f.f8⟩, h.j, h.b, h.x⟩
/- the end of the call: what was poked is copied into the result -/
theorem chg_end {lo : Nat} {Ex : Nat → Prop} {w W W9 : World} {ix nx : Int} {a2 a3 a4 a5 a6 a7 a8 : Option Addr} {n2 c2 n3 c3 n4 c4 n5 c5 n6 c6 n7 c7 n8 c8 : Nat} {J B : List Js} {X : List Ss} {d : St} (_hlo : lo ≤ w.heap.size) (ix' nx' : Int) (hs : StR w (fun b => NBr lo w b ∧ Ex b) ⟨ix, nx, a2, n2, c2, a3, n3, c3, a4, n4, c4, a5, n5, c5, a6, n6, c6, a7, n7, c7, a8, n8, c8⟩ J B X d) (hp : Pk w W) (_hb : Below lo w W) (hx : ∀ b, b < w.heap.size → ¬ Ex b → W.heap[b]? = w.heap[b]?) (hof : ∀ b, b ≠ w.heap.size + 1 → W9.heap[b]? = W.heap[b]?) (hbf : Below lo w W9) (hsz : W9.heap.size = W.heap.size) :
    ChP lo Ex w (.returned (.agg #[.int .i64 ix', .int .i64 nx', .slice a2 n2 c2, .slice a3 n3 c3, .slice a4 n4 c4, .slice a5 n5 c5, .slice a6 n6 c6, .slice a7 n7 c7, .slice a8 n8 c8])) W9 := by
  obtain ⟨J', B', X', d', h2, _, _⟩ := hs.poke (S' := fun b => (NBr lo W b ∧ Ex b) ∧ b < w.heap.size) hp (fun b hb => ⟨⟨nbr_poke hp b hb.1, hb.2⟩, hb.1.2.1⟩)
  have h3 := (h2.kept (w' := W9) (S' := fun b => NBr lo W9 b ∧ Ex b) (fun b hb => hof b (by have := hb.2; omega)) (fun b hb => ⟨⟨hb.1.1.1, by rw [hsz]; exact hb.1.1.2.1, hb.1.1.2.2.to (hof b (by have := hb.2; omega))⟩, hb.1.2⟩)).ixnx ix' nx'
  exact ⟨_, J', B', X', _, rfl, h3, hbf, fun b hb hn => (hof b (by omega)).trans (hx b hb hn)⟩
set_option maxRecDepth 100000 in
set_option maxHeartbeats 16000000 in
theorem changed_any (s : Sc) (J B : List Js) (X : List Ss) (d : St) (lo : Nat) (Ex : Nat → Prop) (wh : Int) (w : World) (hlo : lo ≤ w.heap.size) (hi1 : -9223372036854775808 ≤ wh) (hi2 : wh ≤ 9223372036854775807) (hs : StR w (fun b => NBr lo w b ∧ Ex b) s J B X d) :
    Calls Try.prog 32 #[.agg #[.int .i64 s.ix, .int .i64 s.nx, .slice s.a2 s.n2 s.c2, .slice s.a3 s.n3 s.c3, .slice s.a4 s.n4 s.c4, .slice s.a5 s.n5 s.c5, .slice s.a6 s.n6 s.c6, .slice s.a7 s.n7 s.c7, .slice s.a8 s.n8 s.c8], .int .i64 wh] w fun e w' => ChP lo Ex w e w' := by
  obtain ⟨ix, nx, a2, n2, c2, a3, n3, c3, a4, n4, c4, a5, n5, c5, a6, n6, c6, a7, n7, c7, a8, n8, c8⟩ := s
  obtain ⟨dix, dnx, dj, db, dn, da, de, dd, dx⟩ := d
  obtain ⟨h2, h3, h4, h5, h6, h7, h8⟩ : n2 = J.length ∧ n3 = B.length ∧ n4 = dn.length ∧ n5 = da.length ∧ n6 = de.length ∧ n7 = dd.length ∧ n8 = X.length := ⟨hs.f.n2, hs.f.n3, hs.f.n4, hs.f.n5, hs.f.n6, hs.f.n7, hs.f.n8⟩
  subst h2 h3 h4 h5 h6 h7 h8
  have HS := hidOf hs
  have HLO := hidOf hlo
  clear hs hlo
  dsimp only
  go_enter Try.func32, Try.ntmps32
  go_upto_if 6 with (fail)
  obtain ⟨W, hW⟩ : ∃ x, x = (w.alloc (.cells #[.int .i64 ix, .int .i64 nx, .slice a2 J.length c2, .slice a3 B.length c3, .slice a4 dn.length c4, .slice a5 da.length c5, .slice a6 de.length c6, .slice a7 dd.length c7, .slice a8 X.length c8] 29)).alloc (.cells #[.int .i64 0, .int .i64 0, .slice none 0 0, .slice none 0 0, .slice none 0 0, .slice none 0 0, .slice none 0 0, .slice none 0 0, .slice none 0 0] 29) := ⟨_, rfl⟩
  rw [← hW]
  have hbx : W.heap[w.heap.size]? = some (.cells #[.int .i64 ix, .int .i64 nx, .slice a2 J.length c2, .slice a3 B.length c3, .slice a4 dn.length c4, .slice a5 da.length c5, .slice a6 de.length c6, .slice a7 dd.length c7, .slice a8 X.length c8] 29 (0, 0)) := by rw [hW]; exact alloc_at (heap_alloc_new w _) _
  have hrx : W.heap[w.heap.size + 1]? = some (.cells #[.int .i64 0, .int .i64 0, .slice none 0 0, .slice none 0 0, .slice none 0 0, .slice none 0 0, .slice none 0 0, .slice none 0 0, .slice none 0 0] 29 (0, 0)) := by rw [hW]; have := heap_alloc_new (w.alloc (.cells #[.int .i64 ix, .int .i64 nx, .slice a2 J.length c2, .slice a3 B.length c3, .slice a4 dn.length c4, .slice a5 da.length c5, .slice a6 de.length c6, .slice a7 dd.length c7, .slice a8 X.length c8] 29)) (.cells #[.int .i64 0, .int .i64 0, .slice none 0 0, .slice none 0 0, .slice none 0 0, .slice none 0 0, .slice none 0 0, .slice none 0 0, .slice none 0 0] 29); rw [World.size_alloc] at this; exact this
  have hbw : Below w.heap.size w W := by rw [hW]; exact below2 w _ _
  have HBX := hidOf hbx
  have HRX := hidOf hrx
  have HBW := hidOf hbw
  clear hW hbx hrx hbw
  go_cut [1] from 7 to 9 (fun s wx => ∃ v : Int, s = .int .i64 v ∧ 0 ≤ v ∧ v ≤ 9223372036854775807 ∧ wx = W)
  case first =>
    by_cases hn : wh < 0
    · go_wp2
      go_meet
      case rel => exact ⟨-(wh + 1), rfl, by omega, by omega, rfl⟩
    · go_wp2
      go_meet
      case rel => exact ⟨wh, rfl, by omega, by omega, rfl⟩
  case rest =>
    obtain ⟨v, rfl, hv0, hv1, rfl⟩ := hcut
    have hm0 := Int.emod_nonneg v (show (10 : Int) ≠ 0 by decide)
    have hm1 := Int.emod_lt_of_pos v (show (0 : Int) < 10 by decide)
    have htm : v.tmod 10 = v % 10 := Int.tmod_eq_emod_of_nonneg hv0
    have HBL : Hid (Below lo w wc) := hidOf (HBW.out.mono HLO.out)
    have HPK : Hid (Pk w wc) := hidOf (Pk.bel HBW.out)
    have l0 : w.heap.size < wc.heap.size := heap_lt HBX.out
    have l1 : w.heap.size + 1 < wc.heap.size := heap_lt HRX.out
    have f0 : ∀ j, wc.frozen? ⟨w.heap.size, j, none⟩ = false := fun j => frozen_of_row wc _ j _ 29 HBX.out
    have f1 : ∀ j, wc.frozen? ⟨w.heap.size + 1, j, none⟩ = false := fun j => frozen_of_row wc _ j _ 29 HRX.out
    have x0 : wc.cell? ⟨w.heap.size, 0, none⟩ = some (.int .i64 ix) := (cell_of_row wc _ 0 _ 29 (0, 0) HBX.out).trans rfl
    have x1 : wc.cell? ⟨w.heap.size, 1, none⟩ = some (.int .i64 nx) := (cell_of_row wc _ 1 _ 29 (0, 0) HBX.out).trans rfl
    have x2 : wc.cell? ⟨w.heap.size, 2, none⟩ = some (.slice a2 J.length c2) := (cell_of_row wc _ 2 _ 29 (0, 0) HBX.out).trans rfl
    have x3 : wc.cell? ⟨w.heap.size, 3, none⟩ = some (.slice a3 B.length c3) := (cell_of_row wc _ 3 _ 29 (0, 0) HBX.out).trans rfl
    have x4 : wc.cell? ⟨w.heap.size, 4, none⟩ = some (.slice a4 dn.length c4) := (cell_of_row wc _ 4 _ 29 (0, 0) HBX.out).trans rfl
    have x5 : wc.cell? ⟨w.heap.size, 5, none⟩ = some (.slice a5 da.length c5) := (cell_of_row wc _ 5 _ 29 (0, 0) HBX.out).trans rfl
    have x6 : wc.cell? ⟨w.heap.size, 6, none⟩ = some (.slice a6 de.length c6) := (cell_of_row wc _ 6 _ 29 (0, 0) HBX.out).trans rfl
    have x7 : wc.cell? ⟨w.heap.size, 7, none⟩ = some (.slice a7 dd.length c7) := (cell_of_row wc _ 7 _ 29 (0, 0) HBX.out).trans rfl
    have x8 : wc.cell? ⟨w.heap.size, 8, none⟩ = some (.slice a8 X.length c8) := (cell_of_row wc _ 8 _ 29 (0, 0) HBX.out).trans rfl
    have r0 : wc.cell? ⟨w.heap.size + 1, 0, none⟩ = some (.int .i64 0) := (cell_of_row wc _ 0 _ 29 (0, 0) HRX.out).trans rfl
    have r1 : wc.cell? ⟨w.heap.size + 1, 1, none⟩ = some (.int .i64 0) := (cell_of_row wc _ 1 _ 29 (0, 0) HRX.out).trans rfl
    have r2 : wc.cell? ⟨w.heap.size + 1, 2, none⟩ = some (.slice none 0 0) := (cell_of_row wc _ 2 _ 29 (0, 0) HRX.out).trans rfl
    have r3 : wc.cell? ⟨w.heap.size + 1, 3, none⟩ = some (.slice none 0 0) := (cell_of_row wc _ 3 _ 29 (0, 0) HRX.out).trans rfl
    have r4 : wc.cell? ⟨w.heap.size + 1, 4, none⟩ = some (.slice none 0 0) := (cell_of_row wc _ 4 _ 29 (0, 0) HRX.out).trans rfl
    have r5 : wc.cell? ⟨w.heap.size + 1, 5, none⟩ = some (.slice none 0 0) := (cell_of_row wc _ 5 _ 29 (0, 0) HRX.out).trans rfl
    have r6 : wc.cell? ⟨w.heap.size + 1, 6, none⟩ = some (.slice none 0 0) := (cell_of_row wc _ 6 _ 29 (0, 0) HRX.out).trans rfl
    have r7 : wc.cell? ⟨w.heap.size + 1, 7, none⟩ = some (.slice none 0 0) := (cell_of_row wc _ 7 _ 29 (0, 0) HRX.out).trans rfl
    have r8 : wc.cell? ⟨w.heap.size + 1, 8, none⟩ = some (.slice none 0 0) := (cell_of_row wc _ 8 _ 29 (0, 0) HRX.out).trans rfl
    obtain hr | hr | hr | hr | hr | hr | hr | hr | hr | hr : v % 10 = 0 ∨ v % 10 = 1 ∨ v % 10 = 2 ∨ v % 10 = 3 ∨ v % 10 = 4 ∨ v % 10 = 5 ∨ v % 10 = 6 ∨ v % 10 = 7 ∨ v % 10 = 8 ∨ v % 10 = 9 := by omega
    · have hrt : v.tmod 10 = 0 := by rw [htm]; exact hr
      clear htm hr hm0 hm1
      go_wp2
      have HR2 : Hid (((wc.setCell ⟨w.heap.size, 0, none⟩ (.int .i64 (bits .xor .i64 ix 1)))).heap[w.heap.size + 1]? = some (.cells #[.int .i64 0, .int .i64 0, .slice none 0 0, .slice none 0 0, .slice none 0 0, .slice none 0 0, .slice none 0 0, .slice none 0 0, .slice none 0 0] 29 (0, 0))) := hidOf ((heap_setCell_other wc ⟨w.heap.size, 0, none⟩ (w.heap.size + 1) _ (by show w.heap.size + 1 ≠ w.heap.size; omega)).trans HRX.out)
      have HP2 : Hid (Pk w (wc.setCell ⟨w.heap.size, 0, none⟩ (.int .i64 (bits .xor .i64 ix 1)))) := hidOf (HPK.out.trans (Pk.set x0 (.inr (.inl ⟨_, _, rfl, rfl⟩))))
      have HB2 : Hid (Below lo w (wc.setCell ⟨w.heap.size, 0, none⟩ (.int .i64 (bits .xor .i64 ix 1)))) := hidOf (HBL.out.setCell (p := ⟨w.heap.size, 0, none⟩) (by show lo ≤ w.heap.size; exact HLO.out) _)
      have hr9 := set9 (w := (wc.setCell ⟨w.heap.size, 0, none⟩ (.int .i64 (bits .xor .i64 ix 1)))) (k := w.heap.size + 1) (t := 29) HR2.out (.int .i64 (bits .xor .i64 ix 1)) (.int .i64 nx) (.slice a2 J.length c2) (.slice a3 B.length c3) (.slice a4 dn.length c4) (.slice a5 da.length c5) (.slice a6 de.length c6) (.slice a7 dd.length c7) (.slice a8 X.length c8)
      have hof : ∀ b, b ≠ w.heap.size + 1 → _ = (wc.setCell ⟨w.heap.size, 0, none⟩ (.int .i64 (bits .xor .i64 ix 1))).heap[b]? := set9_other (w := (wc.setCell ⟨w.heap.size, 0, none⟩ (.int .i64 (bits .xor .i64 ix 1)))) (k := w.heap.size + 1) (.int .i64 (bits .xor .i64 ix 1)) (.int .i64 nx) (.slice a2 J.length c2) (.slice a3 B.length c3) (.slice a4 dn.length c4) (.slice a5 da.length c5) (.slice a6 de.length c6) (.slice a7 dd.length c7) (.slice a8 X.length c8)
      have hbf := set9_below (W := (wc.setCell ⟨w.heap.size, 0, none⟩ (.int .i64 (bits .xor .i64 ix 1)))) (HB2.out) (k := w.heap.size + 1) (by have := HLO.out; omega) (.int .i64 (bits .xor .i64 ix 1)) (.int .i64 nx) (.slice a2 J.length c2) (.slice a3 B.length c3) (.slice a4 dn.length c4) (.slice a5 da.length c5) (.slice a6 de.length c6) (.slice a7 dd.length c7) (.slice a8 X.length c8)
      have hsf : ((((((((((wc.setCell ⟨w.heap.size, 0, none⟩ (.int .i64 (bits .xor .i64 ix 1))).setCell ⟨w.heap.size + 1, 0, none⟩ (.int .i64 (bits .xor .i64 ix 1))).setCell ⟨w.heap.size + 1, 1, none⟩ (.int .i64 nx)).setCell ⟨w.heap.size + 1, 2, none⟩ (.slice a2 J.length c2)).setCell ⟨w.heap.size + 1, 3, none⟩ (.slice a3 B.length c3)).setCell ⟨w.heap.size + 1, 4, none⟩ (.slice a4 dn.length c4)).setCell ⟨w.heap.size + 1, 5, none⟩ (.slice a5 da.length c5)).setCell ⟨w.heap.size + 1, 6, none⟩ (.slice a6 de.length c6)).setCell ⟨w.heap.size + 1, 7, none⟩ (.slice a7 dd.length c7)).setCell ⟨w.heap.size + 1, 8, none⟩ (.slice a8 X.length c8)).heap.size = (wc.setCell ⟨w.heap.size, 0, none⟩ (.int .i64 (bits .xor .i64 ix 1))).heap.size := by simp
      have hres : ∀ tmps : Array Value, tmps.getD 4 undef = .pointer (some ⟨w.heap.size + 1, 0, none⟩) → (results Try.f32 tmps).run Try.prog ((((((((((wc.setCell ⟨w.heap.size, 0, none⟩ (.int .i64 (bits .xor .i64 ix 1))).setCell ⟨w.heap.size + 1, 0, none⟩ (.int .i64 (bits .xor .i64 ix 1))).setCell ⟨w.heap.size + 1, 1, none⟩ (.int .i64 nx)).setCell ⟨w.heap.size + 1, 2, none⟩ (.slice a2 J.length c2)).setCell ⟨w.heap.size + 1, 3, none⟩ (.slice a3 B.length c3)).setCell ⟨w.heap.size + 1, 4, none⟩ (.slice a4 dn.length c4)).setCell ⟨w.heap.size + 1, 5, none⟩ (.slice a5 da.length c5)).setCell ⟨w.heap.size + 1, 6, none⟩ (.slice a6 de.length c6)).setCell ⟨w.heap.size + 1, 7, none⟩ (.slice a7 dd.length c7)).setCell ⟨w.heap.size + 1, 8, none⟩ (.slice a8 X.length c8)) = .ok (.agg #[.int .i64 (bits .xor .i64 ix 1), .int .i64 nx, .slice a2 J.length c2, .slice a3 B.length c3, .slice a4 dn.length c4, .slice a5 da.length c5, .slice a6 de.length c6, .slice a7 dd.length c7, .slice a8 X.length c8]) ((((((((((wc.setCell ⟨w.heap.size, 0, none⟩ (.int .i64 (bits .xor .i64 ix 1))).setCell ⟨w.heap.size + 1, 0, none⟩ (.int .i64 (bits .xor .i64 ix 1))).setCell ⟨w.heap.size + 1, 1, none⟩ (.int .i64 nx)).setCell ⟨w.heap.size + 1, 2, none⟩ (.slice a2 J.length c2)).setCell ⟨w.heap.size + 1, 3, none⟩ (.slice a3 B.length c3)).setCell ⟨w.heap.size + 1, 4, none⟩ (.slice a4 dn.length c4)).setCell ⟨w.heap.size + 1, 5, none⟩ (.slice a5 da.length c5)).setCell ⟨w.heap.size + 1, 6, none⟩ (.slice a6 de.length c6)).setCell ⟨w.heap.size + 1, 7, none⟩ (.slice a7 dd.length c7)).setCell ⟨w.heap.size + 1, 8, none⟩ (.slice a8 X.length c8)) := fun tmps h => results_cell_row Try.results32 tmps _ (w.heap.size + 1) 29 #[.int .i64 (bits .xor .i64 ix 1), .int .i64 nx, .slice a2 J.length c2, .slice a3 B.length c3, .slice a4 dn.length c4, .slice a5 da.length c5, .slice a6 de.length c6, .slice a7 dd.length c7, .slice a8 X.length c8] (0, 0) _ h hr9 Try.underlying29 rfl (by kernel_rfl)
      generalize ((((((((((wc.setCell ⟨w.heap.size, 0, none⟩ (.int .i64 (bits .xor .i64 ix 1))).setCell ⟨w.heap.size + 1, 0, none⟩ (.int .i64 (bits .xor .i64 ix 1))).setCell ⟨w.heap.size + 1, 1, none⟩ (.int .i64 nx)).setCell ⟨w.heap.size + 1, 2, none⟩ (.slice a2 J.length c2)).setCell ⟨w.heap.size + 1, 3, none⟩ (.slice a3 B.length c3)).setCell ⟨w.heap.size + 1, 4, none⟩ (.slice a4 dn.length c4)).setCell ⟨w.heap.size + 1, 5, none⟩ (.slice a5 da.length c5)).setCell ⟨w.heap.size + 1, 6, none⟩ (.slice a6 de.length c6)).setCell ⟨w.heap.size + 1, 7, none⟩ (.slice a7 dd.length c7)).setCell ⟨w.heap.size + 1, 8, none⟩ (.slice a8 X.length c8)) = wf at *
      refine bodyPost_ret (hres _ ?_) ?_ ?_
      · rfl
      · rfl
      exact chg_end HLO.out _ _ HS.out (HP2.out) (HB2.out) (fun b hb _ => (heap_setCell_other wc ⟨w.heap.size, 0, none⟩ b _ (by show b ≠ w.heap.size; omega)).trans (HBW.out.block b hb)) hof hbf hsf
    · have hrt : v.tmod 10 = 1 := by rw [htm]; exact hr
      clear htm hr hm0 hm1
      go_wp2
      have HR2 : Hid (((wc.setCell ⟨w.heap.size, 1, none⟩ (.int .i64 (bits .xor .i64 nx 1)))).heap[w.heap.size + 1]? = some (.cells #[.int .i64 0, .int .i64 0, .slice none 0 0, .slice none 0 0, .slice none 0 0, .slice none 0 0, .slice none 0 0, .slice none 0 0, .slice none 0 0] 29 (0, 0))) := hidOf ((heap_setCell_other wc ⟨w.heap.size, 1, none⟩ (w.heap.size + 1) _ (by show w.heap.size + 1 ≠ w.heap.size; omega)).trans HRX.out)
      have HP2 : Hid (Pk w (wc.setCell ⟨w.heap.size, 1, none⟩ (.int .i64 (bits .xor .i64 nx 1)))) := hidOf (HPK.out.trans (Pk.set x1 (.inr (.inl ⟨_, _, rfl, rfl⟩))))
      have HB2 : Hid (Below lo w (wc.setCell ⟨w.heap.size, 1, none⟩ (.int .i64 (bits .xor .i64 nx 1)))) := hidOf (HBL.out.setCell (p := ⟨w.heap.size, 1, none⟩) (by show lo ≤ w.heap.size; exact HLO.out) _)
      have hr9 := set9 (w := (wc.setCell ⟨w.heap.size, 1, none⟩ (.int .i64 (bits .xor .i64 nx 1)))) (k := w.heap.size + 1) (t := 29) HR2.out (.int .i64 ix) (.int .i64 (bits .xor .i64 nx 1)) (.slice a2 J.length c2) (.slice a3 B.length c3) (.slice a4 dn.length c4) (.slice a5 da.length c5) (.slice a6 de.length c6) (.slice a7 dd.length c7) (.slice a8 X.length c8)
      have hof : ∀ b, b ≠ w.heap.size + 1 → _ = (wc.setCell ⟨w.heap.size, 1, none⟩ (.int .i64 (bits .xor .i64 nx 1))).heap[b]? := set9_other (w := (wc.setCell ⟨w.heap.size, 1, none⟩ (.int .i64 (bits .xor .i64 nx 1)))) (k := w.heap.size + 1) (.int .i64 ix) (.int .i64 (bits .xor .i64 nx 1)) (.slice a2 J.length c2) (.slice a3 B.length c3) (.slice a4 dn.length c4) (.slice a5 da.length c5) (.slice a6 de.length c6) (.slice a7 dd.length c7) (.slice a8 X.length c8)
      have hbf := set9_below (W := (wc.setCell ⟨w.heap.size, 1, none⟩ (.int .i64 (bits .xor .i64 nx 1)))) (HB2.out) (k := w.heap.size + 1) (by have := HLO.out; omega) (.int .i64 ix) (.int .i64 (bits .xor .i64 nx 1)) (.slice a2 J.length c2) (.slice a3 B.length c3) (.slice a4 dn.length c4) (.slice a5 da.length c5) (.slice a6 de.length c6) (.slice a7 dd.length c7) (.slice a8 X.length c8)
      have hsf : ((((((((((wc.setCell ⟨w.heap.size, 1, none⟩ (.int .i64 (bits .xor .i64 nx 1))).setCell ⟨w.heap.size + 1, 0, none⟩ (.int .i64 ix)).setCell ⟨w.heap.size + 1, 1, none⟩ (.int .i64 (bits .xor .i64 nx 1))).setCell ⟨w.heap.size + 1, 2, none⟩ (.slice a2 J.length c2)).setCell ⟨w.heap.size + 1, 3, none⟩ (.slice a3 B.length c3)).setCell ⟨w.heap.size + 1, 4, none⟩ (.slice a4 dn.length c4)).setCell ⟨w.heap.size + 1, 5, none⟩ (.slice a5 da.length c5)).setCell ⟨w.heap.size + 1, 6, none⟩ (.slice a6 de.length c6)).setCell ⟨w.heap.size + 1, 7, none⟩ (.slice a7 dd.length c7)).setCell ⟨w.heap.size + 1, 8, none⟩ (.slice a8 X.length c8)).heap.size = (wc.setCell ⟨w.heap.size, 1, none⟩ (.int .i64 (bits .xor .i64 nx 1))).heap.size := by simp
      have hres : ∀ tmps : Array Value, tmps.getD 4 undef = .pointer (some ⟨w.heap.size + 1, 0, none⟩) → (results Try.f32 tmps).run Try.prog ((((((((((wc.setCell ⟨w.heap.size, 1, none⟩ (.int .i64 (bits .xor .i64 nx 1))).setCell ⟨w.heap.size + 1, 0, none⟩ (.int .i64 ix)).setCell ⟨w.heap.size + 1, 1, none⟩ (.int .i64 (bits .xor .i64 nx 1))).setCell ⟨w.heap.size + 1, 2, none⟩ (.slice a2 J.length c2)).setCell ⟨w.heap.size + 1, 3, none⟩ (.slice a3 B.length c3)).setCell ⟨w.heap.size + 1, 4, none⟩ (.slice a4 dn.length c4)).setCell ⟨w.heap.size + 1, 5, none⟩ (.slice a5 da.length c5)).setCell ⟨w.heap.size + 1, 6, none⟩ (.slice a6 de.length c6)).setCell ⟨w.heap.size + 1, 7, none⟩ (.slice a7 dd.length c7)).setCell ⟨w.heap.size + 1, 8, none⟩ (.slice a8 X.length c8)) = .ok (.agg #[.int .i64 ix, .int .i64 (bits .xor .i64 nx 1), .slice a2 J.length c2, .slice a3 B.length c3, .slice a4 dn.length c4, .slice a5 da.length c5, .slice a6 de.length c6, .slice a7 dd.length c7, .slice a8 X.length c8]) ((((((((((wc.setCell ⟨w.heap.size, 1, none⟩ (.int .i64 (bits .xor .i64 nx 1))).setCell ⟨w.heap.size + 1, 0, none⟩ (.int .i64 ix)).setCell ⟨w.heap.size + 1, 1, none⟩ (.int .i64 (bits .xor .i64 nx 1))).setCell ⟨w.heap.size + 1, 2, none⟩ (.slice a2 J.length c2)).setCell ⟨w.heap.size + 1, 3, none⟩ (.slice a3 B.length c3)).setCell ⟨w.heap.size + 1, 4, none⟩ (.slice a4 dn.length c4)).setCell ⟨w.heap.size + 1, 5, none⟩ (.slice a5 da.length c5)).setCell ⟨w.heap.size + 1, 6, none⟩ (.slice a6 de.length c6)).setCell ⟨w.heap.size + 1, 7, none⟩ (.slice a7 dd.length c7)).setCell ⟨w.heap.size + 1, 8, none⟩ (.slice a8 X.length c8)) := fun tmps h => results_cell_row Try.results32 tmps _ (w.heap.size + 1) 29 #[.int .i64 ix, .int .i64 (bits .xor .i64 nx 1), .slice a2 J.length c2, .slice a3 B.length c3, .slice a4 dn.length c4, .slice a5 da.length c5, .slice a6 de.length c6, .slice a7 dd.length c7, .slice a8 X.length c8] (0, 0) _ h hr9 Try.underlying29 rfl (by kernel_rfl)
      generalize ((((((((((wc.setCell ⟨w.heap.size, 1, none⟩ (.int .i64 (bits .xor .i64 nx 1))).setCell ⟨w.heap.size + 1, 0, none⟩ (.int .i64 ix)).setCell ⟨w.heap.size + 1, 1, none⟩ (.int .i64 (bits .xor .i64 nx 1))).setCell ⟨w.heap.size + 1, 2, none⟩ (.slice a2 J.length c2)).setCell ⟨w.heap.size + 1, 3, none⟩ (.slice a3 B.length c3)).setCell ⟨w.heap.size + 1, 4, none⟩ (.slice a4 dn.length c4)).setCell ⟨w.heap.size + 1, 5, none⟩ (.slice a5 da.length c5)).setCell ⟨w.heap.size + 1, 6, none⟩ (.slice a6 de.length c6)).setCell ⟨w.heap.size + 1, 7, none⟩ (.slice a7 dd.length c7)).setCell ⟨w.heap.size + 1, 8, none⟩ (.slice a8 X.length c8)) = wf at *
      refine bodyPost_ret (hres _ ?_) ?_ ?_
      · rfl
      · rfl
      exact chg_end HLO.out _ _ HS.out (HP2.out) (HB2.out) (fun b hb _ => (heap_setCell_other wc ⟨w.heap.size, 1, none⟩ b _ (by show b ≠ w.heap.size; omega)).trans (HBW.out.block b hb)) hof hbf hsf
    · have hrt : v.tmod 10 = 2 := by rw [htm]; exact hr
      clear htm hr hm0 hm1
      by_cases hne : 0 < J.length
      · obtain ⟨p, o, ha, hnx, hc⟩ := HS.out.f.f2.pl (by intro e; (try simp only at e); rw [e] at hne; simp at hne)
        have hn := hnx.1
        have HEX := hidOf hnx.2
        clear hnx
        (try simp only at ha)
        subst ha
        have hcr := range_of (hc 0 hne) (HBW.out.block p hn.2.1)
        rw [Nat.zero_mul, Nat.add_zero] at hcr
        have hnw : Uf wc p := hn.2.2.to (HBW.out.block p hn.2.1)
        have lp : p < wc.heap.size := Nat.lt_of_lt_of_le hn.2.1 HBW.out.size
        have fp : ∀ j, wc.frozen? ⟨p, j, none⟩ = false := fun j => by obtain ⟨cs, t, hq⟩ := hnw; exact frozen_of_row wc p j cs t hq
        have HNP := hidOf hn.1
        have hpw : p < w.heap.size := hn.2.1
        have h64 : (0 : Int) < (J.length : Int) := by omega
        have ePN : w.heap.size + 1 ≠ p := by omega
        have ePM : w.heap.size ≠ p := by omega
        generalize J[0] = x at *
        have pc : wc.cell? ⟨p, o + 6, none⟩ = some (.bool x.sd) := hcr 6 _ rfl
        clear hcr hn hc hnw hne
        go_upto_region 10 with (fail)
        go_region
        obtain ⟨W2, hW2⟩ : ∃ yy, yy = (wc.setCell ⟨p, o + 6, none⟩ (.bool (!x.sd))).drew := ⟨_, rfl⟩
        rw [← hW2]
        have HB2 : Hid (Below lo w W2) := hidOf (by rw [hW2]; exact (HBL.out.setCell (p := ⟨p, o + 6, none⟩) HNP.out _).trans ((bdrew _).mono (by simp; have := HLO.out; omega)))
        have HP2 : Hid (Pk w W2) := hidOf (by rw [hW2]; exact (HPK.out.trans (Pk.set pc (.inr (.inr ⟨_, _, rfl, rfl⟩)))).trans (Pk.bel (bdrew _)))
        have HX2 : Hid (W2.heap[w.heap.size]? = some (.cells #[.int .i64 ix, .int .i64 nx, .slice (some ⟨p, o, none⟩) J.length c2, .slice a3 B.length c3, .slice a4 dn.length c4, .slice a5 da.length c5, .slice a6 de.length c6, .slice a7 dd.length c7, .slice a8 X.length c8] 29 (0, 0))) := hidOf (by rw [hW2]; exact (heap_setCell_other wc ⟨p, o + 6, none⟩ _ _ ePM).trans HBX.out)
        have HR2 : Hid (W2.heap[w.heap.size + 1]? = some (.cells #[.int .i64 0, .int .i64 0, .slice none 0 0, .slice none 0 0, .slice none 0 0, .slice none 0 0, .slice none 0 0, .slice none 0 0, .slice none 0 0] 29 (0, 0))) := hidOf (by rw [hW2]; exact (heap_setCell_other wc ⟨p, o + 6, none⟩ _ _ ePN).trans HRX.out)
        have HX3 : Hid (∀ b, b < w.heap.size → ¬ Ex b → W2.heap[b]? = w.heap[b]?) := hidOf (fun b hb hn => by rw [hW2]; exact (heap_setCell_other wc ⟨p, o + 6, none⟩ b _ (fun e => hn (by have e2 : b = p := e; rw [e2]; exact HEX.out))).trans (HBW.out.block b hb))
        clear hW2 pc fp lp l0 l1 f0 f1 x0 r0 x1 r1 x2 r2 x3 r3 x4 r4 x5 r5 x6 r6 x7 r7 x8 r8
        have l1 : w.heap.size + 1 < W2.heap.size := heap_lt HR2.out
        have l0 : w.heap.size < W2.heap.size := heap_lt HX2.out
        have f1 : ∀ j, W2.frozen? ⟨w.heap.size + 1, j, none⟩ = false := fun j => frozen_of_row W2 _ j _ 29 HR2.out
        have x0 : W2.cell? ⟨w.heap.size, 0, none⟩ = some (.int .i64 ix) := (cell_of_row W2 _ 0 _ 29 (0, 0) HX2.out).trans rfl
        have x1 : W2.cell? ⟨w.heap.size, 1, none⟩ = some (.int .i64 nx) := (cell_of_row W2 _ 1 _ 29 (0, 0) HX2.out).trans rfl
        have x2 : W2.cell? ⟨w.heap.size, 2, none⟩ = some (.slice (some ⟨p, o, none⟩) J.length c2) := (cell_of_row W2 _ 2 _ 29 (0, 0) HX2.out).trans rfl
        have x3 : W2.cell? ⟨w.heap.size, 3, none⟩ = some (.slice a3 B.length c3) := (cell_of_row W2 _ 3 _ 29 (0, 0) HX2.out).trans rfl
        have x4 : W2.cell? ⟨w.heap.size, 4, none⟩ = some (.slice a4 dn.length c4) := (cell_of_row W2 _ 4 _ 29 (0, 0) HX2.out).trans rfl
        have x5 : W2.cell? ⟨w.heap.size, 5, none⟩ = some (.slice a5 da.length c5) := (cell_of_row W2 _ 5 _ 29 (0, 0) HX2.out).trans rfl
        have x6 : W2.cell? ⟨w.heap.size, 6, none⟩ = some (.slice a6 de.length c6) := (cell_of_row W2 _ 6 _ 29 (0, 0) HX2.out).trans rfl
        have x7 : W2.cell? ⟨w.heap.size, 7, none⟩ = some (.slice a7 dd.length c7) := (cell_of_row W2 _ 7 _ 29 (0, 0) HX2.out).trans rfl
        have x8 : W2.cell? ⟨w.heap.size, 8, none⟩ = some (.slice a8 X.length c8) := (cell_of_row W2 _ 8 _ 29 (0, 0) HX2.out).trans rfl
        have r0 : W2.cell? ⟨w.heap.size + 1, 0, none⟩ = some (.int .i64 0) := (cell_of_row W2 _ 0 _ 29 (0, 0) HR2.out).trans rfl
        have r1 : W2.cell? ⟨w.heap.size + 1, 1, none⟩ = some (.int .i64 0) := (cell_of_row W2 _ 1 _ 29 (0, 0) HR2.out).trans rfl
        have r2 : W2.cell? ⟨w.heap.size + 1, 2, none⟩ = some (.slice none 0 0) := (cell_of_row W2 _ 2 _ 29 (0, 0) HR2.out).trans rfl
        have r3 : W2.cell? ⟨w.heap.size + 1, 3, none⟩ = some (.slice none 0 0) := (cell_of_row W2 _ 3 _ 29 (0, 0) HR2.out).trans rfl
        have r4 : W2.cell? ⟨w.heap.size + 1, 4, none⟩ = some (.slice none 0 0) := (cell_of_row W2 _ 4 _ 29 (0, 0) HR2.out).trans rfl
        have r5 : W2.cell? ⟨w.heap.size + 1, 5, none⟩ = some (.slice none 0 0) := (cell_of_row W2 _ 5 _ 29 (0, 0) HR2.out).trans rfl
        have r6 : W2.cell? ⟨w.heap.size + 1, 6, none⟩ = some (.slice none 0 0) := (cell_of_row W2 _ 6 _ 29 (0, 0) HR2.out).trans rfl
        have r7 : W2.cell? ⟨w.heap.size + 1, 7, none⟩ = some (.slice none 0 0) := (cell_of_row W2 _ 7 _ 29 (0, 0) HR2.out).trans rfl
        have r8 : W2.cell? ⟨w.heap.size + 1, 8, none⟩ = some (.slice none 0 0) := (cell_of_row W2 _ 8 _ 29 (0, 0) HR2.out).trans rfl
        go_wp2
        have hr9 := set9 (w := W2) (k := w.heap.size + 1) (t := 29) HR2.out (.int .i64 ix) (.int .i64 nx) (.slice (some ⟨p, o, none⟩) J.length c2) (.slice a3 B.length c3) (.slice a4 dn.length c4) (.slice a5 da.length c5) (.slice a6 de.length c6) (.slice a7 dd.length c7) (.slice a8 X.length c8)
        have hof : ∀ b, b ≠ w.heap.size + 1 → _ = W2.heap[b]? := set9_other (w := W2) (k := w.heap.size + 1) (.int .i64 ix) (.int .i64 nx) (.slice (some ⟨p, o, none⟩) J.length c2) (.slice a3 B.length c3) (.slice a4 dn.length c4) (.slice a5 da.length c5) (.slice a6 de.length c6) (.slice a7 dd.length c7) (.slice a8 X.length c8)
        have hbf := set9_below (W := W2) (HB2.out) (k := w.heap.size + 1) (by have := HLO.out; omega) (.int .i64 ix) (.int .i64 nx) (.slice (some ⟨p, o, none⟩) J.length c2) (.slice a3 B.length c3) (.slice a4 dn.length c4) (.slice a5 da.length c5) (.slice a6 de.length c6) (.slice a7 dd.length c7) (.slice a8 X.length c8)
        have hsf : (((((((((W2.setCell ⟨w.heap.size + 1, 0, none⟩ (.int .i64 ix)).setCell ⟨w.heap.size + 1, 1, none⟩ (.int .i64 nx)).setCell ⟨w.heap.size + 1, 2, none⟩ (.slice (some ⟨p, o, none⟩) J.length c2)).setCell ⟨w.heap.size + 1, 3, none⟩ (.slice a3 B.length c3)).setCell ⟨w.heap.size + 1, 4, none⟩ (.slice a4 dn.length c4)).setCell ⟨w.heap.size + 1, 5, none⟩ (.slice a5 da.length c5)).setCell ⟨w.heap.size + 1, 6, none⟩ (.slice a6 de.length c6)).setCell ⟨w.heap.size + 1, 7, none⟩ (.slice a7 dd.length c7)).setCell ⟨w.heap.size + 1, 8, none⟩ (.slice a8 X.length c8)).heap.size = W2.heap.size := by simp
        have hres : ∀ tmps : Array Value, tmps.getD 4 undef = .pointer (some ⟨w.heap.size + 1, 0, none⟩) → (results Try.f32 tmps).run Try.prog (((((((((W2.setCell ⟨w.heap.size + 1, 0, none⟩ (.int .i64 ix)).setCell ⟨w.heap.size + 1, 1, none⟩ (.int .i64 nx)).setCell ⟨w.heap.size + 1, 2, none⟩ (.slice (some ⟨p, o, none⟩) J.length c2)).setCell ⟨w.heap.size + 1, 3, none⟩ (.slice a3 B.length c3)).setCell ⟨w.heap.size + 1, 4, none⟩ (.slice a4 dn.length c4)).setCell ⟨w.heap.size + 1, 5, none⟩ (.slice a5 da.length c5)).setCell ⟨w.heap.size + 1, 6, none⟩ (.slice a6 de.length c6)).setCell ⟨w.heap.size + 1, 7, none⟩ (.slice a7 dd.length c7)).setCell ⟨w.heap.size + 1, 8, none⟩ (.slice a8 X.length c8)) = .ok (.agg #[.int .i64 ix, .int .i64 nx, .slice (some ⟨p, o, none⟩) J.length c2, .slice a3 B.length c3, .slice a4 dn.length c4, .slice a5 da.length c5, .slice a6 de.length c6, .slice a7 dd.length c7, .slice a8 X.length c8]) (((((((((W2.setCell ⟨w.heap.size + 1, 0, none⟩ (.int .i64 ix)).setCell ⟨w.heap.size + 1, 1, none⟩ (.int .i64 nx)).setCell ⟨w.heap.size + 1, 2, none⟩ (.slice (some ⟨p, o, none⟩) J.length c2)).setCell ⟨w.heap.size + 1, 3, none⟩ (.slice a3 B.length c3)).setCell ⟨w.heap.size + 1, 4, none⟩ (.slice a4 dn.length c4)).setCell ⟨w.heap.size + 1, 5, none⟩ (.slice a5 da.length c5)).setCell ⟨w.heap.size + 1, 6, none⟩ (.slice a6 de.length c6)).setCell ⟨w.heap.size + 1, 7, none⟩ (.slice a7 dd.length c7)).setCell ⟨w.heap.size + 1, 8, none⟩ (.slice a8 X.length c8)) := fun tmps h => results_cell_row Try.results32 tmps _ (w.heap.size + 1) 29 #[.int .i64 ix, .int .i64 nx, .slice (some ⟨p, o, none⟩) J.length c2, .slice a3 B.length c3, .slice a4 dn.length c4, .slice a5 da.length c5, .slice a6 de.length c6, .slice a7 dd.length c7, .slice a8 X.length c8] (0, 0) _ h hr9 Try.underlying29 rfl (by kernel_rfl)
        generalize (((((((((W2.setCell ⟨w.heap.size + 1, 0, none⟩ (.int .i64 ix)).setCell ⟨w.heap.size + 1, 1, none⟩ (.int .i64 nx)).setCell ⟨w.heap.size + 1, 2, none⟩ (.slice (some ⟨p, o, none⟩) J.length c2)).setCell ⟨w.heap.size + 1, 3, none⟩ (.slice a3 B.length c3)).setCell ⟨w.heap.size + 1, 4, none⟩ (.slice a4 dn.length c4)).setCell ⟨w.heap.size + 1, 5, none⟩ (.slice a5 da.length c5)).setCell ⟨w.heap.size + 1, 6, none⟩ (.slice a6 de.length c6)).setCell ⟨w.heap.size + 1, 7, none⟩ (.slice a7 dd.length c7)).setCell ⟨w.heap.size + 1, 8, none⟩ (.slice a8 X.length c8)) = wf at *
        refine bodyPost_ret (hres _ ?_) ?_ ?_
        · rfl
        · rfl
        exact chg_end HLO.out _ _ HS.out (HP2.out) (HB2.out) HX3.out hof hbf hsf
      · have b0 : decide (0 < (J.length : Int)) = false := decide_eq_false (by omega)
        have b1 : decide (0 < J.length) = false := decide_eq_false (by omega)
        clear hne
        go_wp2
        have hr9 := set9 (w := wc) (k := w.heap.size + 1) (t := 29) HRX.out (.int .i64 ix) (.int .i64 nx) (.slice a2 J.length c2) (.slice a3 B.length c3) (.slice a4 dn.length c4) (.slice a5 da.length c5) (.slice a6 de.length c6) (.slice a7 dd.length c7) (.slice a8 X.length c8)
        have hof : ∀ b, b ≠ w.heap.size + 1 → _ = wc.heap[b]? := set9_other (w := wc) (k := w.heap.size + 1) (.int .i64 ix) (.int .i64 nx) (.slice a2 J.length c2) (.slice a3 B.length c3) (.slice a4 dn.length c4) (.slice a5 da.length c5) (.slice a6 de.length c6) (.slice a7 dd.length c7) (.slice a8 X.length c8)
        have hbf := set9_below (W := wc) (HBL.out) (k := w.heap.size + 1) (by have := HLO.out; omega) (.int .i64 ix) (.int .i64 nx) (.slice a2 J.length c2) (.slice a3 B.length c3) (.slice a4 dn.length c4) (.slice a5 da.length c5) (.slice a6 de.length c6) (.slice a7 dd.length c7) (.slice a8 X.length c8)
        have hsf : (((((((((wc.setCell ⟨w.heap.size + 1, 0, none⟩ (.int .i64 ix)).setCell ⟨w.heap.size + 1, 1, none⟩ (.int .i64 nx)).setCell ⟨w.heap.size + 1, 2, none⟩ (.slice a2 J.length c2)).setCell ⟨w.heap.size + 1, 3, none⟩ (.slice a3 B.length c3)).setCell ⟨w.heap.size + 1, 4, none⟩ (.slice a4 dn.length c4)).setCell ⟨w.heap.size + 1, 5, none⟩ (.slice a5 da.length c5)).setCell ⟨w.heap.size + 1, 6, none⟩ (.slice a6 de.length c6)).setCell ⟨w.heap.size + 1, 7, none⟩ (.slice a7 dd.length c7)).setCell ⟨w.heap.size + 1, 8, none⟩ (.slice a8 X.length c8)).heap.size = wc.heap.size := by simp
        have hres : ∀ tmps : Array Value, tmps.getD 4 undef = .pointer (some ⟨w.heap.size + 1, 0, none⟩) → (results Try.f32 tmps).run Try.prog (((((((((wc.setCell ⟨w.heap.size + 1, 0, none⟩ (.int .i64 ix)).setCell ⟨w.heap.size + 1, 1, none⟩ (.int .i64 nx)).setCell ⟨w.heap.size + 1, 2, none⟩ (.slice a2 J.length c2)).setCell ⟨w.heap.size + 1, 3, none⟩ (.slice a3 B.length c3)).setCell ⟨w.heap.size + 1, 4, none⟩ (.slice a4 dn.length c4)).setCell ⟨w.heap.size + 1, 5, none⟩ (.slice a5 da.length c5)).setCell ⟨w.heap.size + 1, 6, none⟩ (.slice a6 de.length c6)).setCell ⟨w.heap.size + 1, 7, none⟩ (.slice a7 dd.length c7)).setCell ⟨w.heap.size + 1, 8, none⟩ (.slice a8 X.length c8)) = .ok (.agg #[.int .i64 ix, .int .i64 nx, .slice a2 J.length c2, .slice a3 B.length c3, .slice a4 dn.length c4, .slice a5 da.length c5, .slice a6 de.length c6, .slice a7 dd.length c7, .slice a8 X.length c8]) (((((((((wc.setCell ⟨w.heap.size + 1, 0, none⟩ (.int .i64 ix)).setCell ⟨w.heap.size + 1, 1, none⟩ (.int .i64 nx)).setCell ⟨w.heap.size + 1, 2, none⟩ (.slice a2 J.length c2)).setCell ⟨w.heap.size + 1, 3, none⟩ (.slice a3 B.length c3)).setCell ⟨w.heap.size + 1, 4, none⟩ (.slice a4 dn.length c4)).setCell ⟨w.heap.size + 1, 5, none⟩ (.slice a5 da.length c5)).setCell ⟨w.heap.size + 1, 6, none⟩ (.slice a6 de.length c6)).setCell ⟨w.heap.size + 1, 7, none⟩ (.slice a7 dd.length c7)).setCell ⟨w.heap.size + 1, 8, none⟩ (.slice a8 X.length c8)) := fun tmps h => results_cell_row Try.results32 tmps _ (w.heap.size + 1) 29 #[.int .i64 ix, .int .i64 nx, .slice a2 J.length c2, .slice a3 B.length c3, .slice a4 dn.length c4, .slice a5 da.length c5, .slice a6 de.length c6, .slice a7 dd.length c7, .slice a8 X.length c8] (0, 0) _ h hr9 Try.underlying29 rfl (by kernel_rfl)
        generalize (((((((((wc.setCell ⟨w.heap.size + 1, 0, none⟩ (.int .i64 ix)).setCell ⟨w.heap.size + 1, 1, none⟩ (.int .i64 nx)).setCell ⟨w.heap.size + 1, 2, none⟩ (.slice a2 J.length c2)).setCell ⟨w.heap.size + 1, 3, none⟩ (.slice a3 B.length c3)).setCell ⟨w.heap.size + 1, 4, none⟩ (.slice a4 dn.length c4)).setCell ⟨w.heap.size + 1, 5, none⟩ (.slice a5 da.length c5)).setCell ⟨w.heap.size + 1, 6, none⟩ (.slice a6 de.length c6)).setCell ⟨w.heap.size + 1, 7, none⟩ (.slice a7 dd.length c7)).setCell ⟨w.heap.size + 1, 8, none⟩ (.slice a8 X.length c8)) = wf at *
        refine bodyPost_ret (hres _ ?_) ?_ ?_
        · rfl
        · rfl
        exact chg_end HLO.out _ _ HS.out (HPK.out) (HBL.out) (fun b hb _ => HBW.out.block b hb) hof hbf hsf
    · have hrt : v.tmod 10 = 3 := by rw [htm]; exact hr
      clear htm hr hm0 hm1
      by_cases hne : 0 < J.length
      · obtain ⟨p, o, ha, hnx, hc⟩ := HS.out.f.f2.pl (by intro e; (try simp only at e); rw [e] at hne; simp at hne)
        have hn := hnx.1
        have HEX := hidOf hnx.2
        clear hnx
        (try simp only at ha)
        subst ha
        have hcr := range_of (hc 0 hne) (HBW.out.block p hn.2.1)
        rw [Nat.zero_mul, Nat.add_zero] at hcr
        have hnw : Uf wc p := hn.2.2.to (HBW.out.block p hn.2.1)
        have lp : p < wc.heap.size := Nat.lt_of_lt_of_le hn.2.1 HBW.out.size
        have fp : ∀ j, wc.frozen? ⟨p, j, none⟩ = false := fun j => by obtain ⟨cs, t, hq⟩ := hnw; exact frozen_of_row wc p j cs t hq
        have HNP := hidOf hn.1
        have hpw : p < w.heap.size := hn.2.1
        have h64 : (0 : Int) < (J.length : Int) := by omega
        have ePN : w.heap.size + 1 ≠ p := by omega
        have ePM : w.heap.size ≠ p := by omega
        have hd0 : 0 < dj.length := by have := HS.out.j.len; dsimp only at this; omega
        obtain ⟨ga, gc, hsh, hG⟩ := HS.out.j.dp 0 hne hd0
        rw [hsh] at hcr
        have hgl : dj[0].gs.length ≤ 140737488355328 := by have := hG.bd; dsimp only at this; omega
        have HG := hidOf hG
        clear hG hsh
        dsimp only at HG hgl
        generalize dj[0] = x at *
        have pc : wc.cell? ⟨p, o + 4, none⟩ = some (.slice ga x.gs.length gc) := hcr 4 _ rfl
        clear hcr hn hc hnw hne
        by_cases hge : 0 < x.gs.length
        · obtain ⟨g, og, hga, hngx, hcg⟩ := HG.out.pl (by intro e; rw [e] at hge; simp at hge)
          have hng := hngx.1
          replace HEX := hidOf hngx.2
          clear hngx
          subst hga
          have hgr := range_of (hcg 0 hge) (HBW.out.block g hng.2.1)
          rw [Nat.zero_mul, Nat.add_zero] at hgr
          have hng2 : Uf wc g := hng.2.2.to (HBW.out.block g hng.2.1)
          have lg : g < wc.heap.size := Nat.lt_of_lt_of_le hng.2.1 HBW.out.size
          have fg : ∀ j, wc.frozen? ⟨g, j, none⟩ = false := fun j => by obtain ⟨cs, t, hq⟩ := hng2; exact frozen_of_row wc g j cs t hq
          replace HNP := hidOf hng.1
          have hgw : g < w.heap.size := hng.2.1
          have h65 : (0 : Int) < (x.gs.length : Int) := by omega
          have ePNg : w.heap.size + 1 ≠ g := by omega
          have ePMg : w.heap.size ≠ g := by omega
          generalize x.gs[0] = y at *
          have pg : wc.cell? ⟨g, og, none⟩ = some (.int .i64 y.n) := hgr 0 _ rfl
          clear hgr hng hcg hng2 hge
          go_upto_region 13 with (fail)
          go_region
          clear pc fg lg
          obtain ⟨W2, hW2⟩ : ∃ yy, yy = (wc.setCell ⟨g, og, none⟩ (.int .i64 (bits .xor .i64 y.n 1))).drew := ⟨_, rfl⟩
          rw [← hW2]
          have HB2 : Hid (Below lo w W2) := hidOf (by rw [hW2]; exact (HBL.out.setCell (p := ⟨g, og, none⟩) HNP.out _).trans ((bdrew _).mono (by simp; have := HLO.out; omega)))
          have HP2 : Hid (Pk w W2) := hidOf (by rw [hW2]; exact (HPK.out.trans (Pk.set pg (.inr (.inl ⟨_, _, rfl, rfl⟩)))).trans (Pk.bel (bdrew _)))
          have HX2 : Hid (W2.heap[w.heap.size]? = some (.cells #[.int .i64 ix, .int .i64 nx, .slice (some ⟨p, o, none⟩) J.length c2, .slice a3 B.length c3, .slice a4 dn.length c4, .slice a5 da.length c5, .slice a6 de.length c6, .slice a7 dd.length c7, .slice a8 X.length c8] 29 (0, 0))) := hidOf (by rw [hW2]; exact (heap_setCell_other wc ⟨g, og, none⟩ _ _ ePMg).trans HBX.out)
          have HR2 : Hid (W2.heap[w.heap.size + 1]? = some (.cells #[.int .i64 0, .int .i64 0, .slice none 0 0, .slice none 0 0, .slice none 0 0, .slice none 0 0, .slice none 0 0, .slice none 0 0, .slice none 0 0] 29 (0, 0))) := hidOf (by rw [hW2]; exact (heap_setCell_other wc ⟨g, og, none⟩ _ _ ePNg).trans HRX.out)
          have HX3 : Hid (∀ b, b < w.heap.size → ¬ Ex b → W2.heap[b]? = w.heap[b]?) := hidOf (fun b hb hn => by rw [hW2]; exact (heap_setCell_other wc ⟨g, og, none⟩ b _ (fun e => hn (by have e2 : b = g := e; rw [e2]; exact HEX.out))).trans (HBW.out.block b hb))
          clear hW2 pg fp lp l0 l1 f0 f1 x0 r0 x1 r1 x2 r2 x3 r3 x4 r4 x5 r5 x6 r6 x7 r7 x8 r8
          have l1 : w.heap.size + 1 < W2.heap.size := heap_lt HR2.out
          have l0 : w.heap.size < W2.heap.size := heap_lt HX2.out
          have f1 : ∀ j, W2.frozen? ⟨w.heap.size + 1, j, none⟩ = false := fun j => frozen_of_row W2 _ j _ 29 HR2.out
          have x0 : W2.cell? ⟨w.heap.size, 0, none⟩ = some (.int .i64 ix) := (cell_of_row W2 _ 0 _ 29 (0, 0) HX2.out).trans rfl
          have x1 : W2.cell? ⟨w.heap.size, 1, none⟩ = some (.int .i64 nx) := (cell_of_row W2 _ 1 _ 29 (0, 0) HX2.out).trans rfl
          have x2 : W2.cell? ⟨w.heap.size, 2, none⟩ = some (.slice (some ⟨p, o, none⟩) J.length c2) := (cell_of_row W2 _ 2 _ 29 (0, 0) HX2.out).trans rfl
          have x3 : W2.cell? ⟨w.heap.size, 3, none⟩ = some (.slice a3 B.length c3) := (cell_of_row W2 _ 3 _ 29 (0, 0) HX2.out).trans rfl
          have x4 : W2.cell? ⟨w.heap.size, 4, none⟩ = some (.slice a4 dn.length c4) := (cell_of_row W2 _ 4 _ 29 (0, 0) HX2.out).trans rfl
          have x5 : W2.cell? ⟨w.heap.size, 5, none⟩ = some (.slice a5 da.length c5) := (cell_of_row W2 _ 5 _ 29 (0, 0) HX2.out).trans rfl
          have x6 : W2.cell? ⟨w.heap.size, 6, none⟩ = some (.slice a6 de.length c6) := (cell_of_row W2 _ 6 _ 29 (0, 0) HX2.out).trans rfl
          have x7 : W2.cell? ⟨w.heap.size, 7, none⟩ = some (.slice a7 dd.length c7) := (cell_of_row W2 _ 7 _ 29 (0, 0) HX2.out).trans rfl
          have x8 : W2.cell? ⟨w.heap.size, 8, none⟩ = some (.slice a8 X.length c8) := (cell_of_row W2 _ 8 _ 29 (0, 0) HX2.out).trans rfl
          have r0 : W2.cell? ⟨w.heap.size + 1, 0, none⟩ = some (.int .i64 0) := (cell_of_row W2 _ 0 _ 29 (0, 0) HR2.out).trans rfl
          have r1 : W2.cell? ⟨w.heap.size + 1, 1, none⟩ = some (.int .i64 0) := (cell_of_row W2 _ 1 _ 29 (0, 0) HR2.out).trans rfl
          have r2 : W2.cell? ⟨w.heap.size + 1, 2, none⟩ = some (.slice none 0 0) := (cell_of_row W2 _ 2 _ 29 (0, 0) HR2.out).trans rfl
          have r3 : W2.cell? ⟨w.heap.size + 1, 3, none⟩ = some (.slice none 0 0) := (cell_of_row W2 _ 3 _ 29 (0, 0) HR2.out).trans rfl
          have r4 : W2.cell? ⟨w.heap.size + 1, 4, none⟩ = some (.slice none 0 0) := (cell_of_row W2 _ 4 _ 29 (0, 0) HR2.out).trans rfl
          have r5 : W2.cell? ⟨w.heap.size + 1, 5, none⟩ = some (.slice none 0 0) := (cell_of_row W2 _ 5 _ 29 (0, 0) HR2.out).trans rfl
          have r6 : W2.cell? ⟨w.heap.size + 1, 6, none⟩ = some (.slice none 0 0) := (cell_of_row W2 _ 6 _ 29 (0, 0) HR2.out).trans rfl
          have r7 : W2.cell? ⟨w.heap.size + 1, 7, none⟩ = some (.slice none 0 0) := (cell_of_row W2 _ 7 _ 29 (0, 0) HR2.out).trans rfl
          have r8 : W2.cell? ⟨w.heap.size + 1, 8, none⟩ = some (.slice none 0 0) := (cell_of_row W2 _ 8 _ 29 (0, 0) HR2.out).trans rfl
          go_wp2
          have hr9 := set9 (w := W2) (k := w.heap.size + 1) (t := 29) HR2.out (.int .i64 ix) (.int .i64 nx) (.slice (some ⟨p, o, none⟩) J.length c2) (.slice a3 B.length c3) (.slice a4 dn.length c4) (.slice a5 da.length c5) (.slice a6 de.length c6) (.slice a7 dd.length c7) (.slice a8 X.length c8)
          have hof : ∀ b, b ≠ w.heap.size + 1 → _ = W2.heap[b]? := set9_other (w := W2) (k := w.heap.size + 1) (.int .i64 ix) (.int .i64 nx) (.slice (some ⟨p, o, none⟩) J.length c2) (.slice a3 B.length c3) (.slice a4 dn.length c4) (.slice a5 da.length c5) (.slice a6 de.length c6) (.slice a7 dd.length c7) (.slice a8 X.length c8)
          have hbf := set9_below (W := W2) (HB2.out) (k := w.heap.size + 1) (by have := HLO.out; omega) (.int .i64 ix) (.int .i64 nx) (.slice (some ⟨p, o, none⟩) J.length c2) (.slice a3 B.length c3) (.slice a4 dn.length c4) (.slice a5 da.length c5) (.slice a6 de.length c6) (.slice a7 dd.length c7) (.slice a8 X.length c8)
          have hsf : (((((((((W2.setCell ⟨w.heap.size + 1, 0, none⟩ (.int .i64 ix)).setCell ⟨w.heap.size + 1, 1, none⟩ (.int .i64 nx)).setCell ⟨w.heap.size + 1, 2, none⟩ (.slice (some ⟨p, o, none⟩) J.length c2)).setCell ⟨w.heap.size + 1, 3, none⟩ (.slice a3 B.length c3)).setCell ⟨w.heap.size + 1, 4, none⟩ (.slice a4 dn.length c4)).setCell ⟨w.heap.size + 1, 5, none⟩ (.slice a5 da.length c5)).setCell ⟨w.heap.size + 1, 6, none⟩ (.slice a6 de.length c6)).setCell ⟨w.heap.size + 1, 7, none⟩ (.slice a7 dd.length c7)).setCell ⟨w.heap.size + 1, 8, none⟩ (.slice a8 X.length c8)).heap.size = W2.heap.size := by simp
          have hres : ∀ tmps : Array Value, tmps.getD 4 undef = .pointer (some ⟨w.heap.size + 1, 0, none⟩) → (results Try.f32 tmps).run Try.prog (((((((((W2.setCell ⟨w.heap.size + 1, 0, none⟩ (.int .i64 ix)).setCell ⟨w.heap.size + 1, 1, none⟩ (.int .i64 nx)).setCell ⟨w.heap.size + 1, 2, none⟩ (.slice (some ⟨p, o, none⟩) J.length c2)).setCell ⟨w.heap.size + 1, 3, none⟩ (.slice a3 B.length c3)).setCell ⟨w.heap.size + 1, 4, none⟩ (.slice a4 dn.length c4)).setCell ⟨w.heap.size + 1, 5, none⟩ (.slice a5 da.length c5)).setCell ⟨w.heap.size + 1, 6, none⟩ (.slice a6 de.length c6)).setCell ⟨w.heap.size + 1, 7, none⟩ (.slice a7 dd.length c7)).setCell ⟨w.heap.size + 1, 8, none⟩ (.slice a8 X.length c8)) = .ok (.agg #[.int .i64 ix, .int .i64 nx, .slice (some ⟨p, o, none⟩) J.length c2, .slice a3 B.length c3, .slice a4 dn.length c4, .slice a5 da.length c5, .slice a6 de.length c6, .slice a7 dd.length c7, .slice a8 X.length c8]) (((((((((W2.setCell ⟨w.heap.size + 1, 0, none⟩ (.int .i64 ix)).setCell ⟨w.heap.size + 1, 1, none⟩ (.int .i64 nx)).setCell ⟨w.heap.size + 1, 2, none⟩ (.slice (some ⟨p, o, none⟩) J.length c2)).setCell ⟨w.heap.size + 1, 3, none⟩ (.slice a3 B.length c3)).setCell ⟨w.heap.size + 1, 4, none⟩ (.slice a4 dn.length c4)).setCell ⟨w.heap.size + 1, 5, none⟩ (.slice a5 da.length c5)).setCell ⟨w.heap.size + 1, 6, none⟩ (.slice a6 de.length c6)).setCell ⟨w.heap.size + 1, 7, none⟩ (.slice a7 dd.length c7)).setCell ⟨w.heap.size + 1, 8, none⟩ (.slice a8 X.length c8)) := fun tmps h => results_cell_row Try.results32 tmps _ (w.heap.size + 1) 29 #[.int .i64 ix, .int .i64 nx, .slice (some ⟨p, o, none⟩) J.length c2, .slice a3 B.length c3, .slice a4 dn.length c4, .slice a5 da.length c5, .slice a6 de.length c6, .slice a7 dd.length c7, .slice a8 X.length c8] (0, 0) _ h hr9 Try.underlying29 rfl (by kernel_rfl)
          generalize (((((((((W2.setCell ⟨w.heap.size + 1, 0, none⟩ (.int .i64 ix)).setCell ⟨w.heap.size + 1, 1, none⟩ (.int .i64 nx)).setCell ⟨w.heap.size + 1, 2, none⟩ (.slice (some ⟨p, o, none⟩) J.length c2)).setCell ⟨w.heap.size + 1, 3, none⟩ (.slice a3 B.length c3)).setCell ⟨w.heap.size + 1, 4, none⟩ (.slice a4 dn.length c4)).setCell ⟨w.heap.size + 1, 5, none⟩ (.slice a5 da.length c5)).setCell ⟨w.heap.size + 1, 6, none⟩ (.slice a6 de.length c6)).setCell ⟨w.heap.size + 1, 7, none⟩ (.slice a7 dd.length c7)).setCell ⟨w.heap.size + 1, 8, none⟩ (.slice a8 X.length c8)) = wf at *
          refine bodyPost_ret (hres _ ?_) ?_ ?_
          · rfl
          · rfl
          exact chg_end HLO.out _ _ HS.out (HP2.out) (HB2.out) HX3.out hof hbf hsf
        · have b2 : decide (0 < (x.gs.length : Int)) = false := decide_eq_false (by omega)
          have b3 : decide (0 < x.gs.length) = false := decide_eq_false (by omega)
          clear hge
          go_wp2
          have hr9 := set9 (w := wc) (k := w.heap.size + 1) (t := 29) HRX.out (.int .i64 ix) (.int .i64 nx) (.slice (some ⟨p, o, none⟩) J.length c2) (.slice a3 B.length c3) (.slice a4 dn.length c4) (.slice a5 da.length c5) (.slice a6 de.length c6) (.slice a7 dd.length c7) (.slice a8 X.length c8)
          have hof : ∀ b, b ≠ w.heap.size + 1 → _ = wc.heap[b]? := set9_other (w := wc) (k := w.heap.size + 1) (.int .i64 ix) (.int .i64 nx) (.slice (some ⟨p, o, none⟩) J.length c2) (.slice a3 B.length c3) (.slice a4 dn.length c4) (.slice a5 da.length c5) (.slice a6 de.length c6) (.slice a7 dd.length c7) (.slice a8 X.length c8)
          have hbf := set9_below (W := wc) (HBL.out) (k := w.heap.size + 1) (by have := HLO.out; omega) (.int .i64 ix) (.int .i64 nx) (.slice (some ⟨p, o, none⟩) J.length c2) (.slice a3 B.length c3) (.slice a4 dn.length c4) (.slice a5 da.length c5) (.slice a6 de.length c6) (.slice a7 dd.length c7) (.slice a8 X.length c8)
          have hsf : (((((((((wc.setCell ⟨w.heap.size + 1, 0, none⟩ (.int .i64 ix)).setCell ⟨w.heap.size + 1, 1, none⟩ (.int .i64 nx)).setCell ⟨w.heap.size + 1, 2, none⟩ (.slice (some ⟨p, o, none⟩) J.length c2)).setCell ⟨w.heap.size + 1, 3, none⟩ (.slice a3 B.length c3)).setCell ⟨w.heap.size + 1, 4, none⟩ (.slice a4 dn.length c4)).setCell ⟨w.heap.size + 1, 5, none⟩ (.slice a5 da.length c5)).setCell ⟨w.heap.size + 1, 6, none⟩ (.slice a6 de.length c6)).setCell ⟨w.heap.size + 1, 7, none⟩ (.slice a7 dd.length c7)).setCell ⟨w.heap.size + 1, 8, none⟩ (.slice a8 X.length c8)).heap.size = wc.heap.size := by simp
          have hres : ∀ tmps : Array Value, tmps.getD 4 undef = .pointer (some ⟨w.heap.size + 1, 0, none⟩) → (results Try.f32 tmps).run Try.prog (((((((((wc.setCell ⟨w.heap.size + 1, 0, none⟩ (.int .i64 ix)).setCell ⟨w.heap.size + 1, 1, none⟩ (.int .i64 nx)).setCell ⟨w.heap.size + 1, 2, none⟩ (.slice (some ⟨p, o, none⟩) J.length c2)).setCell ⟨w.heap.size + 1, 3, none⟩ (.slice a3 B.length c3)).setCell ⟨w.heap.size + 1, 4, none⟩ (.slice a4 dn.length c4)).setCell ⟨w.heap.size + 1, 5, none⟩ (.slice a5 da.length c5)).setCell ⟨w.heap.size + 1, 6, none⟩ (.slice a6 de.length c6)).setCell ⟨w.heap.size + 1, 7, none⟩ (.slice a7 dd.length c7)).setCell ⟨w.heap.size + 1, 8, none⟩ (.slice a8 X.length c8)) = .ok (.agg #[.int .i64 ix, .int .i64 nx, .slice (some ⟨p, o, none⟩) J.length c2, .slice a3 B.length c3, .slice a4 dn.length c4, .slice a5 da.length c5, .slice a6 de.length c6, .slice a7 dd.length c7, .slice a8 X.length c8]) (((((((((wc.setCell ⟨w.heap.size + 1, 0, none⟩ (.int .i64 ix)).setCell ⟨w.heap.size + 1, 1, none⟩ (.int .i64 nx)).setCell ⟨w.heap.size + 1, 2, none⟩ (.slice (some ⟨p, o, none⟩) J.length c2)).setCell ⟨w.heap.size + 1, 3, none⟩ (.slice a3 B.length c3)).setCell ⟨w.heap.size + 1, 4, none⟩ (.slice a4 dn.length c4)).setCell ⟨w.heap.size + 1, 5, none⟩ (.slice a5 da.length c5)).setCell ⟨w.heap.size + 1, 6, none⟩ (.slice a6 de.length c6)).setCell ⟨w.heap.size + 1, 7, none⟩ (.slice a7 dd.length c7)).setCell ⟨w.heap.size + 1, 8, none⟩ (.slice a8 X.length c8)) := fun tmps h => results_cell_row Try.results32 tmps _ (w.heap.size + 1) 29 #[.int .i64 ix, .int .i64 nx, .slice (some ⟨p, o, none⟩) J.length c2, .slice a3 B.length c3, .slice a4 dn.length c4, .slice a5 da.length c5, .slice a6 de.length c6, .slice a7 dd.length c7, .slice a8 X.length c8] (0, 0) _ h hr9 Try.underlying29 rfl (by kernel_rfl)
          generalize (((((((((wc.setCell ⟨w.heap.size + 1, 0, none⟩ (.int .i64 ix)).setCell ⟨w.heap.size + 1, 1, none⟩ (.int .i64 nx)).setCell ⟨w.heap.size + 1, 2, none⟩ (.slice (some ⟨p, o, none⟩) J.length c2)).setCell ⟨w.heap.size + 1, 3, none⟩ (.slice a3 B.length c3)).setCell ⟨w.heap.size + 1, 4, none⟩ (.slice a4 dn.length c4)).setCell ⟨w.heap.size + 1, 5, none⟩ (.slice a5 da.length c5)).setCell ⟨w.heap.size + 1, 6, none⟩ (.slice a6 de.length c6)).setCell ⟨w.heap.size + 1, 7, none⟩ (.slice a7 dd.length c7)).setCell ⟨w.heap.size + 1, 8, none⟩ (.slice a8 X.length c8)) = wf at *
          refine bodyPost_ret (hres _ ?_) ?_ ?_
          · rfl
          · rfl
          exact chg_end HLO.out _ _ HS.out (HPK.out) (HBL.out) (fun b hb _ => HBW.out.block b hb) hof hbf hsf
      · have b0 : decide (0 < (J.length : Int)) = false := decide_eq_false (by omega)
        have b1 : decide (0 < J.length) = false := decide_eq_false (by omega)
        clear hne
        go_wp2
        have hr9 := set9 (w := wc) (k := w.heap.size + 1) (t := 29) HRX.out (.int .i64 ix) (.int .i64 nx) (.slice a2 J.length c2) (.slice a3 B.length c3) (.slice a4 dn.length c4) (.slice a5 da.length c5) (.slice a6 de.length c6) (.slice a7 dd.length c7) (.slice a8 X.length c8)
        have hof : ∀ b, b ≠ w.heap.size + 1 → _ = wc.heap[b]? := set9_other (w := wc) (k := w.heap.size + 1) (.int .i64 ix) (.int .i64 nx) (.slice a2 J.length c2) (.slice a3 B.length c3) (.slice a4 dn.length c4) (.slice a5 da.length c5) (.slice a6 de.length c6) (.slice a7 dd.length c7) (.slice a8 X.length c8)
        have hbf := set9_below (W := wc) (HBL.out) (k := w.heap.size + 1) (by have := HLO.out; omega) (.int .i64 ix) (.int .i64 nx) (.slice a2 J.length c2) (.slice a3 B.length c3) (.slice a4 dn.length c4) (.slice a5 da.length c5) (.slice a6 de.length c6) (.slice a7 dd.length c7) (.slice a8 X.length c8)
        have hsf : (((((((((wc.setCell ⟨w.heap.size + 1, 0, none⟩ (.int .i64 ix)).setCell ⟨w.heap.size + 1, 1, none⟩ (.int .i64 nx)).setCell ⟨w.heap.size + 1, 2, none⟩ (.slice a2 J.length c2)).setCell ⟨w.heap.size + 1, 3, none⟩ (.slice a3 B.length c3)).setCell ⟨w.heap.size + 1, 4, none⟩ (.slice a4 dn.length c4)).setCell ⟨w.heap.size + 1, 5, none⟩ (.slice a5 da.length c5)).setCell ⟨w.heap.size + 1, 6, none⟩ (.slice a6 de.length c6)).setCell ⟨w.heap.size + 1, 7, none⟩ (.slice a7 dd.length c7)).setCell ⟨w.heap.size + 1, 8, none⟩ (.slice a8 X.length c8)).heap.size = wc.heap.size := by simp
        have hres : ∀ tmps : Array Value, tmps.getD 4 undef = .pointer (some ⟨w.heap.size + 1, 0, none⟩) → (results Try.f32 tmps).run Try.prog (((((((((wc.setCell ⟨w.heap.size + 1, 0, none⟩ (.int .i64 ix)).setCell ⟨w.heap.size + 1, 1, none⟩ (.int .i64 nx)).setCell ⟨w.heap.size + 1, 2, none⟩ (.slice a2 J.length c2)).setCell ⟨w.heap.size + 1, 3, none⟩ (.slice a3 B.length c3)).setCell ⟨w.heap.size + 1, 4, none⟩ (.slice a4 dn.length c4)).setCell ⟨w.heap.size + 1, 5, none⟩ (.slice a5 da.length c5)).setCell ⟨w.heap.size + 1, 6, none⟩ (.slice a6 de.length c6)).setCell ⟨w.heap.size + 1, 7, none⟩ (.slice a7 dd.length c7)).setCell ⟨w.heap.size + 1, 8, none⟩ (.slice a8 X.length c8)) = .ok (.agg #[.int .i64 ix, .int .i64 nx, .slice a2 J.length c2, .slice a3 B.length c3, .slice a4 dn.length c4, .slice a5 da.length c5, .slice a6 de.length c6, .slice a7 dd.length c7, .slice a8 X.length c8]) (((((((((wc.setCell ⟨w.heap.size + 1, 0, none⟩ (.int .i64 ix)).setCell ⟨w.heap.size + 1, 1, none⟩ (.int .i64 nx)).setCell ⟨w.heap.size + 1, 2, none⟩ (.slice a2 J.length c2)).setCell ⟨w.heap.size + 1, 3, none⟩ (.slice a3 B.length c3)).setCell ⟨w.heap.size + 1, 4, none⟩ (.slice a4 dn.length c4)).setCell ⟨w.heap.size + 1, 5, none⟩ (.slice a5 da.length c5)).setCell ⟨w.heap.size + 1, 6, none⟩ (.slice a6 de.length c6)).setCell ⟨w.heap.size + 1, 7, none⟩ (.slice a7 dd.length c7)).setCell ⟨w.heap.size + 1, 8, none⟩ (.slice a8 X.length c8)) := fun tmps h => results_cell_row Try.results32 tmps _ (w.heap.size + 1) 29 #[.int .i64 ix, .int .i64 nx, .slice a2 J.length c2, .slice a3 B.length c3, .slice a4 dn.length c4, .slice a5 da.length c5, .slice a6 de.length c6, .slice a7 dd.length c7, .slice a8 X.length c8] (0, 0) _ h hr9 Try.underlying29 rfl (by kernel_rfl)
        generalize (((((((((wc.setCell ⟨w.heap.size + 1, 0, none⟩ (.int .i64 ix)).setCell ⟨w.heap.size + 1, 1, none⟩ (.int .i64 nx)).setCell ⟨w.heap.size + 1, 2, none⟩ (.slice a2 J.length c2)).setCell ⟨w.heap.size + 1, 3, none⟩ (.slice a3 B.length c3)).setCell ⟨w.heap.size + 1, 4, none⟩ (.slice a4 dn.length c4)).setCell ⟨w.heap.size + 1, 5, none⟩ (.slice a5 da.length c5)).setCell ⟨w.heap.size + 1, 6, none⟩ (.slice a6 de.length c6)).setCell ⟨w.heap.size + 1, 7, none⟩ (.slice a7 dd.length c7)).setCell ⟨w.heap.size + 1, 8, none⟩ (.slice a8 X.length c8)) = wf at *
        refine bodyPost_ret (hres _ ?_) ?_ ?_
        · rfl
        · rfl
        exact chg_end HLO.out _ _ HS.out (HPK.out) (HBL.out) (fun b hb _ => HBW.out.block b hb) hof hbf hsf
    · have hrt : v.tmod 10 = 4 := by rw [htm]; exact hr
      clear htm hr hm0 hm1
      by_cases hne : 0 < B.length
      · obtain ⟨p, o, ha, hnx, hc⟩ := HS.out.f.f3.pl (by intro e; (try simp only at e); rw [e] at hne; simp at hne)
        have hn := hnx.1
        have HEX := hidOf hnx.2
        clear hnx
        (try simp only at ha)
        subst ha
        have hcr := range_of (hc 0 hne) (HBW.out.block p hn.2.1)
        rw [Nat.zero_mul, Nat.add_zero] at hcr
        have hnw : Uf wc p := hn.2.2.to (HBW.out.block p hn.2.1)
        have lp : p < wc.heap.size := Nat.lt_of_lt_of_le hn.2.1 HBW.out.size
        have fp : ∀ j, wc.frozen? ⟨p, j, none⟩ = false := fun j => by obtain ⟨cs, t, hq⟩ := hnw; exact frozen_of_row wc p j cs t hq
        have HNP := hidOf hn.1
        have hpw : p < w.heap.size := hn.2.1
        have h64 : (0 : Int) < (B.length : Int) := by omega
        have ePN : w.heap.size + 1 ≠ p := by omega
        have ePM : w.heap.size ≠ p := by omega
        generalize B[0] = x at *
        have pc : wc.cell? ⟨p, o + 5, none⟩ = some (.int .i64 x.ve) := hcr 5 _ rfl
        clear hcr hn hc hnw hne
        go_upto_region 16 with (fail)
        go_region
        obtain ⟨W2, hW2⟩ : ∃ yy, yy = (wc.setCell ⟨p, o + 5, none⟩ (.int .i64 (bits .xor .i64 x.ve 1))).drew := ⟨_, rfl⟩
        rw [← hW2]
        have HB2 : Hid (Below lo w W2) := hidOf (by rw [hW2]; exact (HBL.out.setCell (p := ⟨p, o + 5, none⟩) HNP.out _).trans ((bdrew _).mono (by simp; have := HLO.out; omega)))
        have HP2 : Hid (Pk w W2) := hidOf (by rw [hW2]; exact (HPK.out.trans (Pk.set pc (.inr (.inl ⟨_, _, rfl, rfl⟩)))).trans (Pk.bel (bdrew _)))
        have HX2 : Hid (W2.heap[w.heap.size]? = some (.cells #[.int .i64 ix, .int .i64 nx, .slice a2 J.length c2, .slice (some ⟨p, o, none⟩) B.length c3, .slice a4 dn.length c4, .slice a5 da.length c5, .slice a6 de.length c6, .slice a7 dd.length c7, .slice a8 X.length c8] 29 (0, 0))) := hidOf (by rw [hW2]; exact (heap_setCell_other wc ⟨p, o + 5, none⟩ _ _ ePM).trans HBX.out)
        have HR2 : Hid (W2.heap[w.heap.size + 1]? = some (.cells #[.int .i64 0, .int .i64 0, .slice none 0 0, .slice none 0 0, .slice none 0 0, .slice none 0 0, .slice none 0 0, .slice none 0 0, .slice none 0 0] 29 (0, 0))) := hidOf (by rw [hW2]; exact (heap_setCell_other wc ⟨p, o + 5, none⟩ _ _ ePN).trans HRX.out)
        have HX3 : Hid (∀ b, b < w.heap.size → ¬ Ex b → W2.heap[b]? = w.heap[b]?) := hidOf (fun b hb hn => by rw [hW2]; exact (heap_setCell_other wc ⟨p, o + 5, none⟩ b _ (fun e => hn (by have e2 : b = p := e; rw [e2]; exact HEX.out))).trans (HBW.out.block b hb))
        clear hW2 pc fp lp l0 l1 f0 f1 x0 r0 x1 r1 x2 r2 x3 r3 x4 r4 x5 r5 x6 r6 x7 r7 x8 r8
        have l1 : w.heap.size + 1 < W2.heap.size := heap_lt HR2.out
        have l0 : w.heap.size < W2.heap.size := heap_lt HX2.out
        have f1 : ∀ j, W2.frozen? ⟨w.heap.size + 1, j, none⟩ = false := fun j => frozen_of_row W2 _ j _ 29 HR2.out
        have x0 : W2.cell? ⟨w.heap.size, 0, none⟩ = some (.int .i64 ix) := (cell_of_row W2 _ 0 _ 29 (0, 0) HX2.out).trans rfl
        have x1 : W2.cell? ⟨w.heap.size, 1, none⟩ = some (.int .i64 nx) := (cell_of_row W2 _ 1 _ 29 (0, 0) HX2.out).trans rfl
        have x2 : W2.cell? ⟨w.heap.size, 2, none⟩ = some (.slice a2 J.length c2) := (cell_of_row W2 _ 2 _ 29 (0, 0) HX2.out).trans rfl
        have x3 : W2.cell? ⟨w.heap.size, 3, none⟩ = some (.slice (some ⟨p, o, none⟩) B.length c3) := (cell_of_row W2 _ 3 _ 29 (0, 0) HX2.out).trans rfl
        have x4 : W2.cell? ⟨w.heap.size, 4, none⟩ = some (.slice a4 dn.length c4) := (cell_of_row W2 _ 4 _ 29 (0, 0) HX2.out).trans rfl
        have x5 : W2.cell? ⟨w.heap.size, 5, none⟩ = some (.slice a5 da.length c5) := (cell_of_row W2 _ 5 _ 29 (0, 0) HX2.out).trans rfl
        have x6 : W2.cell? ⟨w.heap.size, 6, none⟩ = some (.slice a6 de.length c6) := (cell_of_row W2 _ 6 _ 29 (0, 0) HX2.out).trans rfl
        have x7 : W2.cell? ⟨w.heap.size, 7, none⟩ = some (.slice a7 dd.length c7) := (cell_of_row W2 _ 7 _ 29 (0, 0) HX2.out).trans rfl
        have x8 : W2.cell? ⟨w.heap.size, 8, none⟩ = some (.slice a8 X.length c8) := (cell_of_row W2 _ 8 _ 29 (0, 0) HX2.out).trans rfl
        have r0 : W2.cell? ⟨w.heap.size + 1, 0, none⟩ = some (.int .i64 0) := (cell_of_row W2 _ 0 _ 29 (0, 0) HR2.out).trans rfl
        have r1 : W2.cell? ⟨w.heap.size + 1, 1, none⟩ = some (.int .i64 0) := (cell_of_row W2 _ 1 _ 29 (0, 0) HR2.out).trans rfl
        have r2 : W2.cell? ⟨w.heap.size + 1, 2, none⟩ = some (.slice none 0 0) := (cell_of_row W2 _ 2 _ 29 (0, 0) HR2.out).trans rfl
        have r3 : W2.cell? ⟨w.heap.size + 1, 3, none⟩ = some (.slice none 0 0) := (cell_of_row W2 _ 3 _ 29 (0, 0) HR2.out).trans rfl
        have r4 : W2.cell? ⟨w.heap.size + 1, 4, none⟩ = some (.slice none 0 0) := (cell_of_row W2 _ 4 _ 29 (0, 0) HR2.out).trans rfl
        have r5 : W2.cell? ⟨w.heap.size + 1, 5, none⟩ = some (.slice none 0 0) := (cell_of_row W2 _ 5 _ 29 (0, 0) HR2.out).trans rfl
        have r6 : W2.cell? ⟨w.heap.size + 1, 6, none⟩ = some (.slice none 0 0) := (cell_of_row W2 _ 6 _ 29 (0, 0) HR2.out).trans rfl
        have r7 : W2.cell? ⟨w.heap.size + 1, 7, none⟩ = some (.slice none 0 0) := (cell_of_row W2 _ 7 _ 29 (0, 0) HR2.out).trans rfl
        have r8 : W2.cell? ⟨w.heap.size + 1, 8, none⟩ = some (.slice none 0 0) := (cell_of_row W2 _ 8 _ 29 (0, 0) HR2.out).trans rfl
        go_wp2
        have hr9 := set9 (w := W2) (k := w.heap.size + 1) (t := 29) HR2.out (.int .i64 ix) (.int .i64 nx) (.slice a2 J.length c2) (.slice (some ⟨p, o, none⟩) B.length c3) (.slice a4 dn.length c4) (.slice a5 da.length c5) (.slice a6 de.length c6) (.slice a7 dd.length c7) (.slice a8 X.length c8)
        have hof : ∀ b, b ≠ w.heap.size + 1 → _ = W2.heap[b]? := set9_other (w := W2) (k := w.heap.size + 1) (.int .i64 ix) (.int .i64 nx) (.slice a2 J.length c2) (.slice (some ⟨p, o, none⟩) B.length c3) (.slice a4 dn.length c4) (.slice a5 da.length c5) (.slice a6 de.length c6) (.slice a7 dd.length c7) (.slice a8 X.length c8)
        have hbf := set9_below (W := W2) (HB2.out) (k := w.heap.size + 1) (by have := HLO.out; omega) (.int .i64 ix) (.int .i64 nx) (.slice a2 J.length c2) (.slice (some ⟨p, o, none⟩) B.length c3) (.slice a4 dn.length c4) (.slice a5 da.length c5) (.slice a6 de.length c6) (.slice a7 dd.length c7) (.slice a8 X.length c8)
        have hsf : (((((((((W2.setCell ⟨w.heap.size + 1, 0, none⟩ (.int .i64 ix)).setCell ⟨w.heap.size + 1, 1, none⟩ (.int .i64 nx)).setCell ⟨w.heap.size + 1, 2, none⟩ (.slice a2 J.length c2)).setCell ⟨w.heap.size + 1, 3, none⟩ (.slice (some ⟨p, o, none⟩) B.length c3)).setCell ⟨w.heap.size + 1, 4, none⟩ (.slice a4 dn.length c4)).setCell ⟨w.heap.size + 1, 5, none⟩ (.slice a5 da.length c5)).setCell ⟨w.heap.size + 1, 6, none⟩ (.slice a6 de.length c6)).setCell ⟨w.heap.size + 1, 7, none⟩ (.slice a7 dd.length c7)).setCell ⟨w.heap.size + 1, 8, none⟩ (.slice a8 X.length c8)).heap.size = W2.heap.size := by simp
        have hres : ∀ tmps : Array Value, tmps.getD 4 undef = .pointer (some ⟨w.heap.size + 1, 0, none⟩) → (results Try.f32 tmps).run Try.prog (((((((((W2.setCell ⟨w.heap.size + 1, 0, none⟩ (.int .i64 ix)).setCell ⟨w.heap.size + 1, 1, none⟩ (.int .i64 nx)).setCell ⟨w.heap.size + 1, 2, none⟩ (.slice a2 J.length c2)).setCell ⟨w.heap.size + 1, 3, none⟩ (.slice (some ⟨p, o, none⟩) B.length c3)).setCell ⟨w.heap.size + 1, 4, none⟩ (.slice a4 dn.length c4)).setCell ⟨w.heap.size + 1, 5, none⟩ (.slice a5 da.length c5)).setCell ⟨w.heap.size + 1, 6, none⟩ (.slice a6 de.length c6)).setCell ⟨w.heap.size + 1, 7, none⟩ (.slice a7 dd.length c7)).setCell ⟨w.heap.size + 1, 8, none⟩ (.slice a8 X.length c8)) = .ok (.agg #[.int .i64 ix, .int .i64 nx, .slice a2 J.length c2, .slice (some ⟨p, o, none⟩) B.length c3, .slice a4 dn.length c4, .slice a5 da.length c5, .slice a6 de.length c6, .slice a7 dd.length c7, .slice a8 X.length c8]) (((((((((W2.setCell ⟨w.heap.size + 1, 0, none⟩ (.int .i64 ix)).setCell ⟨w.heap.size + 1, 1, none⟩ (.int .i64 nx)).setCell ⟨w.heap.size + 1, 2, none⟩ (.slice a2 J.length c2)).setCell ⟨w.heap.size + 1, 3, none⟩ (.slice (some ⟨p, o, none⟩) B.length c3)).setCell ⟨w.heap.size + 1, 4, none⟩ (.slice a4 dn.length c4)).setCell ⟨w.heap.size + 1, 5, none⟩ (.slice a5 da.length c5)).setCell ⟨w.heap.size + 1, 6, none⟩ (.slice a6 de.length c6)).setCell ⟨w.heap.size + 1, 7, none⟩ (.slice a7 dd.length c7)).setCell ⟨w.heap.size + 1, 8, none⟩ (.slice a8 X.length c8)) := fun tmps h => results_cell_row Try.results32 tmps _ (w.heap.size + 1) 29 #[.int .i64 ix, .int .i64 nx, .slice a2 J.length c2, .slice (some ⟨p, o, none⟩) B.length c3, .slice a4 dn.length c4, .slice a5 da.length c5, .slice a6 de.length c6, .slice a7 dd.length c7, .slice a8 X.length c8] (0, 0) _ h hr9 Try.underlying29 rfl (by kernel_rfl)
        generalize (((((((((W2.setCell ⟨w.heap.size + 1, 0, none⟩ (.int .i64 ix)).setCell ⟨w.heap.size + 1, 1, none⟩ (.int .i64 nx)).setCell ⟨w.heap.size + 1, 2, none⟩ (.slice a2 J.length c2)).setCell ⟨w.heap.size + 1, 3, none⟩ (.slice (some ⟨p, o, none⟩) B.length c3)).setCell ⟨w.heap.size + 1, 4, none⟩ (.slice a4 dn.length c4)).setCell ⟨w.heap.size + 1, 5, none⟩ (.slice a5 da.length c5)).setCell ⟨w.heap.size + 1, 6, none⟩ (.slice a6 de.length c6)).setCell ⟨w.heap.size + 1, 7, none⟩ (.slice a7 dd.length c7)).setCell ⟨w.heap.size + 1, 8, none⟩ (.slice a8 X.length c8)) = wf at *
        refine bodyPost_ret (hres _ ?_) ?_ ?_
        · rfl
        · rfl
        exact chg_end HLO.out _ _ HS.out (HP2.out) (HB2.out) HX3.out hof hbf hsf
      · have b0 : decide (0 < (B.length : Int)) = false := decide_eq_false (by omega)
        have b1 : decide (0 < B.length) = false := decide_eq_false (by omega)
        clear hne
        go_wp2
        have hr9 := set9 (w := wc) (k := w.heap.size + 1) (t := 29) HRX.out (.int .i64 ix) (.int .i64 nx) (.slice a2 J.length c2) (.slice a3 B.length c3) (.slice a4 dn.length c4) (.slice a5 da.length c5) (.slice a6 de.length c6) (.slice a7 dd.length c7) (.slice a8 X.length c8)
        have hof : ∀ b, b ≠ w.heap.size + 1 → _ = wc.heap[b]? := set9_other (w := wc) (k := w.heap.size + 1) (.int .i64 ix) (.int .i64 nx) (.slice a2 J.length c2) (.slice a3 B.length c3) (.slice a4 dn.length c4) (.slice a5 da.length c5) (.slice a6 de.length c6) (.slice a7 dd.length c7) (.slice a8 X.length c8)
        have hbf := set9_below (W := wc) (HBL.out) (k := w.heap.size + 1) (by have := HLO.out; omega) (.int .i64 ix) (.int .i64 nx) (.slice a2 J.length c2) (.slice a3 B.length c3) (.slice a4 dn.length c4) (.slice a5 da.length c5) (.slice a6 de.length c6) (.slice a7 dd.length c7) (.slice a8 X.length c8)
        have hsf : (((((((((wc.setCell ⟨w.heap.size + 1, 0, none⟩ (.int .i64 ix)).setCell ⟨w.heap.size + 1, 1, none⟩ (.int .i64 nx)).setCell ⟨w.heap.size + 1, 2, none⟩ (.slice a2 J.length c2)).setCell ⟨w.heap.size + 1, 3, none⟩ (.slice a3 B.length c3)).setCell ⟨w.heap.size + 1, 4, none⟩ (.slice a4 dn.length c4)).setCell ⟨w.heap.size + 1, 5, none⟩ (.slice a5 da.length c5)).setCell ⟨w.heap.size + 1, 6, none⟩ (.slice a6 de.length c6)).setCell ⟨w.heap.size + 1, 7, none⟩ (.slice a7 dd.length c7)).setCell ⟨w.heap.size + 1, 8, none⟩ (.slice a8 X.length c8)).heap.size = wc.heap.size := by simp
        have hres : ∀ tmps : Array Value, tmps.getD 4 undef = .pointer (some ⟨w.heap.size + 1, 0, none⟩) → (results Try.f32 tmps).run Try.prog (((((((((wc.setCell ⟨w.heap.size + 1, 0, none⟩ (.int .i64 ix)).setCell ⟨w.heap.size + 1, 1, none⟩ (.int .i64 nx)).setCell ⟨w.heap.size + 1, 2, none⟩ (.slice a2 J.length c2)).setCell ⟨w.heap.size + 1, 3, none⟩ (.slice a3 B.length c3)).setCell ⟨w.heap.size + 1, 4, none⟩ (.slice a4 dn.length c4)).setCell ⟨w.heap.size + 1, 5, none⟩ (.slice a5 da.length c5)).setCell ⟨w.heap.size + 1, 6, none⟩ (.slice a6 de.length c6)).setCell ⟨w.heap.size + 1, 7, none⟩ (.slice a7 dd.length c7)).setCell ⟨w.heap.size + 1, 8, none⟩ (.slice a8 X.length c8)) = .ok (.agg #[.int .i64 ix, .int .i64 nx, .slice a2 J.length c2, .slice a3 B.length c3, .slice a4 dn.length c4, .slice a5 da.length c5, .slice a6 de.length c6, .slice a7 dd.length c7, .slice a8 X.length c8]) (((((((((wc.setCell ⟨w.heap.size + 1, 0, none⟩ (.int .i64 ix)).setCell ⟨w.heap.size + 1, 1, none⟩ (.int .i64 nx)).setCell ⟨w.heap.size + 1, 2, none⟩ (.slice a2 J.length c2)).setCell ⟨w.heap.size + 1, 3, none⟩ (.slice a3 B.length c3)).setCell ⟨w.heap.size + 1, 4, none⟩ (.slice a4 dn.length c4)).setCell ⟨w.heap.size + 1, 5, none⟩ (.slice a5 da.length c5)).setCell ⟨w.heap.size + 1, 6, none⟩ (.slice a6 de.length c6)).setCell ⟨w.heap.size + 1, 7, none⟩ (.slice a7 dd.length c7)).setCell ⟨w.heap.size + 1, 8, none⟩ (.slice a8 X.length c8)) := fun tmps h => results_cell_row Try.results32 tmps _ (w.heap.size + 1) 29 #[.int .i64 ix, .int .i64 nx, .slice a2 J.length c2, .slice a3 B.length c3, .slice a4 dn.length c4, .slice a5 da.length c5, .slice a6 de.length c6, .slice a7 dd.length c7, .slice a8 X.length c8] (0, 0) _ h hr9 Try.underlying29 rfl (by kernel_rfl)
        generalize (((((((((wc.setCell ⟨w.heap.size + 1, 0, none⟩ (.int .i64 ix)).setCell ⟨w.heap.size + 1, 1, none⟩ (.int .i64 nx)).setCell ⟨w.heap.size + 1, 2, none⟩ (.slice a2 J.length c2)).setCell ⟨w.heap.size + 1, 3, none⟩ (.slice a3 B.length c3)).setCell ⟨w.heap.size + 1, 4, none⟩ (.slice a4 dn.length c4)).setCell ⟨w.heap.size + 1, 5, none⟩ (.slice a5 da.length c5)).setCell ⟨w.heap.size + 1, 6, none⟩ (.slice a6 de.length c6)).setCell ⟨w.heap.size + 1, 7, none⟩ (.slice a7 dd.length c7)).setCell ⟨w.heap.size + 1, 8, none⟩ (.slice a8 X.length c8)) = wf at *
        refine bodyPost_ret (hres _ ?_) ?_ ?_
        · rfl
        · rfl
        exact chg_end HLO.out _ _ HS.out (HPK.out) (HBL.out) (fun b hb _ => HBW.out.block b hb) hof hbf hsf
    · have hrt : v.tmod 10 = 5 := by rw [htm]; exact hr
      clear htm hr hm0 hm1
      by_cases hne : 0 < dn.length
      · obtain ⟨p, o, ha, hnx, hc⟩ := HS.out.f.f4.pl (by intro e; (try simp only at e); rw [e] at hne; simp at hne)
        have hn := hnx.1
        have HEX := hidOf hnx.2
        clear hnx
        (try simp only at ha)
        subst ha
        have hcr := range_of (hc 0 hne) (HBW.out.block p hn.2.1)
        rw [Nat.zero_mul, Nat.add_zero] at hcr
        have hnw : Uf wc p := hn.2.2.to (HBW.out.block p hn.2.1)
        have lp : p < wc.heap.size := Nat.lt_of_lt_of_le hn.2.1 HBW.out.size
        have fp : ∀ j, wc.frozen? ⟨p, j, none⟩ = false := fun j => by obtain ⟨cs, t, hq⟩ := hnw; exact frozen_of_row wc p j cs t hq
        have HNP := hidOf hn.1
        have hpw : p < w.heap.size := hn.2.1
        have h64 : (0 : Int) < (dn.length : Int) := by omega
        have ePN : w.heap.size + 1 ≠ p := by omega
        have ePM : w.heap.size ≠ p := by omega
        generalize dn[0] = x at *
        have pc : wc.cell? ⟨p, o + 5, none⟩ = some (.int .i64 x.bo) := hcr 5 _ rfl
        clear hcr hn hc hnw hne
        go_upto_region 19 with (fail)
        go_region
        obtain ⟨W2, hW2⟩ : ∃ yy, yy = (wc.setCell ⟨p, o + 5, none⟩ (.int .i64 (bits .xor .i64 x.bo 1))).drew := ⟨_, rfl⟩
        rw [← hW2]
        have HB2 : Hid (Below lo w W2) := hidOf (by rw [hW2]; exact (HBL.out.setCell (p := ⟨p, o + 5, none⟩) HNP.out _).trans ((bdrew _).mono (by simp; have := HLO.out; omega)))
        have HP2 : Hid (Pk w W2) := hidOf (by rw [hW2]; exact (HPK.out.trans (Pk.set pc (.inr (.inl ⟨_, _, rfl, rfl⟩)))).trans (Pk.bel (bdrew _)))
        have HX2 : Hid (W2.heap[w.heap.size]? = some (.cells #[.int .i64 ix, .int .i64 nx, .slice a2 J.length c2, .slice a3 B.length c3, .slice (some ⟨p, o, none⟩) dn.length c4, .slice a5 da.length c5, .slice a6 de.length c6, .slice a7 dd.length c7, .slice a8 X.length c8] 29 (0, 0))) := hidOf (by rw [hW2]; exact (heap_setCell_other wc ⟨p, o + 5, none⟩ _ _ ePM).trans HBX.out)
        have HR2 : Hid (W2.heap[w.heap.size + 1]? = some (.cells #[.int .i64 0, .int .i64 0, .slice none 0 0, .slice none 0 0, .slice none 0 0, .slice none 0 0, .slice none 0 0, .slice none 0 0, .slice none 0 0] 29 (0, 0))) := hidOf (by rw [hW2]; exact (heap_setCell_other wc ⟨p, o + 5, none⟩ _ _ ePN).trans HRX.out)
        have HX3 : Hid (∀ b, b < w.heap.size → ¬ Ex b → W2.heap[b]? = w.heap[b]?) := hidOf (fun b hb hn => by rw [hW2]; exact (heap_setCell_other wc ⟨p, o + 5, none⟩ b _ (fun e => hn (by have e2 : b = p := e; rw [e2]; exact HEX.out))).trans (HBW.out.block b hb))
        clear hW2 pc fp lp l0 l1 f0 f1 x0 r0 x1 r1 x2 r2 x3 r3 x4 r4 x5 r5 x6 r6 x7 r7 x8 r8
        have l1 : w.heap.size + 1 < W2.heap.size := heap_lt HR2.out
        have l0 : w.heap.size < W2.heap.size := heap_lt HX2.out
        have f1 : ∀ j, W2.frozen? ⟨w.heap.size + 1, j, none⟩ = false := fun j => frozen_of_row W2 _ j _ 29 HR2.out
        have x0 : W2.cell? ⟨w.heap.size, 0, none⟩ = some (.int .i64 ix) := (cell_of_row W2 _ 0 _ 29 (0, 0) HX2.out).trans rfl
        have x1 : W2.cell? ⟨w.heap.size, 1, none⟩ = some (.int .i64 nx) := (cell_of_row W2 _ 1 _ 29 (0, 0) HX2.out).trans rfl
        have x2 : W2.cell? ⟨w.heap.size, 2, none⟩ = some (.slice a2 J.length c2) := (cell_of_row W2 _ 2 _ 29 (0, 0) HX2.out).trans rfl
        have x3 : W2.cell? ⟨w.heap.size, 3, none⟩ = some (.slice a3 B.length c3) := (cell_of_row W2 _ 3 _ 29 (0, 0) HX2.out).trans rfl
        have x4 : W2.cell? ⟨w.heap.size, 4, none⟩ = some (.slice (some ⟨p, o, none⟩) dn.length c4) := (cell_of_row W2 _ 4 _ 29 (0, 0) HX2.out).trans rfl
        have x5 : W2.cell? ⟨w.heap.size, 5, none⟩ = some (.slice a5 da.length c5) := (cell_of_row W2 _ 5 _ 29 (0, 0) HX2.out).trans rfl
        have x6 : W2.cell? ⟨w.heap.size, 6, none⟩ = some (.slice a6 de.length c6) := (cell_of_row W2 _ 6 _ 29 (0, 0) HX2.out).trans rfl
        have x7 : W2.cell? ⟨w.heap.size, 7, none⟩ = some (.slice a7 dd.length c7) := (cell_of_row W2 _ 7 _ 29 (0, 0) HX2.out).trans rfl
        have x8 : W2.cell? ⟨w.heap.size, 8, none⟩ = some (.slice a8 X.length c8) := (cell_of_row W2 _ 8 _ 29 (0, 0) HX2.out).trans rfl
        have r0 : W2.cell? ⟨w.heap.size + 1, 0, none⟩ = some (.int .i64 0) := (cell_of_row W2 _ 0 _ 29 (0, 0) HR2.out).trans rfl
        have r1 : W2.cell? ⟨w.heap.size + 1, 1, none⟩ = some (.int .i64 0) := (cell_of_row W2 _ 1 _ 29 (0, 0) HR2.out).trans rfl
        have r2 : W2.cell? ⟨w.heap.size + 1, 2, none⟩ = some (.slice none 0 0) := (cell_of_row W2 _ 2 _ 29 (0, 0) HR2.out).trans rfl
        have r3 : W2.cell? ⟨w.heap.size + 1, 3, none⟩ = some (.slice none 0 0) := (cell_of_row W2 _ 3 _ 29 (0, 0) HR2.out).trans rfl
        have r4 : W2.cell? ⟨w.heap.size + 1, 4, none⟩ = some (.slice none 0 0) := (cell_of_row W2 _ 4 _ 29 (0, 0) HR2.out).trans rfl
        have r5 : W2.cell? ⟨w.heap.size + 1, 5, none⟩ = some (.slice none 0 0) := (cell_of_row W2 _ 5 _ 29 (0, 0) HR2.out).trans rfl
        have r6 : W2.cell? ⟨w.heap.size + 1, 6, none⟩ = some (.slice none 0 0) := (cell_of_row W2 _ 6 _ 29 (0, 0) HR2.out).trans rfl
        have r7 : W2.cell? ⟨w.heap.size + 1, 7, none⟩ = some (.slice none 0 0) := (cell_of_row W2 _ 7 _ 29 (0, 0) HR2.out).trans rfl
        have r8 : W2.cell? ⟨w.heap.size + 1, 8, none⟩ = some (.slice none 0 0) := (cell_of_row W2 _ 8 _ 29 (0, 0) HR2.out).trans rfl
        go_wp2
        have hr9 := set9 (w := W2) (k := w.heap.size + 1) (t := 29) HR2.out (.int .i64 ix) (.int .i64 nx) (.slice a2 J.length c2) (.slice a3 B.length c3) (.slice (some ⟨p, o, none⟩) dn.length c4) (.slice a5 da.length c5) (.slice a6 de.length c6) (.slice a7 dd.length c7) (.slice a8 X.length c8)
        have hof : ∀ b, b ≠ w.heap.size + 1 → _ = W2.heap[b]? := set9_other (w := W2) (k := w.heap.size + 1) (.int .i64 ix) (.int .i64 nx) (.slice a2 J.length c2) (.slice a3 B.length c3) (.slice (some ⟨p, o, none⟩) dn.length c4) (.slice a5 da.length c5) (.slice a6 de.length c6) (.slice a7 dd.length c7) (.slice a8 X.length c8)
        have hbf := set9_below (W := W2) (HB2.out) (k := w.heap.size + 1) (by have := HLO.out; omega) (.int .i64 ix) (.int .i64 nx) (.slice a2 J.length c2) (.slice a3 B.length c3) (.slice (some ⟨p, o, none⟩) dn.length c4) (.slice a5 da.length c5) (.slice a6 de.length c6) (.slice a7 dd.length c7) (.slice a8 X.length c8)
        have hsf : (((((((((W2.setCell ⟨w.heap.size + 1, 0, none⟩ (.int .i64 ix)).setCell ⟨w.heap.size + 1, 1, none⟩ (.int .i64 nx)).setCell ⟨w.heap.size + 1, 2, none⟩ (.slice a2 J.length c2)).setCell ⟨w.heap.size + 1, 3, none⟩ (.slice a3 B.length c3)).setCell ⟨w.heap.size + 1, 4, none⟩ (.slice (some ⟨p, o, none⟩) dn.length c4)).setCell ⟨w.heap.size + 1, 5, none⟩ (.slice a5 da.length c5)).setCell ⟨w.heap.size + 1, 6, none⟩ (.slice a6 de.length c6)).setCell ⟨w.heap.size + 1, 7, none⟩ (.slice a7 dd.length c7)).setCell ⟨w.heap.size + 1, 8, none⟩ (.slice a8 X.length c8)).heap.size = W2.heap.size := by simp
        have hres : ∀ tmps : Array Value, tmps.getD 4 undef = .pointer (some ⟨w.heap.size + 1, 0, none⟩) → (results Try.f32 tmps).run Try.prog (((((((((W2.setCell ⟨w.heap.size + 1, 0, none⟩ (.int .i64 ix)).setCell ⟨w.heap.size + 1, 1, none⟩ (.int .i64 nx)).setCell ⟨w.heap.size + 1, 2, none⟩ (.slice a2 J.length c2)).setCell ⟨w.heap.size + 1, 3, none⟩ (.slice a3 B.length c3)).setCell ⟨w.heap.size + 1, 4, none⟩ (.slice (some ⟨p, o, none⟩) dn.length c4)).setCell ⟨w.heap.size + 1, 5, none⟩ (.slice a5 da.length c5)).setCell ⟨w.heap.size + 1, 6, none⟩ (.slice a6 de.length c6)).setCell ⟨w.heap.size + 1, 7, none⟩ (.slice a7 dd.length c7)).setCell ⟨w.heap.size + 1, 8, none⟩ (.slice a8 X.length c8)) = .ok (.agg #[.int .i64 ix, .int .i64 nx, .slice a2 J.length c2, .slice a3 B.length c3, .slice (some ⟨p, o, none⟩) dn.length c4, .slice a5 da.length c5, .slice a6 de.length c6, .slice a7 dd.length c7, .slice a8 X.length c8]) (((((((((W2.setCell ⟨w.heap.size + 1, 0, none⟩ (.int .i64 ix)).setCell ⟨w.heap.size + 1, 1, none⟩ (.int .i64 nx)).setCell ⟨w.heap.size + 1, 2, none⟩ (.slice a2 J.length c2)).setCell ⟨w.heap.size + 1, 3, none⟩ (.slice a3 B.length c3)).setCell ⟨w.heap.size + 1, 4, none⟩ (.slice (some ⟨p, o, none⟩) dn.length c4)).setCell ⟨w.heap.size + 1, 5, none⟩ (.slice a5 da.length c5)).setCell ⟨w.heap.size + 1, 6, none⟩ (.slice a6 de.length c6)).setCell ⟨w.heap.size + 1, 7, none⟩ (.slice a7 dd.length c7)).setCell ⟨w.heap.size + 1, 8, none⟩ (.slice a8 X.length c8)) := fun tmps h => results_cell_row Try.results32 tmps _ (w.heap.size + 1) 29 #[.int .i64 ix, .int .i64 nx, .slice a2 J.length c2, .slice a3 B.length c3, .slice (some ⟨p, o, none⟩) dn.length c4, .slice a5 da.length c5, .slice a6 de.length c6, .slice a7 dd.length c7, .slice a8 X.length c8] (0, 0) _ h hr9 Try.underlying29 rfl (by kernel_rfl)
        generalize (((((((((W2.setCell ⟨w.heap.size + 1, 0, none⟩ (.int .i64 ix)).setCell ⟨w.heap.size + 1, 1, none⟩ (.int .i64 nx)).setCell ⟨w.heap.size + 1, 2, none⟩ (.slice a2 J.length c2)).setCell ⟨w.heap.size + 1, 3, none⟩ (.slice a3 B.length c3)).setCell ⟨w.heap.size + 1, 4, none⟩ (.slice (some ⟨p, o, none⟩) dn.length c4)).setCell ⟨w.heap.size + 1, 5, none⟩ (.slice a5 da.length c5)).setCell ⟨w.heap.size + 1, 6, none⟩ (.slice a6 de.length c6)).setCell ⟨w.heap.size + 1, 7, none⟩ (.slice a7 dd.length c7)).setCell ⟨w.heap.size + 1, 8, none⟩ (.slice a8 X.length c8)) = wf at *
        refine bodyPost_ret (hres _ ?_) ?_ ?_
        · rfl
        · rfl
        exact chg_end HLO.out _ _ HS.out (HP2.out) (HB2.out) HX3.out hof hbf hsf
      · have b0 : decide (0 < (dn.length : Int)) = false := decide_eq_false (by omega)
        have b1 : decide (0 < dn.length) = false := decide_eq_false (by omega)
        clear hne
        go_wp2
        have hr9 := set9 (w := wc) (k := w.heap.size + 1) (t := 29) HRX.out (.int .i64 ix) (.int .i64 nx) (.slice a2 J.length c2) (.slice a3 B.length c3) (.slice a4 dn.length c4) (.slice a5 da.length c5) (.slice a6 de.length c6) (.slice a7 dd.length c7) (.slice a8 X.length c8)
        have hof : ∀ b, b ≠ w.heap.size + 1 → _ = wc.heap[b]? := set9_other (w := wc) (k := w.heap.size + 1) (.int .i64 ix) (.int .i64 nx) (.slice a2 J.length c2) (.slice a3 B.length c3) (.slice a4 dn.length c4) (.slice a5 da.length c5) (.slice a6 de.length c6) (.slice a7 dd.length c7) (.slice a8 X.length c8)
        have hbf := set9_below (W := wc) (HBL.out) (k := w.heap.size + 1) (by have := HLO.out; omega) (.int .i64 ix) (.int .i64 nx) (.slice a2 J.length c2) (.slice a3 B.length c3) (.slice a4 dn.length c4) (.slice a5 da.length c5) (.slice a6 de.length c6) (.slice a7 dd.length c7) (.slice a8 X.length c8)
        have hsf : (((((((((wc.setCell ⟨w.heap.size + 1, 0, none⟩ (.int .i64 ix)).setCell ⟨w.heap.size + 1, 1, none⟩ (.int .i64 nx)).setCell ⟨w.heap.size + 1, 2, none⟩ (.slice a2 J.length c2)).setCell ⟨w.heap.size + 1, 3, none⟩ (.slice a3 B.length c3)).setCell ⟨w.heap.size + 1, 4, none⟩ (.slice a4 dn.length c4)).setCell ⟨w.heap.size + 1, 5, none⟩ (.slice a5 da.length c5)).setCell ⟨w.heap.size + 1, 6, none⟩ (.slice a6 de.length c6)).setCell ⟨w.heap.size + 1, 7, none⟩ (.slice a7 dd.length c7)).setCell ⟨w.heap.size + 1, 8, none⟩ (.slice a8 X.length c8)).heap.size = wc.heap.size := by simp
        have hres : ∀ tmps : Array Value, tmps.getD 4 undef = .pointer (some ⟨w.heap.size + 1, 0, none⟩) → (results Try.f32 tmps).run Try.prog (((((((((wc.setCell ⟨w.heap.size + 1, 0, none⟩ (.int .i64 ix)).setCell ⟨w.heap.size + 1, 1, none⟩ (.int .i64 nx)).setCell ⟨w.heap.size + 1, 2, none⟩ (.slice a2 J.length c2)).setCell ⟨w.heap.size + 1, 3, none⟩ (.slice a3 B.length c3)).setCell ⟨w.heap.size + 1, 4, none⟩ (.slice a4 dn.length c4)).setCell ⟨w.heap.size + 1, 5, none⟩ (.slice a5 da.length c5)).setCell ⟨w.heap.size + 1, 6, none⟩ (.slice a6 de.length c6)).setCell ⟨w.heap.size + 1, 7, none⟩ (.slice a7 dd.length c7)).setCell ⟨w.heap.size + 1, 8, none⟩ (.slice a8 X.length c8)) = .ok (.agg #[.int .i64 ix, .int .i64 nx, .slice a2 J.length c2, .slice a3 B.length c3, .slice a4 dn.length c4, .slice a5 da.length c5, .slice a6 de.length c6, .slice a7 dd.length c7, .slice a8 X.length c8]) (((((((((wc.setCell ⟨w.heap.size + 1, 0, none⟩ (.int .i64 ix)).setCell ⟨w.heap.size + 1, 1, none⟩ (.int .i64 nx)).setCell ⟨w.heap.size + 1, 2, none⟩ (.slice a2 J.length c2)).setCell ⟨w.heap.size + 1, 3, none⟩ (.slice a3 B.length c3)).setCell ⟨w.heap.size + 1, 4, none⟩ (.slice a4 dn.length c4)).setCell ⟨w.heap.size + 1, 5, none⟩ (.slice a5 da.length c5)).setCell ⟨w.heap.size + 1, 6, none⟩ (.slice a6 de.length c6)).setCell ⟨w.heap.size + 1, 7, none⟩ (.slice a7 dd.length c7)).setCell ⟨w.heap.size + 1, 8, none⟩ (.slice a8 X.length c8)) := fun tmps h => results_cell_row Try.results32 tmps _ (w.heap.size + 1) 29 #[.int .i64 ix, .int .i64 nx, .slice a2 J.length c2, .slice a3 B.length c3, .slice a4 dn.length c4, .slice a5 da.length c5, .slice a6 de.length c6, .slice a7 dd.length c7, .slice a8 X.length c8] (0, 0) _ h hr9 Try.underlying29 rfl (by kernel_rfl)
        generalize (((((((((wc.setCell ⟨w.heap.size + 1, 0, none⟩ (.int .i64 ix)).setCell ⟨w.heap.size + 1, 1, none⟩ (.int .i64 nx)).setCell ⟨w.heap.size + 1, 2, none⟩ (.slice a2 J.length c2)).setCell ⟨w.heap.size + 1, 3, none⟩ (.slice a3 B.length c3)).setCell ⟨w.heap.size + 1, 4, none⟩ (.slice a4 dn.length c4)).setCell ⟨w.heap.size + 1, 5, none⟩ (.slice a5 da.length c5)).setCell ⟨w.heap.size + 1, 6, none⟩ (.slice a6 de.length c6)).setCell ⟨w.heap.size + 1, 7, none⟩ (.slice a7 dd.length c7)).setCell ⟨w.heap.size + 1, 8, none⟩ (.slice a8 X.length c8)) = wf at *
        refine bodyPost_ret (hres _ ?_) ?_ ?_
        · rfl
        · rfl
        exact chg_end HLO.out _ _ HS.out (HPK.out) (HBL.out) (fun b hb _ => HBW.out.block b hb) hof hbf hsf
    · have hrt : v.tmod 10 = 6 := by rw [htm]; exact hr
      clear htm hr hm0 hm1
      by_cases hne : 0 < da.length
      · obtain ⟨p, o, ha, hnx, hc⟩ := HS.out.f.f5.pl (by intro e; (try simp only at e); rw [e] at hne; simp at hne)
        have hn := hnx.1
        have HEX := hidOf hnx.2
        clear hnx
        (try simp only at ha)
        subst ha
        have hcr := range_of (hc 0 hne) (HBW.out.block p hn.2.1)
        rw [Nat.zero_mul, Nat.add_zero] at hcr
        have hnw : Uf wc p := hn.2.2.to (HBW.out.block p hn.2.1)
        have lp : p < wc.heap.size := Nat.lt_of_lt_of_le hn.2.1 HBW.out.size
        have fp : ∀ j, wc.frozen? ⟨p, j, none⟩ = false := fun j => by obtain ⟨cs, t, hq⟩ := hnw; exact frozen_of_row wc p j cs t hq
        have HNP := hidOf hn.1
        have hpw : p < w.heap.size := hn.2.1
        have h64 : (0 : Int) < (da.length : Int) := by omega
        have ePN : w.heap.size + 1 ≠ p := by omega
        have ePM : w.heap.size ≠ p := by omega
        generalize da[0] = x at *
        have pc : wc.cell? ⟨p, o + 6, none⟩ = some (.int .i64 x.ep) := hcr 6 _ rfl
        clear hcr hn hc hnw hne
        go_upto_region 22 with (fail)
        go_region
        obtain ⟨W2, hW2⟩ : ∃ yy, yy = (wc.setCell ⟨p, o + 6, none⟩ (.int .i64 (bits .xor .i64 x.ep 1))).drew := ⟨_, rfl⟩
        rw [← hW2]
        have HB2 : Hid (Below lo w W2) := hidOf (by rw [hW2]; exact (HBL.out.setCell (p := ⟨p, o + 6, none⟩) HNP.out _).trans ((bdrew _).mono (by simp; have := HLO.out; omega)))
        have HP2 : Hid (Pk w W2) := hidOf (by rw [hW2]; exact (HPK.out.trans (Pk.set pc (.inr (.inl ⟨_, _, rfl, rfl⟩)))).trans (Pk.bel (bdrew _)))
        have HX2 : Hid (W2.heap[w.heap.size]? = some (.cells #[.int .i64 ix, .int .i64 nx, .slice a2 J.length c2, .slice a3 B.length c3, .slice a4 dn.length c4, .slice (some ⟨p, o, none⟩) da.length c5, .slice a6 de.length c6, .slice a7 dd.length c7, .slice a8 X.length c8] 29 (0, 0))) := hidOf (by rw [hW2]; exact (heap_setCell_other wc ⟨p, o + 6, none⟩ _ _ ePM).trans HBX.out)
        have HR2 : Hid (W2.heap[w.heap.size + 1]? = some (.cells #[.int .i64 0, .int .i64 0, .slice none 0 0, .slice none 0 0, .slice none 0 0, .slice none 0 0, .slice none 0 0, .slice none 0 0, .slice none 0 0] 29 (0, 0))) := hidOf (by rw [hW2]; exact (heap_setCell_other wc ⟨p, o + 6, none⟩ _ _ ePN).trans HRX.out)
        have HX3 : Hid (∀ b, b < w.heap.size → ¬ Ex b → W2.heap[b]? = w.heap[b]?) := hidOf (fun b hb hn => by rw [hW2]; exact (heap_setCell_other wc ⟨p, o + 6, none⟩ b _ (fun e => hn (by have e2 : b = p := e; rw [e2]; exact HEX.out))).trans (HBW.out.block b hb))
        clear hW2 pc fp lp l0 l1 f0 f1 x0 r0 x1 r1 x2 r2 x3 r3 x4 r4 x5 r5 x6 r6 x7 r7 x8 r8
        have l1 : w.heap.size + 1 < W2.heap.size := heap_lt HR2.out
        have l0 : w.heap.size < W2.heap.size := heap_lt HX2.out
        have f1 : ∀ j, W2.frozen? ⟨w.heap.size + 1, j, none⟩ = false := fun j => frozen_of_row W2 _ j _ 29 HR2.out
        have x0 : W2.cell? ⟨w.heap.size, 0, none⟩ = some (.int .i64 ix) := (cell_of_row W2 _ 0 _ 29 (0, 0) HX2.out).trans rfl
        have x1 : W2.cell? ⟨w.heap.size, 1, none⟩ = some (.int .i64 nx) := (cell_of_row W2 _ 1 _ 29 (0, 0) HX2.out).trans rfl
        have x2 : W2.cell? ⟨w.heap.size, 2, none⟩ = some (.slice a2 J.length c2) := (cell_of_row W2 _ 2 _ 29 (0, 0) HX2.out).trans rfl
        have x3 : W2.cell? ⟨w.heap.size, 3, none⟩ = some (.slice a3 B.length c3) := (cell_of_row W2 _ 3 _ 29 (0, 0) HX2.out).trans rfl
        have x4 : W2.cell? ⟨w.heap.size, 4, none⟩ = some (.slice a4 dn.length c4) := (cell_of_row W2 _ 4 _ 29 (0, 0) HX2.out).trans rfl
        have x5 : W2.cell? ⟨w.heap.size, 5, none⟩ = some (.slice (some ⟨p, o, none⟩) da.length c5) := (cell_of_row W2 _ 5 _ 29 (0, 0) HX2.out).trans rfl
        have x6 : W2.cell? ⟨w.heap.size, 6, none⟩ = some (.slice a6 de.length c6) := (cell_of_row W2 _ 6 _ 29 (0, 0) HX2.out).trans rfl
        have x7 : W2.cell? ⟨w.heap.size, 7, none⟩ = some (.slice a7 dd.length c7) := (cell_of_row W2 _ 7 _ 29 (0, 0) HX2.out).trans rfl
        have x8 : W2.cell? ⟨w.heap.size, 8, none⟩ = some (.slice a8 X.length c8) := (cell_of_row W2 _ 8 _ 29 (0, 0) HX2.out).trans rfl
        have r0 : W2.cell? ⟨w.heap.size + 1, 0, none⟩ = some (.int .i64 0) := (cell_of_row W2 _ 0 _ 29 (0, 0) HR2.out).trans rfl
        have r1 : W2.cell? ⟨w.heap.size + 1, 1, none⟩ = some (.int .i64 0) := (cell_of_row W2 _ 1 _ 29 (0, 0) HR2.out).trans rfl
        have r2 : W2.cell? ⟨w.heap.size + 1, 2, none⟩ = some (.slice none 0 0) := (cell_of_row W2 _ 2 _ 29 (0, 0) HR2.out).trans rfl
        have r3 : W2.cell? ⟨w.heap.size + 1, 3, none⟩ = some (.slice none 0 0) := (cell_of_row W2 _ 3 _ 29 (0, 0) HR2.out).trans rfl
        have r4 : W2.cell? ⟨w.heap.size + 1, 4, none⟩ = some (.slice none 0 0) := (cell_of_row W2 _ 4 _ 29 (0, 0) HR2.out).trans rfl
        have r5 : W2.cell? ⟨w.heap.size + 1, 5, none⟩ = some (.slice none 0 0) := (cell_of_row W2 _ 5 _ 29 (0, 0) HR2.out).trans rfl
        have r6 : W2.cell? ⟨w.heap.size + 1, 6, none⟩ = some (.slice none 0 0) := (cell_of_row W2 _ 6 _ 29 (0, 0) HR2.out).trans rfl
        have r7 : W2.cell? ⟨w.heap.size + 1, 7, none⟩ = some (.slice none 0 0) := (cell_of_row W2 _ 7 _ 29 (0, 0) HR2.out).trans rfl
        have r8 : W2.cell? ⟨w.heap.size + 1, 8, none⟩ = some (.slice none 0 0) := (cell_of_row W2 _ 8 _ 29 (0, 0) HR2.out).trans rfl
        go_wp2
        have hr9 := set9 (w := W2) (k := w.heap.size + 1) (t := 29) HR2.out (.int .i64 ix) (.int .i64 nx) (.slice a2 J.length c2) (.slice a3 B.length c3) (.slice a4 dn.length c4) (.slice (some ⟨p, o, none⟩) da.length c5) (.slice a6 de.length c6) (.slice a7 dd.length c7) (.slice a8 X.length c8)
        have hof : ∀ b, b ≠ w.heap.size + 1 → _ = W2.heap[b]? := set9_other (w := W2) (k := w.heap.size + 1) (.int .i64 ix) (.int .i64 nx) (.slice a2 J.length c2) (.slice a3 B.length c3) (.slice a4 dn.length c4) (.slice (some ⟨p, o, none⟩) da.length c5) (.slice a6 de.length c6) (.slice a7 dd.length c7) (.slice a8 X.length c8)
        have hbf := set9_below (W := W2) (HB2.out) (k := w.heap.size + 1) (by have := HLO.out; omega) (.int .i64 ix) (.int .i64 nx) (.slice a2 J.length c2) (.slice a3 B.length c3) (.slice a4 dn.length c4) (.slice (some ⟨p, o, none⟩) da.length c5) (.slice a6 de.length c6) (.slice a7 dd.length c7) (.slice a8 X.length c8)
        have hsf : (((((((((W2.setCell ⟨w.heap.size + 1, 0, none⟩ (.int .i64 ix)).setCell ⟨w.heap.size + 1, 1, none⟩ (.int .i64 nx)).setCell ⟨w.heap.size + 1, 2, none⟩ (.slice a2 J.length c2)).setCell ⟨w.heap.size + 1, 3, none⟩ (.slice a3 B.length c3)).setCell ⟨w.heap.size + 1, 4, none⟩ (.slice a4 dn.length c4)).setCell ⟨w.heap.size + 1, 5, none⟩ (.slice (some ⟨p, o, none⟩) da.length c5)).setCell ⟨w.heap.size + 1, 6, none⟩ (.slice a6 de.length c6)).setCell ⟨w.heap.size + 1, 7, none⟩ (.slice a7 dd.length c7)).setCell ⟨w.heap.size + 1, 8, none⟩ (.slice a8 X.length c8)).heap.size = W2.heap.size := by simp
        have hres : ∀ tmps : Array Value, tmps.getD 4 undef = .pointer (some ⟨w.heap.size + 1, 0, none⟩) → (results Try.f32 tmps).run Try.prog (((((((((W2.setCell ⟨w.heap.size + 1, 0, none⟩ (.int .i64 ix)).setCell ⟨w.heap.size + 1, 1, none⟩ (.int .i64 nx)).setCell ⟨w.heap.size + 1, 2, none⟩ (.slice a2 J.length c2)).setCell ⟨w.heap.size + 1, 3, none⟩ (.slice a3 B.length c3)).setCell ⟨w.heap.size + 1, 4, none⟩ (.slice a4 dn.length c4)).setCell ⟨w.heap.size + 1, 5, none⟩ (.slice (some ⟨p, o, none⟩) da.length c5)).setCell ⟨w.heap.size + 1, 6, none⟩ (.slice a6 de.length c6)).setCell ⟨w.heap.size + 1, 7, none⟩ (.slice a7 dd.length c7)).setCell ⟨w.heap.size + 1, 8, none⟩ (.slice a8 X.length c8)) = .ok (.agg #[.int .i64 ix, .int .i64 nx, .slice a2 J.length c2, .slice a3 B.length c3, .slice a4 dn.length c4, .slice (some ⟨p, o, none⟩) da.length c5, .slice a6 de.length c6, .slice a7 dd.length c7, .slice a8 X.length c8]) (((((((((W2.setCell ⟨w.heap.size + 1, 0, none⟩ (.int .i64 ix)).setCell ⟨w.heap.size + 1, 1, none⟩ (.int .i64 nx)).setCell ⟨w.heap.size + 1, 2, none⟩ (.slice a2 J.length c2)).setCell ⟨w.heap.size + 1, 3, none⟩ (.slice a3 B.length c3)).setCell ⟨w.heap.size + 1, 4, none⟩ (.slice a4 dn.length c4)).setCell ⟨w.heap.size + 1, 5, none⟩ (.slice (some ⟨p, o, none⟩) da.length c5)).setCell ⟨w.heap.size + 1, 6, none⟩ (.slice a6 de.length c6)).setCell ⟨w.heap.size + 1, 7, none⟩ (.slice a7 dd.length c7)).setCell ⟨w.heap.size + 1, 8, none⟩ (.slice a8 X.length c8)) := fun tmps h => results_cell_row Try.results32 tmps _ (w.heap.size + 1) 29 #[.int .i64 ix, .int .i64 nx, .slice a2 J.length c2, .slice a3 B.length c3, .slice a4 dn.length c4, .slice (some ⟨p, o, none⟩) da.length c5, .slice a6 de.length c6, .slice a7 dd.length c7, .slice a8 X.length c8] (0, 0) _ h hr9 Try.underlying29 rfl (by kernel_rfl)
        generalize (((((((((W2.setCell ⟨w.heap.size + 1, 0, none⟩ (.int .i64 ix)).setCell ⟨w.heap.size + 1, 1, none⟩ (.int .i64 nx)).setCell ⟨w.heap.size + 1, 2, none⟩ (.slice a2 J.length c2)).setCell ⟨w.heap.size + 1, 3, none⟩ (.slice a3 B.length c3)).setCell ⟨w.heap.size + 1, 4, none⟩ (.slice a4 dn.length c4)).setCell ⟨w.heap.size + 1, 5, none⟩ (.slice (some ⟨p, o, none⟩) da.length c5)).setCell ⟨w.heap.size + 1, 6, none⟩ (.slice a6 de.length c6)).setCell ⟨w.heap.size + 1, 7, none⟩ (.slice a7 dd.length c7)).setCell ⟨w.heap.size + 1, 8, none⟩ (.slice a8 X.length c8)) = wf at *
        refine bodyPost_ret (hres _ ?_) ?_ ?_
        · rfl
        · rfl
        exact chg_end HLO.out _ _ HS.out (HP2.out) (HB2.out) HX3.out hof hbf hsf
      · have b0 : decide (0 < (da.length : Int)) = false := decide_eq_false (by omega)
        have b1 : decide (0 < da.length) = false := decide_eq_false (by omega)
        clear hne
        go_wp2
        have hr9 := set9 (w := wc) (k := w.heap.size + 1) (t := 29) HRX.out (.int .i64 ix) (.int .i64 nx) (.slice a2 J.length c2) (.slice a3 B.length c3) (.slice a4 dn.length c4) (.slice a5 da.length c5) (.slice a6 de.length c6) (.slice a7 dd.length c7) (.slice a8 X.length c8)
        have hof : ∀ b, b ≠ w.heap.size + 1 → _ = wc.heap[b]? := set9_other (w := wc) (k := w.heap.size + 1) (.int .i64 ix) (.int .i64 nx) (.slice a2 J.length c2) (.slice a3 B.length c3) (.slice a4 dn.length c4) (.slice a5 da.length c5) (.slice a6 de.length c6) (.slice a7 dd.length c7) (.slice a8 X.length c8)
        have hbf := set9_below (W := wc) (HBL.out) (k := w.heap.size + 1) (by have := HLO.out; omega) (.int .i64 ix) (.int .i64 nx) (.slice a2 J.length c2) (.slice a3 B.length c3) (.slice a4 dn.length c4) (.slice a5 da.length c5) (.slice a6 de.length c6) (.slice a7 dd.length c7) (.slice a8 X.length c8)
        have hsf : (((((((((wc.setCell ⟨w.heap.size + 1, 0, none⟩ (.int .i64 ix)).setCell ⟨w.heap.size + 1, 1, none⟩ (.int .i64 nx)).setCell ⟨w.heap.size + 1, 2, none⟩ (.slice a2 J.length c2)).setCell ⟨w.heap.size + 1, 3, none⟩ (.slice a3 B.length c3)).setCell ⟨w.heap.size + 1, 4, none⟩ (.slice a4 dn.length c4)).setCell ⟨w.heap.size + 1, 5, none⟩ (.slice a5 da.length c5)).setCell ⟨w.heap.size + 1, 6, none⟩ (.slice a6 de.length c6)).setCell ⟨w.heap.size + 1, 7, none⟩ (.slice a7 dd.length c7)).setCell ⟨w.heap.size + 1, 8, none⟩ (.slice a8 X.length c8)).heap.size = wc.heap.size := by simp
        have hres : ∀ tmps : Array Value, tmps.getD 4 undef = .pointer (some ⟨w.heap.size + 1, 0, none⟩) → (results Try.f32 tmps).run Try.prog (((((((((wc.setCell ⟨w.heap.size + 1, 0, none⟩ (.int .i64 ix)).setCell ⟨w.heap.size + 1, 1, none⟩ (.int .i64 nx)).setCell ⟨w.heap.size + 1, 2, none⟩ (.slice a2 J.length c2)).setCell ⟨w.heap.size + 1, 3, none⟩ (.slice a3 B.length c3)).setCell ⟨w.heap.size + 1, 4, none⟩ (.slice a4 dn.length c4)).setCell ⟨w.heap.size + 1, 5, none⟩ (.slice a5 da.length c5)).setCell ⟨w.heap.size + 1, 6, none⟩ (.slice a6 de.length c6)).setCell ⟨w.heap.size + 1, 7, none⟩ (.slice a7 dd.length c7)).setCell ⟨w.heap.size + 1, 8, none⟩ (.slice a8 X.length c8)) = .ok (.agg #[.int .i64 ix, .int .i64 nx, .slice a2 J.length c2, .slice a3 B.length c3, .slice a4 dn.length c4, .slice a5 da.length c5, .slice a6 de.length c6, .slice a7 dd.length c7, .slice a8 X.length c8]) (((((((((wc.setCell ⟨w.heap.size + 1, 0, none⟩ (.int .i64 ix)).setCell ⟨w.heap.size + 1, 1, none⟩ (.int .i64 nx)).setCell ⟨w.heap.size + 1, 2, none⟩ (.slice a2 J.length c2)).setCell ⟨w.heap.size + 1, 3, none⟩ (.slice a3 B.length c3)).setCell ⟨w.heap.size + 1, 4, none⟩ (.slice a4 dn.length c4)).setCell ⟨w.heap.size + 1, 5, none⟩ (.slice a5 da.length c5)).setCell ⟨w.heap.size + 1, 6, none⟩ (.slice a6 de.length c6)).setCell ⟨w.heap.size + 1, 7, none⟩ (.slice a7 dd.length c7)).setCell ⟨w.heap.size + 1, 8, none⟩ (.slice a8 X.length c8)) := fun tmps h => results_cell_row Try.results32 tmps _ (w.heap.size + 1) 29 #[.int .i64 ix, .int .i64 nx, .slice a2 J.length c2, .slice a3 B.length c3, .slice a4 dn.length c4, .slice a5 da.length c5, .slice a6 de.length c6, .slice a7 dd.length c7, .slice a8 X.length c8] (0, 0) _ h hr9 Try.underlying29 rfl (by kernel_rfl)
        generalize (((((((((wc.setCell ⟨w.heap.size + 1, 0, none⟩ (.int .i64 ix)).setCell ⟨w.heap.size + 1, 1, none⟩ (.int .i64 nx)).setCell ⟨w.heap.size + 1, 2, none⟩ (.slice a2 J.length c2)).setCell ⟨w.heap.size + 1, 3, none⟩ (.slice a3 B.length c3)).setCell ⟨w.heap.size + 1, 4, none⟩ (.slice a4 dn.length c4)).setCell ⟨w.heap.size + 1, 5, none⟩ (.slice a5 da.length c5)).setCell ⟨w.heap.size + 1, 6, none⟩ (.slice a6 de.length c6)).setCell ⟨w.heap.size + 1, 7, none⟩ (.slice a7 dd.length c7)).setCell ⟨w.heap.size + 1, 8, none⟩ (.slice a8 X.length c8)) = wf at *
        refine bodyPost_ret (hres _ ?_) ?_ ?_
        · rfl
        · rfl
        exact chg_end HLO.out _ _ HS.out (HPK.out) (HBL.out) (fun b hb _ => HBW.out.block b hb) hof hbf hsf
    · have hrt : v.tmod 10 = 7 := by rw [htm]; exact hr
      clear htm hr hm0 hm1
      by_cases hne : 0 < de.length
      · obtain ⟨p, o, ha, hnx, hc⟩ := HS.out.f.f6.pl (by intro e; (try simp only at e); rw [e] at hne; simp at hne)
        have hn := hnx.1
        have HEX := hidOf hnx.2
        clear hnx
        (try simp only at ha)
        subst ha
        have hcr := range_of (hc 0 hne) (HBW.out.block p hn.2.1)
        rw [Nat.zero_mul, Nat.add_zero] at hcr
        have hnw : Uf wc p := hn.2.2.to (HBW.out.block p hn.2.1)
        have lp : p < wc.heap.size := Nat.lt_of_lt_of_le hn.2.1 HBW.out.size
        have fp : ∀ j, wc.frozen? ⟨p, j, none⟩ = false := fun j => by obtain ⟨cs, t, hq⟩ := hnw; exact frozen_of_row wc p j cs t hq
        have HNP := hidOf hn.1
        have hpw : p < w.heap.size := hn.2.1
        have h64 : (0 : Int) < (de.length : Int) := by omega
        have ePN : w.heap.size + 1 ≠ p := by omega
        have ePM : w.heap.size ≠ p := by omega
        generalize de[0] = x at *
        have pc : wc.cell? ⟨p, o + 2, none⟩ = some (.int .i64 x.c) := hcr 2 _ rfl
        clear hcr hn hc hnw hne
        go_upto_region 25 with (fail)
        go_region
        obtain ⟨W2, hW2⟩ : ∃ yy, yy = (wc.setCell ⟨p, o + 2, none⟩ (.int .i64 (bits .xor .i64 x.c 1))).drew := ⟨_, rfl⟩
        rw [← hW2]
        have HB2 : Hid (Below lo w W2) := hidOf (by rw [hW2]; exact (HBL.out.setCell (p := ⟨p, o + 2, none⟩) HNP.out _).trans ((bdrew _).mono (by simp; have := HLO.out; omega)))
        have HP2 : Hid (Pk w W2) := hidOf (by rw [hW2]; exact (HPK.out.trans (Pk.set pc (.inr (.inl ⟨_, _, rfl, rfl⟩)))).trans (Pk.bel (bdrew _)))
        have HX2 : Hid (W2.heap[w.heap.size]? = some (.cells #[.int .i64 ix, .int .i64 nx, .slice a2 J.length c2, .slice a3 B.length c3, .slice a4 dn.length c4, .slice a5 da.length c5, .slice (some ⟨p, o, none⟩) de.length c6, .slice a7 dd.length c7, .slice a8 X.length c8] 29 (0, 0))) := hidOf (by rw [hW2]; exact (heap_setCell_other wc ⟨p, o + 2, none⟩ _ _ ePM).trans HBX.out)
        have HR2 : Hid (W2.heap[w.heap.size + 1]? = some (.cells #[.int .i64 0, .int .i64 0, .slice none 0 0, .slice none 0 0, .slice none 0 0, .slice none 0 0, .slice none 0 0, .slice none 0 0, .slice none 0 0] 29 (0, 0))) := hidOf (by rw [hW2]; exact (heap_setCell_other wc ⟨p, o + 2, none⟩ _ _ ePN).trans HRX.out)
        have HX3 : Hid (∀ b, b < w.heap.size → ¬ Ex b → W2.heap[b]? = w.heap[b]?) := hidOf (fun b hb hn => by rw [hW2]; exact (heap_setCell_other wc ⟨p, o + 2, none⟩ b _ (fun e => hn (by have e2 : b = p := e; rw [e2]; exact HEX.out))).trans (HBW.out.block b hb))
        clear hW2 pc fp lp l0 l1 f0 f1 x0 r0 x1 r1 x2 r2 x3 r3 x4 r4 x5 r5 x6 r6 x7 r7 x8 r8
        have l1 : w.heap.size + 1 < W2.heap.size := heap_lt HR2.out
        have l0 : w.heap.size < W2.heap.size := heap_lt HX2.out
        have f1 : ∀ j, W2.frozen? ⟨w.heap.size + 1, j, none⟩ = false := fun j => frozen_of_row W2 _ j _ 29 HR2.out
        have x0 : W2.cell? ⟨w.heap.size, 0, none⟩ = some (.int .i64 ix) := (cell_of_row W2 _ 0 _ 29 (0, 0) HX2.out).trans rfl
        have x1 : W2.cell? ⟨w.heap.size, 1, none⟩ = some (.int .i64 nx) := (cell_of_row W2 _ 1 _ 29 (0, 0) HX2.out).trans rfl
        have x2 : W2.cell? ⟨w.heap.size, 2, none⟩ = some (.slice a2 J.length c2) := (cell_of_row W2 _ 2 _ 29 (0, 0) HX2.out).trans rfl
        have x3 : W2.cell? ⟨w.heap.size, 3, none⟩ = some (.slice a3 B.length c3) := (cell_of_row W2 _ 3 _ 29 (0, 0) HX2.out).trans rfl
        have x4 : W2.cell? ⟨w.heap.size, 4, none⟩ = some (.slice a4 dn.length c4) := (cell_of_row W2 _ 4 _ 29 (0, 0) HX2.out).trans rfl
        have x5 : W2.cell? ⟨w.heap.size, 5, none⟩ = some (.slice a5 da.length c5) := (cell_of_row W2 _ 5 _ 29 (0, 0) HX2.out).trans rfl
        have x6 : W2.cell? ⟨w.heap.size, 6, none⟩ = some (.slice (some ⟨p, o, none⟩) de.length c6) := (cell_of_row W2 _ 6 _ 29 (0, 0) HX2.out).trans rfl
        have x7 : W2.cell? ⟨w.heap.size, 7, none⟩ = some (.slice a7 dd.length c7) := (cell_of_row W2 _ 7 _ 29 (0, 0) HX2.out).trans rfl
        have x8 : W2.cell? ⟨w.heap.size, 8, none⟩ = some (.slice a8 X.length c8) := (cell_of_row W2 _ 8 _ 29 (0, 0) HX2.out).trans rfl
        have r0 : W2.cell? ⟨w.heap.size + 1, 0, none⟩ = some (.int .i64 0) := (cell_of_row W2 _ 0 _ 29 (0, 0) HR2.out).trans rfl
        have r1 : W2.cell? ⟨w.heap.size + 1, 1, none⟩ = some (.int .i64 0) := (cell_of_row W2 _ 1 _ 29 (0, 0) HR2.out).trans rfl
        have r2 : W2.cell? ⟨w.heap.size + 1, 2, none⟩ = some (.slice none 0 0) := (cell_of_row W2 _ 2 _ 29 (0, 0) HR2.out).trans rfl
        have r3 : W2.cell? ⟨w.heap.size + 1, 3, none⟩ = some (.slice none 0 0) := (cell_of_row W2 _ 3 _ 29 (0, 0) HR2.out).trans rfl
        have r4 : W2.cell? ⟨w.heap.size + 1, 4, none⟩ = some (.slice none 0 0) := (cell_of_row W2 _ 4 _ 29 (0, 0) HR2.out).trans rfl
        have r5 : W2.cell? ⟨w.heap.size + 1, 5, none⟩ = some (.slice none 0 0) := (cell_of_row W2 _ 5 _ 29 (0, 0) HR2.out).trans rfl
        have r6 : W2.cell? ⟨w.heap.size + 1, 6, none⟩ = some (.slice none 0 0) := (cell_of_row W2 _ 6 _ 29 (0, 0) HR2.out).trans rfl
        have r7 : W2.cell? ⟨w.heap.size + 1, 7, none⟩ = some (.slice none 0 0) := (cell_of_row W2 _ 7 _ 29 (0, 0) HR2.out).trans rfl
        have r8 : W2.cell? ⟨w.heap.size + 1, 8, none⟩ = some (.slice none 0 0) := (cell_of_row W2 _ 8 _ 29 (0, 0) HR2.out).trans rfl
        go_wp2
        have hr9 := set9 (w := W2) (k := w.heap.size + 1) (t := 29) HR2.out (.int .i64 ix) (.int .i64 nx) (.slice a2 J.length c2) (.slice a3 B.length c3) (.slice a4 dn.length c4) (.slice a5 da.length c5) (.slice (some ⟨p, o, none⟩) de.length c6) (.slice a7 dd.length c7) (.slice a8 X.length c8)
        have hof : ∀ b, b ≠ w.heap.size + 1 → _ = W2.heap[b]? := set9_other (w := W2) (k := w.heap.size + 1) (.int .i64 ix) (.int .i64 nx) (.slice a2 J.length c2) (.slice a3 B.length c3) (.slice a4 dn.length c4) (.slice a5 da.length c5) (.slice (some ⟨p, o, none⟩) de.length c6) (.slice a7 dd.length c7) (.slice a8 X.length c8)
        have hbf := set9_below (W := W2) (HB2.out) (k := w.heap.size + 1) (by have := HLO.out; omega) (.int .i64 ix) (.int .i64 nx) (.slice a2 J.length c2) (.slice a3 B.length c3) (.slice a4 dn.length c4) (.slice a5 da.length c5) (.slice (some ⟨p, o, none⟩) de.length c6) (.slice a7 dd.length c7) (.slice a8 X.length c8)
        have hsf : (((((((((W2.setCell ⟨w.heap.size + 1, 0, none⟩ (.int .i64 ix)).setCell ⟨w.heap.size + 1, 1, none⟩ (.int .i64 nx)).setCell ⟨w.heap.size + 1, 2, none⟩ (.slice a2 J.length c2)).setCell ⟨w.heap.size + 1, 3, none⟩ (.slice a3 B.length c3)).setCell ⟨w.heap.size + 1, 4, none⟩ (.slice a4 dn.length c4)).setCell ⟨w.heap.size + 1, 5, none⟩ (.slice a5 da.length c5)).setCell ⟨w.heap.size + 1, 6, none⟩ (.slice (some ⟨p, o, none⟩) de.length c6)).setCell ⟨w.heap.size + 1, 7, none⟩ (.slice a7 dd.length c7)).setCell ⟨w.heap.size + 1, 8, none⟩ (.slice a8 X.length c8)).heap.size = W2.heap.size := by simp
        have hres : ∀ tmps : Array Value, tmps.getD 4 undef = .pointer (some ⟨w.heap.size + 1, 0, none⟩) → (results Try.f32 tmps).run Try.prog (((((((((W2.setCell ⟨w.heap.size + 1, 0, none⟩ (.int .i64 ix)).setCell ⟨w.heap.size + 1, 1, none⟩ (.int .i64 nx)).setCell ⟨w.heap.size + 1, 2, none⟩ (.slice a2 J.length c2)).setCell ⟨w.heap.size + 1, 3, none⟩ (.slice a3 B.length c3)).setCell ⟨w.heap.size + 1, 4, none⟩ (.slice a4 dn.length c4)).setCell ⟨w.heap.size + 1, 5, none⟩ (.slice a5 da.length c5)).setCell ⟨w.heap.size + 1, 6, none⟩ (.slice (some ⟨p, o, none⟩) de.length c6)).setCell ⟨w.heap.size + 1, 7, none⟩ (.slice a7 dd.length c7)).setCell ⟨w.heap.size + 1, 8, none⟩ (.slice a8 X.length c8)) = .ok (.agg #[.int .i64 ix, .int .i64 nx, .slice a2 J.length c2, .slice a3 B.length c3, .slice a4 dn.length c4, .slice a5 da.length c5, .slice (some ⟨p, o, none⟩) de.length c6, .slice a7 dd.length c7, .slice a8 X.length c8]) (((((((((W2.setCell ⟨w.heap.size + 1, 0, none⟩ (.int .i64 ix)).setCell ⟨w.heap.size + 1, 1, none⟩ (.int .i64 nx)).setCell ⟨w.heap.size + 1, 2, none⟩ (.slice a2 J.length c2)).setCell ⟨w.heap.size + 1, 3, none⟩ (.slice a3 B.length c3)).setCell ⟨w.heap.size + 1, 4, none⟩ (.slice a4 dn.length c4)).setCell ⟨w.heap.size + 1, 5, none⟩ (.slice a5 da.length c5)).setCell ⟨w.heap.size + 1, 6, none⟩ (.slice (some ⟨p, o, none⟩) de.length c6)).setCell ⟨w.heap.size + 1, 7, none⟩ (.slice a7 dd.length c7)).setCell ⟨w.heap.size + 1, 8, none⟩ (.slice a8 X.length c8)) := fun tmps h => results_cell_row Try.results32 tmps _ (w.heap.size + 1) 29 #[.int .i64 ix, .int .i64 nx, .slice a2 J.length c2, .slice a3 B.length c3, .slice a4 dn.length c4, .slice a5 da.length c5, .slice (some ⟨p, o, none⟩) de.length c6, .slice a7 dd.length c7, .slice a8 X.length c8] (0, 0) _ h hr9 Try.underlying29 rfl (by kernel_rfl)
        generalize (((((((((W2.setCell ⟨w.heap.size + 1, 0, none⟩ (.int .i64 ix)).setCell ⟨w.heap.size + 1, 1, none⟩ (.int .i64 nx)).setCell ⟨w.heap.size + 1, 2, none⟩ (.slice a2 J.length c2)).setCell ⟨w.heap.size + 1, 3, none⟩ (.slice a3 B.length c3)).setCell ⟨w.heap.size + 1, 4, none⟩ (.slice a4 dn.length c4)).setCell ⟨w.heap.size + 1, 5, none⟩ (.slice a5 da.length c5)).setCell ⟨w.heap.size + 1, 6, none⟩ (.slice (some ⟨p, o, none⟩) de.length c6)).setCell ⟨w.heap.size + 1, 7, none⟩ (.slice a7 dd.length c7)).setCell ⟨w.heap.size + 1, 8, none⟩ (.slice a8 X.length c8)) = wf at *
        refine bodyPost_ret (hres _ ?_) ?_ ?_
        · rfl
        · rfl
        exact chg_end HLO.out _ _ HS.out (HP2.out) (HB2.out) HX3.out hof hbf hsf
      · have b0 : decide (0 < (de.length : Int)) = false := decide_eq_false (by omega)
        have b1 : decide (0 < de.length) = false := decide_eq_false (by omega)
        clear hne
        go_wp2
        have hr9 := set9 (w := wc) (k := w.heap.size + 1) (t := 29) HRX.out (.int .i64 ix) (.int .i64 nx) (.slice a2 J.length c2) (.slice a3 B.length c3) (.slice a4 dn.length c4) (.slice a5 da.length c5) (.slice a6 de.length c6) (.slice a7 dd.length c7) (.slice a8 X.length c8)
        have hof : ∀ b, b ≠ w.heap.size + 1 → _ = wc.heap[b]? := set9_other (w := wc) (k := w.heap.size + 1) (.int .i64 ix) (.int .i64 nx) (.slice a2 J.length c2) (.slice a3 B.length c3) (.slice a4 dn.length c4) (.slice a5 da.length c5) (.slice a6 de.length c6) (.slice a7 dd.length c7) (.slice a8 X.length c8)
        have hbf := set9_below (W := wc) (HBL.out) (k := w.heap.size + 1) (by have := HLO.out; omega) (.int .i64 ix) (.int .i64 nx) (.slice a2 J.length c2) (.slice a3 B.length c3) (.slice a4 dn.length c4) (.slice a5 da.length c5) (.slice a6 de.length c6) (.slice a7 dd.length c7) (.slice a8 X.length c8)
        have hsf : (((((((((wc.setCell ⟨w.heap.size + 1, 0, none⟩ (.int .i64 ix)).setCell ⟨w.heap.size + 1, 1, none⟩ (.int .i64 nx)).setCell ⟨w.heap.size + 1, 2, none⟩ (.slice a2 J.length c2)).setCell ⟨w.heap.size + 1, 3, none⟩ (.slice a3 B.length c3)).setCell ⟨w.heap.size + 1, 4, none⟩ (.slice a4 dn.length c4)).setCell ⟨w.heap.size + 1, 5, none⟩ (.slice a5 da.length c5)).setCell ⟨w.heap.size + 1, 6, none⟩ (.slice a6 de.length c6)).setCell ⟨w.heap.size + 1, 7, none⟩ (.slice a7 dd.length c7)).setCell ⟨w.heap.size + 1, 8, none⟩ (.slice a8 X.length c8)).heap.size = wc.heap.size := by simp
        have hres : ∀ tmps : Array Value, tmps.getD 4 undef = .pointer (some ⟨w.heap.size + 1, 0, none⟩) → (results Try.f32 tmps).run Try.prog (((((((((wc.setCell ⟨w.heap.size + 1, 0, none⟩ (.int .i64 ix)).setCell ⟨w.heap.size + 1, 1, none⟩ (.int .i64 nx)).setCell ⟨w.heap.size + 1, 2, none⟩ (.slice a2 J.length c2)).setCell ⟨w.heap.size + 1, 3, none⟩ (.slice a3 B.length c3)).setCell ⟨w.heap.size + 1, 4, none⟩ (.slice a4 dn.length c4)).setCell ⟨w.heap.size + 1, 5, none⟩ (.slice a5 da.length c5)).setCell ⟨w.heap.size + 1, 6, none⟩ (.slice a6 de.length c6)).setCell ⟨w.heap.size + 1, 7, none⟩ (.slice a7 dd.length c7)).setCell ⟨w.heap.size + 1, 8, none⟩ (.slice a8 X.length c8)) = .ok (.agg #[.int .i64 ix, .int .i64 nx, .slice a2 J.length c2, .slice a3 B.length c3, .slice a4 dn.length c4, .slice a5 da.length c5, .slice a6 de.length c6, .slice a7 dd.length c7, .slice a8 X.length c8]) (((((((((wc.setCell ⟨w.heap.size + 1, 0, none⟩ (.int .i64 ix)).setCell ⟨w.heap.size + 1, 1, none⟩ (.int .i64 nx)).setCell ⟨w.heap.size + 1, 2, none⟩ (.slice a2 J.length c2)).setCell ⟨w.heap.size + 1, 3, none⟩ (.slice a3 B.length c3)).setCell ⟨w.heap.size + 1, 4, none⟩ (.slice a4 dn.length c4)).setCell ⟨w.heap.size + 1, 5, none⟩ (.slice a5 da.length c5)).setCell ⟨w.heap.size + 1, 6, none⟩ (.slice a6 de.length c6)).setCell ⟨w.heap.size + 1, 7, none⟩ (.slice a7 dd.length c7)).setCell ⟨w.heap.size + 1, 8, none⟩ (.slice a8 X.length c8)) := fun tmps h => results_cell_row Try.results32 tmps _ (w.heap.size + 1) 29 #[.int .i64 ix, .int .i64 nx, .slice a2 J.length c2, .slice a3 B.length c3, .slice a4 dn.length c4, .slice a5 da.length c5, .slice a6 de.length c6, .slice a7 dd.length c7, .slice a8 X.length c8] (0, 0) _ h hr9 Try.underlying29 rfl (by kernel_rfl)
        generalize (((((((((wc.setCell ⟨w.heap.size + 1, 0, none⟩ (.int .i64 ix)).setCell ⟨w.heap.size + 1, 1, none⟩ (.int .i64 nx)).setCell ⟨w.heap.size + 1, 2, none⟩ (.slice a2 J.length c2)).setCell ⟨w.heap.size + 1, 3, none⟩ (.slice a3 B.length c3)).setCell ⟨w.heap.size + 1, 4, none⟩ (.slice a4 dn.length c4)).setCell ⟨w.heap.size + 1, 5, none⟩ (.slice a5 da.length c5)).setCell ⟨w.heap.size + 1, 6, none⟩ (.slice a6 de.length c6)).setCell ⟨w.heap.size + 1, 7, none⟩ (.slice a7 dd.length c7)).setCell ⟨w.heap.size + 1, 8, none⟩ (.slice a8 X.length c8)) = wf at *
        refine bodyPost_ret (hres _ ?_) ?_ ?_
        · rfl
        · rfl
        exact chg_end HLO.out _ _ HS.out (HPK.out) (HBL.out) (fun b hb _ => HBW.out.block b hb) hof hbf hsf
    · have hrt : v.tmod 10 = 8 := by rw [htm]; exact hr
      clear htm hr hm0 hm1
      by_cases hne : 0 < dd.length
      · obtain ⟨p, o, ha, hnx, hc⟩ := HS.out.f.f7.pl (by intro e; (try simp only at e); rw [e] at hne; simp at hne)
        have hn := hnx.1
        have HEX := hidOf hnx.2
        clear hnx
        (try simp only at ha)
        subst ha
        have hcr := range_of (hc 0 hne) (HBW.out.block p hn.2.1)
        rw [Nat.zero_mul, Nat.add_zero] at hcr
        have hnw : Uf wc p := hn.2.2.to (HBW.out.block p hn.2.1)
        have lp : p < wc.heap.size := Nat.lt_of_lt_of_le hn.2.1 HBW.out.size
        have fp : ∀ j, wc.frozen? ⟨p, j, none⟩ = false := fun j => by obtain ⟨cs, t, hq⟩ := hnw; exact frozen_of_row wc p j cs t hq
        have HNP := hidOf hn.1
        have hpw : p < w.heap.size := hn.2.1
        have h64 : (0 : Int) < (dd.length : Int) := by omega
        have ePN : w.heap.size + 1 ≠ p := by omega
        have ePM : w.heap.size ≠ p := by omega
        generalize dd[0] = x at *
        have pc : wc.cell? ⟨p, o + 3, none⟩ = some (.int .i64 x.d) := hcr 3 _ rfl
        clear hcr hn hc hnw hne
        go_upto_region 28 with (fail)
        go_region
        obtain ⟨W2, hW2⟩ : ∃ yy, yy = (wc.setCell ⟨p, o + 3, none⟩ (.int .i64 (bits .xor .i64 x.d 1))).drew := ⟨_, rfl⟩
        rw [← hW2]
        have HB2 : Hid (Below lo w W2) := hidOf (by rw [hW2]; exact (HBL.out.setCell (p := ⟨p, o + 3, none⟩) HNP.out _).trans ((bdrew _).mono (by simp; have := HLO.out; omega)))
        have HP2 : Hid (Pk w W2) := hidOf (by rw [hW2]; exact (HPK.out.trans (Pk.set pc (.inr (.inl ⟨_, _, rfl, rfl⟩)))).trans (Pk.bel (bdrew _)))
        have HX2 : Hid (W2.heap[w.heap.size]? = some (.cells #[.int .i64 ix, .int .i64 nx, .slice a2 J.length c2, .slice a3 B.length c3, .slice a4 dn.length c4, .slice a5 da.length c5, .slice a6 de.length c6, .slice (some ⟨p, o, none⟩) dd.length c7, .slice a8 X.length c8] 29 (0, 0))) := hidOf (by rw [hW2]; exact (heap_setCell_other wc ⟨p, o + 3, none⟩ _ _ ePM).trans HBX.out)
        have HR2 : Hid (W2.heap[w.heap.size + 1]? = some (.cells #[.int .i64 0, .int .i64 0, .slice none 0 0, .slice none 0 0, .slice none 0 0, .slice none 0 0, .slice none 0 0, .slice none 0 0, .slice none 0 0] 29 (0, 0))) := hidOf (by rw [hW2]; exact (heap_setCell_other wc ⟨p, o + 3, none⟩ _ _ ePN).trans HRX.out)
        have HX3 : Hid (∀ b, b < w.heap.size → ¬ Ex b → W2.heap[b]? = w.heap[b]?) := hidOf (fun b hb hn => by rw [hW2]; exact (heap_setCell_other wc ⟨p, o + 3, none⟩ b _ (fun e => hn (by have e2 : b = p := e; rw [e2]; exact HEX.out))).trans (HBW.out.block b hb))
        clear hW2 pc fp lp l0 l1 f0 f1 x0 r0 x1 r1 x2 r2 x3 r3 x4 r4 x5 r5 x6 r6 x7 r7 x8 r8
        have l1 : w.heap.size + 1 < W2.heap.size := heap_lt HR2.out
        have l0 : w.heap.size < W2.heap.size := heap_lt HX2.out
        have f1 : ∀ j, W2.frozen? ⟨w.heap.size + 1, j, none⟩ = false := fun j => frozen_of_row W2 _ j _ 29 HR2.out
        have x0 : W2.cell? ⟨w.heap.size, 0, none⟩ = some (.int .i64 ix) := (cell_of_row W2 _ 0 _ 29 (0, 0) HX2.out).trans rfl
        have x1 : W2.cell? ⟨w.heap.size, 1, none⟩ = some (.int .i64 nx) := (cell_of_row W2 _ 1 _ 29 (0, 0) HX2.out).trans rfl
        have x2 : W2.cell? ⟨w.heap.size, 2, none⟩ = some (.slice a2 J.length c2) := (cell_of_row W2 _ 2 _ 29 (0, 0) HX2.out).trans rfl
        have x3 : W2.cell? ⟨w.heap.size, 3, none⟩ = some (.slice a3 B.length c3) := (cell_of_row W2 _ 3 _ 29 (0, 0) HX2.out).trans rfl
        have x4 : W2.cell? ⟨w.heap.size, 4, none⟩ = some (.slice a4 dn.length c4) := (cell_of_row W2 _ 4 _ 29 (0, 0) HX2.out).trans rfl
        have x5 : W2.cell? ⟨w.heap.size, 5, none⟩ = some (.slice a5 da.length c5) := (cell_of_row W2 _ 5 _ 29 (0, 0) HX2.out).trans rfl
        have x6 : W2.cell? ⟨w.heap.size, 6, none⟩ = some (.slice a6 de.length c6) := (cell_of_row W2 _ 6 _ 29 (0, 0) HX2.out).trans rfl
        have x7 : W2.cell? ⟨w.heap.size, 7, none⟩ = some (.slice (some ⟨p, o, none⟩) dd.length c7) := (cell_of_row W2 _ 7 _ 29 (0, 0) HX2.out).trans rfl
        have x8 : W2.cell? ⟨w.heap.size, 8, none⟩ = some (.slice a8 X.length c8) := (cell_of_row W2 _ 8 _ 29 (0, 0) HX2.out).trans rfl
        have r0 : W2.cell? ⟨w.heap.size + 1, 0, none⟩ = some (.int .i64 0) := (cell_of_row W2 _ 0 _ 29 (0, 0) HR2.out).trans rfl
        have r1 : W2.cell? ⟨w.heap.size + 1, 1, none⟩ = some (.int .i64 0) := (cell_of_row W2 _ 1 _ 29 (0, 0) HR2.out).trans rfl
        have r2 : W2.cell? ⟨w.heap.size + 1, 2, none⟩ = some (.slice none 0 0) := (cell_of_row W2 _ 2 _ 29 (0, 0) HR2.out).trans rfl
        have r3 : W2.cell? ⟨w.heap.size + 1, 3, none⟩ = some (.slice none 0 0) := (cell_of_row W2 _ 3 _ 29 (0, 0) HR2.out).trans rfl
        have r4 : W2.cell? ⟨w.heap.size + 1, 4, none⟩ = some (.slice none 0 0) := (cell_of_row W2 _ 4 _ 29 (0, 0) HR2.out).trans rfl
        have r5 : W2.cell? ⟨w.heap.size + 1, 5, none⟩ = some (.slice none 0 0) := (cell_of_row W2 _ 5 _ 29 (0, 0) HR2.out).trans rfl
        have r6 : W2.cell? ⟨w.heap.size + 1, 6, none⟩ = some (.slice none 0 0) := (cell_of_row W2 _ 6 _ 29 (0, 0) HR2.out).trans rfl
        have r7 : W2.cell? ⟨w.heap.size + 1, 7, none⟩ = some (.slice none 0 0) := (cell_of_row W2 _ 7 _ 29 (0, 0) HR2.out).trans rfl
        have r8 : W2.cell? ⟨w.heap.size + 1, 8, none⟩ = some (.slice none 0 0) := (cell_of_row W2 _ 8 _ 29 (0, 0) HR2.out).trans rfl
        go_wp2
        have hr9 := set9 (w := W2) (k := w.heap.size + 1) (t := 29) HR2.out (.int .i64 ix) (.int .i64 nx) (.slice a2 J.length c2) (.slice a3 B.length c3) (.slice a4 dn.length c4) (.slice a5 da.length c5) (.slice a6 de.length c6) (.slice (some ⟨p, o, none⟩) dd.length c7) (.slice a8 X.length c8)
        have hof : ∀ b, b ≠ w.heap.size + 1 → _ = W2.heap[b]? := set9_other (w := W2) (k := w.heap.size + 1) (.int .i64 ix) (.int .i64 nx) (.slice a2 J.length c2) (.slice a3 B.length c3) (.slice a4 dn.length c4) (.slice a5 da.length c5) (.slice a6 de.length c6) (.slice (some ⟨p, o, none⟩) dd.length c7) (.slice a8 X.length c8)
        have hbf := set9_below (W := W2) (HB2.out) (k := w.heap.size + 1) (by have := HLO.out; omega) (.int .i64 ix) (.int .i64 nx) (.slice a2 J.length c2) (.slice a3 B.length c3) (.slice a4 dn.length c4) (.slice a5 da.length c5) (.slice a6 de.length c6) (.slice (some ⟨p, o, none⟩) dd.length c7) (.slice a8 X.length c8)
        have hsf : (((((((((W2.setCell ⟨w.heap.size + 1, 0, none⟩ (.int .i64 ix)).setCell ⟨w.heap.size + 1, 1, none⟩ (.int .i64 nx)).setCell ⟨w.heap.size + 1, 2, none⟩ (.slice a2 J.length c2)).setCell ⟨w.heap.size + 1, 3, none⟩ (.slice a3 B.length c3)).setCell ⟨w.heap.size + 1, 4, none⟩ (.slice a4 dn.length c4)).setCell ⟨w.heap.size + 1, 5, none⟩ (.slice a5 da.length c5)).setCell ⟨w.heap.size + 1, 6, none⟩ (.slice a6 de.length c6)).setCell ⟨w.heap.size + 1, 7, none⟩ (.slice (some ⟨p, o, none⟩) dd.length c7)).setCell ⟨w.heap.size + 1, 8, none⟩ (.slice a8 X.length c8)).heap.size = W2.heap.size := by simp
        have hres : ∀ tmps : Array Value, tmps.getD 4 undef = .pointer (some ⟨w.heap.size + 1, 0, none⟩) → (results Try.f32 tmps).run Try.prog (((((((((W2.setCell ⟨w.heap.size + 1, 0, none⟩ (.int .i64 ix)).setCell ⟨w.heap.size + 1, 1, none⟩ (.int .i64 nx)).setCell ⟨w.heap.size + 1, 2, none⟩ (.slice a2 J.length c2)).setCell ⟨w.heap.size + 1, 3, none⟩ (.slice a3 B.length c3)).setCell ⟨w.heap.size + 1, 4, none⟩ (.slice a4 dn.length c4)).setCell ⟨w.heap.size + 1, 5, none⟩ (.slice a5 da.length c5)).setCell ⟨w.heap.size + 1, 6, none⟩ (.slice a6 de.length c6)).setCell ⟨w.heap.size + 1, 7, none⟩ (.slice (some ⟨p, o, none⟩) dd.length c7)).setCell ⟨w.heap.size + 1, 8, none⟩ (.slice a8 X.length c8)) = .ok (.agg #[.int .i64 ix, .int .i64 nx, .slice a2 J.length c2, .slice a3 B.length c3, .slice a4 dn.length c4, .slice a5 da.length c5, .slice a6 de.length c6, .slice (some ⟨p, o, none⟩) dd.length c7, .slice a8 X.length c8]) (((((((((W2.setCell ⟨w.heap.size + 1, 0, none⟩ (.int .i64 ix)).setCell ⟨w.heap.size + 1, 1, none⟩ (.int .i64 nx)).setCell ⟨w.heap.size + 1, 2, none⟩ (.slice a2 J.length c2)).setCell ⟨w.heap.size + 1, 3, none⟩ (.slice a3 B.length c3)).setCell ⟨w.heap.size + 1, 4, none⟩ (.slice a4 dn.length c4)).setCell ⟨w.heap.size + 1, 5, none⟩ (.slice a5 da.length c5)).setCell ⟨w.heap.size + 1, 6, none⟩ (.slice a6 de.length c6)).setCell ⟨w.heap.size + 1, 7, none⟩ (.slice (some ⟨p, o, none⟩) dd.length c7)).setCell ⟨w.heap.size + 1, 8, none⟩ (.slice a8 X.length c8)) := fun tmps h => results_cell_row Try.results32 tmps _ (w.heap.size + 1) 29 #[.int .i64 ix, .int .i64 nx, .slice a2 J.length c2, .slice a3 B.length c3, .slice a4 dn.length c4, .slice a5 da.length c5, .slice a6 de.length c6, .slice (some ⟨p, o, none⟩) dd.length c7, .slice a8 X.length c8] (0, 0) _ h hr9 Try.underlying29 rfl (by kernel_rfl)
        generalize (((((((((W2.setCell ⟨w.heap.size + 1, 0, none⟩ (.int .i64 ix)).setCell ⟨w.heap.size + 1, 1, none⟩ (.int .i64 nx)).setCell ⟨w.heap.size + 1, 2, none⟩ (.slice a2 J.length c2)).setCell ⟨w.heap.size + 1, 3, none⟩ (.slice a3 B.length c3)).setCell ⟨w.heap.size + 1, 4, none⟩ (.slice a4 dn.length c4)).setCell ⟨w.heap.size + 1, 5, none⟩ (.slice a5 da.length c5)).setCell ⟨w.heap.size + 1, 6, none⟩ (.slice a6 de.length c6)).setCell ⟨w.heap.size + 1, 7, none⟩ (.slice (some ⟨p, o, none⟩) dd.length c7)).setCell ⟨w.heap.size + 1, 8, none⟩ (.slice a8 X.length c8)) = wf at *
        refine bodyPost_ret (hres _ ?_) ?_ ?_
        · rfl
        · rfl
        exact chg_end HLO.out _ _ HS.out (HP2.out) (HB2.out) HX3.out hof hbf hsf
      · have b0 : decide (0 < (dd.length : Int)) = false := decide_eq_false (by omega)
        have b1 : decide (0 < dd.length) = false := decide_eq_false (by omega)
        clear hne
        go_wp2
        have hr9 := set9 (w := wc) (k := w.heap.size + 1) (t := 29) HRX.out (.int .i64 ix) (.int .i64 nx) (.slice a2 J.length c2) (.slice a3 B.length c3) (.slice a4 dn.length c4) (.slice a5 da.length c5) (.slice a6 de.length c6) (.slice a7 dd.length c7) (.slice a8 X.length c8)
        have hof : ∀ b, b ≠ w.heap.size + 1 → _ = wc.heap[b]? := set9_other (w := wc) (k := w.heap.size + 1) (.int .i64 ix) (.int .i64 nx) (.slice a2 J.length c2) (.slice a3 B.length c3) (.slice a4 dn.length c4) (.slice a5 da.length c5) (.slice a6 de.length c6) (.slice a7 dd.length c7) (.slice a8 X.length c8)
        have hbf := set9_below (W := wc) (HBL.out) (k := w.heap.size + 1) (by have := HLO.out; omega) (.int .i64 ix) (.int .i64 nx) (.slice a2 J.length c2) (.slice a3 B.length c3) (.slice a4 dn.length c4) (.slice a5 da.length c5) (.slice a6 de.length c6) (.slice a7 dd.length c7) (.slice a8 X.length c8)
        have hsf : (((((((((wc.setCell ⟨w.heap.size + 1, 0, none⟩ (.int .i64 ix)).setCell ⟨w.heap.size + 1, 1, none⟩ (.int .i64 nx)).setCell ⟨w.heap.size + 1, 2, none⟩ (.slice a2 J.length c2)).setCell ⟨w.heap.size + 1, 3, none⟩ (.slice a3 B.length c3)).setCell ⟨w.heap.size + 1, 4, none⟩ (.slice a4 dn.length c4)).setCell ⟨w.heap.size + 1, 5, none⟩ (.slice a5 da.length c5)).setCell ⟨w.heap.size + 1, 6, none⟩ (.slice a6 de.length c6)).setCell ⟨w.heap.size + 1, 7, none⟩ (.slice a7 dd.length c7)).setCell ⟨w.heap.size + 1, 8, none⟩ (.slice a8 X.length c8)).heap.size = wc.heap.size := by simp
        have hres : ∀ tmps : Array Value, tmps.getD 4 undef = .pointer (some ⟨w.heap.size + 1, 0, none⟩) → (results Try.f32 tmps).run Try.prog (((((((((wc.setCell ⟨w.heap.size + 1, 0, none⟩ (.int .i64 ix)).setCell ⟨w.heap.size + 1, 1, none⟩ (.int .i64 nx)).setCell ⟨w.heap.size + 1, 2, none⟩ (.slice a2 J.length c2)).setCell ⟨w.heap.size + 1, 3, none⟩ (.slice a3 B.length c3)).setCell ⟨w.heap.size + 1, 4, none⟩ (.slice a4 dn.length c4)).setCell ⟨w.heap.size + 1, 5, none⟩ (.slice a5 da.length c5)).setCell ⟨w.heap.size + 1, 6, none⟩ (.slice a6 de.length c6)).setCell ⟨w.heap.size + 1, 7, none⟩ (.slice a7 dd.length c7)).setCell ⟨w.heap.size + 1, 8, none⟩ (.slice a8 X.length c8)) = .ok (.agg #[.int .i64 ix, .int .i64 nx, .slice a2 J.length c2, .slice a3 B.length c3, .slice a4 dn.length c4, .slice a5 da.length c5, .slice a6 de.length c6, .slice a7 dd.length c7, .slice a8 X.length c8]) (((((((((wc.setCell ⟨w.heap.size + 1, 0, none⟩ (.int .i64 ix)).setCell ⟨w.heap.size + 1, 1, none⟩ (.int .i64 nx)).setCell ⟨w.heap.size + 1, 2, none⟩ (.slice a2 J.length c2)).setCell ⟨w.heap.size + 1, 3, none⟩ (.slice a3 B.length c3)).setCell ⟨w.heap.size + 1, 4, none⟩ (.slice a4 dn.length c4)).setCell ⟨w.heap.size + 1, 5, none⟩ (.slice a5 da.length c5)).setCell ⟨w.heap.size + 1, 6, none⟩ (.slice a6 de.length c6)).setCell ⟨w.heap.size + 1, 7, none⟩ (.slice a7 dd.length c7)).setCell ⟨w.heap.size + 1, 8, none⟩ (.slice a8 X.length c8)) := fun tmps h => results_cell_row Try.results32 tmps _ (w.heap.size + 1) 29 #[.int .i64 ix, .int .i64 nx, .slice a2 J.length c2, .slice a3 B.length c3, .slice a4 dn.length c4, .slice a5 da.length c5, .slice a6 de.length c6, .slice a7 dd.length c7, .slice a8 X.length c8] (0, 0) _ h hr9 Try.underlying29 rfl (by kernel_rfl)
        generalize (((((((((wc.setCell ⟨w.heap.size + 1, 0, none⟩ (.int .i64 ix)).setCell ⟨w.heap.size + 1, 1, none⟩ (.int .i64 nx)).setCell ⟨w.heap.size + 1, 2, none⟩ (.slice a2 J.length c2)).setCell ⟨w.heap.size + 1, 3, none⟩ (.slice a3 B.length c3)).setCell ⟨w.heap.size + 1, 4, none⟩ (.slice a4 dn.length c4)).setCell ⟨w.heap.size + 1, 5, none⟩ (.slice a5 da.length c5)).setCell ⟨w.heap.size + 1, 6, none⟩ (.slice a6 de.length c6)).setCell ⟨w.heap.size + 1, 7, none⟩ (.slice a7 dd.length c7)).setCell ⟨w.heap.size + 1, 8, none⟩ (.slice a8 X.length c8)) = wf at *
        refine bodyPost_ret (hres _ ?_) ?_ ?_
        · rfl
        · rfl
        exact chg_end HLO.out _ _ HS.out (HPK.out) (HBL.out) (fun b hb _ => HBW.out.block b hb) hof hbf hsf
    · have hrt : v.tmod 10 = 9 := by rw [htm]; exact hr
      clear htm hr hm0 hm1
      by_cases hne : 0 < X.length
      · obtain ⟨p, o, ha, hnx, hc⟩ := HS.out.f.f8.pl (by intro e; (try simp only at e); rw [e] at hne; simp at hne)
        have hn := hnx.1
        have HEX := hidOf hnx.2
        clear hnx
        (try simp only at ha)
        subst ha
        have hcr := range_of (hc 0 hne) (HBW.out.block p hn.2.1)
        rw [Nat.zero_mul, Nat.add_zero] at hcr
        have hnw : Uf wc p := hn.2.2.to (HBW.out.block p hn.2.1)
        have lp : p < wc.heap.size := Nat.lt_of_lt_of_le hn.2.1 HBW.out.size
        have fp : ∀ j, wc.frozen? ⟨p, j, none⟩ = false := fun j => by obtain ⟨cs, t, hq⟩ := hnw; exact frozen_of_row wc p j cs t hq
        have HNP := hidOf hn.1
        have hpw : p < w.heap.size := hn.2.1
        have h64 : (0 : Int) < (X.length : Int) := by omega
        have ePN : w.heap.size + 1 ≠ p := by omega
        have ePM : w.heap.size ≠ p := by omega
        generalize X[0] = x at *
        have pc : wc.cell? ⟨p, o + 3, none⟩ = some (.int .i64 x.va) := hcr 3 _ rfl
        clear hcr hn hc hnw hne
        go_upto_region 31 with (fail)
        go_region
        obtain ⟨W2, hW2⟩ : ∃ yy, yy = (wc.setCell ⟨p, o + 3, none⟩ (.int .i64 (bits .xor .i64 x.va 1))).drew := ⟨_, rfl⟩
        rw [← hW2]
        have HB2 : Hid (Below lo w W2) := hidOf (by rw [hW2]; exact (HBL.out.setCell (p := ⟨p, o + 3, none⟩) HNP.out _).trans ((bdrew _).mono (by simp; have := HLO.out; omega)))
        have HP2 : Hid (Pk w W2) := hidOf (by rw [hW2]; exact (HPK.out.trans (Pk.set pc (.inr (.inl ⟨_, _, rfl, rfl⟩)))).trans (Pk.bel (bdrew _)))
        have HX2 : Hid (W2.heap[w.heap.size]? = some (.cells #[.int .i64 ix, .int .i64 nx, .slice a2 J.length c2, .slice a3 B.length c3, .slice a4 dn.length c4, .slice a5 da.length c5, .slice a6 de.length c6, .slice a7 dd.length c7, .slice (some ⟨p, o, none⟩) X.length c8] 29 (0, 0))) := hidOf (by rw [hW2]; exact (heap_setCell_other wc ⟨p, o + 3, none⟩ _ _ ePM).trans HBX.out)
        have HR2 : Hid (W2.heap[w.heap.size + 1]? = some (.cells #[.int .i64 0, .int .i64 0, .slice none 0 0, .slice none 0 0, .slice none 0 0, .slice none 0 0, .slice none 0 0, .slice none 0 0, .slice none 0 0] 29 (0, 0))) := hidOf (by rw [hW2]; exact (heap_setCell_other wc ⟨p, o + 3, none⟩ _ _ ePN).trans HRX.out)
        have HX3 : Hid (∀ b, b < w.heap.size → ¬ Ex b → W2.heap[b]? = w.heap[b]?) := hidOf (fun b hb hn => by rw [hW2]; exact (heap_setCell_other wc ⟨p, o + 3, none⟩ b _ (fun e => hn (by have e2 : b = p := e; rw [e2]; exact HEX.out))).trans (HBW.out.block b hb))
        clear hW2 pc fp lp l0 l1 f0 f1 x0 r0 x1 r1 x2 r2 x3 r3 x4 r4 x5 r5 x6 r6 x7 r7 x8 r8
        have l1 : w.heap.size + 1 < W2.heap.size := heap_lt HR2.out
        have l0 : w.heap.size < W2.heap.size := heap_lt HX2.out
        have f1 : ∀ j, W2.frozen? ⟨w.heap.size + 1, j, none⟩ = false := fun j => frozen_of_row W2 _ j _ 29 HR2.out
        have x0 : W2.cell? ⟨w.heap.size, 0, none⟩ = some (.int .i64 ix) := (cell_of_row W2 _ 0 _ 29 (0, 0) HX2.out).trans rfl
        have x1 : W2.cell? ⟨w.heap.size, 1, none⟩ = some (.int .i64 nx) := (cell_of_row W2 _ 1 _ 29 (0, 0) HX2.out).trans rfl
        have x2 : W2.cell? ⟨w.heap.size, 2, none⟩ = some (.slice a2 J.length c2) := (cell_of_row W2 _ 2 _ 29 (0, 0) HX2.out).trans rfl
        have x3 : W2.cell? ⟨w.heap.size, 3, none⟩ = some (.slice a3 B.length c3) := (cell_of_row W2 _ 3 _ 29 (0, 0) HX2.out).trans rfl
        have x4 : W2.cell? ⟨w.heap.size, 4, none⟩ = some (.slice a4 dn.length c4) := (cell_of_row W2 _ 4 _ 29 (0, 0) HX2.out).trans rfl
        have x5 : W2.cell? ⟨w.heap.size, 5, none⟩ = some (.slice a5 da.length c5) := (cell_of_row W2 _ 5 _ 29 (0, 0) HX2.out).trans rfl
        have x6 : W2.cell? ⟨w.heap.size, 6, none⟩ = some (.slice a6 de.length c6) := (cell_of_row W2 _ 6 _ 29 (0, 0) HX2.out).trans rfl
        have x7 : W2.cell? ⟨w.heap.size, 7, none⟩ = some (.slice a7 dd.length c7) := (cell_of_row W2 _ 7 _ 29 (0, 0) HX2.out).trans rfl
        have x8 : W2.cell? ⟨w.heap.size, 8, none⟩ = some (.slice (some ⟨p, o, none⟩) X.length c8) := (cell_of_row W2 _ 8 _ 29 (0, 0) HX2.out).trans rfl
        have r0 : W2.cell? ⟨w.heap.size + 1, 0, none⟩ = some (.int .i64 0) := (cell_of_row W2 _ 0 _ 29 (0, 0) HR2.out).trans rfl
        have r1 : W2.cell? ⟨w.heap.size + 1, 1, none⟩ = some (.int .i64 0) := (cell_of_row W2 _ 1 _ 29 (0, 0) HR2.out).trans rfl
        have r2 : W2.cell? ⟨w.heap.size + 1, 2, none⟩ = some (.slice none 0 0) := (cell_of_row W2 _ 2 _ 29 (0, 0) HR2.out).trans rfl
        have r3 : W2.cell? ⟨w.heap.size + 1, 3, none⟩ = some (.slice none 0 0) := (cell_of_row W2 _ 3 _ 29 (0, 0) HR2.out).trans rfl
        have r4 : W2.cell? ⟨w.heap.size + 1, 4, none⟩ = some (.slice none 0 0) := (cell_of_row W2 _ 4 _ 29 (0, 0) HR2.out).trans rfl
        have r5 : W2.cell? ⟨w.heap.size + 1, 5, none⟩ = some (.slice none 0 0) := (cell_of_row W2 _ 5 _ 29 (0, 0) HR2.out).trans rfl
        have r6 : W2.cell? ⟨w.heap.size + 1, 6, none⟩ = some (.slice none 0 0) := (cell_of_row W2 _ 6 _ 29 (0, 0) HR2.out).trans rfl
        have r7 : W2.cell? ⟨w.heap.size + 1, 7, none⟩ = some (.slice none 0 0) := (cell_of_row W2 _ 7 _ 29 (0, 0) HR2.out).trans rfl
        have r8 : W2.cell? ⟨w.heap.size + 1, 8, none⟩ = some (.slice none 0 0) := (cell_of_row W2 _ 8 _ 29 (0, 0) HR2.out).trans rfl
        go_wp2
        have hr9 := set9 (w := W2) (k := w.heap.size + 1) (t := 29) HR2.out (.int .i64 ix) (.int .i64 nx) (.slice a2 J.length c2) (.slice a3 B.length c3) (.slice a4 dn.length c4) (.slice a5 da.length c5) (.slice a6 de.length c6) (.slice a7 dd.length c7) (.slice (some ⟨p, o, none⟩) X.length c8)
        have hof : ∀ b, b ≠ w.heap.size + 1 → _ = W2.heap[b]? := set9_other (w := W2) (k := w.heap.size + 1) (.int .i64 ix) (.int .i64 nx) (.slice a2 J.length c2) (.slice a3 B.length c3) (.slice a4 dn.length c4) (.slice a5 da.length c5) (.slice a6 de.length c6) (.slice a7 dd.length c7) (.slice (some ⟨p, o, none⟩) X.length c8)
        have hbf := set9_below (W := W2) (HB2.out) (k := w.heap.size + 1) (by have := HLO.out; omega) (.int .i64 ix) (.int .i64 nx) (.slice a2 J.length c2) (.slice a3 B.length c3) (.slice a4 dn.length c4) (.slice a5 da.length c5) (.slice a6 de.length c6) (.slice a7 dd.length c7) (.slice (some ⟨p, o, none⟩) X.length c8)
        have hsf : (((((((((W2.setCell ⟨w.heap.size + 1, 0, none⟩ (.int .i64 ix)).setCell ⟨w.heap.size + 1, 1, none⟩ (.int .i64 nx)).setCell ⟨w.heap.size + 1, 2, none⟩ (.slice a2 J.length c2)).setCell ⟨w.heap.size + 1, 3, none⟩ (.slice a3 B.length c3)).setCell ⟨w.heap.size + 1, 4, none⟩ (.slice a4 dn.length c4)).setCell ⟨w.heap.size + 1, 5, none⟩ (.slice a5 da.length c5)).setCell ⟨w.heap.size + 1, 6, none⟩ (.slice a6 de.length c6)).setCell ⟨w.heap.size + 1, 7, none⟩ (.slice a7 dd.length c7)).setCell ⟨w.heap.size + 1, 8, none⟩ (.slice (some ⟨p, o, none⟩) X.length c8)).heap.size = W2.heap.size := by simp
        have hres : ∀ tmps : Array Value, tmps.getD 4 undef = .pointer (some ⟨w.heap.size + 1, 0, none⟩) → (results Try.f32 tmps).run Try.prog (((((((((W2.setCell ⟨w.heap.size + 1, 0, none⟩ (.int .i64 ix)).setCell ⟨w.heap.size + 1, 1, none⟩ (.int .i64 nx)).setCell ⟨w.heap.size + 1, 2, none⟩ (.slice a2 J.length c2)).setCell ⟨w.heap.size + 1, 3, none⟩ (.slice a3 B.length c3)).setCell ⟨w.heap.size + 1, 4, none⟩ (.slice a4 dn.length c4)).setCell ⟨w.heap.size + 1, 5, none⟩ (.slice a5 da.length c5)).setCell ⟨w.heap.size + 1, 6, none⟩ (.slice a6 de.length c6)).setCell ⟨w.heap.size + 1, 7, none⟩ (.slice a7 dd.length c7)).setCell ⟨w.heap.size + 1, 8, none⟩ (.slice (some ⟨p, o, none⟩) X.length c8)) = .ok (.agg #[.int .i64 ix, .int .i64 nx, .slice a2 J.length c2, .slice a3 B.length c3, .slice a4 dn.length c4, .slice a5 da.length c5, .slice a6 de.length c6, .slice a7 dd.length c7, .slice (some ⟨p, o, none⟩) X.length c8]) (((((((((W2.setCell ⟨w.heap.size + 1, 0, none⟩ (.int .i64 ix)).setCell ⟨w.heap.size + 1, 1, none⟩ (.int .i64 nx)).setCell ⟨w.heap.size + 1, 2, none⟩ (.slice a2 J.length c2)).setCell ⟨w.heap.size + 1, 3, none⟩ (.slice a3 B.length c3)).setCell ⟨w.heap.size + 1, 4, none⟩ (.slice a4 dn.length c4)).setCell ⟨w.heap.size + 1, 5, none⟩ (.slice a5 da.length c5)).setCell ⟨w.heap.size + 1, 6, none⟩ (.slice a6 de.length c6)).setCell ⟨w.heap.size + 1, 7, none⟩ (.slice a7 dd.length c7)).setCell ⟨w.heap.size + 1, 8, none⟩ (.slice (some ⟨p, o, none⟩) X.length c8)) := fun tmps h => results_cell_row Try.results32 tmps _ (w.heap.size + 1) 29 #[.int .i64 ix, .int .i64 nx, .slice a2 J.length c2, .slice a3 B.length c3, .slice a4 dn.length c4, .slice a5 da.length c5, .slice a6 de.length c6, .slice a7 dd.length c7, .slice (some ⟨p, o, none⟩) X.length c8] (0, 0) _ h hr9 Try.underlying29 rfl (by kernel_rfl)
        generalize (((((((((W2.setCell ⟨w.heap.size + 1, 0, none⟩ (.int .i64 ix)).setCell ⟨w.heap.size + 1, 1, none⟩ (.int .i64 nx)).setCell ⟨w.heap.size + 1, 2, none⟩ (.slice a2 J.length c2)).setCell ⟨w.heap.size + 1, 3, none⟩ (.slice a3 B.length c3)).setCell ⟨w.heap.size + 1, 4, none⟩ (.slice a4 dn.length c4)).setCell ⟨w.heap.size + 1, 5, none⟩ (.slice a5 da.length c5)).setCell ⟨w.heap.size + 1, 6, none⟩ (.slice a6 de.length c6)).setCell ⟨w.heap.size + 1, 7, none⟩ (.slice a7 dd.length c7)).setCell ⟨w.heap.size + 1, 8, none⟩ (.slice (some ⟨p, o, none⟩) X.length c8)) = wf at *
        refine bodyPost_ret (hres _ ?_) ?_ ?_
        · rfl
        · rfl
        exact chg_end HLO.out _ _ HS.out (HP2.out) (HB2.out) HX3.out hof hbf hsf
      · have b0 : decide (0 < (X.length : Int)) = false := decide_eq_false (by omega)
        have b1 : decide (0 < X.length) = false := decide_eq_false (by omega)
        clear hne
        go_wp2
        have hr9 := set9 (w := wc) (k := w.heap.size + 1) (t := 29) HRX.out (.int .i64 ix) (.int .i64 nx) (.slice a2 J.length c2) (.slice a3 B.length c3) (.slice a4 dn.length c4) (.slice a5 da.length c5) (.slice a6 de.length c6) (.slice a7 dd.length c7) (.slice a8 X.length c8)
        have hof : ∀ b, b ≠ w.heap.size + 1 → _ = wc.heap[b]? := set9_other (w := wc) (k := w.heap.size + 1) (.int .i64 ix) (.int .i64 nx) (.slice a2 J.length c2) (.slice a3 B.length c3) (.slice a4 dn.length c4) (.slice a5 da.length c5) (.slice a6 de.length c6) (.slice a7 dd.length c7) (.slice a8 X.length c8)
        have hbf := set9_below (W := wc) (HBL.out) (k := w.heap.size + 1) (by have := HLO.out; omega) (.int .i64 ix) (.int .i64 nx) (.slice a2 J.length c2) (.slice a3 B.length c3) (.slice a4 dn.length c4) (.slice a5 da.length c5) (.slice a6 de.length c6) (.slice a7 dd.length c7) (.slice a8 X.length c8)
        have hsf : (((((((((wc.setCell ⟨w.heap.size + 1, 0, none⟩ (.int .i64 ix)).setCell ⟨w.heap.size + 1, 1, none⟩ (.int .i64 nx)).setCell ⟨w.heap.size + 1, 2, none⟩ (.slice a2 J.length c2)).setCell ⟨w.heap.size + 1, 3, none⟩ (.slice a3 B.length c3)).setCell ⟨w.heap.size + 1, 4, none⟩ (.slice a4 dn.length c4)).setCell ⟨w.heap.size + 1, 5, none⟩ (.slice a5 da.length c5)).setCell ⟨w.heap.size + 1, 6, none⟩ (.slice a6 de.length c6)).setCell ⟨w.heap.size + 1, 7, none⟩ (.slice a7 dd.length c7)).setCell ⟨w.heap.size + 1, 8, none⟩ (.slice a8 X.length c8)).heap.size = wc.heap.size := by simp
        have hres : ∀ tmps : Array Value, tmps.getD 4 undef = .pointer (some ⟨w.heap.size + 1, 0, none⟩) → (results Try.f32 tmps).run Try.prog (((((((((wc.setCell ⟨w.heap.size + 1, 0, none⟩ (.int .i64 ix)).setCell ⟨w.heap.size + 1, 1, none⟩ (.int .i64 nx)).setCell ⟨w.heap.size + 1, 2, none⟩ (.slice a2 J.length c2)).setCell ⟨w.heap.size + 1, 3, none⟩ (.slice a3 B.length c3)).setCell ⟨w.heap.size + 1, 4, none⟩ (.slice a4 dn.length c4)).setCell ⟨w.heap.size + 1, 5, none⟩ (.slice a5 da.length c5)).setCell ⟨w.heap.size + 1, 6, none⟩ (.slice a6 de.length c6)).setCell ⟨w.heap.size + 1, 7, none⟩ (.slice a7 dd.length c7)).setCell ⟨w.heap.size + 1, 8, none⟩ (.slice a8 X.length c8)) = .ok (.agg #[.int .i64 ix, .int .i64 nx, .slice a2 J.length c2, .slice a3 B.length c3, .slice a4 dn.length c4, .slice a5 da.length c5, .slice a6 de.length c6, .slice a7 dd.length c7, .slice a8 X.length c8]) (((((((((wc.setCell ⟨w.heap.size + 1, 0, none⟩ (.int .i64 ix)).setCell ⟨w.heap.size + 1, 1, none⟩ (.int .i64 nx)).setCell ⟨w.heap.size + 1, 2, none⟩ (.slice a2 J.length c2)).setCell ⟨w.heap.size + 1, 3, none⟩ (.slice a3 B.length c3)).setCell ⟨w.heap.size + 1, 4, none⟩ (.slice a4 dn.length c4)).setCell ⟨w.heap.size + 1, 5, none⟩ (.slice a5 da.length c5)).setCell ⟨w.heap.size + 1, 6, none⟩ (.slice a6 de.length c6)).setCell ⟨w.heap.size + 1, 7, none⟩ (.slice a7 dd.length c7)).setCell ⟨w.heap.size + 1, 8, none⟩ (.slice a8 X.length c8)) := fun tmps h => results_cell_row Try.results32 tmps _ (w.heap.size + 1) 29 #[.int .i64 ix, .int .i64 nx, .slice a2 J.length c2, .slice a3 B.length c3, .slice a4 dn.length c4, .slice a5 da.length c5, .slice a6 de.length c6, .slice a7 dd.length c7, .slice a8 X.length c8] (0, 0) _ h hr9 Try.underlying29 rfl (by kernel_rfl)
        generalize (((((((((wc.setCell ⟨w.heap.size + 1, 0, none⟩ (.int .i64 ix)).setCell ⟨w.heap.size + 1, 1, none⟩ (.int .i64 nx)).setCell ⟨w.heap.size + 1, 2, none⟩ (.slice a2 J.length c2)).setCell ⟨w.heap.size + 1, 3, none⟩ (.slice a3 B.length c3)).setCell ⟨w.heap.size + 1, 4, none⟩ (.slice a4 dn.length c4)).setCell ⟨w.heap.size + 1, 5, none⟩ (.slice a5 da.length c5)).setCell ⟨w.heap.size + 1, 6, none⟩ (.slice a6 de.length c6)).setCell ⟨w.heap.size + 1, 7, none⟩ (.slice a7 dd.length c7)).setCell ⟨w.heap.size + 1, 8, none⟩ (.slice a8 X.length c8)) = wf at *
        refine bodyPost_ret (hres _ ?_) ?_ ?_
        · rfl
        · rfl
        exact chg_end HLO.out _ _ HS.out (HPK.out) (HBL.out) (fun b hb _ => HBW.out.block b hb) hof hbf hsf
end Go.Proofs.Ytkokkdekbilkjaa
