/- SpecMay, walked. -/
import Derived.Test.YtnkdchajgpkmpaaSnod
import Derived.Test.YtnkdchajgpkmpaaSrjb
import Derived.Test.YtnkdchajgpkmpaaSlif
import Derived.Deep.RegionHeld3
namespace Go.Proofs.Ytnkdchajgpkmpaa
open Go.RowKit

structure MyS (w wk : World) (js ns : Array Value) (a : Option Addr) (L : List Gp) : Prop where
  j : JbS w wk js a L
  n : wk.heap[w.heap.size + 1]? = some (.cells ns 28 (0, 0))
theorem MyS.grow {w wk w' : World} {js ns : Array Value} {a : Option Addr} {L : List Gp} (h : MyS w wk js ns a L) (hb : Below wk.heap.size wk w') : MyS w w' js ns a L :=
  ⟨h.j.grow hb, (hb.block _ (heap_lt h.n)).trans h.n⟩
theorem MyS.begin (w : World) (js ns : Array Value) (a : Option Addr) (L : List Gp) (h : Grs w a L) : MyS w ((w.alloc (.cells js 24)).alloc (.cells ns 28)).drew js ns a L :=
  ⟨((JbS.begin w js a L h).grow (below1 _ _)).grow (Below.refl _ _).drew, heap_alloc2_new w _ _⟩
theorem MyS.cells {w wk : World} {id ty pr pa ve ni c m bo ep se : Int} {st up dr : Bool} {a : Option Addr} {cap : Nat} {L : List Gp} (h : MyS w wk #[.int .i64 id, .int .i64 ty, .int .i64 pr, .int .i64 pa, .slice a L.length cap, .int .i64 ve, .bool st] #[.int .i64 ni, .int .i64 c, .int .i64 m, .bool up, .bool dr, .int .i64 bo, .int .i64 ep, .int .i64 se] a L) : wk.cell? ⟨w.heap.size, 0, none⟩ = some (.int .i64 id) ∧ wk.cell? ⟨w.heap.size, 1, none⟩ = some (.int .i64 ty) ∧ wk.cell? ⟨w.heap.size, 2, none⟩ = some (.int .i64 pr) ∧ wk.cell? ⟨w.heap.size, 3, none⟩ = some (.int .i64 pa) ∧ wk.cell? ⟨w.heap.size, 4, none⟩ = some (.slice a L.length cap) ∧ wk.cell? ⟨w.heap.size, 5, none⟩ = some (.int .i64 ve) ∧ wk.cell? ⟨w.heap.size, 6, none⟩ = some (.bool st) ∧ wk.cell? ⟨w.heap.size + 1, 0, none⟩ = some (.int .i64 ni) ∧ wk.cell? ⟨w.heap.size + 1, 1, none⟩ = some (.int .i64 c) ∧ wk.cell? ⟨w.heap.size + 1, 2, none⟩ = some (.int .i64 m) ∧ wk.cell? ⟨w.heap.size + 1, 3, none⟩ = some (.bool up) ∧ wk.cell? ⟨w.heap.size + 1, 4, none⟩ = some (.bool dr) ∧ wk.cell? ⟨w.heap.size + 1, 5, none⟩ = some (.int .i64 bo) ∧ wk.cell? ⟨w.heap.size + 1, 6, none⟩ = some (.int .i64 ep) ∧ wk.cell? ⟨w.heap.size + 1, 7, none⟩ = some (.int .i64 se) :=
  ⟨h.j.c 0, h.j.c 1, h.j.c 2, h.j.c 3, h.j.c 4, h.j.c 5, h.j.c 6, cell_of_row wk _ 0 _ 28 (0, 0) h.n, cell_of_row wk _ 1 _ 28 (0, 0) h.n, cell_of_row wk _ 2 _ 28 (0, 0) h.n, cell_of_row wk _ 3 _ 28 (0, 0) h.n, cell_of_row wk _ 4 _ 28 (0, 0) h.n, cell_of_row wk _ 5 _ 28 (0, 0) h.n, cell_of_row wk _ 6 _ 28 (0, 0) h.n, cell_of_row wk _ 7 _ 28 (0, 0) h.n⟩

set_option maxHeartbeats 4000000 in
set_option maxRecDepth 100000 in
theorem lawMay (id ty pr pa ve : Int) (st : Bool) (a : Option Addr) (cap : Nat) (L : List Gp) (ni c m bo ep se : Int) (up dr : Bool) (w : World) (hg : Grs w a L) (hlm : L.length ≤ maxLen) :
    Calls Try.prog 3 #[.agg #[.int .i64 id, .int .i64 ty, .int .i64 pr, .int .i64 pa, .slice a L.length cap, .int .i64 ve, .bool st], .agg #[.int .i64 ni, .int .i64 c, .int .i64 m, .bool up, .bool dr, .int .i64 bo, .int .i64 ep, .int .i64 se]] w fun e w' => e = .returned (.bool true) ∧ Below w.heap.size w w' := by
  have H0 := hidOf (MyS.begin w #[.int .i64 id, .int .i64 ty, .int .i64 pr, .int .i64 pa, .slice a L.length cap, .int .i64 ve, .bool st] #[.int .i64 ni, .int .i64 c, .int .i64 m, .bool up, .bool dr, .int .i64 bo, .int .i64 ep, .int .i64 se] a L hg)
  have C1 := hidOf (fun w h => job_any id ty pr pa ve st a cap L w h)
  have C2 := hidOf (fun w h => refJob_any id ty pr pa ve st a cap L w h hlm)
  have C3 := hidOf (fun w => node_any ni c m bo ep se up dr w)
  have C4 := hidOf (fun w => refNode_any ni c m bo ep se up dr w)
  clear hg hlm
  generalize errJ (jobB id ty pr pa L) = v1 at *
  generalize errN (nodB ni c m bo) = v2 at *
  go_enter Try.func3, Try.ntmps3
  go_wp2
  go_region_held3 (fun w' => w'.cell? ⟨w.heap.size, 0, none⟩ = some (.int .i64 id) ∧ w'.cell? ⟨w.heap.size, 1, none⟩ = some (.int .i64 ty) ∧ w'.cell? ⟨w.heap.size, 2, none⟩ = some (.int .i64 pr) ∧ w'.cell? ⟨w.heap.size, 3, none⟩ = some (.int .i64 pa) ∧ w'.cell? ⟨w.heap.size, 4, none⟩ = some (.slice a L.length cap) ∧ w'.cell? ⟨w.heap.size, 5, none⟩ = some (.int .i64 ve) ∧ w'.cell? ⟨w.heap.size, 6, none⟩ = some (.bool st) ∧ w'.cell? ⟨w.heap.size + 1, 0, none⟩ = some (.int .i64 ni) ∧ w'.cell? ⟨w.heap.size + 1, 1, none⟩ = some (.int .i64 c) ∧ w'.cell? ⟨w.heap.size + 1, 2, none⟩ = some (.int .i64 m) ∧ w'.cell? ⟨w.heap.size + 1, 3, none⟩ = some (.bool up) ∧ w'.cell? ⟨w.heap.size + 1, 4, none⟩ = some (.bool dr) ∧ w'.cell? ⟨w.heap.size + 1, 5, none⟩ = some (.int .i64 bo) ∧ w'.cell? ⟨w.heap.size + 1, 6, none⟩ = some (.int .i64 ep) ∧ w'.cell? ⟨w.heap.size + 1, 7, none⟩ = some (.int .i64 se)) (first | go_keep | exact H1.out.cells | exact H2.out.cells | exact H3.out.cells | exact H4.out.cells | exact H5.out.cells) (first
    | (go_at_call 8; refine (C1.out _ H0.out.j.g).mono ?_; rintro e w1 ⟨rfl, hb⟩; have H1 := hidOf (H0.out.grow hb); clear hb)
    | (go_at_call 9; refine (C2.out _ H1.out.j.g).mono ?_; rintro e w2 ⟨rfl, hb⟩; have H2 := hidOf (H1.out.grow hb); clear hb)
    | (go_at_call 10; refine (C3.out _).mono ?_; rintro e w3 ⟨rfl, hb⟩; have H3 := hidOf (H2.out.grow hb); clear hb)
    | (go_at_call 11; refine (C4.out _).mono ?_; rintro e w4 ⟨rfl, hb⟩; have H4 := hidOf (H3.out.grow hb); clear hb)
    | (go_at_call 12; refine (lives_any _).mono ?_; rintro e w5 ⟨rfl, hb⟩; have H5 := hidOf (H4.out.grow hb); clear hb))
  go_wp2
  go_ret
  exact ⟨rfl, H5.out.j.bel⟩
end Go.Proofs.Ytnkdchajgpkmpaa
