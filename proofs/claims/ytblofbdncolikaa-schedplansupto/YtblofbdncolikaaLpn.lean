/- A plan is just what the document says. -/
import Derived.Test.YtblofbdncolikaaTk
import Derived.Test.YtblofbdncolikaaPd
import Derived.Test.YtblofbdncolikaaLi
import Derived.Test.YtblofbdncolikaaTf
import Derived.Test.YtblofbdncolikaaPe
import Derived.Test.YtblofbdncolikaaEq
namespace Go.Proofs.Ytblofbdncolikaa
open Go.RowKit Go.Shelf
def oLpn_0 : Oper := { dst := some 48, op := Op.fieldAddr 35 (Operand.tmp 2) 3, type := 0, pos := "ref.go:51", after := #[], guard := none }
def oLpn_1 : Oper := { dst := some 49, op := Op.load 33 (Operand.tmp 48), type := 33, pos := "ref.go:51", after := #[{ on := 0, ground := Ground.data }], guard := none }
def oLpn_2 : Oper := { dst := some 50, op := Op.move (Operand.tmp 5), type := 3, pos := "ref.go:51", after := #[], guard := none }
def oLpn_3 : Oper := { dst := some 51, op := Op.indexAddr 33 (Operand.tmp 49) (Operand.tmp 50), type := 0, pos := "ref.go:51", after := #[{ on := 1, ground := Ground.data }, { on := 2, ground := Ground.data }], guard := none }
def oLpn_4 : Oper := { dst := some 52, op := Op.load 3 (Operand.tmp 51), type := 3, pos := "ref.go:51", after := #[{ on := 3, ground := Ground.data }], guard := none }
def oLpn_5 : Oper := { dst := some 53, op := Op.fieldAddr 35 (Operand.tmp 3) 3, type := 0, pos := "ref.go:51", after := #[], guard := none }
def oLpn_6 : Oper := { dst := some 54, op := Op.load 33 (Operand.tmp 53), type := 33, pos := "ref.go:51", after := #[{ on := 5, ground := Ground.data }], guard := none }
def oLpn_7 : Oper := { dst := some 55, op := Op.move (Operand.tmp 5), type := 3, pos := "ref.go:51", after := #[], guard := none }
def oLpn_8 : Oper := { dst := some 56, op := Op.indexAddr 33 (Operand.tmp 54) (Operand.tmp 55), type := 0, pos := "ref.go:51", after := #[{ on := 6, ground := Ground.data }, { on := 7, ground := Ground.data }], guard := none }
def oLpn_9 : Oper := { dst := some 57, op := Op.load 3 (Operand.tmp 56), type := 3, pos := "ref.go:51", after := #[{ on := 8, ground := Ground.data }], guard := none }
def oLpn_10 : Oper := { dst := some 58, op := Op.binOp BinOp.neq 3 (Operand.tmp 52) (Operand.tmp 57) 3, type := 4, pos := "ref.go:51", after := #[{ on := 4, ground := Ground.data }, { on := 9, ground := Ground.data }], guard := none }
attribute [local go_sem] Oper.semAt_some
theorem own_lenS {w : World} {lo k n e : Nat} {a : Option Addr} {c : Nat} {xs : List Value} (h : w.ownsRow lo e k (.slice a n c) n xs) : n ≤ maxLen := by
 rcases h.2 with ⟨_, hn⟩ | ⟨g, cap, cur, hv, _, _, h1, h2, _⟩
 ·omega
 ·omega
theorem pn_len (Lj : List Jb) (Ln : List Nd) (A : List Al) (E : List Qd) (job : Int) : (pnV Lj Ln A E job).pl.length ≤ (dfF Lj Ln A job).length := by
 unfold pnV
 by_cases h : dfI Lj job < 0
 ·rw [if_pos h]; exact Nat.zero_le _
 ·rw [if_neg h]
  have h1 := (plV_sub (dfJ Lj job) Ln A (dfF Lj Ln A job)).1.length_le
  rw [List.length_map] at h1
  exact h1
set_option maxRecDepth 100000 in
set_option maxHeartbeats 4000000 in
theorem refSameP_any (v : Pn) (sa sb pa pb : Option Addr) (sc sd pc pd : Nat) (w : World) (hm : v.st.length ≤ maxLen) (h1 : Fl w (fun b => b < w.heap.size) 1 0 iC sa v.st) (h2 : Fl w (fun b => b < w.heap.size) 1 0 iC sb v.st) (h3 : Fl w (fun b => b < w.heap.size) 11 88 Al.cs pa v.pl) (h4 : Fl w (fun b => b < w.heap.size) 11 88 Al.cs pb v.pl) :
  Calls Try.prog 8 #[.agg #[.int .i64 v.jb, .int .i64 v.ve, .int .i64 v.ix, .slice sa v.st.length sc, .slice pa v.pl.length pc, .bool v.bl], .agg #[.int .i64 v.jb, .int .i64 v.ve, .int .i64 v.ix, .slice sb v.st.length sd, .slice pb v.pl.length pd, .bool v.bl]] w fun e w' => e = .returned (.bool true) ∧ Below w.heap.size w w' := by
 unfold maxLen at hm
 have Z0 := hidOf (FdS.begin w [.int .i64 v.jb, .int .i64 v.ve, .int .i64 v.ix, .slice sa v.st.length sc, .slice pa v.pl.length pc, .bool v.bl] [.int .i64 v.jb, .int .i64 v.ve, .int .i64 v.ix, .slice sb v.st.length sd, .slice pb v.pl.length pd, .bool v.bl] 35 35)
 have HEQ := hidOf (fun (W : World) (h : Below w.heap.size w W) => eq62_any pa pb pc pd v.pl v.pl (fun b => b < w.heap.size) W (h3.kept (fun b hb => h.block b hb) (fun b hb => hb)) (h4.kept (fun b hb => h.block b hb) (fun b hb => hb)))
 rw [decide_eq_true (show v.pl = v.pl from rfl)] at HEQ
 have H1 := hidOf h1
 have H2 := hidOf h2
 clear h1 h2 h3 h4
 obtain ⟨W0, hW0⟩ : ∃ W0, (w.alloc (.cells #[.int .i64 v.jb, .int .i64 v.ve, .int .i64 v.ix, .slice sa v.st.length sc, .slice pa v.pl.length pc, .bool v.bl] 35)).alloc (.cells #[.int .i64 v.jb, .int .i64 v.ve, .int .i64 v.ix, .slice sb v.st.length sd, .slice pb v.pl.length pd, .bool v.bl] 35) = W0 := ⟨_, rfl⟩
 have Z1 : Hid (FdS w W0 [.int .i64 v.jb, .int .i64 v.ve, .int .i64 v.ix, .slice sa v.st.length sc, .slice pa v.pl.length pc, .bool v.bl] [.int .i64 v.jb, .int .i64 v.ve, .int .i64 v.ix, .slice sb v.st.length sd, .slice pb v.pl.length pd, .bool v.bl]) := hidOf (by rw [← hW0]; exact Z0.out)
 clear Z0
 have a0 : W0.cell? ⟨w.heap.size, 0, none⟩ = some (.int .i64 v.jb) := Z1.out.s 0 _ rfl
 have a1 : W0.cell? ⟨w.heap.size, 1, none⟩ = some (.int .i64 v.ve) := Z1.out.s 1 _ rfl
 have a2 : W0.cell? ⟨w.heap.size, 2, none⟩ = some (.int .i64 v.ix) := Z1.out.s 2 _ rfl
 have a3 : W0.cell? ⟨w.heap.size, 3, none⟩ = some (.slice sa v.st.length sc) := Z1.out.s 3 _ rfl
 have a4 : W0.cell? ⟨w.heap.size, 4, none⟩ = some (.slice pa v.pl.length pc) := Z1.out.s 4 _ rfl
 have a5 : W0.cell? ⟨w.heap.size, 5, none⟩ = some (.bool v.bl) := Z1.out.s 5 _ rfl
 have la : w.heap.size < W0.heap.size := lt_of_cell a0
 have b0 : W0.cell? ⟨w.heap.size + 1, 0, none⟩ = some (.int .i64 v.jb) := Z1.out.a 0 _ rfl
 have b1 : W0.cell? ⟨w.heap.size + 1, 1, none⟩ = some (.int .i64 v.ve) := Z1.out.a 1 _ rfl
 have b2 : W0.cell? ⟨w.heap.size + 1, 2, none⟩ = some (.int .i64 v.ix) := Z1.out.a 2 _ rfl
 have b3 : W0.cell? ⟨w.heap.size + 1, 3, none⟩ = some (.slice sb v.st.length sd) := Z1.out.a 3 _ rfl
 have b4 : W0.cell? ⟨w.heap.size + 1, 4, none⟩ = some (.slice pb v.pl.length pd) := Z1.out.a 4 _ rfl
 have b5 : W0.cell? ⟨w.heap.size + 1, 5, none⟩ = some (.bool v.bl) := Z1.out.a 5 _ rfl
 have lb : w.heap.size + 1 < W0.heap.size := lt_of_cell b0
 go_enter Try.func8, Try.ntmps8
 go_upto_region 1 with (fail)
 try rw [hW0]
 clear hW0
 go_wp2
 clear a0 a1 a2 a3 a4 a5 b0 b1 b2 b3 b4 b5 la lb
 go_loopw [5] (fun i wr => ∃ k : Nat, k ≤ v.st.length ∧ i = .int .i64 k ∧ Hid (FdS w wr [.int .i64 v.jb, .int .i64 v.ve, .int .i64 v.ix, .slice sa v.st.length sc, .slice pa v.pl.length pc, .bool v.bl] [.int .i64 v.jb, .int .i64 v.ve, .int .i64 v.ix, .slice sb v.st.length sd, .slice pb v.pl.length pd, .bool v.bl])) (fun i _ => v.st.length - (intOf i).toNat)
 case atStart => exact ⟨0, Nat.zero_le _, rfl, Z1⟩
 case round =>
  obtain ⟨k, hk, rfl, HZ⟩ := hrel
  by_cases hlt : k < v.st.length
  ·obtain ⟨b, off, ha, hQb, hcc⟩ := H1.out.at k hlt
   obtain ⟨g, of2, hb, hQg, hcg⟩ := H2.out.at k hlt
   have hQb' : b < w.heap.size := hQb
   have hQg' : g < w.heap.size := hQg
   obtain ⟨x, hx⟩ : ∃ x, v.st[k] = x := ⟨_, rfl⟩
   rw [hx] at hcc hcg
   clear hx
   subst ha hb
   have hsz := HZ.out.b.size
   have ka : wr.cell? ⟨b, off + k, none⟩ = some (.int .i64 x) := (hb_cell HZ.out.b hQb').trans (by have := hcc 0 _ rfl; simpa using this)
   have kb : wr.cell? ⟨g, of2 + k, none⟩ = some (.int .i64 x) := (hb_cell HZ.out.b hQg').trans (by have := hcg 0 _ rfl; simpa using this)
   have a3 : wr.cell? ⟨w.heap.size, 3, none⟩ = some (.slice (some ⟨b, off, none⟩) v.st.length sc) := HZ.out.s 3 _ rfl
   have b3 : wr.cell? ⟨w.heap.size + 1, 3, none⟩ = some (.slice (some ⟨g, of2, none⟩) v.st.length sd) := HZ.out.a 3 _ rfl
   have la : w.heap.size < wr.heap.size := lt_of_cell a3
   have lb : w.heap.size + 1 < wr.heap.size := lt_of_cell b3
   have lx : b < wr.heap.size := lt_of_cell ka
   have ly : g < wr.heap.size := lt_of_cell kb
   have hi0 : ¬ ((k : Int) < 0) := by omega
   have hi1 : (k : Int) < (v.st.length : Int) := by omega
   clear hcc hcg hQb hQg
   go_upto_region 6 with (fail)
   refine wp_region_held_drew (S := fun (Y : World) => Y.cell? ⟨w.heap.size, 3, none⟩ = some (.slice (some ⟨b, off, none⟩) v.st.length sc) ∧ Y.cell? ⟨b, off + k, none⟩ = some (.int .i64 x) ∧ Y.cell? ⟨w.heap.size + 1, 3, none⟩ = some (.slice (some ⟨g, of2, none⟩) v.st.length sd) ∧ Y.cell? ⟨g, of2 + k, none⟩ = some (.int .i64 x)) (by kernel_rfl) ⟨a3, ka, b3, kb⟩ (fun hHeld => ?_)
   refine tkH 0 oLpn_0 48 (.pointer (some ⟨w.heap.size, 3, none⟩)) hHeld (by intro w hS; dsimp only [oLpn_0] at hS ⊢; go_simp) ?_
   try simp only [pA, pC, pD]
   refine tkH 1 oLpn_1 49 (.slice (some ⟨b, off, none⟩) v.st.length sc) hHeld (by intro w hS; dsimp only [oLpn_1] at hS ⊢; go_simp) ?_
   try simp only [pA, pC, pD]
   refine tkH 2 oLpn_2 50 (.int .i64 (k : Int)) hHeld (by intro w hS; dsimp only [oLpn_2] at hS ⊢; go_simp) ?_
   try simp only [pA, pC, pD]
   refine tkH 3 oLpn_3 51 (.pointer (some ⟨b, off + k, none⟩)) hHeld (by intro w hS; dsimp only [oLpn_3] at hS ⊢; go_simp) ?_
   try simp only [pA, pC, pD]
   refine tkH 4 oLpn_4 52 (.int .i64 x) hHeld (by intro w hS; dsimp only [oLpn_4] at hS ⊢; go_simp) ?_
   try simp only [pA, pC, pD]
   refine tkH 5 oLpn_5 53 (.pointer (some ⟨w.heap.size + 1, 3, none⟩)) hHeld (by intro w hS; dsimp only [oLpn_5] at hS ⊢; go_simp) ?_
   try simp only [pA, pC, pD]
   refine tkH 6 oLpn_6 54 (.slice (some ⟨g, of2, none⟩) v.st.length sd) hHeld (by intro w hS; dsimp only [oLpn_6] at hS ⊢; go_simp) ?_
   try simp only [pA, pC, pD]
   refine tkH 7 oLpn_7 55 (.int .i64 (k : Int)) hHeld (by intro w hS; dsimp only [oLpn_7] at hS ⊢; go_simp) ?_
   try simp only [pA, pC, pD]
   refine tkH 8 oLpn_8 56 (.pointer (some ⟨g, of2 + k, none⟩)) hHeld (by intro w hS; dsimp only [oLpn_8] at hS ⊢; go_simp) ?_
   try simp only [pA, pC, pD]
   refine tkH 9 oLpn_9 57 (.int .i64 x) hHeld (by intro w hS; dsimp only [oLpn_9] at hS ⊢; go_simp) ?_
   try simp only [pA, pC, pD]
   refine tkH 10 oLpn_10 58 (.bool false) hHeld (by intro w hS; dsimp only [oLpn_10] at hS ⊢; go_simp) ?_
   try simp only [pA, pC, pD]
   refine wpAnyH_done (by kernel_rfl) ?_ _
   go_wp2
   go_roundw
   case rel => exact ⟨k + 1, by omega, by simp, hidOf HZ.out.drew⟩
   case measure => simp [intOf]; omega
  ·have hkl : k = v.st.length := by omega
   subst hkl
   have HE0 := hidOf (HEQ.out wr HZ.out.b)
   have a3 : wr.cell? ⟨w.heap.size, 3, none⟩ = some (.slice sa v.st.length sc) := HZ.out.s 3 _ rfl
   have a4 : wr.cell? ⟨w.heap.size, 4, none⟩ = some (.slice pa v.pl.length pc) := HZ.out.s 4 _ rfl
   have b4 : wr.cell? ⟨w.heap.size + 1, 4, none⟩ = some (.slice pb v.pl.length pd) := HZ.out.a 4 _ rfl
   have la : w.heap.size < wr.heap.size := lt_of_cell a4
   have lb : w.heap.size + 1 < wr.heap.size := lt_of_cell b4
   go_wp2_with (go_at_call 14; refine HE0.out.mono ?_; rintro e w7 ⟨rfl, hb7⟩; have HB7 := hidOf hb7; clear hb7)
   go_ret
   exact ⟨rfl, HZ.out.b.trans (HB7.out.mono HZ.out.b.size)⟩
set_option maxRecDepth 100000 in
set_option maxHeartbeats 8000000 in
theorem walkPlans (s : Sc) (J B : List Js) (X : List Ss) (d : St) (job : Int) (w : World) (hS : StR w (fun b => b < w.heap.size) s J B X d) (hbb : StB 1048576 d) :
  Calls Try.prog 3 #[.agg #[.int .i64 s.ix, .int .i64 s.nx, .slice s.a2 s.n2 s.c2, .slice s.a3 s.n3 s.c3, .slice s.a4 s.n4 s.c4, .slice s.a5 s.n5 s.c5, .slice s.a6 s.n6 s.c6, .slice s.a7 s.n7 s.c7, .slice s.a8 s.n8 s.c8], .int .i64 job] w fun e w' => e = .returned (.bool true) ∧ Below w.heap.size w w' := by
 obtain ⟨ix, nx, a2, n2, c2, a3, n3, c3, a4, n4, c4, a5, n5, c5, a6, n6, c6, a7, n7, c7, a8, n8, c8⟩ := s
 obtain ⟨e2, e4, e5, e6⟩ : n2 = J.length ∧ n4 = d.nodes.length ∧ n5 = d.allocs.length ∧ n6 = d.evals.length := ⟨hS.f.n2, hS.f.n4, hS.f.n5, hS.f.n6⟩
 subst e2
 subst e4
 subst e5
 subst e6
 have hJ : JbR w (fun b => b < w.heap.size) a2 J d.jobs := hS.j
 have hN : Fl w (fun b => b < w.heap.size) 8 56 Nd.cs a4 d.nodes := hS.f.f4
 have hA : Fl w (fun b => b < w.heap.size) 11 88 Al.cs a5 d.allocs := hS.f.f5
 have hE : Fl w (fun b => b < w.heap.size) 4 32 Qd.cs a6 d.evals := hS.f.f6
 obtain ⟨hbn, _, hbg⟩ := hbb
 have hsl : ¬ dfI d.jobs job < 0 → (slV (dfJ d.jobs job) d.nodes).length * 16 ≤ 140737488355328 := fun h => sl_ok (hbg _ (dfJ_id h).2) hbn
 have hfl := fl_ok (A := d.allocs) (job := job) hbg hbn
 have hsa : ∀ x ∈ d.jobs, (slV x d.nodes).length * 16 ≤ 140737488355328 := fun x hx => sl_ok (hbg x hx) hbn
 clear hS hbn hbg
 generalize d.nodes = Ln at *
 generalize d.allocs = A at *
 generalize d.jobs = Lj at *
 generalize d.evals = E at *
 obtain ⟨wb, hwb⟩ : ∃ wb, w.alloc (.cells #[.int .i64 ix, .int .i64 nx, .slice a2 J.length c2, .slice a3 n3 c3, .slice a4 Ln.length c4, .slice a5 A.length c5, .slice a6 E.length c6, .slice a7 n7 c7, .slice a8 n8 c8] 29) = wb := ⟨_, rfl⟩
 have HB0 : Hid (Below w.heap.size w wb) := hidOf (by rw [← hwb]; exact below1 _ _)
 have HT : Hid (wb.rangeAt w.heap.size 0 [.int .i64 ix, .int .i64 nx, .slice a2 J.length c2, .slice a3 n3 c3, .slice a4 Ln.length c4, .slice a5 A.length c5, .slice a6 E.length c6, .slice a7 n7 c7, .slice a8 n8 c8]) := hidOf (by rw [← hwb]; exact box_new (wr := w) (cs := [.int .i64 ix, .int .i64 nx, .slice a2 J.length c2, .slice a3 n3 c3, .slice a4 Ln.length c4, .slice a5 A.length c5, .slice a6 E.length c6, .slice a7 n7 c7, .slice a8 n8 c8]) (t := 29) (Below.refl _ _))
 have hB2l : w.heap.size < wb.heap.size := by rw [← hwb]; simp
 have HCA := hidOf (caps_any ⟨ix, nx, a2, J.length, c2, a3, n3, c3, a4, Ln.length, c4, a5, A.length, c5, a6, E.length, c6, a7, n7, c7, a8, n8, c8⟩ Ln A wb ⟨rfl, rfl, hN.kept (fun b hb => HB0.out.block b hb) (fun b hb => Nat.lt_of_lt_of_le hb HB0.out.size), hA.kept (fun b hb => HB0.out.block b hb) (fun b hb => Nat.lt_of_lt_of_le hb HB0.out.size)⟩)
 have HPL := hidOf (fun (W : World) (h : Below w.heap.size w W) (hc : cpL Ln = true) => plan_any ⟨ix, nx, a2, J.length, c2, a3, n3, c3, a4, Ln.length, c4, a5, A.length, c5, a6, E.length, c6, a7, n7, c7, a8, n8, c8⟩ job J Lj Ln A E W rfl rfl rfl rfl (hJ.kept (fun b hb => h.block b hb) (fun b hb => Nat.lt_of_lt_of_le hb h.size)) (hN.kept (fun b hb => h.block b hb) (fun b hb => Nat.lt_of_lt_of_le hb h.size)) (hA.kept (fun b hb => h.block b hb) (fun b hb => Nat.lt_of_lt_of_le hb h.size)) (hE.kept (fun b hb => h.block b hb) (fun b hb => Nat.lt_of_lt_of_le hb h.size)) hc hsl hfl)
 have HRP := hidOf (fun (W : World) (h : Below w.heap.size w W) (hc : cpL Ln = true) => refPlan_any ⟨ix, nx, a2, J.length, c2, a3, n3, c3, a4, Ln.length, c4, a5, A.length, c5, a6, E.length, c6, a7, n7, c7, a8, n8, c8⟩ job J Lj Ln A E W rfl rfl rfl rfl (hJ.kept (fun b hb => h.block b hb) (fun b hb => Nat.lt_of_lt_of_le hb h.size)) (hN.kept (fun b hb => h.block b hb) (fun b hb => Nat.lt_of_lt_of_le hb h.size)) (hA.kept (fun b hb => h.block b hb) (fun b hb => Nat.lt_of_lt_of_le hb h.size)) (hE.kept (fun b hb => h.block b hb) (fun b hb => Nat.lt_of_lt_of_le hb h.size)) hc hsa hfl)
 have hpl0 := pn_len Lj Ln A E job
 clear hJ hN hA hE hsl hsa
 cases hcp : cpL Ln with
 | false =>
  rw [hcp] at HCA
  clear hcp HPL HRP hpl0 hfl
  have t0 : wb.cell? ⟨w.heap.size, 0, none⟩ = some (.int .i64 ix) := HT.out 0 _ rfl
  have t1 : wb.cell? ⟨w.heap.size, 1, none⟩ = some (.int .i64 nx) := HT.out 1 _ rfl
  have t2 : wb.cell? ⟨w.heap.size, 2, none⟩ = some (.slice a2 J.length c2) := HT.out 2 _ rfl
  have t3 : wb.cell? ⟨w.heap.size, 3, none⟩ = some (.slice a3 n3 c3) := HT.out 3 _ rfl
  have t4 : wb.cell? ⟨w.heap.size, 4, none⟩ = some (.slice a4 Ln.length c4) := HT.out 4 _ rfl
  have t5 : wb.cell? ⟨w.heap.size, 5, none⟩ = some (.slice a5 A.length c5) := HT.out 5 _ rfl
  have t6 : wb.cell? ⟨w.heap.size, 6, none⟩ = some (.slice a6 E.length c6) := HT.out 6 _ rfl
  have t7 : wb.cell? ⟨w.heap.size, 7, none⟩ = some (.slice a7 n7 c7) := HT.out 7 _ rfl
  have t8 : wb.cell? ⟨w.heap.size, 8, none⟩ = some (.slice a8 n8 c8) := HT.out 8 _ rfl
  have l0 : w.heap.size < wb.heap.size := lt_of_cell t0
  go_enter Try.func3, Try.ntmps3
  go_upto_region 1 with (fail)
  try rw [hwb]
  clear hwb
  go_wp2_with (first | (go_at_call 6; refine HCA.out.mono ?_; rintro e w1 ⟨rfl, hb1⟩; have HB1 := hidOf hb1; clear hb1) | (go_at_call 7; refine (lives_any _).mono ?_; rintro e wl ⟨rfl, hbl⟩; have HBL := hidOf hbl; clear hbl))
  go_ret
  exact ⟨rfl, (HB0.out.trans (HB1.out.mono HB0.out.size)).trans (HBL.out.mono (by have := HB0.out.size; have := HB1.out.size; omega))⟩
 | true =>
  have HPL := hidOf (fun (W : World) (h : Below w.heap.size w W) => HPL.out W h hcp)
  have HRP := hidOf (fun (W : World) (h : Below w.heap.size w W) => HRP.out W h hcp)
  rw [hcp] at HCA
  clear hcp
  obtain ⟨v, hv⟩ : ∃ v, pnV Lj Ln A E job = v := ⟨_, rfl⟩
  rw [hv] at HPL HRP hpl0
  have hvb : v.pl.length * 88 ≤ 140737488355328 := by omega
  clear hv hpl0 hfl
  have t0 : wb.cell? ⟨w.heap.size, 0, none⟩ = some (.int .i64 ix) := HT.out 0 _ rfl
  have t1 : wb.cell? ⟨w.heap.size, 1, none⟩ = some (.int .i64 nx) := HT.out 1 _ rfl
  have t2 : wb.cell? ⟨w.heap.size, 2, none⟩ = some (.slice a2 J.length c2) := HT.out 2 _ rfl
  have t3 : wb.cell? ⟨w.heap.size, 3, none⟩ = some (.slice a3 n3 c3) := HT.out 3 _ rfl
  have t4 : wb.cell? ⟨w.heap.size, 4, none⟩ = some (.slice a4 Ln.length c4) := HT.out 4 _ rfl
  have t5 : wb.cell? ⟨w.heap.size, 5, none⟩ = some (.slice a5 A.length c5) := HT.out 5 _ rfl
  have t6 : wb.cell? ⟨w.heap.size, 6, none⟩ = some (.slice a6 E.length c6) := HT.out 6 _ rfl
  have t7 : wb.cell? ⟨w.heap.size, 7, none⟩ = some (.slice a7 n7 c7) := HT.out 7 _ rfl
  have t8 : wb.cell? ⟨w.heap.size, 8, none⟩ = some (.slice a8 n8 c8) := HT.out 8 _ rfl
  have l0 : w.heap.size < wb.heap.size := lt_of_cell t0
  go_enter Try.func3, Try.ntmps3
  go_upto_region 1 with (fail)
  try rw [hwb]
  clear hwb
  go_upto_region 4 with (go_at_call 6; refine HCA.out.mono ?_; rintro e w1 ⟨rfl, hb1⟩; have HB1 := hidOf hb1; clear hb1)
  clear t0 t1 t2 t3 t4 t5 t6 t7 t8 l0
  have HW1 := hidOf (HB0.out.trans (HB1.out.mono HB0.out.size))
  obtain ⟨B2, hB2⟩ : ∃ B2, w.heap.size = B2 := ⟨_, rfl⟩
  have HT1 : Hid (w1.rangeAt B2 0 [.int .i64 ix, .int .i64 nx, .slice a2 J.length c2, .slice a3 n3 c3, .slice a4 Ln.length c4, .slice a5 A.length c5, .slice a6 E.length c6, .slice a7 n7 c7, .slice a8 n8 c8]) := hidOf (by rw [← hB2]; exact range_of HT.out (HB1.out.block _ hB2l))
  have HBB : Hid (w.heap.size = B2) := hidOf hB2
  rw [hB2]
  clear hB2 HT HCA hB2l
  have t0 : w1.cell? ⟨B2, 0, none⟩ = some (.int .i64 ix) := HT1.out 0 _ rfl
  have t1 : w1.cell? ⟨B2, 1, none⟩ = some (.int .i64 nx) := HT1.out 1 _ rfl
  have t2 : w1.cell? ⟨B2, 2, none⟩ = some (.slice a2 J.length c2) := HT1.out 2 _ rfl
  have t3 : w1.cell? ⟨B2, 3, none⟩ = some (.slice a3 n3 c3) := HT1.out 3 _ rfl
  have t4 : w1.cell? ⟨B2, 4, none⟩ = some (.slice a4 Ln.length c4) := HT1.out 4 _ rfl
  have t5 : w1.cell? ⟨B2, 5, none⟩ = some (.slice a5 A.length c5) := HT1.out 5 _ rfl
  have t6 : w1.cell? ⟨B2, 6, none⟩ = some (.slice a6 E.length c6) := HT1.out 6 _ rfl
  have t7 : w1.cell? ⟨B2, 7, none⟩ = some (.slice a7 n7 c7) := HT1.out 7 _ rfl
  have t8 : w1.cell? ⟨B2, 8, none⟩ = some (.slice a8 n8 c8) := HT1.out 8 _ rfl
  have l0 : B2 < w1.heap.size := lt_of_cell t0
  have HW1D := hidOf (HW1.out.trans ((bdrew w1).mono HW1.out.size))
  go_region_held3 (fun (Y : World) => Y.cell? ⟨B2, 0, none⟩ = some (.int .i64 ix) ∧ Y.cell? ⟨B2, 1, none⟩ = some (.int .i64 nx) ∧ Y.cell? ⟨B2, 2, none⟩ = some (.slice a2 J.length c2) ∧ Y.cell? ⟨B2, 3, none⟩ = some (.slice a3 n3 c3) ∧ Y.cell? ⟨B2, 4, none⟩ = some (.slice a4 Ln.length c4) ∧ Y.cell? ⟨B2, 5, none⟩ = some (.slice a5 A.length c5) ∧ Y.cell? ⟨B2, 6, none⟩ = some (.slice a6 E.length c6) ∧ Y.cell? ⟨B2, 7, none⟩ = some (.slice a7 n7 c7) ∧ Y.cell? ⟨B2, 8, none⟩ = some (.slice a8 n8 c8)) (first | with_reducible exact H2K.out | with_reducible exact H3K.out | with_reducible exact H4K.out | go_keep) (first | (go_at_call 9; refine (HPL.out _ HW1D.out).mono ?_; rintro e w2 ⟨⟨sa, sc, pa, pc, rfl, ho1, ho2⟩, hb2⟩; have HO1 := hidOf ho1; have HO2 := hidOf ho2; have HB2 := hidOf ((bdrew w1).trans (hb2.mono (bdrew w1).size)); have HBD2 := hidOf hb2; have H2K : Hid ((fun (Y : World) => Y.cell? ⟨B2, 0, none⟩ = some (.int .i64 ix) ∧ Y.cell? ⟨B2, 1, none⟩ = some (.int .i64 nx) ∧ Y.cell? ⟨B2, 2, none⟩ = some (.slice a2 J.length c2) ∧ Y.cell? ⟨B2, 3, none⟩ = some (.slice a3 n3 c3) ∧ Y.cell? ⟨B2, 4, none⟩ = some (.slice a4 Ln.length c4) ∧ Y.cell? ⟨B2, 5, none⟩ = some (.slice a5 A.length c5) ∧ Y.cell? ⟨B2, 6, none⟩ = some (.slice a6 E.length c6) ∧ Y.cell? ⟨B2, 7, none⟩ = some (.slice a7 n7 c7) ∧ Y.cell? ⟨B2, 8, none⟩ = some (.slice a8 n8 c8)) w2) := hidOf ⟨(hb_cell HB2.out l0).trans t0, (hb_cell HB2.out l0).trans t1, (hb_cell HB2.out l0).trans t2, (hb_cell HB2.out l0).trans t3, (hb_cell HB2.out l0).trans t4, (hb_cell HB2.out l0).trans t5, (hb_cell HB2.out l0).trans t6, (hb_cell HB2.out l0).trans t7, (hb_cell HB2.out l0).trans t8⟩; have HW2 := hidOf (HW1D.out.trans (hb2.mono HW1D.out.size)); clear ho1 ho2 hb2) | (go_at_call 10; refine (HRP.out _ HW2.out).mono ?_; rintro e w3 ⟨⟨sb, sd, pb, pd, rfl, ho3, ho4⟩, hb3⟩; have HO3 := hidOf ho3; have HO4 := hidOf ho4; have HB3 := hidOf hb3; have HB13 := hidOf (HB2.out.trans (hb3.mono HB2.out.size)); have H3K : Hid ((fun (Y : World) => Y.cell? ⟨B2, 0, none⟩ = some (.int .i64 ix) ∧ Y.cell? ⟨B2, 1, none⟩ = some (.int .i64 nx) ∧ Y.cell? ⟨B2, 2, none⟩ = some (.slice a2 J.length c2) ∧ Y.cell? ⟨B2, 3, none⟩ = some (.slice a3 n3 c3) ∧ Y.cell? ⟨B2, 4, none⟩ = some (.slice a4 Ln.length c4) ∧ Y.cell? ⟨B2, 5, none⟩ = some (.slice a5 A.length c5) ∧ Y.cell? ⟨B2, 6, none⟩ = some (.slice a6 E.length c6) ∧ Y.cell? ⟨B2, 7, none⟩ = some (.slice a7 n7 c7) ∧ Y.cell? ⟨B2, 8, none⟩ = some (.slice a8 n8 c8)) w3) := hidOf ⟨(hb_cell HB13.out l0).trans t0, (hb_cell HB13.out l0).trans t1, (hb_cell HB13.out l0).trans t2, (hb_cell HB13.out l0).trans t3, (hb_cell HB13.out l0).trans t4, (hb_cell HB13.out l0).trans t5, (hb_cell HB13.out l0).trans t6, (hb_cell HB13.out l0).trans t7, (hb_cell HB13.out l0).trans t8⟩; have HW3 := hidOf (HW2.out.trans (hb3.mono HW2.out.size)); clear ho3 ho4 hb3) | (go_at_call 8; refine (refSameP_any v sa sb pa pb sc sd pc pd w3 (own_lenS HO1.out) ((own_fl (y := 0) iC_len HO1.out (Nat.zero_le _)).kept (fun b hb => HB3.out.block b hb.lt) (fun b hb => Nat.lt_of_lt_of_le hb.lt HB3.out.size)) ((own_fl (y := 0) iC_len HO3.out (Nat.zero_le _)).kept (fun b _ => rfl) (fun b hb => hb.lt)) ((own_fl (y := 88) Al.len HO2.out hvb).kept (fun b hb => HB3.out.block b hb.lt) (fun b hb => Nat.lt_of_lt_of_le hb.lt HB3.out.size)) ((own_fl (y := 88) Al.len HO4.out hvb).kept (fun b _ => rfl) (fun b hb => hb.lt))).mono ?_; rintro e w4 ⟨rfl, hb4⟩; have HB14 := hidOf (HB13.out.trans (hb4.mono HB13.out.size)); have H4K : Hid ((fun (Y : World) => Y.cell? ⟨B2, 0, none⟩ = some (.int .i64 ix) ∧ Y.cell? ⟨B2, 1, none⟩ = some (.int .i64 nx) ∧ Y.cell? ⟨B2, 2, none⟩ = some (.slice a2 J.length c2) ∧ Y.cell? ⟨B2, 3, none⟩ = some (.slice a3 n3 c3) ∧ Y.cell? ⟨B2, 4, none⟩ = some (.slice a4 Ln.length c4) ∧ Y.cell? ⟨B2, 5, none⟩ = some (.slice a5 A.length c5) ∧ Y.cell? ⟨B2, 6, none⟩ = some (.slice a6 E.length c6) ∧ Y.cell? ⟨B2, 7, none⟩ = some (.slice a7 n7 c7) ∧ Y.cell? ⟨B2, 8, none⟩ = some (.slice a8 n8 c8)) w4) := hidOf ⟨(hb_cell HB14.out l0).trans t0, (hb_cell HB14.out l0).trans t1, (hb_cell HB14.out l0).trans t2, (hb_cell HB14.out l0).trans t3, (hb_cell HB14.out l0).trans t4, (hb_cell HB14.out l0).trans t5, (hb_cell HB14.out l0).trans t6, (hb_cell HB14.out l0).trans t7, (hb_cell HB14.out l0).trans t8⟩; have HW4 := hidOf (HW3.out.trans (hb4.mono HW3.out.size)); clear hb4))
  clear t0 t1 t2 t3 t4 t5 t6 t7 t8 l0
  go_wp2_with (go_at_call 7; refine (lives_any _).mono ?_; rintro e wl ⟨rfl, hbl⟩; have HBL := hidOf hbl; clear hbl)
  go_ret
  exact ⟨rfl, HW4.out.trans (HBL.out.mono HW4.out.size)⟩
end Go.Proofs.Ytblofbdncolikaa
