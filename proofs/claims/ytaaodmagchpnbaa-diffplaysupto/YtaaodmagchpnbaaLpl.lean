/- What is to stop, and what to be filled: the code's answer beside the document's. -/
import Derived.Test.YtaaodmagchpnbaaRd
import Derived.Test.YtaaodmagchpnbaaZo
import Derived.Test.YtaaodmagchpnbaaOu
namespace Go.Proofs.Ytaaodmagchpnbaa
open Go.RowKit Go.Shelf
theorem own_lenP {w : World} {lo k n e : Nat} {a : Option Addr} {c : Nat} {xs : List Value} (h : w.ownsRow lo e k (.slice a n c) n xs) : n ≤ maxLen := by
  rcases h.2 with ⟨_, hn⟩ | ⟨g, cap, cur, hv, _, _, h1, h2, _⟩
  · omega
  · omega
set_option maxRecDepth 100000 in
set_option maxHeartbeats 4000000 in
theorem numbers_any (L : List Int) (a1 a2 : Option Addr) (c c2 : Nat) (w : World) (hm : L.length ≤ maxLen) (hA : Fl w (fun b => b < w.heap.size) 1 0 iC a1 L) (hB : Fl w (fun b => b < w.heap.size) 1 0 iC a2 L) :
    Calls Try.prog 11 #[.slice a1 L.length c, .slice a2 L.length c2] w fun e w' => e = .returned (.bool true) ∧ Below w.heap.size w w' := by
  unfold maxLen at hm
  have HA := hidOf hA
  have HB := hidOf hB
  clear hA hB
  go_enter Try.func11, Try.ntmps11
  go_wp2
  go_loopw [5] (fun i wr => ∃ k : Nat, k ≤ L.length ∧ i = .int .i64 k ∧ Hid (Below w.heap.size w wr)) (fun i _ => L.length - (intOf i).toNat)
  case atStart => exact ⟨0, Nat.zero_le _, rfl, hidOf (Below.refl _ _)⟩
  case round =>
    obtain ⟨k, hk, rfl, HZ⟩ := hrel
    by_cases hlt : k < L.length
    · obtain ⟨b, off, ha, hQb, hcc⟩ := HA.out.at k hlt
      obtain ⟨g, of2, hb, hQg, hcg⟩ := HB.out.at k hlt
      have hQb' : b < w.heap.size := hQb
      have hQg' : g < w.heap.size := hQg
      obtain ⟨x, hx⟩ : ∃ x, L[k] = x := ⟨_, rfl⟩
      rw [hx] at hcc hcg
      clear hx
      subst ha hb
      have hsz := HZ.out.size
      have ka : wr.cell? ⟨b, off + k, none⟩ = some (.int .i64 x) := (hb_cell HZ.out hQb').trans (by have := hcc 0 _ rfl; simpa using this)
      have kb : wr.cell? ⟨g, of2 + k, none⟩ = some (.int .i64 x) := (hb_cell HZ.out hQg').trans (by have := hcg 0 _ rfl; simpa using this)
      have la : b < wr.heap.size := lt_of_cell ka
      have lb : g < wr.heap.size := lt_of_cell kb
      have hi0 : ¬ ((k : Int) < 0) := by omega
      have hi1 : (k : Int) < (L.length : Int) := by omega
      clear hcc hcg hQb hQg
      go_upto_region 6 with (fail)
      refine wp_region_held_drew (S := fun (Y : World) => Y.cell? ⟨b, off + k, none⟩ = some (.int .i64 x) ∧ Y.cell? ⟨g, of2 + k, none⟩ = some (.int .i64 x)) (by kernel_rfl) ⟨ka, kb⟩ (fun hHeld => ?_)
      refine wpAnyH_take (i := 0) (oi := { dst := some 17, op := Op.move (Operand.tmp 0), type := 30, pos := "law.go:36", after := #[], guard := none }) (v := .slice (some ⟨b, off, none⟩) L.length c) rfl (by kernel_rfl) (by kernel_rfl) (by kernel_rfl) (fun _ _ _ h => h) (Or.inl ⟨by rfl, ?_⟩) hHeld ?_
      · (intro w hSw; (try dsimp only at hSw); go_simp)
      try simp only [Act.put, List.setIfInBounds_toArray, List.set_cons_zero, List.set_cons_succ]
      refine wpAnyH_take (i := 1) (oi := { dst := some 18, op := Op.move (Operand.tmp 5), type := 3, pos := "law.go:36", after := #[], guard := none }) (v := .int .i64 (k : Int)) rfl (by kernel_rfl) (by kernel_rfl) (by kernel_rfl) (fun _ _ _ h => h) (Or.inl ⟨by rfl, ?_⟩) hHeld ?_
      · (intro w hSw; (try dsimp only at hSw); go_simp)
      try simp only [Act.put, List.setIfInBounds_toArray, List.set_cons_zero, List.set_cons_succ]
      refine wpAnyH_take (i := 2) (oi := { dst := some 19, op := Op.indexAddr 30 (Operand.tmp 17) (Operand.tmp 18), type := 0, pos := "law.go:36", after := #[{ on := 0, ground := Ground.data }, { on := 1, ground := Ground.data }], guard := none }) (v := .pointer (some ⟨b, off + k, none⟩)) rfl (by kernel_rfl) (by kernel_rfl) (by kernel_rfl) (fun _ _ _ h => h) (Or.inl ⟨by rfl, ?_⟩) hHeld ?_
      · (intro w hSw; (try dsimp only at hSw); go_simp)
      try simp only [Act.put, List.setIfInBounds_toArray, List.set_cons_zero, List.set_cons_succ]
      refine wpAnyH_take (i := 3) (oi := { dst := some 20, op := Op.load 3 (Operand.tmp 19), type := 3, pos := "law.go:36", after := #[{ on := 2, ground := Ground.data }], guard := none }) (v := .int .i64 x) rfl (by kernel_rfl) (by kernel_rfl) (by kernel_rfl) (fun _ _ _ h => h) (Or.inl ⟨by rfl, ?_⟩) hHeld ?_
      · (intro w hSw; (try dsimp only at hSw); go_simp)
      try simp only [Act.put, List.setIfInBounds_toArray, List.set_cons_zero, List.set_cons_succ]
      refine wpAnyH_take (i := 4) (oi := { dst := some 21, op := Op.move (Operand.tmp 1), type := 30, pos := "law.go:36", after := #[], guard := none }) (v := .slice (some ⟨g, of2, none⟩) L.length c2) rfl (by kernel_rfl) (by kernel_rfl) (by kernel_rfl) (fun _ _ _ h => h) (Or.inl ⟨by rfl, ?_⟩) hHeld ?_
      · (intro w hSw; (try dsimp only at hSw); go_simp)
      try simp only [Act.put, List.setIfInBounds_toArray, List.set_cons_zero, List.set_cons_succ]
      refine wpAnyH_take (i := 5) (oi := { dst := some 22, op := Op.move (Operand.tmp 5), type := 3, pos := "law.go:36", after := #[], guard := none }) (v := .int .i64 (k : Int)) rfl (by kernel_rfl) (by kernel_rfl) (by kernel_rfl) (fun _ _ _ h => h) (Or.inl ⟨by rfl, ?_⟩) hHeld ?_
      · (intro w hSw; (try dsimp only at hSw); go_simp)
      try simp only [Act.put, List.setIfInBounds_toArray, List.set_cons_zero, List.set_cons_succ]
      refine wpAnyH_take (i := 6) (oi := { dst := some 23, op := Op.indexAddr 30 (Operand.tmp 21) (Operand.tmp 22), type := 0, pos := "law.go:36", after := #[{ on := 4, ground := Ground.data }, { on := 5, ground := Ground.data }], guard := none }) (v := .pointer (some ⟨g, of2 + k, none⟩)) rfl (by kernel_rfl) (by kernel_rfl) (by kernel_rfl) (fun _ _ _ h => h) (Or.inl ⟨by rfl, ?_⟩) hHeld ?_
      · (intro w hSw; (try dsimp only at hSw); go_simp)
      try simp only [Act.put, List.setIfInBounds_toArray, List.set_cons_zero, List.set_cons_succ]
      refine wpAnyH_take (i := 7) (oi := { dst := some 24, op := Op.load 3 (Operand.tmp 23), type := 3, pos := "law.go:36", after := #[{ on := 6, ground := Ground.data }], guard := none }) (v := .int .i64 x) rfl (by kernel_rfl) (by kernel_rfl) (by kernel_rfl) (fun _ _ _ h => h) (Or.inl ⟨by rfl, ?_⟩) hHeld ?_
      · (intro w hSw; (try dsimp only at hSw); go_simp)
      try simp only [Act.put, List.setIfInBounds_toArray, List.set_cons_zero, List.set_cons_succ]
      refine wpAnyH_take (i := 8) (oi := { dst := some 25, op := Op.binOp BinOp.neq 3 (Operand.tmp 20) (Operand.tmp 24) 3, type := 4, pos := "law.go:36", after := #[{ on := 3, ground := Ground.data }, { on := 7, ground := Ground.data }], guard := none }) (v := .bool false) rfl (by kernel_rfl) (by kernel_rfl) (by kernel_rfl) (fun _ _ _ h => h) (Or.inl ⟨by rfl, ?_⟩) hHeld ?_
      · (intro w hSw; (try dsimp only at hSw); go_simp)
      try simp only [Act.put, List.setIfInBounds_toArray, List.set_cons_zero, List.set_cons_succ]
      refine wpAnyH_done (by kernel_rfl) ?_ _
      go_wp2
      go_roundw
      case rel => exact ⟨k + 1, by omega, by simp, hidOf (HZ.out.trans ((bdrew wr).mono HZ.out.size))⟩
      case measure => simp [intOf]; omega
    · have hkl : k = L.length := by omega
      subst hkl
      go_wp2
      go_ret
      exact ⟨rfl, HZ.out⟩
set_option maxRecDepth 100000 in
set_option maxHeartbeats 8000000 in
theorem walkPlays (s : Sc) (J B : List Js) (X : List Ss) (d : St) (job : Int) (w : World) (hS : StR w (fun b => b < w.heap.size) s J B X d) (hbb : StB 1048576 d) :
    Calls Try.prog 3 #[.agg #[.int .i64 s.ix, .int .i64 s.nx, .slice s.a2 s.n2 s.c2, .slice s.a3 s.n3 s.c3, .slice s.a4 s.n4 s.c4, .slice s.a5 s.n5 s.c5, .slice s.a6 s.n6 s.c6, .slice s.a7 s.n7 s.c7, .slice s.a8 s.n8 s.c8], .int .i64 job] w fun e w' => e = .returned (.bool true) ∧ Below w.heap.size w w' := by
  obtain ⟨ix, nx, a2, n2, c2, a3, n3, c3, a4, n4, c4, a5, n5, c5, a6, n6, c6, a7, n7, c7, a8, n8, c8⟩ := s
  obtain ⟨e2, e4, e5⟩ : n2 = J.length ∧ n4 = d.nodes.length ∧ n5 = d.allocs.length := ⟨hS.f.n2, hS.f.n4, hS.f.n5⟩
  subst e2
  subst e4
  subst e5
  have hJ : JbR w (fun b => b < w.heap.size) a2 J d.jobs := hS.j
  have hN : Fl w (fun b => b < w.heap.size) 8 56 Nd.cs a4 d.nodes := hS.f.f4
  have hA : Fl w (fun b => b < w.heap.size) 11 88 Al.cs a5 d.allocs := hS.f.f5
  obtain ⟨hbn, _, hbg⟩ := hbb
  have hsl : ∀ x ∈ d.jobs, (slV x d.nodes).length * 16 ≤ 140737488355328 := fun x hx => sl_ok (hbg x hx) hbn
  clear hS hbn hbg
  generalize d.nodes = Ln at *
  generalize d.allocs = A at *
  generalize d.jobs = Lj at *
  obtain ⟨wb, hwb⟩ : ∃ wb, w.alloc (.cells #[.int .i64 ix, .int .i64 nx, .slice a2 J.length c2, .slice a3 n3 c3, .slice a4 Ln.length c4, .slice a5 A.length c5, .slice a6 n6 c6, .slice a7 n7 c7, .slice a8 n8 c8] 29) = wb := ⟨_, rfl⟩
  have HB0 : Hid (Below w.heap.size w wb) := hidOf (by rw [← hwb]; exact below1 _ _)
  have HT : Hid (wb.rangeAt w.heap.size 0 [.int .i64 ix, .int .i64 nx, .slice a2 J.length c2, .slice a3 n3 c3, .slice a4 Ln.length c4, .slice a5 A.length c5, .slice a6 n6 c6, .slice a7 n7 c7, .slice a8 n8 c8]) := hidOf (by rw [← hwb]; exact box_new (wr := w) (cs := [.int .i64 ix, .int .i64 nx, .slice a2 J.length c2, .slice a3 n3 c3, .slice a4 Ln.length c4, .slice a5 A.length c5, .slice a6 n6 c6, .slice a7 n7 c7, .slice a8 n8 c8]) (t := 29) (Below.refl _ _))
  have HDF := hidOf (fun (W : World) (h : Below w.heap.size w W) => diff_any ⟨ix, nx, a2, J.length, c2, a3, n3, c3, a4, Ln.length, c4, a5, A.length, c5, a6, n6, c6, a7, n7, c7, a8, n8, c8⟩ job J Lj Ln A W rfl rfl rfl (hJ.kept (fun b hb => h.block b hb) (fun b hb => Nat.lt_of_lt_of_le hb h.size)) (hN.kept (fun b hb => h.block b hb) (fun b hb => Nat.lt_of_lt_of_le hb h.size)) (hA.kept (fun b hb => h.block b hb) (fun b hb => Nat.lt_of_lt_of_le hb h.size)) hsl)
  have HRD := hidOf (fun (W : World) (h : Below w.heap.size w W) => refDiff_t ix nx a2 c2 a3 n3 c3 a4 c4 a5 c5 a6 n6 c6 a7 n7 c7 a8 n8 c8 job J Lj Ln A W (hJ.kept (fun b hb => h.block b hb) (fun b hb => Nat.lt_of_lt_of_le hb h.size)) (hN.kept (fun b hb => h.block b hb) (fun b hb => Nat.lt_of_lt_of_le hb h.size)) (hA.kept (fun b hb => h.block b hb) (fun b hb => Nat.lt_of_lt_of_le hb h.size)) hsl)
  obtain ⟨stop, hstop⟩ : ∃ stop, dfS Lj Ln A job = stop := ⟨_, rfl⟩
  obtain ⟨fill, hfill⟩ : ∃ fill, dfF Lj Ln A job = fill := ⟨_, rfl⟩
  rw [hstop, hfill] at HDF HRD
  clear hstop hfill hJ hN hA hsl
  go_enter Try.func3, Try.ntmps3
  go_upto_region 1 with (fail)
  clear hwb
  have t0 : wb.cell? ⟨w.heap.size, 0, none⟩ = some (.int .i64 ix) := HT.out 0 _ rfl
  have t1 : wb.cell? ⟨w.heap.size, 1, none⟩ = some (.int .i64 nx) := HT.out 1 _ rfl
  have t2 : wb.cell? ⟨w.heap.size, 2, none⟩ = some (.slice a2 J.length c2) := HT.out 2 _ rfl
  have t3 : wb.cell? ⟨w.heap.size, 3, none⟩ = some (.slice a3 n3 c3) := HT.out 3 _ rfl
  have t4 : wb.cell? ⟨w.heap.size, 4, none⟩ = some (.slice a4 Ln.length c4) := HT.out 4 _ rfl
  have t5 : wb.cell? ⟨w.heap.size, 5, none⟩ = some (.slice a5 A.length c5) := HT.out 5 _ rfl
  have t6 : wb.cell? ⟨w.heap.size, 6, none⟩ = some (.slice a6 n6 c6) := HT.out 6 _ rfl
  have t7 : wb.cell? ⟨w.heap.size, 7, none⟩ = some (.slice a7 n7 c7) := HT.out 7 _ rfl
  have t8 : wb.cell? ⟨w.heap.size, 8, none⟩ = some (.slice a8 n8 c8) := HT.out 8 _ rfl
  have l8 : w.heap.size < wb.heap.size := lt_of_cell t0
  go_upto_region 2 with (go_at_call 9; refine (HDF.out _ HB0.out).mono ?_; rintro e w1 ⟨sa, sc, fa, fc, rfl, hos1, hof1, hb1⟩; have HOS := hidOf hos1; have HOF := hidOf hof1; have HB1 := hidOf hb1; have HBW := hidOf (HB0.out.trans (hb1.mono HB0.out.size)); have HT1 := hidOf (range_of HT.out (hb1.block w.heap.size l8)); clear hos1 hof1 hb1)
  clear l8 t0 t1 t2 t3 t4 t5 t6 t7 t8
  have t0 : w1.cell? ⟨w.heap.size, 0, none⟩ = some (.int .i64 ix) := HT1.out 0 _ rfl
  have t1 : w1.cell? ⟨w.heap.size, 1, none⟩ = some (.int .i64 nx) := HT1.out 1 _ rfl
  have t2 : w1.cell? ⟨w.heap.size, 2, none⟩ = some (.slice a2 J.length c2) := HT1.out 2 _ rfl
  have t3 : w1.cell? ⟨w.heap.size, 3, none⟩ = some (.slice a3 n3 c3) := HT1.out 3 _ rfl
  have t4 : w1.cell? ⟨w.heap.size, 4, none⟩ = some (.slice a4 Ln.length c4) := HT1.out 4 _ rfl
  have t5 : w1.cell? ⟨w.heap.size, 5, none⟩ = some (.slice a5 A.length c5) := HT1.out 5 _ rfl
  have t6 : w1.cell? ⟨w.heap.size, 6, none⟩ = some (.slice a6 n6 c6) := HT1.out 6 _ rfl
  have t7 : w1.cell? ⟨w.heap.size, 7, none⟩ = some (.slice a7 n7 c7) := HT1.out 7 _ rfl
  have t8 : w1.cell? ⟨w.heap.size, 8, none⟩ = some (.slice a8 n8 c8) := HT1.out 8 _ rfl
  have l8 : w.heap.size < w1.heap.size := lt_of_cell t0
  go_upto_region 3 with (go_at_call 10; refine (HRD.out _ HBW.out).mono ?_; rintro e w2 ⟨ra, rc, ga, gc, rfl, hor, hog, hb2⟩; have HOR := hidOf hor; have HOG := hidOf hog; have HB2 := hidOf hb2; clear hor hog hb2)
  clear l8 t0 t1 t2 t3 t4 t5 t6 t7 t8
  have HBX2 := hidOf (HBW.out.trans (HB2.out.mono HBW.out.size))
  have hl1 := own_lenP HOS.out
  have hl2 := own_lenP HOF.out
  unfold maxLen at hl1 hl2
  have HS1 := hidOf ((own_fl (y := 0) iC_len HOS.out (by omega)).kept (w' := w2) (S' := fun b => b < w2.heap.size) (fun b hb => HB2.out.block b hb.lt) (fun b hb => Nat.lt_of_lt_of_le hb.lt HB2.out.size))
  have HS2 := hidOf ((own_fl (y := 0) iC_len HOR.out (by omega)).kept (w' := w2) (S' := fun b => b < w2.heap.size) (fun b _ => rfl) (fun b hb => hb.lt))
  have HF1 := hidOf ((own_fl (y := 0) sC_len HOF.out (by omega)).kept (w' := w2) (S' := fun b => b < w2.heap.size) (fun b hb => HB2.out.block b hb.lt) (fun b hb => Nat.lt_of_lt_of_le hb.lt HB2.out.size))
  have HF2 := hidOf ((own_fl (y := 0) sC_len HOG.out (by omega)).kept (w' := w2) (S' := fun b => b < w2.heap.size) (fun b _ => rfl) (fun b hb => hb.lt))
  have HNM := hidOf (numbers_any stop sa ra sc rc w2 (own_lenP HOS.out) HS1.out HS2.out)
  clear HDF HRD HOS HOF HOR HOG HS1 HS2 HT HB0 hl1 HT1
  go_wp2_with (go_at_call 11; refine HNM.out.mono ?_; rintro e w3 ⟨rfl, hb3⟩; have HB3 := hidOf hb3; have HBY := hidOf (HBX2.out.trans (hb3.mono HBX2.out.size)); clear hb3)
  go_loopw [10] (fun i wr => ∃ k : Nat, k ≤ fill.length ∧ i = .int .i64 k ∧ Hid (Below w2.heap.size w2 wr)) (fun i _ => fill.length - (intOf i).toNat)
  case atStart => exact ⟨0, Nat.zero_le _, rfl, HB3⟩
  case round =>
    obtain ⟨k, hk, rfl, HZ⟩ := hrel
    by_cases hlt : k < fill.length
    · obtain ⟨b, off, ha, hQb, hcc⟩ := HF1.out.at k hlt
      obtain ⟨g, of2, hb, hQg, hcg⟩ := HF2.out.at k hlt
      have hQb' : b < w2.heap.size := hQb
      have hQg' : g < w2.heap.size := hQg
      obtain ⟨x, hx⟩ : ∃ x, fill[k] = x := ⟨_, rfl⟩
      rw [hx] at hcc hcg
      clear hx
      subst ha hb
      have ka1 : wr.cell? ⟨b, off + k * 2, none⟩ = some (.int .i64 x.1) := (hb_cell HZ.out hQb').trans (hcc 0 _ rfl)
      have ka2 : wr.cell? ⟨b, off + k * 2 + 1, none⟩ = some (.int .i64 x.2) := (hb_cell HZ.out hQb').trans (hcc 1 _ rfl)
      have kb1 : wr.cell? ⟨g, of2 + k * 2, none⟩ = some (.int .i64 x.1) := (hb_cell HZ.out hQg').trans (hcg 0 _ rfl)
      have kb2 : wr.cell? ⟨g, of2 + k * 2 + 1, none⟩ = some (.int .i64 x.2) := (hb_cell HZ.out hQg').trans (hcg 1 _ rfl)
      have la : b < wr.heap.size := lt_of_cell ka1
      have lb : g < wr.heap.size := lt_of_cell kb1
      have hi0 : ¬ ((k : Int) < 0) := by omega
      have hi1 : (k : Int) < (fill.length : Int) := by omega
      clear hcc hcg hQb hQg
      go_upto_region 9 with (fail)
      refine wp_region_held_drew (S := fun (Y : World) => Y.cell? ⟨b, off + k * 2, none⟩ = some (.int .i64 x.1) ∧ Y.cell? ⟨g, of2 + k * 2, none⟩ = some (.int .i64 x.1) ∧ Y.cell? ⟨b, off + k * 2 + 1, none⟩ = some (.int .i64 x.2) ∧ Y.cell? ⟨g, of2 + k * 2 + 1, none⟩ = some (.int .i64 x.2)) (by kernel_rfl) ⟨ka1, kb1, ka2, kb2⟩ (fun hHeld => ?_)
      refine wpAnyH_take (i := 0) (oi := { dst := some 41, op := Op.move (Operand.tmp 6), type := 31, pos := "law.go:52", after := #[], guard := none }) (v := .slice (some ⟨b, off, none⟩) fill.length fc) rfl (by kernel_rfl) (by kernel_rfl) (by kernel_rfl) (fun _ _ _ h => h) (Or.inl ⟨by rfl, ?_⟩) hHeld ?_
      · (intro w hSw; (try dsimp only at hSw); go_simp)
      try simp only [Act.put, List.setIfInBounds_toArray, List.set_cons_zero, List.set_cons_succ]
      refine wpAnyH_take (i := 1) (oi := { dst := some 42, op := Op.move (Operand.tmp 10), type := 3, pos := "law.go:52", after := #[], guard := none }) (v := .int .i64 (k : Int)) rfl (by kernel_rfl) (by kernel_rfl) (by kernel_rfl) (fun _ _ _ h => h) (Or.inl ⟨by rfl, ?_⟩) hHeld ?_
      · (intro w hSw; (try dsimp only at hSw); go_simp)
      try simp only [Act.put, List.setIfInBounds_toArray, List.set_cons_zero, List.set_cons_succ]
      refine wpAnyH_take (i := 2) (oi := { dst := some 43, op := Op.indexAddr 31 (Operand.tmp 41) (Operand.tmp 42), type := 0, pos := "law.go:52", after := #[{ on := 0, ground := Ground.data }, { on := 1, ground := Ground.data }], guard := none }) (v := .pointer (some ⟨b, off + k * 2, none⟩)) rfl (by kernel_rfl) (by kernel_rfl) (by kernel_rfl) (fun _ _ _ h => h) (Or.inl ⟨by rfl, ?_⟩) hHeld ?_
      · (intro w hSw; (try dsimp only at hSw); go_simp)
      try simp only [Act.put, List.setIfInBounds_toArray, List.set_cons_zero, List.set_cons_succ]
      refine wpAnyH_take (i := 3) (oi := { dst := some 44, op := Op.fieldAddr 39 (Operand.tmp 43) 0, type := 0, pos := "law.go:52", after := #[{ on := 2, ground := Ground.data }], guard := none }) (v := .pointer (some ⟨b, off + k * 2, none⟩)) rfl (by kernel_rfl) (by kernel_rfl) (by kernel_rfl) (fun _ _ _ h => h) (Or.inl ⟨by rfl, ?_⟩) hHeld ?_
      · (intro w hSw; (try dsimp only at hSw); go_simp)
      try simp only [Act.put, List.setIfInBounds_toArray, List.set_cons_zero, List.set_cons_succ]
      refine wpAnyH_take (i := 4) (oi := { dst := some 45, op := Op.load 3 (Operand.tmp 44), type := 3, pos := "law.go:52", after := #[{ on := 3, ground := Ground.data }], guard := none }) (v := .int .i64 x.1) rfl (by kernel_rfl) (by kernel_rfl) (by kernel_rfl) (fun _ _ _ h => h) (Or.inl ⟨by rfl, ?_⟩) hHeld ?_
      · (intro w hSw; (try dsimp only at hSw); go_simp)
      try simp only [Act.put, List.setIfInBounds_toArray, List.set_cons_zero, List.set_cons_succ]
      refine wpAnyH_take (i := 5) (oi := { dst := some 46, op := Op.move (Operand.tmp 8), type := 34, pos := "law.go:52", after := #[], guard := none }) (v := .slice (some ⟨g, of2, none⟩) fill.length gc) rfl (by kernel_rfl) (by kernel_rfl) (by kernel_rfl) (fun _ _ _ h => h) (Or.inl ⟨by rfl, ?_⟩) hHeld ?_
      · (intro w hSw; (try dsimp only at hSw); go_simp)
      try simp only [Act.put, List.setIfInBounds_toArray, List.set_cons_zero, List.set_cons_succ]
      refine wpAnyH_take (i := 6) (oi := { dst := some 47, op := Op.move (Operand.tmp 10), type := 3, pos := "law.go:52", after := #[], guard := none }) (v := .int .i64 (k : Int)) rfl (by kernel_rfl) (by kernel_rfl) (by kernel_rfl) (fun _ _ _ h => h) (Or.inl ⟨by rfl, ?_⟩) hHeld ?_
      · (intro w hSw; (try dsimp only at hSw); go_simp)
      try simp only [Act.put, List.setIfInBounds_toArray, List.set_cons_zero, List.set_cons_succ]
      refine wpAnyH_take (i := 7) (oi := { dst := some 48, op := Op.indexAddr 34 (Operand.tmp 46) (Operand.tmp 47), type := 0, pos := "law.go:52", after := #[{ on := 5, ground := Ground.data }, { on := 6, ground := Ground.data }], guard := none }) (v := .pointer (some ⟨g, of2 + k * 2, none⟩)) rfl (by kernel_rfl) (by kernel_rfl) (by kernel_rfl) (fun _ _ _ h => h) (Or.inl ⟨by rfl, ?_⟩) hHeld ?_
      · (intro w hSw; (try dsimp only at hSw); go_simp)
      try simp only [Act.put, List.setIfInBounds_toArray, List.set_cons_zero, List.set_cons_succ]
      refine wpAnyH_take (i := 8) (oi := { dst := some 49, op := Op.fieldAddr 40 (Operand.tmp 48) 0, type := 0, pos := "law.go:52", after := #[{ on := 7, ground := Ground.data }], guard := none }) (v := .pointer (some ⟨g, of2 + k * 2, none⟩)) rfl (by kernel_rfl) (by kernel_rfl) (by kernel_rfl) (fun _ _ _ h => h) (Or.inl ⟨by rfl, ?_⟩) hHeld ?_
      · (intro w hSw; (try dsimp only at hSw); go_simp)
      try simp only [Act.put, List.setIfInBounds_toArray, List.set_cons_zero, List.set_cons_succ]
      refine wpAnyH_take (i := 9) (oi := { dst := some 50, op := Op.load 3 (Operand.tmp 49), type := 3, pos := "law.go:52", after := #[{ on := 8, ground := Ground.data }], guard := none }) (v := .int .i64 x.1) rfl (by kernel_rfl) (by kernel_rfl) (by kernel_rfl) (fun _ _ _ h => h) (Or.inl ⟨by rfl, ?_⟩) hHeld ?_
      · (intro w hSw; (try dsimp only at hSw); go_simp)
      try simp only [Act.put, List.setIfInBounds_toArray, List.set_cons_zero, List.set_cons_succ]
      refine wpAnyH_take (i := 10) (oi := { dst := some 51, op := Op.binOp BinOp.neq 3 (Operand.tmp 45) (Operand.tmp 50) 3, type := 4, pos := "law.go:52", after := #[{ on := 4, ground := Ground.data }, { on := 9, ground := Ground.data }], guard := none }) (v := .bool false) rfl (by kernel_rfl) (by kernel_rfl) (by kernel_rfl) (fun _ _ _ h => h) (Or.inl ⟨by rfl, ?_⟩) hHeld ?_
      · (intro w hSw; (try dsimp only at hSw); go_simp)
      try simp only [Act.put, List.setIfInBounds_toArray, List.set_cons_zero, List.set_cons_succ]
      refine wpAnyH_take (i := 11) (oi := { dst := some 52, op := Op.move (Operand.tmp 51), type := 4, pos := "law.go:52", after := #[{ on := 10, ground := Ground.data }], guard := none }) (v := .bool false) rfl (by kernel_rfl) (by kernel_rfl) (by kernel_rfl) (fun _ _ _ h => h) (Or.inl ⟨by rfl, ?_⟩) hHeld ?_
      · (intro w hSw; (try dsimp only at hSw); go_simp)
      try simp only [Act.put, List.setIfInBounds_toArray, List.set_cons_zero, List.set_cons_succ]
      refine wpAnyH_take (i := 12) (oi := { dst := some 53, op := Op.move (Operand.tmp 6), type := 31, pos := "law.go:52", after := #[{ on := 11, ground := Ground.guard }], guard := some (11, false) }) (v := .slice (some ⟨b, off, none⟩) fill.length fc) rfl (by kernel_rfl) (by kernel_rfl) (by kernel_rfl) (fun _ _ _ h => h) (Or.inl ⟨by rfl, ?_⟩) hHeld ?_
      · (intro w hSw; (try dsimp only at hSw); go_simp)
      try simp only [Act.put, List.setIfInBounds_toArray, List.set_cons_zero, List.set_cons_succ]
      refine wpAnyH_take (i := 13) (oi := { dst := some 54, op := Op.move (Operand.tmp 10), type := 3, pos := "law.go:52", after := #[{ on := 11, ground := Ground.guard }], guard := some (11, false) }) (v := .int .i64 (k : Int)) rfl (by kernel_rfl) (by kernel_rfl) (by kernel_rfl) (fun _ _ _ h => h) (Or.inl ⟨by rfl, ?_⟩) hHeld ?_
      · (intro w hSw; (try dsimp only at hSw); go_simp)
      try simp only [Act.put, List.setIfInBounds_toArray, List.set_cons_zero, List.set_cons_succ]
      refine wpAnyH_take (i := 14) (oi := { dst := some 55, op := Op.indexAddr 31 (Operand.tmp 53) (Operand.tmp 54), type := 0, pos := "law.go:52", after := #[{ on := 12, ground := Ground.data }, { on := 13, ground := Ground.data }, { on := 11, ground := Ground.guard }], guard := some (11, false) }) (v := .pointer (some ⟨b, off + k * 2, none⟩)) rfl (by kernel_rfl) (by kernel_rfl) (by kernel_rfl) (fun _ _ _ h => h) (Or.inl ⟨by rfl, ?_⟩) hHeld ?_
      · (intro w hSw; (try dsimp only at hSw); go_simp)
      try simp only [Act.put, List.setIfInBounds_toArray, List.set_cons_zero, List.set_cons_succ]
      refine wpAnyH_take (i := 15) (oi := { dst := some 56, op := Op.fieldAddr 39 (Operand.tmp 55) 1, type := 0, pos := "law.go:52", after := #[{ on := 14, ground := Ground.data }, { on := 11, ground := Ground.guard }], guard := some (11, false) }) (v := .pointer (some ⟨b, off + k * 2 + 1, none⟩)) rfl (by kernel_rfl) (by kernel_rfl) (by kernel_rfl) (fun _ _ _ h => h) (Or.inl ⟨by rfl, ?_⟩) hHeld ?_
      · (intro w hSw; (try dsimp only at hSw); go_simp)
      try simp only [Act.put, List.setIfInBounds_toArray, List.set_cons_zero, List.set_cons_succ]
      refine wpAnyH_take (i := 16) (oi := { dst := some 57, op := Op.load 3 (Operand.tmp 56), type := 3, pos := "law.go:52", after := #[{ on := 15, ground := Ground.data }, { on := 11, ground := Ground.guard }], guard := some (11, false) }) (v := .int .i64 x.2) rfl (by kernel_rfl) (by kernel_rfl) (by kernel_rfl) (fun _ _ _ h => h) (Or.inl ⟨by rfl, ?_⟩) hHeld ?_
      · (intro w hSw; (try dsimp only at hSw); go_simp)
      try simp only [Act.put, List.setIfInBounds_toArray, List.set_cons_zero, List.set_cons_succ]
      refine wpAnyH_take (i := 17) (oi := { dst := some 58, op := Op.move (Operand.tmp 8), type := 34, pos := "law.go:52", after := #[{ on := 11, ground := Ground.guard }], guard := some (11, false) }) (v := .slice (some ⟨g, of2, none⟩) fill.length gc) rfl (by kernel_rfl) (by kernel_rfl) (by kernel_rfl) (fun _ _ _ h => h) (Or.inl ⟨by rfl, ?_⟩) hHeld ?_
      · (intro w hSw; (try dsimp only at hSw); go_simp)
      try simp only [Act.put, List.setIfInBounds_toArray, List.set_cons_zero, List.set_cons_succ]
      refine wpAnyH_take (i := 18) (oi := { dst := some 59, op := Op.move (Operand.tmp 10), type := 3, pos := "law.go:52", after := #[{ on := 11, ground := Ground.guard }], guard := some (11, false) }) (v := .int .i64 (k : Int)) rfl (by kernel_rfl) (by kernel_rfl) (by kernel_rfl) (fun _ _ _ h => h) (Or.inl ⟨by rfl, ?_⟩) hHeld ?_
      · (intro w hSw; (try dsimp only at hSw); go_simp)
      try simp only [Act.put, List.setIfInBounds_toArray, List.set_cons_zero, List.set_cons_succ]
      refine wpAnyH_take (i := 19) (oi := { dst := some 60, op := Op.indexAddr 34 (Operand.tmp 58) (Operand.tmp 59), type := 0, pos := "law.go:52", after := #[{ on := 17, ground := Ground.data }, { on := 18, ground := Ground.data }, { on := 11, ground := Ground.guard }], guard := some (11, false) }) (v := .pointer (some ⟨g, of2 + k * 2, none⟩)) rfl (by kernel_rfl) (by kernel_rfl) (by kernel_rfl) (fun _ _ _ h => h) (Or.inl ⟨by rfl, ?_⟩) hHeld ?_
      · (intro w hSw; (try dsimp only at hSw); go_simp)
      try simp only [Act.put, List.setIfInBounds_toArray, List.set_cons_zero, List.set_cons_succ]
      refine wpAnyH_take (i := 20) (oi := { dst := some 61, op := Op.fieldAddr 40 (Operand.tmp 60) 1, type := 0, pos := "law.go:52", after := #[{ on := 19, ground := Ground.data }, { on := 11, ground := Ground.guard }], guard := some (11, false) }) (v := .pointer (some ⟨g, of2 + k * 2 + 1, none⟩)) rfl (by kernel_rfl) (by kernel_rfl) (by kernel_rfl) (fun _ _ _ h => h) (Or.inl ⟨by rfl, ?_⟩) hHeld ?_
      · (intro w hSw; (try dsimp only at hSw); go_simp)
      try simp only [Act.put, List.setIfInBounds_toArray, List.set_cons_zero, List.set_cons_succ]
      refine wpAnyH_take (i := 21) (oi := { dst := some 62, op := Op.load 3 (Operand.tmp 61), type := 3, pos := "law.go:52", after := #[{ on := 20, ground := Ground.data }, { on := 11, ground := Ground.guard }], guard := some (11, false) }) (v := .int .i64 x.2) rfl (by kernel_rfl) (by kernel_rfl) (by kernel_rfl) (fun _ _ _ h => h) (Or.inl ⟨by rfl, ?_⟩) hHeld ?_
      · (intro w hSw; (try dsimp only at hSw); go_simp)
      try simp only [Act.put, List.setIfInBounds_toArray, List.set_cons_zero, List.set_cons_succ]
      refine wpAnyH_take (i := 22) (oi := { dst := some 63, op := Op.binOp BinOp.neq 3 (Operand.tmp 57) (Operand.tmp 62) 3, type := 4, pos := "law.go:52", after := #[{ on := 16, ground := Ground.data }, { on := 21, ground := Ground.data }, { on := 11, ground := Ground.guard }], guard := some (11, false) }) (v := .bool false) rfl (by kernel_rfl) (by kernel_rfl) (by kernel_rfl) (fun _ _ _ h => h) (Or.inl ⟨by rfl, ?_⟩) hHeld ?_
      · (intro w hSw; (try dsimp only at hSw); go_simp)
      try simp only [Act.put, List.setIfInBounds_toArray, List.set_cons_zero, List.set_cons_succ]
      refine wpAnyH_take (i := 23) (oi := { dst := some 64, op := Op.pick (Operand.tmp 52) (Operand.const (Value.bool true)) (Operand.tmp 63), type := 4, pos := "law.go:52", after := #[{ on := 11, ground := Ground.data }, { on := 22, ground := Ground.data }], guard := none }) (v := .bool false) rfl (by kernel_rfl) (by kernel_rfl) (by kernel_rfl) (fun _ _ _ h => h) (Or.inl ⟨by rfl, ?_⟩) hHeld ?_
      · (intro w hSw; (try dsimp only at hSw); go_simp)
      try simp only [Act.put, List.setIfInBounds_toArray, List.set_cons_zero, List.set_cons_succ]
      refine wpAnyH_done (by kernel_rfl) ?_ _
      go_wp2
      go_roundw
      case rel => exact ⟨k + 1, by omega, by simp, hidOf (HZ.out.trans ((bdrew wr).mono HZ.out.size))⟩
      case measure => simp [intOf]; omega
    · have hkl : k = fill.length := by omega
      subst hkl
      go_wp2_with (go_at_call 12; refine (lives_any _).mono ?_; rintro e wl ⟨rfl, hbl⟩; have HBL := hidOf hbl; clear hbl)
      go_ret
      exact ⟨rfl, (HBX2.out.trans (HZ.out.mono HBX2.out.size)).trans (HBL.out.mono (by have := HBX2.out.size; have := HZ.out.size; omega))⟩
end Go.Proofs.Ytaaodmagchpnbaa
