/- Who has all it wants wants nothing. -/
import Derived.Test.YtaaodmagchpnbaaZl
import Derived.Test.YtaaodmagchpnbaaLst
namespace Go.Proofs.Ytaaodmagchpnbaa
open Go.RowKit Go.Shelf
theorem info47 : (Try.prog.info? 47).map (fun i => (i.zero, i.size, i.bytes)) = some (some (.agg #[.int .i64 0, .int .i64 0, .int .i64 0, .int .i64 0, .int .i64 0, .int .i64 0, .int .i64 0, .int .i64 0, .int .i64 0, .bool false, .int .i64 0]), 11, 88) := by kernel_rfl
set_option maxRecDepth 100000 in
set_option maxHeartbeats 8000000 in
theorem walkQuiet (s : Sc) (J B : List Js) (X : List Ss) (d : St) (job : Int) (w : World) (hS : StR w (fun b => b < w.heap.size) s J B X d) (hbb : StB 1048576 d) :
    Calls Try.prog 6 #[.agg #[.int .i64 s.ix, .int .i64 s.nx, .slice s.a2 s.n2 s.c2, .slice s.a3 s.n3 s.c3, .slice s.a4 s.n4 s.c4, .slice s.a5 s.n5 s.c5, .slice s.a6 s.n6 s.c6, .slice s.a7 s.n7 s.c7, .slice s.a8 s.n8 s.c8], .int .i64 job] w fun e w' => e = .returned (.bool true) ∧ Below w.heap.size w w' := by
  have HCP := hidOf (fun (W : World) (hW : Below w.heap.size w W) => refCopy_any s J B X d W (hS.kept (fun b hb => hW.block b hb) (fun b hb => Nat.lt_of_lt_of_le hb hW.size)))
  have HJ := hidOf hS.j
  have HN := hidOf hS.f.f4
  obtain ⟨f2, f4, f5⟩ : s.n2 = J.length ∧ s.n4 = d.nodes.length ∧ s.n5 = d.allocs.length := ⟨hS.f.n2, hS.f.n4, hS.f.n5⟩
  obtain ⟨hbn, hba, hbg⟩ := hbb
  clear hS
  obtain ⟨ix, nx, a2, n2, c2, a3, n3, c3, a4, n4, c4, a5, n5, c5, a6, n6, c6, a7, n7, c7, a8, n8, c8⟩ := s
  simp only at f2 f4 f5 HJ HN HCP
  subst f2
  subst f4
  subst f5
  have hB0 := below1 w (.cells #[.int .i64 ix, .int .i64 nx, .slice a2 J.length c2, .slice a3 n3 c3, .slice a4 d.nodes.length c4, .slice a5 d.allocs.length c5, .slice a6 n6 c6, .slice a7 n7 c7, .slice a8 n8 c8] 29)
  have HBX := hidOf (box_new (wr := w) (cs := [.int .i64 ix, .int .i64 nx, .slice a2 J.length c2, .slice a3 n3 c3, .slice a4 d.nodes.length c4, .slice a5 d.allocs.length c5, .slice a6 n6 c6, .slice a7 n7 c7, .slice a8 n8 c8]) (t := 29) (Below.refl _ _))
  have HND := hidOf (job_ref ⟨ix, nx, a2, J.length, c2, a3, n3, c3, a4, d.nodes.length, c4, a5, d.allocs.length, c5, a6, n6, c6, a7, n7, c7, a8, n8, c8⟩ job J (w.alloc (.cells #[.int .i64 ix, .int .i64 nx, .slice a2 J.length c2, .slice a3 n3 c3, .slice a4 d.nodes.length c4, .slice a5 d.allocs.length c5, .slice a6 n6 c6, .slice a7 n7 c7, .slice a8 n8 c8] 29)) rfl (HJ.out.row.kept (fun b hb => hB0.block b hb) (fun b hb => Nat.lt_of_lt_of_le hb hB0.size)))
  rw [HJ.out.fi job] at HND
  have HB0 := hidOf hB0
  have hrng := fi_rng (fun x : Jb => isI x.id job) d.jobs
  have hbj := HJ.out.row.bd
  clear hB0
  rcases hrng with hv | ⟨m, hv, hm⟩
  · rw [hv] at HND
    clear hv
    go_enter Try.func6, Try.ntmps6
    go_wp2_with (first | (go_at_call 14; refine HND.out.mono ?_; rintro e w1 ⟨rfl, hb1⟩; have HB1 := hidOf (HB0.out.trans (hb1.mono HB0.out.size)); clear hb1) | (go_at_call 12; refine (lives_any _).mono ?_; rintro e wl ⟨rfl, hbl⟩; have HBL := hidOf hbl; clear hbl))
    go_ret
    exact ⟨rfl, HB1.out.trans (HBL.out.mono HB1.out.size)⟩
  · have HFI : Hid (dfI d.jobs job = (m : Int)) := hidOf hv
    rw [hv] at HND
    clear hv
    have hmJ : m < J.length := by rw [HJ.out.len]; exact hm
    obtain ⟨ga, gc, heq, hG⟩ := HJ.out.dp m hmJ hm
    obtain ⟨b, off, ha, hQb, hcc⟩ := HJ.out.row.at m hmJ
    rw [heq] at hcc
    have hdj : dfJ d.jobs job = d.jobs[m] := by unfold dfJ; rw [HFI.out, Int.toNat_natCast, getD_at _ m hm]
    have hgl := hbg d.jobs[m] (List.getElem_mem hm)
    obtain ⟨dd, hdd⟩ : ∃ dd, d.jobs[m] = dd := ⟨_, rfl⟩
    rw [hdd] at hcc hG hdj hgl
    have hbw : b < w.heap.size := hQb
    have HDJ := hidOf hdj
    have HG := hidOf hG
    have HCC := hidOf hcc
    clear heq hG hcc hQb hdd hdj
    subst ha
    generalize hLn : d.nodes = Ln at *
    generalize hAn : d.allocs = A at *
    generalize hLjn : d.jobs = Lj at *
    have HLn := hidOf hLn
    have HAn := hidOf hAn
    have HLjn := hidOf hLjn
    clear hLn hAn hLjn
    have hk0 : ¬ ((m : Int) < 0) := by omega
    have hk1 : (m : Int) < (J.length : Int) := by omega
    have hk2 : decide ((m : Int) < 0) = false := by simp
    go_enter Try.func6, Try.ntmps6
    go_upto_region 2 with (go_at_call 14; refine HND.out.mono ?_; rintro e w1 ⟨rfl, hb1⟩; have HB1 := hidOf (HB0.out.trans (hb1.mono HB0.out.size)); have HX1 := hidOf (range_of HBX.out (hb1.block w.heap.size (by simp))); clear hb1)
    obtain ⟨B2, hB2⟩ : ∃ B2, w.heap.size = B2 := ⟨_, rfl⟩
    have HX : Hid (w1.rangeAt B2 0 [.int .i64 ix, .int .i64 nx, .slice (some ⟨b, off, none⟩) J.length c2, .slice a3 n3 c3, .slice a4 Ln.length c4, .slice a5 A.length c5, .slice a6 n6 c6, .slice a7 n7 c7, .slice a8 n8 c8]) := hidOf (by rw [← hB2]; exact HX1.out)
    rw [hB2]
    have HBB2 := hidOf hB2
    clear hB2 HX1 HND HBX
    have q0 : w1.cell? ⟨B2, 0, none⟩ = some (.int .i64 ix) := HX.out 0 _ rfl
    have q1 : w1.cell? ⟨B2, 1, none⟩ = some (.int .i64 nx) := HX.out 1 _ rfl
    have q2 : w1.cell? ⟨B2, 2, none⟩ = some (.slice (some ⟨b, off, none⟩) J.length c2) := HX.out 2 _ rfl
    have q3 : w1.cell? ⟨B2, 3, none⟩ = some (.slice a3 n3 c3) := HX.out 3 _ rfl
    have q4 : w1.cell? ⟨B2, 4, none⟩ = some (.slice a4 Ln.length c4) := HX.out 4 _ rfl
    have q5 : w1.cell? ⟨B2, 5, none⟩ = some (.slice a5 A.length c5) := HX.out 5 _ rfl
    have q6 : w1.cell? ⟨B2, 6, none⟩ = some (.slice a6 n6 c6) := HX.out 6 _ rfl
    have q7 : w1.cell? ⟨B2, 7, none⟩ = some (.slice a7 n7 c7) := HX.out 7 _ rfl
    have q8 : w1.cell? ⟨B2, 8, none⟩ = some (.slice a8 n8 c8) := HX.out 8 _ rfl
    have lq : B2 < w1.heap.size := lt_of_cell q0
    have hcr := range_of HCC.out (HB1.out.block b hbw)
    have lb1 : b < w1.heap.size := Nat.lt_of_lt_of_le hbw HB1.out.size
    have j0 : w1.cell? ⟨b, off + m * 7, none⟩ = some (.int .i64 dd.id) := hcr 0 _ rfl
    have j1 : w1.cell? ⟨b, off + m * 7 + 1, none⟩ = some (.int .i64 dd.ty) := hcr 1 _ rfl
    have j2 : w1.cell? ⟨b, off + m * 7 + 2, none⟩ = some (.int .i64 dd.pr) := hcr 2 _ rfl
    have j3 : w1.cell? ⟨b, off + m * 7 + 3, none⟩ = some (.int .i64 dd.pa) := hcr 3 _ rfl
    have j4 : w1.cell? ⟨b, off + m * 7 + 4, none⟩ = some (.slice ga dd.gs.length gc) := hcr 4 _ rfl
    have j5 : w1.cell? ⟨b, off + m * 7 + 5, none⟩ = some (.int .i64 dd.ve) := hcr 5 _ rfl
    have j6 : w1.cell? ⟨b, off + m * 7 + 6, none⟩ = some (.bool dd.sd) := hcr 6 _ rfl
    clear hcr
    cases hsd : dd.sd with
    | true =>
      replace j6 := j6.trans (congrArg (fun z => some (Value.bool z)) hsd)
      go_wp2_with (go_at_call 12; refine (lives_any _).mono ?_; rintro e wl ⟨rfl, hbl⟩; have HBL := hidOf hbl; clear hbl)
      go_ret
      exact ⟨rfl, HB1.out.trans (HBL.out.mono HB1.out.size)⟩
    | false =>
      have j6' := j6.trans (congrArg (fun z => some (Value.bool z)) hsd)
      have HJ6 := hidOf j6
      clear j6
      go_upto_region 4 with (fail)
      clear j6' hsd
      have j6 := HJ6.out
      have HSL := hidOf (sl_ok (Ln := Ln) hgl hbn)
      have HSL2 : Hid ((slV dd Ln).length ≤ 1099511627776) := hidOf (by have h1 := slV_bd dd Ln 1048576 (by omega) hbn; have h2 : dd.gs.length * 1048576 ≤ 1048576 * 1048576 := Nat.mul_le_mul_right _ hgl; omega)
      obtain ⟨B6, hB6⟩ : ∃ B6, w1.heap.size = B6 := ⟨_, rfl⟩
      obtain ⟨w2, hw2⟩ : ∃ w2, w1.alloc (.cells #[.int .i64 dd.id, .int .i64 dd.ty, .int .i64 dd.pr, .int .i64 dd.pa, .slice ga dd.gs.length gc, .int .i64 dd.ve, .bool dd.sd] 51) = w2 := ⟨_, rfl⟩
      have HB2 : Hid (Below w1.heap.size w1 w2) := hidOf (by rw [← hw2]; exact below1 _ _)
      have HJB : Hid (w2.rangeAt B6 0 [.int .i64 dd.id, .int .i64 dd.ty, .int .i64 dd.pr, .int .i64 dd.pa, .slice ga dd.gs.length gc, .int .i64 dd.ve, .bool dd.sd]) := hidOf (by rw [← hw2, ← hB6]; exact box_new (wr := w1) (cs := [.int .i64 dd.id, .int .i64 dd.ty, .int .i64 dd.pr, .int .i64 dd.pa, .slice ga dd.gs.length gc, .int .i64 dd.ve, .bool dd.sd]) (t := 51) (Below.refl _ _))
      have HW2 := hidOf (HB1.out.trans (HB2.out.mono HB1.out.size))
      have HRS := hidOf (refSlots_any ⟨ix, nx, some ⟨b, off, none⟩, J.length, c2, a3, n3, c3, a4, Ln.length, c4, a5, A.length, c5, a6, n6, c6, a7, n7, c7, a8, n8, c8⟩ dd ga gc Ln w2 (HN.out.kept (fun k hk => HW2.out.block k hk) (fun k hk => Nat.lt_of_lt_of_le hk HW2.out.size)) (HG.out.kept (fun k hk => HW2.out.block k hk) (fun k hk => Nat.lt_of_lt_of_le hk HW2.out.size)) HSL.out)
      have HE2 := hidOf hw2
      have HE6 := hidOf hB6
      clear hw2 hB6
      go_upto_region 5 with (fail)
      rw [HE2.out, HE6.out]
      have hB6 := HE6.out
      clear HE2 HE6
      have lB6w : w1.heap.size ≤ B6 := by rw [hB6]; exact Nat.le_refl _
      clear hB6 j0 j1 j2 j3 j4 j5 j6
      have r0 : w2.cell? ⟨B2, 0, none⟩ = some (.int .i64 ix) := (hb_cell HB2.out lq).trans q0
      have r1 : w2.cell? ⟨B2, 1, none⟩ = some (.int .i64 nx) := (hb_cell HB2.out lq).trans q1
      have r2 : w2.cell? ⟨B2, 2, none⟩ = some (.slice (some ⟨b, off, none⟩) J.length c2) := (hb_cell HB2.out lq).trans q2
      have r3 : w2.cell? ⟨B2, 3, none⟩ = some (.slice a3 n3 c3) := (hb_cell HB2.out lq).trans q3
      have r4 : w2.cell? ⟨B2, 4, none⟩ = some (.slice a4 Ln.length c4) := (hb_cell HB2.out lq).trans q4
      have r5 : w2.cell? ⟨B2, 5, none⟩ = some (.slice a5 A.length c5) := (hb_cell HB2.out lq).trans q5
      have r6 : w2.cell? ⟨B2, 6, none⟩ = some (.slice a6 n6 c6) := (hb_cell HB2.out lq).trans q6
      have r7 : w2.cell? ⟨B2, 7, none⟩ = some (.slice a7 n7 c7) := (hb_cell HB2.out lq).trans q7
      have r8 : w2.cell? ⟨B2, 8, none⟩ = some (.slice a8 n8 c8) := (hb_cell HB2.out lq).trans q8
      have j0 : w2.cell? ⟨B6, 0, none⟩ = some (.int .i64 dd.id) := HJB.out 0 _ rfl
      have j1 : w2.cell? ⟨B6, 1, none⟩ = some (.int .i64 dd.ty) := HJB.out 1 _ rfl
      have j2 : w2.cell? ⟨B6, 2, none⟩ = some (.int .i64 dd.pr) := HJB.out 2 _ rfl
      have j3 : w2.cell? ⟨B6, 3, none⟩ = some (.int .i64 dd.pa) := HJB.out 3 _ rfl
      have j4 : w2.cell? ⟨B6, 4, none⟩ = some (.slice ga dd.gs.length gc) := HJB.out 4 _ rfl
      have j5 : w2.cell? ⟨B6, 5, none⟩ = some (.int .i64 dd.ve) := HJB.out 5 _ rfl
      have j6 : w2.cell? ⟨B6, 6, none⟩ = some (.bool dd.sd) := HJB.out 6 _ rfl
      have lr : B2 < w2.heap.size := lt_of_cell r0
      have lj : B6 < w2.heap.size := lt_of_cell j0
      clear q0 q1 q2 q3 q4 q5 q6 q7 q8
      obtain ⟨L, hL⟩ : ∃ L, slV dd Ln = L := ⟨_, rfl⟩
      rw [hL] at HRS HSL HSL2
      have HL := hidOf hL
      clear hL
      go_upto_region 7 with (first | (go_at_call 15; refine HRS.out.mono ?_; rintro e w3 ⟨la, lc, rfl, ho3, hb3⟩; have HO3 := hidOf ho3; have HB3 := hidOf hb3; have HW3 := hidOf (HW2.out.trans (hb3.mono HW2.out.size)); clear ho3; have z0 : w3.cell? ⟨B2, 0, none⟩ = some (.int .i64 ix) := (hb_cell hb3 lr).trans r0; have z1 : w3.cell? ⟨B2, 1, none⟩ = some (.int .i64 nx) := (hb_cell hb3 lr).trans r1; have z2 : w3.cell? ⟨B2, 2, none⟩ = some (.slice (some ⟨b, off, none⟩) J.length c2) := (hb_cell hb3 lr).trans r2; have z3 : w3.cell? ⟨B2, 3, none⟩ = some (.slice a3 n3 c3) := (hb_cell hb3 lr).trans r3; have z4 : w3.cell? ⟨B2, 4, none⟩ = some (.slice a4 Ln.length c4) := (hb_cell hb3 lr).trans r4; have z5 : w3.cell? ⟨B2, 5, none⟩ = some (.slice a5 A.length c5) := (hb_cell hb3 lr).trans r5; have z6 : w3.cell? ⟨B2, 6, none⟩ = some (.slice a6 n6 c6) := (hb_cell hb3 lr).trans r6; have z7 : w3.cell? ⟨B2, 7, none⟩ = some (.slice a7 n7 c7) := (hb_cell hb3 lr).trans r7; have z8 : w3.cell? ⟨B2, 8, none⟩ = some (.slice a8 n8 c8) := (hb_cell hb3 lr).trans r8; have ls := lt_of_cell z0; clear hb3 r0 r1 r2 r3 r4 r5 r6 r7 r8 lr) | (go_at_call 19; refine (HCP.out _ HW3.out).mono ?_; rintro e w4 ⟨s2, J2, B2', X2, rfl, hS2, hb4, hao, hjb, hno⟩; have HOD := hidOf (owd_copy hS2 hao hjb hno); have HB4 := hidOf hb4; clear hS2 hb4 hao hjb hno z0 z1 z2 z3 z4 z5 z6 z7 z8 ls))
      rw [HLn.out, HAn.out, HLjn.out] at HOD
      obtain ⟨ix2, nx2, b2, m2, e2, b3, m3, e3, b4, m4, e4, b5, m5, e5, b6, m6, e6, b7, m7, e7, b8, m8, e8⟩ := s2
      obtain ⟨g2, g4, g5⟩ : m2 = J2.length ∧ m4 = Ln.length ∧ m5 = A.length := ⟨HOD.out.n2, HOD.out.n4, HOD.out.n5⟩
      subst g2
      subst g4
      subst g5
      obtain ⟨B8, hB8⟩ : ∃ B8, w4.heap.size = B8 := ⟨_, rfl⟩
      obtain ⟨W4, hW4⟩ : ∃ W4, w4.alloc (.cells #[.int .i64 ix2, .int .i64 nx2, .slice b2 J2.length e2, .slice b3 m3 e3, .slice b4 Ln.length e4, .slice b5 A.length e5, .slice b6 m6 e6, .slice b7 m7 e7, .slice b8 m8 e8] 29) = W4 := ⟨_, rfl⟩
      have HBW : Hid (Below w4.heap.size w4 W4) := hidOf (by rw [← hW4]; exact below1 _ _)
      have HT4 : Hid (W4.heap[B8]? = some (.cells #[.int .i64 ix2, .int .i64 nx2, .slice b2 J2.length e2, .slice b3 m3 e3, .slice b4 Ln.length e4, .slice b5 A.length e5, .slice b6 m6 e6, .slice b7 m7 e7, .slice b8 m8 e8] 29 (0, 0))) := hidOf (by rw [← hW4, ← hB8]; exact heap_alloc_new w4 _)
      rw [hW4, hB8]
      have lB8 : w3.heap.size ≤ B8 := by rw [← hB8]; exact HB4.out.size
      have hB8e : B8 ≤ w4.heap.size ∧ w4.heap.size ≤ B8 := by rw [hB8]; exact ⟨Nat.le_refl _, Nat.le_refl _⟩
      have HJ40 := hidOf HOD.out.j
      have HN40 := hidOf HOD.out.n
      clear hW4 hB8
      have HOD4 := hidOf (HOD.out.up HBW.out)
      have HB34 := hidOf (HB4.out.trans (HBW.out.mono HB4.out.size))
      have HWW := hidOf (HW3.out.trans (HB34.out.mono HW3.out.size))
      have HJ4 := hidOf (range_of HJB.out ((HB34.out.block B6 (Nat.lt_of_lt_of_le lj HB3.out.size)).trans (HB3.out.block B6 lj)))
      have HSB := HSL.out
      have hLb := own_blk2 HO3.out
      have HLF := hidOf ((own_fl (y := 16) sC_len HO3.out HSB).kept (w' := W4) (S' := fun k => k < W4.heap.size) (fun k hk => HB34.out.block k hk.lt) (fun k hk => Nat.lt_of_lt_of_le hk.lt HB34.out.size))
      have l8 : B8 < W4.heap.size := heap_lt HT4.out
      have l6 : B6 < W4.heap.size := lt_of_cell (HJ4.out 0 _ rfl)
      have HA4 := hidOf HOD4.out.a
      have HN4 := hidOf HOD4.out.n
      have HJJ4 := hidOf HOD4.out.j
      have hbA := HA4.out.bd
      have hbN := HN4.out.bd
      have HTR := hidOf (row_range (cs := [.int .i64 ix2, .int .i64 nx2, .slice b2 J2.length e2, .slice b3 m3 e3, .slice b4 Ln.length e4, .slice b5 A.length e5, .slice b6 m6 e6, .slice b7 m7 e7, .slice b8 m8 e8]) (o := 0) HT4.out (fun j v h => by simpa using h))
      clear hLb HOD HOD4 HO3 HRS HCP j0 j1 j2 j3 j4 j5 j6 lj
      go_wp2
      go_loopw [9, 10] (fun v i wr => ∃ (k : Nat) (K : List Al) (ka : Option Addr) (kc : Nat), k ≤ A.length ∧ i = .int .i64 k ∧ v = .slice ka K.length kc ∧ Hid (K = kpK job A k) ∧ Hid (wr.ownsRow W4.heap.size 47 11 (.slice ka K.length kc) K.length (fl Al.cs K)) ∧ Hid (Below W4.heap.size W4 wr)) (fun _ i _ => A.length - (intOf i).toNat)
      case atStart => exact ⟨0, [], none, 0, Nat.zero_le _, rfl, rfl, hidOf rfl, hidOf ⟨rfl, .inl ⟨rfl, rfl⟩⟩, hidOf (Below.refl _ _)⟩
      case round =>
        obtain ⟨k, K, ka, kc, hk, rfl, rfl, HK, HOW, HBr⟩ := hrel
        have t5 : wr.cell? ⟨B8, 5, none⟩ = some (.slice b5 A.length e5) := (hb_cell HBr.out l8).trans (HTR.out 5 _ rfl)
        have l8r : B8 < wr.heap.size := lt_of_cell t5
        have hkl : K.length ≤ k := by rw [HK.out]; exact kpK_len job A k
        by_cases hlt : k < A.length
        · obtain ⟨b9, off9, ha9, hQ9, hc9⟩ := HA4.out.at k hlt
          have hQ9' : b9 < W4.heap.size := hQ9
          obtain ⟨x, hx⟩ : ∃ x, A[k] = x := ⟨_, rfl⟩
          have HKA := hidOf (kpK_at job A k K HK.out hlt x hx)
          rw [hx] at hc9
          clear hx
          subst ha9
          have hcr := range_of hc9 (HBr.out.block b9 hQ9')
          have hbl : b9 < wr.heap.size := Nat.lt_of_lt_of_le hQ9' HBr.out.size
          have c0 : wr.cell? ⟨b9, off9 + k * 11, none⟩ = some (.int .i64 x.id) := hcr 0 _ rfl
          have c1 : wr.cell? ⟨b9, off9 + k * 11 + 1, none⟩ = some (.int .i64 x.jb) := hcr 1 _ rfl
          have c2 : wr.cell? ⟨b9, off9 + k * 11 + 2, none⟩ = some (.int .i64 x.ve) := hcr 2 _ rfl
          have c3 : wr.cell? ⟨b9, off9 + k * 11 + 3, none⟩ = some (.int .i64 x.gr) := hcr 3 _ rfl
          have c4 : wr.cell? ⟨b9, off9 + k * 11 + 4, none⟩ = some (.int .i64 x.ix) := hcr 4 _ rfl
          have c5 : wr.cell? ⟨b9, off9 + k * 11 + 5, none⟩ = some (.int .i64 x.nd) := hcr 5 _ rfl
          have c6 : wr.cell? ⟨b9, off9 + k * 11 + 6, none⟩ = some (.int .i64 x.ep) := hcr 6 _ rfl
          have c7 : wr.cell? ⟨b9, off9 + k * 11 + 7, none⟩ = some (.int .i64 x.c) := hcr 7 _ rfl
          have c8 : wr.cell? ⟨b9, off9 + k * 11 + 8, none⟩ = some (.int .i64 x.m) := hcr 8 _ rfl
          have c9 : wr.cell? ⟨b9, off9 + k * 11 + 9, none⟩ = some (.bool x.sp) := hcr 9 _ rfl
          have c10 : wr.cell? ⟨b9, off9 + k * 11 + 10, none⟩ = some (.int .i64 x.st) := hcr 10 _ rfl
          clear hc9 hcr hQ9
          by_cases hj : x.jb = job
          · have hjb : (x.jb != job) = false := by simp [hj]
            have HX2 := hidOf hj
            clear hj
            go_wp2
            go_roundw
            case rel => exact ⟨k + 1, K, ka, kc, by omega, by simp, rfl, hidOf (by rw [HKA.out, if_pos HX2.out]), HOW, HBr⟩
            case measure => simp [intOf]; omega
          · have hjb : (x.jb != job) = true := by simp [hj]
            have HX2 := hidOf hj
            clear hj
            have hB9 := below1 wr (.cells #[.int .i64 x.id, .int .i64 x.jb, .int .i64 x.ve, .int .i64 x.gr, .int .i64 x.ix, .int .i64 x.nd, .int .i64 x.ep, .int .i64 x.c, .int .i64 x.m, .bool x.sp, .int .i64 x.st] 47)
            have HOW9 := hidOf (own_kept HOW.out (w' := wr.alloc (.cells #[.int .i64 x.id, .int .i64 x.jb, .int .i64 x.ve, .int .i64 x.gr, .int .i64 x.ix, .int .i64 x.nd, .int .i64 x.ep, .int .i64 x.c, .int .i64 x.m, .bool x.sp, .int .i64 x.st] 47)) (fun q _ hq => hB9.block q hq))
            have HML := hidOf (show K.length + 1 ≤ maxLen by unfold maxLen; omega)
            have HBY := hidOf (show (K.length + 1) * 88 ≤ 140737488355328 by omega)
            have HBS := hidOf (show W4.heap.size ≤ (wr.alloc (.cells #[.int .i64 x.id, .int .i64 x.jb, .int .i64 x.ve, .int .i64 x.gr, .int .i64 x.ix, .int .i64 x.nd, .int .i64 x.ep, .int .i64 x.c, .int .i64 x.m, .bool x.sp, .int .i64 x.st] 47)).heap.size by have := HBr.out.size; simp; omega)
            have hblk := own_blk2 HOW.out
            have HBK := hidOf hblk
            have HB9 := hidOf hB9
            clear hB9 hblk
            go_wp2_with (at_builtin; refine wpList_app1 _ rfl _ _ 24 rfl W4.heap.size 47 _ 11 88 Try.underlying24 info47 rfl (by decide) _ K.length (fl Al.cs K) rfl HOW9.out ⟨wr.heap.size, 0, none⟩ 1 (Al.cs x) rfl rfl (newN wr (Al.cs x) 47) (Al.one x) HML.out HBY.out HBS.out ?_; intro a' c' w8 ho8 hg8; have HO8 := hidOf ho8; have HG8 := hidOf hg8; clear ho8 hg8)
            go_roundw
            case rel => exact ⟨k + 1, K ++ [x], a', c', by omega, by simp, by simp, hidOf (by rw [HKA.out, if_neg HX2.out]), hidOf (by rw [fl_snoc, List.length_append]; exact HO8.out), hidOf ((HBr.out.trans (HB9.out.mono HBr.out.size)).grown HG8.out (by have := HBr.out.size; simp; omega) (fun q e => (HBK.out q e).1))⟩
            case measure => simp [intOf]; omega
        · have hke : k = A.length := by omega
          subst hke
          obtain ⟨Kz, hKz⟩ : ∃ Kz, Kz = K := ⟨_, rfl⟩
          subst hKz
          have HKZ := HK
          have HBr1 := HBr
          have HOW1 := HOW
          have hsl2 := HSL2.out
          clear HBr HOW HK
          go_wp2
          clear t5 l8r
          go_loopw [9, 11] (fun v i wr => ∃ (k : Nat) (KA : List Al) (ka : Option Addr) (kc : Nat), k ≤ L.length ∧ i = .int .i64 k ∧ v = .slice ka KA.length kc ∧ Hid (KA = Kz ++ qL job dd.ve L k) ∧ Hid (wr.ownsRow W4.heap.size 47 11 (.slice ka KA.length kc) KA.length (fl Al.cs KA)) ∧ Hid (Below W4.heap.size W4 wr)) (fun _ i _ => L.length - (intOf i).toNat)
          case atStart => exact ⟨0, Kz, ka, kc, Nat.zero_le _, rfl, rfl, hidOf (by simp [qL]), HOW1, HBr1⟩
          case round =>
            obtain ⟨k, KA, ka, kc, hk3, rfl, rfl, HK, HOW0, HBr⟩ := hrel
            have hkl3 : KA.length = Kz.length + k := by rw [HK.out, List.length_append, qL_len]
            have HKL := hidOf hkl3
            have hkb : KA.length ≤ Kz.length + k := by omega
            clear hkl3
            by_cases hlt2 : k < L.length
            · obtain ⟨b9, off9, ha9, hQ9, hc9⟩ := HLF.out.at k hlt2
              have hQ9' : b9 < W4.heap.size := hQ9
              obtain ⟨y, hy⟩ : ∃ y, L[k] = y := ⟨_, rfl⟩
              have HQA := hidOf (qL_at job dd.ve L k hlt2 y hy)
              rw [hy] at hc9
              clear hy
              subst ha9
              have v1 : wr.cell? ⟨b9, off9 + k * 2, none⟩ = some (.int .i64 y.1) := (hb_cell HBr.out hQ9').trans (hc9 0 _ rfl)
              have v2 : wr.cell? ⟨b9, off9 + k * 2 + 1, none⟩ = some (.int .i64 y.2) := (hb_cell HBr.out hQ9').trans (hc9 1 _ rfl)
              have v5 : wr.cell? ⟨B6, 5, none⟩ = some (.int .i64 dd.ve) := (hb_cell HBr.out l6).trans (HJ4.out 5 _ rfl)
              have l9 : b9 < wr.heap.size := lt_of_cell v1
              have l6r : B6 < wr.heap.size := lt_of_cell v5
              have hi0 : ¬ ((k : Int) < 0) := by omega
              have hi1 : (k : Int) < (L.length : Int) := by omega
              have hwrap : IntKind.i64.wrap (1000 + (k : Int)) = 1000 + (k : Int) := wrap_small _ (by omega) (by omega)
              have hB9 := below1 wr.drew (.cells #[.int .i64 (1000 + (k : Int)), .int .i64 job, .int .i64 dd.ve, .int .i64 y.1, .int .i64 y.2, .int .i64 (-5), .int .i64 0, .int .i64 0, .int .i64 0, .bool false, .int .i64 2] 47)
              have HA17 : Hid ((fun (wz : World) => wz.cell? ⟨B6, 5, none⟩ = some (.int .i64 dd.ve) ∧ wz.cell? ⟨b9, off9 + k * 2, none⟩ = some (.int .i64 y.1) ∧ wz.cell? ⟨b9, off9 + k * 2 + 1, none⟩ = some (.int .i64 y.2)) (wr.drew.alloc (.cells #[.int .i64 (1000 + (k : Int)), .int .i64 job, .int .i64 dd.ve, .int .i64 y.1, .int .i64 y.2, .int .i64 (-5), .int .i64 0, .int .i64 0, .int .i64 0, .bool false, .int .i64 2] 47))) := hidOf ⟨(hb_cell hB9 l6r).trans v5, (hb_cell hB9 l9).trans v1, (hb_cell hB9 l9).trans v2⟩
              have HOW := hidOf (own_kept HOW0.out (w' := wr.drew.alloc (.cells #[.int .i64 (1000 + (k : Int)), .int .i64 job, .int .i64 dd.ve, .int .i64 y.1, .int .i64 y.2, .int .i64 (-5), .int .i64 0, .int .i64 0, .int .i64 0, .bool false, .int .i64 2] 47)) (fun q _ hq => hB9.block q hq))
              have HML := hidOf (show KA.length + 1 ≤ maxLen by unfold maxLen; omega)
              have HBY := hidOf (show (KA.length + 1) * 88 ≤ 140737488355328 by omega)
              have HBS := hidOf (show W4.heap.size ≤ (wr.drew.alloc (.cells #[.int .i64 (1000 + (k : Int)), .int .i64 job, .int .i64 dd.ve, .int .i64 y.1, .int .i64 y.2, .int .i64 (-5), .int .i64 0, .int .i64 0, .int .i64 0, .bool false, .int .i64 2] 47)).heap.size by have h1 := HBr.out.size; have h2 := hB9.size; have h3 : wr.drew.heap.size = wr.heap.size := rfl; omega)
              have HBK := hidOf (own_blk2 HOW0.out)
              have HB9 := hidOf ((bdrew wr).trans (hB9.mono (bdrew wr).size))
              clear hB9 hc9 hQ9
              go_upto_region 16 with (fail)
              refine wp_region_held_drew (S := fun (wz : World) => wz.cell? ⟨B6, 5, none⟩ = some (.int .i64 dd.ve) ∧ wz.cell? ⟨b9, off9 + k * 2, none⟩ = some (.int .i64 y.1) ∧ wz.cell? ⟨b9, off9 + k * 2 + 1, none⟩ = some (.int .i64 y.2)) (by kernel_rfl) ⟨v5, v1, v2⟩ (fun hHeld => ?_)
              refine wpAnyH_take (i := 0) (oi := { dst := some 68, op := Op.move (Operand.tmp 9), type := 24, pos := "law.go:150", after := #[], guard := none }) (v := .slice ka KA.length kc) rfl (by kernel_rfl) (by kernel_rfl) (by kernel_rfl) (fun _ _ _ h => h) (Or.inl ⟨by rfl, ?_⟩) hHeld ?_
              · (intro w hSw; (try dsimp only at hSw); go_simp)
              try simp only [Act.put, List.setIfInBounds_toArray, List.set_cons_zero, List.set_cons_succ]
              refine wpAnyH_take (i := 1) (oi := { dst := some 69, op := Op.move (Operand.tmp 11), type := 3, pos := "law.go:150", after := #[], guard := none }) (v := .int .i64 (k : Int)) rfl (by kernel_rfl) (by kernel_rfl) (by kernel_rfl) (fun _ _ _ h => h) (Or.inl ⟨by rfl, ?_⟩) hHeld ?_
              · (intro w hSw; (try dsimp only at hSw); go_simp)
              try simp only [Act.put, List.setIfInBounds_toArray, List.set_cons_zero, List.set_cons_succ]
              refine wpAnyH_take (i := 2) (oi := { dst := some 70, op := Op.binOp BinOp.add 3 (Operand.const (Value.int IntKind.i64 1000)) (Operand.tmp 69) 3, type := 3, pos := "law.go:150", after := #[{ on := 1, ground := Ground.data }], guard := none }) (v := .int .i64 (1000 + (k : Int))) rfl (by kernel_rfl) (by kernel_rfl) (by kernel_rfl) (fun _ _ _ h => h) (Or.inl ⟨by rfl, ?_⟩) hHeld ?_
              · (intro w hSw; (try dsimp only at hSw); go_simp)
              try simp only [Act.put, List.setIfInBounds_toArray, List.set_cons_zero, List.set_cons_succ]
              refine wpAnyH_take (i := 3) (oi := { dst := some 71, op := Op.move (Operand.tmp 1), type := 3, pos := "law.go:150", after := #[], guard := none }) (v := .int .i64 job) rfl (by kernel_rfl) (by kernel_rfl) (by kernel_rfl) (fun _ _ _ h => h) (Or.inl ⟨by rfl, ?_⟩) hHeld ?_
              · (intro w hSw; (try dsimp only at hSw); go_simp)
              try simp only [Act.put, List.setIfInBounds_toArray, List.set_cons_zero, List.set_cons_succ]
              refine wpAnyH_take (i := 4) (oi := { dst := some 72, op := Op.fieldAddr 51 (Operand.tmp 6) 5, type := 0, pos := "law.go:150", after := #[], guard := none }) (v := .pointer (some ⟨B6, 5, none⟩)) rfl (by kernel_rfl) (by kernel_rfl) (by kernel_rfl) (fun _ _ _ h => h) (Or.inl ⟨by rfl, ?_⟩) hHeld ?_
              · (intro w hSw; (try dsimp only at hSw); go_simp)
              try simp only [Act.put, List.setIfInBounds_toArray, List.set_cons_zero, List.set_cons_succ]
              refine wpAnyH_take (i := 5) (oi := { dst := some 73, op := Op.load 3 (Operand.tmp 72), type := 3, pos := "law.go:150", after := #[{ on := 4, ground := Ground.data }], guard := none }) (v := .int .i64 dd.ve) rfl (by kernel_rfl) (by kernel_rfl) (by kernel_rfl) (fun _ _ _ h => h) (Or.inl ⟨by rfl, ?_⟩) hHeld ?_
              · (intro w hSw; (try dsimp only at hSw); go_simp)
              try simp only [Act.put, List.setIfInBounds_toArray, List.set_cons_zero, List.set_cons_succ]
              refine wpAnyH_take (i := 6) (oi := { dst := some 74, op := Op.move (Operand.tmp 7), type := 34, pos := "law.go:150", after := #[], guard := none }) (v := .slice (some ⟨b9, off9, none⟩) L.length lc) rfl (by kernel_rfl) (by kernel_rfl) (by kernel_rfl) (fun _ _ _ h => h) (Or.inl ⟨by rfl, ?_⟩) hHeld ?_
              · (intro w hSw; (try dsimp only at hSw); go_simp)
              try simp only [Act.put, List.setIfInBounds_toArray, List.set_cons_zero, List.set_cons_succ]
              refine wpAnyH_take (i := 7) (oi := { dst := some 75, op := Op.move (Operand.tmp 11), type := 3, pos := "law.go:150", after := #[], guard := none }) (v := .int .i64 (k : Int)) rfl (by kernel_rfl) (by kernel_rfl) (by kernel_rfl) (fun _ _ _ h => h) (Or.inl ⟨by rfl, ?_⟩) hHeld ?_
              · (intro w hSw; (try dsimp only at hSw); go_simp)
              try simp only [Act.put, List.setIfInBounds_toArray, List.set_cons_zero, List.set_cons_succ]
              refine wpAnyH_take (i := 8) (oi := { dst := some 76, op := Op.indexAddr 34 (Operand.tmp 74) (Operand.tmp 75), type := 0, pos := "law.go:150", after := #[{ on := 6, ground := Ground.data }, { on := 7, ground := Ground.data }], guard := none }) (v := .pointer (some ⟨b9, off9 + k * 2, none⟩)) rfl (by kernel_rfl) (by kernel_rfl) (by kernel_rfl) (fun _ _ _ h => h) (Or.inl ⟨by rfl, ?_⟩) hHeld ?_
              · (intro w hSw; (try dsimp only at hSw); go_simp)
              try simp only [Act.put, List.setIfInBounds_toArray, List.set_cons_zero, List.set_cons_succ]
              refine wpAnyH_take (i := 9) (oi := { dst := some 77, op := Op.fieldAddr 40 (Operand.tmp 76) 0, type := 0, pos := "law.go:150", after := #[{ on := 8, ground := Ground.data }], guard := none }) (v := .pointer (some ⟨b9, off9 + k * 2, none⟩)) rfl (by kernel_rfl) (by kernel_rfl) (by kernel_rfl) (fun _ _ _ h => h) (Or.inl ⟨by rfl, ?_⟩) hHeld ?_
              · (intro w hSw; (try dsimp only at hSw); go_simp)
              try simp only [Act.put, List.setIfInBounds_toArray, List.set_cons_zero, List.set_cons_succ]
              refine wpAnyH_take (i := 10) (oi := { dst := some 78, op := Op.load 3 (Operand.tmp 77), type := 3, pos := "law.go:150", after := #[{ on := 9, ground := Ground.data }], guard := none }) (v := .int .i64 y.1) rfl (by kernel_rfl) (by kernel_rfl) (by kernel_rfl) (fun _ _ _ h => h) (Or.inl ⟨by rfl, ?_⟩) hHeld ?_
              · (intro w hSw; (try dsimp only at hSw); go_simp)
              try simp only [Act.put, List.setIfInBounds_toArray, List.set_cons_zero, List.set_cons_succ]
              refine wpAnyH_take (i := 11) (oi := { dst := some 79, op := Op.move (Operand.tmp 7), type := 34, pos := "law.go:150", after := #[], guard := none }) (v := .slice (some ⟨b9, off9, none⟩) L.length lc) rfl (by kernel_rfl) (by kernel_rfl) (by kernel_rfl) (fun _ _ _ h => h) (Or.inl ⟨by rfl, ?_⟩) hHeld ?_
              · (intro w hSw; (try dsimp only at hSw); go_simp)
              try simp only [Act.put, List.setIfInBounds_toArray, List.set_cons_zero, List.set_cons_succ]
              refine wpAnyH_take (i := 12) (oi := { dst := some 80, op := Op.move (Operand.tmp 11), type := 3, pos := "law.go:150", after := #[], guard := none }) (v := .int .i64 (k : Int)) rfl (by kernel_rfl) (by kernel_rfl) (by kernel_rfl) (fun _ _ _ h => h) (Or.inl ⟨by rfl, ?_⟩) hHeld ?_
              · (intro w hSw; (try dsimp only at hSw); go_simp)
              try simp only [Act.put, List.setIfInBounds_toArray, List.set_cons_zero, List.set_cons_succ]
              refine wpAnyH_take (i := 13) (oi := { dst := some 81, op := Op.indexAddr 34 (Operand.tmp 79) (Operand.tmp 80), type := 0, pos := "law.go:150", after := #[{ on := 11, ground := Ground.data }, { on := 12, ground := Ground.data }], guard := none }) (v := .pointer (some ⟨b9, off9 + k * 2, none⟩)) rfl (by kernel_rfl) (by kernel_rfl) (by kernel_rfl) (fun _ _ _ h => h) (Or.inl ⟨by rfl, ?_⟩) hHeld ?_
              · (intro w hSw; (try dsimp only at hSw); go_simp)
              try simp only [Act.put, List.setIfInBounds_toArray, List.set_cons_zero, List.set_cons_succ]
              refine wpAnyH_take (i := 14) (oi := { dst := some 82, op := Op.fieldAddr 40 (Operand.tmp 81) 1, type := 0, pos := "law.go:150", after := #[{ on := 13, ground := Ground.data }], guard := none }) (v := .pointer (some ⟨b9, off9 + k * 2 + 1, none⟩)) rfl (by kernel_rfl) (by kernel_rfl) (by kernel_rfl) (fun _ _ _ h => h) (Or.inl ⟨by rfl, ?_⟩) hHeld ?_
              · (intro w hSw; (try dsimp only at hSw); go_simp)
              try simp only [Act.put, List.setIfInBounds_toArray, List.set_cons_zero, List.set_cons_succ]
              refine wpAnyH_take (i := 15) (oi := { dst := some 83, op := Op.load 3 (Operand.tmp 82), type := 3, pos := "law.go:150", after := #[{ on := 14, ground := Ground.data }], guard := none }) (v := .int .i64 y.2) rfl (by kernel_rfl) (by kernel_rfl) (by kernel_rfl) (fun _ _ _ h => h) (Or.inl ⟨by rfl, ?_⟩) hHeld ?_
              · (intro w hSw; (try dsimp only at hSw); go_simp)
              try simp only [Act.put, List.setIfInBounds_toArray, List.set_cons_zero, List.set_cons_succ]
              refine wpAnyH_take (i := 16) (oi := { dst := some 84, op := Op.build 47 #[(0, Operand.tmp 70), (1, Operand.tmp 71), (2, Operand.tmp 73), (3, Operand.tmp 78), (4, Operand.tmp 83), (5, Operand.const (Value.int IntKind.i64 (-5))), (9, Operand.const (Value.int IntKind.i64 2))], type := 47, pos := "law.go:150", after := #[{ on := 2, ground := Ground.data }, { on := 3, ground := Ground.data }, { on := 5, ground := Ground.data }, { on := 10, ground := Ground.data }, { on := 15, ground := Ground.data }], guard := none }) (v := .agg #[.int .i64 (1000 + (k : Int)), .int .i64 job, .int .i64 dd.ve, .int .i64 y.1, .int .i64 y.2, .int .i64 (-5), .int .i64 0, .int .i64 0, .int .i64 0, .bool false, .int .i64 2]) rfl (by kernel_rfl) (by kernel_rfl) (by kernel_rfl) (fun _ _ _ h => h) (Or.inl ⟨by rfl, ?_⟩) hHeld ?_
              · (intro w hSw; (try dsimp only at hSw); go_simp)
              try simp only [Act.put, List.setIfInBounds_toArray, List.set_cons_zero, List.set_cons_succ]
              refine wpAnyH_ready (rs := [17]) (by kernel_rfl) (by simp) ?_
              refine AllReadyH.cons (o := { dst := some 85, op := Op.buildSlice 24 1 #[(0, Operand.tmp 84)], type := 24, pos := "law.go:150", after := #[{ on := 16, ground := Ground.data }], guard := none }) rfl (fun K hK => ?_) AllReadyH.nil
              go_simp
              refine hK.out _ _ HA17.out (fun hHeld1 => ?_)
              clear hK K
              try simp only [Act.put, List.setIfInBounds_toArray, List.set_cons_zero, List.set_cons_succ]
              refine wpAnyH_ready (rs := [18]) (by kernel_rfl) (by simp) ?_
              refine AllReadyH.cons (o := { dst := some 86, op := Op.call { callee := Callee.builtin Builtin.append, args := #[Operand.tmp 68, Operand.tmp 85], argTypes := #[24, 24] }, type := 24, pos := "law.go:150", after := #[{ on := 0, ground := Ground.data }, { on := 17, ground := Ground.data }], guard := none }) rfl (fun K hK => ?_) AllReadyH.nil
              refine oper_app1 _ _ _ 24 rfl W4.heap.size 47 _ 11 88 Try.underlying24 info47 rfl (by decide) (.slice ka KA.length kc) KA.length (fl Al.cs KA) rfl HOW.out ⟨wr.heap.size, 0, none⟩ 1 (Al.cs (qA job dd.ve k y)) rfl rfl (newN wr.drew (Al.cs (qA job dd.ve k y)) 47) (Al.one _) HML.out HBY.out HBS.out ?_
              intro a' c' w8 ho hg
              have HO8 := hidOf ho
              have HG8 := hidOf hg
              have hkp : ∀ q, q < W4.heap.size → q < wr.heap.size → w8.heap[q]? = (wr.drew.alloc (.cells #[.int .i64 (1000 + (k : Int)), .int .i64 job, .int .i64 dd.ve, .int .i64 y.1, .int .i64 y.2, .int .i64 (-5), .int .i64 0, .int .i64 0, .int .i64 0, .bool false, .int .i64 2] 47)).heap[q]? := fun q h1 h2 => hg.block q (Nat.lt_of_lt_of_le h2 ((below1 wr.drew (.cells #[.int .i64 (1000 + (k : Int)), .int .i64 job, .int .i64 dd.ve, .int .i64 y.1, .int .i64 y.2, .int .i64 (-5), .int .i64 0, .int .i64 0, .int .i64 0, .bool false, .int .i64 2] 47)).size)) (fun e => by have := (HBK.out q e.symm).1; omega)
              have HS8 : Hid ((fun (wz : World) => wz.cell? ⟨B6, 5, none⟩ = some (.int .i64 dd.ve) ∧ wz.cell? ⟨b9, off9 + k * 2, none⟩ = some (.int .i64 y.1) ∧ wz.cell? ⟨b9, off9 + k * 2 + 1, none⟩ = some (.int .i64 y.2)) w8) := hidOf ⟨(World.cell?_of_block (hkp B6 l6 l6r)).trans HA17.out.1, (World.cell?_of_block (hkp b9 hQ9' l9)).trans HA17.out.2.1, (World.cell?_of_block (hkp b9 hQ9' l9)).trans HA17.out.2.2⟩
              clear ho hg hkp
              try simp only [Act.put, List.setIfInBounds_toArray, List.set_cons_zero, List.set_cons_succ]
              refine hK.out _ _ HS8.out (fun hHeld2 => ?_)
              clear hK K
              try simp only [Act.put, List.setIfInBounds_toArray, List.set_cons_zero, List.set_cons_succ]
              refine wpAnyH_take (i := 19) (oi := { dst := some 9, op := Op.assign (Operand.tmp 86), type := 24, pos := "law.go:150", after := #[{ on := 18, ground := Ground.data }, { on := 18, ground := Ground.chain }, { on := 0, ground := Ground.phase }, { on := 1, ground := Ground.phase }, { on := 2, ground := Ground.phase }, { on := 3, ground := Ground.phase }, { on := 4, ground := Ground.phase }, { on := 5, ground := Ground.phase }, { on := 6, ground := Ground.phase }, { on := 7, ground := Ground.phase }, { on := 8, ground := Ground.phase }, { on := 9, ground := Ground.phase }, { on := 10, ground := Ground.phase }, { on := 11, ground := Ground.phase }, { on := 12, ground := Ground.phase }, { on := 13, ground := Ground.phase }, { on := 14, ground := Ground.phase }, { on := 15, ground := Ground.phase }, { on := 16, ground := Ground.phase }, { on := 17, ground := Ground.phase }, { on := 18, ground := Ground.phase }], guard := none }) (v := .slice a' (KA.length + 1) c') rfl (by kernel_rfl) (by kernel_rfl) (by kernel_rfl) (fun _ _ _ h => h) (Or.inl ⟨by rfl, ?_⟩) hHeld2 ?_
              · (intro w hSw; (try dsimp only at hSw); go_simp)
              try simp only [Act.put, List.setIfInBounds_toArray, List.set_cons_zero, List.set_cons_succ]
              refine wpAnyH_done (by kernel_rfl) ?_ _
              go_wp2
              go_roundw
              case rel => exact ⟨k + 1, KA ++ [qA job dd.ve k y], a', c', by omega, by simp, by simp, hidOf (by rw [HQA.out, ← List.append_assoc, ← HK.out]), hidOf (by rw [fl_snoc, List.length_append]; exact HO8.out), hidOf ((HBr.out.trans (HB9.out.mono HBr.out.size)).grown HG8.out (by have h1 := HBr.out.size; have h2 := HB9.out.size; omega) (fun q e => (HBK.out q e).1))⟩
              case measure => simp [intOf]; omega
            · have hke : k = L.length := by omega
              subst hke
              obtain ⟨w9, hw9⟩ : ∃ x, x = wr := ⟨_, rfl⟩
              subst hw9
              have t4 : w9.cell? ⟨B8, 4, none⟩ = some (.slice b4 Ln.length e4) := (hb_cell HBr.out l8).trans (HTR.out 4 _ rfl)
              have t5 : w9.cell? ⟨B8, 5, none⟩ = some (.slice b5 A.length e5) := (hb_cell HBr.out l8).trans (HTR.out 5 _ rfl)
              have l8r : B8 < w9.heap.size := lt_of_cell t5
              have HT9 := hidOf ((HBr.out.block B8 l8).trans HT4.out)
              have f8 := frozen_of_row w9 B8 5 _ 29 HT9.out
              go_wp2
              go_loopw [12] (fun i wr => ∃ k : Nat, k ≤ Ln.length ∧ i = .int .i64 k ∧ Hid (∀ j (_ : j < k) (h2 : j < Ln.length), ¬ Ln[j].id = -5) ∧ wr = w9) (fun i _ => Ln.length - (intOf i).toNat)
              case atStart => exact ⟨0, Nat.zero_le _, rfl, hidOf (fun j h => absurd h (by omega)), rfl⟩
              case round =>
                obtain ⟨k, hk4, rfl, HNO, hwe⟩ := hrel
                subst hwe
                by_cases hlt4 : k < Ln.length
                · obtain ⟨b1, off1, ha1, hQ1, hc1⟩ := HN4.out.at k hlt4
                  have hQ1' : b1 < W4.heap.size := hQ1
                  obtain ⟨nd, hnd⟩ : ∃ nd, Ln[k] = nd := ⟨_, rfl⟩
                  rw [hnd] at hc1
                  subst ha1
                  have u0 : wr.cell? ⟨b1, off1 + k * 8, none⟩ = some (.int .i64 nd.id) := (hb_cell HBr.out hQ1').trans (hc1 0 _ rfl)
                  have l1 : b1 < wr.heap.size := lt_of_cell u0
                  have HNDE := hidOf hnd
                  clear hnd hc1 hQ1
                  by_cases h5 : nd.id = -5
                  · have h5b : (nd.id == -5) = true := by simp [h5]
                    clear h5
                    go_wp2_with (go_at_call 12; refine (lives_any _).mono ?_; rintro e wl ⟨rfl, hbl⟩; have HBL := hidOf hbl; clear hbl)
                    go_ret
                    exact ⟨rfl, (HWW.out.trans (HBr.out.mono HWW.out.size)).trans (HBL.out.mono (by have := HWW.out.size; have := HBr.out.size; omega))⟩
                  · have h5b : (nd.id == -5) = false := by simp [h5]
                    have H5 := hidOf h5
                    clear h5
                    go_wp2
                    go_roundw
                    case rel => exact ⟨k + 1, by omega, by simp, hidOf (fun j hj h2 => by by_cases e : j = k; (subst e; rw [HNDE.out]; exact H5.out); exact HNO.out j (by omega) h2), trivial⟩
                    case measure => simp [intOf]; omega
                · have hke : k = Ln.length := by omega
                  subst hke
                  have hno : ∀ x ∈ Ln, ¬ x.id = -5 := fun x hx => by
                    obtain ⟨j, hj, rfl⟩ := List.getElem_of_mem hx
                    exact HNO.out j hj hj
                  have hnj : ¬ dfI Lj job < 0 := by rw [HFI.out]; omega
                  obtain ⟨hq1, hq2⟩ := quiet A hnj hno
                  rw [HDJ.out, HL.out, ← HKZ.out, ← HK.out] at hq1 hq2
                  obtain ⟨w10, hw10⟩ : ∃ w10, wr.setCell ⟨B8, 5, none⟩ (.slice ka KA.length kc) = w10 := ⟨_, rfl⟩
                  have hkeep : ∀ q, q < w4.heap.size → w10.heap[q]? = w4.heap[q]? := fun q hq => by
                    rw [← hw10]
                    exact (heap_setCell_other wr ⟨B8, 5, none⟩ q _ (show q ≠ B8 by omega)).trans ((HBr.out.block q (by have := HBW.out.size; omega)).trans (HBW.out.block q hq))
                  have hz10 : w10.heap.size = wr.heap.size := by rw [← hw10]; simp
                  have hz4 : w4.heap.size ≤ w10.heap.size := by have := HBW.out.size; have := HBr.out.size; omega
                  have HA10 : Hid (w10.ownsRow W4.heap.size 47 11 (.slice ka KA.length kc) KA.length (fl Al.cs KA)) := hidOf (own_kept HOW0.out (fun q h1 hq => by rw [← hw10]; exact heap_setCell_other wr ⟨B8, 5, none⟩ q _ (show q ≠ B8 by omega)))
                  have HD := hidOf (diff_any ⟨ix2, nx2, b2, J2.length, e2, b3, m3, e3, b4, Ln.length, e4, ka, KA.length, kc, b6, m6, e6, b7, m7, e7, b8, m8, e8⟩ job J2 Lj Ln KA w10 rfl rfl rfl (HJ40.out.kept hkeep (fun q hq => Nat.lt_of_lt_of_le hq hz4)) (HN40.out.kept hkeep (fun q hq => Nat.lt_of_lt_of_le hq hz4)) ((own_fl (y := 88) Al.len HA10.out (by omega)).kept (fun _ _ => rfl) (fun q hq => hq.lt)) (fun x hx => sl_ok (hbg x hx) hbn))
                  rw [hq1, hq2] at HD
                  have HT10 : Hid (w10.rangeAt B8 0 [.int .i64 ix2, .int .i64 nx2, .slice b2 J2.length e2, .slice b3 m3 e3, .slice b4 Ln.length e4, .slice ka KA.length kc, .slice b6 m6 e6, .slice b7 m7 e7, .slice b8 m8 e8]) := hidOf (by
                    have h1 := heap_setCell_same wr B8 5 _ 29 (.slice ka KA.length kc) HT9.out
                    rw [hw10] at h1
                    simp only [List.setIfInBounds_toArray, List.set_cons_zero, List.set_cons_succ] at h1
                    exact row_range h1 (fun j v h => by simpa using h))
                  have HW10 : Hid (Below w.heap.size w w10) := hidOf (by rw [← hw10]; exact (HWW.out.trans (HBr.out.mono HWW.out.size)).setCell (p := ⟨B8, 5, none⟩) (by show w.heap.size ≤ B8; have := HW3.out.size; omega) _)
                  have HE10 := hidOf hw10
                  clear hq1 hq2 hno hnj hw10 hkeep
                  go_upto_region 23 with (fail)
                  rw [HE10.out]
                  clear HE10 t4 t5 f8
                  have t0 : w10.cell? ⟨B8, 0, none⟩ = some (.int .i64 ix2) := HT10.out 0 _ rfl
                  have t1 : w10.cell? ⟨B8, 1, none⟩ = some (.int .i64 nx2) := HT10.out 1 _ rfl
                  have t2 : w10.cell? ⟨B8, 2, none⟩ = some (.slice b2 J2.length e2) := HT10.out 2 _ rfl
                  have t3 : w10.cell? ⟨B8, 3, none⟩ = some (.slice b3 m3 e3) := HT10.out 3 _ rfl
                  have t4 : w10.cell? ⟨B8, 4, none⟩ = some (.slice b4 Ln.length e4) := HT10.out 4 _ rfl
                  have t5 : w10.cell? ⟨B8, 5, none⟩ = some (.slice ka KA.length kc) := HT10.out 5 _ rfl
                  have t6 : w10.cell? ⟨B8, 6, none⟩ = some (.slice b6 m6 e6) := HT10.out 6 _ rfl
                  have t7 : w10.cell? ⟨B8, 7, none⟩ = some (.slice b7 m7 e7) := HT10.out 7 _ rfl
                  have t8 : w10.cell? ⟨B8, 8, none⟩ = some (.slice b8 m8 e8) := HT10.out 8 _ rfl
                  have l10 : B8 < w10.heap.size := lt_of_cell t0
                  go_wp2_with (first | (go_at_call 9; refine HD.out.mono ?_; rintro e w11 ⟨sa, sc, fa, fc, rfl, _, _, hb11⟩; have HB11 := hidOf hb11; clear hb11) | (go_at_call 12; refine (lives_any _).mono ?_; rintro e wl ⟨rfl, hbl⟩; have HBL := hidOf hbl; clear hbl))
                  go_ret
                  exact ⟨rfl, (HW10.out.trans (HB11.out.mono HW10.out.size)).trans (HBL.out.mono (by have := HW10.out.size; have := HB11.out.size; omega))⟩
end Go.Proofs.Ytaaodmagchpnbaa
