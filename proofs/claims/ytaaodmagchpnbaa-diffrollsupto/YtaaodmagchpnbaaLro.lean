/- A change rolls. -/
import Derived.Test.YtaaodmagchpnbaaZn
import Derived.Test.YtaaodmagchpnbaaLst
namespace Go.Proofs.Ytaaodmagchpnbaa
open Go.RowKit Go.Shelf
set_option maxRecDepth 100000 in
set_option maxHeartbeats 8000000 in
theorem walkRolls (s : Sc) (J B : List Js) (X : List Ss) (d : St) (job : Int) (w : World) (hS : StR w (fun b => b < w.heap.size) s J B X d) (hbb : StB 1048576 d) :
    Calls Try.prog 5 #[.agg #[.int .i64 s.ix, .int .i64 s.nx, .slice s.a2 s.n2 s.c2, .slice s.a3 s.n3 s.c3, .slice s.a4 s.n4 s.c4, .slice s.a5 s.n5 s.c5, .slice s.a6 s.n6 s.c6, .slice s.a7 s.n7 s.c7, .slice s.a8 s.n8 s.c8], .int .i64 job] w fun e w' => e = .returned (.bool true) ∧ Below w.heap.size w w' := by
  have HCP := hidOf (fun (W : World) (hW : Below w.heap.size w W) => refCopy_any s J B X d W (hS.kept (fun b hb => hW.block b hb) (fun b hb => Nat.lt_of_lt_of_le hb hW.size)))
  have HJ := hidOf hS.j
  have HN := hidOf hS.f.f4
  have HAL0 := hidOf hS.f.f5
  obtain ⟨f2, f4, f5⟩ : s.n2 = J.length ∧ s.n4 = d.nodes.length ∧ s.n5 = d.allocs.length := ⟨hS.f.n2, hS.f.n4, hS.f.n5⟩
  obtain ⟨hbn, hba, hbg⟩ := hbb
  clear hS
  obtain ⟨ix, nx, a2, n2, c2, a3, n3, c3, a4, n4, c4, a5, n5, c5, a6, n6, c6, a7, n7, c7, a8, n8, c8⟩ := s
  simp only at f2 f4 f5 HJ HN HCP HAL0
  subst f2
  subst f4
  subst f5
  have hB0 := below1 w (.cells #[.int .i64 ix, .int .i64 nx, .slice a2 J.length c2, .slice a3 n3 c3, .slice a4 d.nodes.length c4, .slice a5 d.allocs.length c5, .slice a6 n6 c6, .slice a7 n7 c7, .slice a8 n8 c8] 29)
  have HBX := hidOf (box_new (wr := w) (cs := [.int .i64 ix, .int .i64 nx, .slice a2 J.length c2, .slice a3 n3 c3, .slice a4 d.nodes.length c4, .slice a5 d.allocs.length c5, .slice a6 n6 c6, .slice a7 n7 c7, .slice a8 n8 c8]) (t := 29) (Below.refl _ _))
  have HND := hidOf (job_ref ⟨ix, nx, a2, J.length, c2, a3, n3, c3, a4, d.nodes.length, c4, a5, d.allocs.length, c5, a6, n6, c6, a7, n7, c7, a8, n8, c8⟩ job J (w.alloc (.cells #[.int .i64 ix, .int .i64 nx, .slice a2 J.length c2, .slice a3 n3 c3, .slice a4 d.nodes.length c4, .slice a5 d.allocs.length c5, .slice a6 n6 c6, .slice a7 n7 c7, .slice a8 n8 c8] 29)) rfl (HJ.out.row.kept (fun b hb => hB0.block b hb) (fun b hb => Nat.lt_of_lt_of_le hb hB0.size)))
  rw [HJ.out.fi job] at HND
  have HB0 := hidOf hB0
  have hrng := fi_rng (fun x : Jb => isI x.id job) d.jobs
  have hbj := HJ.out.row.bd
  clear hB0
  rcases hrng with hv | ⟨m, hv, hm⟩
  · rw [hv] at HND
    clear hv
    go_enter Try.func5, Try.ntmps5
    go_wp2_with (first | (go_at_call 14; refine HND.out.mono ?_; rintro e w1 ⟨rfl, hb1⟩; have HB1 := hidOf (HB0.out.trans (hb1.mono HB0.out.size)); clear hb1) | (go_at_call 12; refine (lives_any _).mono ?_; rintro e wl ⟨rfl, hbl⟩; have HBL := hidOf hbl; clear hbl))
    go_ret
    exact ⟨rfl, HB1.out.trans (HBL.out.mono HB1.out.size)⟩
  · have HFI : Hid (dfI d.jobs job = (m : Int)) := hidOf hv
    rw [hv] at HND
    clear hv
    have hmJ : m < J.length := by rw [HJ.out.len]; exact hm
    obtain ⟨ga, gc, heq, hG⟩ := HJ.out.dp m hmJ hm
    obtain ⟨b, off, ha, hQb, hcc⟩ := HJ.out.row.at m hmJ
    rw [heq] at hcc
    have hdj : dfJ d.jobs job = d.jobs[m] := by unfold dfJ; rw [HFI.out, Int.toNat_natCast, getD_at _ m hm]
    have hgl := hbg d.jobs[m] (List.getElem_mem hm)
    obtain ⟨dd, hdd⟩ : ∃ dd, d.jobs[m] = dd := ⟨_, rfl⟩
    rw [hdd] at hcc hG hdj hgl
    have hbw : b < w.heap.size := hQb
    have HDJ := hidOf hdj
    have HID : Hid (dd.id = job) := hidOf (by rw [← hdj]; exact (dfJ_id (by rw [HFI.out]; omega)).1)
    have HG := hidOf hG
    have HCC := hidOf hcc
    clear heq hG hcc hQb hdd hdj
    subst ha
    generalize hLn : d.nodes = Ln at *
    generalize hAn : d.allocs = A at *
    generalize hLjn : d.jobs = Lj at *
    have HLn := hidOf hLn
    have HAn := hidOf hAn
    have HLjn := hidOf hLjn
    clear hLn hAn hLjn
    have hk0 : ¬ ((m : Int) < 0) := by omega
    have hk1 : (m : Int) < (J.length : Int) := by omega
    have hk2 : decide ((m : Int) < 0) = false := by simp
    go_enter Try.func5, Try.ntmps5
    go_upto_region 2 with (go_at_call 14; refine HND.out.mono ?_; rintro e w1 ⟨rfl, hb1⟩; have HB1 := hidOf (HB0.out.trans (hb1.mono HB0.out.size)); have HX1 := hidOf (range_of HBX.out (hb1.block w.heap.size (by simp))); clear hb1)
    obtain ⟨B2, hB2⟩ : ∃ B2, w.heap.size = B2 := ⟨_, rfl⟩
    have HX : Hid (w1.rangeAt B2 0 [.int .i64 ix, .int .i64 nx, .slice (some ⟨b, off, none⟩) J.length c2, .slice a3 n3 c3, .slice a4 Ln.length c4, .slice a5 A.length c5, .slice a6 n6 c6, .slice a7 n7 c7, .slice a8 n8 c8]) := hidOf (by rw [← hB2]; exact HX1.out)
    rw [hB2]
    have HBB2 := hidOf hB2
    clear hB2 HX1 HND HBX
    have q0 : w1.cell? ⟨B2, 0, none⟩ = some (.int .i64 ix) := HX.out 0 _ rfl
    have q1 : w1.cell? ⟨B2, 1, none⟩ = some (.int .i64 nx) := HX.out 1 _ rfl
    have q2 : w1.cell? ⟨B2, 2, none⟩ = some (.slice (some ⟨b, off, none⟩) J.length c2) := HX.out 2 _ rfl
    have q3 : w1.cell? ⟨B2, 3, none⟩ = some (.slice a3 n3 c3) := HX.out 3 _ rfl
    have q4 : w1.cell? ⟨B2, 4, none⟩ = some (.slice a4 Ln.length c4) := HX.out 4 _ rfl
    have q5 : w1.cell? ⟨B2, 5, none⟩ = some (.slice a5 A.length c5) := HX.out 5 _ rfl
    have q6 : w1.cell? ⟨B2, 6, none⟩ = some (.slice a6 n6 c6) := HX.out 6 _ rfl
    have q7 : w1.cell? ⟨B2, 7, none⟩ = some (.slice a7 n7 c7) := HX.out 7 _ rfl
    have q8 : w1.cell? ⟨B2, 8, none⟩ = some (.slice a8 n8 c8) := HX.out 8 _ rfl
    have lq : B2 < w1.heap.size := lt_of_cell q0
    have hcr := range_of HCC.out (HB1.out.block b hbw)
    have lb1 : b < w1.heap.size := Nat.lt_of_lt_of_le hbw HB1.out.size
    have j0 : w1.cell? ⟨b, off + m * 7, none⟩ = some (.int .i64 dd.id) := hcr 0 _ rfl
    have j1 : w1.cell? ⟨b, off + m * 7 + 1, none⟩ = some (.int .i64 dd.ty) := hcr 1 _ rfl
    have j2 : w1.cell? ⟨b, off + m * 7 + 2, none⟩ = some (.int .i64 dd.pr) := hcr 2 _ rfl
    have j3 : w1.cell? ⟨b, off + m * 7 + 3, none⟩ = some (.int .i64 dd.pa) := hcr 3 _ rfl
    have j4 : w1.cell? ⟨b, off + m * 7 + 4, none⟩ = some (.slice ga dd.gs.length gc) := hcr 4 _ rfl
    have j5 : w1.cell? ⟨b, off + m * 7 + 5, none⟩ = some (.int .i64 dd.ve) := hcr 5 _ rfl
    have j6 : w1.cell? ⟨b, off + m * 7 + 6, none⟩ = some (.bool dd.sd) := hcr 6 _ rfl
    clear hcr
    by_cases hty : dd.ty = 1
    · have hq : (dd.ty != 1) = false := by simp [hty]
      have HTY := hidOf hty
      clear hty
      go_upto_region 4 with (fail)
      have HSL := hidOf (sl_ok (Ln := Ln) hgl hbn)
      obtain ⟨B6, hB6⟩ : ∃ B6, w1.heap.size = B6 := ⟨_, rfl⟩
      obtain ⟨w2, hw2⟩ : ∃ w2, w1.alloc (.cells #[.int .i64 dd.id, .int .i64 dd.ty, .int .i64 dd.pr, .int .i64 dd.pa, .slice ga dd.gs.length gc, .int .i64 dd.ve, .bool dd.sd] 51) = w2 := ⟨_, rfl⟩
      have HB2 : Hid (Below w1.heap.size w1 w2) := hidOf (by rw [← hw2]; exact below1 _ _)
      have HJB : Hid (w2.rangeAt B6 0 [.int .i64 dd.id, .int .i64 dd.ty, .int .i64 dd.pr, .int .i64 dd.pa, .slice ga dd.gs.length gc, .int .i64 dd.ve, .bool dd.sd]) := hidOf (by rw [← hw2, ← hB6]; exact box_new (wr := w1) (cs := [.int .i64 dd.id, .int .i64 dd.ty, .int .i64 dd.pr, .int .i64 dd.pa, .slice ga dd.gs.length gc, .int .i64 dd.ve, .bool dd.sd]) (t := 51) (Below.refl _ _))
      have HW2 := hidOf (HB1.out.trans (HB2.out.mono HB1.out.size))
      have HRS := hidOf (refSlots_any ⟨ix, nx, some ⟨b, off, none⟩, J.length, c2, a3, n3, c3, a4, Ln.length, c4, a5, A.length, c5, a6, n6, c6, a7, n7, c7, a8, n8, c8⟩ dd ga gc Ln w2 (HN.out.kept (fun k hk => HW2.out.block k hk) (fun k hk => Nat.lt_of_lt_of_le hk HW2.out.size)) (HG.out.kept (fun k hk => HW2.out.block k hk) (fun k hk => Nat.lt_of_lt_of_le hk HW2.out.size)) HSL.out)
      have HE2 := hidOf hw2
      have HE6 := hidOf hB6
      clear hw2 hB6
      go_upto_region 5 with (fail)
      rw [HE2.out, HE6.out]
      clear HE2 HE6 j0 j1 j2 j3 j4 j5 j6
      have r0 : w2.cell? ⟨B2, 0, none⟩ = some (.int .i64 ix) := (hb_cell HB2.out lq).trans q0
      have r1 : w2.cell? ⟨B2, 1, none⟩ = some (.int .i64 nx) := (hb_cell HB2.out lq).trans q1
      have r2 : w2.cell? ⟨B2, 2, none⟩ = some (.slice (some ⟨b, off, none⟩) J.length c2) := (hb_cell HB2.out lq).trans q2
      have r3 : w2.cell? ⟨B2, 3, none⟩ = some (.slice a3 n3 c3) := (hb_cell HB2.out lq).trans q3
      have r4 : w2.cell? ⟨B2, 4, none⟩ = some (.slice a4 Ln.length c4) := (hb_cell HB2.out lq).trans q4
      have r5 : w2.cell? ⟨B2, 5, none⟩ = some (.slice a5 A.length c5) := (hb_cell HB2.out lq).trans q5
      have r6 : w2.cell? ⟨B2, 6, none⟩ = some (.slice a6 n6 c6) := (hb_cell HB2.out lq).trans q6
      have r7 : w2.cell? ⟨B2, 7, none⟩ = some (.slice a7 n7 c7) := (hb_cell HB2.out lq).trans q7
      have r8 : w2.cell? ⟨B2, 8, none⟩ = some (.slice a8 n8 c8) := (hb_cell HB2.out lq).trans q8
      have j0 : w2.cell? ⟨B6, 0, none⟩ = some (.int .i64 dd.id) := HJB.out 0 _ rfl
      have j1 : w2.cell? ⟨B6, 1, none⟩ = some (.int .i64 dd.ty) := HJB.out 1 _ rfl
      have j2 : w2.cell? ⟨B6, 2, none⟩ = some (.int .i64 dd.pr) := HJB.out 2 _ rfl
      have j3 : w2.cell? ⟨B6, 3, none⟩ = some (.int .i64 dd.pa) := HJB.out 3 _ rfl
      have j4 : w2.cell? ⟨B6, 4, none⟩ = some (.slice ga dd.gs.length gc) := HJB.out 4 _ rfl
      have j5 : w2.cell? ⟨B6, 5, none⟩ = some (.int .i64 dd.ve) := HJB.out 5 _ rfl
      have j6 : w2.cell? ⟨B6, 6, none⟩ = some (.bool dd.sd) := HJB.out 6 _ rfl
      have lr : B2 < w2.heap.size := lt_of_cell r0
      have lj : B6 < w2.heap.size := lt_of_cell j0
      clear q0 q1 q2 q3 q4 q5 q6 q7 q8
      obtain ⟨L, hL⟩ : ∃ L, slV dd Ln = L := ⟨_, rfl⟩
      rw [hL] at HRS
      have HL := hidOf hL
      have HLB : Hid (L.length * 16 ≤ 140737488355328) := hidOf (by rw [← hL]; exact HSL.out)
      clear hL
      go_upto_region 6 with (go_at_call 15; refine HRS.out.mono ?_; rintro e w3 ⟨la, lc, rfl, ho3, hb3⟩; have HO3 := hidOf ho3; have HB3 := hidOf hb3; clear ho3 hb3)
      have HW3 := hidOf (HW2.out.trans (HB3.out.mono HW2.out.size))
      have HT3 := hidOf (range_of (range_of HX.out (HB2.out.block B2 lq)) (HB3.out.block B2 lr))
      have HJ3 := hidOf (range_of HJB.out (HB3.out.block B6 lj))
      have HLF := hidOf ((own_fl (y := 16) sC_len HO3.out HLB.out).kept (w' := w3) (S' := fun k => k < w3.heap.size) (fun _ _ => rfl) (fun k hk => hk.lt))
      have HA3 := hidOf (HAL0.out.kept (w' := w3) (S' := fun k => k < w3.heap.size) (fun k hk => HW3.out.block k hk) (fun k hk => Nat.lt_of_lt_of_le hk HW3.out.size))
      have HN3 := hidOf (HN.out.kept (w' := w3) (S' := fun k => k < w3.heap.size) (fun k hk => HW3.out.block k hk) (fun k hk => Nat.lt_of_lt_of_le hk HW3.out.size))
      have hbA := HA3.out.bd
      have hbL := HLB.out
      have l23 : B2 < w3.heap.size := lt_of_cell (HT3.out 0 _ rfl)
      have l63 : B6 < w3.heap.size := lt_of_cell (HJ3.out 0 _ rfl)
      clear r0 r1 r2 r3 r4 r5 r6 r7 r8 j0 j1 j2 j3 j4 j5 j6 lr lj HRS HO3
      go_wp2
      go_loopw [8] (fun i wr => ∃ k : Nat, k ≤ A.length ∧ i = .int .i64 k ∧ Hid (RoP dd Ln L A k) ∧ Hid (Below w3.heap.size w3 wr)) (fun i _ => A.length - (intOf i).toNat)
      case atStart => exact ⟨0, Nat.zero_le _, rfl, hidOf ⟨fun i _ h => absurd h (by omega)⟩, hidOf (Below.refl _ _)⟩
      case round =>
        obtain ⟨k, hk, rfl, HRP, HBr⟩ := hrel
        obtain ⟨wq, hwq⟩ : ∃ x, x = wr := ⟨_, rfl⟩
        subst hwq
        have t5 : wq.cell? ⟨B2, 5, none⟩ = some (.slice a5 A.length c5) := (hb_cell HBr.out l23).trans (HT3.out 5 _ rfl)
        have l2 : B2 < wq.heap.size := lt_of_cell t5
        by_cases hlt : k < A.length
        · obtain ⟨b1, off1, ha, hQb, hcc⟩ := HA3.out.at k hlt
          have hQb' : b1 < w3.heap.size := hQb
          obtain ⟨x, hx⟩ : ∃ x, A[k] = x := ⟨_, rfl⟩
          rw [hx] at hcc
          have HXE := hidOf hx
          clear hx
          have hcr := range_of hcc (HBr.out.block b1 hQb')
          have hbl : b1 < wq.heap.size := Nat.lt_of_lt_of_le hQb' HBr.out.size
          rw [ha] at t5
          clear ha
          have c0x : wq.cell? ⟨b1, off1 + k * 11, none⟩ = some (.int .i64 x.id) := hcr 0 _ rfl
          have c1x : wq.cell? ⟨b1, off1 + k * 11 + 1, none⟩ = some (.int .i64 x.jb) := hcr 1 _ rfl
          have c2x : wq.cell? ⟨b1, off1 + k * 11 + 2, none⟩ = some (.int .i64 x.ve) := hcr 2 _ rfl
          have c3x : wq.cell? ⟨b1, off1 + k * 11 + 3, none⟩ = some (.int .i64 x.gr) := hcr 3 _ rfl
          have c4x : wq.cell? ⟨b1, off1 + k * 11 + 4, none⟩ = some (.int .i64 x.ix) := hcr 4 _ rfl
          have c5x : wq.cell? ⟨b1, off1 + k * 11 + 5, none⟩ = some (.int .i64 x.nd) := hcr 5 _ rfl
          have c6x : wq.cell? ⟨b1, off1 + k * 11 + 6, none⟩ = some (.int .i64 x.ep) := hcr 6 _ rfl
          have c7x : wq.cell? ⟨b1, off1 + k * 11 + 7, none⟩ = some (.int .i64 x.c) := hcr 7 _ rfl
          have c8x : wq.cell? ⟨b1, off1 + k * 11 + 8, none⟩ = some (.int .i64 x.m) := hcr 8 _ rfl
          have c9x : wq.cell? ⟨b1, off1 + k * 11 + 9, none⟩ = some (.bool x.sp) := hcr 9 _ rfl
          have c10x : wq.cell? ⟨b1, off1 + k * 11 + 10, none⟩ = some (.int .i64 x.st) := hcr 10 _ rfl
          clear hcc hcr hQb
          have HXB := hidOf (box_new (wr := wq) (cs := Al.cs x) (t := 47) (Below.refl _ _))
          go_upto_region 10 with (fail)
          clear c0x c1x c2x c3x c4x c5x c6x c7x c8x c9x c10x t5 l2
          obtain ⟨wA, hwA⟩ : ∃ wA, wq.alloc (.cells #[.int .i64 x.id, .int .i64 x.jb, .int .i64 x.ve, .int .i64 x.gr, .int .i64 x.ix, .int .i64 x.nd, .int .i64 x.ep, .int .i64 x.c, .int .i64 x.m, .bool x.sp, .int .i64 x.st] 47) = wA := ⟨_, rfl⟩
          have HZA : Hid (Below wq.heap.size wq wA) := hidOf (by rw [← hwA]; exact below1 _ _)
          obtain ⟨B9, hB9⟩ : ∃ B9, wq.heap.size = B9 := ⟨_, rfl⟩
          have HXA0 : Hid (wA.rangeAt B9 0 (Al.cs x)) := hidOf (by rw [← hwA, ← hB9]; exact HXB.out)
          rw [hwA, hB9]
          clear hwA hB9 HXB
          have g1 : wA.cell? ⟨B9, 1, none⟩ = some (.int .i64 x.jb) := HXA0.out 1 _ rfl
          have g10 : wA.cell? ⟨B9, 10, none⟩ = some (.int .i64 x.st) := HXA0.out 10 _ rfl
          have l9A : B9 < wA.heap.size := lt_of_cell g1
          have HB3A := hidOf (HBr.out.trans (HZA.out.mono HBr.out.size))
          have HWA := hidOf (HW3.out.trans (HB3A.out.mono HW3.out.size))
          by_cases hj : x.jb = job
          · have hjb : (x.jb != job) = false := by simp [hj]
            have HJJ := hidOf hj
            clear hj
            by_cases ho : 3 ≤ x.st
            · have hob : decide (3 ≤ x.st) = true := by simp [ho]
              have HOO := hidOf ho
              clear ho
              go_wp2
              go_roundw
              case rel => exact ⟨k + 1, by omega, by simp, hidOf (HRP.out.more x hlt HXE.out (fun h1 h2 => absurd HOO.out (by omega))), hidOf (HBr.out.trans (HZA.out.mono HBr.out.size))⟩
              case measure => simp [intOf]; omega
            · have hob : decide (3 ≤ x.st) = false := by simp [ho]
              clear ho
              go_wp2
              clear g1 g10
              go_loopw [10, 11] (fun f i wr => ∃ k2 : Nat, k2 ≤ L.length ∧ i = .int .i64 k2 ∧ f = .bool (decide ((x.gr, x.ix) ∈ L.take k2)) ∧ Hid (Below wA.heap.size wA wr)) (fun _ i _ => L.length - (intOf i).toNat)
              case atStart => exact ⟨0, Nat.zero_le _, rfl, by simp, hidOf (Below.refl _ _)⟩
              case round =>
                obtain ⟨k2, hk2, rfl, rfl, HZ⟩ := hrel
                by_cases hl2 : k2 < L.length
                · obtain ⟨b7, off7, ha7, hQ7, hc7⟩ := HLF.out.at k2 hl2
                  have hQ7' : b7 < w3.heap.size := hQ7
                  have HTM := hidOf (take_memP hl2 (x.gr, x.ix))
                  obtain ⟨y, hy⟩ : ∃ y, L[k2] = y := ⟨_, rfl⟩
                  rw [hy] at hc7 HTM
                  clear hy
                  have HB3Z := hidOf (HB3A.out.trans (HZ.out.mono HB3A.out.size))
                  have ky1 : wr.cell? ⟨b7, off7 + k2 * 2, none⟩ = some (.int .i64 y.1) := (hb_cell HB3Z.out hQ7').trans (hc7 0 _ rfl)
                  have ky2 : wr.cell? ⟨b7, off7 + k2 * 2 + 1, none⟩ = some (.int .i64 y.2) := (hb_cell HB3Z.out hQ7').trans (hc7 1 _ rfl)
                  have l7 : b7 < wr.heap.size := lt_of_cell ky1
                  have k3 : wr.cell? ⟨B9, 3, none⟩ = some (.int .i64 x.gr) := (hb_cell HZ.out l9A).trans (HXA0.out 3 _ rfl)
                  have k4 : wr.cell? ⟨B9, 4, none⟩ = some (.int .i64 x.ix) := (hb_cell HZ.out l9A).trans (HXA0.out 4 _ rfl)
                  have l9r : B9 < wr.heap.size := lt_of_cell k3
                  have hi0 : ¬ ((k2 : Int) < 0) := by omega
                  have hi1 : (k2 : Int) < (L.length : Int) := by omega
                  clear hc7 hQ7
                  subst ha7
                  go_upto_region 15 with (fail)
                  cases hf : decide ((x.gr, x.ix) ∈ L.take k2) with
                  | true =>
                    rw [hf] at HTM
                    refine wp_region_held_drew (S := fun (_Y : World) => True) (by kernel_rfl) trivial (fun hHeld => ?_)
                    refine wpAnyH_take (i := 0) (oi := { dst := some 70, op := Op.move (Operand.tmp 10), type := 4, pos := "law.go:113", after := #[], guard := none }) (v := .bool true) rfl (by kernel_rfl) (by kernel_rfl) (by kernel_rfl) (fun _ _ _ h => h) (Or.inl ⟨by rfl, ?_⟩) hHeld ?_
                    · (intro w hSw; (try dsimp only at hSw); go_simp)
                    try simp only [Act.put, List.setIfInBounds_toArray, List.set_cons_zero, List.set_cons_succ]
                    refine wpAnyH_take (i := 1) (oi := { dst := some 71, op := Op.move (Operand.tmp 70), type := 4, pos := "law.go:113", after := #[{ on := 0, ground := Ground.data }], guard := none }) (v := .bool true) rfl (by kernel_rfl) (by kernel_rfl) (by kernel_rfl) (fun _ _ _ h => h) (Or.inl ⟨by rfl, ?_⟩) hHeld ?_
                    · (intro w hSw; (try dsimp only at hSw); go_simp)
                    try simp only [Act.put, List.setIfInBounds_toArray, List.set_cons_zero, List.set_cons_succ]
                    refine wpAnyH_take (i := 2) (oi := { dst := some 72, op := Op.move (Operand.tmp 7), type := 34, pos := "law.go:113", after := #[{ on := 1, ground := Ground.guard }], guard := some (1, false) }) (v := undef) rfl (by kernel_rfl) (by kernel_rfl) (by kernel_rfl) (fun _ _ _ h => h) (Or.inr ⟨by rfl, rfl⟩) hHeld ?_
                    try simp only [Act.put, List.setIfInBounds_toArray, List.set_cons_zero, List.set_cons_succ]
                    refine wpAnyH_take (i := 3) (oi := { dst := some 73, op := Op.move (Operand.tmp 11), type := 3, pos := "law.go:113", after := #[{ on := 1, ground := Ground.guard }], guard := some (1, false) }) (v := undef) rfl (by kernel_rfl) (by kernel_rfl) (by kernel_rfl) (fun _ _ _ h => h) (Or.inr ⟨by rfl, rfl⟩) hHeld ?_
                    try simp only [Act.put, List.setIfInBounds_toArray, List.set_cons_zero, List.set_cons_succ]
                    refine wpAnyH_take (i := 4) (oi := { dst := some 74, op := Op.indexAddr 34 (Operand.tmp 72) (Operand.tmp 73), type := 0, pos := "law.go:113", after := #[{ on := 2, ground := Ground.data }, { on := 3, ground := Ground.data }, { on := 1, ground := Ground.guard }], guard := some (1, false) }) (v := undef) rfl (by kernel_rfl) (by kernel_rfl) (by kernel_rfl) (fun _ _ _ h => h) (Or.inr ⟨by rfl, rfl⟩) hHeld ?_
                    try simp only [Act.put, List.setIfInBounds_toArray, List.set_cons_zero, List.set_cons_succ]
                    refine wpAnyH_take (i := 5) (oi := { dst := some 75, op := Op.fieldAddr 40 (Operand.tmp 74) 0, type := 0, pos := "law.go:113", after := #[{ on := 4, ground := Ground.data }, { on := 1, ground := Ground.guard }], guard := some (1, false) }) (v := undef) rfl (by kernel_rfl) (by kernel_rfl) (by kernel_rfl) (fun _ _ _ h => h) (Or.inr ⟨by rfl, rfl⟩) hHeld ?_
                    try simp only [Act.put, List.setIfInBounds_toArray, List.set_cons_zero, List.set_cons_succ]
                    refine wpAnyH_take (i := 6) (oi := { dst := some 76, op := Op.load 3 (Operand.tmp 75), type := 3, pos := "law.go:113", after := #[{ on := 5, ground := Ground.data }, { on := 1, ground := Ground.guard }], guard := some (1, false) }) (v := undef) rfl (by kernel_rfl) (by kernel_rfl) (by kernel_rfl) (fun _ _ _ h => h) (Or.inr ⟨by rfl, rfl⟩) hHeld ?_
                    try simp only [Act.put, List.setIfInBounds_toArray, List.set_cons_zero, List.set_cons_succ]
                    refine wpAnyH_take (i := 7) (oi := { dst := some 77, op := Op.fieldAddr 47 (Operand.tmp 9) 3, type := 0, pos := "law.go:113", after := #[{ on := 1, ground := Ground.guard }], guard := some (1, false) }) (v := undef) rfl (by kernel_rfl) (by kernel_rfl) (by kernel_rfl) (fun _ _ _ h => h) (Or.inr ⟨by rfl, rfl⟩) hHeld ?_
                    try simp only [Act.put, List.setIfInBounds_toArray, List.set_cons_zero, List.set_cons_succ]
                    refine wpAnyH_take (i := 8) (oi := { dst := some 78, op := Op.load 3 (Operand.tmp 77), type := 3, pos := "law.go:113", after := #[{ on := 7, ground := Ground.data }, { on := 1, ground := Ground.guard }], guard := some (1, false) }) (v := undef) rfl (by kernel_rfl) (by kernel_rfl) (by kernel_rfl) (fun _ _ _ h => h) (Or.inr ⟨by rfl, rfl⟩) hHeld ?_
                    try simp only [Act.put, List.setIfInBounds_toArray, List.set_cons_zero, List.set_cons_succ]
                    refine wpAnyH_take (i := 9) (oi := { dst := some 79, op := Op.binOp BinOp.eql 3 (Operand.tmp 76) (Operand.tmp 78) 3, type := 4, pos := "law.go:113", after := #[{ on := 6, ground := Ground.data }, { on := 8, ground := Ground.data }, { on := 1, ground := Ground.guard }], guard := some (1, false) }) (v := undef) rfl (by kernel_rfl) (by kernel_rfl) (by kernel_rfl) (fun _ _ _ h => h) (Or.inr ⟨by rfl, rfl⟩) hHeld ?_
                    try simp only [Act.put, List.setIfInBounds_toArray, List.set_cons_zero, List.set_cons_succ]
                    refine wpAnyH_take (i := 10) (oi := { dst := some 80, op := Op.move (Operand.tmp 79), type := 4, pos := "law.go:113", after := #[{ on := 9, ground := Ground.data }, { on := 1, ground := Ground.chain }, { on := 1, ground := Ground.guard }], guard := some (1, false) }) (v := undef) rfl (by kernel_rfl) (by kernel_rfl) (by kernel_rfl) (fun _ _ _ h => h) (Or.inr ⟨by rfl, rfl⟩) hHeld ?_
                    try simp only [Act.put, List.setIfInBounds_toArray, List.set_cons_zero, List.set_cons_succ]
                    refine wpAnyH_take (i := 11) (oi := { dst := some 81, op := Op.move (Operand.tmp 7), type := 34, pos := "law.go:113", after := #[{ on := 10, ground := Ground.guard }], guard := some (10, true) }) (v := undef) rfl (by kernel_rfl) (by kernel_rfl) (by kernel_rfl) (fun _ _ _ h => h) (Or.inr ⟨by rfl, rfl⟩) hHeld ?_
                    try simp only [Act.put, List.setIfInBounds_toArray, List.set_cons_zero, List.set_cons_succ]
                    refine wpAnyH_take (i := 12) (oi := { dst := some 82, op := Op.move (Operand.tmp 11), type := 3, pos := "law.go:113", after := #[{ on := 10, ground := Ground.guard }], guard := some (10, true) }) (v := undef) rfl (by kernel_rfl) (by kernel_rfl) (by kernel_rfl) (fun _ _ _ h => h) (Or.inr ⟨by rfl, rfl⟩) hHeld ?_
                    try simp only [Act.put, List.setIfInBounds_toArray, List.set_cons_zero, List.set_cons_succ]
                    refine wpAnyH_take (i := 13) (oi := { dst := some 83, op := Op.indexAddr 34 (Operand.tmp 81) (Operand.tmp 82), type := 0, pos := "law.go:113", after := #[{ on := 11, ground := Ground.data }, { on := 12, ground := Ground.data }, { on := 10, ground := Ground.guard }], guard := some (10, true) }) (v := undef) rfl (by kernel_rfl) (by kernel_rfl) (by kernel_rfl) (fun _ _ _ h => h) (Or.inr ⟨by rfl, rfl⟩) hHeld ?_
                    try simp only [Act.put, List.setIfInBounds_toArray, List.set_cons_zero, List.set_cons_succ]
                    refine wpAnyH_take (i := 14) (oi := { dst := some 84, op := Op.fieldAddr 40 (Operand.tmp 83) 1, type := 0, pos := "law.go:113", after := #[{ on := 13, ground := Ground.data }, { on := 10, ground := Ground.guard }], guard := some (10, true) }) (v := undef) rfl (by kernel_rfl) (by kernel_rfl) (by kernel_rfl) (fun _ _ _ h => h) (Or.inr ⟨by rfl, rfl⟩) hHeld ?_
                    try simp only [Act.put, List.setIfInBounds_toArray, List.set_cons_zero, List.set_cons_succ]
                    refine wpAnyH_take (i := 15) (oi := { dst := some 85, op := Op.load 3 (Operand.tmp 84), type := 3, pos := "law.go:113", after := #[{ on := 14, ground := Ground.data }, { on := 10, ground := Ground.guard }], guard := some (10, true) }) (v := undef) rfl (by kernel_rfl) (by kernel_rfl) (by kernel_rfl) (fun _ _ _ h => h) (Or.inr ⟨by rfl, rfl⟩) hHeld ?_
                    try simp only [Act.put, List.setIfInBounds_toArray, List.set_cons_zero, List.set_cons_succ]
                    refine wpAnyH_take (i := 16) (oi := { dst := some 86, op := Op.fieldAddr 47 (Operand.tmp 9) 4, type := 0, pos := "law.go:113", after := #[{ on := 10, ground := Ground.guard }], guard := some (10, true) }) (v := undef) rfl (by kernel_rfl) (by kernel_rfl) (by kernel_rfl) (fun _ _ _ h => h) (Or.inr ⟨by rfl, rfl⟩) hHeld ?_
                    try simp only [Act.put, List.setIfInBounds_toArray, List.set_cons_zero, List.set_cons_succ]
                    refine wpAnyH_take (i := 17) (oi := { dst := some 87, op := Op.load 3 (Operand.tmp 86), type := 3, pos := "law.go:113", after := #[{ on := 16, ground := Ground.data }, { on := 10, ground := Ground.guard }], guard := some (10, true) }) (v := undef) rfl (by kernel_rfl) (by kernel_rfl) (by kernel_rfl) (fun _ _ _ h => h) (Or.inr ⟨by rfl, rfl⟩) hHeld ?_
                    try simp only [Act.put, List.setIfInBounds_toArray, List.set_cons_zero, List.set_cons_succ]
                    refine wpAnyH_take (i := 18) (oi := { dst := some 88, op := Op.binOp BinOp.eql 3 (Operand.tmp 85) (Operand.tmp 87) 3, type := 4, pos := "law.go:113", after := #[{ on := 15, ground := Ground.data }, { on := 17, ground := Ground.data }, { on := 10, ground := Ground.guard }], guard := some (10, true) }) (v := undef) rfl (by kernel_rfl) (by kernel_rfl) (by kernel_rfl) (fun _ _ _ h => h) (Or.inr ⟨by rfl, rfl⟩) hHeld ?_
                    try simp only [Act.put, List.setIfInBounds_toArray, List.set_cons_zero, List.set_cons_succ]
                    refine wpAnyH_take (i := 19) (oi := { dst := some 89, op := Op.pick (Operand.tmp 80) (Operand.tmp 88) (Operand.const (Value.bool false)), type := 4, pos := "law.go:113", after := #[{ on := 10, ground := Ground.data }, { on := 18, ground := Ground.data }, { on := 1, ground := Ground.guard }], guard := some (1, false) }) (v := undef) rfl (by kernel_rfl) (by kernel_rfl) (by kernel_rfl) (fun _ _ _ h => h) (Or.inr ⟨by rfl, rfl⟩) hHeld ?_
                    try simp only [Act.put, List.setIfInBounds_toArray, List.set_cons_zero, List.set_cons_succ]
                    refine wpAnyH_take (i := 20) (oi := { dst := some 90, op := Op.pick (Operand.tmp 71) (Operand.const (Value.bool true)) (Operand.tmp 89), type := 4, pos := "law.go:113", after := #[{ on := 1, ground := Ground.data }, { on := 19, ground := Ground.data }], guard := none }) (v := .bool true) rfl (by kernel_rfl) (by kernel_rfl) (by kernel_rfl) (fun _ _ _ h => h) (Or.inl ⟨by rfl, ?_⟩) hHeld ?_
                    · (intro w hSw; (try dsimp only at hSw); go_simp)
                    try simp only [Act.put, List.setIfInBounds_toArray, List.set_cons_zero, List.set_cons_succ]
                    refine wpAnyH_take (i := 21) (oi := { dst := some 10, op := Op.assign (Operand.tmp 90), type := 4, pos := "law.go:113", after := #[{ on := 20, ground := Ground.data }, { on := 10, ground := Ground.chain }, { on := 0, ground := Ground.phase }, { on := 1, ground := Ground.phase }, { on := 2, ground := Ground.phase }, { on := 3, ground := Ground.phase }, { on := 4, ground := Ground.phase }, { on := 5, ground := Ground.phase }, { on := 6, ground := Ground.phase }, { on := 7, ground := Ground.phase }, { on := 8, ground := Ground.phase }, { on := 9, ground := Ground.phase }, { on := 10, ground := Ground.phase }, { on := 11, ground := Ground.phase }, { on := 12, ground := Ground.phase }, { on := 13, ground := Ground.phase }, { on := 14, ground := Ground.phase }, { on := 15, ground := Ground.phase }, { on := 16, ground := Ground.phase }, { on := 17, ground := Ground.phase }, { on := 18, ground := Ground.phase }, { on := 19, ground := Ground.phase }, { on := 20, ground := Ground.phase }], guard := none }) (v := .bool true) rfl (by kernel_rfl) (by kernel_rfl) (by kernel_rfl) (fun _ _ _ h => h) (Or.inl ⟨by rfl, ?_⟩) hHeld ?_
                    · (intro w hSw; (try dsimp only at hSw); go_simp)
                    try simp only [Act.put, List.setIfInBounds_toArray, List.set_cons_zero, List.set_cons_succ]
                    refine wpAnyH_done (by kernel_rfl) ?_ _
                    go_wp2
                    go_roundw
                    case rel => exact ⟨k2 + 1, by omega, by simp, by rw [HTM.out]; rfl, hidOf (HZ.out.trans ((bdrew wr).mono HZ.out.size))⟩
                    case measure => simp [intOf]; omega
                  | false =>
                    rw [hf] at HTM
                    by_cases he : y.1 = x.gr
                    · have heb : (y.1 == x.gr) = true := by simp [he]
                      have HE := hidOf he
                      clear he
                      by_cases hf2 : y.2 = x.ix
                      · have hfb : (y.2 == x.ix) = true := by simp [hf2]
                        have HF := hidOf hf2
                        clear hf2
                        refine wp_region_held_drew (S := fun (Y : World) => Y.cell? ⟨b7, off7 + k2 * 2, none⟩ = some (.int .i64 y.1) ∧ Y.cell? ⟨B9, 3, none⟩ = some (.int .i64 x.gr) ∧ Y.cell? ⟨b7, off7 + k2 * 2 + 1, none⟩ = some (.int .i64 y.2) ∧ Y.cell? ⟨B9, 4, none⟩ = some (.int .i64 x.ix)) (by kernel_rfl) ⟨ky1, k3, ky2, k4⟩ (fun hHeld => ?_)
                        refine wpAnyH_take (i := 0) (oi := { dst := some 70, op := Op.move (Operand.tmp 10), type := 4, pos := "law.go:113", after := #[], guard := none }) (v := .bool false) rfl (by kernel_rfl) (by kernel_rfl) (by kernel_rfl) (fun _ _ _ h => h) (Or.inl ⟨by rfl, ?_⟩) hHeld ?_
                        · (intro w hSw; (try dsimp only at hSw); go_simp)
                        try simp only [Act.put, List.setIfInBounds_toArray, List.set_cons_zero, List.set_cons_succ]
                        refine wpAnyH_take (i := 1) (oi := { dst := some 71, op := Op.move (Operand.tmp 70), type := 4, pos := "law.go:113", after := #[{ on := 0, ground := Ground.data }], guard := none }) (v := .bool false) rfl (by kernel_rfl) (by kernel_rfl) (by kernel_rfl) (fun _ _ _ h => h) (Or.inl ⟨by rfl, ?_⟩) hHeld ?_
                        · (intro w hSw; (try dsimp only at hSw); go_simp)
                        try simp only [Act.put, List.setIfInBounds_toArray, List.set_cons_zero, List.set_cons_succ]
                        refine wpAnyH_take (i := 2) (oi := { dst := some 72, op := Op.move (Operand.tmp 7), type := 34, pos := "law.go:113", after := #[{ on := 1, ground := Ground.guard }], guard := some (1, false) }) (v := .slice (some ⟨b7, off7, none⟩) L.length lc) rfl (by kernel_rfl) (by kernel_rfl) (by kernel_rfl) (fun _ _ _ h => h) (Or.inl ⟨by rfl, ?_⟩) hHeld ?_
                        · (intro w hSw; (try dsimp only at hSw); go_simp)
                        try simp only [Act.put, List.setIfInBounds_toArray, List.set_cons_zero, List.set_cons_succ]
                        refine wpAnyH_take (i := 3) (oi := { dst := some 73, op := Op.move (Operand.tmp 11), type := 3, pos := "law.go:113", after := #[{ on := 1, ground := Ground.guard }], guard := some (1, false) }) (v := .int .i64 (k2 : Int)) rfl (by kernel_rfl) (by kernel_rfl) (by kernel_rfl) (fun _ _ _ h => h) (Or.inl ⟨by rfl, ?_⟩) hHeld ?_
                        · (intro w hSw; (try dsimp only at hSw); go_simp)
                        try simp only [Act.put, List.setIfInBounds_toArray, List.set_cons_zero, List.set_cons_succ]
                        refine wpAnyH_take (i := 4) (oi := { dst := some 74, op := Op.indexAddr 34 (Operand.tmp 72) (Operand.tmp 73), type := 0, pos := "law.go:113", after := #[{ on := 2, ground := Ground.data }, { on := 3, ground := Ground.data }, { on := 1, ground := Ground.guard }], guard := some (1, false) }) (v := .pointer (some ⟨b7, off7 + k2 * 2, none⟩)) rfl (by kernel_rfl) (by kernel_rfl) (by kernel_rfl) (fun _ _ _ h => h) (Or.inl ⟨by rfl, ?_⟩) hHeld ?_
                        · (intro w hSw; (try dsimp only at hSw); go_simp)
                        try simp only [Act.put, List.setIfInBounds_toArray, List.set_cons_zero, List.set_cons_succ]
                        refine wpAnyH_take (i := 5) (oi := { dst := some 75, op := Op.fieldAddr 40 (Operand.tmp 74) 0, type := 0, pos := "law.go:113", after := #[{ on := 4, ground := Ground.data }, { on := 1, ground := Ground.guard }], guard := some (1, false) }) (v := .pointer (some ⟨b7, off7 + k2 * 2, none⟩)) rfl (by kernel_rfl) (by kernel_rfl) (by kernel_rfl) (fun _ _ _ h => h) (Or.inl ⟨by rfl, ?_⟩) hHeld ?_
                        · (intro w hSw; (try dsimp only at hSw); go_simp)
                        try simp only [Act.put, List.setIfInBounds_toArray, List.set_cons_zero, List.set_cons_succ]
                        refine wpAnyH_take (i := 6) (oi := { dst := some 76, op := Op.load 3 (Operand.tmp 75), type := 3, pos := "law.go:113", after := #[{ on := 5, ground := Ground.data }, { on := 1, ground := Ground.guard }], guard := some (1, false) }) (v := .int .i64 y.1) rfl (by kernel_rfl) (by kernel_rfl) (by kernel_rfl) (fun _ _ _ h => h) (Or.inl ⟨by rfl, ?_⟩) hHeld ?_
                        · (intro w hSw; (try dsimp only at hSw); go_simp)
                        try simp only [Act.put, List.setIfInBounds_toArray, List.set_cons_zero, List.set_cons_succ]
                        refine wpAnyH_take (i := 7) (oi := { dst := some 77, op := Op.fieldAddr 47 (Operand.tmp 9) 3, type := 0, pos := "law.go:113", after := #[{ on := 1, ground := Ground.guard }], guard := some (1, false) }) (v := .pointer (some ⟨B9, 3, none⟩)) rfl (by kernel_rfl) (by kernel_rfl) (by kernel_rfl) (fun _ _ _ h => h) (Or.inl ⟨by rfl, ?_⟩) hHeld ?_
                        · (intro w hSw; (try dsimp only at hSw); go_simp)
                        try simp only [Act.put, List.setIfInBounds_toArray, List.set_cons_zero, List.set_cons_succ]
                        refine wpAnyH_take (i := 8) (oi := { dst := some 78, op := Op.load 3 (Operand.tmp 77), type := 3, pos := "law.go:113", after := #[{ on := 7, ground := Ground.data }, { on := 1, ground := Ground.guard }], guard := some (1, false) }) (v := .int .i64 x.gr) rfl (by kernel_rfl) (by kernel_rfl) (by kernel_rfl) (fun _ _ _ h => h) (Or.inl ⟨by rfl, ?_⟩) hHeld ?_
                        · (intro w hSw; (try dsimp only at hSw); go_simp)
                        try simp only [Act.put, List.setIfInBounds_toArray, List.set_cons_zero, List.set_cons_succ]
                        refine wpAnyH_take (i := 9) (oi := { dst := some 79, op := Op.binOp BinOp.eql 3 (Operand.tmp 76) (Operand.tmp 78) 3, type := 4, pos := "law.go:113", after := #[{ on := 6, ground := Ground.data }, { on := 8, ground := Ground.data }, { on := 1, ground := Ground.guard }], guard := some (1, false) }) (v := .bool true) rfl (by kernel_rfl) (by kernel_rfl) (by kernel_rfl) (fun _ _ _ h => h) (Or.inl ⟨by rfl, ?_⟩) hHeld ?_
                        · (intro w hSw; (try dsimp only at hSw); go_simp)
                        try simp only [Act.put, List.setIfInBounds_toArray, List.set_cons_zero, List.set_cons_succ]
                        refine wpAnyH_take (i := 10) (oi := { dst := some 80, op := Op.move (Operand.tmp 79), type := 4, pos := "law.go:113", after := #[{ on := 9, ground := Ground.data }, { on := 1, ground := Ground.chain }, { on := 1, ground := Ground.guard }], guard := some (1, false) }) (v := .bool true) rfl (by kernel_rfl) (by kernel_rfl) (by kernel_rfl) (fun _ _ _ h => h) (Or.inl ⟨by rfl, ?_⟩) hHeld ?_
                        · (intro w hSw; (try dsimp only at hSw); go_simp)
                        try simp only [Act.put, List.setIfInBounds_toArray, List.set_cons_zero, List.set_cons_succ]
                        refine wpAnyH_take (i := 11) (oi := { dst := some 81, op := Op.move (Operand.tmp 7), type := 34, pos := "law.go:113", after := #[{ on := 10, ground := Ground.guard }], guard := some (10, true) }) (v := .slice (some ⟨b7, off7, none⟩) L.length lc) rfl (by kernel_rfl) (by kernel_rfl) (by kernel_rfl) (fun _ _ _ h => h) (Or.inl ⟨by rfl, ?_⟩) hHeld ?_
                        · (intro w hSw; (try dsimp only at hSw); go_simp)
                        try simp only [Act.put, List.setIfInBounds_toArray, List.set_cons_zero, List.set_cons_succ]
                        refine wpAnyH_take (i := 12) (oi := { dst := some 82, op := Op.move (Operand.tmp 11), type := 3, pos := "law.go:113", after := #[{ on := 10, ground := Ground.guard }], guard := some (10, true) }) (v := .int .i64 (k2 : Int)) rfl (by kernel_rfl) (by kernel_rfl) (by kernel_rfl) (fun _ _ _ h => h) (Or.inl ⟨by rfl, ?_⟩) hHeld ?_
                        · (intro w hSw; (try dsimp only at hSw); go_simp)
                        try simp only [Act.put, List.setIfInBounds_toArray, List.set_cons_zero, List.set_cons_succ]
                        refine wpAnyH_take (i := 13) (oi := { dst := some 83, op := Op.indexAddr 34 (Operand.tmp 81) (Operand.tmp 82), type := 0, pos := "law.go:113", after := #[{ on := 11, ground := Ground.data }, { on := 12, ground := Ground.data }, { on := 10, ground := Ground.guard }], guard := some (10, true) }) (v := .pointer (some ⟨b7, off7 + k2 * 2, none⟩)) rfl (by kernel_rfl) (by kernel_rfl) (by kernel_rfl) (fun _ _ _ h => h) (Or.inl ⟨by rfl, ?_⟩) hHeld ?_
                        · (intro w hSw; (try dsimp only at hSw); go_simp)
                        try simp only [Act.put, List.setIfInBounds_toArray, List.set_cons_zero, List.set_cons_succ]
                        refine wpAnyH_take (i := 14) (oi := { dst := some 84, op := Op.fieldAddr 40 (Operand.tmp 83) 1, type := 0, pos := "law.go:113", after := #[{ on := 13, ground := Ground.data }, { on := 10, ground := Ground.guard }], guard := some (10, true) }) (v := .pointer (some ⟨b7, off7 + k2 * 2 + 1, none⟩)) rfl (by kernel_rfl) (by kernel_rfl) (by kernel_rfl) (fun _ _ _ h => h) (Or.inl ⟨by rfl, ?_⟩) hHeld ?_
                        · (intro w hSw; (try dsimp only at hSw); go_simp)
                        try simp only [Act.put, List.setIfInBounds_toArray, List.set_cons_zero, List.set_cons_succ]
                        refine wpAnyH_take (i := 15) (oi := { dst := some 85, op := Op.load 3 (Operand.tmp 84), type := 3, pos := "law.go:113", after := #[{ on := 14, ground := Ground.data }, { on := 10, ground := Ground.guard }], guard := some (10, true) }) (v := .int .i64 y.2) rfl (by kernel_rfl) (by kernel_rfl) (by kernel_rfl) (fun _ _ _ h => h) (Or.inl ⟨by rfl, ?_⟩) hHeld ?_
                        · (intro w hSw; (try dsimp only at hSw); go_simp)
                        try simp only [Act.put, List.setIfInBounds_toArray, List.set_cons_zero, List.set_cons_succ]
                        refine wpAnyH_take (i := 16) (oi := { dst := some 86, op := Op.fieldAddr 47 (Operand.tmp 9) 4, type := 0, pos := "law.go:113", after := #[{ on := 10, ground := Ground.guard }], guard := some (10, true) }) (v := .pointer (some ⟨B9, 4, none⟩)) rfl (by kernel_rfl) (by kernel_rfl) (by kernel_rfl) (fun _ _ _ h => h) (Or.inl ⟨by rfl, ?_⟩) hHeld ?_
                        · (intro w hSw; (try dsimp only at hSw); go_simp)
                        try simp only [Act.put, List.setIfInBounds_toArray, List.set_cons_zero, List.set_cons_succ]
                        refine wpAnyH_take (i := 17) (oi := { dst := some 87, op := Op.load 3 (Operand.tmp 86), type := 3, pos := "law.go:113", after := #[{ on := 16, ground := Ground.data }, { on := 10, ground := Ground.guard }], guard := some (10, true) }) (v := .int .i64 x.ix) rfl (by kernel_rfl) (by kernel_rfl) (by kernel_rfl) (fun _ _ _ h => h) (Or.inl ⟨by rfl, ?_⟩) hHeld ?_
                        · (intro w hSw; (try dsimp only at hSw); go_simp)
                        try simp only [Act.put, List.setIfInBounds_toArray, List.set_cons_zero, List.set_cons_succ]
                        refine wpAnyH_take (i := 18) (oi := { dst := some 88, op := Op.binOp BinOp.eql 3 (Operand.tmp 85) (Operand.tmp 87) 3, type := 4, pos := "law.go:113", after := #[{ on := 15, ground := Ground.data }, { on := 17, ground := Ground.data }, { on := 10, ground := Ground.guard }], guard := some (10, true) }) (v := .bool true) rfl (by kernel_rfl) (by kernel_rfl) (by kernel_rfl) (fun _ _ _ h => h) (Or.inl ⟨by rfl, ?_⟩) hHeld ?_
                        · (intro w hSw; (try dsimp only at hSw); go_simp)
                        try simp only [Act.put, List.setIfInBounds_toArray, List.set_cons_zero, List.set_cons_succ]
                        refine wpAnyH_take (i := 19) (oi := { dst := some 89, op := Op.pick (Operand.tmp 80) (Operand.tmp 88) (Operand.const (Value.bool false)), type := 4, pos := "law.go:113", after := #[{ on := 10, ground := Ground.data }, { on := 18, ground := Ground.data }, { on := 1, ground := Ground.guard }], guard := some (1, false) }) (v := .bool true) rfl (by kernel_rfl) (by kernel_rfl) (by kernel_rfl) (fun _ _ _ h => h) (Or.inl ⟨by rfl, ?_⟩) hHeld ?_
                        · (intro w hSw; (try dsimp only at hSw); go_simp)
                        try simp only [Act.put, List.setIfInBounds_toArray, List.set_cons_zero, List.set_cons_succ]
                        refine wpAnyH_take (i := 20) (oi := { dst := some 90, op := Op.pick (Operand.tmp 71) (Operand.const (Value.bool true)) (Operand.tmp 89), type := 4, pos := "law.go:113", after := #[{ on := 1, ground := Ground.data }, { on := 19, ground := Ground.data }], guard := none }) (v := .bool true) rfl (by kernel_rfl) (by kernel_rfl) (by kernel_rfl) (fun _ _ _ h => h) (Or.inl ⟨by rfl, ?_⟩) hHeld ?_
                        · (intro w hSw; (try dsimp only at hSw); go_simp)
                        try simp only [Act.put, List.setIfInBounds_toArray, List.set_cons_zero, List.set_cons_succ]
                        refine wpAnyH_take (i := 21) (oi := { dst := some 10, op := Op.assign (Operand.tmp 90), type := 4, pos := "law.go:113", after := #[{ on := 20, ground := Ground.data }, { on := 10, ground := Ground.chain }, { on := 0, ground := Ground.phase }, { on := 1, ground := Ground.phase }, { on := 2, ground := Ground.phase }, { on := 3, ground := Ground.phase }, { on := 4, ground := Ground.phase }, { on := 5, ground := Ground.phase }, { on := 6, ground := Ground.phase }, { on := 7, ground := Ground.phase }, { on := 8, ground := Ground.phase }, { on := 9, ground := Ground.phase }, { on := 10, ground := Ground.phase }, { on := 11, ground := Ground.phase }, { on := 12, ground := Ground.phase }, { on := 13, ground := Ground.phase }, { on := 14, ground := Ground.phase }, { on := 15, ground := Ground.phase }, { on := 16, ground := Ground.phase }, { on := 17, ground := Ground.phase }, { on := 18, ground := Ground.phase }, { on := 19, ground := Ground.phase }, { on := 20, ground := Ground.phase }], guard := none }) (v := .bool true) rfl (by kernel_rfl) (by kernel_rfl) (by kernel_rfl) (fun _ _ _ h => h) (Or.inl ⟨by rfl, ?_⟩) hHeld ?_
                        · (intro w hSw; (try dsimp only at hSw); go_simp)
                        try simp only [Act.put, List.setIfInBounds_toArray, List.set_cons_zero, List.set_cons_succ]
                        refine wpAnyH_done (by kernel_rfl) ?_ _
                        go_wp2
                        go_roundw
                        case rel => exact ⟨k2 + 1, by omega, by simp, by rw [HTM.out, decide_eq_true (show y = (x.gr, x.ix) from Prod.ext HE.out HF.out)]; rfl, hidOf (HZ.out.trans ((bdrew wr).mono HZ.out.size))⟩
                        case measure => simp [intOf]; omega
                      · have hfb : (y.2 == x.ix) = false := by simp [hf2]
                        have HF := hidOf hf2
                        clear hf2
                        refine wp_region_held_drew (S := fun (Y : World) => Y.cell? ⟨b7, off7 + k2 * 2, none⟩ = some (.int .i64 y.1) ∧ Y.cell? ⟨B9, 3, none⟩ = some (.int .i64 x.gr) ∧ Y.cell? ⟨b7, off7 + k2 * 2 + 1, none⟩ = some (.int .i64 y.2) ∧ Y.cell? ⟨B9, 4, none⟩ = some (.int .i64 x.ix)) (by kernel_rfl) ⟨ky1, k3, ky2, k4⟩ (fun hHeld => ?_)
                        refine wpAnyH_take (i := 0) (oi := { dst := some 70, op := Op.move (Operand.tmp 10), type := 4, pos := "law.go:113", after := #[], guard := none }) (v := .bool false) rfl (by kernel_rfl) (by kernel_rfl) (by kernel_rfl) (fun _ _ _ h => h) (Or.inl ⟨by rfl, ?_⟩) hHeld ?_
                        · (intro w hSw; (try dsimp only at hSw); go_simp)
                        try simp only [Act.put, List.setIfInBounds_toArray, List.set_cons_zero, List.set_cons_succ]
                        refine wpAnyH_take (i := 1) (oi := { dst := some 71, op := Op.move (Operand.tmp 70), type := 4, pos := "law.go:113", after := #[{ on := 0, ground := Ground.data }], guard := none }) (v := .bool false) rfl (by kernel_rfl) (by kernel_rfl) (by kernel_rfl) (fun _ _ _ h => h) (Or.inl ⟨by rfl, ?_⟩) hHeld ?_
                        · (intro w hSw; (try dsimp only at hSw); go_simp)
                        try simp only [Act.put, List.setIfInBounds_toArray, List.set_cons_zero, List.set_cons_succ]
                        refine wpAnyH_take (i := 2) (oi := { dst := some 72, op := Op.move (Operand.tmp 7), type := 34, pos := "law.go:113", after := #[{ on := 1, ground := Ground.guard }], guard := some (1, false) }) (v := .slice (some ⟨b7, off7, none⟩) L.length lc) rfl (by kernel_rfl) (by kernel_rfl) (by kernel_rfl) (fun _ _ _ h => h) (Or.inl ⟨by rfl, ?_⟩) hHeld ?_
                        · (intro w hSw; (try dsimp only at hSw); go_simp)
                        try simp only [Act.put, List.setIfInBounds_toArray, List.set_cons_zero, List.set_cons_succ]
                        refine wpAnyH_take (i := 3) (oi := { dst := some 73, op := Op.move (Operand.tmp 11), type := 3, pos := "law.go:113", after := #[{ on := 1, ground := Ground.guard }], guard := some (1, false) }) (v := .int .i64 (k2 : Int)) rfl (by kernel_rfl) (by kernel_rfl) (by kernel_rfl) (fun _ _ _ h => h) (Or.inl ⟨by rfl, ?_⟩) hHeld ?_
                        · (intro w hSw; (try dsimp only at hSw); go_simp)
                        try simp only [Act.put, List.setIfInBounds_toArray, List.set_cons_zero, List.set_cons_succ]
                        refine wpAnyH_take (i := 4) (oi := { dst := some 74, op := Op.indexAddr 34 (Operand.tmp 72) (Operand.tmp 73), type := 0, pos := "law.go:113", after := #[{ on := 2, ground := Ground.data }, { on := 3, ground := Ground.data }, { on := 1, ground := Ground.guard }], guard := some (1, false) }) (v := .pointer (some ⟨b7, off7 + k2 * 2, none⟩)) rfl (by kernel_rfl) (by kernel_rfl) (by kernel_rfl) (fun _ _ _ h => h) (Or.inl ⟨by rfl, ?_⟩) hHeld ?_
                        · (intro w hSw; (try dsimp only at hSw); go_simp)
                        try simp only [Act.put, List.setIfInBounds_toArray, List.set_cons_zero, List.set_cons_succ]
                        refine wpAnyH_take (i := 5) (oi := { dst := some 75, op := Op.fieldAddr 40 (Operand.tmp 74) 0, type := 0, pos := "law.go:113", after := #[{ on := 4, ground := Ground.data }, { on := 1, ground := Ground.guard }], guard := some (1, false) }) (v := .pointer (some ⟨b7, off7 + k2 * 2, none⟩)) rfl (by kernel_rfl) (by kernel_rfl) (by kernel_rfl) (fun _ _ _ h => h) (Or.inl ⟨by rfl, ?_⟩) hHeld ?_
                        · (intro w hSw; (try dsimp only at hSw); go_simp)
                        try simp only [Act.put, List.setIfInBounds_toArray, List.set_cons_zero, List.set_cons_succ]
                        refine wpAnyH_take (i := 6) (oi := { dst := some 76, op := Op.load 3 (Operand.tmp 75), type := 3, pos := "law.go:113", after := #[{ on := 5, ground := Ground.data }, { on := 1, ground := Ground.guard }], guard := some (1, false) }) (v := .int .i64 y.1) rfl (by kernel_rfl) (by kernel_rfl) (by kernel_rfl) (fun _ _ _ h => h) (Or.inl ⟨by rfl, ?_⟩) hHeld ?_
                        · (intro w hSw; (try dsimp only at hSw); go_simp)
                        try simp only [Act.put, List.setIfInBounds_toArray, List.set_cons_zero, List.set_cons_succ]
                        refine wpAnyH_take (i := 7) (oi := { dst := some 77, op := Op.fieldAddr 47 (Operand.tmp 9) 3, type := 0, pos := "law.go:113", after := #[{ on := 1, ground := Ground.guard }], guard := some (1, false) }) (v := .pointer (some ⟨B9, 3, none⟩)) rfl (by kernel_rfl) (by kernel_rfl) (by kernel_rfl) (fun _ _ _ h => h) (Or.inl ⟨by rfl, ?_⟩) hHeld ?_
                        · (intro w hSw; (try dsimp only at hSw); go_simp)
                        try simp only [Act.put, List.setIfInBounds_toArray, List.set_cons_zero, List.set_cons_succ]
                        refine wpAnyH_take (i := 8) (oi := { dst := some 78, op := Op.load 3 (Operand.tmp 77), type := 3, pos := "law.go:113", after := #[{ on := 7, ground := Ground.data }, { on := 1, ground := Ground.guard }], guard := some (1, false) }) (v := .int .i64 x.gr) rfl (by kernel_rfl) (by kernel_rfl) (by kernel_rfl) (fun _ _ _ h => h) (Or.inl ⟨by rfl, ?_⟩) hHeld ?_
                        · (intro w hSw; (try dsimp only at hSw); go_simp)
                        try simp only [Act.put, List.setIfInBounds_toArray, List.set_cons_zero, List.set_cons_succ]
                        refine wpAnyH_take (i := 9) (oi := { dst := some 79, op := Op.binOp BinOp.eql 3 (Operand.tmp 76) (Operand.tmp 78) 3, type := 4, pos := "law.go:113", after := #[{ on := 6, ground := Ground.data }, { on := 8, ground := Ground.data }, { on := 1, ground := Ground.guard }], guard := some (1, false) }) (v := .bool true) rfl (by kernel_rfl) (by kernel_rfl) (by kernel_rfl) (fun _ _ _ h => h) (Or.inl ⟨by rfl, ?_⟩) hHeld ?_
                        · (intro w hSw; (try dsimp only at hSw); go_simp)
                        try simp only [Act.put, List.setIfInBounds_toArray, List.set_cons_zero, List.set_cons_succ]
                        refine wpAnyH_take (i := 10) (oi := { dst := some 80, op := Op.move (Operand.tmp 79), type := 4, pos := "law.go:113", after := #[{ on := 9, ground := Ground.data }, { on := 1, ground := Ground.chain }, { on := 1, ground := Ground.guard }], guard := some (1, false) }) (v := .bool true) rfl (by kernel_rfl) (by kernel_rfl) (by kernel_rfl) (fun _ _ _ h => h) (Or.inl ⟨by rfl, ?_⟩) hHeld ?_
                        · (intro w hSw; (try dsimp only at hSw); go_simp)
                        try simp only [Act.put, List.setIfInBounds_toArray, List.set_cons_zero, List.set_cons_succ]
                        refine wpAnyH_take (i := 11) (oi := { dst := some 81, op := Op.move (Operand.tmp 7), type := 34, pos := "law.go:113", after := #[{ on := 10, ground := Ground.guard }], guard := some (10, true) }) (v := .slice (some ⟨b7, off7, none⟩) L.length lc) rfl (by kernel_rfl) (by kernel_rfl) (by kernel_rfl) (fun _ _ _ h => h) (Or.inl ⟨by rfl, ?_⟩) hHeld ?_
                        · (intro w hSw; (try dsimp only at hSw); go_simp)
                        try simp only [Act.put, List.setIfInBounds_toArray, List.set_cons_zero, List.set_cons_succ]
                        refine wpAnyH_take (i := 12) (oi := { dst := some 82, op := Op.move (Operand.tmp 11), type := 3, pos := "law.go:113", after := #[{ on := 10, ground := Ground.guard }], guard := some (10, true) }) (v := .int .i64 (k2 : Int)) rfl (by kernel_rfl) (by kernel_rfl) (by kernel_rfl) (fun _ _ _ h => h) (Or.inl ⟨by rfl, ?_⟩) hHeld ?_
                        · (intro w hSw; (try dsimp only at hSw); go_simp)
                        try simp only [Act.put, List.setIfInBounds_toArray, List.set_cons_zero, List.set_cons_succ]
                        refine wpAnyH_take (i := 13) (oi := { dst := some 83, op := Op.indexAddr 34 (Operand.tmp 81) (Operand.tmp 82), type := 0, pos := "law.go:113", after := #[{ on := 11, ground := Ground.data }, { on := 12, ground := Ground.data }, { on := 10, ground := Ground.guard }], guard := some (10, true) }) (v := .pointer (some ⟨b7, off7 + k2 * 2, none⟩)) rfl (by kernel_rfl) (by kernel_rfl) (by kernel_rfl) (fun _ _ _ h => h) (Or.inl ⟨by rfl, ?_⟩) hHeld ?_
                        · (intro w hSw; (try dsimp only at hSw); go_simp)
                        try simp only [Act.put, List.setIfInBounds_toArray, List.set_cons_zero, List.set_cons_succ]
                        refine wpAnyH_take (i := 14) (oi := { dst := some 84, op := Op.fieldAddr 40 (Operand.tmp 83) 1, type := 0, pos := "law.go:113", after := #[{ on := 13, ground := Ground.data }, { on := 10, ground := Ground.guard }], guard := some (10, true) }) (v := .pointer (some ⟨b7, off7 + k2 * 2 + 1, none⟩)) rfl (by kernel_rfl) (by kernel_rfl) (by kernel_rfl) (fun _ _ _ h => h) (Or.inl ⟨by rfl, ?_⟩) hHeld ?_
                        · (intro w hSw; (try dsimp only at hSw); go_simp)
                        try simp only [Act.put, List.setIfInBounds_toArray, List.set_cons_zero, List.set_cons_succ]
                        refine wpAnyH_take (i := 15) (oi := { dst := some 85, op := Op.load 3 (Operand.tmp 84), type := 3, pos := "law.go:113", after := #[{ on := 14, ground := Ground.data }, { on := 10, ground := Ground.guard }], guard := some (10, true) }) (v := .int .i64 y.2) rfl (by kernel_rfl) (by kernel_rfl) (by kernel_rfl) (fun _ _ _ h => h) (Or.inl ⟨by rfl, ?_⟩) hHeld ?_
                        · (intro w hSw; (try dsimp only at hSw); go_simp)
                        try simp only [Act.put, List.setIfInBounds_toArray, List.set_cons_zero, List.set_cons_succ]
                        refine wpAnyH_take (i := 16) (oi := { dst := some 86, op := Op.fieldAddr 47 (Operand.tmp 9) 4, type := 0, pos := "law.go:113", after := #[{ on := 10, ground := Ground.guard }], guard := some (10, true) }) (v := .pointer (some ⟨B9, 4, none⟩)) rfl (by kernel_rfl) (by kernel_rfl) (by kernel_rfl) (fun _ _ _ h => h) (Or.inl ⟨by rfl, ?_⟩) hHeld ?_
                        · (intro w hSw; (try dsimp only at hSw); go_simp)
                        try simp only [Act.put, List.setIfInBounds_toArray, List.set_cons_zero, List.set_cons_succ]
                        refine wpAnyH_take (i := 17) (oi := { dst := some 87, op := Op.load 3 (Operand.tmp 86), type := 3, pos := "law.go:113", after := #[{ on := 16, ground := Ground.data }, { on := 10, ground := Ground.guard }], guard := some (10, true) }) (v := .int .i64 x.ix) rfl (by kernel_rfl) (by kernel_rfl) (by kernel_rfl) (fun _ _ _ h => h) (Or.inl ⟨by rfl, ?_⟩) hHeld ?_
                        · (intro w hSw; (try dsimp only at hSw); go_simp)
                        try simp only [Act.put, List.setIfInBounds_toArray, List.set_cons_zero, List.set_cons_succ]
                        refine wpAnyH_take (i := 18) (oi := { dst := some 88, op := Op.binOp BinOp.eql 3 (Operand.tmp 85) (Operand.tmp 87) 3, type := 4, pos := "law.go:113", after := #[{ on := 15, ground := Ground.data }, { on := 17, ground := Ground.data }, { on := 10, ground := Ground.guard }], guard := some (10, true) }) (v := .bool false) rfl (by kernel_rfl) (by kernel_rfl) (by kernel_rfl) (fun _ _ _ h => h) (Or.inl ⟨by rfl, ?_⟩) hHeld ?_
                        · (intro w hSw; (try dsimp only at hSw); go_simp)
                        try simp only [Act.put, List.setIfInBounds_toArray, List.set_cons_zero, List.set_cons_succ]
                        refine wpAnyH_take (i := 19) (oi := { dst := some 89, op := Op.pick (Operand.tmp 80) (Operand.tmp 88) (Operand.const (Value.bool false)), type := 4, pos := "law.go:113", after := #[{ on := 10, ground := Ground.data }, { on := 18, ground := Ground.data }, { on := 1, ground := Ground.guard }], guard := some (1, false) }) (v := .bool false) rfl (by kernel_rfl) (by kernel_rfl) (by kernel_rfl) (fun _ _ _ h => h) (Or.inl ⟨by rfl, ?_⟩) hHeld ?_
                        · (intro w hSw; (try dsimp only at hSw); go_simp)
                        try simp only [Act.put, List.setIfInBounds_toArray, List.set_cons_zero, List.set_cons_succ]
                        refine wpAnyH_take (i := 20) (oi := { dst := some 90, op := Op.pick (Operand.tmp 71) (Operand.const (Value.bool true)) (Operand.tmp 89), type := 4, pos := "law.go:113", after := #[{ on := 1, ground := Ground.data }, { on := 19, ground := Ground.data }], guard := none }) (v := .bool false) rfl (by kernel_rfl) (by kernel_rfl) (by kernel_rfl) (fun _ _ _ h => h) (Or.inl ⟨by rfl, ?_⟩) hHeld ?_
                        · (intro w hSw; (try dsimp only at hSw); go_simp)
                        try simp only [Act.put, List.setIfInBounds_toArray, List.set_cons_zero, List.set_cons_succ]
                        refine wpAnyH_take (i := 21) (oi := { dst := some 10, op := Op.assign (Operand.tmp 90), type := 4, pos := "law.go:113", after := #[{ on := 20, ground := Ground.data }, { on := 10, ground := Ground.chain }, { on := 0, ground := Ground.phase }, { on := 1, ground := Ground.phase }, { on := 2, ground := Ground.phase }, { on := 3, ground := Ground.phase }, { on := 4, ground := Ground.phase }, { on := 5, ground := Ground.phase }, { on := 6, ground := Ground.phase }, { on := 7, ground := Ground.phase }, { on := 8, ground := Ground.phase }, { on := 9, ground := Ground.phase }, { on := 10, ground := Ground.phase }, { on := 11, ground := Ground.phase }, { on := 12, ground := Ground.phase }, { on := 13, ground := Ground.phase }, { on := 14, ground := Ground.phase }, { on := 15, ground := Ground.phase }, { on := 16, ground := Ground.phase }, { on := 17, ground := Ground.phase }, { on := 18, ground := Ground.phase }, { on := 19, ground := Ground.phase }, { on := 20, ground := Ground.phase }], guard := none }) (v := .bool false) rfl (by kernel_rfl) (by kernel_rfl) (by kernel_rfl) (fun _ _ _ h => h) (Or.inl ⟨by rfl, ?_⟩) hHeld ?_
                        · (intro w hSw; (try dsimp only at hSw); go_simp)
                        try simp only [Act.put, List.setIfInBounds_toArray, List.set_cons_zero, List.set_cons_succ]
                        refine wpAnyH_done (by kernel_rfl) ?_ _
                        go_wp2
                        go_roundw
                        case rel => exact ⟨k2 + 1, by omega, by simp, by rw [HTM.out, decide_eq_false (show ¬ y = (x.gr, x.ix) from fun e => HF.out (congrArg Prod.snd e))]; rfl, hidOf (HZ.out.trans ((bdrew wr).mono HZ.out.size))⟩
                        case measure => simp [intOf]; omega
                    · have heb : (y.1 == x.gr) = false := by simp [he]
                      have HE := hidOf he
                      clear he
                      refine wp_region_held_drew (S := fun (Y : World) => Y.cell? ⟨b7, off7 + k2 * 2, none⟩ = some (.int .i64 y.1) ∧ Y.cell? ⟨B9, 3, none⟩ = some (.int .i64 x.gr)) (by kernel_rfl) ⟨ky1, k3⟩ (fun hHeld => ?_)
                      refine wpAnyH_take (i := 0) (oi := { dst := some 70, op := Op.move (Operand.tmp 10), type := 4, pos := "law.go:113", after := #[], guard := none }) (v := .bool false) rfl (by kernel_rfl) (by kernel_rfl) (by kernel_rfl) (fun _ _ _ h => h) (Or.inl ⟨by rfl, ?_⟩) hHeld ?_
                      · (intro w hSw; (try dsimp only at hSw); go_simp)
                      try simp only [Act.put, List.setIfInBounds_toArray, List.set_cons_zero, List.set_cons_succ]
                      refine wpAnyH_take (i := 1) (oi := { dst := some 71, op := Op.move (Operand.tmp 70), type := 4, pos := "law.go:113", after := #[{ on := 0, ground := Ground.data }], guard := none }) (v := .bool false) rfl (by kernel_rfl) (by kernel_rfl) (by kernel_rfl) (fun _ _ _ h => h) (Or.inl ⟨by rfl, ?_⟩) hHeld ?_
                      · (intro w hSw; (try dsimp only at hSw); go_simp)
                      try simp only [Act.put, List.setIfInBounds_toArray, List.set_cons_zero, List.set_cons_succ]
                      refine wpAnyH_take (i := 2) (oi := { dst := some 72, op := Op.move (Operand.tmp 7), type := 34, pos := "law.go:113", after := #[{ on := 1, ground := Ground.guard }], guard := some (1, false) }) (v := .slice (some ⟨b7, off7, none⟩) L.length lc) rfl (by kernel_rfl) (by kernel_rfl) (by kernel_rfl) (fun _ _ _ h => h) (Or.inl ⟨by rfl, ?_⟩) hHeld ?_
                      · (intro w hSw; (try dsimp only at hSw); go_simp)
                      try simp only [Act.put, List.setIfInBounds_toArray, List.set_cons_zero, List.set_cons_succ]
                      refine wpAnyH_take (i := 3) (oi := { dst := some 73, op := Op.move (Operand.tmp 11), type := 3, pos := "law.go:113", after := #[{ on := 1, ground := Ground.guard }], guard := some (1, false) }) (v := .int .i64 (k2 : Int)) rfl (by kernel_rfl) (by kernel_rfl) (by kernel_rfl) (fun _ _ _ h => h) (Or.inl ⟨by rfl, ?_⟩) hHeld ?_
                      · (intro w hSw; (try dsimp only at hSw); go_simp)
                      try simp only [Act.put, List.setIfInBounds_toArray, List.set_cons_zero, List.set_cons_succ]
                      refine wpAnyH_take (i := 4) (oi := { dst := some 74, op := Op.indexAddr 34 (Operand.tmp 72) (Operand.tmp 73), type := 0, pos := "law.go:113", after := #[{ on := 2, ground := Ground.data }, { on := 3, ground := Ground.data }, { on := 1, ground := Ground.guard }], guard := some (1, false) }) (v := .pointer (some ⟨b7, off7 + k2 * 2, none⟩)) rfl (by kernel_rfl) (by kernel_rfl) (by kernel_rfl) (fun _ _ _ h => h) (Or.inl ⟨by rfl, ?_⟩) hHeld ?_
                      · (intro w hSw; (try dsimp only at hSw); go_simp)
                      try simp only [Act.put, List.setIfInBounds_toArray, List.set_cons_zero, List.set_cons_succ]
                      refine wpAnyH_take (i := 5) (oi := { dst := some 75, op := Op.fieldAddr 40 (Operand.tmp 74) 0, type := 0, pos := "law.go:113", after := #[{ on := 4, ground := Ground.data }, { on := 1, ground := Ground.guard }], guard := some (1, false) }) (v := .pointer (some ⟨b7, off7 + k2 * 2, none⟩)) rfl (by kernel_rfl) (by kernel_rfl) (by kernel_rfl) (fun _ _ _ h => h) (Or.inl ⟨by rfl, ?_⟩) hHeld ?_
                      · (intro w hSw; (try dsimp only at hSw); go_simp)
                      try simp only [Act.put, List.setIfInBounds_toArray, List.set_cons_zero, List.set_cons_succ]
                      refine wpAnyH_take (i := 6) (oi := { dst := some 76, op := Op.load 3 (Operand.tmp 75), type := 3, pos := "law.go:113", after := #[{ on := 5, ground := Ground.data }, { on := 1, ground := Ground.guard }], guard := some (1, false) }) (v := .int .i64 y.1) rfl (by kernel_rfl) (by kernel_rfl) (by kernel_rfl) (fun _ _ _ h => h) (Or.inl ⟨by rfl, ?_⟩) hHeld ?_
                      · (intro w hSw; (try dsimp only at hSw); go_simp)
                      try simp only [Act.put, List.setIfInBounds_toArray, List.set_cons_zero, List.set_cons_succ]
                      refine wpAnyH_take (i := 7) (oi := { dst := some 77, op := Op.fieldAddr 47 (Operand.tmp 9) 3, type := 0, pos := "law.go:113", after := #[{ on := 1, ground := Ground.guard }], guard := some (1, false) }) (v := .pointer (some ⟨B9, 3, none⟩)) rfl (by kernel_rfl) (by kernel_rfl) (by kernel_rfl) (fun _ _ _ h => h) (Or.inl ⟨by rfl, ?_⟩) hHeld ?_
                      · (intro w hSw; (try dsimp only at hSw); go_simp)
                      try simp only [Act.put, List.setIfInBounds_toArray, List.set_cons_zero, List.set_cons_succ]
                      refine wpAnyH_take (i := 8) (oi := { dst := some 78, op := Op.load 3 (Operand.tmp 77), type := 3, pos := "law.go:113", after := #[{ on := 7, ground := Ground.data }, { on := 1, ground := Ground.guard }], guard := some (1, false) }) (v := .int .i64 x.gr) rfl (by kernel_rfl) (by kernel_rfl) (by kernel_rfl) (fun _ _ _ h => h) (Or.inl ⟨by rfl, ?_⟩) hHeld ?_
                      · (intro w hSw; (try dsimp only at hSw); go_simp)
                      try simp only [Act.put, List.setIfInBounds_toArray, List.set_cons_zero, List.set_cons_succ]
                      refine wpAnyH_take (i := 9) (oi := { dst := some 79, op := Op.binOp BinOp.eql 3 (Operand.tmp 76) (Operand.tmp 78) 3, type := 4, pos := "law.go:113", after := #[{ on := 6, ground := Ground.data }, { on := 8, ground := Ground.data }, { on := 1, ground := Ground.guard }], guard := some (1, false) }) (v := .bool false) rfl (by kernel_rfl) (by kernel_rfl) (by kernel_rfl) (fun _ _ _ h => h) (Or.inl ⟨by rfl, ?_⟩) hHeld ?_
                      · (intro w hSw; (try dsimp only at hSw); go_simp)
                      try simp only [Act.put, List.setIfInBounds_toArray, List.set_cons_zero, List.set_cons_succ]
                      refine wpAnyH_take (i := 10) (oi := { dst := some 80, op := Op.move (Operand.tmp 79), type := 4, pos := "law.go:113", after := #[{ on := 9, ground := Ground.data }, { on := 1, ground := Ground.chain }, { on := 1, ground := Ground.guard }], guard := some (1, false) }) (v := .bool false) rfl (by kernel_rfl) (by kernel_rfl) (by kernel_rfl) (fun _ _ _ h => h) (Or.inl ⟨by rfl, ?_⟩) hHeld ?_
                      · (intro w hSw; (try dsimp only at hSw); go_simp)
                      try simp only [Act.put, List.setIfInBounds_toArray, List.set_cons_zero, List.set_cons_succ]
                      refine wpAnyH_take (i := 11) (oi := { dst := some 81, op := Op.move (Operand.tmp 7), type := 34, pos := "law.go:113", after := #[{ on := 10, ground := Ground.guard }], guard := some (10, true) }) (v := undef) rfl (by kernel_rfl) (by kernel_rfl) (by kernel_rfl) (fun _ _ _ h => h) (Or.inr ⟨by rfl, rfl⟩) hHeld ?_
                      try simp only [Act.put, List.setIfInBounds_toArray, List.set_cons_zero, List.set_cons_succ]
                      refine wpAnyH_take (i := 12) (oi := { dst := some 82, op := Op.move (Operand.tmp 11), type := 3, pos := "law.go:113", after := #[{ on := 10, ground := Ground.guard }], guard := some (10, true) }) (v := undef) rfl (by kernel_rfl) (by kernel_rfl) (by kernel_rfl) (fun _ _ _ h => h) (Or.inr ⟨by rfl, rfl⟩) hHeld ?_
                      try simp only [Act.put, List.setIfInBounds_toArray, List.set_cons_zero, List.set_cons_succ]
                      refine wpAnyH_take (i := 13) (oi := { dst := some 83, op := Op.indexAddr 34 (Operand.tmp 81) (Operand.tmp 82), type := 0, pos := "law.go:113", after := #[{ on := 11, ground := Ground.data }, { on := 12, ground := Ground.data }, { on := 10, ground := Ground.guard }], guard := some (10, true) }) (v := undef) rfl (by kernel_rfl) (by kernel_rfl) (by kernel_rfl) (fun _ _ _ h => h) (Or.inr ⟨by rfl, rfl⟩) hHeld ?_
                      try simp only [Act.put, List.setIfInBounds_toArray, List.set_cons_zero, List.set_cons_succ]
                      refine wpAnyH_take (i := 14) (oi := { dst := some 84, op := Op.fieldAddr 40 (Operand.tmp 83) 1, type := 0, pos := "law.go:113", after := #[{ on := 13, ground := Ground.data }, { on := 10, ground := Ground.guard }], guard := some (10, true) }) (v := undef) rfl (by kernel_rfl) (by kernel_rfl) (by kernel_rfl) (fun _ _ _ h => h) (Or.inr ⟨by rfl, rfl⟩) hHeld ?_
                      try simp only [Act.put, List.setIfInBounds_toArray, List.set_cons_zero, List.set_cons_succ]
                      refine wpAnyH_take (i := 15) (oi := { dst := some 85, op := Op.load 3 (Operand.tmp 84), type := 3, pos := "law.go:113", after := #[{ on := 14, ground := Ground.data }, { on := 10, ground := Ground.guard }], guard := some (10, true) }) (v := undef) rfl (by kernel_rfl) (by kernel_rfl) (by kernel_rfl) (fun _ _ _ h => h) (Or.inr ⟨by rfl, rfl⟩) hHeld ?_
                      try simp only [Act.put, List.setIfInBounds_toArray, List.set_cons_zero, List.set_cons_succ]
                      refine wpAnyH_take (i := 16) (oi := { dst := some 86, op := Op.fieldAddr 47 (Operand.tmp 9) 4, type := 0, pos := "law.go:113", after := #[{ on := 10, ground := Ground.guard }], guard := some (10, true) }) (v := undef) rfl (by kernel_rfl) (by kernel_rfl) (by kernel_rfl) (fun _ _ _ h => h) (Or.inr ⟨by rfl, rfl⟩) hHeld ?_
                      try simp only [Act.put, List.setIfInBounds_toArray, List.set_cons_zero, List.set_cons_succ]
                      refine wpAnyH_take (i := 17) (oi := { dst := some 87, op := Op.load 3 (Operand.tmp 86), type := 3, pos := "law.go:113", after := #[{ on := 16, ground := Ground.data }, { on := 10, ground := Ground.guard }], guard := some (10, true) }) (v := undef) rfl (by kernel_rfl) (by kernel_rfl) (by kernel_rfl) (fun _ _ _ h => h) (Or.inr ⟨by rfl, rfl⟩) hHeld ?_
                      try simp only [Act.put, List.setIfInBounds_toArray, List.set_cons_zero, List.set_cons_succ]
                      refine wpAnyH_take (i := 18) (oi := { dst := some 88, op := Op.binOp BinOp.eql 3 (Operand.tmp 85) (Operand.tmp 87) 3, type := 4, pos := "law.go:113", after := #[{ on := 15, ground := Ground.data }, { on := 17, ground := Ground.data }, { on := 10, ground := Ground.guard }], guard := some (10, true) }) (v := undef) rfl (by kernel_rfl) (by kernel_rfl) (by kernel_rfl) (fun _ _ _ h => h) (Or.inr ⟨by rfl, rfl⟩) hHeld ?_
                      try simp only [Act.put, List.setIfInBounds_toArray, List.set_cons_zero, List.set_cons_succ]
                      refine wpAnyH_take (i := 19) (oi := { dst := some 89, op := Op.pick (Operand.tmp 80) (Operand.tmp 88) (Operand.const (Value.bool false)), type := 4, pos := "law.go:113", after := #[{ on := 10, ground := Ground.data }, { on := 18, ground := Ground.data }, { on := 1, ground := Ground.guard }], guard := some (1, false) }) (v := .bool false) rfl (by kernel_rfl) (by kernel_rfl) (by kernel_rfl) (fun _ _ _ h => h) (Or.inl ⟨by rfl, ?_⟩) hHeld ?_
                      · (intro w hSw; (try dsimp only at hSw); go_simp)
                      try simp only [Act.put, List.setIfInBounds_toArray, List.set_cons_zero, List.set_cons_succ]
                      refine wpAnyH_take (i := 20) (oi := { dst := some 90, op := Op.pick (Operand.tmp 71) (Operand.const (Value.bool true)) (Operand.tmp 89), type := 4, pos := "law.go:113", after := #[{ on := 1, ground := Ground.data }, { on := 19, ground := Ground.data }], guard := none }) (v := .bool false) rfl (by kernel_rfl) (by kernel_rfl) (by kernel_rfl) (fun _ _ _ h => h) (Or.inl ⟨by rfl, ?_⟩) hHeld ?_
                      · (intro w hSw; (try dsimp only at hSw); go_simp)
                      try simp only [Act.put, List.setIfInBounds_toArray, List.set_cons_zero, List.set_cons_succ]
                      refine wpAnyH_take (i := 21) (oi := { dst := some 10, op := Op.assign (Operand.tmp 90), type := 4, pos := "law.go:113", after := #[{ on := 20, ground := Ground.data }, { on := 10, ground := Ground.chain }, { on := 0, ground := Ground.phase }, { on := 1, ground := Ground.phase }, { on := 2, ground := Ground.phase }, { on := 3, ground := Ground.phase }, { on := 4, ground := Ground.phase }, { on := 5, ground := Ground.phase }, { on := 6, ground := Ground.phase }, { on := 7, ground := Ground.phase }, { on := 8, ground := Ground.phase }, { on := 9, ground := Ground.phase }, { on := 10, ground := Ground.phase }, { on := 11, ground := Ground.phase }, { on := 12, ground := Ground.phase }, { on := 13, ground := Ground.phase }, { on := 14, ground := Ground.phase }, { on := 15, ground := Ground.phase }, { on := 16, ground := Ground.phase }, { on := 17, ground := Ground.phase }, { on := 18, ground := Ground.phase }, { on := 19, ground := Ground.phase }, { on := 20, ground := Ground.phase }], guard := none }) (v := .bool false) rfl (by kernel_rfl) (by kernel_rfl) (by kernel_rfl) (fun _ _ _ h => h) (Or.inl ⟨by rfl, ?_⟩) hHeld ?_
                      · (intro w hSw; (try dsimp only at hSw); go_simp)
                      try simp only [Act.put, List.setIfInBounds_toArray, List.set_cons_zero, List.set_cons_succ]
                      refine wpAnyH_done (by kernel_rfl) ?_ _
                      go_wp2
                      go_roundw
                      case rel => exact ⟨k2 + 1, by omega, by simp, by rw [HTM.out, decide_eq_false (show ¬ y = (x.gr, x.ix) from fun e => HE.out (congrArg Prod.fst e))]; rfl, hidOf (HZ.out.trans ((bdrew wr).mono HZ.out.size))⟩
                      case measure => simp [intOf]; omega
                · have hkl : k2 = L.length := by omega
                  subst hkl
                  obtain ⟨wz, hwz⟩ : ∃ z, z = wr := ⟨_, rfl⟩
                  subst hwz
                  have HYz := HZ
                  have HTA : Hid (∀ W, Below wA.heap.size wA W → W.rangeAt B2 0 [.int .i64 ix, .int .i64 nx, .slice (some ⟨b, off, none⟩) J.length c2, .slice a3 n3 c3, .slice a4 Ln.length c4, .slice a5 A.length c5, .slice a6 n6 c6, .slice a7 n7 c7, .slice a8 n8 c8]) := hidOf fun W hW => range_of HT3.out ((hW.block B2 (by have := HB3A.out.size; omega)).trans (HB3A.out.block B2 l23))
                  have HXA : Hid (∀ W, Below wA.heap.size wA W → W.rangeAt B9 0 (Al.cs x)) := hidOf fun W hW => range_of HXA0.out (hW.block B9 l9A)
                  have HNDc := hidOf (fun W (hW : Below wA.heap.size wA W) => node_ref ⟨ix, nx, some ⟨b, off, none⟩, J.length, c2, a3, n3, c3, a4, Ln.length, c4, a5, A.length, c5, a6, n6, c6, a7, n7, c7, a8, n8, c8⟩ x.nd Ln W rfl (HN3.out.kept (fun q hq => (hW.block q (by have := HB3A.out.size; have : q < w3.heap.size := hq; omega)).trans (HB3A.out.block q hq)) (fun q hq => by have := HB3A.out.size; have := hW.size; have : q < w3.heap.size := hq; show q < W.heap.size; omega)))
                  have HSLc := hidOf (fun W (hW : Below wA.heap.size wA W) => refSlot_any ⟨ix, nx, some ⟨b, off, none⟩, J.length, c2, a3, n3, c3, a4, Ln.length, c4, a5, A.length, c5, a6, n6, c6, a7, n7, c7, a8, n8, c8⟩ job x.gr x.ix A W rfl (HA3.out.kept (fun q hq => (hW.block q (by have := HB3A.out.size; have : q < w3.heap.size := hq; omega)).trans (HB3A.out.block q hq)) (fun q hq => by have := HB3A.out.size; have := hW.size; have : q < w3.heap.size := hq; show q < W.heap.size; omega)))
                  have HALc := hidOf (fun W (hW : Below wA.heap.size wA W) => alloc_ref ⟨ix, nx, some ⟨b, off, none⟩, J.length, c2, a3, n3, c3, a4, Ln.length, c4, a5, A.length, c5, a6, n6, c6, a7, n7, c7, a8, n8, c8⟩ x.id A W rfl (HA3.out.kept (fun q hq => (hW.block q (by have := HB3A.out.size; have : q < w3.heap.size := hq; omega)).trans (HB3A.out.block q hq)) (fun q hq => by have := HB3A.out.size; have := hW.size; have : q < w3.heap.size := hq; show q < W.heap.size; omega)))
                  obtain ⟨v1, hv1⟩ : ∃ v1, fi (slB job x.gr x.ix) A = v1 := ⟨_, rfl⟩
                  obtain ⟨v2, hv2⟩ : ∃ v2, fi (fun z : Al => isI z.id x.id) A = v2 := ⟨_, rfl⟩
                  rw [hv1] at HSLc
                  rw [hv2] at HALc
                  have HV1c : Hid (fi (slB dd.id x.gr x.ix) A = v1) := hidOf (by rw [HID.out]; exact hv1)
                  have HV2c := hidOf hv2
                  clear hv1 hv2
                  have hrn := fi_rng (fun z : Nd => isI z.id x.nd) Ln
                  have t0 : wz.cell? ⟨B2, 0, none⟩ = some (.int .i64 ix) := (HTA.out _ HYz.out) 0 _ rfl
                  have t1 : wz.cell? ⟨B2, 1, none⟩ = some (.int .i64 nx) := (HTA.out _ HYz.out) 1 _ rfl
                  have t2 : wz.cell? ⟨B2, 2, none⟩ = some (.slice (some ⟨b, off, none⟩) J.length c2) := (HTA.out _ HYz.out) 2 _ rfl
                  have t3 : wz.cell? ⟨B2, 3, none⟩ = some (.slice a3 n3 c3) := (HTA.out _ HYz.out) 3 _ rfl
                  have t4 : wz.cell? ⟨B2, 4, none⟩ = some (.slice a4 Ln.length c4) := (HTA.out _ HYz.out) 4 _ rfl
                  have t5 : wz.cell? ⟨B2, 5, none⟩ = some (.slice a5 A.length c5) := (HTA.out _ HYz.out) 5 _ rfl
                  have t6 : wz.cell? ⟨B2, 6, none⟩ = some (.slice a6 n6 c6) := (HTA.out _ HYz.out) 6 _ rfl
                  have t7 : wz.cell? ⟨B2, 7, none⟩ = some (.slice a7 n7 c7) := (HTA.out _ HYz.out) 7 _ rfl
                  have t8 : wz.cell? ⟨B2, 8, none⟩ = some (.slice a8 n8 c8) := (HTA.out _ HYz.out) 8 _ rfl
                  have e0 : wz.cell? ⟨B9, 0, none⟩ = some (.int .i64 x.id) := (HXA.out _ HYz.out) 0 _ rfl
                  have e3 : wz.cell? ⟨B9, 3, none⟩ = some (.int .i64 x.gr) := (HXA.out _ HYz.out) 3 _ rfl
                  have e4 : wz.cell? ⟨B9, 4, none⟩ = some (.int .i64 x.ix) := (HXA.out _ HYz.out) 4 _ rfl
                  have e5 : wz.cell? ⟨B9, 5, none⟩ = some (.int .i64 x.nd) := (HXA.out _ HYz.out) 5 _ rfl
                  have l2 : B2 < wz.heap.size := lt_of_cell t0
                  have l9 : B9 < wz.heap.size := lt_of_cell e0
                  rw [List.take_length]
                  by_cases hin : (x.gr, x.ix) ∈ L
                  · rw [decide_eq_true hin]
                    have HIN := hidOf hin
                    clear hin
                    rcases hrn with hn1 | ⟨mn, hn1, hmn⟩
                    · rw [hn1] at HNDc
                      have HDR := hidOf (ndD_fn hn1)
                      clear hn1
                      have hg0 : decide ((0 : Int) ≤ -1) = false := by decide
                      by_cases hv1 : v1 = (k : Int)
                      · have hb1 : (v1 != (k : Int)) = false := by simp [hv1]
                        have HV1 := hidOf hv1
                        clear hv1
                        by_cases hv2 : v2 = (k : Int)
                        · have hb2 : (v2 != (k : Int)) = false := by simp [hv2]
                          have HV2 := hidOf hv2
                          clear hv2
                          go_wp2_with (first | (go_at_call 16; refine (HNDc.out _ HYz.out).mono ?_; rintro e wn ⟨rfl, hb⟩; have HYwn := hidOf (HYz.out.trans (hb.mono HYz.out.size)); clear hb; clear t0 t1 t2 t3 t4 t5 t6 t7 t8 l2 e0 e3 e4 e5 l9; have t0 : wn.cell? ⟨B2, 0, none⟩ = some (.int .i64 ix) := (HTA.out _ HYwn.out) 0 _ rfl; have t1 : wn.cell? ⟨B2, 1, none⟩ = some (.int .i64 nx) := (HTA.out _ HYwn.out) 1 _ rfl; have t2 : wn.cell? ⟨B2, 2, none⟩ = some (.slice (some ⟨b, off, none⟩) J.length c2) := (HTA.out _ HYwn.out) 2 _ rfl; have t3 : wn.cell? ⟨B2, 3, none⟩ = some (.slice a3 n3 c3) := (HTA.out _ HYwn.out) 3 _ rfl; have t4 : wn.cell? ⟨B2, 4, none⟩ = some (.slice a4 Ln.length c4) := (HTA.out _ HYwn.out) 4 _ rfl; have t5 : wn.cell? ⟨B2, 5, none⟩ = some (.slice a5 A.length c5) := (HTA.out _ HYwn.out) 5 _ rfl; have t6 : wn.cell? ⟨B2, 6, none⟩ = some (.slice a6 n6 c6) := (HTA.out _ HYwn.out) 6 _ rfl; have t7 : wn.cell? ⟨B2, 7, none⟩ = some (.slice a7 n7 c7) := (HTA.out _ HYwn.out) 7 _ rfl; have t8 : wn.cell? ⟨B2, 8, none⟩ = some (.slice a8 n8 c8) := (HTA.out _ HYwn.out) 8 _ rfl; have e0 : wn.cell? ⟨B9, 0, none⟩ = some (.int .i64 x.id) := (HXA.out _ HYwn.out) 0 _ rfl; have e3 : wn.cell? ⟨B9, 3, none⟩ = some (.int .i64 x.gr) := (HXA.out _ HYwn.out) 3 _ rfl; have e4 : wn.cell? ⟨B9, 4, none⟩ = some (.int .i64 x.ix) := (HXA.out _ HYwn.out) 4 _ rfl; have e5 : wn.cell? ⟨B9, 5, none⟩ = some (.int .i64 x.nd) := (HXA.out _ HYwn.out) 5 _ rfl; have l2 := lt_of_cell t0; have l9 := lt_of_cell e0) | (go_at_call 13; refine (HSLc.out _ HYwn.out).mono ?_; rintro e wm ⟨rfl, hb⟩; have HYwm := hidOf (HYwn.out.trans (hb.mono HYwn.out.size)); clear hb; clear t0 t1 t2 t3 t4 t5 t6 t7 t8 l2 e0 e3 e4 e5 l9; have t0 : wm.cell? ⟨B2, 0, none⟩ = some (.int .i64 ix) := (HTA.out _ HYwm.out) 0 _ rfl; have t1 : wm.cell? ⟨B2, 1, none⟩ = some (.int .i64 nx) := (HTA.out _ HYwm.out) 1 _ rfl; have t2 : wm.cell? ⟨B2, 2, none⟩ = some (.slice (some ⟨b, off, none⟩) J.length c2) := (HTA.out _ HYwm.out) 2 _ rfl; have t3 : wm.cell? ⟨B2, 3, none⟩ = some (.slice a3 n3 c3) := (HTA.out _ HYwm.out) 3 _ rfl; have t4 : wm.cell? ⟨B2, 4, none⟩ = some (.slice a4 Ln.length c4) := (HTA.out _ HYwm.out) 4 _ rfl; have t5 : wm.cell? ⟨B2, 5, none⟩ = some (.slice a5 A.length c5) := (HTA.out _ HYwm.out) 5 _ rfl; have t6 : wm.cell? ⟨B2, 6, none⟩ = some (.slice a6 n6 c6) := (HTA.out _ HYwm.out) 6 _ rfl; have t7 : wm.cell? ⟨B2, 7, none⟩ = some (.slice a7 n7 c7) := (HTA.out _ HYwm.out) 7 _ rfl; have t8 : wm.cell? ⟨B2, 8, none⟩ = some (.slice a8 n8 c8) := (HTA.out _ HYwm.out) 8 _ rfl; have e0 : wm.cell? ⟨B9, 0, none⟩ = some (.int .i64 x.id) := (HXA.out _ HYwm.out) 0 _ rfl; have e3 : wm.cell? ⟨B9, 3, none⟩ = some (.int .i64 x.gr) := (HXA.out _ HYwm.out) 3 _ rfl; have e4 : wm.cell? ⟨B9, 4, none⟩ = some (.int .i64 x.ix) := (HXA.out _ HYwm.out) 4 _ rfl; have e5 : wm.cell? ⟨B9, 5, none⟩ = some (.int .i64 x.nd) := (HXA.out _ HYwm.out) 5 _ rfl; have l2 := lt_of_cell t0; have l9 := lt_of_cell e0) | (go_at_call 17; refine (HALc.out _ HYwm.out).mono ?_; rintro e wo ⟨rfl, hb⟩; have HYwo := hidOf (HYwm.out.trans (hb.mono HYwm.out.size)); clear hb; clear t0 t1 t2 t3 t4 t5 t6 t7 t8 l2 e0 e3 e4 e5 l9; have t0 : wo.cell? ⟨B2, 0, none⟩ = some (.int .i64 ix) := (HTA.out _ HYwo.out) 0 _ rfl; have t1 : wo.cell? ⟨B2, 1, none⟩ = some (.int .i64 nx) := (HTA.out _ HYwo.out) 1 _ rfl; have t2 : wo.cell? ⟨B2, 2, none⟩ = some (.slice (some ⟨b, off, none⟩) J.length c2) := (HTA.out _ HYwo.out) 2 _ rfl; have t3 : wo.cell? ⟨B2, 3, none⟩ = some (.slice a3 n3 c3) := (HTA.out _ HYwo.out) 3 _ rfl; have t4 : wo.cell? ⟨B2, 4, none⟩ = some (.slice a4 Ln.length c4) := (HTA.out _ HYwo.out) 4 _ rfl; have t5 : wo.cell? ⟨B2, 5, none⟩ = some (.slice a5 A.length c5) := (HTA.out _ HYwo.out) 5 _ rfl; have t6 : wo.cell? ⟨B2, 6, none⟩ = some (.slice a6 n6 c6) := (HTA.out _ HYwo.out) 6 _ rfl; have t7 : wo.cell? ⟨B2, 7, none⟩ = some (.slice a7 n7 c7) := (HTA.out _ HYwo.out) 7 _ rfl; have t8 : wo.cell? ⟨B2, 8, none⟩ = some (.slice a8 n8 c8) := (HTA.out _ HYwo.out) 8 _ rfl; have e0 : wo.cell? ⟨B9, 0, none⟩ = some (.int .i64 x.id) := (HXA.out _ HYwo.out) 0 _ rfl; have e3 : wo.cell? ⟨B9, 3, none⟩ = some (.int .i64 x.gr) := (HXA.out _ HYwo.out) 3 _ rfl; have e4 : wo.cell? ⟨B9, 4, none⟩ = some (.int .i64 x.ix) := (HXA.out _ HYwo.out) 4 _ rfl; have e5 : wo.cell? ⟨B9, 5, none⟩ = some (.int .i64 x.nd) := (HXA.out _ HYwo.out) 5 _ rfl; have l2 := lt_of_cell t0; have l9 := lt_of_cell e0))
                          go_roundw
                          case rel => exact ⟨k + 1, by omega, by simp, hidOf (HRP.out.more x hlt HXE.out (fun h1 h2 => ⟨HIN.out, HDR.out, HV1c.out.trans HV1.out, HV2c.out.trans HV2.out⟩)), hidOf (HBr.out.trans ((HZA.out.trans (HYwo.out.mono HZA.out.size)).mono HBr.out.size))⟩
                          case measure => simp [intOf]; omega
                        · have hb2 : (v2 != (k : Int)) = true := by simp [hv2]
                          clear hv2
                          go_wp2_with (first | (go_at_call 16; refine (HNDc.out _ HYz.out).mono ?_; rintro e wn ⟨rfl, hb⟩; have HYwn := hidOf (HYz.out.trans (hb.mono HYz.out.size)); clear hb; clear t0 t1 t2 t3 t4 t5 t6 t7 t8 l2 e0 e3 e4 e5 l9; have t0 : wn.cell? ⟨B2, 0, none⟩ = some (.int .i64 ix) := (HTA.out _ HYwn.out) 0 _ rfl; have t1 : wn.cell? ⟨B2, 1, none⟩ = some (.int .i64 nx) := (HTA.out _ HYwn.out) 1 _ rfl; have t2 : wn.cell? ⟨B2, 2, none⟩ = some (.slice (some ⟨b, off, none⟩) J.length c2) := (HTA.out _ HYwn.out) 2 _ rfl; have t3 : wn.cell? ⟨B2, 3, none⟩ = some (.slice a3 n3 c3) := (HTA.out _ HYwn.out) 3 _ rfl; have t4 : wn.cell? ⟨B2, 4, none⟩ = some (.slice a4 Ln.length c4) := (HTA.out _ HYwn.out) 4 _ rfl; have t5 : wn.cell? ⟨B2, 5, none⟩ = some (.slice a5 A.length c5) := (HTA.out _ HYwn.out) 5 _ rfl; have t6 : wn.cell? ⟨B2, 6, none⟩ = some (.slice a6 n6 c6) := (HTA.out _ HYwn.out) 6 _ rfl; have t7 : wn.cell? ⟨B2, 7, none⟩ = some (.slice a7 n7 c7) := (HTA.out _ HYwn.out) 7 _ rfl; have t8 : wn.cell? ⟨B2, 8, none⟩ = some (.slice a8 n8 c8) := (HTA.out _ HYwn.out) 8 _ rfl; have e0 : wn.cell? ⟨B9, 0, none⟩ = some (.int .i64 x.id) := (HXA.out _ HYwn.out) 0 _ rfl; have e3 : wn.cell? ⟨B9, 3, none⟩ = some (.int .i64 x.gr) := (HXA.out _ HYwn.out) 3 _ rfl; have e4 : wn.cell? ⟨B9, 4, none⟩ = some (.int .i64 x.ix) := (HXA.out _ HYwn.out) 4 _ rfl; have e5 : wn.cell? ⟨B9, 5, none⟩ = some (.int .i64 x.nd) := (HXA.out _ HYwn.out) 5 _ rfl; have l2 := lt_of_cell t0; have l9 := lt_of_cell e0) | (go_at_call 13; refine (HSLc.out _ HYwn.out).mono ?_; rintro e wm ⟨rfl, hb⟩; have HYwm := hidOf (HYwn.out.trans (hb.mono HYwn.out.size)); clear hb; clear t0 t1 t2 t3 t4 t5 t6 t7 t8 l2 e0 e3 e4 e5 l9; have t0 : wm.cell? ⟨B2, 0, none⟩ = some (.int .i64 ix) := (HTA.out _ HYwm.out) 0 _ rfl; have t1 : wm.cell? ⟨B2, 1, none⟩ = some (.int .i64 nx) := (HTA.out _ HYwm.out) 1 _ rfl; have t2 : wm.cell? ⟨B2, 2, none⟩ = some (.slice (some ⟨b, off, none⟩) J.length c2) := (HTA.out _ HYwm.out) 2 _ rfl; have t3 : wm.cell? ⟨B2, 3, none⟩ = some (.slice a3 n3 c3) := (HTA.out _ HYwm.out) 3 _ rfl; have t4 : wm.cell? ⟨B2, 4, none⟩ = some (.slice a4 Ln.length c4) := (HTA.out _ HYwm.out) 4 _ rfl; have t5 : wm.cell? ⟨B2, 5, none⟩ = some (.slice a5 A.length c5) := (HTA.out _ HYwm.out) 5 _ rfl; have t6 : wm.cell? ⟨B2, 6, none⟩ = some (.slice a6 n6 c6) := (HTA.out _ HYwm.out) 6 _ rfl; have t7 : wm.cell? ⟨B2, 7, none⟩ = some (.slice a7 n7 c7) := (HTA.out _ HYwm.out) 7 _ rfl; have t8 : wm.cell? ⟨B2, 8, none⟩ = some (.slice a8 n8 c8) := (HTA.out _ HYwm.out) 8 _ rfl; have e0 : wm.cell? ⟨B9, 0, none⟩ = some (.int .i64 x.id) := (HXA.out _ HYwm.out) 0 _ rfl; have e3 : wm.cell? ⟨B9, 3, none⟩ = some (.int .i64 x.gr) := (HXA.out _ HYwm.out) 3 _ rfl; have e4 : wm.cell? ⟨B9, 4, none⟩ = some (.int .i64 x.ix) := (HXA.out _ HYwm.out) 4 _ rfl; have e5 : wm.cell? ⟨B9, 5, none⟩ = some (.int .i64 x.nd) := (HXA.out _ HYwm.out) 5 _ rfl; have l2 := lt_of_cell t0; have l9 := lt_of_cell e0) | (go_at_call 17; refine (HALc.out _ HYwm.out).mono ?_; rintro e wo ⟨rfl, hb⟩; have HYwo := hidOf (HYwm.out.trans (hb.mono HYwm.out.size)); clear hb; clear t0 t1 t2 t3 t4 t5 t6 t7 t8 l2 e0 e3 e4 e5 l9; have t0 : wo.cell? ⟨B2, 0, none⟩ = some (.int .i64 ix) := (HTA.out _ HYwo.out) 0 _ rfl; have t1 : wo.cell? ⟨B2, 1, none⟩ = some (.int .i64 nx) := (HTA.out _ HYwo.out) 1 _ rfl; have t2 : wo.cell? ⟨B2, 2, none⟩ = some (.slice (some ⟨b, off, none⟩) J.length c2) := (HTA.out _ HYwo.out) 2 _ rfl; have t3 : wo.cell? ⟨B2, 3, none⟩ = some (.slice a3 n3 c3) := (HTA.out _ HYwo.out) 3 _ rfl; have t4 : wo.cell? ⟨B2, 4, none⟩ = some (.slice a4 Ln.length c4) := (HTA.out _ HYwo.out) 4 _ rfl; have t5 : wo.cell? ⟨B2, 5, none⟩ = some (.slice a5 A.length c5) := (HTA.out _ HYwo.out) 5 _ rfl; have t6 : wo.cell? ⟨B2, 6, none⟩ = some (.slice a6 n6 c6) := (HTA.out _ HYwo.out) 6 _ rfl; have t7 : wo.cell? ⟨B2, 7, none⟩ = some (.slice a7 n7 c7) := (HTA.out _ HYwo.out) 7 _ rfl; have t8 : wo.cell? ⟨B2, 8, none⟩ = some (.slice a8 n8 c8) := (HTA.out _ HYwo.out) 8 _ rfl; have e0 : wo.cell? ⟨B9, 0, none⟩ = some (.int .i64 x.id) := (HXA.out _ HYwo.out) 0 _ rfl; have e3 : wo.cell? ⟨B9, 3, none⟩ = some (.int .i64 x.gr) := (HXA.out _ HYwo.out) 3 _ rfl; have e4 : wo.cell? ⟨B9, 4, none⟩ = some (.int .i64 x.ix) := (HXA.out _ HYwo.out) 4 _ rfl; have e5 : wo.cell? ⟨B9, 5, none⟩ = some (.int .i64 x.nd) := (HXA.out _ HYwo.out) 5 _ rfl; have l2 := lt_of_cell t0; have l9 := lt_of_cell e0) | (go_at_call 12; refine (lives_any _).mono ?_; rintro e wl ⟨rfl, hbl⟩; have HBL := hidOf hbl; clear hbl))
                          go_ret
                          exact ⟨rfl, (HWA.out.trans (HYwo.out.mono HWA.out.size)).trans (HBL.out.mono (by have := HWA.out.size; have := HYwo.out.size; omega))⟩
                      · have hb1 : (v1 != (k : Int)) = true := by simp [hv1]
                        clear hv1
                        go_wp2_with (first | (go_at_call 16; refine (HNDc.out _ HYz.out).mono ?_; rintro e wn ⟨rfl, hb⟩; have HYwn := hidOf (HYz.out.trans (hb.mono HYz.out.size)); clear hb; clear t0 t1 t2 t3 t4 t5 t6 t7 t8 l2 e0 e3 e4 e5 l9; have t0 : wn.cell? ⟨B2, 0, none⟩ = some (.int .i64 ix) := (HTA.out _ HYwn.out) 0 _ rfl; have t1 : wn.cell? ⟨B2, 1, none⟩ = some (.int .i64 nx) := (HTA.out _ HYwn.out) 1 _ rfl; have t2 : wn.cell? ⟨B2, 2, none⟩ = some (.slice (some ⟨b, off, none⟩) J.length c2) := (HTA.out _ HYwn.out) 2 _ rfl; have t3 : wn.cell? ⟨B2, 3, none⟩ = some (.slice a3 n3 c3) := (HTA.out _ HYwn.out) 3 _ rfl; have t4 : wn.cell? ⟨B2, 4, none⟩ = some (.slice a4 Ln.length c4) := (HTA.out _ HYwn.out) 4 _ rfl; have t5 : wn.cell? ⟨B2, 5, none⟩ = some (.slice a5 A.length c5) := (HTA.out _ HYwn.out) 5 _ rfl; have t6 : wn.cell? ⟨B2, 6, none⟩ = some (.slice a6 n6 c6) := (HTA.out _ HYwn.out) 6 _ rfl; have t7 : wn.cell? ⟨B2, 7, none⟩ = some (.slice a7 n7 c7) := (HTA.out _ HYwn.out) 7 _ rfl; have t8 : wn.cell? ⟨B2, 8, none⟩ = some (.slice a8 n8 c8) := (HTA.out _ HYwn.out) 8 _ rfl; have e0 : wn.cell? ⟨B9, 0, none⟩ = some (.int .i64 x.id) := (HXA.out _ HYwn.out) 0 _ rfl; have e3 : wn.cell? ⟨B9, 3, none⟩ = some (.int .i64 x.gr) := (HXA.out _ HYwn.out) 3 _ rfl; have e4 : wn.cell? ⟨B9, 4, none⟩ = some (.int .i64 x.ix) := (HXA.out _ HYwn.out) 4 _ rfl; have e5 : wn.cell? ⟨B9, 5, none⟩ = some (.int .i64 x.nd) := (HXA.out _ HYwn.out) 5 _ rfl; have l2 := lt_of_cell t0; have l9 := lt_of_cell e0) | (go_at_call 13; refine (HSLc.out _ HYwn.out).mono ?_; rintro e wm ⟨rfl, hb⟩; have HYwm := hidOf (HYwn.out.trans (hb.mono HYwn.out.size)); clear hb; clear t0 t1 t2 t3 t4 t5 t6 t7 t8 l2 e0 e3 e4 e5 l9; have t0 : wm.cell? ⟨B2, 0, none⟩ = some (.int .i64 ix) := (HTA.out _ HYwm.out) 0 _ rfl; have t1 : wm.cell? ⟨B2, 1, none⟩ = some (.int .i64 nx) := (HTA.out _ HYwm.out) 1 _ rfl; have t2 : wm.cell? ⟨B2, 2, none⟩ = some (.slice (some ⟨b, off, none⟩) J.length c2) := (HTA.out _ HYwm.out) 2 _ rfl; have t3 : wm.cell? ⟨B2, 3, none⟩ = some (.slice a3 n3 c3) := (HTA.out _ HYwm.out) 3 _ rfl; have t4 : wm.cell? ⟨B2, 4, none⟩ = some (.slice a4 Ln.length c4) := (HTA.out _ HYwm.out) 4 _ rfl; have t5 : wm.cell? ⟨B2, 5, none⟩ = some (.slice a5 A.length c5) := (HTA.out _ HYwm.out) 5 _ rfl; have t6 : wm.cell? ⟨B2, 6, none⟩ = some (.slice a6 n6 c6) := (HTA.out _ HYwm.out) 6 _ rfl; have t7 : wm.cell? ⟨B2, 7, none⟩ = some (.slice a7 n7 c7) := (HTA.out _ HYwm.out) 7 _ rfl; have t8 : wm.cell? ⟨B2, 8, none⟩ = some (.slice a8 n8 c8) := (HTA.out _ HYwm.out) 8 _ rfl; have e0 : wm.cell? ⟨B9, 0, none⟩ = some (.int .i64 x.id) := (HXA.out _ HYwm.out) 0 _ rfl; have e3 : wm.cell? ⟨B9, 3, none⟩ = some (.int .i64 x.gr) := (HXA.out _ HYwm.out) 3 _ rfl; have e4 : wm.cell? ⟨B9, 4, none⟩ = some (.int .i64 x.ix) := (HXA.out _ HYwm.out) 4 _ rfl; have e5 : wm.cell? ⟨B9, 5, none⟩ = some (.int .i64 x.nd) := (HXA.out _ HYwm.out) 5 _ rfl; have l2 := lt_of_cell t0; have l9 := lt_of_cell e0) | (go_at_call 12; refine (lives_any _).mono ?_; rintro e wl ⟨rfl, hbl⟩; have HBL := hidOf hbl; clear hbl))
                        go_ret
                        exact ⟨rfl, (HWA.out.trans (HYwm.out.mono HWA.out.size)).trans (HBL.out.mono (by have := HWA.out.size; have := HYwm.out.size; omega))⟩
                    · rw [hn1] at HNDc
                      have hdr := ndD_fi hn1 hmn
                      clear hn1
                      obtain ⟨bn, offn, han, hQn, hcn⟩ := HN3.out.at mn hmn
                      have hQn' : bn < w3.heap.size := hQn
                      obtain ⟨nd, hnd⟩ : ∃ nd, Ln[mn] = nd := ⟨_, rfl⟩
                      rw [hnd] at hcn hdr
                      have HDR := hidOf hdr
                      clear hnd hdr
                      subst han
                      have HDC : Hid (∀ W, Below wA.heap.size wA W → W.cell? ⟨bn, offn + mn * 8 + 4, none⟩ = some (.bool nd.dr)) := hidOf fun W hW => (hb_cell hW (by have := HB3A.out.size; omega)).trans ((hb_cell HB3A.out hQn').trans (hcn 4 _ rfl))
                      clear hcn hQn
                      have hg0 : decide ((0 : Int) ≤ (mn : Int)) = true := by simp
                      have hm0 : ¬ ((mn : Int) < 0) := by omega
                      have hm1 : (mn : Int) < (Ln.length : Int) := by omega
                      cases hdd : nd.dr with
                      | true =>
                        rw [hdd] at HDC
                        go_wp2_with (first | (go_at_call 16; refine (HNDc.out _ HYz.out).mono ?_; rintro e wn ⟨rfl, hb⟩; have HYwn := hidOf (HYz.out.trans (hb.mono HYz.out.size)); clear hb; clear t0 t1 t2 t3 t4 t5 t6 t7 t8 l2 e0 e3 e4 e5 l9; have t0 : wn.cell? ⟨B2, 0, none⟩ = some (.int .i64 ix) := (HTA.out _ HYwn.out) 0 _ rfl; have t1 : wn.cell? ⟨B2, 1, none⟩ = some (.int .i64 nx) := (HTA.out _ HYwn.out) 1 _ rfl; have t2 : wn.cell? ⟨B2, 2, none⟩ = some (.slice (some ⟨b, off, none⟩) J.length c2) := (HTA.out _ HYwn.out) 2 _ rfl; have t3 : wn.cell? ⟨B2, 3, none⟩ = some (.slice a3 n3 c3) := (HTA.out _ HYwn.out) 3 _ rfl; have t4 : wn.cell? ⟨B2, 4, none⟩ = some (.slice (some ⟨bn, offn, none⟩) Ln.length c4) := (HTA.out _ HYwn.out) 4 _ rfl; have t5 : wn.cell? ⟨B2, 5, none⟩ = some (.slice a5 A.length c5) := (HTA.out _ HYwn.out) 5 _ rfl; have t6 : wn.cell? ⟨B2, 6, none⟩ = some (.slice a6 n6 c6) := (HTA.out _ HYwn.out) 6 _ rfl; have t7 : wn.cell? ⟨B2, 7, none⟩ = some (.slice a7 n7 c7) := (HTA.out _ HYwn.out) 7 _ rfl; have t8 : wn.cell? ⟨B2, 8, none⟩ = some (.slice a8 n8 c8) := (HTA.out _ HYwn.out) 8 _ rfl; have e0 : wn.cell? ⟨B9, 0, none⟩ = some (.int .i64 x.id) := (HXA.out _ HYwn.out) 0 _ rfl; have e3 : wn.cell? ⟨B9, 3, none⟩ = some (.int .i64 x.gr) := (HXA.out _ HYwn.out) 3 _ rfl; have e4 : wn.cell? ⟨B9, 4, none⟩ = some (.int .i64 x.ix) := (HXA.out _ HYwn.out) 4 _ rfl; have e5 : wn.cell? ⟨B9, 5, none⟩ = some (.int .i64 x.nd) := (HXA.out _ HYwn.out) 5 _ rfl; have l2 := lt_of_cell t0; have l9 := lt_of_cell e0; have d4 := HDC.out _ HYwn.out; have ln := lt_of_cell d4) | (go_at_call 12; refine (lives_any _).mono ?_; rintro e wl ⟨rfl, hbl⟩; have HBL := hidOf hbl; clear hbl))
                        go_ret
                        exact ⟨rfl, (HWA.out.trans (HYwn.out.mono HWA.out.size)).trans (HBL.out.mono (by have := HWA.out.size; have := HYwn.out.size; omega))⟩
                      | false =>
                        rw [hdd] at HDC HDR
                        by_cases hv1 : v1 = (k : Int)
                        · have hb1 : (v1 != (k : Int)) = false := by simp [hv1]
                          have HV1 := hidOf hv1
                          clear hv1
                          by_cases hv2 : v2 = (k : Int)
                          · have hb2 : (v2 != (k : Int)) = false := by simp [hv2]
                            have HV2 := hidOf hv2
                            clear hv2
                            go_wp2_with (first | (go_at_call 16; refine (HNDc.out _ HYz.out).mono ?_; rintro e wn ⟨rfl, hb⟩; have HYwn := hidOf (HYz.out.trans (hb.mono HYz.out.size)); clear hb; clear t0 t1 t2 t3 t4 t5 t6 t7 t8 l2 e0 e3 e4 e5 l9; have t0 : wn.cell? ⟨B2, 0, none⟩ = some (.int .i64 ix) := (HTA.out _ HYwn.out) 0 _ rfl; have t1 : wn.cell? ⟨B2, 1, none⟩ = some (.int .i64 nx) := (HTA.out _ HYwn.out) 1 _ rfl; have t2 : wn.cell? ⟨B2, 2, none⟩ = some (.slice (some ⟨b, off, none⟩) J.length c2) := (HTA.out _ HYwn.out) 2 _ rfl; have t3 : wn.cell? ⟨B2, 3, none⟩ = some (.slice a3 n3 c3) := (HTA.out _ HYwn.out) 3 _ rfl; have t4 : wn.cell? ⟨B2, 4, none⟩ = some (.slice (some ⟨bn, offn, none⟩) Ln.length c4) := (HTA.out _ HYwn.out) 4 _ rfl; have t5 : wn.cell? ⟨B2, 5, none⟩ = some (.slice a5 A.length c5) := (HTA.out _ HYwn.out) 5 _ rfl; have t6 : wn.cell? ⟨B2, 6, none⟩ = some (.slice a6 n6 c6) := (HTA.out _ HYwn.out) 6 _ rfl; have t7 : wn.cell? ⟨B2, 7, none⟩ = some (.slice a7 n7 c7) := (HTA.out _ HYwn.out) 7 _ rfl; have t8 : wn.cell? ⟨B2, 8, none⟩ = some (.slice a8 n8 c8) := (HTA.out _ HYwn.out) 8 _ rfl; have e0 : wn.cell? ⟨B9, 0, none⟩ = some (.int .i64 x.id) := (HXA.out _ HYwn.out) 0 _ rfl; have e3 : wn.cell? ⟨B9, 3, none⟩ = some (.int .i64 x.gr) := (HXA.out _ HYwn.out) 3 _ rfl; have e4 : wn.cell? ⟨B9, 4, none⟩ = some (.int .i64 x.ix) := (HXA.out _ HYwn.out) 4 _ rfl; have e5 : wn.cell? ⟨B9, 5, none⟩ = some (.int .i64 x.nd) := (HXA.out _ HYwn.out) 5 _ rfl; have l2 := lt_of_cell t0; have l9 := lt_of_cell e0; have d4 := HDC.out _ HYwn.out; have ln := lt_of_cell d4) | (go_at_call 13; refine (HSLc.out _ HYwn.out).mono ?_; rintro e wm ⟨rfl, hb⟩; have HYwm := hidOf (HYwn.out.trans (hb.mono HYwn.out.size)); clear hb; clear t0 t1 t2 t3 t4 t5 t6 t7 t8 l2 e0 e3 e4 e5 l9; have t0 : wm.cell? ⟨B2, 0, none⟩ = some (.int .i64 ix) := (HTA.out _ HYwm.out) 0 _ rfl; have t1 : wm.cell? ⟨B2, 1, none⟩ = some (.int .i64 nx) := (HTA.out _ HYwm.out) 1 _ rfl; have t2 : wm.cell? ⟨B2, 2, none⟩ = some (.slice (some ⟨b, off, none⟩) J.length c2) := (HTA.out _ HYwm.out) 2 _ rfl; have t3 : wm.cell? ⟨B2, 3, none⟩ = some (.slice a3 n3 c3) := (HTA.out _ HYwm.out) 3 _ rfl; have t4 : wm.cell? ⟨B2, 4, none⟩ = some (.slice (some ⟨bn, offn, none⟩) Ln.length c4) := (HTA.out _ HYwm.out) 4 _ rfl; have t5 : wm.cell? ⟨B2, 5, none⟩ = some (.slice a5 A.length c5) := (HTA.out _ HYwm.out) 5 _ rfl; have t6 : wm.cell? ⟨B2, 6, none⟩ = some (.slice a6 n6 c6) := (HTA.out _ HYwm.out) 6 _ rfl; have t7 : wm.cell? ⟨B2, 7, none⟩ = some (.slice a7 n7 c7) := (HTA.out _ HYwm.out) 7 _ rfl; have t8 : wm.cell? ⟨B2, 8, none⟩ = some (.slice a8 n8 c8) := (HTA.out _ HYwm.out) 8 _ rfl; have e0 : wm.cell? ⟨B9, 0, none⟩ = some (.int .i64 x.id) := (HXA.out _ HYwm.out) 0 _ rfl; have e3 : wm.cell? ⟨B9, 3, none⟩ = some (.int .i64 x.gr) := (HXA.out _ HYwm.out) 3 _ rfl; have e4 : wm.cell? ⟨B9, 4, none⟩ = some (.int .i64 x.ix) := (HXA.out _ HYwm.out) 4 _ rfl; have e5 : wm.cell? ⟨B9, 5, none⟩ = some (.int .i64 x.nd) := (HXA.out _ HYwm.out) 5 _ rfl; have l2 := lt_of_cell t0; have l9 := lt_of_cell e0) | (go_at_call 17; refine (HALc.out _ HYwm.out).mono ?_; rintro e wo ⟨rfl, hb⟩; have HYwo := hidOf (HYwm.out.trans (hb.mono HYwm.out.size)); clear hb; clear t0 t1 t2 t3 t4 t5 t6 t7 t8 l2 e0 e3 e4 e5 l9; have t0 : wo.cell? ⟨B2, 0, none⟩ = some (.int .i64 ix) := (HTA.out _ HYwo.out) 0 _ rfl; have t1 : wo.cell? ⟨B2, 1, none⟩ = some (.int .i64 nx) := (HTA.out _ HYwo.out) 1 _ rfl; have t2 : wo.cell? ⟨B2, 2, none⟩ = some (.slice (some ⟨b, off, none⟩) J.length c2) := (HTA.out _ HYwo.out) 2 _ rfl; have t3 : wo.cell? ⟨B2, 3, none⟩ = some (.slice a3 n3 c3) := (HTA.out _ HYwo.out) 3 _ rfl; have t4 : wo.cell? ⟨B2, 4, none⟩ = some (.slice (some ⟨bn, offn, none⟩) Ln.length c4) := (HTA.out _ HYwo.out) 4 _ rfl; have t5 : wo.cell? ⟨B2, 5, none⟩ = some (.slice a5 A.length c5) := (HTA.out _ HYwo.out) 5 _ rfl; have t6 : wo.cell? ⟨B2, 6, none⟩ = some (.slice a6 n6 c6) := (HTA.out _ HYwo.out) 6 _ rfl; have t7 : wo.cell? ⟨B2, 7, none⟩ = some (.slice a7 n7 c7) := (HTA.out _ HYwo.out) 7 _ rfl; have t8 : wo.cell? ⟨B2, 8, none⟩ = some (.slice a8 n8 c8) := (HTA.out _ HYwo.out) 8 _ rfl; have e0 : wo.cell? ⟨B9, 0, none⟩ = some (.int .i64 x.id) := (HXA.out _ HYwo.out) 0 _ rfl; have e3 : wo.cell? ⟨B9, 3, none⟩ = some (.int .i64 x.gr) := (HXA.out _ HYwo.out) 3 _ rfl; have e4 : wo.cell? ⟨B9, 4, none⟩ = some (.int .i64 x.ix) := (HXA.out _ HYwo.out) 4 _ rfl; have e5 : wo.cell? ⟨B9, 5, none⟩ = some (.int .i64 x.nd) := (HXA.out _ HYwo.out) 5 _ rfl; have l2 := lt_of_cell t0; have l9 := lt_of_cell e0))
                            go_roundw
                            case rel => exact ⟨k + 1, by omega, by simp, hidOf (HRP.out.more x hlt HXE.out (fun h1 h2 => ⟨HIN.out, HDR.out, HV1c.out.trans HV1.out, HV2c.out.trans HV2.out⟩)), hidOf (HBr.out.trans ((HZA.out.trans (HYwo.out.mono HZA.out.size)).mono HBr.out.size))⟩
                            case measure => simp [intOf]; omega
                          · have hb2 : (v2 != (k : Int)) = true := by simp [hv2]
                            clear hv2
                            go_wp2_with (first | (go_at_call 16; refine (HNDc.out _ HYz.out).mono ?_; rintro e wn ⟨rfl, hb⟩; have HYwn := hidOf (HYz.out.trans (hb.mono HYz.out.size)); clear hb; clear t0 t1 t2 t3 t4 t5 t6 t7 t8 l2 e0 e3 e4 e5 l9; have t0 : wn.cell? ⟨B2, 0, none⟩ = some (.int .i64 ix) := (HTA.out _ HYwn.out) 0 _ rfl; have t1 : wn.cell? ⟨B2, 1, none⟩ = some (.int .i64 nx) := (HTA.out _ HYwn.out) 1 _ rfl; have t2 : wn.cell? ⟨B2, 2, none⟩ = some (.slice (some ⟨b, off, none⟩) J.length c2) := (HTA.out _ HYwn.out) 2 _ rfl; have t3 : wn.cell? ⟨B2, 3, none⟩ = some (.slice a3 n3 c3) := (HTA.out _ HYwn.out) 3 _ rfl; have t4 : wn.cell? ⟨B2, 4, none⟩ = some (.slice (some ⟨bn, offn, none⟩) Ln.length c4) := (HTA.out _ HYwn.out) 4 _ rfl; have t5 : wn.cell? ⟨B2, 5, none⟩ = some (.slice a5 A.length c5) := (HTA.out _ HYwn.out) 5 _ rfl; have t6 : wn.cell? ⟨B2, 6, none⟩ = some (.slice a6 n6 c6) := (HTA.out _ HYwn.out) 6 _ rfl; have t7 : wn.cell? ⟨B2, 7, none⟩ = some (.slice a7 n7 c7) := (HTA.out _ HYwn.out) 7 _ rfl; have t8 : wn.cell? ⟨B2, 8, none⟩ = some (.slice a8 n8 c8) := (HTA.out _ HYwn.out) 8 _ rfl; have e0 : wn.cell? ⟨B9, 0, none⟩ = some (.int .i64 x.id) := (HXA.out _ HYwn.out) 0 _ rfl; have e3 : wn.cell? ⟨B9, 3, none⟩ = some (.int .i64 x.gr) := (HXA.out _ HYwn.out) 3 _ rfl; have e4 : wn.cell? ⟨B9, 4, none⟩ = some (.int .i64 x.ix) := (HXA.out _ HYwn.out) 4 _ rfl; have e5 : wn.cell? ⟨B9, 5, none⟩ = some (.int .i64 x.nd) := (HXA.out _ HYwn.out) 5 _ rfl; have l2 := lt_of_cell t0; have l9 := lt_of_cell e0; have d4 := HDC.out _ HYwn.out; have ln := lt_of_cell d4) | (go_at_call 13; refine (HSLc.out _ HYwn.out).mono ?_; rintro e wm ⟨rfl, hb⟩; have HYwm := hidOf (HYwn.out.trans (hb.mono HYwn.out.size)); clear hb; clear t0 t1 t2 t3 t4 t5 t6 t7 t8 l2 e0 e3 e4 e5 l9; have t0 : wm.cell? ⟨B2, 0, none⟩ = some (.int .i64 ix) := (HTA.out _ HYwm.out) 0 _ rfl; have t1 : wm.cell? ⟨B2, 1, none⟩ = some (.int .i64 nx) := (HTA.out _ HYwm.out) 1 _ rfl; have t2 : wm.cell? ⟨B2, 2, none⟩ = some (.slice (some ⟨b, off, none⟩) J.length c2) := (HTA.out _ HYwm.out) 2 _ rfl; have t3 : wm.cell? ⟨B2, 3, none⟩ = some (.slice a3 n3 c3) := (HTA.out _ HYwm.out) 3 _ rfl; have t4 : wm.cell? ⟨B2, 4, none⟩ = some (.slice (some ⟨bn, offn, none⟩) Ln.length c4) := (HTA.out _ HYwm.out) 4 _ rfl; have t5 : wm.cell? ⟨B2, 5, none⟩ = some (.slice a5 A.length c5) := (HTA.out _ HYwm.out) 5 _ rfl; have t6 : wm.cell? ⟨B2, 6, none⟩ = some (.slice a6 n6 c6) := (HTA.out _ HYwm.out) 6 _ rfl; have t7 : wm.cell? ⟨B2, 7, none⟩ = some (.slice a7 n7 c7) := (HTA.out _ HYwm.out) 7 _ rfl; have t8 : wm.cell? ⟨B2, 8, none⟩ = some (.slice a8 n8 c8) := (HTA.out _ HYwm.out) 8 _ rfl; have e0 : wm.cell? ⟨B9, 0, none⟩ = some (.int .i64 x.id) := (HXA.out _ HYwm.out) 0 _ rfl; have e3 : wm.cell? ⟨B9, 3, none⟩ = some (.int .i64 x.gr) := (HXA.out _ HYwm.out) 3 _ rfl; have e4 : wm.cell? ⟨B9, 4, none⟩ = some (.int .i64 x.ix) := (HXA.out _ HYwm.out) 4 _ rfl; have e5 : wm.cell? ⟨B9, 5, none⟩ = some (.int .i64 x.nd) := (HXA.out _ HYwm.out) 5 _ rfl; have l2 := lt_of_cell t0; have l9 := lt_of_cell e0) | (go_at_call 17; refine (HALc.out _ HYwm.out).mono ?_; rintro e wo ⟨rfl, hb⟩; have HYwo := hidOf (HYwm.out.trans (hb.mono HYwm.out.size)); clear hb; clear t0 t1 t2 t3 t4 t5 t6 t7 t8 l2 e0 e3 e4 e5 l9; have t0 : wo.cell? ⟨B2, 0, none⟩ = some (.int .i64 ix) := (HTA.out _ HYwo.out) 0 _ rfl; have t1 : wo.cell? ⟨B2, 1, none⟩ = some (.int .i64 nx) := (HTA.out _ HYwo.out) 1 _ rfl; have t2 : wo.cell? ⟨B2, 2, none⟩ = some (.slice (some ⟨b, off, none⟩) J.length c2) := (HTA.out _ HYwo.out) 2 _ rfl; have t3 : wo.cell? ⟨B2, 3, none⟩ = some (.slice a3 n3 c3) := (HTA.out _ HYwo.out) 3 _ rfl; have t4 : wo.cell? ⟨B2, 4, none⟩ = some (.slice (some ⟨bn, offn, none⟩) Ln.length c4) := (HTA.out _ HYwo.out) 4 _ rfl; have t5 : wo.cell? ⟨B2, 5, none⟩ = some (.slice a5 A.length c5) := (HTA.out _ HYwo.out) 5 _ rfl; have t6 : wo.cell? ⟨B2, 6, none⟩ = some (.slice a6 n6 c6) := (HTA.out _ HYwo.out) 6 _ rfl; have t7 : wo.cell? ⟨B2, 7, none⟩ = some (.slice a7 n7 c7) := (HTA.out _ HYwo.out) 7 _ rfl; have t8 : wo.cell? ⟨B2, 8, none⟩ = some (.slice a8 n8 c8) := (HTA.out _ HYwo.out) 8 _ rfl; have e0 : wo.cell? ⟨B9, 0, none⟩ = some (.int .i64 x.id) := (HXA.out _ HYwo.out) 0 _ rfl; have e3 : wo.cell? ⟨B9, 3, none⟩ = some (.int .i64 x.gr) := (HXA.out _ HYwo.out) 3 _ rfl; have e4 : wo.cell? ⟨B9, 4, none⟩ = some (.int .i64 x.ix) := (HXA.out _ HYwo.out) 4 _ rfl; have e5 : wo.cell? ⟨B9, 5, none⟩ = some (.int .i64 x.nd) := (HXA.out _ HYwo.out) 5 _ rfl; have l2 := lt_of_cell t0; have l9 := lt_of_cell e0) | (go_at_call 12; refine (lives_any _).mono ?_; rintro e wl ⟨rfl, hbl⟩; have HBL := hidOf hbl; clear hbl))
                            go_ret
                            exact ⟨rfl, (HWA.out.trans (HYwo.out.mono HWA.out.size)).trans (HBL.out.mono (by have := HWA.out.size; have := HYwo.out.size; omega))⟩
                        · have hb1 : (v1 != (k : Int)) = true := by simp [hv1]
                          clear hv1
                          go_wp2_with (first | (go_at_call 16; refine (HNDc.out _ HYz.out).mono ?_; rintro e wn ⟨rfl, hb⟩; have HYwn := hidOf (HYz.out.trans (hb.mono HYz.out.size)); clear hb; clear t0 t1 t2 t3 t4 t5 t6 t7 t8 l2 e0 e3 e4 e5 l9; have t0 : wn.cell? ⟨B2, 0, none⟩ = some (.int .i64 ix) := (HTA.out _ HYwn.out) 0 _ rfl; have t1 : wn.cell? ⟨B2, 1, none⟩ = some (.int .i64 nx) := (HTA.out _ HYwn.out) 1 _ rfl; have t2 : wn.cell? ⟨B2, 2, none⟩ = some (.slice (some ⟨b, off, none⟩) J.length c2) := (HTA.out _ HYwn.out) 2 _ rfl; have t3 : wn.cell? ⟨B2, 3, none⟩ = some (.slice a3 n3 c3) := (HTA.out _ HYwn.out) 3 _ rfl; have t4 : wn.cell? ⟨B2, 4, none⟩ = some (.slice (some ⟨bn, offn, none⟩) Ln.length c4) := (HTA.out _ HYwn.out) 4 _ rfl; have t5 : wn.cell? ⟨B2, 5, none⟩ = some (.slice a5 A.length c5) := (HTA.out _ HYwn.out) 5 _ rfl; have t6 : wn.cell? ⟨B2, 6, none⟩ = some (.slice a6 n6 c6) := (HTA.out _ HYwn.out) 6 _ rfl; have t7 : wn.cell? ⟨B2, 7, none⟩ = some (.slice a7 n7 c7) := (HTA.out _ HYwn.out) 7 _ rfl; have t8 : wn.cell? ⟨B2, 8, none⟩ = some (.slice a8 n8 c8) := (HTA.out _ HYwn.out) 8 _ rfl; have e0 : wn.cell? ⟨B9, 0, none⟩ = some (.int .i64 x.id) := (HXA.out _ HYwn.out) 0 _ rfl; have e3 : wn.cell? ⟨B9, 3, none⟩ = some (.int .i64 x.gr) := (HXA.out _ HYwn.out) 3 _ rfl; have e4 : wn.cell? ⟨B9, 4, none⟩ = some (.int .i64 x.ix) := (HXA.out _ HYwn.out) 4 _ rfl; have e5 : wn.cell? ⟨B9, 5, none⟩ = some (.int .i64 x.nd) := (HXA.out _ HYwn.out) 5 _ rfl; have l2 := lt_of_cell t0; have l9 := lt_of_cell e0; have d4 := HDC.out _ HYwn.out; have ln := lt_of_cell d4) | (go_at_call 13; refine (HSLc.out _ HYwn.out).mono ?_; rintro e wm ⟨rfl, hb⟩; have HYwm := hidOf (HYwn.out.trans (hb.mono HYwn.out.size)); clear hb; clear t0 t1 t2 t3 t4 t5 t6 t7 t8 l2 e0 e3 e4 e5 l9; have t0 : wm.cell? ⟨B2, 0, none⟩ = some (.int .i64 ix) := (HTA.out _ HYwm.out) 0 _ rfl; have t1 : wm.cell? ⟨B2, 1, none⟩ = some (.int .i64 nx) := (HTA.out _ HYwm.out) 1 _ rfl; have t2 : wm.cell? ⟨B2, 2, none⟩ = some (.slice (some ⟨b, off, none⟩) J.length c2) := (HTA.out _ HYwm.out) 2 _ rfl; have t3 : wm.cell? ⟨B2, 3, none⟩ = some (.slice a3 n3 c3) := (HTA.out _ HYwm.out) 3 _ rfl; have t4 : wm.cell? ⟨B2, 4, none⟩ = some (.slice (some ⟨bn, offn, none⟩) Ln.length c4) := (HTA.out _ HYwm.out) 4 _ rfl; have t5 : wm.cell? ⟨B2, 5, none⟩ = some (.slice a5 A.length c5) := (HTA.out _ HYwm.out) 5 _ rfl; have t6 : wm.cell? ⟨B2, 6, none⟩ = some (.slice a6 n6 c6) := (HTA.out _ HYwm.out) 6 _ rfl; have t7 : wm.cell? ⟨B2, 7, none⟩ = some (.slice a7 n7 c7) := (HTA.out _ HYwm.out) 7 _ rfl; have t8 : wm.cell? ⟨B2, 8, none⟩ = some (.slice a8 n8 c8) := (HTA.out _ HYwm.out) 8 _ rfl; have e0 : wm.cell? ⟨B9, 0, none⟩ = some (.int .i64 x.id) := (HXA.out _ HYwm.out) 0 _ rfl; have e3 : wm.cell? ⟨B9, 3, none⟩ = some (.int .i64 x.gr) := (HXA.out _ HYwm.out) 3 _ rfl; have e4 : wm.cell? ⟨B9, 4, none⟩ = some (.int .i64 x.ix) := (HXA.out _ HYwm.out) 4 _ rfl; have e5 : wm.cell? ⟨B9, 5, none⟩ = some (.int .i64 x.nd) := (HXA.out _ HYwm.out) 5 _ rfl; have l2 := lt_of_cell t0; have l9 := lt_of_cell e0) | (go_at_call 12; refine (lives_any _).mono ?_; rintro e wl ⟨rfl, hbl⟩; have HBL := hidOf hbl; clear hbl))
                          go_ret
                          exact ⟨rfl, (HWA.out.trans (HYwm.out.mono HWA.out.size)).trans (HBL.out.mono (by have := HWA.out.size; have := HYwm.out.size; omega))⟩
                  · rw [decide_eq_false hin]
                    clear hin hrn
                    obtain ⟨vn, hvn⟩ : ∃ vn, fi (fun z : Nd => isI z.id x.nd) Ln = vn := ⟨_, rfl⟩
                    rw [hvn] at HNDc
                    clear hvn
                    go_wp2_with (first | (go_at_call 16; refine (HNDc.out _ HYz.out).mono ?_; rintro e wn ⟨rfl, hb⟩; have HYwn := hidOf (HYz.out.trans (hb.mono HYz.out.size)); clear hb; clear t0 t1 t2 t3 t4 t5 t6 t7 t8 l2 e0 e3 e4 e5 l9; have t0 : wn.cell? ⟨B2, 0, none⟩ = some (.int .i64 ix) := (HTA.out _ HYwn.out) 0 _ rfl; have t1 : wn.cell? ⟨B2, 1, none⟩ = some (.int .i64 nx) := (HTA.out _ HYwn.out) 1 _ rfl; have t2 : wn.cell? ⟨B2, 2, none⟩ = some (.slice (some ⟨b, off, none⟩) J.length c2) := (HTA.out _ HYwn.out) 2 _ rfl; have t3 : wn.cell? ⟨B2, 3, none⟩ = some (.slice a3 n3 c3) := (HTA.out _ HYwn.out) 3 _ rfl; have t4 : wn.cell? ⟨B2, 4, none⟩ = some (.slice a4 Ln.length c4) := (HTA.out _ HYwn.out) 4 _ rfl; have t5 : wn.cell? ⟨B2, 5, none⟩ = some (.slice a5 A.length c5) := (HTA.out _ HYwn.out) 5 _ rfl; have t6 : wn.cell? ⟨B2, 6, none⟩ = some (.slice a6 n6 c6) := (HTA.out _ HYwn.out) 6 _ rfl; have t7 : wn.cell? ⟨B2, 7, none⟩ = some (.slice a7 n7 c7) := (HTA.out _ HYwn.out) 7 _ rfl; have t8 : wn.cell? ⟨B2, 8, none⟩ = some (.slice a8 n8 c8) := (HTA.out _ HYwn.out) 8 _ rfl; have e0 : wn.cell? ⟨B9, 0, none⟩ = some (.int .i64 x.id) := (HXA.out _ HYwn.out) 0 _ rfl; have e3 : wn.cell? ⟨B9, 3, none⟩ = some (.int .i64 x.gr) := (HXA.out _ HYwn.out) 3 _ rfl; have e4 : wn.cell? ⟨B9, 4, none⟩ = some (.int .i64 x.ix) := (HXA.out _ HYwn.out) 4 _ rfl; have e5 : wn.cell? ⟨B9, 5, none⟩ = some (.int .i64 x.nd) := (HXA.out _ HYwn.out) 5 _ rfl; have l2 := lt_of_cell t0; have l9 := lt_of_cell e0) | (go_at_call 12; refine (lives_any _).mono ?_; rintro e wl ⟨rfl, hbl⟩; have HBL := hidOf hbl; clear hbl))
                    go_ret
                    exact ⟨rfl, (HWA.out.trans (HYwn.out.mono HWA.out.size)).trans (HBL.out.mono (by have := HWA.out.size; have := HYwn.out.size; omega))⟩
          · have hjb : (x.jb != job) = true := by simp [hj]
            have HJJ := hidOf hj
            clear hj
            go_wp2
            go_roundw
            case rel => exact ⟨k + 1, by omega, by simp, hidOf (HRP.out.more x hlt HXE.out (fun h1 h2 => absurd (h1.trans HID.out) HJJ.out)), hidOf (HBr.out.trans (HZA.out.mono HBr.out.size))⟩
            case measure => simp [intOf]; omega
        · have hkl : k = A.length := by omega
          subst hkl
          have hnj : ¬ dfI Lj job < 0 := by rw [HFI.out]; omega
          obtain ⟨T, hTS, hTk, hTm⟩ := rolls (Ln := Ln) (A := A) dd hnj HDJ.out HTY.out (by rw [HL.out]; exact HRP.out)
          rw [HL.out] at hTm
          have HWq := hidOf (HW3.out.trans (HBr.out.mono HW3.out.size))
          have t0 : wq.cell? ⟨B2, 0, none⟩ = some (.int .i64 ix) := (hb_cell HBr.out l23).trans (HT3.out 0 _ rfl)
          have t1 : wq.cell? ⟨B2, 1, none⟩ = some (.int .i64 nx) := (hb_cell HBr.out l23).trans (HT3.out 1 _ rfl)
          have t2 : wq.cell? ⟨B2, 2, none⟩ = some (.slice (some ⟨b, off, none⟩) J.length c2) := (hb_cell HBr.out l23).trans (HT3.out 2 _ rfl)
          have t3 : wq.cell? ⟨B2, 3, none⟩ = some (.slice a3 n3 c3) := (hb_cell HBr.out l23).trans (HT3.out 3 _ rfl)
          have t4 : wq.cell? ⟨B2, 4, none⟩ = some (.slice a4 Ln.length c4) := (hb_cell HBr.out l23).trans (HT3.out 4 _ rfl)
          have t6 : wq.cell? ⟨B2, 6, none⟩ = some (.slice a6 n6 c6) := (hb_cell HBr.out l23).trans (HT3.out 6 _ rfl)
          have t7 : wq.cell? ⟨B2, 7, none⟩ = some (.slice a7 n7 c7) := (hb_cell HBr.out l23).trans (HT3.out 7 _ rfl)
          have t8 : wq.cell? ⟨B2, 8, none⟩ = some (.slice a8 n8 c8) := (hb_cell HBr.out l23).trans (HT3.out 8 _ rfl)
          have j0 : wq.cell? ⟨B6, 0, none⟩ = some (.int .i64 dd.id) := (hb_cell HBr.out l63).trans (HJ3.out 0 _ rfl)
          have j1 : wq.cell? ⟨B6, 1, none⟩ = some (.int .i64 dd.ty) := (hb_cell HBr.out l63).trans (HJ3.out 1 _ rfl)
          have j2 : wq.cell? ⟨B6, 2, none⟩ = some (.int .i64 dd.pr) := (hb_cell HBr.out l63).trans (HJ3.out 2 _ rfl)
          have j3 : wq.cell? ⟨B6, 3, none⟩ = some (.int .i64 dd.pa) := (hb_cell HBr.out l63).trans (HJ3.out 3 _ rfl)
          have j4 : wq.cell? ⟨B6, 4, none⟩ = some (.slice ga dd.gs.length gc) := (hb_cell HBr.out l63).trans (HJ3.out 4 _ rfl)
          have j5 : wq.cell? ⟨B6, 5, none⟩ = some (.int .i64 dd.ve) := (hb_cell HBr.out l63).trans (HJ3.out 5 _ rfl)
          have j6 : wq.cell? ⟨B6, 6, none⟩ = some (.bool dd.sd) := (hb_cell HBr.out l63).trans (HJ3.out 6 _ rfl)
          have l6 : B6 < wq.heap.size := lt_of_cell j0
          have HMV := hidOf (moving_any ix nx (some ⟨b, off, none⟩) J.length c2 a3 n3 c3 a4 c4 a5 c5 a6 n6 c6 a7 n7 c7 a8 n8 c8 dd ga gc Ln A wq (HN.out.kept (fun q hq => HWq.out.block q hq) (fun q hq => Nat.lt_of_lt_of_le hq HWq.out.size)) (HG.out.kept (fun q hq => HWq.out.block q hq) (fun q hq => Nat.lt_of_lt_of_le hq HWq.out.size)) (HAL0.out.kept (fun q hq => HWq.out.block q hq) (fun q hq => Nat.lt_of_lt_of_le hq HWq.out.size)) HSL.out)
          rw [HL.out] at HMV
          obtain ⟨was, hwas⟩ : ∃ was, mvN dd A [] L = was := ⟨_, rfl⟩
          rw [hwas] at HMV hTm
          obtain ⟨now, hnow⟩ : ∃ now, mvN dd A T L = now := ⟨_, rfl⟩
          rw [hnow] at hTm
          have HNOW := hidOf hnow
          have HTM := hidOf hTm
          have HTK := hidOf hTk
          clear hwas hnow hTm hTk hnj
          have HDF := hidOf (fun W (hW : Below w.heap.size w W) => diff_any ⟨ix, nx, some ⟨b, off, none⟩, J.length, c2, a3, n3, c3, a4, Ln.length, c4, a5, A.length, c5, a6, n6, c6, a7, n7, c7, a8, n8, c8⟩ job J Lj Ln A W rfl rfl rfl (HJ.out.kept (fun q hq => hW.block q hq) (fun q hq => Nat.lt_of_lt_of_le hq hW.size)) (HN.out.kept (fun q hq => hW.block q hq) (fun q hq => Nat.lt_of_lt_of_le hq hW.size)) (HAL0.out.kept (fun q hq => hW.block q hq) (fun q hq => Nat.lt_of_lt_of_le hq hW.size)) (fun x hx => sl_ok (hbg x hx) hbn))
          rw [hTS] at HDF
          obtain ⟨stop, hstop⟩ : ∃ stop, T.map (idA A) = stop := ⟨_, rfl⟩
          rw [hstop] at HDF
          have HST := hidOf hstop
          have hsl3 : stop.length = T.length := by rw [← hstop, List.length_map]
          have HSLN := hidOf hsl3
          clear hTS hstop hsl3
          go_upto_region 22 with (first | (go_at_call 18; refine HMV.out.mono ?_; rintro e w4 ⟨rfl, hb4⟩; have HW4 := hidOf (HWq.out.trans (hb4.mono HWq.out.size)); have HB4 := hidOf hb4; have r0 : w4.cell? ⟨B2, 0, none⟩ = some (.int .i64 ix) := (hb_cell hb4 l2).trans t0; have r1 : w4.cell? ⟨B2, 1, none⟩ = some (.int .i64 nx) := (hb_cell hb4 l2).trans t1; have r2 : w4.cell? ⟨B2, 2, none⟩ = some (.slice (some ⟨b, off, none⟩) J.length c2) := (hb_cell hb4 l2).trans t2; have r3 : w4.cell? ⟨B2, 3, none⟩ = some (.slice a3 n3 c3) := (hb_cell hb4 l2).trans t3; have r4 : w4.cell? ⟨B2, 4, none⟩ = some (.slice a4 Ln.length c4) := (hb_cell hb4 l2).trans t4; have r5 : w4.cell? ⟨B2, 5, none⟩ = some (.slice a5 A.length c5) := (hb_cell hb4 l2).trans t5; have r6 : w4.cell? ⟨B2, 6, none⟩ = some (.slice a6 n6 c6) := (hb_cell hb4 l2).trans t6; have r7 : w4.cell? ⟨B2, 7, none⟩ = some (.slice a7 n7 c7) := (hb_cell hb4 l2).trans t7; have r8 : w4.cell? ⟨B2, 8, none⟩ = some (.slice a8 n8 c8) := (hb_cell hb4 l2).trans t8; have lr := lt_of_cell r0; clear hb4 t0 t1 t2 t3 t4 t5 t6 t7 t8) | (go_at_call 9; refine (HDF.out _ HW4.out).mono ?_; rintro e w5 ⟨sa, sc, fa, fc, rfl, ho5, _, hb5⟩; have HO5 := hidOf ho5; have HB5 := hidOf hb5; have HW5 := hidOf (HW4.out.trans (hb5.mono HW4.out.size)); have z0 : w5.cell? ⟨B2, 0, none⟩ = some (.int .i64 ix) := (hb_cell hb5 lr).trans r0; have z1 : w5.cell? ⟨B2, 1, none⟩ = some (.int .i64 nx) := (hb_cell hb5 lr).trans r1; have z2 : w5.cell? ⟨B2, 2, none⟩ = some (.slice (some ⟨b, off, none⟩) J.length c2) := (hb_cell hb5 lr).trans r2; have z3 : w5.cell? ⟨B2, 3, none⟩ = some (.slice a3 n3 c3) := (hb_cell hb5 lr).trans r3; have z4 : w5.cell? ⟨B2, 4, none⟩ = some (.slice a4 Ln.length c4) := (hb_cell hb5 lr).trans r4; have z5 : w5.cell? ⟨B2, 5, none⟩ = some (.slice a5 A.length c5) := (hb_cell hb5 lr).trans r5; have z6 : w5.cell? ⟨B2, 6, none⟩ = some (.slice a6 n6 c6) := (hb_cell hb5 lr).trans r6; have z7 : w5.cell? ⟨B2, 7, none⟩ = some (.slice a7 n7 c7) := (hb_cell hb5 lr).trans r7; have z8 : w5.cell? ⟨B2, 8, none⟩ = some (.slice a8 n8 c8) := (hb_cell hb5 lr).trans r8; have lz := lt_of_cell z0; clear ho5 hb5 r0 r1 r2 r3 r4 r5 r6 r7 r8 lr) | (go_at_call 19; refine (HCP.out _ HW5.out).mono ?_; rintro e w6 ⟨s2, J2, B2', X2, rfl, hS2, hb6, hao, hjb, hno⟩; have HOD := hidOf (owd_copy hS2 hao hjb hno); have HB6 := hidOf hb6; clear hS2 hb6 hao hjb hno z0 z1 z2 z3 z4 z5 z6 z7 z8 lz))
          rw [HLn.out, HAn.out, HLjn.out] at HOD
          obtain ⟨ix2, nx2, b2, m2, e2, b3, m3, e3, b4, m4, e4, b5, m5, e5, b6, m6, e6, b7, m7, e7, b8, m8, e8⟩ := s2
          obtain ⟨g2, g4, g5⟩ : m2 = J2.length ∧ m4 = Ln.length ∧ m5 = A.length := ⟨HOD.out.n2, HOD.out.n4, HOD.out.n5⟩
          subst g2
          subst g4
          subst g5
          obtain ⟨B16, hB16⟩ : ∃ B16, w6.heap.size = B16 := ⟨_, rfl⟩
          obtain ⟨W6, hW6⟩ : ∃ W6, w6.alloc (.cells #[.int .i64 ix2, .int .i64 nx2, .slice b2 J2.length e2, .slice b3 m3 e3, .slice b4 Ln.length e4, .slice b5 A.length e5, .slice b6 m6 e6, .slice b7 m7 e7, .slice b8 m8 e8] 29) = W6 := ⟨_, rfl⟩
          have HBW : Hid (Below w6.heap.size w6 W6) := hidOf (by rw [← hW6]; exact below1 _ _)
          have HT6 : Hid (W6.rangeAt B16 0 [.int .i64 ix2, .int .i64 nx2, .slice b2 J2.length e2, .slice b3 m3 e3, .slice b4 Ln.length e4, .slice b5 A.length e5, .slice b6 m6 e6, .slice b7 m7 e7, .slice b8 m8 e8]) := hidOf (by rw [← hW6, ← hB16]; exact box_new (wr := w6) (cs := [.int .i64 ix2, .int .i64 nx2, .slice b2 J2.length e2, .slice b3 m3 e3, .slice b4 Ln.length e4, .slice b5 A.length e5, .slice b6 m6 e6, .slice b7 m7 e7, .slice b8 m8 e8]) (t := 29) (Below.refl _ _))
          have hB16e : B16 ≤ w6.heap.size ∧ w6.heap.size ≤ B16 := by rw [hB16]; exact ⟨Nat.le_refl _, Nat.le_refl _⟩
          rw [hW6, hB16]
          clear hW6 hB16
          have HOD6 := hidOf (HOD.out.up HBW.out)
          have HB56 := hidOf (HB6.out.trans (HBW.out.mono HB6.out.size))
          have l166 : B16 < W6.heap.size := lt_of_cell (HT6.out 0 _ rfl)
          have HSF := hidOf ((own_fl (y := 0) iC_len HO5.out (by omega)).kept (w' := w5) (S' := fun q => q < w5.heap.size) (fun _ _ => rfl) (fun q hq => hq.lt))
          have hsm := own_len' HO5.out
          unfold maxLen at hsm
          have HJ5 := hidOf (range_of HJ3.out ((HB5.out.block B6 (by have := HB4.out.size; omega)).trans ((HB4.out.block B6 l6).trans (HBr.out.block B6 l63))))
          have l65 : B6 < w5.heap.size := lt_of_cell (HJ5.out 0 _ rfl)
          clear HMV HDF HCP HO5 j0 j1 j2 j3 j4 j5 j6 l6 l2
          go_wp2
          go_loopw [17] (fun i wr => ∃ k : Nat, k ≤ stop.length ∧ i = .int .i64 k ∧ Hid (OwD w5.heap.size wr ⟨ix2, nx2, b2, J2.length, e2, b3, m3, e3, b4, Ln.length, e4, b5, A.length, e5, b6, m6, e6, b7, m7, e7, b8, m8, e8⟩ J2 Lj Ln (spT A (T.take k))) ∧ Hid (Below w5.heap.size w5 wr) ∧ Hid (wr.rangeAt B16 0 [.int .i64 ix2, .int .i64 nx2, .slice b2 J2.length e2, .slice b3 m3 e3, .slice b4 Ln.length e4, .slice b5 A.length e5, .slice b6 m6 e6, .slice b7 m7 e7, .slice b8 m8 e8])) (fun i _ => stop.length - (intOf i).toNat)
          case atStart => exact ⟨0, Nat.zero_le _, rfl, hidOf (by rw [List.take_zero, spT_nil]; exact HOD6.out), HB56, HT6⟩
          case round =>
            obtain ⟨k, hks, rfl, HO, HB, HT⟩ := hrel
            by_cases hlt3 : k < stop.length
            · have hkT : k < T.length := by rw [← HSLN.out]; exact hlt3
              obtain ⟨bs, offs, ha, hQs, hcs⟩ := HSF.out.at k hlt3
              have hQs' : bs < w5.heap.size := hQs
              obtain ⟨v, hv, hvl, hfi⟩ := HTK.out T[k] (List.getElem_mem hkT)
              have hz : stop[k] = A[v].id := by
                have h1 : stop[k] = idA A T[k] := by simp only [← HST.out, List.getElem_map]
                rw [h1, hv, idA_nat A v hvl]
              rw [hz] at hcs
              have HTKS : Hid (T.take (k + 1) = T.take k ++ [(v : Int)]) := hidOf (by rw [take_snoc T k hkT, hv])
              have hfs : fi (fun q : Al => isI q.id A[v].id) (spT A (T.take k)) = (v : Int) := by rw [fi_spT A (T.take k) _ (fun _ => rfl)]; exact hfi
              have HAL := hidOf (alloc_ref ⟨ix2, nx2, b2, J2.length, e2, b3, m3, e3, b4, Ln.length, e4, b5, A.length, e5, b6, m6, e6, b7, m7, e7, b8, m8, e8⟩ A[v].id (spT A (T.take k)) wr.drew (by rw [spT_len]) (HO.out.up (bdrew wr)).a)
              rw [hfs] at HAL
              obtain ⟨z, hzz⟩ : ∃ z, A[v].id = z := ⟨_, rfl⟩
              rw [hzz] at hcs HAL
              clear hz hfs hfi hzz hv
              have t0 : wr.cell? ⟨B16, 0, none⟩ = some (.int .i64 ix2) := HT.out 0 _ rfl
              have t1 : wr.cell? ⟨B16, 1, none⟩ = some (.int .i64 nx2) := HT.out 1 _ rfl
              have t2 : wr.cell? ⟨B16, 2, none⟩ = some (.slice b2 J2.length e2) := HT.out 2 _ rfl
              have t3 : wr.cell? ⟨B16, 3, none⟩ = some (.slice b3 m3 e3) := HT.out 3 _ rfl
              have t4 : wr.cell? ⟨B16, 4, none⟩ = some (.slice b4 Ln.length e4) := HT.out 4 _ rfl
              have t5 : wr.cell? ⟨B16, 5, none⟩ = some (.slice b5 A.length e5) := HT.out 5 _ rfl
              have t6 : wr.cell? ⟨B16, 6, none⟩ = some (.slice b6 m6 e6) := HT.out 6 _ rfl
              have t7 : wr.cell? ⟨B16, 7, none⟩ = some (.slice b7 m7 e7) := HT.out 7 _ rfl
              have t8 : wr.cell? ⟨B16, 8, none⟩ = some (.slice b8 m8 e8) := HT.out 8 _ rfl
              have l16 : B16 < wr.heap.size := lt_of_cell t0
              have kz : wr.cell? ⟨bs, offs + k, none⟩ = some (.int .i64 z) := (hb_cell HB.out hQs').trans (by have := hcs 0 _ rfl; simpa using this)
              have ls : bs < wr.heap.size := lt_of_cell kz
              have hi0 : ¬ ((k : Int) < 0) := by omega
              have hi1 : (k : Int) < (stop.length : Int) := by omega
              have hv0 : ¬ ((v : Int) < 0) := by omega
              have hv1 : (v : Int) < (A.length : Int) := by omega
              have hv2 : decide ((v : Int) < 0) = false := by simp
              clear hcs hQs
              subst ha
              go_upto_region 25 with (fail)
              refine wp_region_held_drew (S := fun (Y : World) => Y.cell? ⟨B16, 0, none⟩ = some (.int .i64 ix2) ∧ Y.cell? ⟨B16, 1, none⟩ = some (.int .i64 nx2) ∧ Y.cell? ⟨B16, 2, none⟩ = some (.slice b2 J2.length e2) ∧ Y.cell? ⟨B16, 3, none⟩ = some (.slice b3 m3 e3) ∧ Y.cell? ⟨B16, 4, none⟩ = some (.slice b4 Ln.length e4) ∧ Y.cell? ⟨B16, 5, none⟩ = some (.slice b5 A.length e5) ∧ Y.cell? ⟨B16, 6, none⟩ = some (.slice b6 m6 e6) ∧ Y.cell? ⟨B16, 7, none⟩ = some (.slice b7 m7 e7) ∧ Y.cell? ⟨B16, 8, none⟩ = some (.slice b8 m8 e8) ∧ Y.cell? ⟨bs, offs + k, none⟩ = some (.int .i64 z)) (by kernel_rfl) ⟨t0, t1, t2, t3, t4, t5, t6, t7, t8, kz⟩ (fun hHeld => ?_)
              refine wpAnyH_take (i := 0) (oi := { dst := some 146, op := Op.load 29 (Operand.tmp 16), type := 29, pos := "law.go:124", after := #[], guard := none }) (v := .agg #[.int .i64 ix2, .int .i64 nx2, .slice b2 J2.length e2, .slice b3 m3 e3, .slice b4 Ln.length e4, .slice b5 A.length e5, .slice b6 m6 e6, .slice b7 m7 e7, .slice b8 m8 e8]) rfl (by kernel_rfl) (by kernel_rfl) (by kernel_rfl) (fun _ _ _ h => h) (Or.inl ⟨by rfl, ?_⟩) hHeld ?_
              · (intro w hSw; (try dsimp only at hSw); go_simp)
              try simp only [Act.put, List.setIfInBounds_toArray, List.set_cons_zero, List.set_cons_succ]
              refine wpAnyH_take (i := 1) (oi := { dst := some 147, op := Op.move (Operand.tmp 14), type := 30, pos := "law.go:124", after := #[], guard := none }) (v := .slice (some ⟨bs, offs, none⟩) stop.length sc) rfl (by kernel_rfl) (by kernel_rfl) (by kernel_rfl) (fun _ _ _ h => h) (Or.inl ⟨by rfl, ?_⟩) hHeld ?_
              · (intro w hSw; (try dsimp only at hSw); go_simp)
              try simp only [Act.put, List.setIfInBounds_toArray, List.set_cons_zero, List.set_cons_succ]
              refine wpAnyH_take (i := 2) (oi := { dst := some 148, op := Op.move (Operand.tmp 17), type := 3, pos := "law.go:124", after := #[], guard := none }) (v := .int .i64 (k : Int)) rfl (by kernel_rfl) (by kernel_rfl) (by kernel_rfl) (fun _ _ _ h => h) (Or.inl ⟨by rfl, ?_⟩) hHeld ?_
              · (intro w hSw; (try dsimp only at hSw); go_simp)
              try simp only [Act.put, List.setIfInBounds_toArray, List.set_cons_zero, List.set_cons_succ]
              refine wpAnyH_take (i := 3) (oi := { dst := some 149, op := Op.indexAddr 30 (Operand.tmp 147) (Operand.tmp 148), type := 0, pos := "law.go:124", after := #[{ on := 1, ground := Ground.data }, { on := 2, ground := Ground.data }], guard := none }) (v := .pointer (some ⟨bs, offs + k, none⟩)) rfl (by kernel_rfl) (by kernel_rfl) (by kernel_rfl) (fun _ _ _ h => h) (Or.inl ⟨by rfl, ?_⟩) hHeld ?_
              · (intro w hSw; (try dsimp only at hSw); go_simp)
              try simp only [Act.put, List.setIfInBounds_toArray, List.set_cons_zero, List.set_cons_succ]
              refine wpAnyH_take (i := 4) (oi := { dst := some 150, op := Op.load 3 (Operand.tmp 149), type := 3, pos := "law.go:124", after := #[{ on := 3, ground := Ground.data }], guard := none }) (v := .int .i64 z) rfl (by kernel_rfl) (by kernel_rfl) (by kernel_rfl) (fun _ _ _ h => h) (Or.inl ⟨by rfl, ?_⟩) hHeld ?_
              · (intro w hSw; (try dsimp only at hSw); go_simp)
              try simp only [Act.put, List.setIfInBounds_toArray, List.set_cons_zero, List.set_cons_succ]
              refine wpAnyH_ready (rs := [5]) (by kernel_rfl) (by simp) ?_
              refine AllReadyH.cons (o := { dst := some 151, op := Op.call { callee := Callee.value (Operand.func 17), args := #[Operand.tmp 146, Operand.tmp 150], argTypes := #[29, 3] }, type := 3, pos := "law.go:124", after := #[{ on := 0, ground := Ground.data }, { on := 4, ground := Ground.data }], guard := none }) rfl (fun K hK => ?_) AllReadyH.nil
              go_simp
              refine HAL.out.mono ?_
              rintro e w8 ⟨rfl, hb8⟩
              have HY8 := hidOf ((bdrew wr).trans (hb8.mono (bdrew wr).size))
              clear hb8
              refine hK.out _ _ ⟨(hb_cell HY8.out l16).trans t0, (hb_cell HY8.out l16).trans t1, (hb_cell HY8.out l16).trans t2, (hb_cell HY8.out l16).trans t3, (hb_cell HY8.out l16).trans t4, (hb_cell HY8.out l16).trans t5, (hb_cell HY8.out l16).trans t6, (hb_cell HY8.out l16).trans t7, (hb_cell HY8.out l16).trans t8, (hb_cell HY8.out ls).trans kz⟩ (fun hHeld1 => ?_)
              clear hK K
              try simp only [Act.put, List.setIfInBounds_toArray, List.set_cons_zero, List.set_cons_succ]
              refine wpAnyH_take (i := 6) (oi := { dst := some 18, op := Op.assign (Operand.tmp 151), type := 3, pos := "law.go:124", after := #[{ on := 5, ground := Ground.data }, { on := 5, ground := Ground.chain }, { on := 0, ground := Ground.phase }, { on := 1, ground := Ground.phase }, { on := 2, ground := Ground.phase }, { on := 3, ground := Ground.phase }, { on := 4, ground := Ground.phase }, { on := 5, ground := Ground.phase }], guard := none }) (v := .int .i64 (v : Int)) rfl (by kernel_rfl) (by kernel_rfl) (by kernel_rfl) (fun _ _ _ h => h) (Or.inl ⟨by rfl, ?_⟩) hHeld1 ?_
              · (intro w hSw; (try dsimp only at hSw); go_simp)
              try simp only [Act.put, List.setIfInBounds_toArray, List.set_cons_zero, List.set_cons_succ]
              refine wpAnyH_done (by kernel_rfl) ?_ _
              have HT8 := hidOf (range_of HT.out (HY8.out.block B16 l16))
              have HO8 := hidOf (HO.out.up HY8.out)
              clear t0 t1 t2 t3 t4 t5 t6 t7 t8 hHeld hHeld1
              obtain ⟨g, hAg, hOg⟩ := HO8.out.alloc v (by rw [spT_len]; exact hvl)
              have hga := hAg.ad
              simp only at hga
              have hg6 : g < w6.heap.size := (own_blk2 HOD.out.ao g (by simp only [hga]; rfl)).2
              have hg5 : w5.heap.size ≤ g := hAg.ge
              have hgc : w8.cell? ⟨g, v * 11 + 9, none⟩ = some (.bool ((spT A (T.take k))[v]'(by rw [spT_len]; exact hvl)).sp) := hAg.el v (by rw [spT_len]; exact hvl) 9 _ rfl
              have hgf := hAg.fz (v * 11 + 9)
              have hgl := hAg.lt
              have HOG := hidOf hOg
              have t5 : w8.cell? ⟨B16, 5, none⟩ = some (.slice b5 A.length e5) := HT8.out 5 _ rfl
              rw [hga] at t5
              have l16' : B16 < w8.heap.size := lt_of_cell t5
              clear hAg hOg hga
              have HB8 := hidOf (HB.out.trans (HY8.out.mono HB.out.size))
              go_wp2
              go_roundw
              case rel => exact ⟨k + 1, by omega, by simp, hidOf (by rw [HTKS.out, ← spT_set A (T.take k) v hvl]; exact HOG.out), hidOf (HB8.out.setCell (p := ⟨g, v * 11 + 9, none⟩) hg5 _), hidOf (range_of HT8.out (heap_setCell_other w8 ⟨g, v * 11 + 9, none⟩ B16 _ (show B16 ≠ g by omega)))⟩
              case measure => simp [intOf]; omega
            · have hkl : k = stop.length := by omega
              subst hkl
              have htk : T.take stop.length = T := by rw [HSLN.out]; exact List.take_length
              rw [htk] at HO
              have HWr := hidOf (HW5.out.trans (HB.out.mono HW5.out.size))
              have HMV2 := hidOf (moving_any ix2 nx2 b2 J2.length e2 b3 m3 e3 b4 e4 b5 e5 b6 m6 e6 b7 m7 e7 b8 m8 e8 dd ga gc Ln (spT A T) wr HO.out.n (HG.out.kept (fun q hq => HWr.out.block q hq) (fun q hq => Nat.lt_of_lt_of_le hq HWr.out.size)) HO.out.a HSL.out)
              rw [HL.out, mvN_spT, HNOW.out, spT_len] at HMV2
              have t0 : wr.cell? ⟨B16, 0, none⟩ = some (.int .i64 ix2) := HT.out 0 _ rfl
              have t1 : wr.cell? ⟨B16, 1, none⟩ = some (.int .i64 nx2) := HT.out 1 _ rfl
              have t2 : wr.cell? ⟨B16, 2, none⟩ = some (.slice b2 J2.length e2) := HT.out 2 _ rfl
              have t3 : wr.cell? ⟨B16, 3, none⟩ = some (.slice b3 m3 e3) := HT.out 3 _ rfl
              have t4 : wr.cell? ⟨B16, 4, none⟩ = some (.slice b4 Ln.length e4) := HT.out 4 _ rfl
              have t5 : wr.cell? ⟨B16, 5, none⟩ = some (.slice b5 A.length e5) := HT.out 5 _ rfl
              have t6 : wr.cell? ⟨B16, 6, none⟩ = some (.slice b6 m6 e6) := HT.out 6 _ rfl
              have t7 : wr.cell? ⟨B16, 7, none⟩ = some (.slice b7 m7 e7) := HT.out 7 _ rfl
              have t8 : wr.cell? ⟨B16, 8, none⟩ = some (.slice b8 m8 e8) := HT.out 8 _ rfl
              have j0 : wr.cell? ⟨B6, 0, none⟩ = some (.int .i64 dd.id) := (hb_cell HB.out l65).trans (HJ5.out 0 _ rfl)
              have j1 : wr.cell? ⟨B6, 1, none⟩ = some (.int .i64 dd.ty) := (hb_cell HB.out l65).trans (HJ5.out 1 _ rfl)
              have j2 : wr.cell? ⟨B6, 2, none⟩ = some (.int .i64 dd.pr) := (hb_cell HB.out l65).trans (HJ5.out 2 _ rfl)
              have j3 : wr.cell? ⟨B6, 3, none⟩ = some (.int .i64 dd.pa) := (hb_cell HB.out l65).trans (HJ5.out 3 _ rfl)
              have j4 : wr.cell? ⟨B6, 4, none⟩ = some (.slice ga dd.gs.length gc) := (hb_cell HB.out l65).trans (HJ5.out 4 _ rfl)
              have j5 : wr.cell? ⟨B6, 5, none⟩ = some (.int .i64 dd.ve) := (hb_cell HB.out l65).trans (HJ5.out 5 _ rfl)
              have j6 : wr.cell? ⟨B6, 6, none⟩ = some (.bool dd.sd) := (hb_cell HB.out l65).trans (HJ5.out 6 _ rfl)
              have l16 : B16 < wr.heap.size := lt_of_cell t0
              have l6 : B6 < wr.heap.size := lt_of_cell j0
              clear htk
              by_cases hpa : (now : Int) ≤ dd.pa
              · have hpb : decide ((now : Int) ≤ dd.pa) = true := by simp [hpa]
                clear hpa
                go_wp2_with (first | (go_at_call 18; refine HMV2.out.mono ?_; rintro e w9 ⟨rfl, hb9⟩; have HB9 := hidOf (HWr.out.trans (hb9.mono HWr.out.size)); have y3 := (hb_cell hb9 l6).trans j3; have ly := lt_of_cell y3; clear hb9 j3) | (go_at_call 12; refine (lives_any _).mono ?_; rintro e wl ⟨rfl, hbl⟩; have HBL := hidOf hbl; clear hbl))
                go_ret
                exact ⟨rfl, HB9.out.trans (HBL.out.mono HB9.out.size)⟩
              · have hpb : decide ((now : Int) ≤ dd.pa) = false := decide_eq_false hpa
                have hle : now ≤ was := HTM.out.resolve_left hpa
                have hlb2 : decide (now ≤ was) = true := decide_eq_true hle
                clear hpa
                go_wp2_with (first | (go_at_call 18; refine HMV2.out.mono ?_; rintro e w9 ⟨rfl, hb9⟩; have HB9 := hidOf (HWr.out.trans (hb9.mono HWr.out.size)); have y3 := (hb_cell hb9 l6).trans j3; have ly := lt_of_cell y3; clear hb9 j3) | (go_at_call 12; refine (lives_any _).mono ?_; rintro e wl ⟨rfl, hbl⟩; have HBL := hidOf hbl; clear hbl))
                go_ret
                exact ⟨rfl, HB9.out.trans (HBL.out.mono HB9.out.size)⟩
    · have hq : (dd.ty != 1) = true := by simp [hty]
      clear hty
      go_wp2_with (go_at_call 12; refine (lives_any _).mono ?_; rintro e wl ⟨rfl, hbl⟩; have HBL := hidOf hbl; clear hbl)
      go_ret
      exact ⟨rfl, HB1.out.trans (HBL.out.mono HB1.out.size)⟩
end Go.Proofs.Ytaaodmagchpnbaa
