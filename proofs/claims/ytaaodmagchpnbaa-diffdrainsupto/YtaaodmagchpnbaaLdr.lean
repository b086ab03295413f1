/- A node that is drained is left. -/
import Derived.Test.YtaaodmagchpnbaaZi
import Derived.Test.YtaaodmagchpnbaaOu
namespace Go.Proofs.Ytaaodmagchpnbaa
open Go.RowKit Go.Shelf
theorem take_mem {L : List Int} {k : Nat} (h : k < L.length) (z : Int) : decide (z ∈ L.take (k + 1)) = (decide (z ∈ L.take k) || decide (L[k] = z)) := by
  have e : (z ∈ L.take (k + 1)) ↔ (z ∈ L.take k ∨ L[k] = z) := by
    rw [take_snoc L k h, List.mem_append, List.mem_singleton]
    exact ⟨fun h => h.elim .inl (fun e => .inr e.symm), fun h => h.elim .inl (fun e => .inr e.symm)⟩
  rw [decide_eq_decide.2 e, Bool.decide_or]
theorem own_len {w : World} {lo k n e : Nat} {a : Option Addr} {c : Nat} {xs : List Value} (h : w.ownsRow lo e k (.slice a n c) n xs) : n ≤ maxLen := by
  rcases h.2 with ⟨_, hn⟩ | ⟨g, cap, cur, hv, _, _, h1, h2, _⟩
  · omega
  · omega
set_option maxRecDepth 100000 in
set_option maxHeartbeats 8000000 in
theorem walkDrains (s : Sc) (J B : List Js) (X : List Ss) (d : St) (job node : Int) (w : World) (hS : StR w (fun b => b < w.heap.size) s J B X d) (hbb : StB 1048576 d) :
    Calls Try.prog 8 #[.agg #[.int .i64 s.ix, .int .i64 s.nx, .slice s.a2 s.n2 s.c2, .slice s.a3 s.n3 s.c3, .slice s.a4 s.n4 s.c4, .slice s.a5 s.n5 s.c5, .slice s.a6 s.n6 s.c6, .slice s.a7 s.n7 s.c7, .slice s.a8 s.n8 s.c8], .int .i64 job, .int .i64 node] w fun e w' => e = .returned (.bool true) ∧ Below w.heap.size w w' := by
  have hB0 := below1 w (.cells #[.int .i64 s.ix, .int .i64 s.nx, .slice s.a2 s.n2 s.c2, .slice s.a3 s.n3 s.c3, .slice s.a4 s.n4 s.c4, .slice s.a5 s.n5 s.c5, .slice s.a6 s.n6 s.c6, .slice s.a7 s.n7 s.c7, .slice s.a8 s.n8 s.c8] 29)
  have HBX := hidOf (box_new (wr := w) (cs := [.int .i64 s.ix, .int .i64 s.nx, .slice s.a2 s.n2 s.c2, .slice s.a3 s.n3 s.c3, .slice s.a4 s.n4 s.c4, .slice s.a5 s.n5 s.c5, .slice s.a6 s.n6 s.c6, .slice s.a7 s.n7 s.c7, .slice s.a8 s.n8 s.c8]) (t := 29) (Below.refl _ _))
  have HCP := hidOf (fun (W : World) (hW : Below w.heap.size w W) => refCopy_any s J B X d W (hS.kept (fun b hb => hW.block b hb) (fun b hb => Nat.lt_of_lt_of_le hb hW.size)))
  have HND := hidOf (node_ref s node d.nodes (w.alloc (.cells #[.int .i64 s.ix, .int .i64 s.nx, .slice s.a2 s.n2 s.c2, .slice s.a3 s.n3 s.c3, .slice s.a4 s.n4 s.c4, .slice s.a5 s.n5 s.c5, .slice s.a6 s.n6 s.c6, .slice s.a7 s.n7 s.c7, .slice s.a8 s.n8 s.c8] 29)) hS.f.n4 (hS.f.f4.kept (fun b hb => hB0.block b hb) (fun b hb => Nat.lt_of_lt_of_le hb hB0.size)))
  have HB0 := hidOf hB0
  obtain ⟨hbn, hba, hbg⟩ := hbb
  have hrng := fi_rng (fun x : Nd => isI x.id node) d.nodes
  clear hS hB0
  rcases hrng with hv | ⟨m, hv, hm⟩
  · rw [hv] at HND
    clear hv
    go_enter Try.func8, Try.ntmps8
    go_wp2_with (first | (go_at_call 16; refine HND.out.mono ?_; rintro e w1 ⟨rfl, hb1⟩; have HB1 := hidOf (HB0.out.trans (hb1.mono HB0.out.size)); clear hb1) | (go_at_call 12; refine (lives_any _).mono ?_; rintro e wl ⟨rfl, hbl⟩; have HBL := hidOf hbl; clear hbl))
    go_ret
    exact ⟨rfl, HB1.out.trans (HBL.out.mono HB1.out.size)⟩
  · have HNS := hidOf (ndD_set hv hm)
    rw [hv] at HND
    clear hv
    have hk0 : ¬ ((m : Int) < 0) := by omega
    have hk2 : decide ((m : Int) < 0) = false := by simp
    go_enter Try.func8, Try.ntmps8
    go_upto_region 5 with (first | (go_at_call 16; refine HND.out.mono ?_; rintro e w1 ⟨rfl, hb1⟩; have HB1 := hidOf (HB0.out.trans (hb1.mono HB0.out.size)); have HX1 := hidOf (range_of HBX.out (hb1.block w.heap.size (by simp))); have q0 : w1.cell? ⟨w.heap.size, 0, none⟩ = some (.int .i64 s.ix) := HX1.out 0 _ rfl; have q1 : w1.cell? ⟨w.heap.size, 1, none⟩ = some (.int .i64 s.nx) := HX1.out 1 _ rfl; have q2 : w1.cell? ⟨w.heap.size, 2, none⟩ = some (.slice s.a2 s.n2 s.c2) := HX1.out 2 _ rfl; have q3 : w1.cell? ⟨w.heap.size, 3, none⟩ = some (.slice s.a3 s.n3 s.c3) := HX1.out 3 _ rfl; have q4 : w1.cell? ⟨w.heap.size, 4, none⟩ = some (.slice s.a4 s.n4 s.c4) := HX1.out 4 _ rfl; have q5 : w1.cell? ⟨w.heap.size, 5, none⟩ = some (.slice s.a5 s.n5 s.c5) := HX1.out 5 _ rfl; have q6 : w1.cell? ⟨w.heap.size, 6, none⟩ = some (.slice s.a6 s.n6 s.c6) := HX1.out 6 _ rfl; have q7 : w1.cell? ⟨w.heap.size, 7, none⟩ = some (.slice s.a7 s.n7 s.c7) := HX1.out 7 _ rfl; have q8 : w1.cell? ⟨w.heap.size, 8, none⟩ = some (.slice s.a8 s.n8 s.c8) := HX1.out 8 _ rfl; have lq := lt_of_cell q0; clear hb1) | (go_at_call 19; refine (HCP.out _ HB1.out).mono ?_; rintro e w2 ⟨s2, J2, B2, X2, rfl, hS2, hb2, hao, hjb, hno⟩; have HOD := hidOf (owd_copy hS2 hao hjb hno); have HB2 := hidOf hb2; clear hS2 hb2 hao hjb hno q0 q1 q2 q3 q4 q5 q6 q7 q8 lq))
    obtain ⟨B8, hB8⟩ : ∃ B8, w2.heap.size = B8 := ⟨_, rfl⟩
    obtain ⟨ix, nx, a2, n2, c2, a3, n3, c3, a4, n4, c4, a5, n5, c5, a6, n6, c6, a7, n7, c7, a8, n8, c8⟩ := s2
    obtain ⟨e2, e4, e5⟩ : n2 = J2.length ∧ n4 = d.nodes.length ∧ n5 = d.allocs.length := ⟨HOD.out.n2, HOD.out.n4, HOD.out.n5⟩
    subst e2
    subst e4
    subst e5
    generalize d.nodes = Ln at *
    generalize d.allocs = A at *
    generalize d.jobs = Lj at *
    obtain ⟨w3, hw3⟩ : ∃ w3, w2.alloc (.cells #[.int .i64 ix, .int .i64 nx, .slice a2 J2.length c2, .slice a3 n3 c3, .slice a4 Ln.length c4, .slice a5 A.length c5, .slice a6 n6 c6, .slice a7 n7 c7, .slice a8 n8 c8] 29) = w3 := ⟨_, rfl⟩
    have HB3 : Hid (Below w2.heap.size w2 w3) := hidOf (by rw [← hw3]; exact below1 _ _)
    have HT3 : Hid (w3.rangeAt B8 0 [.int .i64 ix, .int .i64 nx, .slice a2 J2.length c2, .slice a3 n3 c3, .slice a4 Ln.length c4, .slice a5 A.length c5, .slice a6 n6 c6, .slice a7 n7 c7, .slice a8 n8 c8]) := hidOf (by rw [← hw3, ← hB8]; exact box_new (wr := w2) (cs := [.int .i64 ix, .int .i64 nx, .slice a2 J2.length c2, .slice a3 n3 c3, .slice a4 Ln.length c4, .slice a5 A.length c5, .slice a6 n6 c6, .slice a7 n7 c7, .slice a8 n8 c8]) (t := 29) (Below.refl _ _))
    have HO3 := hidOf (HOD.out.up HB3.out)
    have hB8w : w1.heap.size ≤ B8 := by rw [← hB8]; exact HB2.out.size
    have hb8l : ∀ g, g < w2.heap.size → g ≠ B8 := fun g hg => by rw [← hB8]; omega
    obtain ⟨g, hA0, _⟩ := HOD.out.node m hm
    have hgB : g ≠ B8 := hb8l g hA0.lt
    obtain ⟨g', hA3, hO4⟩ := HO3.out.node m hm
    have hgg : g' = g := by have h1 := hA3.ad; have h2 := hA0.ad; simp only at h1 h2; rw [h1] at h2; cases h2; rfl
    subst hgg
    have hga := hA3.ad
    simp only at hga
    subst hga
    have hgl := hA3.lt
    have hgf := hA3.fz (m * 8 + 4)
    have hge : w1.heap.size ≤ g' := hA3.ge
    have hgc : w3.cell? ⟨g', m * 8 + 4, none⟩ = some (.bool (Ln[m]).dr) := hA3.el m hm 4 _ rfl
    have hk1 : (m : Int) < (Ln.length : Int) := by omega
    have HO4 := hidOf hO4
    rw [hw3, hB8]
    clear hw3 hA0 hA3 hO4 HOD hb8l hB8 HND HCP HBX
    have t0 : w3.cell? ⟨B8, 0, none⟩ = some (.int .i64 ix) := HT3.out 0 _ rfl
    have t1 : w3.cell? ⟨B8, 1, none⟩ = some (.int .i64 nx) := HT3.out 1 _ rfl
    have t2 : w3.cell? ⟨B8, 2, none⟩ = some (.slice a2 J2.length c2) := HT3.out 2 _ rfl
    have t3 : w3.cell? ⟨B8, 3, none⟩ = some (.slice a3 n3 c3) := HT3.out 3 _ rfl
    have t4 : w3.cell? ⟨B8, 4, none⟩ = some (.slice (some ⟨g', 0, none⟩) Ln.length c4) := HT3.out 4 _ rfl
    have t5 : w3.cell? ⟨B8, 5, none⟩ = some (.slice a5 A.length c5) := HT3.out 5 _ rfl
    have t6 : w3.cell? ⟨B8, 6, none⟩ = some (.slice a6 n6 c6) := HT3.out 6 _ rfl
    have t7 : w3.cell? ⟨B8, 7, none⟩ = some (.slice a7 n7 c7) := HT3.out 7 _ rfl
    have t8 : w3.cell? ⟨B8, 8, none⟩ = some (.slice a8 n8 c8) := HT3.out 8 _ rfl
    have l8 : B8 < w3.heap.size := lt_of_cell t0
    go_upto_region 6 with (fail)
    obtain ⟨w4, hw4⟩ : ∃ w4, w3.setCell ⟨g', m * 8 + 4, none⟩ (.bool true) = w4 := ⟨_, rfl⟩
    have HT4 : Hid (w4.rangeAt B8 0 [.int .i64 ix, .int .i64 nx, .slice a2 J2.length c2, .slice a3 n3 c3, .slice (some ⟨g', 0, none⟩) Ln.length c4, .slice a5 A.length c5, .slice a6 n6 c6, .slice a7 n7 c7, .slice a8 n8 c8]) := hidOf (by rw [← hw4]; exact range_of HT3.out (heap_setCell_other w3 ⟨g', m * 8 + 4, none⟩ B8 _ (fun e => hgB e.symm)))
    have HB4 : Hid (Below w.heap.size w w4) := hidOf (by rw [← hw4]; exact ((HB1.out.trans (HB2.out.mono HB1.out.size)).trans (HB3.out.mono (by have := HB1.out.size; have := HB2.out.size; omega))).setCell (p := ⟨g', m * 8 + 4, none⟩) (by show w.heap.size ≤ g'; have := HB1.out.size; omega) _)
    rw [hw4] at HO4 ⊢
    clear l8 t0 t1 t2 t3 t4 t5 t6 t7 t8
    clear hw4 hgc hgf hgl hge HT3 HO3 hk1 HB2 HB3
    have HNL := hidOf (show (Ln.set m { Ln[m] with dr := true }).length = Ln.length from List.length_set)
    obtain ⟨Lm, hLm⟩ : ∃ Lm, Ln.set m { Ln[m] with dr := true } = Lm := ⟨_, rfl⟩
    rw [hLm] at HO4 HNS HNL
    clear hLm
    have hll := HNL.out
    rw [← hll] at HT4
    have t0 : w4.cell? ⟨B8, 0, none⟩ = some (.int .i64 ix) := HT4.out 0 _ rfl
    have t1 : w4.cell? ⟨B8, 1, none⟩ = some (.int .i64 nx) := HT4.out 1 _ rfl
    have t2 : w4.cell? ⟨B8, 2, none⟩ = some (.slice a2 J2.length c2) := HT4.out 2 _ rfl
    have t3 : w4.cell? ⟨B8, 3, none⟩ = some (.slice a3 n3 c3) := HT4.out 3 _ rfl
    have t4 : w4.cell? ⟨B8, 4, none⟩ = some (.slice (some ⟨g', 0, none⟩) Lm.length c4) := HT4.out 4 _ rfl
    have t5 : w4.cell? ⟨B8, 5, none⟩ = some (.slice a5 A.length c5) := HT4.out 5 _ rfl
    have t6 : w4.cell? ⟨B8, 6, none⟩ = some (.slice a6 n6 c6) := HT4.out 6 _ rfl
    have t7 : w4.cell? ⟨B8, 7, none⟩ = some (.slice a7 n7 c7) := HT4.out 7 _ rfl
    have t8 : w4.cell? ⟨B8, 8, none⟩ = some (.slice a8 n8 c8) := HT4.out 8 _ rfl
    have l8 : B8 < w4.heap.size := lt_of_cell t0
    have HDF := hidOf (diff_any ⟨ix, nx, a2, J2.length, c2, a3, n3, c3, some ⟨g', 0, none⟩, Lm.length, c4, a5, A.length, c5, a6, n6, c6, a7, n7, c7, a8, n8, c8⟩ job J2 Lj Lm A w4 rfl rfl rfl HO4.out.j HO4.out.n HO4.out.a (fun x hx => sl_ok (hbg x hx) (by rw [hll]; exact hbn)))
    have HDS := hidOf (fun (h : ¬ dfI Lj job < 0) (k : Nat) (hk : k < A.length) h1 h2 h3 h4 => drain_stop (z := node) h HNS.out k hk h1 h2 h3 h4)
    have hS0 : Hid (dfI Lj job < 0 → dfS Lj Lm A job = []) := hidOf fun h => by unfold dfS; rw [if_pos h]
    obtain ⟨stop, hstop⟩ : ∃ stop, dfS Lj Lm A job = stop := ⟨_, rfl⟩
    rw [hstop] at HDF HDS hS0
    obtain ⟨fill, hfill⟩ : ∃ fill, dfF Lj Lm A job = fill := ⟨_, rfl⟩
    rw [hfill] at HDF
    clear hstop hfill hll
    go_upto_region 7 with (go_at_call 9; refine HDF.out.mono ?_; rintro e w5 ⟨sa, sc, fa, fc, rfl, ho5, _, hb5⟩; have HO5 := hidOf ho5; have HB5 := hidOf hb5; have HT5 := hidOf (range_of HT4.out (hb5.block B8 l8)); clear ho5 hb5)
    clear l8 t0 t1 t2 t3 t4 t5 t6 t7 t8
    have t0 : w5.cell? ⟨B8, 0, none⟩ = some (.int .i64 ix) := HT5.out 0 _ rfl
    have t1 : w5.cell? ⟨B8, 1, none⟩ = some (.int .i64 nx) := HT5.out 1 _ rfl
    have t2 : w5.cell? ⟨B8, 2, none⟩ = some (.slice a2 J2.length c2) := HT5.out 2 _ rfl
    have t3 : w5.cell? ⟨B8, 3, none⟩ = some (.slice a3 n3 c3) := HT5.out 3 _ rfl
    have t4 : w5.cell? ⟨B8, 4, none⟩ = some (.slice (some ⟨g', 0, none⟩) Lm.length c4) := HT5.out 4 _ rfl
    have t5 : w5.cell? ⟨B8, 5, none⟩ = some (.slice a5 A.length c5) := HT5.out 5 _ rfl
    have t6 : w5.cell? ⟨B8, 6, none⟩ = some (.slice a6 n6 c6) := HT5.out 6 _ rfl
    have t7 : w5.cell? ⟨B8, 7, none⟩ = some (.slice a7 n7 c7) := HT5.out 7 _ rfl
    have t8 : w5.cell? ⟨B8, 8, none⟩ = some (.slice a8 n8 c8) := HT5.out 8 _ rfl
    have l8 : B8 < w5.heap.size := lt_of_cell t0
    have HOD5 := hidOf (HO4.out.up HB5.out)
    have hjf := HOD5.out.j.fi job
    have HJR := hidOf (job_ref ⟨ix, nx, a2, J2.length, c2, a3, n3, c3, some ⟨g', 0, none⟩, Lm.length, c4, a5, A.length, c5, a6, n6, c6, a7, n7, c7, a8, n8, c8⟩ job J2 w5 rfl HOD5.out.j.row)
    rw [hjf] at HJR
    have hrj : dfI Lj job = -1 ∨ ∃ m : Nat, dfI Lj job = (m : Int) ∧ m < Lj.length := fi_rng (fun x : Jb => isI x.id job) Lj
    have hfold : fi (fun x : Jb => isI x.id job) Lj = dfI Lj job := rfl
    rw [hfold] at HJR
    have HB45 := hidOf (HB4.out.trans (HB5.out.mono HB4.out.size))
    clear hjf hfold HDF HT4 HO4 hk0 hk2
    rcases hrj with hj | ⟨mj, hj, hmj⟩
    · have hse := hS0.out (by omega)
      subst hse
      rw [hj] at HJR
      clear hj
      go_wp2_with (first | (go_at_call 14; refine HJR.out.mono ?_; rintro e w6 ⟨rfl, hb6⟩; have HB6 := hidOf hb6; clear hb6) | (go_at_call 12; refine (lives_any _).mono ?_; rintro e wl ⟨rfl, hbl⟩; have HBL := hidOf hbl; clear hbl))
      go_ret
      exact ⟨rfl, (HB45.out.trans (HB6.out.mono HB45.out.size)).trans (HBL.out.mono (by have := HB45.out.size; have := HB6.out.size; omega))⟩
    · have HST := hidOf (HDS.out (by omega))
      rw [hj] at HJR
      clear hj HDS hS0
      have hk2 : decide ((mj : Int) < 0) = false := by simp
      go_upto_region 9 with (go_at_call 14; refine HJR.out.mono ?_; rintro e w6 ⟨rfl, hb6⟩; have HB6 := hidOf hb6; clear hb6)
      have HT6 := hidOf (range_of HT5.out (HB6.out.block B8 l8))
      clear l8 t0 t1 t2 t3 t4 t5 t6 t7 t8
      have HA6 := hidOf (HOD5.out.up HB6.out).a
      have hbA := HA6.out.bd
      have HW6 := hidOf (HB45.out.trans (HB6.out.mono HB45.out.size))
      have HSF := hidOf ((own_fl (y := 0) iC_len HO5.out (by omega)).kept (w' := w6) (S' := fun b => b < w6.heap.size) (fun b hb => HB6.out.block b hb.lt) (fun b hb => Nat.lt_of_lt_of_le hb.lt HB6.out.size))
      have hsm := own_len HO5.out
      unfold maxLen at hsm
      have l86 : B8 < w6.heap.size := lt_of_cell (HT6.out 0 _ rfl)
      clear HJR HT5 HOD5 HB45
      go_wp2
      go_loopw [11] (fun i wr => ∃ k : Nat, k ≤ A.length ∧ i = .int .i64 k ∧ Hid (Below w6.heap.size w6 wr)) (fun i _ => A.length - (intOf i).toNat)
      case atStart => exact ⟨0, Nat.zero_le _, rfl, hidOf (Below.refl _ _)⟩
      case round =>
        obtain ⟨k, hk, rfl, HBr⟩ := hrel
        obtain ⟨wq, hwq⟩ : ∃ x, x = wr := ⟨_, rfl⟩
        subst hwq
        have t5 : wq.cell? ⟨B8, 5, none⟩ = some (.slice a5 A.length c5) := (hb_cell HBr.out l86).trans (HT6.out 5 _ rfl)
        have l8 : B8 < wq.heap.size := lt_of_cell t5
        by_cases hlt : k < A.length
        · obtain ⟨b, off, ha, hQb, hcc⟩ := HA6.out.at k hlt
          have hQb' : b < w6.heap.size := hQb
          have HS1 := hidOf (HST.out k hlt)
          obtain ⟨x, hx⟩ : ∃ x, A[k] = x := ⟨_, rfl⟩
          rw [hx] at hcc HS1
          clear hx
          subst ha
          have hcr := range_of hcc (HBr.out.block b hQb')
          have hbl : b < wq.heap.size := Nat.lt_of_lt_of_le hQb' HBr.out.size
          have c0 : wq.cell? ⟨b, off + k * 11, none⟩ = some (.int .i64 x.id) := hcr 0 _ rfl
          have c1 : wq.cell? ⟨b, off + k * 11 + 1, none⟩ = some (.int .i64 x.jb) := hcr 1 _ rfl
          have c2 : wq.cell? ⟨b, off + k * 11 + 2, none⟩ = some (.int .i64 x.ve) := hcr 2 _ rfl
          have c3 : wq.cell? ⟨b, off + k * 11 + 3, none⟩ = some (.int .i64 x.gr) := hcr 3 _ rfl
          have c4 : wq.cell? ⟨b, off + k * 11 + 4, none⟩ = some (.int .i64 x.ix) := hcr 4 _ rfl
          have c5 : wq.cell? ⟨b, off + k * 11 + 5, none⟩ = some (.int .i64 x.nd) := hcr 5 _ rfl
          have c6 : wq.cell? ⟨b, off + k * 11 + 6, none⟩ = some (.int .i64 x.ep) := hcr 6 _ rfl
          have c7 : wq.cell? ⟨b, off + k * 11 + 7, none⟩ = some (.int .i64 x.c) := hcr 7 _ rfl
          have c8 : wq.cell? ⟨b, off + k * 11 + 8, none⟩ = some (.int .i64 x.m) := hcr 8 _ rfl
          have c9 : wq.cell? ⟨b, off + k * 11 + 9, none⟩ = some (.bool x.sp) := hcr 9 _ rfl
          have c10 : wq.cell? ⟨b, off + k * 11 + 10, none⟩ = some (.int .i64 x.st) := hcr 10 _ rfl
          clear hcc hcr hQb
          have hbq := box_new (wr := wq) (cs := Al.cs x) (t := 47) (Below.refl _ _)
          have HXB := hidOf hbq
          clear hbq
          have e0 : (wq.alloc (.cells #[.int .i64 x.id, .int .i64 x.jb, .int .i64 x.ve, .int .i64 x.gr, .int .i64 x.ix, .int .i64 x.nd, .int .i64 x.ep, .int .i64 x.c, .int .i64 x.m, .bool x.sp, .int .i64 x.st] 47)).cell? ⟨wq.heap.size, 0, none⟩ = some (.int .i64 x.id) := HXB.out 0 _ rfl
          have e1 : (wq.alloc (.cells #[.int .i64 x.id, .int .i64 x.jb, .int .i64 x.ve, .int .i64 x.gr, .int .i64 x.ix, .int .i64 x.nd, .int .i64 x.ep, .int .i64 x.c, .int .i64 x.m, .bool x.sp, .int .i64 x.st] 47)).cell? ⟨wq.heap.size, 1, none⟩ = some (.int .i64 x.jb) := HXB.out 1 _ rfl
          have e5 : (wq.alloc (.cells #[.int .i64 x.id, .int .i64 x.jb, .int .i64 x.ve, .int .i64 x.gr, .int .i64 x.ix, .int .i64 x.nd, .int .i64 x.ep, .int .i64 x.c, .int .i64 x.m, .bool x.sp, .int .i64 x.st] 47)).cell? ⟨wq.heap.size, 5, none⟩ = some (.int .i64 x.nd) := HXB.out 5 _ rfl
          have e9 : (wq.alloc (.cells #[.int .i64 x.id, .int .i64 x.jb, .int .i64 x.ve, .int .i64 x.gr, .int .i64 x.ix, .int .i64 x.nd, .int .i64 x.ep, .int .i64 x.c, .int .i64 x.m, .bool x.sp, .int .i64 x.st] 47)).cell? ⟨wq.heap.size, 9, none⟩ = some (.bool x.sp) := HXB.out 9 _ rfl
          have e10 : (wq.alloc (.cells #[.int .i64 x.id, .int .i64 x.jb, .int .i64 x.ve, .int .i64 x.gr, .int .i64 x.ix, .int .i64 x.nd, .int .i64 x.ep, .int .i64 x.c, .int .i64 x.m, .bool x.sp, .int .i64 x.st] 47)).cell? ⟨wq.heap.size, 10, none⟩ = some (.int .i64 x.st) := HXB.out 10 _ rfl
          go_upto_region 13 with (fail)
          clear c0 c1 c2 c3 c4 c5 c6 c7 c8 c9 c10
          obtain ⟨wA, hwA⟩ : ∃ wA, wq.alloc (.cells #[.int .i64 x.id, .int .i64 x.jb, .int .i64 x.ve, .int .i64 x.gr, .int .i64 x.ix, .int .i64 x.nd, .int .i64 x.ep, .int .i64 x.c, .int .i64 x.m, .bool x.sp, .int .i64 x.st] 47) = wA := ⟨_, rfl⟩
          have HZA : Hid (Below wq.heap.size wq wA) := hidOf (by rw [← hwA]; exact below1 _ _)
          obtain ⟨B12, hB12⟩ : ∃ B12, wq.heap.size = B12 := ⟨_, rfl⟩
          rw [hwA, hB12] at e0 e1 e5 e9 e10
          rw [hwA, hB12]
          clear hwA hB12
          have l12 : B12 < wA.heap.size := lt_of_cell e0
          by_cases hj : x.jb = job
          · have hjb : (x.jb != job) = false := by simp [hj]
            have HJ := hidOf hj
            clear hj
            by_cases hn : x.nd = node
            · have hnb : (x.nd != node) = false := by simp [hn]
              have HN := hidOf hn
              clear hn
              by_cases ho : 3 ≤ x.st
              · have hob : decide (3 ≤ x.st) = true := by simp [ho]
                go_wp2
                go_roundw
                case rel => exact ⟨k + 1, by omega, by simp, hidOf (HBr.out.trans (HZA.out.mono HBr.out.size))⟩
                case measure => simp [intOf]; omega
              · have hob : decide (3 ≤ x.st) = false := by simp [ho]
                have HOV := hidOf (ovr_false ho)
                clear ho
                cases hsp : x.sp with
                | true =>
                  replace e9 := e9.trans (congrArg (fun z => some (Value.bool z)) hsp)
                  go_wp2
                  go_roundw
                  case rel => exact ⟨k + 1, by omega, by simp, hidOf (HBr.out.trans (HZA.out.mono HBr.out.size))⟩
                  case measure => simp [intOf]; omega
                | false =>
                  have hmem := HS1.out HJ.out HN.out HOV.out hsp
                  replace e9 := e9.trans (congrArg (fun z => some (Value.bool z)) hsp)
                  have HME := hidOf hmem
                  clear hmem
                  go_wp2
                  go_loopw [13, 14] (fun f i wr => ∃ k2 : Nat, k2 ≤ stop.length ∧ i = .int .i64 k2 ∧ f = .bool (decide (x.id ∈ stop.take k2)) ∧ Hid (Below wA.heap.size wA wr)) (fun _ i _ => stop.length - (intOf i).toNat)
                  case atStart => exact ⟨0, Nat.zero_le _, rfl, by simp, hidOf (Below.refl _ _)⟩
                  case round =>
                    obtain ⟨k2, hk2', rfl, rfl, HZ⟩ := hrel
                    by_cases hl2 : k2 < stop.length
                    · obtain ⟨b7, off7, ha7, hQ7, hc7⟩ := HSF.out.at k2 hl2
                      have hQ7' : b7 < w6.heap.size := hQ7
                      have HTM := hidOf (take_mem hl2 x.id)
                      obtain ⟨y, hy⟩ : ∃ y, stop[k2] = y := ⟨_, rfl⟩
                      rw [hy] at hc7 HTM
                      clear hy
                      subst ha7
                      have hs7 := HBr.out.size
                      have hs8 := HZA.out.size
                      have hs9 := HZ.out.size
                      have ky : wr.cell? ⟨b7, off7 + k2, none⟩ = some (.int .i64 y) := (hb_cell HZ.out (by omega)).trans ((hb_cell HZA.out (by omega)).trans ((hb_cell HBr.out hQ7').trans (by have := hc7 0 _ rfl; simpa using this)))
                      have l7 : b7 < wr.heap.size := lt_of_cell ky
                      have kx : wr.cell? ⟨B12, 0, none⟩ = some (.int .i64 x.id) := (hb_cell HZ.out l12).trans e0
                      have l12r : B12 < wr.heap.size := lt_of_cell kx
                      have hi0 : ¬ ((k2 : Int) < 0) := by omega
                      have hi1 : (k2 : Int) < (stop.length : Int) := by omega
                      go_upto_region 18 with (fail)
                      cases hf : decide (x.id ∈ stop.take k2) with
                      | true =>
                        rw [hf] at HTM
                        refine wp_region_held_drew (S := fun (_Y : World) => True) (by kernel_rfl) trivial (fun hHeld => ?_)
                        refine wpAnyH_take (i := 0) (oi := { dst := some 81, op := Op.move (Operand.tmp 13), type := 4, pos := "law.go:203", after := #[], guard := none }) (v := .bool true) rfl (by kernel_rfl) (by kernel_rfl) (by kernel_rfl) (fun _ _ _ h => h) (Or.inl ⟨by rfl, ?_⟩) hHeld ?_
                        · (intro w hSw; (try dsimp only at hSw); go_simp)
                        try simp only [Act.put, List.setIfInBounds_toArray, List.set_cons_zero, List.set_cons_succ]
                        refine wpAnyH_take (i := 1) (oi := { dst := some 82, op := Op.move (Operand.tmp 81), type := 4, pos := "law.go:203", after := #[{ on := 0, ground := Ground.data }], guard := none }) (v := .bool true) rfl (by kernel_rfl) (by kernel_rfl) (by kernel_rfl) (fun _ _ _ h => h) (Or.inl ⟨by rfl, ?_⟩) hHeld ?_
                        · (intro w hSw; (try dsimp only at hSw); go_simp)
                        try simp only [Act.put, List.setIfInBounds_toArray, List.set_cons_zero, List.set_cons_succ]
                        refine wpAnyH_take (i := 2) (oi := { dst := some 83, op := Op.move (Operand.tmp 9), type := 30, pos := "law.go:203", after := #[{ on := 1, ground := Ground.guard }], guard := some (1, false) }) (v := undef) rfl (by kernel_rfl) (by kernel_rfl) (by kernel_rfl) (fun _ _ _ h => h) (Or.inr ⟨by rfl, rfl⟩) hHeld ?_
                        try simp only [Act.put, List.setIfInBounds_toArray, List.set_cons_zero, List.set_cons_succ]
                        refine wpAnyH_take (i := 3) (oi := { dst := some 84, op := Op.move (Operand.tmp 14), type := 3, pos := "law.go:203", after := #[{ on := 1, ground := Ground.guard }], guard := some (1, false) }) (v := undef) rfl (by kernel_rfl) (by kernel_rfl) (by kernel_rfl) (fun _ _ _ h => h) (Or.inr ⟨by rfl, rfl⟩) hHeld ?_
                        try simp only [Act.put, List.setIfInBounds_toArray, List.set_cons_zero, List.set_cons_succ]
                        refine wpAnyH_take (i := 4) (oi := { dst := some 85, op := Op.indexAddr 30 (Operand.tmp 83) (Operand.tmp 84), type := 0, pos := "law.go:203", after := #[{ on := 2, ground := Ground.data }, { on := 3, ground := Ground.data }, { on := 1, ground := Ground.guard }], guard := some (1, false) }) (v := undef) rfl (by kernel_rfl) (by kernel_rfl) (by kernel_rfl) (fun _ _ _ h => h) (Or.inr ⟨by rfl, rfl⟩) hHeld ?_
                        try simp only [Act.put, List.setIfInBounds_toArray, List.set_cons_zero, List.set_cons_succ]
                        refine wpAnyH_take (i := 5) (oi := { dst := some 86, op := Op.load 3 (Operand.tmp 85), type := 3, pos := "law.go:203", after := #[{ on := 4, ground := Ground.data }, { on := 1, ground := Ground.guard }], guard := some (1, false) }) (v := undef) rfl (by kernel_rfl) (by kernel_rfl) (by kernel_rfl) (fun _ _ _ h => h) (Or.inr ⟨by rfl, rfl⟩) hHeld ?_
                        try simp only [Act.put, List.setIfInBounds_toArray, List.set_cons_zero, List.set_cons_succ]
                        refine wpAnyH_take (i := 6) (oi := { dst := some 87, op := Op.fieldAddr 47 (Operand.tmp 12) 0, type := 0, pos := "law.go:203", after := #[{ on := 1, ground := Ground.guard }], guard := some (1, false) }) (v := undef) rfl (by kernel_rfl) (by kernel_rfl) (by kernel_rfl) (fun _ _ _ h => h) (Or.inr ⟨by rfl, rfl⟩) hHeld ?_
                        try simp only [Act.put, List.setIfInBounds_toArray, List.set_cons_zero, List.set_cons_succ]
                        refine wpAnyH_take (i := 7) (oi := { dst := some 88, op := Op.load 3 (Operand.tmp 87), type := 3, pos := "law.go:203", after := #[{ on := 6, ground := Ground.data }, { on := 1, ground := Ground.guard }], guard := some (1, false) }) (v := undef) rfl (by kernel_rfl) (by kernel_rfl) (by kernel_rfl) (fun _ _ _ h => h) (Or.inr ⟨by rfl, rfl⟩) hHeld ?_
                        try simp only [Act.put, List.setIfInBounds_toArray, List.set_cons_zero, List.set_cons_succ]
                        refine wpAnyH_take (i := 8) (oi := { dst := some 89, op := Op.binOp BinOp.eql 3 (Operand.tmp 86) (Operand.tmp 88) 3, type := 4, pos := "law.go:203", after := #[{ on := 5, ground := Ground.data }, { on := 7, ground := Ground.data }, { on := 1, ground := Ground.guard }], guard := some (1, false) }) (v := undef) rfl (by kernel_rfl) (by kernel_rfl) (by kernel_rfl) (fun _ _ _ h => h) (Or.inr ⟨by rfl, rfl⟩) hHeld ?_
                        try simp only [Act.put, List.setIfInBounds_toArray, List.set_cons_zero, List.set_cons_succ]
                        refine wpAnyH_take (i := 9) (oi := { dst := some 90, op := Op.pick (Operand.tmp 82) (Operand.const (Value.bool true)) (Operand.tmp 89), type := 4, pos := "law.go:203", after := #[{ on := 1, ground := Ground.data }, { on := 8, ground := Ground.data }], guard := none }) (v := .bool true) rfl (by kernel_rfl) (by kernel_rfl) (by kernel_rfl) (fun _ _ _ h => h) (Or.inl ⟨by rfl, ?_⟩) hHeld ?_
                        · (intro w hSw; (try dsimp only at hSw); go_simp)
                        try simp only [Act.put, List.setIfInBounds_toArray, List.set_cons_zero, List.set_cons_succ]
                        refine wpAnyH_take (i := 10) (oi := { dst := some 13, op := Op.assign (Operand.tmp 90), type := 4, pos := "law.go:203", after := #[{ on := 9, ground := Ground.data }, { on := 1, ground := Ground.chain }, { on := 0, ground := Ground.phase }, { on := 1, ground := Ground.phase }, { on := 2, ground := Ground.phase }, { on := 3, ground := Ground.phase }, { on := 4, ground := Ground.phase }, { on := 5, ground := Ground.phase }, { on := 6, ground := Ground.phase }, { on := 7, ground := Ground.phase }, { on := 8, ground := Ground.phase }, { on := 9, ground := Ground.phase }], guard := none }) (v := .bool true) rfl (by kernel_rfl) (by kernel_rfl) (by kernel_rfl) (fun _ _ _ h => h) (Or.inl ⟨by rfl, ?_⟩) hHeld ?_
                        · (intro w hSw; (try dsimp only at hSw); go_simp)
                        try simp only [Act.put, List.setIfInBounds_toArray, List.set_cons_zero, List.set_cons_succ]
                        refine wpAnyH_done (by kernel_rfl) ?_ _
                        go_wp2
                        go_roundw
                        case rel => exact ⟨k2 + 1, by omega, by simp, by rw [HTM.out]; rfl, hidOf (HZ.out.trans ((bdrew wr).mono HZ.out.size))⟩
                        case measure => simp [intOf]; omega
                      | false =>
                        rw [hf] at HTM
                        by_cases he : y = x.id
                        · have heb : (y == x.id) = true := by simp [he]
                          have HE := hidOf he
                          clear he
                          refine wp_region_held_drew (S := fun (Y : World) => Y.cell? ⟨b7, off7 + k2, none⟩ = some (.int .i64 y) ∧ Y.cell? ⟨B12, 0, none⟩ = some (.int .i64 x.id)) (by kernel_rfl) ⟨ky, kx⟩ (fun hHeld => ?_)
                          refine wpAnyH_take (i := 0) (oi := { dst := some 81, op := Op.move (Operand.tmp 13), type := 4, pos := "law.go:203", after := #[], guard := none }) (v := .bool false) rfl (by kernel_rfl) (by kernel_rfl) (by kernel_rfl) (fun _ _ _ h => h) (Or.inl ⟨by rfl, ?_⟩) hHeld ?_
                          · (intro w hSw; (try dsimp only at hSw); go_simp)
                          try simp only [Act.put, List.setIfInBounds_toArray, List.set_cons_zero, List.set_cons_succ]
                          refine wpAnyH_take (i := 1) (oi := { dst := some 82, op := Op.move (Operand.tmp 81), type := 4, pos := "law.go:203", after := #[{ on := 0, ground := Ground.data }], guard := none }) (v := .bool false) rfl (by kernel_rfl) (by kernel_rfl) (by kernel_rfl) (fun _ _ _ h => h) (Or.inl ⟨by rfl, ?_⟩) hHeld ?_
                          · (intro w hSw; (try dsimp only at hSw); go_simp)
                          try simp only [Act.put, List.setIfInBounds_toArray, List.set_cons_zero, List.set_cons_succ]
                          refine wpAnyH_take (i := 2) (oi := { dst := some 83, op := Op.move (Operand.tmp 9), type := 30, pos := "law.go:203", after := #[{ on := 1, ground := Ground.guard }], guard := some (1, false) }) (v := .slice (some ⟨b7, off7, none⟩) stop.length sc) rfl (by kernel_rfl) (by kernel_rfl) (by kernel_rfl) (fun _ _ _ h => h) (Or.inl ⟨by rfl, ?_⟩) hHeld ?_
                          · (intro w hSw; (try dsimp only at hSw); go_simp)
                          try simp only [Act.put, List.setIfInBounds_toArray, List.set_cons_zero, List.set_cons_succ]
                          refine wpAnyH_take (i := 3) (oi := { dst := some 84, op := Op.move (Operand.tmp 14), type := 3, pos := "law.go:203", after := #[{ on := 1, ground := Ground.guard }], guard := some (1, false) }) (v := .int .i64 (k2 : Int)) rfl (by kernel_rfl) (by kernel_rfl) (by kernel_rfl) (fun _ _ _ h => h) (Or.inl ⟨by rfl, ?_⟩) hHeld ?_
                          · (intro w hSw; (try dsimp only at hSw); go_simp)
                          try simp only [Act.put, List.setIfInBounds_toArray, List.set_cons_zero, List.set_cons_succ]
                          refine wpAnyH_take (i := 4) (oi := { dst := some 85, op := Op.indexAddr 30 (Operand.tmp 83) (Operand.tmp 84), type := 0, pos := "law.go:203", after := #[{ on := 2, ground := Ground.data }, { on := 3, ground := Ground.data }, { on := 1, ground := Ground.guard }], guard := some (1, false) }) (v := .pointer (some ⟨b7, off7 + k2, none⟩)) rfl (by kernel_rfl) (by kernel_rfl) (by kernel_rfl) (fun _ _ _ h => h) (Or.inl ⟨by rfl, ?_⟩) hHeld ?_
                          · (intro w hSw; (try dsimp only at hSw); go_simp)
                          try simp only [Act.put, List.setIfInBounds_toArray, List.set_cons_zero, List.set_cons_succ]
                          refine wpAnyH_take (i := 5) (oi := { dst := some 86, op := Op.load 3 (Operand.tmp 85), type := 3, pos := "law.go:203", after := #[{ on := 4, ground := Ground.data }, { on := 1, ground := Ground.guard }], guard := some (1, false) }) (v := .int .i64 y) rfl (by kernel_rfl) (by kernel_rfl) (by kernel_rfl) (fun _ _ _ h => h) (Or.inl ⟨by rfl, ?_⟩) hHeld ?_
                          · (intro w hSw; (try dsimp only at hSw); go_simp)
                          try simp only [Act.put, List.setIfInBounds_toArray, List.set_cons_zero, List.set_cons_succ]
                          refine wpAnyH_take (i := 6) (oi := { dst := some 87, op := Op.fieldAddr 47 (Operand.tmp 12) 0, type := 0, pos := "law.go:203", after := #[{ on := 1, ground := Ground.guard }], guard := some (1, false) }) (v := .pointer (some ⟨B12, 0, none⟩)) rfl (by kernel_rfl) (by kernel_rfl) (by kernel_rfl) (fun _ _ _ h => h) (Or.inl ⟨by rfl, ?_⟩) hHeld ?_
                          · (intro w hSw; (try dsimp only at hSw); go_simp)
                          try simp only [Act.put, List.setIfInBounds_toArray, List.set_cons_zero, List.set_cons_succ]
                          refine wpAnyH_take (i := 7) (oi := { dst := some 88, op := Op.load 3 (Operand.tmp 87), type := 3, pos := "law.go:203", after := #[{ on := 6, ground := Ground.data }, { on := 1, ground := Ground.guard }], guard := some (1, false) }) (v := .int .i64 x.id) rfl (by kernel_rfl) (by kernel_rfl) (by kernel_rfl) (fun _ _ _ h => h) (Or.inl ⟨by rfl, ?_⟩) hHeld ?_
                          · (intro w hSw; (try dsimp only at hSw); go_simp)
                          try simp only [Act.put, List.setIfInBounds_toArray, List.set_cons_zero, List.set_cons_succ]
                          refine wpAnyH_take (i := 8) (oi := { dst := some 89, op := Op.binOp BinOp.eql 3 (Operand.tmp 86) (Operand.tmp 88) 3, type := 4, pos := "law.go:203", after := #[{ on := 5, ground := Ground.data }, { on := 7, ground := Ground.data }, { on := 1, ground := Ground.guard }], guard := some (1, false) }) (v := .bool true) rfl (by kernel_rfl) (by kernel_rfl) (by kernel_rfl) (fun _ _ _ h => h) (Or.inl ⟨by rfl, ?_⟩) hHeld ?_
                          · (intro w hSw; (try dsimp only at hSw); go_simp)
                          try simp only [Act.put, List.setIfInBounds_toArray, List.set_cons_zero, List.set_cons_succ]
                          refine wpAnyH_take (i := 9) (oi := { dst := some 90, op := Op.pick (Operand.tmp 82) (Operand.const (Value.bool true)) (Operand.tmp 89), type := 4, pos := "law.go:203", after := #[{ on := 1, ground := Ground.data }, { on := 8, ground := Ground.data }], guard := none }) (v := .bool true) rfl (by kernel_rfl) (by kernel_rfl) (by kernel_rfl) (fun _ _ _ h => h) (Or.inl ⟨by rfl, ?_⟩) hHeld ?_
                          · (intro w hSw; (try dsimp only at hSw); go_simp)
                          try simp only [Act.put, List.setIfInBounds_toArray, List.set_cons_zero, List.set_cons_succ]
                          refine wpAnyH_take (i := 10) (oi := { dst := some 13, op := Op.assign (Operand.tmp 90), type := 4, pos := "law.go:203", after := #[{ on := 9, ground := Ground.data }, { on := 1, ground := Ground.chain }, { on := 0, ground := Ground.phase }, { on := 1, ground := Ground.phase }, { on := 2, ground := Ground.phase }, { on := 3, ground := Ground.phase }, { on := 4, ground := Ground.phase }, { on := 5, ground := Ground.phase }, { on := 6, ground := Ground.phase }, { on := 7, ground := Ground.phase }, { on := 8, ground := Ground.phase }, { on := 9, ground := Ground.phase }], guard := none }) (v := .bool true) rfl (by kernel_rfl) (by kernel_rfl) (by kernel_rfl) (fun _ _ _ h => h) (Or.inl ⟨by rfl, ?_⟩) hHeld ?_
                          · (intro w hSw; (try dsimp only at hSw); go_simp)
                          try simp only [Act.put, List.setIfInBounds_toArray, List.set_cons_zero, List.set_cons_succ]
                          refine wpAnyH_done (by kernel_rfl) ?_ _
                          go_wp2
                          go_roundw
                          case rel => exact ⟨k2 + 1, by omega, by simp, by rw [HTM.out, decide_eq_true HE.out]; rfl, hidOf (HZ.out.trans ((bdrew wr).mono HZ.out.size))⟩
                          case measure => simp [intOf]; omega
                        · have heb : (y == x.id) = false := by simp [he]
                          have HE := hidOf he
                          clear he
                          refine wp_region_held_drew (S := fun (Y : World) => Y.cell? ⟨b7, off7 + k2, none⟩ = some (.int .i64 y) ∧ Y.cell? ⟨B12, 0, none⟩ = some (.int .i64 x.id)) (by kernel_rfl) ⟨ky, kx⟩ (fun hHeld => ?_)
                          refine wpAnyH_take (i := 0) (oi := { dst := some 81, op := Op.move (Operand.tmp 13), type := 4, pos := "law.go:203", after := #[], guard := none }) (v := .bool false) rfl (by kernel_rfl) (by kernel_rfl) (by kernel_rfl) (fun _ _ _ h => h) (Or.inl ⟨by rfl, ?_⟩) hHeld ?_
                          · (intro w hSw; (try dsimp only at hSw); go_simp)
                          try simp only [Act.put, List.setIfInBounds_toArray, List.set_cons_zero, List.set_cons_succ]
                          refine wpAnyH_take (i := 1) (oi := { dst := some 82, op := Op.move (Operand.tmp 81), type := 4, pos := "law.go:203", after := #[{ on := 0, ground := Ground.data }], guard := none }) (v := .bool false) rfl (by kernel_rfl) (by kernel_rfl) (by kernel_rfl) (fun _ _ _ h => h) (Or.inl ⟨by rfl, ?_⟩) hHeld ?_
                          · (intro w hSw; (try dsimp only at hSw); go_simp)
                          try simp only [Act.put, List.setIfInBounds_toArray, List.set_cons_zero, List.set_cons_succ]
                          refine wpAnyH_take (i := 2) (oi := { dst := some 83, op := Op.move (Operand.tmp 9), type := 30, pos := "law.go:203", after := #[{ on := 1, ground := Ground.guard }], guard := some (1, false) }) (v := .slice (some ⟨b7, off7, none⟩) stop.length sc) rfl (by kernel_rfl) (by kernel_rfl) (by kernel_rfl) (fun _ _ _ h => h) (Or.inl ⟨by rfl, ?_⟩) hHeld ?_
                          · (intro w hSw; (try dsimp only at hSw); go_simp)
                          try simp only [Act.put, List.setIfInBounds_toArray, List.set_cons_zero, List.set_cons_succ]
                          refine wpAnyH_take (i := 3) (oi := { dst := some 84, op := Op.move (Operand.tmp 14), type := 3, pos := "law.go:203", after := #[{ on := 1, ground := Ground.guard }], guard := some (1, false) }) (v := .int .i64 (k2 : Int)) rfl (by kernel_rfl) (by kernel_rfl) (by kernel_rfl) (fun _ _ _ h => h) (Or.inl ⟨by rfl, ?_⟩) hHeld ?_
                          · (intro w hSw; (try dsimp only at hSw); go_simp)
                          try simp only [Act.put, List.setIfInBounds_toArray, List.set_cons_zero, List.set_cons_succ]
                          refine wpAnyH_take (i := 4) (oi := { dst := some 85, op := Op.indexAddr 30 (Operand.tmp 83) (Operand.tmp 84), type := 0, pos := "law.go:203", after := #[{ on := 2, ground := Ground.data }, { on := 3, ground := Ground.data }, { on := 1, ground := Ground.guard }], guard := some (1, false) }) (v := .pointer (some ⟨b7, off7 + k2, none⟩)) rfl (by kernel_rfl) (by kernel_rfl) (by kernel_rfl) (fun _ _ _ h => h) (Or.inl ⟨by rfl, ?_⟩) hHeld ?_
                          · (intro w hSw; (try dsimp only at hSw); go_simp)
                          try simp only [Act.put, List.setIfInBounds_toArray, List.set_cons_zero, List.set_cons_succ]
                          refine wpAnyH_take (i := 5) (oi := { dst := some 86, op := Op.load 3 (Operand.tmp 85), type := 3, pos := "law.go:203", after := #[{ on := 4, ground := Ground.data }, { on := 1, ground := Ground.guard }], guard := some (1, false) }) (v := .int .i64 y) rfl (by kernel_rfl) (by kernel_rfl) (by kernel_rfl) (fun _ _ _ h => h) (Or.inl ⟨by rfl, ?_⟩) hHeld ?_
                          · (intro w hSw; (try dsimp only at hSw); go_simp)
                          try simp only [Act.put, List.setIfInBounds_toArray, List.set_cons_zero, List.set_cons_succ]
                          refine wpAnyH_take (i := 6) (oi := { dst := some 87, op := Op.fieldAddr 47 (Operand.tmp 12) 0, type := 0, pos := "law.go:203", after := #[{ on := 1, ground := Ground.guard }], guard := some (1, false) }) (v := .pointer (some ⟨B12, 0, none⟩)) rfl (by kernel_rfl) (by kernel_rfl) (by kernel_rfl) (fun _ _ _ h => h) (Or.inl ⟨by rfl, ?_⟩) hHeld ?_
                          · (intro w hSw; (try dsimp only at hSw); go_simp)
                          try simp only [Act.put, List.setIfInBounds_toArray, List.set_cons_zero, List.set_cons_succ]
                          refine wpAnyH_take (i := 7) (oi := { dst := some 88, op := Op.load 3 (Operand.tmp 87), type := 3, pos := "law.go:203", after := #[{ on := 6, ground := Ground.data }, { on := 1, ground := Ground.guard }], guard := some (1, false) }) (v := .int .i64 x.id) rfl (by kernel_rfl) (by kernel_rfl) (by kernel_rfl) (fun _ _ _ h => h) (Or.inl ⟨by rfl, ?_⟩) hHeld ?_
                          · (intro w hSw; (try dsimp only at hSw); go_simp)
                          try simp only [Act.put, List.setIfInBounds_toArray, List.set_cons_zero, List.set_cons_succ]
                          refine wpAnyH_take (i := 8) (oi := { dst := some 89, op := Op.binOp BinOp.eql 3 (Operand.tmp 86) (Operand.tmp 88) 3, type := 4, pos := "law.go:203", after := #[{ on := 5, ground := Ground.data }, { on := 7, ground := Ground.data }, { on := 1, ground := Ground.guard }], guard := some (1, false) }) (v := .bool false) rfl (by kernel_rfl) (by kernel_rfl) (by kernel_rfl) (fun _ _ _ h => h) (Or.inl ⟨by rfl, ?_⟩) hHeld ?_
                          · (intro w hSw; (try dsimp only at hSw); go_simp)
                          try simp only [Act.put, List.setIfInBounds_toArray, List.set_cons_zero, List.set_cons_succ]
                          refine wpAnyH_take (i := 9) (oi := { dst := some 90, op := Op.pick (Operand.tmp 82) (Operand.const (Value.bool true)) (Operand.tmp 89), type := 4, pos := "law.go:203", after := #[{ on := 1, ground := Ground.data }, { on := 8, ground := Ground.data }], guard := none }) (v := .bool false) rfl (by kernel_rfl) (by kernel_rfl) (by kernel_rfl) (fun _ _ _ h => h) (Or.inl ⟨by rfl, ?_⟩) hHeld ?_
                          · (intro w hSw; (try dsimp only at hSw); go_simp)
                          try simp only [Act.put, List.setIfInBounds_toArray, List.set_cons_zero, List.set_cons_succ]
                          refine wpAnyH_take (i := 10) (oi := { dst := some 13, op := Op.assign (Operand.tmp 90), type := 4, pos := "law.go:203", after := #[{ on := 9, ground := Ground.data }, { on := 1, ground := Ground.chain }, { on := 0, ground := Ground.phase }, { on := 1, ground := Ground.phase }, { on := 2, ground := Ground.phase }, { on := 3, ground := Ground.phase }, { on := 4, ground := Ground.phase }, { on := 5, ground := Ground.phase }, { on := 6, ground := Ground.phase }, { on := 7, ground := Ground.phase }, { on := 8, ground := Ground.phase }, { on := 9, ground := Ground.phase }], guard := none }) (v := .bool false) rfl (by kernel_rfl) (by kernel_rfl) (by kernel_rfl) (fun _ _ _ h => h) (Or.inl ⟨by rfl, ?_⟩) hHeld ?_
                          · (intro w hSw; (try dsimp only at hSw); go_simp)
                          try simp only [Act.put, List.setIfInBounds_toArray, List.set_cons_zero, List.set_cons_succ]
                          refine wpAnyH_done (by kernel_rfl) ?_ _
                          go_wp2
                          go_roundw
                          case rel => exact ⟨k2 + 1, by omega, by simp, by rw [HTM.out, decide_eq_false HE.out]; rfl, hidOf (HZ.out.trans ((bdrew wr).mono HZ.out.size))⟩
                          case measure => simp [intOf]; omega
                    · have hkl : k2 = stop.length := by omega
                      subst hkl
                      have hall : decide (x.id ∈ stop.take stop.length) = true := by rw [List.take_length]; exact decide_eq_true HME.out
                      rw [hall]
                      clear hall
                      have HZQ := hidOf (HBr.out.trans ((HZA.out.trans (HZ.out.mono HZA.out.size)).mono HBr.out.size))
                      go_wp2
                      go_roundw
                      case rel => exact ⟨k + 1, by omega, by simp, HZQ⟩
                      case measure => simp [intOf]; omega
            · have hnb : (x.nd != node) = true := by simp [hn]
              go_wp2
              go_roundw
              case rel => exact ⟨k + 1, by omega, by simp, hidOf (HBr.out.trans (HZA.out.mono HBr.out.size))⟩
              case measure => simp [intOf]; omega
          · have hjb : (x.jb != job) = true := by simp [hj]
            go_wp2
            go_roundw
            case rel => exact ⟨k + 1, by omega, by simp, hidOf (HBr.out.trans (HZA.out.mono HBr.out.size))⟩
            case measure => simp [intOf]; omega
        · have hkl : k = A.length := by omega
          subst hkl
          go_wp2_with (go_at_call 12; refine (lives_any _).mono ?_; rintro e wl ⟨rfl, hbl⟩; have HBL := hidOf hbl; clear hbl)
          go_ret
          exact ⟨rfl, (HW6.out.trans (HBr.out.mono HW6.out.size)).trans (HBL.out.mono (by have := HW6.out.size; have := HBr.out.size; omega))⟩
end Go.Proofs.Ytaaodmagchpnbaa
