/- Who is stopped wants nothing. -/
import Derived.Test.YtaaodmagchpnbaaZj
import Derived.Test.YtaaodmagchpnbaaZo
namespace Go.Proofs.Ytaaodmagchpnbaa
open Go.RowKit Go.Shelf
theorem own_lenF {w : World} {lo k n e : Nat} {a : Option Addr} {c : Nat} {xs : List Value} (h : w.ownsRow lo e k (.slice a n c) n xs) : n ≤ maxLen := by
  rcases h.2 with ⟨_, hn⟩ | ⟨g, cap, cur, hv, _, _, h1, h2, _⟩
  · omega
  · omega
set_option maxRecDepth 100000 in
set_option maxHeartbeats 8000000 in
theorem walkStopsF (s : Sc) (J B : List Js) (X : List Ss) (d : St) (job : Int) (w : World) (hS : StR w (fun b => b < w.heap.size) s J B X d) (_hz : d.allocs.length * 88 ≤ reachBytes) :
    Calls Try.prog 7 #[.agg #[.int .i64 s.ix, .int .i64 s.nx, .slice s.a2 s.n2 s.c2, .slice s.a3 s.n3 s.c3, .slice s.a4 s.n4 s.c4, .slice s.a5 s.n5 s.c5, .slice s.a6 s.n6 s.c6, .slice s.a7 s.n7 s.c7, .slice s.a8 s.n8 s.c8], .int .i64 job] w fun e w' => e = .returned (.bool true) ∧ Below w.heap.size w w' := by
  have hB0 := below1 w (.cells #[.int .i64 s.ix, .int .i64 s.nx, .slice s.a2 s.n2 s.c2, .slice s.a3 s.n3 s.c3, .slice s.a4 s.n4 s.c4, .slice s.a5 s.n5 s.c5, .slice s.a6 s.n6 s.c6, .slice s.a7 s.n7 s.c7, .slice s.a8 s.n8 s.c8] 29)
  have HBX := hidOf (box_new (wr := w) (cs := [.int .i64 s.ix, .int .i64 s.nx, .slice s.a2 s.n2 s.c2, .slice s.a3 s.n3 s.c3, .slice s.a4 s.n4 s.c4, .slice s.a5 s.n5 s.c5, .slice s.a6 s.n6 s.c6, .slice s.a7 s.n7 s.c7, .slice s.a8 s.n8 s.c8]) (t := 29) (Below.refl _ _))
  have HCP := hidOf (fun (W : World) (hW : Below w.heap.size w W) => refCopy_any s J B X d W (hS.kept (fun b hb => hW.block b hb) (fun b hb => Nat.lt_of_lt_of_le hb hW.size)))
  have HND := hidOf (job_ref s job J (w.alloc (.cells #[.int .i64 s.ix, .int .i64 s.nx, .slice s.a2 s.n2 s.c2, .slice s.a3 s.n3 s.c3, .slice s.a4 s.n4 s.c4, .slice s.a5 s.n5 s.c5, .slice s.a6 s.n6 s.c6, .slice s.a7 s.n7 s.c7, .slice s.a8 s.n8 s.c8] 29)) hS.f.n2 (hS.f.f2.kept (fun b hb => hB0.block b hb) (fun b hb => Nat.lt_of_lt_of_le hb hB0.size)))
  rw [hS.j.fi job] at HND
  have HB0 := hidOf hB0
  have hrng := fi_rng (fun x : Jb => isI x.id job) d.jobs
  clear hS hB0
  rcases hrng with hv | ⟨m, hv, hm⟩
  · rw [hv] at HND
    clear hv
    go_enter Try.func7, Try.ntmps7
    go_wp2_with (first | (go_at_call 14; refine HND.out.mono ?_; rintro e w1 ⟨rfl, hb1⟩; have HB1 := hidOf (HB0.out.trans (hb1.mono HB0.out.size)); clear hb1) | (go_at_call 12; refine (lives_any _).mono ?_; rintro e wl ⟨rfl, hbl⟩; have HBL := hidOf hbl; clear hbl))
    go_ret
    exact ⟨rfl, HB1.out.trans (HBL.out.mono HB1.out.size)⟩
  · have HFI : Hid (dfI d.jobs job = (m : Int)) := hidOf hv
    rw [hv] at HND
    clear hv
    have hk0 : ¬ ((m : Int) < 0) := by omega
    have hk2 : decide ((m : Int) < 0) = false := by simp
    go_enter Try.func7, Try.ntmps7
    go_upto_region 5 with (first | (go_at_call 14; refine HND.out.mono ?_; rintro e w1 ⟨rfl, hb1⟩; have HB1 := hidOf (HB0.out.trans (hb1.mono HB0.out.size)); have HX1 := hidOf (range_of HBX.out (hb1.block w.heap.size (by simp))); have q0 : w1.cell? ⟨w.heap.size, 0, none⟩ = some (.int .i64 s.ix) := HX1.out 0 _ rfl; have q1 : w1.cell? ⟨w.heap.size, 1, none⟩ = some (.int .i64 s.nx) := HX1.out 1 _ rfl; have q2 : w1.cell? ⟨w.heap.size, 2, none⟩ = some (.slice s.a2 s.n2 s.c2) := HX1.out 2 _ rfl; have q3 : w1.cell? ⟨w.heap.size, 3, none⟩ = some (.slice s.a3 s.n3 s.c3) := HX1.out 3 _ rfl; have q4 : w1.cell? ⟨w.heap.size, 4, none⟩ = some (.slice s.a4 s.n4 s.c4) := HX1.out 4 _ rfl; have q5 : w1.cell? ⟨w.heap.size, 5, none⟩ = some (.slice s.a5 s.n5 s.c5) := HX1.out 5 _ rfl; have q6 : w1.cell? ⟨w.heap.size, 6, none⟩ = some (.slice s.a6 s.n6 s.c6) := HX1.out 6 _ rfl; have q7 : w1.cell? ⟨w.heap.size, 7, none⟩ = some (.slice s.a7 s.n7 s.c7) := HX1.out 7 _ rfl; have q8 : w1.cell? ⟨w.heap.size, 8, none⟩ = some (.slice s.a8 s.n8 s.c8) := HX1.out 8 _ rfl; have lq := lt_of_cell q0; clear hb1) | (go_at_call 19; refine (HCP.out _ HB1.out).mono ?_; rintro e w2 ⟨s2, J2, B2, X2, rfl, hS2, hb2, hao, hjb, hno⟩; have HOD := hidOf (owd_copy hS2 hao hjb hno); have HB2 := hidOf hb2; clear hS2 hb2 hao hjb hno q0 q1 q2 q3 q4 q5 q6 q7 q8 lq))
    obtain ⟨B8, hB8⟩ : ∃ B8, w2.heap.size = B8 := ⟨_, rfl⟩
    obtain ⟨ix, nx, a2, n2, c2, a3, n3, c3, a4, n4, c4, a5, n5, c5, a6, n6, c6, a7, n7, c7, a8, n8, c8⟩ := s2
    obtain ⟨e2, e4, e5⟩ : n2 = J2.length ∧ n4 = d.nodes.length ∧ n5 = d.allocs.length := ⟨HOD.out.n2, HOD.out.n4, HOD.out.n5⟩
    subst e2
    subst e4
    subst e5
    generalize d.nodes = Ln at *
    generalize d.allocs = A at *
    generalize d.jobs = Lj at *
    obtain ⟨w3, hw3⟩ : ∃ w3, w2.alloc (.cells #[.int .i64 ix, .int .i64 nx, .slice a2 J2.length c2, .slice a3 n3 c3, .slice a4 Ln.length c4, .slice a5 A.length c5, .slice a6 n6 c6, .slice a7 n7 c7, .slice a8 n8 c8] 29) = w3 := ⟨_, rfl⟩
    have HB3 : Hid (Below w2.heap.size w2 w3) := hidOf (by rw [← hw3]; exact below1 _ _)
    have HT3 : Hid (w3.rangeAt B8 0 [.int .i64 ix, .int .i64 nx, .slice a2 J2.length c2, .slice a3 n3 c3, .slice a4 Ln.length c4, .slice a5 A.length c5, .slice a6 n6 c6, .slice a7 n7 c7, .slice a8 n8 c8]) := hidOf (by rw [← hw3, ← hB8]; exact box_new (wr := w2) (cs := [.int .i64 ix, .int .i64 nx, .slice a2 J2.length c2, .slice a3 n3 c3, .slice a4 Ln.length c4, .slice a5 A.length c5, .slice a6 n6 c6, .slice a7 n7 c7, .slice a8 n8 c8]) (t := 29) (Below.refl _ _))
    have HO3 := hidOf (HOD.out.up HB3.out)
    have hB8w : w1.heap.size ≤ B8 := by rw [← hB8]; exact HB2.out.size
    have hb8l : ∀ g, g < w2.heap.size → g ≠ B8 := fun g hg => by rw [← hB8]; omega
    have hmJ : m < J2.length := by rw [HOD.out.jl]; exact hm
    obtain ⟨g, hA0, _⟩ := HOD.out.job m hmJ hm
    have hgB : g ≠ B8 := hb8l g hA0.lt
    obtain ⟨g', hA3, hO4⟩ := HO3.out.job m hmJ hm
    have hgg : g' = g := by have h1 := hA3.ad; have h2 := hA0.ad; simp only at h1 h2; rw [h1] at h2; cases h2; rfl
    subst hgg
    have hga := hA3.ad
    simp only at hga
    subst hga
    have hgl := hA3.lt
    have hgf := hA3.fz (m * 7 + 6)
    have hge : w1.heap.size ≤ g' := hA3.ge
    have hgc : w3.cell? ⟨g', m * 7 + 6, none⟩ = some (.bool (J2[m]).sd) := hA3.el m hmJ 6 _ rfl
    have hk1 : (m : Int) < (J2.length : Int) := by omega
    have HO4 := hidOf hO4
    rw [hw3, hB8]
    clear hw3 hA0 hA3 hO4 HOD hb8l hB8 HND HCP HBX
    have t0 : w3.cell? ⟨B8, 0, none⟩ = some (.int .i64 ix) := HT3.out 0 _ rfl
    have t1 : w3.cell? ⟨B8, 1, none⟩ = some (.int .i64 nx) := HT3.out 1 _ rfl
    have t2 : w3.cell? ⟨B8, 2, none⟩ = some (.slice (some ⟨g', 0, none⟩) J2.length c2) := HT3.out 2 _ rfl
    have t3 : w3.cell? ⟨B8, 3, none⟩ = some (.slice a3 n3 c3) := HT3.out 3 _ rfl
    have t4 : w3.cell? ⟨B8, 4, none⟩ = some (.slice a4 Ln.length c4) := HT3.out 4 _ rfl
    have t5 : w3.cell? ⟨B8, 5, none⟩ = some (.slice a5 A.length c5) := HT3.out 5 _ rfl
    have t6 : w3.cell? ⟨B8, 6, none⟩ = some (.slice a6 n6 c6) := HT3.out 6 _ rfl
    have t7 : w3.cell? ⟨B8, 7, none⟩ = some (.slice a7 n7 c7) := HT3.out 7 _ rfl
    have t8 : w3.cell? ⟨B8, 8, none⟩ = some (.slice a8 n8 c8) := HT3.out 8 _ rfl
    have l8 : B8 < w3.heap.size := lt_of_cell t0
    go_upto_region 6 with (fail)
    obtain ⟨w4, hw4⟩ : ∃ w4, w3.setCell ⟨g', m * 7 + 6, none⟩ (.bool true) = w4 := ⟨_, rfl⟩
    have HT4 : Hid (w4.rangeAt B8 0 [.int .i64 ix, .int .i64 nx, .slice (some ⟨g', 0, none⟩) J2.length c2, .slice a3 n3 c3, .slice a4 Ln.length c4, .slice a5 A.length c5, .slice a6 n6 c6, .slice a7 n7 c7, .slice a8 n8 c8]) := hidOf (by rw [← hw4]; exact range_of HT3.out (heap_setCell_other w3 ⟨g', m * 7 + 6, none⟩ B8 _ (fun e => hgB e.symm)))
    have HB4 : Hid (Below w.heap.size w w4) := hidOf (by rw [← hw4]; exact ((HB1.out.trans (HB2.out.mono HB1.out.size)).trans (HB3.out.mono (by have := HB1.out.size; have := HB2.out.size; omega))).setCell (p := ⟨g', m * 7 + 6, none⟩) (by show w.heap.size ≤ g'; have := HB1.out.size; omega) _)
    rw [hw4] at HO4 ⊢
    clear l8 t0 t1 t2 t3 t4 t5 t6 t7 t8
    clear hw4 hgc hgf hgl hge HT3 HO3 hk1 HB2 HB3
    obtain ⟨dd, hdi, hds, hdf⟩ := stopped (Ln := Ln) (A := A) HFI.out hm
    have hbs := (dfI_sd HFI.out hm).2
    have HNL := hidOf (show (J2.set m { J2[m] with sd := true }).length = J2.length from List.length_set)
    obtain ⟨Jx, hJx⟩ : ∃ Jx, J2.set m { J2[m] with sd := true } = Jx := ⟨_, rfl⟩
    rw [hJx] at HO4 HNL
    clear hJx
    obtain ⟨Lx, hLx⟩ : ∃ Lx, Lj.set m { Lj[m] with sd := true } = Lx := ⟨_, rfl⟩
    rw [hLx] at HO4 hds hdf hbs
    clear hLx
    have hll := HNL.out
    rw [← hll] at HT4
    have t0 : w4.cell? ⟨B8, 0, none⟩ = some (.int .i64 ix) := HT4.out 0 _ rfl
    have t1 : w4.cell? ⟨B8, 1, none⟩ = some (.int .i64 nx) := HT4.out 1 _ rfl
    have t2 : w4.cell? ⟨B8, 2, none⟩ = some (.slice (some ⟨g', 0, none⟩) Jx.length c2) := HT4.out 2 _ rfl
    have t3 : w4.cell? ⟨B8, 3, none⟩ = some (.slice a3 n3 c3) := HT4.out 3 _ rfl
    have t4 : w4.cell? ⟨B8, 4, none⟩ = some (.slice a4 Ln.length c4) := HT4.out 4 _ rfl
    have t5 : w4.cell? ⟨B8, 5, none⟩ = some (.slice a5 A.length c5) := HT4.out 5 _ rfl
    have t6 : w4.cell? ⟨B8, 6, none⟩ = some (.slice a6 n6 c6) := HT4.out 6 _ rfl
    have t7 : w4.cell? ⟨B8, 7, none⟩ = some (.slice a7 n7 c7) := HT4.out 7 _ rfl
    have t8 : w4.cell? ⟨B8, 8, none⟩ = some (.slice a8 n8 c8) := HT4.out 8 _ rfl
    have l8 : B8 < w4.heap.size := lt_of_cell t0
    have HDF := hidOf (diff_any2 ⟨ix, nx, some ⟨g', 0, none⟩, Jx.length, c2, a3, n3, c3, a4, Ln.length, c4, a5, A.length, c5, a6, n6, c6, a7, n7, c7, a8, n8, c8⟩ job Jx Lx Ln A w4 rfl rfl rfl HO4.out.j HO4.out.n HO4.out.a (fun _ => by rw [hbs, slV_sd _ _ rfl]; decide))
    have HNT := hidOf (stop_nth dd Ln A)
    have HSKI := hidOf (fun x => skB_iff dd x job hdi)
    have HSL : Hid (((suK dd Ln [] A A.length).map (idA A)).length = (suK dd Ln [] A A.length).length) := hidOf (List.length_map _)
    rw [hdf, hds] at HDF
    obtain ⟨stop, hstop⟩ : ∃ stop, (suK dd Ln [] A A.length).map (idA A) = stop := ⟨_, rfl⟩
    rw [hstop] at HDF HSL
    have HNT2 : Hid (∀ k (hk : k < A.length), skB dd A[k] = false → ∃ hl : (suK dd Ln [] A k).length < stop.length, stop[(suK dd Ln [] A k).length] = A[k].id) := hidOf fun k hk h => by
      obtain ⟨h1, h2⟩ := HNT.out k hk h
      simp only [hstop] at h1 h2
      exact ⟨h1, h2⟩
    clear hstop hll hds hdf HNT
    go_upto_region 7 with (go_at_call 9; refine HDF.out.mono ?_; rintro e w5 ⟨sa, sc, fa, fc, rfl, ho5, _, hb5⟩; have HO5 := hidOf ho5; have HB5 := hidOf hb5; have HT5 := hidOf (range_of HT4.out (hb5.block B8 l8)); clear ho5 hb5)
    clear l8 t0 t1 t2 t3 t4 t5 t6 t7 t8
    have HW5 := hidOf (HB4.out.trans (HB5.out.mono HB4.out.size))
    have HA5 := hidOf (HO4.out.up HB5.out).a
    have hbA := HA5.out.bd
    have HSF := hidOf ((own_fl (y := 0) iC_len HO5.out (by omega)).kept (w' := w5) (S' := fun b => b < w5.heap.size) (fun b _ => rfl) (fun b hb => hb.lt))
    have hsm := own_lenF HO5.out
    unfold maxLen at hsm
    have l85 : B8 < w5.heap.size := lt_of_cell (HT5.out 0 _ rfl)
    clear HDF HT4 HO4 hk0 hk2 HO5
    go_wp2
    go_loopw [9, 10] (fun c i wr => ∃ (k : Nat) (T : List Int), k ≤ A.length ∧ i = .int .i64 k ∧ c = .int .i64 (T.length : Nat) ∧ Hid (T = suK dd Ln [] A k) ∧ Hid (Below w5.heap.size w5 wr)) (fun _ i _ => A.length - (intOf i).toNat)
    case atStart => exact ⟨0, [], Nat.zero_le _, rfl, rfl, hidOf rfl, hidOf (Below.refl _ _)⟩
    case round =>
      obtain ⟨k, T, hk, rfl, rfl, HTT, HBr⟩ := hrel
      obtain ⟨wq, hwq⟩ : ∃ x, x = wr := ⟨_, rfl⟩
      subst hwq
      have t5 : wq.cell? ⟨B8, 5, none⟩ = some (.slice a5 A.length c5) := (hb_cell HBr.out l85).trans (HT5.out 5 _ rfl)
      have l8 : B8 < wq.heap.size := lt_of_cell t5
      have htl : T.length ≤ k := by rw [HTT.out]; exact suK_len dd Ln [] A k
      by_cases hlt : k < A.length
      · obtain ⟨b, off, ha, hQb, hcc⟩ := HA5.out.at k hlt
        have hQb' : b < w5.heap.size := hQb
        have HSN := hidOf (suK_nil dd Ln A k hlt)
        have HNK := hidOf (HNT2.out k hlt)
        rw [← HTT.out] at HSN HNK
        obtain ⟨x, hx⟩ : ∃ x, A[k] = x := ⟨_, rfl⟩
        rw [hx] at hcc HSN HNK
        have HSI := hidOf (HSKI.out x)
        clear hx
        subst ha
        have hcr := range_of hcc (HBr.out.block b hQb')
        have hbl : b < wq.heap.size := Nat.lt_of_lt_of_le hQb' HBr.out.size
        have c0 : wq.cell? ⟨b, off + k * 11, none⟩ = some (.int .i64 x.id) := hcr 0 _ rfl
        have c1 : wq.cell? ⟨b, off + k * 11 + 1, none⟩ = some (.int .i64 x.jb) := hcr 1 _ rfl
        have c2 : wq.cell? ⟨b, off + k * 11 + 2, none⟩ = some (.int .i64 x.ve) := hcr 2 _ rfl
        have c3 : wq.cell? ⟨b, off + k * 11 + 3, none⟩ = some (.int .i64 x.gr) := hcr 3 _ rfl
        have c4 : wq.cell? ⟨b, off + k * 11 + 4, none⟩ = some (.int .i64 x.ix) := hcr 4 _ rfl
        have c5 : wq.cell? ⟨b, off + k * 11 + 5, none⟩ = some (.int .i64 x.nd) := hcr 5 _ rfl
        have c6 : wq.cell? ⟨b, off + k * 11 + 6, none⟩ = some (.int .i64 x.ep) := hcr 6 _ rfl
        have c7 : wq.cell? ⟨b, off + k * 11 + 7, none⟩ = some (.int .i64 x.c) := hcr 7 _ rfl
        have c8 : wq.cell? ⟨b, off + k * 11 + 8, none⟩ = some (.int .i64 x.m) := hcr 8 _ rfl
        have c9 : wq.cell? ⟨b, off + k * 11 + 9, none⟩ = some (.bool x.sp) := hcr 9 _ rfl
        have c10 : wq.cell? ⟨b, off + k * 11 + 10, none⟩ = some (.int .i64 x.st) := hcr 10 _ rfl
        clear hcc hcr hQb
        have hbq := box_new (wr := wq) (cs := Al.cs x) (t := 47) (Below.refl _ _)
        have HXB := hidOf hbq
        clear hbq
        have e0 : (wq.alloc (.cells #[.int .i64 x.id, .int .i64 x.jb, .int .i64 x.ve, .int .i64 x.gr, .int .i64 x.ix, .int .i64 x.nd, .int .i64 x.ep, .int .i64 x.c, .int .i64 x.m, .bool x.sp, .int .i64 x.st] 47)).cell? ⟨wq.heap.size, 0, none⟩ = some (.int .i64 x.id) := HXB.out 0 _ rfl
        have e1 : (wq.alloc (.cells #[.int .i64 x.id, .int .i64 x.jb, .int .i64 x.ve, .int .i64 x.gr, .int .i64 x.ix, .int .i64 x.nd, .int .i64 x.ep, .int .i64 x.c, .int .i64 x.m, .bool x.sp, .int .i64 x.st] 47)).cell? ⟨wq.heap.size, 1, none⟩ = some (.int .i64 x.jb) := HXB.out 1 _ rfl
        have e9 : (wq.alloc (.cells #[.int .i64 x.id, .int .i64 x.jb, .int .i64 x.ve, .int .i64 x.gr, .int .i64 x.ix, .int .i64 x.nd, .int .i64 x.ep, .int .i64 x.c, .int .i64 x.m, .bool x.sp, .int .i64 x.st] 47)).cell? ⟨wq.heap.size, 9, none⟩ = some (.bool x.sp) := HXB.out 9 _ rfl
        have e10 : (wq.alloc (.cells #[.int .i64 x.id, .int .i64 x.jb, .int .i64 x.ve, .int .i64 x.gr, .int .i64 x.ix, .int .i64 x.nd, .int .i64 x.ep, .int .i64 x.c, .int .i64 x.m, .bool x.sp, .int .i64 x.st] 47)).cell? ⟨wq.heap.size, 10, none⟩ = some (.int .i64 x.st) := HXB.out 10 _ rfl
        go_upto_region 12 with (fail)
        clear c0 c1 c2 c3 c4 c5 c6 c7 c8 c9 c10
        obtain ⟨wA, hwA⟩ : ∃ wA, wq.alloc (.cells #[.int .i64 x.id, .int .i64 x.jb, .int .i64 x.ve, .int .i64 x.gr, .int .i64 x.ix, .int .i64 x.nd, .int .i64 x.ep, .int .i64 x.c, .int .i64 x.m, .bool x.sp, .int .i64 x.st] 47) = wA := ⟨_, rfl⟩
        have HZA : Hid (Below wq.heap.size wq wA) := hidOf (by rw [← hwA]; exact below1 _ _)
        obtain ⟨B11, hB11⟩ : ∃ B11, wq.heap.size = B11 := ⟨_, rfl⟩
        rw [hwA, hB11] at e0 e1 e9 e10
        rw [hwA, hB11]
        clear hwA hB11
        have l11 : B11 < wA.heap.size := lt_of_cell e0
        by_cases hj : x.jb = job
        · have hjb : (x.jb == job) = true := by simp [hj]
          have HJ := hidOf hj
          clear hj
          by_cases ho : 3 ≤ x.st
          · have hob : decide (x.st < 3) = false := by simp; omega
            have HOO := hidOf ho
            clear ho
            go_wp2
            go_roundw
            case rel => exact ⟨k + 1, T, by omega, by simp, by simp, hidOf (by rw [HSN.out, if_neg (fun h => absurd HOO.out (by have := (HSI.out.1 h).2.1; omega))]), hidOf (HBr.out.trans (HZA.out.mono HBr.out.size))⟩
            case measure => simp [intOf]; omega
          · have hob : decide (x.st < 3) = true := by simp; omega
            have HOO := hidOf ho
            clear ho
            cases hsp : x.sp with
            | true =>
              replace e9 := e9.trans (congrArg (fun z => some (Value.bool z)) hsp)
              go_wp2
              go_roundw
              case rel => exact ⟨k + 1, T, by omega, by simp, by simp, hidOf (by rw [HSN.out, if_neg (fun h => by have h2 := (HSI.out.1 h).2.2; rw [hsp] at h2; cases h2)]), hidOf (HBr.out.trans (HZA.out.mono HBr.out.size))⟩
              case measure => simp [intOf]; omega
            | false =>
              have hsk : skB dd x = false := HSI.out.2 ⟨HJ.out, by have := HOO.out; omega, hsp⟩
              replace e9 := e9.trans (congrArg (fun z => some (Value.bool z)) hsp)
              obtain ⟨hn, hat⟩ := HNK.out hsk
              have HSK := hidOf hsk
              clear hsk hsp
              obtain ⟨n, hnn⟩ : ∃ n, T.length = n := ⟨_, rfl⟩
              obtain ⟨b7, off7, ha7, hQ7, hc7⟩ := HSF.out.at n (by rw [← hnn]; exact hn)
              have hQ7' : b7 < w5.heap.size := hQ7
              have hat' : stop[n]'(by rw [← hnn]; exact hn) = x.id := by simp only [← hnn]; exact hat
              rw [hat'] at hc7
              subst ha7
              have hs7 := HBr.out.size
              have hs8 := HZA.out.size
              have ky : wA.cell? ⟨b7, off7 + n, none⟩ = some (.int .i64 x.id) := (hb_cell HZA.out (by omega)).trans ((hb_cell HBr.out hQ7').trans (by have := hc7 0 _ rfl; simpa using this))
              have l7 : b7 < wA.heap.size := lt_of_cell ky
              have kx := e0
              have hn' : n < stop.length := by rw [← hnn]; exact hn
              have hi0 : ¬ ((n : Int) < 0) := by omega
              have hi1 : (n : Int) < (stop.length : Int) := by omega
              have hge : decide ((stop.length : Int) ≤ (n : Int)) = false := by simp; omega
              have HNN := hidOf hnn
              rw [hnn]
              clear hnn hat hat' hn hc7 hQ7
              go_upto_region 13 with (fail)
              refine wp_region_held_drew (S := fun (Y : World) => Y.cell? ⟨b7, off7 + n, none⟩ = some (.int .i64 x.id) ∧ Y.cell? ⟨B11, 0, none⟩ = some (.int .i64 x.id)) (by kernel_rfl) ⟨ky, kx⟩ (fun hHeld => ?_)
              refine wpAnyH_take (i := 0) (oi := { dst := some 57, op := Op.move (Operand.tmp 9), type := 3, pos := "law.go:175", after := #[], guard := none }) (v := .int .i64 (n : Int)) rfl (by kernel_rfl) (by kernel_rfl) (by kernel_rfl) (fun _ _ _ h => h) (Or.inl ⟨by rfl, ?_⟩) hHeld ?_
              · (intro w hSw; (try dsimp only at hSw); go_simp)
              try simp only [Act.put, List.setIfInBounds_toArray, List.set_cons_zero, List.set_cons_succ]
              refine wpAnyH_take (i := 1) (oi := { dst := some 58, op := Op.move (Operand.tmp 7), type := 30, pos := "law.go:175", after := #[], guard := none }) (v := .slice (some ⟨b7, off7, none⟩) stop.length sc) rfl (by kernel_rfl) (by kernel_rfl) (by kernel_rfl) (fun _ _ _ h => h) (Or.inl ⟨by rfl, ?_⟩) hHeld ?_
              · (intro w hSw; (try dsimp only at hSw); go_simp)
              try simp only [Act.put, List.setIfInBounds_toArray, List.set_cons_zero, List.set_cons_succ]
              refine wpAnyH_take (i := 2) (oi := { dst := some 59, op := Op.call { callee := Callee.builtin Builtin.len, args := #[Operand.tmp 58], argTypes := #[30] }, type := 3, pos := "law.go:175", after := #[{ on := 1, ground := Ground.data }], guard := none }) (v := .int .i64 (stop.length : Int)) rfl (by kernel_rfl) (by kernel_rfl) (by kernel_rfl) (fun _ _ _ h => h) (Or.inl ⟨by rfl, ?_⟩) hHeld ?_
              · (intro w hSw; (try dsimp only at hSw); go_simp)
              try simp only [Act.put, List.setIfInBounds_toArray, List.set_cons_zero, List.set_cons_succ]
              refine wpAnyH_take (i := 3) (oi := { dst := some 60, op := Op.binOp BinOp.geq 3 (Operand.tmp 57) (Operand.tmp 59) 3, type := 4, pos := "law.go:175", after := #[{ on := 0, ground := Ground.data }, { on := 2, ground := Ground.data }], guard := none }) (v := .bool false) rfl (by kernel_rfl) (by kernel_rfl) (by kernel_rfl) (fun _ _ _ h => h) (Or.inl ⟨by rfl, ?_⟩) hHeld ?_
              · (intro w hSw; (try dsimp only at hSw); go_simp)
              try simp only [Act.put, List.setIfInBounds_toArray, List.set_cons_zero, List.set_cons_succ]
              refine wpAnyH_take (i := 4) (oi := { dst := some 61, op := Op.move (Operand.tmp 60), type := 4, pos := "law.go:175", after := #[{ on := 3, ground := Ground.data }], guard := none }) (v := .bool false) rfl (by kernel_rfl) (by kernel_rfl) (by kernel_rfl) (fun _ _ _ h => h) (Or.inl ⟨by rfl, ?_⟩) hHeld ?_
              · (intro w hSw; (try dsimp only at hSw); go_simp)
              try simp only [Act.put, List.setIfInBounds_toArray, List.set_cons_zero, List.set_cons_succ]
              refine wpAnyH_take (i := 5) (oi := { dst := some 62, op := Op.move (Operand.tmp 7), type := 30, pos := "law.go:175", after := #[{ on := 4, ground := Ground.guard }], guard := some (4, false) }) (v := .slice (some ⟨b7, off7, none⟩) stop.length sc) rfl (by kernel_rfl) (by kernel_rfl) (by kernel_rfl) (fun _ _ _ h => h) (Or.inl ⟨by rfl, ?_⟩) hHeld ?_
              · (intro w hSw; (try dsimp only at hSw); go_simp)
              try simp only [Act.put, List.setIfInBounds_toArray, List.set_cons_zero, List.set_cons_succ]
              refine wpAnyH_take (i := 6) (oi := { dst := some 63, op := Op.move (Operand.tmp 9), type := 3, pos := "law.go:175", after := #[{ on := 4, ground := Ground.guard }], guard := some (4, false) }) (v := .int .i64 (n : Int)) rfl (by kernel_rfl) (by kernel_rfl) (by kernel_rfl) (fun _ _ _ h => h) (Or.inl ⟨by rfl, ?_⟩) hHeld ?_
              · (intro w hSw; (try dsimp only at hSw); go_simp)
              try simp only [Act.put, List.setIfInBounds_toArray, List.set_cons_zero, List.set_cons_succ]
              refine wpAnyH_take (i := 7) (oi := { dst := some 64, op := Op.indexAddr 30 (Operand.tmp 62) (Operand.tmp 63), type := 0, pos := "law.go:175", after := #[{ on := 5, ground := Ground.data }, { on := 6, ground := Ground.data }, { on := 4, ground := Ground.guard }], guard := some (4, false) }) (v := .pointer (some ⟨b7, off7 + n, none⟩)) rfl (by kernel_rfl) (by kernel_rfl) (by kernel_rfl) (fun _ _ _ h => h) (Or.inl ⟨by rfl, ?_⟩) hHeld ?_
              · (intro w hSw; (try dsimp only at hSw); go_simp)
              try simp only [Act.put, List.setIfInBounds_toArray, List.set_cons_zero, List.set_cons_succ]
              refine wpAnyH_take (i := 8) (oi := { dst := some 65, op := Op.load 3 (Operand.tmp 64), type := 3, pos := "law.go:175", after := #[{ on := 7, ground := Ground.data }, { on := 4, ground := Ground.guard }], guard := some (4, false) }) (v := .int .i64 x.id) rfl (by kernel_rfl) (by kernel_rfl) (by kernel_rfl) (fun _ _ _ h => h) (Or.inl ⟨by rfl, ?_⟩) hHeld ?_
              · (intro w hSw; (try dsimp only at hSw); go_simp)
              try simp only [Act.put, List.setIfInBounds_toArray, List.set_cons_zero, List.set_cons_succ]
              refine wpAnyH_take (i := 9) (oi := { dst := some 66, op := Op.fieldAddr 47 (Operand.tmp 11) 0, type := 0, pos := "law.go:175", after := #[{ on := 4, ground := Ground.guard }], guard := some (4, false) }) (v := .pointer (some ⟨B11, 0, none⟩)) rfl (by kernel_rfl) (by kernel_rfl) (by kernel_rfl) (fun _ _ _ h => h) (Or.inl ⟨by rfl, ?_⟩) hHeld ?_
              · (intro w hSw; (try dsimp only at hSw); go_simp)
              try simp only [Act.put, List.setIfInBounds_toArray, List.set_cons_zero, List.set_cons_succ]
              refine wpAnyH_take (i := 10) (oi := { dst := some 67, op := Op.load 3 (Operand.tmp 66), type := 3, pos := "law.go:175", after := #[{ on := 9, ground := Ground.data }, { on := 4, ground := Ground.guard }], guard := some (4, false) }) (v := .int .i64 x.id) rfl (by kernel_rfl) (by kernel_rfl) (by kernel_rfl) (fun _ _ _ h => h) (Or.inl ⟨by rfl, ?_⟩) hHeld ?_
              · (intro w hSw; (try dsimp only at hSw); go_simp)
              try simp only [Act.put, List.setIfInBounds_toArray, List.set_cons_zero, List.set_cons_succ]
              refine wpAnyH_take (i := 11) (oi := { dst := some 68, op := Op.binOp BinOp.neq 3 (Operand.tmp 65) (Operand.tmp 67) 3, type := 4, pos := "law.go:175", after := #[{ on := 8, ground := Ground.data }, { on := 10, ground := Ground.data }, { on := 4, ground := Ground.guard }], guard := some (4, false) }) (v := .bool false) rfl (by kernel_rfl) (by kernel_rfl) (by kernel_rfl) (fun _ _ _ h => h) (Or.inl ⟨by rfl, ?_⟩) hHeld ?_
              · (intro w hSw; (try dsimp only at hSw); go_simp)
              try simp only [Act.put, List.setIfInBounds_toArray, List.set_cons_zero, List.set_cons_succ]
              refine wpAnyH_take (i := 12) (oi := { dst := some 69, op := Op.pick (Operand.tmp 61) (Operand.const (Value.bool true)) (Operand.tmp 68), type := 4, pos := "law.go:175", after := #[{ on := 4, ground := Ground.data }, { on := 11, ground := Ground.data }], guard := none }) (v := .bool false) rfl (by kernel_rfl) (by kernel_rfl) (by kernel_rfl) (fun _ _ _ h => h) (Or.inl ⟨by rfl, ?_⟩) hHeld ?_
              · (intro w hSw; (try dsimp only at hSw); go_simp)
              try simp only [Act.put, List.setIfInBounds_toArray, List.set_cons_zero, List.set_cons_succ]
              refine wpAnyH_done (by kernel_rfl) ?_ _
              have HNL2 := hidOf (show (T ++ [(k : Int)]).length = n + 1 by rw [List.length_append, HNN.out]; rfl)
              go_wp2
              go_roundw
              case rel => exact ⟨k + 1, T ++ [(k : Int)], by omega, by simp, by rw [HNL2.out]; simp, hidOf (by rw [HSN.out, if_pos HSK.out]), hidOf (HBr.out.trans ((HZA.out.trans ((bdrew wA).mono HZA.out.size)).mono HBr.out.size))⟩
              case measure => simp [intOf]; omega
        · have hjb : (x.jb == job) = false := by simp [hj]
          have HJ := hidOf hj
          clear hj
          go_wp2
          go_roundw
          case rel => exact ⟨k + 1, T, by omega, by simp, by simp, hidOf (by rw [HSN.out, if_neg (fun h => HJ.out ((HSI.out.1 h).1))]), hidOf (HBr.out.trans (HZA.out.mono HBr.out.size))⟩
          case measure => simp [intOf]; omega
      · have hkl : k = A.length := by omega
        subst hkl
        have hTs := HTT.out
        subst hTs
        have hsl := HSL.out
        rw [← hsl]
        clear hsl
        have heb : ((stop.length : Int) == (stop.length : Int)) = true := by simp
        go_wp2_with (go_at_call 12; refine (lives_any _).mono ?_; rintro e wl ⟨rfl, hbl⟩; have HBL := hidOf hbl; clear hbl)
        go_ret
        exact ⟨rfl, (HW5.out.trans (HBr.out.mono HW5.out.size)).trans (HBL.out.mono (by have := HW5.out.size; have := HBr.out.size; omega))⟩
end Go.Proofs.Ytaaodmagchpnbaa
