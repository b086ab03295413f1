/- How many slots of a job there are and run, of the document. -/
import Derived.Test.YtkokkdekbilkjaaSl
import Derived.Test.YtkokkdekbilkjaaRs
import Derived.Test.YtkokkdekbilkjaaRk
namespace Go.Proofs.Ytkokkdekbilkjaa
open Go.RowKit Go.Shelf
attribute [local go_sem] Oper.semAt_some
structure RsI (w W : World) (P : Nat) (st jc : List Value) : Prop where
  s : W.rangeAt w.heap.size 0 st
  j : W.rangeAt P 0 jc
  b : Below w.heap.size w W
  l : P < W.heap.size
  ln : w.heap.size < W.heap.size
theorem RsI.grow {w W W' : World} {P : Nat} {st jc : List Value} (h : RsI w W P st jc) (hb : Below W.heap.size W W') : RsI w W' P st jc :=
  ⟨range_of h.s (hb.block _ h.ln), range_of h.j (hb.block _ h.l), h.b.trans (hb.mono h.b.size), Nat.lt_of_lt_of_le h.l hb.size, Nat.lt_of_lt_of_le h.ln hb.size⟩
theorem rg_none {id ve : Int} {A : List Al} {g k : Int} (h : A.find? (slB id g k) = none) : rg id ve A (g, k) = false := by unfold rg; rw [h]; rfl
theorem rg_some {id ve : Int} {A : List Al} {g k : Int} {x : Al} (h : A.find? (slB id g k) = some x) : rg id ve A (g, k) = good ve x := by unfold rg; rw [h]; rfl
theorem cnt_step {id ve : Int} {A : List Al} {G : List Gp} {g k : Nat} : ((slk G g (k + 1)).countP (rg id ve A) : Int) = (slk G g k).countP (rg id ve A) + (if rg id ve A ((g : Int), (k : Int)) = true then 1 else 0) := by rw [slk_succ, countP_snoc]
theorem cnt_le {id ve : Int} {A : List Al} (T : List (Int × Int)) : T.countP (rg id ve A) ≤ T.length := List.countP_le_length
set_option maxRecDepth 100000 in
set_option maxHeartbeats 8000000 in
theorem refSlots_any (s : Sc) (jb : Int) (Ls : List Js) (L : List Jb) (A : List Al) (w : World) (hn2 : s.n2 = Ls.length) (hn5 : s.n5 = A.length) (hJ : JbR w (fun b => b < w.heap.size) s.a2 Ls L) (hA : Fl w (fun b => b < w.heap.size) 11 88 Al.cs s.a5 A) :
    Calls Try.prog 24 #[.agg #[.int .i64 s.ix, .int .i64 s.nx, .slice s.a2 s.n2 s.c2, .slice s.a3 s.n3 s.c3, .slice s.a4 s.n4 s.c4, .slice s.a5 s.n5 s.c5, .slice s.a6 s.n6 s.c6, .slice s.a7 s.n7 s.c7, .slice s.a8 s.n8 s.c8], .int .i64 jb] w fun e w' => e = .returned (.tuple #[.int .i64 (slotsV jb L A).1, .int .i64 (slotsV jb L A).2]) ∧ Below w.heap.size w w' := by
  obtain ⟨ix, nx, a2, n2, c2, a3, n3, c3, a4, n4, c4, a5, n5, c5, a6, n6, c6, a7, n7, c7, a8, n8, c8⟩ := s
  simp only at hn2 hn5 hJ hA
  subst hn2
  subst hn5
  have hfi := hJ.fi jb
  have HLL := hidOf hJ.len
  have HJ := hidOf hJ
  have HA := hidOf hA
  have hjl : Ls.length * 72 ≤ 140737488355328 := hJ.row.bd
  have hal : A.length * 88 ≤ 140737488355328 := hA.bd
  have hjob := job_ref ⟨ix, nx, a2, Ls.length, c2, a3, n3, c3, a4, n4, c4, a5, A.length, c5, a6, n6, c6, a7, n7, c7, a8, n8, c8⟩ jb Ls (w.alloc (.cells #[.int .i64 ix, .int .i64 nx, .slice a2 Ls.length c2, .slice a3 n3 c3, .slice a4 n4 c4, .slice a5 A.length c5, .slice a6 n6 c6, .slice a7 n7 c7, .slice a8 n8 c8] 29)) rfl (hJ.row.kept (fun b hb => (below1 w _).block b hb) (fun b hb => Nat.lt_of_lt_of_le hb (below1 w _).size))
  dsimp only at hjob
  rw [hfi] at hjob
  have HJOB := hidOf hjob
  clear hjob
  clear hJ hA hfi
  have ARM : Hid (∀ w1, Below (w.alloc (.cells #[.int .i64 ix, .int .i64 nx, .slice a2 Ls.length c2, .slice a3 n3 c3, .slice a4 n4 c4, .slice a5 A.length c5, .slice a6 n6 c6, .slice a7 n7 c7, .slice a8 n8 c8] 29)).heap.size (w.alloc (.cells #[.int .i64 ix, .int .i64 nx, .slice a2 Ls.length c2, .slice a3 n3 c3, .slice a4 n4 c4, .slice a5 A.length c5, .slice a6 n6 c6, .slice a7 n7 c7, .slice a8 n8 c8] 29)) w1 → (w1.rangeAt w.heap.size 0 [.int .i64 ix, .int .i64 nx, .slice a2 Ls.length c2, .slice a3 n3 c3, .slice a4 n4 c4, .slice a5 A.length c5, .slice a6 n6 c6, .slice a7 n7 c7, .slice a8 n8 c8] ∧ Below w.heap.size w w1 ∧ w.heap.size < w1.heap.size)) := hidOf (fun w1 hb => ⟨box_new hb, (below1 w _).trans (hb.mono (below1 w _).size), by have := hb.size; simp at this; omega⟩)

  rcases fi_spec (fun x : Jb => isI x.id jb) L with ⟨h1, h2⟩ | ⟨i, hi, h1, h2⟩
  · rw [slots_no h2]
    have HF := hidOf h1
    clear h1 h2
    go_enter Try.func24, Try.ntmps24
    go_wp2_with (go_at_call 9; refine HJOB.out.mono ?_; rintro e w1 ⟨rfl, hb⟩; obtain ⟨hd, hbw, hsz⟩ := ARM.out w1 hb; have HBW := hidOf hbw; have HD := hidOf hd; have e2 : w1.cell? ⟨w.heap.size, 2, none⟩ = some (.slice a2 Ls.length c2) := hd 2 _ rfl; have e5 : w1.cell? ⟨w.heap.size, 5, none⟩ = some (.slice a5 A.length c5) := hd 5 _ rfl; clear hb hd hbw; rw [HF.out])
    go_ret2
    exact ⟨rfl, HBW.out⟩
  · have hi2 : i < Ls.length := by rw [HLL.out]; exact hi
    obtain ⟨ga, gc, hsh, hG⟩ := HJ.out.dp i hi2 hi
    obtain ⟨b, off, ha, hbl, hc⟩ := HJ.out.row.at i hi2
    have hbl' : b < w.heap.size := hbl
    clear hbl
    subst ha
    rw [hsh] at hc
    have hid : L[i].id = jb := by
      have := List.find?_some h2
      simpa [isI] using this
    have HG := hidOf hG
    have H2 := hidOf h2
    have HF := hidOf h1
    have HID := hidOf hid
    clear hG h2 h1 hsh hid
    generalize L[i] = d at *
    have hi64 : (i : Int) < (Ls.length : Int) := by omega
    have CC : Hid (∀ w1, Below w.heap.size w w1 → w1.rangeAt b (off + i * 7) [.int .i64 d.id, .int .i64 d.ty, .int .i64 d.pr, .int .i64 d.pa, .slice ga d.gs.length gc, .int .i64 d.ve, .bool d.sd]) := hidOf (fun w1 hb => range_of hc (hb.block b hbl'))
    clear hc
    by_cases ht : d.ty = 3
    · rw [slots_sys H2.out ht]
      have bt : (d.ty == 3) = true := by simp [ht]
      clear ht
      go_enter Try.func24, Try.ntmps24
      go_wp2_with (go_at_call 9; refine HJOB.out.mono ?_; rintro e w1 ⟨rfl, hb⟩; obtain ⟨hd, hbw, hsz⟩ := ARM.out w1 hb; have HBW := hidOf hbw; have HD := hidOf hd; have e2 : w1.cell? ⟨w.heap.size, 2, none⟩ = some (.slice (some ⟨b, off, none⟩) Ls.length c2) := hd 2 _ rfl; have e5 : w1.cell? ⟨w.heap.size, 5, none⟩ = some (.slice a5 A.length c5) := hd 5 _ rfl; clear hb hd hbw; rw [HF.out]; have cc := CC.out w1 HBW.out; have q1 : w1.cell? ⟨b, off + i * 7 + 1, none⟩ = some (.int .i64 d.ty) := cc 1 _ rfl; clear cc)
      go_ret2
      exact ⟨rfl, HBW.out⟩
    · rw [slots_at H2.out ht]
      have bt : (d.ty == 3) = false := by simp [ht]
      clear ht H2
      have hgl : d.gs.length * 24 ≤ 140737488355328 := HG.out.bd
      have HRV := hidOf (runV_rg d.id d.ve d.gs A)
      rw [HID.out] at HRV
      go_enter Try.func24, Try.ntmps24
      go_wp2_with (go_at_call 9; refine HJOB.out.mono ?_; rintro e w1 ⟨rfl, hb⟩; obtain ⟨hd, hbw, hsz⟩ := ARM.out w1 hb; have HBW := hidOf hbw; have HD := hidOf hd; have e2 : w1.cell? ⟨w.heap.size, 2, none⟩ = some (.slice (some ⟨b, off, none⟩) Ls.length c2) := hd 2 _ rfl; have e5 : w1.cell? ⟨w.heap.size, 5, none⟩ = some (.slice a5 A.length c5) := hd 5 _ rfl; clear hb hd hbw; rw [HF.out]; have cc := CC.out w1 HBW.out; have q0 : w1.cell? ⟨b, off + i * 7, none⟩ = some (.int .i64 d.id) := cc 0 _ rfl; have q1 : w1.cell? ⟨b, off + i * 7 + 1, none⟩ = some (.int .i64 d.ty) := cc 1 _ rfl; have q2 : w1.cell? ⟨b, off + i * 7 + 2, none⟩ = some (.int .i64 d.pr) := cc 2 _ rfl; have q3 : w1.cell? ⟨b, off + i * 7 + 3, none⟩ = some (.int .i64 d.pa) := cc 3 _ rfl; have q4 : w1.cell? ⟨b, off + i * 7 + 4, none⟩ = some (.slice ga d.gs.length gc) := cc 4 _ rfl; have q5 : w1.cell? ⟨b, off + i * 7 + 5, none⟩ = some (.int .i64 d.ve) := cc 5 _ rfl; have q6 : w1.cell? ⟨b, off + i * 7 + 6, none⟩ = some (.bool d.sd) := cc 6 _ rfl; have lb : b < w1.heap.size := Nat.lt_of_lt_of_le hbl' HBW.out.size; clear cc)
      have HI0 : Hid (RsI w (w1.alloc (.cells #[.int .i64 d.id, .int .i64 d.ty, .int .i64 d.pr, .int .i64 d.pa, .slice ga d.gs.length gc, .int .i64 d.ve, .bool d.sd] 55)) w1.heap.size [.int .i64 ix, .int .i64 nx, .slice (some ⟨b, off, none⟩) Ls.length c2, .slice a3 n3 c3, .slice a4 n4 c4, .slice a5 A.length c5, .slice a6 n6 c6, .slice a7 n7 c7, .slice a8 n8 c8] [.int .i64 d.id, .int .i64 d.ty, .int .i64 d.pr, .int .i64 d.pa, .slice ga d.gs.length gc, .int .i64 d.ve, .bool d.sd]) := hidOf ⟨range_of HD.out ((below1 w1 _).block _ hsz), box_new (Below.refl _ _), HBW.out.trans ((below1 w1 _).mono HBW.out.size), by simp, by simp; omega⟩
      clear e2 e5 q0 q1 q2 q3 q4 q5 q6
      go_loopw [8, 9, 10] (fun al ru k wr => ∃ n a r : Nat, n ≤ d.gs.length ∧ k = .int .i64 n ∧ al = .int .i64 (a : Int) ∧ ru = .int .i64 (r : Int) ∧ Hid (a = (slg d.gs n).length ∧ r = (slg d.gs n).countP (rg jb d.ve A)) ∧ Hid (RsI w wr w1.heap.size [.int .i64 ix, .int .i64 nx, .slice (some ⟨b, off, none⟩) Ls.length c2, .slice a3 n3 c3, .slice a4 n4 c4, .slice a5 A.length c5, .slice a6 n6 c6, .slice a7 n7 c7, .slice a8 n8 c8] [.int .i64 d.id, .int .i64 d.ty, .int .i64 d.pr, .int .i64 d.pa, .slice ga d.gs.length gc, .int .i64 d.ve, .bool d.sd])) (fun _ _ k _ => d.gs.length - (intOf k).toNat)
      case atStart => exact ⟨0, 0, 0, Nat.zero_le _, rfl, rfl, rfl, hidOf ⟨rfl, rfl⟩, HI0⟩
      case round =>
        clear HI0
        obtain ⟨n, al, ru, hn, rfl, rfl, rfl, HE, HI⟩ := hrel
        obtain ⟨wo, hwo⟩ : ∃ x, x = wr := ⟨_, rfl⟩
        subst hwo
        have e5 : wo.cell? ⟨w.heap.size, 5, none⟩ = some (.slice a5 A.length c5) := HI.out.s 5 _ rfl; have j4 : wo.cell? ⟨w1.heap.size, 4, none⟩ = some (.slice ga d.gs.length gc) := HI.out.j 4 _ rfl; have j5 : wo.cell? ⟨w1.heap.size, 5, none⟩ = some (.int .i64 d.ve) := HI.out.j 5 _ rfl; have lN : w.heap.size < wo.heap.size := HI.out.ln; have lP : w1.heap.size < wo.heap.size := HI.out.l
        by_cases hlt : n < d.gs.length
        · have hn64 : (n : Int) < (d.gs.length : Int) := by omega
          obtain ⟨b2, off2, ha2, hbl2, hc2⟩ := HG.out.at n hlt
          subst ha2
          have GG : Hid (∀ wq, Below w.heap.size w wq → wq.cell? ⟨b2, off2 + n * 3, none⟩ = some (.int .i64 d.gs[n].n)) := hidOf (fun wq hb => (range_of hc2 (hb.block b2 hbl2)) 0 _ rfl)
          have hga : gat d.gs (n : Int) = d.gs[n].n := by rw [gat, Int.toNat_natCast, getD_at d.gs n hlt]
          have hcN : cnN d.gs n = (cn d.gs[n].n).toNat := by rw [cnN, hga]
          have HNX := hidOf (slk_next d.gs n)
          have HSL := hidOf (slk_zero d.gs n)
          have hcp := cn_pos d.gs[n].n
          have hl0 := slg_len d.gs n
          have HCN : Hid (∀ m : Nat, m < cnN d.gs n ↔ ((m : Int) < d.gs[n].n ∧ (m : Int) < 4)) := hidOf (fun m => by
            rw [hcN]
            unfold cn
            split
            · constructor
              · intro h; simp at h
              · intro h; omega
            · split
              · constructor
                · intro h; simp at h; omega
                · intro h; simp; omega
              · constructor
                · intro h; omega
                · intro h; omega)
          have hc4 : cnN d.gs n ≤ 4 := by rw [hcN]; omega
          have hbl2' : b2 < w.heap.size := hbl2
          generalize d.gs[n].n = gn at *
          clear hga hcN hcp hc2 hbl2
          generalize cnN d.gs n = cN at *
          rw [← HSL.out] at HE
          clear HSL
          go_wp2
          go_loopw [8, 9, 11] (fun al ru k wr => ∃ m a r : Nat, m ≤ cN ∧ k = .int .i64 m ∧ al = .int .i64 (a : Int) ∧ ru = .int .i64 (r : Int) ∧ Hid (a = (slk d.gs n m).length ∧ r = (slk d.gs n m).countP (rg jb d.ve A)) ∧ Hid (RsI w wr w1.heap.size [.int .i64 ix, .int .i64 nx, .slice (some ⟨b, off, none⟩) Ls.length c2, .slice a3 n3 c3, .slice a4 n4 c4, .slice a5 A.length c5, .slice a6 n6 c6, .slice a7 n7 c7, .slice a8 n8 c8] [.int .i64 d.id, .int .i64 d.ty, .int .i64 d.pr, .int .i64 d.pa, .slice (some ⟨b2, off2, none⟩) d.gs.length gc, .int .i64 d.ve, .bool d.sd])) (fun _ _ k _ => cN - (intOf k).toNat)
          case atStart => exact ⟨0, al, ru, Nat.zero_le _, rfl, rfl, rfl, HE, HI⟩
          case round =>
            clear HE HI e5 j4 j5 lN lP
            obtain ⟨m, al, ru, hm, rfl, rfl, rfl, HE, HI⟩ := hrel
            have g0 := GG.out wr HI.out.b
            have lb2 : b2 < wr.heap.size := Nat.lt_of_lt_of_le hbl2' HI.out.b.size
            have e5 : wr.cell? ⟨w.heap.size, 5, none⟩ = some (.slice a5 A.length c5) := HI.out.s 5 _ rfl; have j4 : wr.cell? ⟨w1.heap.size, 4, none⟩ = some (.slice (some ⟨b2, off2, none⟩) d.gs.length gc) := HI.out.j 4 _ rfl; have j5 : wr.cell? ⟨w1.heap.size, 5, none⟩ = some (.int .i64 d.ve) := HI.out.j 5 _ rfl; have lN : w.heap.size < wr.heap.size := HI.out.ln; have lP : w1.heap.size < wr.heap.size := HI.out.l
            have hal : al ≤ 4 * n + 4 := by rw [HE.out.1, slk_len]; omega
            have hru : ru ≤ al := by rw [HE.out.1, HE.out.2]; exact cnt_le _
            by_cases hmc : m < cN
            · obtain ⟨hm1, hm2⟩ := (HCN.out m).1 hmc
              have s0 : wr.cell? ⟨w.heap.size, 0, none⟩ = some (.int .i64 ix) := HI.out.s 0 _ rfl; have s1 : wr.cell? ⟨w.heap.size, 1, none⟩ = some (.int .i64 nx) := HI.out.s 1 _ rfl; have s2 : wr.cell? ⟨w.heap.size, 2, none⟩ = some (.slice (some ⟨b, off, none⟩) Ls.length c2) := HI.out.s 2 _ rfl; have s3 : wr.cell? ⟨w.heap.size, 3, none⟩ = some (.slice a3 n3 c3) := HI.out.s 3 _ rfl; have s4 : wr.cell? ⟨w.heap.size, 4, none⟩ = some (.slice a4 n4 c4) := HI.out.s 4 _ rfl; have s5 : wr.cell? ⟨w.heap.size, 5, none⟩ = some (.slice a5 A.length c5) := HI.out.s 5 _ rfl; have s6 : wr.cell? ⟨w.heap.size, 6, none⟩ = some (.slice a6 n6 c6) := HI.out.s 6 _ rfl; have s7 : wr.cell? ⟨w.heap.size, 7, none⟩ = some (.slice a7 n7 c7) := HI.out.s 7 _ rfl; have s8 : wr.cell? ⟨w.heap.size, 8, none⟩ = some (.slice a8 n8 c8) := HI.out.s 8 _ rfl
              have hsl := refSlot_any ⟨ix, nx, some ⟨b, off, none⟩, Ls.length, c2, a3, n3, c3, a4, n4, c4, a5, A.length, c5, a6, n6, c6, a7, n7, c7, a8, n8, c8⟩ jb (n : Int) (m : Int) A wr rfl (HA.out.kept (fun b hb => HI.out.b.block b hb) (fun b hb => Nat.lt_of_lt_of_le hb HI.out.b.size))
              dsimp only at hsl
              have HSLT := hidOf hsl
              clear hsl
              have HA1 : Hid ((slk d.gs n (m + 1)).length = al + 1) := hidOf (by rw [slk_len, HE.out.1, slk_len]; omega)
              have HR1 := hidOf (cnt_step (id := jb) (ve := d.ve) (A := A) (G := d.gs) (g := n) (k := m))
              rw [← HE.out.2] at HR1
              rcases fi_spec (slB jb (n : Int) (m : Int)) A with ⟨h1, h2⟩ | ⟨i2, hi2b, h1, h2⟩
              · have HR : Hid ((slk d.gs n (m + 1)).countP (rg jb d.ve A) = ru) := hidOf (by have := HR1.out; rw [rg_none h2, if_neg (by simp)] at this; omega)
                have HFI := hidOf h1
                clear h1 h2 HR1
                go_wp2_with (go_at_call 28; refine HSLT.out.mono ?_; rintro e w3 ⟨rfl, hb⟩; have HI3 := hidOf (HI.out.grow hb); rw [HFI.out]; clear hb s0 s1 s2 s3 s4 s5 s6 s7 s8 e5 j4 j5 lN lP g0 lb2; have e5 : w3.cell? ⟨w.heap.size, 5, none⟩ = some (.slice a5 A.length c5) := HI3.out.s 5 _ rfl; have j4 : w3.cell? ⟨w1.heap.size, 4, none⟩ = some (.slice (some ⟨b2, off2, none⟩) d.gs.length gc) := HI3.out.j 4 _ rfl; have j5 : w3.cell? ⟨w1.heap.size, 5, none⟩ = some (.int .i64 d.ve) := HI3.out.j 5 _ rfl; have lN : w.heap.size < w3.heap.size := HI3.out.ln; have lP : w1.heap.size < w3.heap.size := HI3.out.l)
                go_quiet (fail)
                go_wp2
                go_roundw
                case rel => exact ⟨m + 1, al + 1, ru, by omega, by go_num, by go_num, rfl, hidOf ⟨HA1.out.symm, HR.out.symm⟩, hidOf (HI3.out.grow (bdrewN w3 nq))⟩
                case measure => simp [intOf]; omega
              · obtain ⟨b3, off3, ha3, hbl3, hc3⟩ := HA.out.at i2 hi2b
                have hx : A[i2] = A[i2] := rfl
                have AA : Hid (∀ wq, Below w.heap.size w wq → (wq.rangeAt b3 (off3 + i2 * 11) (Al.cs A[i2]) ∧ b3 < wq.heap.size)) := hidOf (fun wq hb => ⟨range_of hc3 (hb.block b3 hbl3), Nat.lt_of_lt_of_le hbl3 hb.size⟩)
                have hgd := rg_some (id := jb) (ve := d.ve) h2
                have HFI := hidOf h1
                have hi3 : (i2 : Int) < (A.length : Int) := by omega
                clear h1 h2 hx hc3 hbl3
                generalize A[i2] = x at *
                subst ha3
                by_cases e1 : x.ve = d.ve
                · have b1 : (x.ve == d.ve) = true := by simp [e1]
                  by_cases e2 : x.st = 2
                  · have b2' : (x.st == 2) = true := by simp [e2]
                    cases e3 : x.sp with
                    | false =>
                      have HR : Hid ((slk d.gs n (m + 1)).countP (rg jb d.ve A) = ru + 1) := hidOf (by have := HR1.out; rw [hgd, if_pos (by rw [good, isI_true e1, isI_true e2, e3]; rfl)] at this; omega)
                      clear e1 e2 hgd HR1
                      go_wp2_with (go_at_call 28; refine HSLT.out.mono ?_; rintro e w3 ⟨rfl, hb⟩; have HI3 := hidOf (HI.out.grow hb); rw [HFI.out]; clear hb s0 s1 s2 s3 s4 s5 s6 s7 s8 e5 j4 j5 lN lP g0 lb2; have e5 : w3.cell? ⟨w.heap.size, 5, none⟩ = some (.slice (some ⟨b3, off3, none⟩) A.length c5) := HI3.out.s 5 _ rfl; have j4 : w3.cell? ⟨w1.heap.size, 4, none⟩ = some (.slice (some ⟨b2, off2, none⟩) d.gs.length gc) := HI3.out.j 4 _ rfl; have j5 : w3.cell? ⟨w1.heap.size, 5, none⟩ = some (.int .i64 d.ve) := HI3.out.j 5 _ rfl; have lN : w.heap.size < w3.heap.size := HI3.out.ln; have lP : w1.heap.size < w3.heap.size := HI3.out.l; obtain ⟨hcx, lb3⟩ := AA.out w3 HI3.out.b; have y2 : w3.cell? ⟨b3, off3 + i2 * 11 + 2, none⟩ = some (.int .i64 x.ve) := hcx 2 _ rfl; have y9 : w3.cell? ⟨b3, off3 + i2 * 11 + 9, none⟩ = some (.bool x.sp) := hcx 9 _ rfl; have y10 : w3.cell? ⟨b3, off3 + i2 * 11 + 10, none⟩ = some (.int .i64 x.st) := hcx 10 _ rfl; clear hcx)
                      go_quiet (fail)
                      go_wp2
                      go_roundw
                      case rel => exact ⟨m + 1, al + 1, ru + 1, by omega, by go_num, by go_num, by go_num, hidOf ⟨HA1.out.symm, HR.out.symm⟩, hidOf (HI3.out.grow (bdrewN w3 nq))⟩
                      case measure => simp [intOf]; omega
                    | true =>
                      have HR : Hid ((slk d.gs n (m + 1)).countP (rg jb d.ve A) = ru) := hidOf (by have := HR1.out; rw [hgd, if_neg (by rw [good, e3]; simp)] at this; omega)
                      clear e1 e2 hgd HR1
                      go_wp2_with (go_at_call 28; refine HSLT.out.mono ?_; rintro e w3 ⟨rfl, hb⟩; have HI3 := hidOf (HI.out.grow hb); rw [HFI.out]; clear hb s0 s1 s2 s3 s4 s5 s6 s7 s8 e5 j4 j5 lN lP g0 lb2; have e5 : w3.cell? ⟨w.heap.size, 5, none⟩ = some (.slice (some ⟨b3, off3, none⟩) A.length c5) := HI3.out.s 5 _ rfl; have j4 : w3.cell? ⟨w1.heap.size, 4, none⟩ = some (.slice (some ⟨b2, off2, none⟩) d.gs.length gc) := HI3.out.j 4 _ rfl; have j5 : w3.cell? ⟨w1.heap.size, 5, none⟩ = some (.int .i64 d.ve) := HI3.out.j 5 _ rfl; have lN : w.heap.size < w3.heap.size := HI3.out.ln; have lP : w1.heap.size < w3.heap.size := HI3.out.l; obtain ⟨hcx, lb3⟩ := AA.out w3 HI3.out.b; have y2 : w3.cell? ⟨b3, off3 + i2 * 11 + 2, none⟩ = some (.int .i64 x.ve) := hcx 2 _ rfl; have y9 : w3.cell? ⟨b3, off3 + i2 * 11 + 9, none⟩ = some (.bool x.sp) := hcx 9 _ rfl; have y10 : w3.cell? ⟨b3, off3 + i2 * 11 + 10, none⟩ = some (.int .i64 x.st) := hcx 10 _ rfl; clear hcx)
                      go_quiet (fail)
                      go_wp2
                      go_roundw
                      case rel => exact ⟨m + 1, al + 1, ru, by omega, by go_num, by go_num, rfl, hidOf ⟨HA1.out.symm, HR.out.symm⟩, hidOf (HI3.out.grow (bdrewN w3 nq))⟩
                      case measure => simp [intOf]; omega
                  · have b2' : (x.st == 2) = false := by simp [e2]
                    have HR : Hid ((slk d.gs n (m + 1)).countP (rg jb d.ve A) = ru) := hidOf (by have := HR1.out; rw [hgd, if_neg (by rw [good, isI_false e2]; simp)] at this; omega)
                    clear e1 e2 hgd HR1
                    go_wp2_with (go_at_call 28; refine HSLT.out.mono ?_; rintro e w3 ⟨rfl, hb⟩; have HI3 := hidOf (HI.out.grow hb); rw [HFI.out]; clear hb s0 s1 s2 s3 s4 s5 s6 s7 s8 e5 j4 j5 lN lP g0 lb2; have e5 : w3.cell? ⟨w.heap.size, 5, none⟩ = some (.slice (some ⟨b3, off3, none⟩) A.length c5) := HI3.out.s 5 _ rfl; have j4 : w3.cell? ⟨w1.heap.size, 4, none⟩ = some (.slice (some ⟨b2, off2, none⟩) d.gs.length gc) := HI3.out.j 4 _ rfl; have j5 : w3.cell? ⟨w1.heap.size, 5, none⟩ = some (.int .i64 d.ve) := HI3.out.j 5 _ rfl; have lN : w.heap.size < w3.heap.size := HI3.out.ln; have lP : w1.heap.size < w3.heap.size := HI3.out.l; obtain ⟨hcx, lb3⟩ := AA.out w3 HI3.out.b; have y2 : w3.cell? ⟨b3, off3 + i2 * 11 + 2, none⟩ = some (.int .i64 x.ve) := hcx 2 _ rfl; have y9 : w3.cell? ⟨b3, off3 + i2 * 11 + 9, none⟩ = some (.bool x.sp) := hcx 9 _ rfl; have y10 : w3.cell? ⟨b3, off3 + i2 * 11 + 10, none⟩ = some (.int .i64 x.st) := hcx 10 _ rfl; clear hcx)
                    go_quiet (fail)
                    go_wp2
                    go_roundw
                    case rel => exact ⟨m + 1, al + 1, ru, by omega, by go_num, by go_num, rfl, hidOf ⟨HA1.out.symm, HR.out.symm⟩, hidOf (HI3.out.grow (bdrewN w3 nq))⟩
                    case measure => simp [intOf]; omega
                · have b1 : (x.ve == d.ve) = false := by simp [e1]
                  have HR : Hid ((slk d.gs n (m + 1)).countP (rg jb d.ve A) = ru) := hidOf (by have := HR1.out; rw [hgd, if_neg (by rw [good, isI_false e1]; simp)] at this; omega)
                  clear e1 hgd HR1
                  go_wp2_with (go_at_call 28; refine HSLT.out.mono ?_; rintro e w3 ⟨rfl, hb⟩; have HI3 := hidOf (HI.out.grow hb); rw [HFI.out]; clear hb s0 s1 s2 s3 s4 s5 s6 s7 s8 e5 j4 j5 lN lP g0 lb2; have e5 : w3.cell? ⟨w.heap.size, 5, none⟩ = some (.slice (some ⟨b3, off3, none⟩) A.length c5) := HI3.out.s 5 _ rfl; have j4 : w3.cell? ⟨w1.heap.size, 4, none⟩ = some (.slice (some ⟨b2, off2, none⟩) d.gs.length gc) := HI3.out.j 4 _ rfl; have j5 : w3.cell? ⟨w1.heap.size, 5, none⟩ = some (.int .i64 d.ve) := HI3.out.j 5 _ rfl; have lN : w.heap.size < w3.heap.size := HI3.out.ln; have lP : w1.heap.size < w3.heap.size := HI3.out.l; obtain ⟨hcx, lb3⟩ := AA.out w3 HI3.out.b; have y2 : w3.cell? ⟨b3, off3 + i2 * 11 + 2, none⟩ = some (.int .i64 x.ve) := hcx 2 _ rfl; have y9 : w3.cell? ⟨b3, off3 + i2 * 11 + 9, none⟩ = some (.bool x.sp) := hcx 9 _ rfl; have y10 : w3.cell? ⟨b3, off3 + i2 * 11 + 10, none⟩ = some (.int .i64 x.st) := hcx 10 _ rfl; clear hcx)
                  go_quiet (fail)
                  go_wp2
                  go_roundw
                  case rel => exact ⟨m + 1, al + 1, ru, by omega, by go_num, by go_num, rfl, hidOf ⟨HA1.out.symm, HR.out.symm⟩, hidOf (HI3.out.grow (bdrewN w3 nq))⟩
                  case measure => simp [intOf]; omega
            · have hme : cN = m := by omega
              have hnot := fun h => hmc ((HCN.out m).2 h)
              have HEN : Hid (al = (slg d.gs (n + 1)).length ∧ ru = (slg d.gs (n + 1)).countP (rg jb d.ve A)) := hidOf (by rw [← HNX.out, hme]; exact HE.out)
              clear hme hmc
              by_cases hm1 : (m : Int) < gn
              · have hm2 : ¬ (m : Int) < 4 := fun h => hnot ⟨hm1, h⟩
                clear hnot
                go_wp2
                go_roundw
                case rel => exact ⟨n + 1, al, ru, by omega, by go_num, rfl, rfl, HEN, HI⟩
                case measure => simp [intOf]; omega
              · clear hnot
                go_wp2
                go_roundw
                case rel => exact ⟨n + 1, al, ru, by omega, by go_num, rfl, rfl, HEN, HI⟩
                case measure => simp [intOf]; omega
        · have hnl : n = d.gs.length := by omega
          subst hnl
          go_wp2
          go_ret2
          exact ⟨by rw [HID.out, HRV.out, ← HE.out.1, ← HE.out.2]; rfl, HI.out.b⟩
end Go.Proofs.Ytkokkdekbilkjaa
