/- DiskElse, walked. -/
import Derived.Test.YtkbmfookdhlphaaLpla
namespace Go.Proofs.Ytkbmfookdhlphaa
open Go.RowKit Go.Maps Go.Sort

theorem Try.info29 : (Try.prog.info? 29).map (fun i => (i.zero, i.size, i.bytes)) = some (some (.slice none 0 0), 1, 24) := by kernel_rfl
theorem rowB_blk {w : World} {B : Nat} {v : Value} {e n sz : Nat} {xs : List Value} (h : w.ownsRow B e sz v n xs) {g : Nat} (hg : v.ownBlock = some g) : ∃ cur, w.heap[g]? = some (.cells cur e (0, 0)) := by
  rcases h.2 with ⟨rfl, _⟩ | ⟨g', cap, cur, rfl, _, h4, _⟩
  · cases hg
  · have e2 : g' = g := Option.some.inj hg
    exact ⟨cur, e2 ▸ h4⟩
theorem rowB_kept {w w' : World} {B : Nat} {v : Value} {e n sz : Nat} {xs : List Value} (h : w.ownsRow B e sz v n xs) (hk : ∀ g, v.ownBlock = some g → w'.heap[g]? = w.heap[g]?) : w'.ownsRow B e sz v n xs := by
  refine ⟨h.1, ?_⟩
  rcases h.2 with h2 | ⟨g, cap, cur, rfl, h3, h4, h5⟩
  · exact .inl h2
  · exact .inr ⟨g, cap, cur, rfl, h3, (hk g rfl).trans h4, h5⟩
/- what was read, row by row -/
def HadR (B : Nat) (w : World) (M : Md) (ks : List Nm) (hv : Value) (k : Nat) : Prop := ∃ zs : List Value, w.ownsRow B 29 1 hv k zs ∧ ∀ (j : Nat) (z : Value) (nm : Nm), zs[j]? = some z → ks[j]? = some nm → SlR w z (cOf M.files nm) ∧ ∀ g, z.ownBlock = some g → B ≤ g
theorem HadR.keep {B : Nat} {w w' : World} {M : Md} {ks : List Nm} {hv : Value} {k : Nat} (h : HadR B w M ks hv k) (_hk : k ≤ ks.length) (hb : ∀ g, B ≤ g → g < w.heap.size → w'.heap[g]? = w.heap[g]?) : HadR B w' M ks hv k := by
  obtain ⟨zs, h1, h2⟩ := h
  refine ⟨zs, rowB_kept h1 (fun g hg => ?_), fun j z nm hz hn => ?_⟩
  · obtain ⟨cur, hc⟩ := rowB_blk h1 hg
    exact hb g (row_base h1 g hg) (heap_lt hc)
  · obtain ⟨s1, s2⟩ := h2 j z nm hz hn
    exact ⟨s1.kept (fun g hg => hb g (s2 g hg) (s1.lt g hg)), s2⟩
theorem HadR.below {B : Nat} {w w' : World} {M : Md} {ks : List Nm} {hv : Value} {k : Nat} (h : HadR B w M ks hv k) (hk : k ≤ ks.length) (hb : Below w.heap.size w w') : HadR B w' M ks hv k := h.keep hk (fun g _ hg => hb.block g hg)
theorem HadR.form {B : Nat} {w : World} {M : Md} {ks : List Nm} {hv : Value} {k : Nat} (h : HadR B w M ks hv k) : ∃ a c, hv = .slice a k c := by
  obtain ⟨zs, h1, _⟩ := h
  exact row_form h1
/- one more -/
theorem HadR.one {B : Nat} {w w' : World} {M : Md} {ks : List Nm} {hv v' z : Value} {k : Nat} {nm : Nm} {zs : List Value} (h1 : w.ownsRow B 29 1 hv k zs) (h2 : ∀ (j : Nat) (z : Value) (nm : Nm), zs[j]? = some z → ks[j]? = some nm → SlR w z (cOf M.files nm) ∧ ∀ g, z.ownBlock = some g → B ≤ g) (hn : ks[k]? = some nm) (hz : SlR w z (cOf M.files nm)) (hzB : ∀ g, z.ownBlock = some g → B ≤ g) (hrow : w'.ownsRow B 29 1 v' (k + 1) (zs ++ [z])) (hg : w.grownBy w' hv.ownBlock) : HadR B w' M ks v' (k + 1) := by
  have kp : ∀ {u : Value} {l : List UInt8}, SlR w u l → SlR w' u l := fun {u l} hs => hs.kept (fun g hg' => hg.block g (hs.lt g hg') (fun e => by
    obtain ⟨cur, hc⟩ := rowB_blk h1 e.symm
    rcases hs with ⟨rfl, _⟩ | ⟨g', cap, cur', rfl, hgg, _⟩
    · cases hg'
    · cases hg'
      rw [hgg] at hc
      cases hc))
  refine ⟨zs ++ [z], hrow, fun j y m hj hm => ?_⟩
  have hl : zs.length = k := by have := h1.1; omega
  by_cases hjk : j < zs.length
  · rw [List.getElem?_append_left hjk] at hj
    obtain ⟨s1, s2⟩ := h2 j y m hj hm
    exact ⟨kp s1, s2⟩
  · rw [List.getElem?_append_right (by omega)] at hj
    have hj0 : j - zs.length = 0 := by
      have := (List.getElem?_eq_some_iff.1 hj).1
      simp at this; omega
    rw [hj0] at hj
    simp at hj
    subst hj
    have : j = k := by omega
    subst this
    rw [hn] at hm
    cases hm
    exact ⟨kp hz, hzB⟩
theorem HadR.at {B : Nat} {w : World} {M : Md} {ks : List Nm} {hv : Value} {n j : Nat} {nm : Nm} (h : HadR B w M ks hv n) (hj : j < n) (hn : ks[j]? = some nm) : ∃ g cap za zc, hv = .slice (some ⟨g, 0, none⟩) n cap ∧ g < w.heap.size ∧ w.cell? ⟨g, j, none⟩ = some (.slice za (cOf M.files nm).length zc) ∧ SlR w (.slice za (cOf M.files nm).length zc) (cOf M.files nm) := by
  obtain ⟨zs, h1, h2⟩ := h
  have hl : zs.length = n := by have := h1.1; omega
  obtain ⟨z, hz⟩ : ∃ z, zs[j]? = some z := ⟨_, List.getElem?_eq_getElem (by omega)⟩
  obtain ⟨s1, _⟩ := h2 j z nm hz hn
  obtain ⟨za, zc, hq, _⟩ := s1.form
  subst hq
  rcases h1.2 with ⟨_, e⟩ | ⟨g, cap, cur, e, _, h4, h5, h6, h7, h8⟩
  · omega
  · refine ⟨g, cap, za, zc, e, heap_lt h4, ?_, s1⟩
    rw [cell_of_row w g j cur 29 (0, 0) h4]
    rw [← h8, List.getElem?_take, if_pos (by omega)] at hz
    simpa using hz
theorem mv_files {E : Int} {M' M : Md} {k : Nm} (h : M'.files k = M.files k) : (mv E M' M).files k = M.files k := by
  unfold mv; split
  · exact h
  · rfl
theorem fup_oth {fs : FS} {a k : Nm} {v : Option (List UInt8)} (h : k ≠ a) : fup fs a v k = fs k := if_neg h
theorem nx_files {kd n : Int} {s t : Nm} {d : List UInt8} {M M' : Md} {k : Nm} (h : NxM kd s t d n M M') (h7 : kd ≠ 7) (hs : k ≠ s) (ht : k ≠ t) : M'.files k = M.files k := by
  obtain ⟨m, _, rfl⟩ := h
  unfold nxM
  split
  · exact mv_files (fup_oth hs)
  split
  · exact mv_files (fup_oth hs)
  split
  · exact mv_files (fup_oth hs)
  split
  · exact mv_files ((fup_oth ht).trans (fup_oth hs))
  split
  · exact mv_files rfl
  split
  · exact mv_files rfl
  rfl
theorem bdrew (w : World) (n : Nat) : Below w.heap.size w (w.drewN n) := ⟨rfl, rfl, rfl, Nat.le_refl _, fun _ _ => rfl⟩
theorem Bel.dr {B : Nat} {w w' : World} (h : Below B w w') (n : Nat) : Below B w (w'.drewN n) := ⟨h.os, h.tape, h.output, h.size, h.block⟩
theorem str_ne {a b : ByteArray} (h : (a.toList == b.toList) = false) : a.data.toList ≠ b.data.toList := by
  rw [str_eq] at h
  exact of_decide_eq_false h

set_option maxHeartbeats 8000000 in
set_option maxRecDepth 100000 in
theorem lawElse (a : Option Addr) (cap : Nat) (L : List Stp1) (x : Stp1) (w : World) (hO : Stps w a L) (hN : NmL L) (hL : L.length ≤ 1954687338268) (hB : Bs w x.a x.d) (hz : x.nm.size ≤ maxLen) (hy : x.to.size ≤ maxLen) : Calls Try.prog 7 #[.slice a L.length cap, .agg #[.int .i64 x.k, .string x.nm, .string x.to, .slice x.a x.d.length x.cap, .int .i64 x.n]] w fun e w' => e = .returned (.bool true) ∧ Below w.heap.size w w' := by
  obtain ⟨i29, hi29, hz0, hz1, hz2⟩ := info_parts Try.info29
  have HO := hidOf hO
  have HN := hidOf hN
  have HDX := hidOf (fun (wb : World) (hb : Below w.heap.size w wb) (wq : World) (p q k : Nat) (M : Md) (F R : Nat → Prop) (hT : Two wb wq p q M M k k F R) (hk : k + 1 ≤ 2199023255552) => does_k hT hk x (hB.grow hb) hz hy)
  clear hO hN hB hz hy
  obtain ⟨kd, nm, to, ad, cp, d, xn⟩ := x
  dsimp only at HDX ⊢
  obtain ⟨wb, HWE⟩ : ∃ wb, Hid (wb = w.alloc (.cells #[.int .i64 kd, .string nm, .string to, .slice ad d.length cp, .int .i64 xn] 31)) := ⟨_, hidOf rfl⟩
  have HBW : Hid (Below w.heap.size w wb) := by rw [HWE.out]; exact hidOf (below1 w _)
  have HBX : Hid (wb.heap[w.heap.size]? = some (.cells #[.int .i64 kd, .string nm, .string to, .slice ad d.length cp, .int .i64 xn] 31 (0, 0))) := by rw [HWE.out]; exact hidOf (heap_alloc_new w _)
  have HSZ : Hid (wb.heap.size = w.heap.size + 1) := by rw [HWE.out]; exact hidOf (by simp)
  go_enter Try.func7, Try.ntmps7
  go_wp2_with (first
    | (go_at_call 9; refine (new_st _).mono ?_; rintro e w1 ⟨F, he, h1, h2, h3⟩; rw [← HWE.out] at he h1 h2 h3; subst he; have H1 := hidOf (tw2_new h1 h2 h3); clear h1 h2 h3)
    | (go_at_call 10; refine (rnew_any _).mono ?_; rintro e w2 ⟨rfl, hw⟩; rw [← hw] at H1; clear hw)
    | (go_at_call 11; refine (known_any _).mono ?_; rintro e w3 ⟨rfl, hb⟩; have H2 := hidOf (H1.out.below hb); clear hb))
  go_loopw [7] (fun i wr => ∃ (k : Nat) (M : Md), i = .int .i64 (k : Int) ∧ k ≤ L.length ∧ Hid (Tw2 wb wr (wb.heap.size + 1 + 1) (w1.heap.size) M M k)) (fun i _ => L.length - (intOf i).toNat)
  case atStart => exact ⟨0, _, rfl, Nat.zero_le _, H2⟩
  case round =>
    obtain ⟨k, M, rfl, hk, H⟩ := hrel
    by_cases hlt : k < L.length
    · have hltz : (k : Int) < (L.length : Int) := by omega
      obtain ⟨b, off, hab, hbl, c0, c1, c2, c3, c4, hB, hnn⟩ := HO.out.at (HBW.out.trans (H.out.bel.mono HBW.out.size)) k hlt
      subst hab
      have HC := hidOf (does_t H.out (by omega) (ot L k) (hB.grow HBW.out) (HN.out k hlt).1 (HN.out k hlt).2)
      have hbw : b < wr.heap.size := Nat.lt_of_lt_of_le (Nat.lt_of_lt_of_le hbl HBW.out.size) H.out.bel.size
      obtain ⟨x, hx⟩ : ∃ x, x = ot L k := ⟨_, rfl⟩
      rw [← hx] at c0 c1 c2 c3 c4 HC
      clear hx hB hnn hbl
      obtain ⟨kd', nm', to', ad', cp', d', xn'⟩ := x
      simp only at c0 c1 c2 c3 c4
      go_wp2_with (go_at_call 12; refine HC.out.mono ?_; rintro e w4 ⟨bb, M', N', rfl, ht, hm, _⟩; obtain ⟨hm1, _⟩ := hm rfl; rw [← hm1] at ht; have HT := hidOf ht; clear ht hm hm1)
      go_roundw
      case rel => exact ⟨k + 1, M', by go_num, by omega, HT⟩
      case measure => simp [intOf]; omega
    · have hltz : ¬ (k : Int) < (L.length : Int) := by omega
      obtain ⟨F, R, hT⟩ := H.out
      have HT := hidOf hT
      have HFL : Hid (∀ g, F g → g < wr.heap.size) := hidOf hT.d.fLt
      have HRL : Hid (∀ g, R g → g < wr.heap.size) := hidOf hT.r.lt
      have HOK := hidOf hT.d.2
      have hfew : ∀ m, Card M.files m → m ≤ 64 := hT.k.rk.files hT.k.ok
      have HFEW := hidOf hfew
      clear hT hfew H
      obtain ⟨wx, hwx⟩ : ∃ y, y = wr := ⟨_, rfl⟩
      subst hwx
      go_wp2_with (go_at_call 22; refine (list_st _ k M F _ HT.out.d).mono ?_; rintro e wl ⟨v, ks, rfl, hsr, hrow, hbl⟩; have HSR := hidOf hsr; have HROW := hidOf hrow; have HBL := hidOf hbl; obtain ⟨va, vc, hv⟩ := strForm hrow; subst hv; have hk64 : ks.length ≤ 64 := HFEW.out _ ⟨ks, hsr, rfl⟩; have HTL := hidOf (HT.out.below hbl); clear hsr hrow hbl)
      go_loopw [9, 10] (fun hv i wr => ∃ (j : Nat) (ha : Option Addr) (hc : Nat), i = .int .i64 (j : Int) ∧ j ≤ ks.length ∧ hv = .slice ha j hc ∧ Hid (HadR wl.heap.size wr M ks (.slice ha j hc) j) ∧ Hid (Below wl.heap.size wl wr)) (fun _ i _ => ks.length - (intOf i).toNat)
      case atStart => exact ⟨0, none, 0, rfl, Nat.zero_le _, rfl, hidOf ⟨[], ⟨rfl, .inl ⟨rfl, rfl⟩⟩, fun j z n hj => by simp at hj⟩, hidOf (Below.refl _ _)⟩
      case round =>
        obtain ⟨j, ha, hc, rfl, hj, rfl, HH, HB⟩ := hrel
        by_cases hlt : j < ks.length
        · have hltz : (j : Int) < (ks.length : Int) := by omega
          obtain ⟨fn, hfn⟩ : ∃ g, ks[j]? = some g := ⟨_, List.getElem?_eq_getElem hlt⟩
          obtain ⟨g, cap', e, hg, c0⟩ := strRow HROW.out HB.out hfn
          cases e
          have hmem : (M.files fn).isSome = true := (HSR.out.2.2 fn).1 (List.mem_of_getElem? hfn)
          obtain ⟨dd, hdd⟩ := Option.isSome_iff_exists.1 hmem
          have hcd : cOf M.files fn = dd := by unfold cOf; rw [hdd]; rfl
          obtain ⟨r1, r2, hdl⟩ := rd_of HOK.out (s := (bA fn).data.toList) (d := dd) (by rw [bA_toList]; exact hdd)
          have HRE := hidOf r1
          have HRD := hidOf r2
          have HCD := hidOf hcd
          have HFN := hidOf hfn
          clear hfn hmem hdd hcd r1 r2
          generalize bA fn = B at *
          obtain ⟨zs, hz1', hz2'⟩ := HH.out
          have HZ1 := hidOf hz1'
          have HZ2 := hidOf hz2'
          clear hz1' hz2'
          go_wp2_with (first
            | (go_at_call 23; refine (cread_any _ k M F _ (HTL.out.d.below HB.out) B).mono ?_; rintro e w3 ⟨z, he, hz, hzf, hb3⟩; rw [HRE.out] at he; rw [HRD.out] at hz; subst he; obtain ⟨za, zc, hq, _⟩ := hz.form; subst hq; have HZ := hidOf hz; have HZF := hidOf hzf; have HB3 := hidOf hb3; have HBB := hidOf (HB.out.trans (hb3.mono HB.out.size)); have HZR := hidOf (row_grow HZ1.out hb3); clear hz hzf hb3)
            | (at_builtin; refine wpList_append_own_at _ rfl (.tmp 55) (.tmp 57) 47 rfl wl.heap.size 29 i29 _ 1 24 Try.underlying47 hi29 hz0 hz1 hz2 (by rfl) (by omega) (.slice ha j hc) j zs rfl (row_grow HZR.out (below1 _ _)) ⟨w3.heap.size, 0, none⟩ 1 1 [.slice za dd.length zc] rfl rfl (cell_one_new w3 _ 29) (by simp [Value.oneCell']) (by unfold maxLen; omega) (by omega) (Nat.le_trans HBB.out.size (by simp)) ?_; intro v' w4 hrow hgr hnil hat; have HH4 := hidOf (HadR.one (M := M) (ks := ks) (row_grow HZR.out (below1 _ _)) (fun j z nm h1 h2 => ⟨((HZ2.out j z nm h1 h2).1.grow HB3.out).grow (below1 _ _), (HZ2.out j z nm h1 h2).2⟩) HFN.out (by rw [HCD.out]; exact HZ.out.grow (below1 _ _)) (fun g hg => Nat.le_trans HB.out.size (HZF.out g hg)) hrow hgr); have HB4 := hidOf (HBB.out.trans (((below1 w3 _).mono HBB.out.size).trans (grown_below hgr (Nat.le_trans HBB.out.size (by simp)) (row_base HZ1.out)))); obtain ⟨va', vc', hv'⟩ := row_form hrow; subst hv'; clear hrow hgr hnil hat))
          refine ⟨⟨j + 1, va', vc', by go_num, by omega, rfl, HH4, HB4⟩, by simp [intOf]; omega⟩
        · have hltz : ¬ (j : Int) < (ks.length : Int) := by omega
          have hje : j = ks.length := by omega
          subst hje
          have HBXr : Hid (wr.heap[w.heap.size]? = some (.cells #[.int .i64 kd, .string nm, .string to, .slice ad d.length cp, .int .i64 xn] 31 (0, 0))) := by
            have h1 : w.heap.size < wb.heap.size := by have := HSZ.out; omega
            have h2 := HTL.out.bel
            exact hidOf ((HB.out.block _ (Nat.lt_of_lt_of_le h1 h2.size)).trans ((h2.block _ h1).trans HBX.out))
          have HTr := hidOf (HTL.out.below HB.out)
          have HBf : Hid (Below w.heap.size w wr) := hidOf (HBW.out.trans (HTr.out.bel.mono HBW.out.size))
          obtain ⟨x0, x1, x2, x3, x4, xl⟩ := box31 HBXr.out
          by_cases h7 : kd = 7
          · subst h7
            go_wp2
            go_ret
            exact ⟨rfl, HBf.out⟩
          · have h7b : (kd == 7) = false := beq_false_of_ne h7
            have H7 := hidOf h7
            clear h7
            have HDC := hidOf (HDX.out wb HBW.out wr _ _ k M F R HTr.out (by omega))
            clear HDX
            go_wp2_with (go_at_call 12; refine HDC.out.mono ?_; rintro e w5 ⟨⟨bb, M', N', rfl, ht, hm, hnx⟩, hkp⟩; have HT5 := hidOf ht; have HNX := hidOf hnx; have HKP := hidOf hkp; clear ht hm hnx hkp)
            have HNF : Hid (∀ g, wx.heap.size ≤ g → g < wr.heap.size → w5.heap[g]? = wr.heap[g]?) := hidOf (fun g h1 h2 => HKP.out g h2 (fun e => by have := HFL.out g e; omega) (fun e => by have := HRL.out g e; omega))
            have HBX5 : Hid (w5.heap[w.heap.size]? = some (.cells #[.int .i64 kd, .string nm, .string to, .slice ad d.length cp, .int .i64 xn] 31 (0, 0))) := hidOf ((HKP.out _ xl (fun e => by have := HTr.out.loF _ e; have := HSZ.out; omega) (fun e => by have := HTr.out.loR _ e; have := HSZ.out; omega)).trans HBXr.out)
            have HH5 := hidOf (HH.out.keep (w' := w5) (Nat.le_refl _) (fun g h1 h2 => HNF.out g (Nat.le_trans HBL.out.size h1) h2))
            have HROW5 : Hid (w5.ownsRow wx.heap.size 9 1 (.slice va ks.length vc) ks.length (ks.map encStr)) := hidOf (rowB_kept (row_grow HROW.out HB.out) (fun g hg => by obtain ⟨cur, hc⟩ := rowB_blk (row_grow HROW.out HB.out) hg; exact HNF.out g (row_base HROW.out g hg) (heap_lt hc)))
            obtain ⟨F5, R5, hT5⟩ := HT5.out
            have HD5 := hidOf hT5.d
            have HOK5 := hidOf hT5.d.2
            have HBE : Hid (Below w.heap.size w w5) := hidOf (HBW.out.trans (hT5.bel.mono HBW.out.size))
            clear hT5 x0 x1 x2 x3 x4 xl
            go_loopw [13] (fun i wr => ∃ (j : Nat), i = .int .i64 (j : Int) ∧ j ≤ ks.length ∧ Hid (Below w5.heap.size w5 wr)) (fun i _ => ks.length - (intOf i).toNat)
            case atStart => exact ⟨0, rfl, Nat.zero_le _, hidOf (Below.refl _ _)⟩
            case round =>
              obtain ⟨j, rfl, hj, HB7⟩ := hrel
              by_cases hlt : j < ks.length
              · have hltz : (j : Int) < (ks.length : Int) := by omega
                obtain ⟨fn, hfn⟩ : ∃ g, ks[j]? = some g := ⟨_, List.getElem?_eq_getElem hlt⟩
                obtain ⟨g, cap', e, hg, c0⟩ := strRow HROW5.out HB7.out hfn
                cases e
                obtain ⟨x0, x1, x2, x3, x4, xl⟩ := box31 ((HB7.out.block _ (heap_lt HBX5.out)).trans HBX5.out)
                have hmem : (M.files fn).isSome = true := (HSR.out.2.2 fn).1 (List.mem_of_getElem? hfn)
                obtain ⟨dd, hdd⟩ := Option.isSome_iff_exists.1 hmem
                have hcd : cOf M.files fn = dd := by unfold cOf; rw [hdd]; rfl
                obtain ⟨g2, cap2, za, zc, e2, hg2, c9, hsl⟩ := (HH5.out.below (Nat.le_refl _) HB7.out).at hlt hfn
                cases e2
                rw [hcd] at c9 hsl
                have HSL := hidOf hsl
                have HDD := hidOf hdd
                have hBt : (bA fn).data.toList = fn := bA_toList fn
                have HBT := hidOf hBt
                clear hfn hmem hdd hcd hsl hBt
                generalize bA fn = B at *
                cases he1 : (B.toList == nm.toList) with
                | true =>
                  go_wp2
                  go_quiet (fail)
                  go_wp2
                  go_roundw
                  case rel => exact ⟨j + 1, by go_num, by omega, hidOf (Bel.dr HB7.out _)⟩
                  case measure => simp [intOf]; omega
                | false =>
                  cases he2 : (B.toList == to.toList) with
                  | true =>
                    go_wp2
                    go_quiet (fail)
                    go_wp2
                    go_roundw
                    case rel => exact ⟨j + 1, by go_num, by omega, hidOf (Bel.dr HB7.out _)⟩
                    case measure => simp [intOf]; omega
                  | false =>
                    obtain ⟨r1, r2, hdl⟩ := rd_of HOK5.out (s := B.data.toList) (d := dd) (by rw [nx_files HNX.out H7.out (str_ne he1) (str_ne he2), HBT.out]; exact HDD.out)
                    have HRE := hidOf r1
                    have HRD := hidOf r2
                    clear r1 r2
                    go_wp2
                    go_quiet (fail)
                    go_wp2_with (first
                      | (go_at_call 23; refine (cread_any _ _ M' F5 _ (HD5.out.below (Bel.dr HB7.out _)) B).mono ?_; rintro e w8 ⟨z, he, hz, _, hb8⟩; rw [HRE.out] at he; rw [HRD.out] at hz; subst he; obtain ⟨ya, yc, hq, _⟩ := hz.form; subst hq; have HZ := hidOf hz; have HS8 := hidOf ((HSL.out.grow (bdrew _ _)).grow hb8); have HB8 := hidOf ((Bel.dr HB7.out _).trans (hb8.mono HB7.out.size)); have d9 := (hb8.cell (p := ⟨g2, _, none⟩) hg2).trans c9; have hg8 : g2 < w8.heap.size := Nat.lt_of_lt_of_le hg2 hb8.size; clear hz hb8 c9 hg2)
                      | (go_at_call 24; have hS := same_any ya za dd.length dd.length yc zc dd dd _ rfl rfl ((HZ.out.bs (by omega)).1) ((HS8.out.bs (by omega)).1); rw [show decide (dd = dd) = true by simp] at hS; refine hS.mono ?_; rintro e w9 ⟨rfl, nq, hw⟩; have hb9 : Below w8.heap.size w8 w9 := (by rw [hw]; exact ⟨rfl, rfl, rfl, Nat.le_refl _, fun _ _ => rfl⟩); have HB9 := hidOf (HB8.out.trans (hb9.mono HB8.out.size)); clear hS hw hb9))
                    go_roundw
                    case rel => exact ⟨j + 1, by go_num, by omega, HB9⟩
                    case measure => simp [intOf]; omega
              · have hltz : ¬ (j : Int) < (ks.length : Int) := by omega
                go_wp2
                go_ret
                exact ⟨rfl, HBE.out.trans (HB7.out.mono HBE.out.size)⟩
end Go.Proofs.Ytkbmfookdhlphaa
