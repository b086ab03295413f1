/- The walk of the statement on frames in a row: it returns true and changes nothing that was there. -/
import Derived.Test.YtpbokgeaolpiaabKnow
import Derived.Test.YtpbokgeaolpiaabRmat
namespace Go.Proofs.Ytpbokgeaolpiaab
open Go.RowKit

theorem slice_lo (a : Option Addr) (n cap u : Nat) (x : Int) (hx : x = (u : Int)) (hu : u ≤ n) (w : World) :
    (Instr.slice 33 (.slice a n cap) (some (.int .i64 x)) none none).run Try.prog w = .ok (.slice (if cap = u then a else a.map (·.add u)) (n - u) (cap - u)) w := by
  subst hx
  rw [run_slice_l (P := Try.prog) w 33 a n cap Try.elem22 .i64 u (by omega) (by omega), Try.size5]
  simp [sliced]

/- what stands behind the first u bytes -/
theorem bs_behind {w : World} {a : Option Addr} {l x : List UInt8} {cap u : Nat} (h : Bs w a (l ++ x)) (hu : l.length = u) (hc : (l ++ x).length ≤ cap) : Bs w (if cap = u then a else a.map (·.add u)) x := by
  refine ⟨by have := h.1; rw [List.length_append] at this; omega, fun hne => ?_⟩
  have hp : 0 < x.length := List.length_pos_iff.2 hne
  obtain ⟨b, off, rfl, hlt, hcl⟩ := h.2 (by intro e; have := congrArg List.length e; rw [List.length_append, List.length_nil] at this; omega)
  rw [List.length_append] at hc
  rw [if_neg (by omega)]
  refine ⟨b, off + u, by simp [Addr.add_lit], hlt, fun j hj => ?_⟩
  rw [Nat.add_assoc, hcl (u + j) (by rw [List.length_append]; omega)]
  have : bat (l ++ x) (u + j) = bat x j := by
    unfold bat bn
    rw [List.getD_eq_getElem?_getD, List.getD_eq_getElem?_getD, List.getElem?_append_right (by omega)]
    congr 4; omega
  rw [this]

/- a slice of slices of bytes that came in -/
structure Bodies (w : World) (a : Option Addr) (m : Nat) (A : Nat → Option Addr) (C : Nat → Nat) (L : Nat → List UInt8) : Prop where
  few : m ≤ 1048576
  short : ∀ r, r < m → (L r).length ≤ 1048576
  at_ : 0 < m → ∃ b off, a = some ⟨b, off, none⟩ ∧ b < w.heap.size ∧ ∀ r, r < m → w.cell? ⟨b, off + r, none⟩ = some (.slice (A r) (L r).length (C r))
  each : ∀ r, r < m → Bs w (A r) (L r)

set_option maxHeartbeats 800000 in
theorem lawRow (w : World) (a : Option Addr) (m cap : Nat) (A : Nat → Option Addr) (C : Nat → Nat) (L : Nat → List UInt8) (h : Bodies w a m A C L) (fr_ : Int) :
    Calls Try.prog 4 #[.slice a m cap, .int .i64 fr_] w fun e w' => e = .returned (.bool true) ∧ Below w.heap.size w w' := by
  have t1 := Int.tmod_lt_of_pos fr_ (b := 1000000) (by omega)
  have t2 := Int.lt_tmod_of_pos fr_ (b := 1000000) (by omega)
  have hm := h.few
  have HS : Hid (∀ r, r < m → (L r).length ≤ 1048576) := h.short
  by_cases hs : fr_.tmod 1000000 < 0
  · obtain ⟨f, hf⟩ : ∃ f : Nat, -(fr_.tmod 1000000) = (f : Int) := ⟨(-(fr_.tmod 1000000)).toNat, by omega⟩
    have hf6 : f < 1000000 := by omega
    go_enter Try.func4, Try.ntmps4
    go_wp2
    clear hf t1 t2
    go_loopw [6, 7] (fun v i wr => ∃ k : Nat, k ≤ m ∧ i = .int .i64 k ∧ Own wr v (cat f L k) ∧ Below w.heap.size w wr ∧ Hid (∀ r, v.ownBlock = some r → w.heap.size ≤ r)) (fun _ i _ => m - (intOf i).toNat)
    case atStart => exact ⟨0, Nat.zero_le _, rfl, .inl ⟨rfl, rfl⟩, Below.refl _ _, fun r hr => by cases hr⟩
    case round =>
      obtain ⟨k, hk, rfl, ok, Bk, hvk⟩ := hrel
      by_cases hlt : k < m
      · obtain ⟨b, off, rfl, hb, hcell⟩ := h.at_ (by omega)
        have hck : wr.cell? ⟨b, off + k, none⟩ = some (.slice (A k) (L k).length (C k)) := (Bk.cell (p := ⟨b, off + k, none⟩) hb).trans (hcell k hlt)
        have hLk := HS.out k hlt
        go_wp2_with fail
        refine (frame_ok _ _ _ _ _ (L k) wr rfl ((h.each k hlt).grow Bk) ⟨by omega, by omega, by omega, by omega, hLk⟩).mono ?_
        rintro e w1 ⟨v1, rfl, o1, s1⟩
        have B1 := Bk.trans (s1.belowN.mono Bk.size)
        have ok1 := ok.below s1.belowN
        rw [show fr ((k : Int) % 256).toNat ((f : Int) + (k : Int)).toNat (L k) = frK f L k from by unfold frK; rw [show ((k : Int) % 256).toNat = k % 256 by omega, show ((f : Int) + (k : Int)).toNat = f + k by omega]] at o1
        obtain ⟨a1, c1, hv1, hb1⟩ := o1.form
        have hl1 := frK_length f L k
        have hb1' := hb1 (by omega)
        have hsrc := hb1'.src (P := Try.prog) Try.underlying33 c1
        have hcl := cat_le f L m HS.out k hk
        have HL1 : Hid ((frK f L k).length = (L k).length + 15) := hl1
        rw [hl1] at hv1
        subst hv1
        clear s1 o1 hb1 hb1' hl1
        go_wp2_with (at_builtin; refine wpList_append_b _ rfl (.tmp 49) (.tmp 50) rfl _ (cat f L k) rfl ok1 _ (frK f L k) rfl ?src ?len ?next)
        case src => rw [HL1.out] at hsrc; rw [HL1.out]; exact hsrc
        case len => rw [HL1.out]; omega
        case next =>
          intro v2 w2 o2 s2
          have B2 : Below w.heap.size w w2 := B1.trans (s2.below _ B1.size hvk.out)
          have hv2 : Hid (∀ r, v2.ownBlock = some r → w.heap.size ≤ r) := by
            intro r hr
            rcases s2.row with e | ⟨j, e, hj⟩
            · exact hvk.out r (by rw [← e]; exact hr)
            · rw [hr] at e; cases e; exact Nat.le_trans B1.size hj
          go_wp2
          exact ⟨⟨k + 1, by omega, by go_num, o2, B2, hv2⟩, by simp [intOf]; omega⟩
      · have hkm : k = m := by omega
        subst hkm
        have hcl := cat_le f L k HS.out k (Nat.le_refl _)
        obtain ⟨a1, c1, hv1, hb1⟩ := ok.form
        have hcap1 : (cat f L k).length ≤ c1 := by subst hv1; exact ok.cap
        subst hv1
        have hbs : Bs wr a1 (rest f L k 0 k) := by rw [rest_all]; exact hb1 (by omega)
        rw [← rest_all] at hcap1
        rw [show (cat f L k).length = (rest f L k 0 k).length from by rw [rest_all]]
        clear ok hb1 hcl hvk
        go_wp2
        go_loopw [6, 10] (fun v i wq => ∃ j d : Nat, j ≤ k ∧ Hid (j + d = k) ∧ i = .int .i64 j ∧ ∃ a2 c2, v = .slice a2 (rest f L k j d).length c2 ∧ (rest f L k j d).length ≤ c2 ∧ Bs wq a2 (rest f L k j d) ∧ Below w.heap.size w wq) (fun _ i _ => k - (intOf i).toNat)
        case atStart => exact ⟨0, k, Nat.zero_le _, Nat.zero_add k, rfl, a1, c1, rfl, hcap1, hbs, Bk⟩
        case round =>
          obtain ⟨j, d, hj, hjd, rfl, a2, c2, rfl, hcap2, hbs2, B2⟩ := hrel
          by_cases hlt2 : j < k
          · obtain ⟨d', hd'⟩ : ∃ d', d = d' + 1 := ⟨d - 1, by have := hjd.out; omega⟩
            subst hd'
            obtain ⟨b, off, rfl, hb, hcell⟩ := h.at_ (by omega)
            have hLj := HS.out j hlt2
            have HU : Hid (unf (rest f L k j (d' + 1)) = ⟨(j : Int) % 256, (f : Int) + (j : Int), L j, ((L j).length : Int) + 15, 0⟩) := by
              show _ = _
              rw [unf_rest f L k j d' (by omega) hLj]
              simp only [Five.mk.injEq]
              exact ⟨by omega, by omega, trivial, by omega, trivial⟩
            have HR : Hid ((rest f L k j (d' + 1)).length = (L j).length + 15 + (rest f L k (j + 1) d').length) := by
              show _ = _
              rw [rest, List.length_append, frK_length]
            have hbs3 : Hid (Bs wr (if c2 = (L j).length + 15 then a2 else a2.map (·.add ((L j).length + 15))) (rest f L k (j + 1) d')) := by
              rw [rest] at hbs2 hcap2
              exact bs_behind hbs2 (frK_length f L j) hcap2
            have hrl := rest_le f L k HS.out (d' + 1) j (by have := hjd.out; omega)
            have hd20 : d' + 1 ≤ 1048576 := by have := hjd.out; omega
            have hr0 := HR.out
            obtain ⟨N, hN⟩ : ∃ N, (rest f L k j (d' + 1)).length = N := ⟨_, rfl⟩
            rw [hN] at hcap2 hrl hr0 ⊢
            obtain ⟨a3, HA, hsl⟩ : ∃ a3, Hid (a3 = if c2 = (L j).length + 15 then a2 else a2.map (·.add ((L j).length + 15))) ∧ ∀ w, (Instr.slice 33 (.slice a2 N c2) (some (.int .i64 (((L j).length : Int) + 15))) none none).run Try.prog w = .ok (.slice a3 (N - ((L j).length + 15)) (c2 - ((L j).length + 15))) w :=
              ⟨_, rfl, slice_lo a2 N c2 ((L j).length + 15) _ (by omega) (by omega)⟩
            have HNN : Hid ((rest f L k j (d' + 1)).length = N) := hN
            have hge : (L j).length + 15 ≤ N := by omega
            clear hN hr0
            go_wp2_with fail
            refine (unframe_any a2 N c2 _ wr HNN.out.symm hcap2 hbs2).mono ?_
            rintro e w3 ⟨v3, he, o3, s3⟩
            rw [HU.out] at he o3
            subst he
            have L3 := s3.belowN
            have B3 := B2.trans (L3.mono B2.size)
            have hck : w3.cell? ⟨b, off + j, none⟩ = some (.slice (A j) (L j).length (C j)) := (B3.cell (p := ⟨b, off + j, none⟩) hb).trans (hcell j hlt2)
            obtain ⟨a4, c4, hv4, hb4⟩ := o3.form
            have hb4' := hb4 (by show (L j).length ≤ _; omega)
            subst hv4
            have hbj : Bs w3 (A j) (L j) := (h.each j hlt2).grow B3
            have hbs4 : Hid (Bs w3 a3 (rest f L k (j + 1) d')) := by show Bs _ _ _; rw [HA.out]; exact hbs3.out.grow L3
            clear s3 o3 hb4 hbs3 hbs2 L3
            go_wp2_with fail
            refine (same_any _ _ _ _ _ _ (L j) (L j) w3 rfl rfl hb4' hbj).mono ?_
            rintro e w4 ⟨rfl, n4, hw4⟩
            rw [decide_eq_true rfl]
            have B4 : Below w.heap.size w w4 := by rw [hw4]; exact B3.trans ⟨rfl, rfl, rfl, Nat.le_refl _, fun _ _ => rfl⟩
            have hbs5 : Hid (Bs w4 a3 (rest f L k (j + 1) d')) := by show Bs _ _ _; rw [hw4]; exact hbs4.out.drewN n4
            clear hw4 hb4' hbj hbs4
            have hNr : N - ((L j).length + 15) = (rest f L k (j + 1) d').length := by have := HR.out; have := HNN.out; omega
            have HNr : Hid _ := hNr
            clear hNr
            go_wp2
            exact ⟨⟨j + 1, d', by omega, (by show _ = _; have := hjd.out; omega), by go_num, a3, c2 - ((L j).length + 15), by rw [HNr.out], by rw [← HNr.out]; omega, hbs5.out, B4⟩, by simp [intOf]; omega⟩
          · have hd0 : d = 0 := by have := hjd.out; omega
            subst hd0
            rw [show (rest f L k j 0).length = 0 from rfl]
            clear hbs2
            go_wp2_with fail
            refine (known_any wr).mono ?_
            rintro e w4 ⟨rfl, L4⟩
            go_wp2
            go_ret
            exact ⟨rfl, B2.trans (L4.mono B2.size)⟩
  · obtain ⟨f, hf⟩ : ∃ f : Nat, fr_.tmod 1000000 = (f : Int) := ⟨(fr_.tmod 1000000).toNat, by omega⟩
    have hf6 : f < 1000000 := by omega
    go_enter Try.func4, Try.ntmps4
    go_wp2
    clear hf t1 t2
    go_loopw [6, 7] (fun v i wr => ∃ k : Nat, k ≤ m ∧ i = .int .i64 k ∧ Own wr v (cat f L k) ∧ Below w.heap.size w wr ∧ Hid (∀ r, v.ownBlock = some r → w.heap.size ≤ r)) (fun _ i _ => m - (intOf i).toNat)
    case atStart => exact ⟨0, Nat.zero_le _, rfl, .inl ⟨rfl, rfl⟩, Below.refl _ _, fun r hr => by cases hr⟩
    case round =>
      obtain ⟨k, hk, rfl, ok, Bk, hvk⟩ := hrel
      by_cases hlt : k < m
      · obtain ⟨b, off, rfl, hb, hcell⟩ := h.at_ (by omega)
        have hck : wr.cell? ⟨b, off + k, none⟩ = some (.slice (A k) (L k).length (C k)) := (Bk.cell (p := ⟨b, off + k, none⟩) hb).trans (hcell k hlt)
        have hLk := HS.out k hlt
        go_wp2_with fail
        refine (frame_ok _ _ _ _ _ (L k) wr rfl ((h.each k hlt).grow Bk) ⟨by omega, by omega, by omega, by omega, hLk⟩).mono ?_
        rintro e w1 ⟨v1, rfl, o1, s1⟩
        have B1 := Bk.trans (s1.belowN.mono Bk.size)
        have ok1 := ok.below s1.belowN
        rw [show fr ((k : Int) % 256).toNat ((f : Int) + (k : Int)).toNat (L k) = frK f L k from by unfold frK; rw [show ((k : Int) % 256).toNat = k % 256 by omega, show ((f : Int) + (k : Int)).toNat = f + k by omega]] at o1
        obtain ⟨a1, c1, hv1, hb1⟩ := o1.form
        have hl1 := frK_length f L k
        have hb1' := hb1 (by omega)
        have hsrc := hb1'.src (P := Try.prog) Try.underlying33 c1
        have hcl := cat_le f L m HS.out k hk
        have HL1 : Hid ((frK f L k).length = (L k).length + 15) := hl1
        rw [hl1] at hv1
        subst hv1
        clear s1 o1 hb1 hb1' hl1
        go_wp2_with (at_builtin; refine wpList_append_b _ rfl (.tmp 49) (.tmp 50) rfl _ (cat f L k) rfl ok1 _ (frK f L k) rfl ?src ?len ?next)
        case src => rw [HL1.out] at hsrc; rw [HL1.out]; exact hsrc
        case len => rw [HL1.out]; omega
        case next =>
          intro v2 w2 o2 s2
          have B2 : Below w.heap.size w w2 := B1.trans (s2.below _ B1.size hvk.out)
          have hv2 : Hid (∀ r, v2.ownBlock = some r → w.heap.size ≤ r) := by
            intro r hr
            rcases s2.row with e | ⟨j, e, hj⟩
            · exact hvk.out r (by rw [← e]; exact hr)
            · rw [hr] at e; cases e; exact Nat.le_trans B1.size hj
          go_wp2
          exact ⟨⟨k + 1, by omega, by go_num, o2, B2, hv2⟩, by simp [intOf]; omega⟩
      · have hkm : k = m := by omega
        subst hkm
        have hcl := cat_le f L k HS.out k (Nat.le_refl _)
        obtain ⟨a1, c1, hv1, hb1⟩ := ok.form
        have hcap1 : (cat f L k).length ≤ c1 := by subst hv1; exact ok.cap
        subst hv1
        have hbs : Bs wr a1 (rest f L k 0 k) := by rw [rest_all]; exact hb1 (by omega)
        rw [← rest_all] at hcap1
        rw [show (cat f L k).length = (rest f L k 0 k).length from by rw [rest_all]]
        clear ok hb1 hcl hvk
        go_wp2
        go_loopw [6, 10] (fun v i wq => ∃ j d : Nat, j ≤ k ∧ Hid (j + d = k) ∧ i = .int .i64 j ∧ ∃ a2 c2, v = .slice a2 (rest f L k j d).length c2 ∧ (rest f L k j d).length ≤ c2 ∧ Bs wq a2 (rest f L k j d) ∧ Below w.heap.size w wq) (fun _ i _ => k - (intOf i).toNat)
        case atStart => exact ⟨0, k, Nat.zero_le _, Nat.zero_add k, rfl, a1, c1, rfl, hcap1, hbs, Bk⟩
        case round =>
          obtain ⟨j, d, hj, hjd, rfl, a2, c2, rfl, hcap2, hbs2, B2⟩ := hrel
          by_cases hlt2 : j < k
          · obtain ⟨d', hd'⟩ : ∃ d', d = d' + 1 := ⟨d - 1, by have := hjd.out; omega⟩
            subst hd'
            obtain ⟨b, off, rfl, hb, hcell⟩ := h.at_ (by omega)
            have hLj := HS.out j hlt2
            have HU : Hid (unf (rest f L k j (d' + 1)) = ⟨(j : Int) % 256, (f : Int) + (j : Int), L j, ((L j).length : Int) + 15, 0⟩) := by
              show _ = _
              rw [unf_rest f L k j d' (by omega) hLj]
              simp only [Five.mk.injEq]
              exact ⟨by omega, by omega, trivial, by omega, trivial⟩
            have HR : Hid ((rest f L k j (d' + 1)).length = (L j).length + 15 + (rest f L k (j + 1) d').length) := by
              show _ = _
              rw [rest, List.length_append, frK_length]
            have hbs3 : Hid (Bs wr (if c2 = (L j).length + 15 then a2 else a2.map (·.add ((L j).length + 15))) (rest f L k (j + 1) d')) := by
              rw [rest] at hbs2 hcap2
              exact bs_behind hbs2 (frK_length f L j) hcap2
            have hrl := rest_le f L k HS.out (d' + 1) j (by have := hjd.out; omega)
            have hd20 : d' + 1 ≤ 1048576 := by have := hjd.out; omega
            have hr0 := HR.out
            obtain ⟨N, hN⟩ : ∃ N, (rest f L k j (d' + 1)).length = N := ⟨_, rfl⟩
            rw [hN] at hcap2 hrl hr0 ⊢
            obtain ⟨a3, HA, hsl⟩ : ∃ a3, Hid (a3 = if c2 = (L j).length + 15 then a2 else a2.map (·.add ((L j).length + 15))) ∧ ∀ w, (Instr.slice 33 (.slice a2 N c2) (some (.int .i64 (((L j).length : Int) + 15))) none none).run Try.prog w = .ok (.slice a3 (N - ((L j).length + 15)) (c2 - ((L j).length + 15))) w :=
              ⟨_, rfl, slice_lo a2 N c2 ((L j).length + 15) _ (by omega) (by omega)⟩
            have HNN : Hid ((rest f L k j (d' + 1)).length = N) := hN
            have hge : (L j).length + 15 ≤ N := by omega
            clear hN hr0
            go_wp2_with fail
            refine (unframe_any a2 N c2 _ wr HNN.out.symm hcap2 hbs2).mono ?_
            rintro e w3 ⟨v3, he, o3, s3⟩
            rw [HU.out] at he o3
            subst he
            have L3 := s3.belowN
            have B3 := B2.trans (L3.mono B2.size)
            have hck : w3.cell? ⟨b, off + j, none⟩ = some (.slice (A j) (L j).length (C j)) := (B3.cell (p := ⟨b, off + j, none⟩) hb).trans (hcell j hlt2)
            obtain ⟨a4, c4, hv4, hb4⟩ := o3.form
            have hb4' := hb4 (by show (L j).length ≤ _; omega)
            subst hv4
            have hbj : Bs w3 (A j) (L j) := (h.each j hlt2).grow B3
            have hbs4 : Hid (Bs w3 a3 (rest f L k (j + 1) d')) := by show Bs _ _ _; rw [HA.out]; exact hbs3.out.grow L3
            clear s3 o3 hb4 hbs3 hbs2 L3
            go_wp2_with fail
            refine (same_any _ _ _ _ _ _ (L j) (L j) w3 rfl rfl hb4' hbj).mono ?_
            rintro e w4 ⟨rfl, n4, hw4⟩
            rw [decide_eq_true rfl]
            have B4 : Below w.heap.size w w4 := by rw [hw4]; exact B3.trans ⟨rfl, rfl, rfl, Nat.le_refl _, fun _ _ => rfl⟩
            have hbs5 : Hid (Bs w4 a3 (rest f L k (j + 1) d')) := by show Bs _ _ _; rw [hw4]; exact hbs4.out.drewN n4
            clear hw4 hb4' hbj hbs4
            have hNr : N - ((L j).length + 15) = (rest f L k (j + 1) d').length := by have := HR.out; have := HNN.out; omega
            have HNr : Hid _ := hNr
            clear hNr
            go_wp2
            exact ⟨⟨j + 1, d', by omega, (by show _ = _; have := hjd.out; omega), by go_num, a3, c2 - ((L j).length + 15), by rw [HNr.out], by rw [← HNr.out]; omega, hbs5.out, B4⟩, by simp [intOf]; omega⟩
          · have hd0 : d = 0 := by have := hjd.out; omega
            subst hd0
            rw [show (rest f L k j 0).length = 0 from rfl]
            clear hbs2
            go_wp2_with fail
            refine (known_any wr).mono ?_
            rintro e w4 ⟨rfl, L4⟩
            go_wp2
            go_ret
            exact ⟨rfl, B2.trans (L4.mono B2.size)⟩
end Go.Proofs.Ytpbokgeaolpiaab
