/- pick, entry, entries, lives. -/
import Derived.Test.YtdkmlgkljhhokaaLgp
namespace Go.Proofs.Ytdkmlgkljhhokaa
open Go.RowKit

section
variable {w0 w : World} {p : Nat} {M : Lg} {v : Value}
theorem put_any (h : LgR w0 w 72 p M v) (t op : Int) (hlen : M.L.length + 1 ≤ 33554432) : Calls Try.prog 14 #[.pointer (some ⟨p, 0, none⟩), .int .i64 t, .agg (Zm op)] w (PuP w0 w p v (putE M t) (putX M t op 0) (putM M t op 0)) := by
  by_cases hE : putE M t = 0
  · rw [hE]; exact put_yes h t op hE hlen
  · have h1 : putX M t op 0 = ⟨0, 0, 0, 0⟩ := if_neg hE
    have h2 : putM M t op 0 = M := if_neg hE
    rw [h1, h2]
    exact put_no h t op hE
end
def i64 (c : Int) : Prop := -9223372036854775808 ≤ c ∧ c ≤ 9223372036854775807
def posZ (c : Int) : Int := if c < 0 then -(c + 1) else c
def pickZ (c n : Int) : Int := posZ c % n
theorem pickZ_range (c : Int) {n : Int} (hn : 0 < n) : 0 ≤ pickZ c n ∧ pickZ c n < n := by
  exact ⟨Int.emod_nonneg _ (by omega), Int.emod_lt_of_pos _ hn⟩
theorem pick_any (c n : Int) (w : World) (hc : i64 c) (hn : 0 < n ∧ n ≤ 4398046511104) : Calls Try.prog 15 #[.int .i64 c, .int .i64 n] w fun e w' => e = .returned (.int .i64 (pickZ c n)) ∧ w' = w := by
  have HR := hidOf (pickZ_range c hn.1)
  obtain ⟨c1, c2⟩ := hc
  obtain ⟨n1, n2⟩ := hn
  have hn0 : (n == 0) = false := beq_false_of_ne (by omega)
  have hn1 : ¬ n = 0 := by omega
  have hn2 : ¬ n = -1 := by omega
  by_cases h : c < 0
  · have ht : (-(c + 1)).tmod n = -(c + 1) % n := Int.tmod_eq_emod_of_nonneg (by omega)
    have HP : Hid (pickZ c n = -(c + 1) % n) := hidOf (by unfold pickZ posZ; rw [if_pos h])
    rw [HP.out]
    rw [HP.out] at HR
    obtain ⟨r1, r2⟩ := HR.out
    clear HP HR
    go_enter Try.func15, Try.ntmps15
    go_wp2
    go_ret
    exact ⟨by first | rfl | go_num, rfl⟩
  · have ht : c.tmod n = c % n := Int.tmod_eq_emod_of_nonneg (by omega)
    have HP : Hid (pickZ c n = c % n) := hidOf (by unfold pickZ posZ; rw [if_neg h])
    rw [HP.out]
    rw [HP.out] at HR
    obtain ⟨r1, r2⟩ := HR.out
    clear HP HR
    go_enter Try.func15, Try.ntmps15
    go_wp2
    go_ret
    exact ⟨by first | rfl | go_num, rfl⟩
/- entry: are two entries the same? -/
theorem en_q {w0 w : World} {c : List Value} {e : En} (h : EnR w0 w c e) : c.toArray[0]? = some (.int .i64 e.ix) ∧ c.toArray[1]? = some (.int .i64 e.tm) ∧ c.toArray[2]? = some (.int .i64 e.op) ∧ c.toArray[5]? = some (.int .i64 e.id) := by
  have h0 := h.c0
  have h1 := h.c1
  have h2 := h.c2
  have h5 := h.c5
  refine ⟨?_, ?_, ?_, ?_⟩ <;> simpa using by assumption
set_option maxHeartbeats 4000000 in
theorem entry_any (w0 w : World) (c1 c2 : List Value) (e1 e2 : En) (h1 : EnR w0 w c1 e1) (h2 : EnR w0 w c2 e2) : Calls Try.prog 25 #[.agg c1.toArray, .agg c2.toArray] w fun e w' => e = .returned (.bool (decide (e1 = e2))) ∧ Below w.heap.size w w' := by
  obtain ⟨a0, a1, a2, a5⟩ := en_q h1
  obtain ⟨b0, b1, b2, b5⟩ := en_q h2
  clear h1 h2
  generalize c1.toArray = ca at *
  generalize c2.toArray = cb at *
  have HB := hidOf (((below1 w (.cells ca 51))).alloc (by simp) (.cells cb 51))
  obtain ⟨x0, x1, x2, x5⟩ := e1
  obtain ⟨y0, y1, y2, y5⟩ := e2
  dsimp only at *
  by_cases h0 : x0 = y0
  · subst h0
    by_cases h1 : x1 = y1
    · subst h1
      by_cases h2 : x2 = y2
      · subst h2
        by_cases h5 : x5 = y5
        · subst h5
          go_enter Try.func25, Try.ntmps25
          go_wp2
          go_ret
          exact ⟨by simp, HB.out⟩
        · have hb : (x5 == y5) = false := beq_false_of_ne h5
          go_enter Try.func25, Try.ntmps25
          go_wp2
          go_ret
          exact ⟨by simp [h5], HB.out⟩
      · have hb : (x2 == y2) = false := beq_false_of_ne h2
        go_enter Try.func25, Try.ntmps25
        go_wp2
        go_ret
        exact ⟨by simp [h2], HB.out⟩
    · have hb : (x1 == y1) = false := beq_false_of_ne h1
      go_enter Try.func25, Try.ntmps25
      go_wp2
      go_ret
      exact ⟨by simp [h1], HB.out⟩
  · have hb : (x0 == y0) = false := beq_false_of_ne h0
    go_enter Try.func25, Try.ntmps25
    go_wp2
    go_ret
    exact ⟨by simp [h0], HB.out⟩
set_option maxHeartbeats 4000000 in
set_option maxRecDepth 100000 in
theorem entries_any (w0 w : World) (h0 : w0.heap.size ≤ w.heap.size) (v1 v2 : Value) (L1 L2 : List En) (h1 : EsR w0 w v1 L1) (h2 : EsR w0 w v2 L2) (hl : L1.length ≤ 67108864 ∧ L2.length ≤ 67108864) : Calls Try.prog 20 #[v1, v2] w fun e w' => e = .returned (.bool (decide (L1 = L2))) ∧ Below w.heap.size w w' := by
  obtain ⟨a1, k1, rfl⟩ := h1.form
  obtain ⟨a2, k2, rfl⟩ := h2.form
  have H1 := hidOf h1
  have H2 := hidOf h2
  obtain ⟨l1, l2⟩ := hl
  clear h1 h2
  by_cases hn : L1.length = L2.length
  · obtain ⟨n, hn1⟩ : ∃ n, n = L1.length := ⟨_, rfl⟩
    have HN1 : Hid (L1.length = n) := hidOf hn1.symm
    have HN2 : Hid (L2.length = n) := hidOf (hn.symm.trans hn1.symm)
    rw [HN1.out] at H1 l1 ⊢
    rw [HN2.out] at H2 l2 ⊢
    clear hn hn1
    go_enter Try.func20, Try.ntmps20
    go_wp2
    go_loopw [5] (fun i wr => ∃ k : Nat, k ≤ n ∧ i = .int .i64 (k : Int) ∧ Hid (∀ j, j < k → L1[j]? = L2[j]?) ∧ Hid (Below w.heap.size w wr)) (fun i _ => n - (intOf i).toNat)
    case atStart => exact ⟨0, Nat.zero_le _, rfl, hidOf (fun j hj => by omega), hidOf (Below.refl _ _)⟩
    case round =>
      obtain ⟨k, hk, rfl, HS, HB⟩ := hrel
      by_cases hlt : k < n
      · have hltz : (k : Int) < (n : Int) := by omega
        obtain ⟨e1, he1⟩ : ∃ e, L1[k]? = some e := ⟨_, List.getElem?_eq_getElem (by have := HN1.out; omega)⟩
        obtain ⟨e2, he2⟩ : ∃ e, L2[k]? = some e := ⟨_, List.getElem?_eq_getElem (by have := HN2.out; omega)⟩
        obtain ⟨b1, o1, k1', c1, hv1, hb1', _, _, hE1, hR1⟩ := H1.out.at he1
        rw [Value.slice.injEq] at hv1
        obtain ⟨ha1, _, hk1⟩ := hv1
        subst ha1
        subst hk1
        obtain ⟨b2, o2, k2', c2, hv2, hb2', _, _, hE2, hR2⟩ := H2.out.at he2
        rw [Value.slice.injEq] at hv2
        obtain ⟨ha2, _, hk2⟩ := hv2
        subst ha2
        subst hk2
        have hbw := HB.out
        have HE1 : Hid (EnR w0 wr.drew c1 e1) := hidOf (hE1.kp ((Kp.bel h0 hbw).trans (Kp.bel (Nat.le_trans h0 hbw.size) (bdrew wr))))
        have HE2 : Hid (EnR w0 wr.drew c2 e2) := hidOf (hE2.kp ((Kp.bel h0 hbw).trans (Kp.bel (Nat.le_trans h0 hbw.size) (bdrew wr))))
        have HR : Hid ((fun wz : World => wz.rangeAt b1 (o1 + k * 29) c1 ∧ wz.rangeAt b2 (o2 + k * 29) c2) wr.drew) := hidOf ⟨range_of hR1 (hbw.block _ hb1'), range_of hR2 (hbw.block _ hb2')⟩
        have hb1 : b1 < wr.drew.heap.size := Nat.lt_of_lt_of_le hb1' hbw.size
        have hb2 : b2 < wr.drew.heap.size := Nat.lt_of_lt_of_le hb2' hbw.size
        have HEE : Hid (L1[k]? = some e1 ∧ L2[k]? = some e2) := hidOf ⟨he1, he2⟩
        clear hE1 hE2 hR1 hR2 he1 he2 hbw hb1' hb2'
        by_cases hee : e1 = e2
        all_goals
          go_upto_region 6 with (fail)
          refine wp_region_held_drew (S := fun wz : World => wz.rangeAt b1 (o1 + k * 29) c1 ∧ wz.rangeAt b2 (o2 + k * 29) c2) (by kernel_rfl) HR.out (fun hHeld => ?_)
          refine wpAnyH_take (i := 0) (oi := { dst := some 18, op := Op.move (Operand.tmp 0), type := 28, pos := "law.go:48", after := #[], guard := none }) (v := .slice (some ⟨b1, o1, none⟩) n k1) rfl (by kernel_rfl) (by kernel_rfl) (by kernel_rfl) (fun _ _ _ h => h) (Or.inl ⟨by rfl, ?_⟩) hHeld ?_
          · (intro w hSw; (try dsimp only at hSw); go_simp)
          try simp only [Act.put, List.setIfInBounds_toArray, List.set_cons_zero, List.set_cons_succ]
          refine wpAnyH_take (i := 1) (oi := { dst := some 19, op := Op.move (Operand.tmp 5), type := 3, pos := "law.go:48", after := #[], guard := none }) (v := .int .i64 (k : Int)) rfl (by kernel_rfl) (by kernel_rfl) (by kernel_rfl) (fun _ _ _ h => h) (Or.inl ⟨by rfl, ?_⟩) hHeld ?_
          · (intro w hSw; (try dsimp only at hSw); go_simp)
          try simp only [Act.put, List.setIfInBounds_toArray, List.set_cons_zero, List.set_cons_succ]
          refine wpAnyH_take (i := 2) (oi := { dst := some 20, op := Op.indexAddr 28 (Operand.tmp 18) (Operand.tmp 19), type := 0, pos := "law.go:48", after := #[{ on := 0, ground := Ground.data }, { on := 1, ground := Ground.data }], guard := none }) (v := .pointer (some ⟨b1, o1 + k * 29, none⟩)) rfl (by kernel_rfl) (by kernel_rfl) (by kernel_rfl) (fun _ _ _ h => h) (Or.inl ⟨by rfl, ?_⟩) hHeld ?_
          · (intro w hSw; (try dsimp only at hSw); go_simp)
          try simp only [Act.put, List.setIfInBounds_toArray, List.set_cons_zero, List.set_cons_succ]
          refine wpAnyH_take (i := 3) (oi := { dst := some 21, op := Op.load 51 (Operand.tmp 20), type := 51, pos := "law.go:48", after := #[{ on := 2, ground := Ground.data }], guard := none }) (v := .agg c1.toArray) rfl (by kernel_rfl) (by kernel_rfl) (by kernel_rfl) (fun _ _ _ h => h) (yieldsIf_load_mid (by rfl) 51 (.tmp 20) rfl b1 (o1 + k * 29) rfl c1 _ (fun _ h => h.1) Try.underlying51 rfl (en_info HE1.out)) hHeld ?_
          try simp only [Act.put, List.setIfInBounds_toArray, List.set_cons_zero, List.set_cons_succ]
          refine wpAnyH_take (i := 4) (oi := { dst := some 22, op := Op.move (Operand.tmp 1), type := 28, pos := "law.go:48", after := #[], guard := none }) (v := .slice (some ⟨b2, o2, none⟩) n k2) rfl (by kernel_rfl) (by kernel_rfl) (by kernel_rfl) (fun _ _ _ h => h) (Or.inl ⟨by rfl, ?_⟩) hHeld ?_
          · (intro w hSw; (try dsimp only at hSw); go_simp)
          try simp only [Act.put, List.setIfInBounds_toArray, List.set_cons_zero, List.set_cons_succ]
          refine wpAnyH_take (i := 5) (oi := { dst := some 23, op := Op.move (Operand.tmp 5), type := 3, pos := "law.go:48", after := #[], guard := none }) (v := .int .i64 (k : Int)) rfl (by kernel_rfl) (by kernel_rfl) (by kernel_rfl) (fun _ _ _ h => h) (Or.inl ⟨by rfl, ?_⟩) hHeld ?_
          · (intro w hSw; (try dsimp only at hSw); go_simp)
          try simp only [Act.put, List.setIfInBounds_toArray, List.set_cons_zero, List.set_cons_succ]
          refine wpAnyH_take (i := 6) (oi := { dst := some 24, op := Op.indexAddr 28 (Operand.tmp 22) (Operand.tmp 23), type := 0, pos := "law.go:48", after := #[{ on := 4, ground := Ground.data }, { on := 5, ground := Ground.data }], guard := none }) (v := .pointer (some ⟨b2, o2 + k * 29, none⟩)) rfl (by kernel_rfl) (by kernel_rfl) (by kernel_rfl) (fun _ _ _ h => h) (Or.inl ⟨by rfl, ?_⟩) hHeld ?_
          · (intro w hSw; (try dsimp only at hSw); go_simp)
          try simp only [Act.put, List.setIfInBounds_toArray, List.set_cons_zero, List.set_cons_succ]
          refine wpAnyH_take (i := 7) (oi := { dst := some 25, op := Op.load 51 (Operand.tmp 24), type := 51, pos := "law.go:48", after := #[{ on := 6, ground := Ground.data }], guard := none }) (v := .agg c2.toArray) rfl (by kernel_rfl) (by kernel_rfl) (by kernel_rfl) (fun _ _ _ h => h) (yieldsIf_load_mid (by rfl) 51 (.tmp 24) rfl b2 (o2 + k * 29) rfl c2 _ (fun _ h => h.2) Try.underlying51 rfl (en_info HE2.out)) hHeld ?_
          try simp only [Act.put, List.setIfInBounds_toArray, List.set_cons_zero, List.set_cons_succ]
          refine wpAnyH_ready (rs := [8]) (by kernel_rfl) (by simp) ?_
          refine AllReadyH.cons (o := { dst := some 26, op := Op.call { callee := Callee.value (Operand.func 25), args := #[Operand.tmp 21, Operand.tmp 25], argTypes := #[51, 51] }, type := 4, pos := "law.go:48", after := #[{ on := 3, ground := Ground.data }, { on := 7, ground := Ground.data }], guard := none }) rfl (fun K hK => ?_) AllReadyH.nil
          go_simp
          refine (entry_any w0 wr.drew c1 c2 e1 e2 HE1.out HE2.out).mono ?_
          rintro en w3 ⟨rfl, hb3⟩
          have HB3 := hidOf hb3
          have s3 : (fun wz : World => wz.rangeAt b1 (o1 + k * 29) c1 ∧ wz.rangeAt b2 (o2 + k * 29) c2) w3 := ⟨range_of HR.out.1 (hb3.block _ hb1), range_of HR.out.2 (hb3.block _ hb2)⟩
          clear hb3
          refine hK.out _ _ s3 (fun hHeld1 => ?_)
          clear hK K
          try simp only [Act.put, List.setIfInBounds_toArray, List.set_cons_zero, List.set_cons_succ]
          refine wpAnyH_take (i := 9) (oi := { dst := some 6, op := Op.assign (Operand.tmp 26), type := 4, pos := "law.go:48", after := #[{ on := 8, ground := Ground.data }, { on := 8, ground := Ground.chain }, { on := 0, ground := Ground.phase }, { on := 1, ground := Ground.phase }, { on := 2, ground := Ground.phase }, { on := 3, ground := Ground.phase }, { on := 4, ground := Ground.phase }, { on := 5, ground := Ground.phase }, { on := 6, ground := Ground.phase }, { on := 7, ground := Ground.phase }, { on := 8, ground := Ground.phase }], guard := none }) (v := .bool (decide (e1 = e2))) rfl (by kernel_rfl) (by kernel_rfl) (by kernel_rfl) (fun _ _ _ h => h) (Or.inl ⟨by rfl, ?_⟩) hHeld1 ?_
          · (intro w hSw; (try dsimp only at hSw); go_simp)
          try simp only [Act.put, List.setIfInBounds_toArray, List.set_cons_zero, List.set_cons_succ]
          refine wpAnyH_done (by kernel_rfl) ?_ _
        · have HS2 : Hid (∀ j, j < k + 1 → L1[j]? = L2[j]?) := hidOf (fun j hj => by
            by_cases e : j = k
            · rw [e, HEE.out.1, HEE.out.2, hee]
            · exact HS.out j (by omega))
          have hde : decide (e1 = e2) = true := by simp [hee]
          simp only [hde]
          go_wp2
          go_roundw
          case rel => exact ⟨k + 1, by omega, by go_num, HS2, hidOf (HB.out.trans ((bdrew _).mono HB.out.size |>.trans (HB3.out.mono HB.out.size)))⟩
          case measure => simp [intOf]; omega
        · have HNE : Hid (decide (L1 = L2) = false) := hidOf (decide_eq_false (fun e => hee (by have h1 := HEE.out.1; rw [e, HEE.out.2] at h1; exact (Option.some.inj h1).symm)))
          have hde : decide (e1 = e2) = false := by simp [hee]
          simp only [hde]
          go_wp2
          go_ret
          exact ⟨by rw [HNE.out]; rfl, HB.out.trans ((bdrew _).mono HB.out.size |>.trans (HB3.out.mono HB.out.size))⟩
      · have hltz : ¬ (k : Int) < (n : Int) := by omega
        have HEQ : Hid (decide (L1 = L2) = true) := hidOf (decide_eq_true (by
          apply List.ext_getElem?
          intro j
          by_cases hj : j < k
          · exact HS.out j hj
          · rw [List.getElem?_eq_none (by have := HN1.out; omega), List.getElem?_eq_none (by have := HN2.out; omega)]))
        go_wp2
        go_ret
        exact ⟨by rw [HEQ.out]; rfl, HB.out⟩
  · have HNE : Hid (decide (L1 = L2) = false) := hidOf (decide_eq_false (fun e => hn (by rw [e])))
    have hnb : ((L1.length : Int) != (L2.length : Int)) = true := by rw [bne_iff_ne]; omega
    have hnc : ((L1.length : Int) == (L2.length : Int)) = false := beq_false_of_ne (by omega)
    go_enter Try.func20, Try.ntmps20
    go_wp2
    go_ret
    exact ⟨by rw [HNE.out]; rfl, Below.refl _ _⟩
end Go.Proofs.Ytdkmlgkljhhokaa
