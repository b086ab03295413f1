/- AgentObeys walked. -/
import Derived.Test.YtkienmncifonnaaDoorOq
namespace Go.Proofs.YtkienmncifonnaaDoor
open Go.RowKit Go.Maps
/- the message's box; a list of two lists -/
def BxM (w : World) (m : Nat) (X : Array Value) : Prop := w.heap[m]? = some (.cells X 51 (0, 0)) ∧ X.size = 46
theorem OwR.keepO {lo ty s : Nat} {α : Type} {f : α → Array Value} {w w' : World} {v : Value} {R : List α} (h : OwR lo ty s f w v R) (hk : ∀ k cur, v.ownBlock = some k → w.heap[k]? = some (.cells cur ty (0, 0)) → w'.heap[k]? = w.heap[k]?) : OwR lo ty s f w' v R := by
  refine ⟨h.1, ?_⟩
  rcases h.2 with h2 | ⟨g, cap, cur, rfl, h3, h4, h5⟩
  · exact .inl h2
  · exact .inr ⟨g, cap, cur, rfl, h3, (hk g cur rfl h4).trans h4, h5⟩
theorem OwR.frA {D lo ty s : Nat} {α : Type} {f : α → Array Value} {w w' : World} {v : Value} {R : List α} (h : OwR lo ty s f w v R) (hf : FrA D w w') (ht : ¬ (ty = 5 ∨ ty = 9 ∨ ty = 38 ∨ ty = 77 ∨ ty = 82 ∨ ty = 132)) : OwR lo ty s f w' v R := h.keepO (fun k cur _ hc => (by
  rw [hc]
  exact hf.cells hc ht))
theorem OwR.upd {lo ty s : Nat} {α : Type} {f : α → Array Value} {w w' : World} {v : Value} {R : List α} {m : Nat} {cs : Array Value} {t : Nat} (h : OwR lo ty s f w v R) (u : Upd w w' m) (hm : w.heap[m]? = some (.cells cs t (0, 0))) (ht : ty ≠ t) : OwR lo ty s f w' v R := h.keepO (fun k cur _ hc => u.block k (heap_lt hc) (fun e => (by rw [e, hm] at hc; cases hc; exact ht rfl)))
theorem RdR.lo {D D' ty s : Nat} {α : Type} {f : α → Array Value} {w : World} {a : Option Addr} {L : List α} (h : RdR D ty s f w a L) (hD : D' ≤ D) (hw : D = D') : RdR D' ty s f w a L := by subst hw; exact h
theorem yieldsIf_row {P : Program} {ops : Array Oper} {S : World → Prop} {op : Oper} {a : Act} (hw : Region.wanted op (yielded ops a.tmps) = true) (ty : TypeId) (x : Operand) (ho : op.op = .load ty x)
    (g : Nat) (hx : a.eval x = .pointer (some ⟨g, 0, none⟩)) (t : TypeId) (cs : Array Value) (fr : Nat × Nat) (d : TypeDesc) (hS : ∀ w, S w → w.heap[g]? = some (.cells cs t fr))
    (hu : P.underlying ty = some d) (hd : (match d with | .struct _ | .array _ _ => true | _ => false) = true) (hi : (P.info? ty).map (·.size) = some cs.size) : YieldsIf P ops S op (.agg cs) a :=
  .inl ⟨hw, fun w hw' => by
    unfold execOp
    simp only [ho, hx, Instr.loadAt, Instr.sureAddr, Sem.run_bind, Sem.run_pure, Result.andThen_ok, run_loadVar_row w g t ty cs fr d (hS w hw') hu hd hi]⟩
theorem spI_len (L : List Al) : (spI L).length ≤ L.length := by
  unfold spI
  rw [List.length_map]
  exact List.length_filter_le _ _
theorem pw_at {R : List Al} (h : R.Pairwise (fun x y => x.id < y.id)) : ∀ (a b : Nat) (x y : Al), a < b → R[a]? = some x → R[b]? = some y → x.id < y.id := by
  intro a b x y hab hx hy
  obtain ⟨ha, rfl⟩ := List.getElem?_eq_some_iff.1 hx
  obtain ⟨hb, rfl⟩ := List.getElem?_eq_some_iff.1 hy
  exact List.pairwise_iff_getElem.1 h a b ha hb hab
theorem RdR.top {D ty s : Nat} {α : Type} {f : α → Array Value} {w : World} {a : Option Addr} {L : List α} (h : RdR D ty s f w a L) : RdR w.heap.size ty s f w a L := fun hne => by
  obtain ⟨b, off, h1, h2, _, h3⟩ := h hne
  exact ⟨b, off, h1, h2, .inl h2, h3⟩
theorem OwR.rdE {D : Nat} {w : World} {a : Option Addr} {k : Nat} {E : List Int} (h : OwR D 3 1 iC w (.slice a E.length k) E) : RdR w.heap.size 3 1 iC w a E := by
  obtain ⟨va, vc, hv, hrd⟩ := h.rd (D := D) iC_size
  cases hv
  exact hrd.top
theorem if3 : IfR 3 1 8 := IfR.of (z := .int .i64 0) (by kernel_rfl) rfl
theorem i_one (x : Int) : ∀ u ∈ (iC x).toList, u.oneCell' = true := by
  intro u hu
  simp [iC] at hu
  subst hu; rfl
def TdL (w : World) (b : Nat) (v1 v2 : Value) : Prop := w.heap[b]? = some (.cells #[v1, v2] 43 (0, 0))
set_option maxHeartbeats 40000000 in
set_option maxRecDepth 100000 in
theorem obeysLaw (w : World) (la lb : Option Addr) (lc ld : Nat) (A B : List Al) (hA : RdR w.heap.size 67 11 alC w la A) (hB : RdR w.heap.size 67 11 alC w lb B) (hAl : A.length ≤ 1048576) (hBl : B.length ≤ 1048576)
    (hAw : ∀ x ∈ A, wf64 x.id) (hBw : ∀ x ∈ B, wf64 x.id) (ht : Tb w.heap.size w) :
    Calls Tryd.prog 4 #[.slice la A.length lc, .slice lb B.length ld] w fun e w' => e = .returned (.bool true) ∧ Below w.heap.size w w' := by
  obtain ⟨D, hD⟩ : ∃ D, D = w.heap.size := ⟨_, rfl⟩
  rw [← hD] at ht
  have HD : Hid (D ≤ w.heap.size ∧ w.heap.size ≤ D) := hidOf ⟨Nat.le_of_eq hD, Nat.le_of_eq hD.symm⟩
  have HT := hidOf ht
  have HI3 := hidOf if3
  have HA0 := hidOf hA
  have HB0 := hidOf hB
  have HAW := hidOf hAw
  have HBW := hidOf hBw
  clear hD ht hA hB hAw hBw
  go_enter Tryd.func4, Tryd.ntmps4
  go_upto_region 5 with (first | (refine wpList_buildE rfl 30 #[(0, .const (.int .i64 2))] rfl [(0, .int .i64 2)] (by kernel_rfl) (ndC 2 0 0 0 0 0) built30n ?_) | (go_at_call 6; go_must (refine (newB _).mono ?_; rintro e w1 ⟨rfl, F, hk, hb, hF⟩; have HK := hidOf hk; have HB1 := hidOf hb; have HFF := hidOf hF; clear hk hb hF)) | (go_at_call 5; go_must (refine (start_any (D := D) 1 (by omega) 0 0 [] F HK.out (fun k hk => Nat.le_trans HD.out.1 (HFF.out k hk)) (Nat.le_trans HD.out.1 HB1.out.size) (HT.out.below (HB1.out.mono HD.out.1)) (by decide) (by decide)).mono ?_; rintro e w2 ⟨p, rfl, ha, hf⟩; have HA2 : Hid (AgS D w2 p z0 1048576 1) := hidOf (AgS.moreN (show AgS D w2 p z0 0 1 from ha) (Nat.zero_le _)); have HF2 : Hid (Below D w w2) := hidOf (((FrA.of_below HB1.out).trans hf).below HD.out.1); clear ha hf)))
  obtain ⟨bm, hbm⟩ : ∃ y, y = w2.heap.size := ⟨_, rfl⟩
  obtain ⟨w3, hw3⟩ : ∃ y, y = w2.alloc (.cells #[.int .i64 0, .int .i64 0, .int .i64 0, .int .i64 0, .int .i64 0, .int .i64 0, .int .i64 0, .bool false, .int .i64 0, .int .i64 0, .int .i64 0, .int .i64 0, .slice none 0 0, .slice none 0 0, .slice none 0 0, .slice none 0 0, .int .i64 0, .int .i64 0, .int .i64 0, .int .i64 0, .int .i64 0, .int .i64 0, .int .i64 0, .slice none 0 0, .int .i64 0, .bool false, .int .i64 0, .int .i64 0, .int .i64 0, .bool false, .bool false, .int .i64 0, .int .i64 0, .int .i64 0, .slice none 0 0, .int .i64 0, .int .i64 0, .int .i64 0, .slice none 0 0, .slice none 0 0, .bool false, .slice none 0 0, .slice none 0 0, .int .i64 0, .int .i64 0, .slice none 0 0] 51) := ⟨_, rfl⟩
  have HM3 : Hid (BxM w3 bm #[.int .i64 0, .int .i64 0, .int .i64 0, .int .i64 0, .int .i64 0, .int .i64 0, .int .i64 0, .bool false, .int .i64 0, .int .i64 0, .int .i64 0, .int .i64 0, .slice none 0 0, .slice none 0 0, .slice none 0 0, .slice none 0 0, .int .i64 0, .int .i64 0, .int .i64 0, .int .i64 0, .int .i64 0, .int .i64 0, .int .i64 0, .slice none 0 0, .int .i64 0, .bool false, .int .i64 0, .int .i64 0, .int .i64 0, .bool false, .bool false, .int .i64 0, .int .i64 0, .int .i64 0, .slice none 0 0, .int .i64 0, .int .i64 0, .int .i64 0, .slice none 0 0, .slice none 0 0, .bool false, .slice none 0 0, .slice none 0 0, .int .i64 0, .int .i64 0, .slice none 0 0]) := hidOf ⟨by rw [hw3, hbm]; exact heap_alloc_new w2 _, rfl⟩
  have HA3 : Hid (AgS D w3 p z0 1048576 1) := hidOf (by rw [hw3]; exact HA2.out.keepA (.below (below1 w2 _)))
  have HW3 : Hid (Below D w w3) := hidOf (by rw [hw3]; exact HF2.out.trans ((below1 w2 _).mono (Nat.le_trans HD.out.1 HF2.out.size)))
  have HDM : Hid (D ≤ bm) := hidOf (by rw [hbm]; exact Nat.le_trans HD.out.1 HF2.out.size)
  rw [← hw3, ← hbm]
  clear hw3 hbm HA2 HF2
  go_wp2
  go_loopw [8] (fun i wr => ∃ (k c : Nat) (X : Array Value), k ≤ 3 ∧ c ≤ 1 + k ∧ i = .int .i64 (k : Int) ∧ Hid (AgS D wr p (tkn k z0) 1048576 c) ∧ Hid (Below D w wr) ∧ Hid (BxM wr bm X) ∧ Hid (k = 3 → X = X0)) (fun i _ => 3 - (intOf i).toNat)
  case atStart => exact ⟨0, 1, _, by omega, by omega, rfl, HA3, HW3, HM3, hidOf (fun h => by cases h)⟩
  case round =>
    obtain ⟨k, c, X, hk, hc, rfl, HA3, HW, HM, HX⟩ := hrel
    by_cases hlt : k < 3
    · have hltz : (k : Int) < 3 := by omega
      have HE := hidOf (zK_e hlt)
      have HSB := hidOf (zK_B (Nat.le_of_lt hlt))
      have HTB := hidOf (zK_b hlt)
      by_cases h2 : k = 2
      · have HK2 := hidOf h2
        clear h2
        go_wp2_with (first | (go_at_call 8; go_must (refine (tick_any (B := 100) HA3.out (HT.out.below HW.out) HSB.out (by decide) (by omega) (by decide)).mono ?_; rintro e w5 ⟨v5, he, hv, ha, hf⟩; rw [HE.out] at he; subst he; have hv := (show ∃ X b, MgX (tcS (tkn k z0)) X ∧ v5 = .slice (some ⟨b, 0, none⟩) 1 1 ∧ _ ≤ b ∧ w5.heap[b]? = some (.cells X 51 (0, 0)) from (by unfold TnV at hv; rw [if_pos (by rw [HTB.out]; simp [HK2.out])] at hv; exact hv)); obtain ⟨Xm, b, hx, hv, _, hm⟩ := hv; have hx := zK_m (X := Xm) (by rw [HK2.out] at hx; exact hx); subst hx; subst hv; have HMM := hidOf hm; have hb5 : b < w5.heap.size := heap_lt hm; have HM5 : Hid (w5.heap[bm]? = some (.cells X 51 (0, 0))) := hidOf (hf.cells HM.out.1 (by decide)); have HA5 : Hid (AgS D w5 p (tkn (k + 1) z0) 1048576 (c + 1)) := hidOf ha; have HW5 : Hid (Below D w w5) := hidOf (HW.out.trans (hf.below (Nat.le_trans HD.out.1 HW.out.size))); clear ha hf hm)) | (refine wpList_load_row rfl 51 (.tmp 50) rfl b rfl 51 X0 (0, 0) _ HMM.out Tryd.underlying51 rfl info51 ?_) | (refine wpList_store_row rfl 51 (.tmp 7) (.tmp 51) rfl bm X0 rfl rfl 51 X HM5.out info51 HM.out.2 (mg_all ..) ?_; obtain ⟨w6, hw6⟩ : ∃ y, y = w5.setRow bm X0 := ⟨_, rfl⟩; have hu : Upd w5 w6 bm := (by rw [hw6]; exact Upd.row w5 bm _); have HM6 : Hid (BxM w6 bm X0) := hidOf ⟨(by rw [hw6]; exact setRow_at HM5.out), rfl⟩; have HA6 := hidOf (HA5.out.keepA (hu.keepA HM5.out (no51 _))); have HW6 : Hid (Below D w w6) := hidOf (by rw [hw6]; exact setRow_below HW5.out HDM.out); rw [← hw6]; clear hw6 hu))
        go_roundw
        case rel => exact ⟨k + 1, c + 1, X0, by omega, by omega, by go_num, HA6, HW6, HM6, hidOf (fun _ => rfl)⟩
        case measure => simp [intOf]; omega
      · have HK2 := hidOf h2
        clear h2
        go_wp2_with ((go_at_call 8; go_must (refine (tick_any (B := 100) HA3.out (HT.out.below HW.out) HSB.out (by decide) (by omega) (by decide)).mono ?_; rintro e w5 ⟨v5, he, hv, ha, hf⟩; rw [HE.out] at he; subst he; have hv : v5 = nilS := (by unfold TnV at hv; rw [if_neg (by rw [HTB.out]; simp [HK2.out])] at hv; exact hv); subst hv; have HM5 : Hid (BxM w5 bm X) := hidOf ⟨hf.cells HM.out.1 (by decide), HM.out.2⟩; have HA5 : Hid (AgS D w5 p (tkn (k + 1) z0) 1048576 (c + 1)) := hidOf ha; have HW5 : Hid (Below D w w5) := hidOf (HW.out.trans (hf.below (Nat.le_trans HD.out.1 HW.out.size))); clear ha hf)))
        go_roundw
        case rel => exact ⟨k + 1, c + 1, X, by omega, by omega, by go_num, HA5, HW5, HM5, hidOf (fun h => by have := HK2.out; omega)⟩
        case measure => simp [intOf]; omega
    · obtain rfl : k = 3 := by omega
      have hltz : ¬ (3 : Int) < 3 := by omega
      obtain ⟨wo, hwo⟩ : ∃ y, y = wr := ⟨_, rfl⟩
      subst hwo
      obtain rfl : X = X0 := HX.out rfl
      go_upto_region 12 with (first | (refine wpList_load_row rfl 51 (.tmp 7) rfl bm rfl 51 X0 (0, 0) _ HM.out.1 Tryd.underlying51 rfl info51 ?_) | (refine wpList_buildE rfl 53 #[(4, .const (.int .i64 5))] rfl [(4, .int .i64 5)] (by kernel_rfl) (dzC 5 nilS) (built53a 5) ?_) | (go_at_call 11; go_must (refine (answer_any 9 102 1 1 5 2 0 0 1 0 0 none 0 0 (dzC 5 nilS) 0 0 5 none 0 0 (dzR 5 none 0 0)).mono ?_; rintro e w6 ⟨rfl, hb⟩; have HA6 := hidOf (HA3.out.keepA (.below hb)); have HW6 : Hid (Below D w w6) := hidOf (HW.out.trans (hb.mono (Nat.le_trans HD.out.1 HW.out.size))); have HM6 : Hid (BxM w6 bm X0) := hidOf ⟨(hb.block _ (heap_lt HM.out.1)).trans HM.out.1, HM.out.2⟩; clear hb)) | (go_at_call 13; go_must (refine (takeM_any _ zm 1048576 HA6.out (anR 10 1 102 1 0 5 2 0 0 1 0 0 none 0 0 0 5 none [] 0) (fun h => absurd rfl h) (HT.out.below HW6.out) (tkB_of (zK_B (Nat.le_refl 3)) (by decide) (by kernel_rfl) (by omega) (by decide) (fun x hx => (by cases hx)) ⟨Nat.le_refl _, Nat.zero_le _⟩)).mono ?_; rintro e w7 ⟨rfl, ha, hf⟩; have HA7 : Hid (AgS D w7 p (oS 0 tk0) 1048576 (c + 1)) := hidOf (zK_t ▸ ha); have HW7 : Hid (Below D w w7) := hidOf (HW6.out.trans (hf.below (Nat.le_trans HD.out.1 HW6.out.size))); have HM7 : Hid (BxM w7 bm X0) := hidOf ⟨hf.cells HM6.out.1 (by decide), HM6.out.2⟩; clear ha hf)))
      obtain ⟨bt, hbt⟩ : ∃ y, y = w7.heap.size := ⟨_, rfl⟩
      obtain ⟨w8, hw8⟩ : ∃ y, y = w7.alloc (.cells #[.slice la A.length lc, .slice lb B.length ld] 43) := ⟨_, rfl⟩
      have HTd : Hid (TdL w8 bt (.slice la A.length lc) (.slice lb B.length ld)) := hidOf (by rw [hw8, hbt]; exact heap_alloc_new w7 _)
      have HA8 := hidOf (HA7.out.keepA (.below (below1 w7 (.cells #[.slice la A.length lc, .slice lb B.length ld] 43))))
      have HM8 : Hid (BxM w8 bm X0) := hidOf ⟨by rw [hw8]; exact ((below1 w7 _).block _ (heap_lt HM7.out.1)).trans HM7.out.1, HM7.out.2⟩
      have HW8 : Hid (Below D w w8) := hidOf (by rw [hw8]; exact HW7.out.trans ((below1 w7 _).mono (Nat.le_trans HD.out.1 HW7.out.size)))
      rw [← hw8] at HA8
      have HDT : Hid (D ≤ bt) := hidOf (by rw [hbt]; exact Nat.le_trans HD.out.1 HW7.out.size)
      go_wp2
      rw [← hw8, ← hbt]
      clear hw8 hbt HA7 HM7 HW7 HA6 HM6 HW6 HA3 HM
      go_loopw [12, 13] (fun o i wr => ∃ (n c : Nat) (T : TM) (E : List Int) (X : Array Value), n ≤ 2 ∧ c ≤ 10 + 10 * n ∧ i = .int .i64 (n : Int) ∧ Hid (AgS D wr p (oS n T) 1048576 c) ∧ Hid (Below D w wr) ∧ Hid (BxM wr bm X) ∧ Hid (TdL wr bt (.slice la A.length lc) (.slice lb B.length ld)) ∧ Hid (OwR D 3 1 iC wr o E) ∧ Hid (PO T E) ∧ E.length ≤ 1048576 * n) (fun _ i _ => 2 - (intOf i).toNat)
      case atStart => exact ⟨0, c + 1, tk0, [], X0, by omega, by omega, rfl, HA8, HW8, HM8, HTd, hidOf OwR.nil, hidOf PO.zero, by simp⟩
      case round =>
        obtain ⟨n, c, T, E, X, hn, hc, rfl, HA, HW, HM, HTd, HEn, HPO, hE⟩ := hrel
        by_cases hlt : n < 2
        · have hltz : (n : Int) < 2 := by omega
          obtain ⟨ev, ek, hev, _⟩ := HEn.out.slice
          subst hev
          have HN2 := hidOf hlt
          have hsel : ∃ (l : Option Addr) (L : List Al) (kk : Nat), RdR w.heap.size 67 11 alC w l L ∧ L.length ≤ 1048576 ∧ (∀ x ∈ L, wf64 x.id) ∧ ∀ Y : World, TdL Y bt (.slice la A.length lc) (.slice lb B.length ld) → Y.cell? ⟨bt, n, none⟩ = some (.slice l L.length kk) := by
            rcases c2 hlt with rfl | rfl
            · exact ⟨la, A, lc, HA0.out, hAl, HAW.out, fun Y h => (cell_of_row _ _ 0 _ 43 (0, 0) h).trans rfl⟩
            · exact ⟨lb, B, ld, HB0.out, hBl, HBW.out, fun Y h => (cell_of_row _ _ 1 _ 43 (0, 0) h).trans rfl⟩
          obtain ⟨l, L, kk, hL, hLL, hLW, hTC⟩ := hsel
          have HL := hidOf hL
          have HLL := hidOf hLL
          have HLW := hidOf hLW
          have HTC0 := hidOf hTC
          clear hL hLW hTC hlt
          go_wp2
          go_loopw [14] (fun i wr => ∃ (k c : Nat) (X : Array Value), k ≤ 3 ∧ c ≤ 10 + 10 * n + k ∧ i = .int .i64 (k : Int) ∧ Hid (AgS D wr p (oK n k T) 1048576 c) ∧ Hid (Below D w wr) ∧ Hid (BxM wr bm X) ∧ Hid (k = 3 → ∃ a l k', X = mgC 9 102 1 ((n : Int) + 1) 6 2 0 0 0 5 ((n : Int) + 1) (.slice a l k')) ∧ Hid (TdL wr bt (.slice la A.length lc) (.slice lb B.length ld)) ∧ Hid (OwR D 3 1 iC wr (.slice ev E.length ek) E)) (fun i _ => 3 - (intOf i).toNat)
          case atStart => exact ⟨0, c, X, by omega, by omega, rfl, HA, HW, HM, hidOf (fun h => by cases h), HTd, HEn⟩
          case round =>
            obtain ⟨k, c, X, hk, hc, rfl, HA3, HW, HM, HX, HTd, HEn⟩ := hrel
            by_cases hlt : k < 3
            · have hltz : (k : Int) < 3 := by omega
              have HE := hidOf (oK_e T HN2.out hlt)
              have HSB := hidOf (oK_B HPO.out.ok HN2.out (Nat.le_of_lt hlt))
              have HTB := hidOf (oK_b T HN2.out hlt)
              by_cases h2 : k = 2
              · have HK2 := hidOf h2
                clear h2
                go_wp2_with (first | (go_at_call 8; go_must (refine (tick_any (B := 100) HA3.out (HT.out.below HW.out) HSB.out (by decide) (by omega) (by decide)).mono ?_; rintro e w5 ⟨v5, he, hv, ha, hf⟩; rw [HE.out] at he; subst he; have hv := (show ∃ X b, MgX (tcS (oK n k T)) X ∧ v5 = .slice (some ⟨b, 0, none⟩) 1 1 ∧ _ ≤ b ∧ w5.heap[b]? = some (.cells X 51 (0, 0)) from (by unfold TnV at hv; rw [if_pos (by rw [HTB.out]; simp [HK2.out])] at hv; exact hv)); obtain ⟨Xm, b, hx, hv, _, hm⟩ := hv; have hx := oK_m (X := Xm) HN2.out (by rw [HK2.out] at hx; exact hx); obtain ⟨ra, rl, rk, hx⟩ := hx; subst hx; subst hv; have HMM := hidOf hm; have hb5 : b < w5.heap.size := heap_lt hm; have HM5 : Hid (w5.heap[bm]? = some (.cells X 51 (0, 0))) := hidOf (hf.cells HM.out.1 (by decide)); have HA5 : Hid (AgS D w5 p (oK n (k + 1) T) 1048576 (c + 1)) := hidOf ha; have HW5 : Hid (Below D w w5) := hidOf (HW.out.trans (hf.below (Nat.le_trans HD.out.1 HW.out.size))); have HTd5 : Hid (TdL w5 bt (.slice la A.length lc) (.slice lb B.length ld)) := hidOf (hf.cells HTd.out (by decide)); have HE5 := hidOf (HEn.out.frA hf (by decide)); clear ha hf hm)) | (refine wpList_load_row rfl 51 (.tmp 77) rfl b rfl 51 (mgC 9 102 1 ((n : Int) + 1) 6 2 0 0 0 5 ((n : Int) + 1) (.slice ra rl rk)) (0, 0) _ HMM.out Tryd.underlying51 rfl info51 ?_) | (refine wpList_store_row rfl 51 (.tmp 7) (.tmp 78) rfl bm (mgC 9 102 1 ((n : Int) + 1) 6 2 0 0 0 5 ((n : Int) + 1) (.slice ra rl rk)) rfl rfl 51 X HM5.out info51 HM.out.2 (mg_all ..) ?_; obtain ⟨w6, hw6⟩ : ∃ y, y = w5.setRow bm (mgC 9 102 1 ((n : Int) + 1) 6 2 0 0 0 5 ((n : Int) + 1) (.slice ra rl rk)) := ⟨_, rfl⟩; have hu : Upd w5 w6 bm := (by rw [hw6]; exact Upd.row w5 bm _); have HM6 : Hid (BxM w6 bm (mgC 9 102 1 ((n : Int) + 1) 6 2 0 0 0 5 ((n : Int) + 1) (.slice ra rl rk))) := hidOf ⟨(by rw [hw6]; exact setRow_at HM5.out), rfl⟩; have HA6 := hidOf (HA5.out.keepA (hu.keepA HM5.out (no51 _))); have HW6 : Hid (Below D w w6) := hidOf (by rw [hw6]; exact setRow_below HW5.out HDM.out); have HTd6 : Hid (TdL w6 bt (.slice la A.length lc) (.slice lb B.length ld)) := hidOf ((hu.block _ (heap_lt HTd5.out) (fun e => (by have h1 := HTd5.out; unfold TdL at h1; rw [e, HM5.out] at h1; cases h1))).trans HTd5.out); have HE6 := hidOf (HE5.out.upd hu HM5.out (by decide)); rw [← hw6]; clear hw6 hu))
                go_roundw
                case rel => exact ⟨k + 1, c + 1, _, by omega, by omega, by go_num, HA6, HW6, HM6, hidOf (fun _ => ⟨ra, rl, rk, rfl⟩), HTd6, HE6⟩
                case measure => simp [intOf]; omega
              · have HK2 := hidOf h2
                clear h2
                go_wp2_with ((go_at_call 8; go_must (refine (tick_any (B := 100) HA3.out (HT.out.below HW.out) HSB.out (by decide) (by omega) (by decide)).mono ?_; rintro e w5 ⟨v5, he, hv, ha, hf⟩; rw [HE.out] at he; subst he; have hv : v5 = nilS := (by unfold TnV at hv; rw [if_neg (by rw [HTB.out]; simp [HK2.out])] at hv; exact hv); subst hv; have HM5 : Hid (BxM w5 bm X) := hidOf ⟨hf.cells HM.out.1 (by decide), HM.out.2⟩; have HA5 : Hid (AgS D w5 p (oK n (k + 1) T) 1048576 (c + 1)) := hidOf ha; have HW5 : Hid (Below D w w5) := hidOf (HW.out.trans (hf.below (Nat.le_trans HD.out.1 HW.out.size))); have HTd5 : Hid (TdL w5 bt (.slice la A.length lc) (.slice lb B.length ld)) := hidOf (hf.cells HTd.out (by decide)); have HE5 := hidOf (HEn.out.frA hf (by decide)); clear ha hf)))
                go_roundw
                case rel => exact ⟨k + 1, c + 1, X, by omega, by omega, by go_num, HA5, HW5, HM5, hidOf (fun h => by have := HK2.out; omega), HTd5, HE5⟩
                case measure => simp [intOf]; omega
            · obtain rfl : k = 3 := by omega
              have hltz : ¬ (3 : Int) < 3 := by omega
              obtain ⟨wq, hwq⟩ : ∃ y, y = wr := ⟨_, rfl⟩
              subst hwq
              obtain ⟨ra, rl, rk, hx⟩ := HX.out rfl
              subst hx
              have hbt : bt < wq.heap.size := heap_lt HTd.out
              have hn2 := HN2.out
              have hn2z : (n : Int) < 2 := by omega
              have HTC : Hid (∀ Y : World, TdL Y bt (.slice la A.length lc) (.slice lb B.length ld) → Y.cell? ⟨bt, n, none⟩ = some (.slice l L.length kk)) := HTC0
              have HAd : Hid (AgS D wq.drew p (oK n 3 T) 1048576 c) := hidOf (HA3.out.keepA (.below ⟨rfl, rfl, rfl, Nat.le_refl _, fun _ _ => rfl⟩))
              have HWd : Hid (Below D w wq.drew) := hidOf HW.out.drew
              have HMd : Hid (wq.drew.heap[bm]? = some (.cells (mgC 9 102 1 ((n : Int) + 1) 6 2 0 0 0 5 ((n : Int) + 1) (.slice ra rl rk)) 51 (0, 0))) := hidOf HM.out.1
              have HTdd : Hid (TdL wq.drew bt (.slice la A.length lc) (.slice lb B.length ld)) := hidOf HTd.out
              have HEd : Hid (OwR D 3 1 iC wq.drew (.slice ev E.length ek) E) := hidOf (HEn.out.grow ⟨rfl, rfl, rfl, Nat.le_refl _, fun _ _ => rfl⟩)
              go_upto_region 23 with (fail)
              refine wp_region_held_drew (S := fun Y : World => Y.heap[bm]? = some (.cells (mgC 9 102 1 ((n : Int) + 1) 6 2 0 0 0 5 ((n : Int) + 1) (.slice ra rl rk)) 51 (0, 0)) ∧ Y.cell? ⟨bt, n, none⟩ = some (.slice l L.length kk)) (by kernel_rfl) ⟨HMd.out, HTC.out _ HTdd.out⟩ (fun hHeld => ?_)
              refine wpAnyH_take (i := 0) (oi := { dst := some 79, op := Op.move (Operand.tmp 5), type := 23, pos := "law.go:323", after := #[], guard := none }) (v := .pointer (some ⟨p, 0, none⟩)) rfl (by kernel_rfl) (by kernel_rfl) (by kernel_rfl) (fun _ _ _ h => h) (Or.inl ⟨by rfl, ?_⟩) hHeld ?_
              · (intro w hSw; (try dsimp only at hSw); go_simp)
              try simp only [Act.put, List.setIfInBounds_toArray, List.set_cons_zero, List.set_cons_succ]
              refine wpAnyH_take (i := 1) (oi := { dst := some 80, op := Op.load 51 (Operand.tmp 7), type := 51, pos := "law.go:323", after := #[], guard := none }) (v := .agg (mgC 9 102 1 ((n : Int) + 1) 6 2 0 0 0 5 ((n : Int) + 1) (.slice ra rl rk))) rfl (by kernel_rfl) (by kernel_rfl) (by kernel_rfl) (fun _ _ _ h => h) (yieldsIf_row (by rfl) 51 (.tmp 7) rfl bm rfl 51 (mgC 9 102 1 ((n : Int) + 1) 6 2 0 0 0 5 ((n : Int) + 1) (.slice ra rl rk)) (0, 0) _ (fun _ h => h.1) Tryd.underlying51 rfl info51) hHeld ?_
              try simp only [Act.put, List.setIfInBounds_toArray, List.set_cons_zero, List.set_cons_succ]
              refine wpAnyH_take (i := 2) (oi := { dst := some 81, op := Op.move (Operand.tmp 11), type := 65, pos := "law.go:323", after := #[], guard := none }) (v := .slice (some ⟨bt, 0, none⟩) 2 2) rfl (by kernel_rfl) (by kernel_rfl) (by kernel_rfl) (fun _ _ _ h => h) (Or.inl ⟨by rfl, ?_⟩) hHeld ?_
              · (intro w hSw; (try dsimp only at hSw); go_simp)
              try simp only [Act.put, List.setIfInBounds_toArray, List.set_cons_zero, List.set_cons_succ]
              refine wpAnyH_take (i := 3) (oi := { dst := some 82, op := Op.move (Operand.tmp 13), type := 3, pos := "law.go:323", after := #[], guard := none }) (v := .int .i64 (n : Int)) rfl (by kernel_rfl) (by kernel_rfl) (by kernel_rfl) (fun _ _ _ h => h) (Or.inl ⟨by rfl, ?_⟩) hHeld ?_
              · (intro w hSw; (try dsimp only at hSw); go_simp)
              try simp only [Act.put, List.setIfInBounds_toArray, List.set_cons_zero, List.set_cons_succ]
              refine wpAnyH_take (i := 4) (oi := { dst := some 83, op := Op.indexAddr 65 (Operand.tmp 81) (Operand.tmp 82), type := 0, pos := "law.go:323", after := #[{ on := 2, ground := Ground.data }, { on := 3, ground := Ground.data }], guard := none }) (v := .pointer (some ⟨bt, n, none⟩)) rfl (by kernel_rfl) (by kernel_rfl) (by kernel_rfl) (fun _ _ _ h => h) (Or.inl ⟨by rfl, ?_⟩) hHeld ?_
              · (intro w hSw; (try dsimp only at hSw); go_simp)
              try simp only [Act.put, List.setIfInBounds_toArray, List.set_cons_zero, List.set_cons_succ]
              refine wpAnyH_take (i := 5) (oi := { dst := some 84, op := Op.load 43 (Operand.tmp 83), type := 43, pos := "law.go:323", after := #[{ on := 4, ground := Ground.data }], guard := none }) (v := .slice l L.length kk) rfl (by kernel_rfl) (by kernel_rfl) (by kernel_rfl) (fun _ _ _ h => h) (Or.inl ⟨by rfl, ?_⟩) hHeld ?_
              · (intro w hSw; (try dsimp only at hSw); go_simp)
              try simp only [Act.put, List.setIfInBounds_toArray, List.set_cons_zero, List.set_cons_succ]
              refine wpAnyH_take (i := 6) (oi := { dst := some 85, op := Op.build 53 #[(4, Operand.const (Value.int IntKind.i64 5)), (5, Operand.tmp 84)], type := 53, pos := "law.go:323", after := #[{ on := 5, ground := Ground.data }], guard := none }) (v := .agg (dzC 5 (.slice l L.length kk))) rfl (by kernel_rfl) (by kernel_rfl) (by kernel_rfl) (fun _ _ _ h => h) (yieldsIf_build (by rfl) 53 #[(4, .const (.int .i64 5)), (5, .tmp 84)] rfl [(4, .int .i64 5), (5, .slice l L.length kk)] (by kernel_rfl) _ (built53b _ _ _ _)) hHeld ?_
              try simp only [Act.put, List.setIfInBounds_toArray, List.set_cons_zero, List.set_cons_succ]
              refine wpAnyH_ready (rs := [7]) (by kernel_rfl) (by simp) ?_
              refine AllReadyH.cons (o := { dst := some 86, op := Op.call { callee := Callee.value (Operand.func 11), args := #[Operand.tmp 80, Operand.tmp 85], argTypes := #[51, 53] }, type := 51, pos := "law.go:323", after := #[{ on := 1, ground := Ground.data }, { on := 6, ground := Ground.data }], guard := none }) rfl (fun K hK => ?_) AllReadyH.nil
              go_simp
              refine (answer_any 9 102 1 ((n : Int) + 1) 6 2 0 0 0 5 ((n : Int) + 1) ra rl rk (dzC 5 (.slice l L.length kk)) 0 0 5 l L.length kk (dzR ..)).mono ?_
              rintro e w9 ⟨rfl, hb⟩
              have HA9 := hidOf (HAd.out.keepA (.below hb))
              have HW9 : Hid (Below D w w9) := hidOf (HWd.out.trans (hb.mono (Nat.le_trans HD.out.1 HWd.out.size)))
              have HM9 : Hid (w9.heap[bm]? = some (.cells (mgC 9 102 1 ((n : Int) + 1) 6 2 0 0 0 5 ((n : Int) + 1) (.slice ra rl rk)) 51 (0, 0))) := hidOf ((hb.block _ (heap_lt HMd.out)).trans HMd.out)
              have HTd9 : Hid (TdL w9 bt (.slice la A.length lc) (.slice lb B.length ld)) := hidOf ((hb.block _ (heap_lt HTdd.out)).trans HTdd.out)
              have HE9 := hidOf (HEd.out.grow hb)
              have HL9 : Hid (RdR w.heap.size 67 11 alC w9 l L) := hidOf (HL.out.grow (HW9.out.mono HD.out.2))
              clear hb
              refine hK.out _ _ ⟨HM9.out, HTC.out _ HTd9.out⟩ (fun hHeld1 => ?_)
              clear hK K
              try simp only [Act.put, List.setIfInBounds_toArray, List.set_cons_zero, List.set_cons_succ]
              refine wpAnyH_ready (rs := [8]) (by kernel_rfl) (by simp) ?_
              refine AllReadyH.cons (o := { dst := some 87, op := Op.call { callee := Callee.value (Operand.func 13), args := #[Operand.tmp 79, Operand.tmp 86], argTypes := #[23, 51] }, type := 24, pos := "law.go:323", after := #[{ on := 0, ground := Ground.data }, { on := 7, ground := Ground.data }, { on := 7, ground := Ground.chain }], guard := none }) rfl (fun K hK => ?_) AllReadyH.nil
              go_simp
              refine (takeM_any _ (mO n l L kk) 1048576 HA9.out (anR 10 1 102 ((n : Int) + 1) 0 6 2 0 0 0 5 ((n : Int) + 1) ra rl rk 0 5 l L kk) (HL9.out.lo HD.out.1 (Nat.le_antisymm HD.out.2 HD.out.1)) (HT.out.below HW9.out) (tkB_of (oK_B HPO.out.ok HN2.out (Nat.le_refl 3)) (by decide) (oK_k T HN2.out l L kk) (by omega) (show L.length ≤ 1099511627776 by omega) HLW.out ⟨Nat.le_refl _, HLL.out⟩)).mono ?_
              rintro e w10 ⟨he, ha, hf⟩
              have HA10 : Hid (AgS D w10 p (oS (n + 1) (runT T 2 5 L)) 1048576 (c + 1)) := hidOf (oK_t T HN2.out l L kk ▸ ha)
              have HW10 : Hid (Below D w w10) := hidOf (HW9.out.trans (hf.below (Nat.le_trans HD.out.1 HW9.out.size)))
              have HM10 : Hid (w10.heap[bm]? = some (.cells (mgC 9 102 1 ((n : Int) + 1) 6 2 0 0 0 5 ((n : Int) + 1) (.slice ra rl rk)) 51 (0, 0))) := hidOf (hf.cells HM9.out (by decide))
              have HTd10 : Hid (TdL w10 bt (.slice la A.length lc) (.slice lb B.length ld)) := hidOf (hf.cells HTd9.out (by decide))
              have HE10 := hidOf (HE9.out.frA hf (by decide))
              have HL10 : Hid (RdR w.heap.size 67 11 alC w10 l L) := hidOf (HL.out.grow (HW10.out.mono HD.out.2))
              subst he
              clear ha hf
              refine hK.out _ _ ⟨HM10.out, HTC.out _ HTd10.out⟩ (fun hHeld2 => ?_)
              clear hK K
              try simp only [Act.put, List.setIfInBounds_toArray, List.set_cons_zero, List.set_cons_succ]
              refine wpAnyH_done (by kernel_rfl) ?_ _
              go_wp2_with (go_at_call 10; go_must (refine (running_any HA10.out (by decide) (HPO.out.run L HLW.out).ok).mono ?_; rintro e w11 ⟨v11, K, rfl, hk, ho, hb, hkl⟩; have HA11 := hidOf (HA10.out.keepA (.below hb)); have HW11 : Hid (Below D w w11) := hidOf (HW10.out.trans (hb.mono (Nat.le_trans HD.out.1 HW10.out.size))); have HM11 : Hid (w11.heap[bm]? = some (.cells (mgC 9 102 1 ((n : Int) + 1) 6 2 0 0 0 5 ((n : Int) + 1) (.slice ra rl rk)) 51 (0, 0))) := hidOf ((hb.block _ (heap_lt HM10.out)).trans HM10.out); have HTd11 : Hid (TdL w11 bt (.slice la A.length lc) (.slice lb B.length ld)) := hidOf ((hb.block _ (heap_lt HTd10.out)).trans HTd10.out); have HE11 := hidOf (HE10.out.grow hb); have HK11 := hidOf hk; obtain ⟨R, hR⟩ : ∃ R, R = runL (runT T 2 5 L) K := ⟨_, rfl⟩; have ho : OwR w10.heap.size 67 11 alC w11 v11 R := (by rw [hR]; exact ho); obtain ⟨va, vc, hv, hrd⟩ := ho.rd (D := w.heap.size) alC_size; subst hv; have HRD := hidOf hrd; have HRI : Hid (∀ y ∈ R, y.nd = 2 ∧ y.ep = 5 ∧ ∃ x ∈ L, x.id = y.id) := hidOf (fun y hy => run_in HPO.out HK11.out (by rw [hR] at hy; exact hy)); have HRO : Hid (∀ (a b : Nat) (x y : Al), a < b → R[a]? = some x → R[b]? = some y → x.id < y.id) := hidOf (by rw [hR]; exact pw_at (runL_ord HK11.out (HPO.out.run L HLW.out).ok)); have HOB : Hid (Oby R L E) := hidOf (by rw [hR]; exact oby_of HPO.out HK11.out); have hrl : R.length ≤ 1048576 := (by rw [hR]; exact Nat.le_trans (runL_len _ _) hkl); clear hk ho hb hrd hR))
              go_loopw [18] (fun q wr => ∃ i : Nat, i ≤ R.length ∧ q = .int .i64 (i : Int) ∧ Hid (Below w11.heap.size w11 wr)) (fun q _ => R.length - (intOf q).toNat)
              case atStart => exact ⟨0, Nat.zero_le _, rfl, hidOf (Below.refl _ _)⟩
              case round =>
                obtain ⟨i, hi, rfl, HBo⟩ := hrel
                obtain ⟨wo, hwo⟩ : ∃ y, y = wr := ⟨_, rfl⟩
                subst hwo
                by_cases hit : i < R.length
                · have hiz : (i : Int) < (R.length : Int) := by omega
                  obtain ⟨x, hx⟩ : ∃ x, R[i]? = some x := ⟨_, List.getElem?_eq_getElem hit⟩
                  obtain ⟨rb, ro, hva, hbl, x0, x1, x2, x3, x4, x5, x6, x7, x8, x9, x10⟩ := al_at (HRD.out.grow HBo.out) hx
                  subst hva
                  have hin := HRI.out x (List.mem_of_getElem? hx)
                  have e1b : (x.nd != 2) = false := by simp [hin.1]
                  have e2b : (x.ep != 5) = false := by simp [hin.2.1]
                  have HXI := hidOf hin.2.2
                  clear hin
                  have HXb : Hid (((wo.alloc (.cells #[.int .i64 x.id, .int .i64 x.jb, .int .i64 x.vr, .int .i64 x.gp, .int .i64 x.ix, .int .i64 x.nd, .int .i64 x.ep, .int .i64 x.c1, .int .i64 x.c2, .bool x.sp, .int .i64 x.st] 67)).drew).heap[wo.heap.size]? = some (.cells (alC x) 67 (0, 0))) := hidOf (heap_alloc_new wo _)
                  have HBb : Hid (Below w11.heap.size w11 ((wo.alloc (.cells #[.int .i64 x.id, .int .i64 x.jb, .int .i64 x.vr, .int .i64 x.gp, .int .i64 x.ix, .int .i64 x.nd, .int .i64 x.ep, .int .i64 x.c1, .int .i64 x.c2, .bool x.sp, .int .i64 x.st] 67)).drew)) := hidOf ((HBo.out.trans ((below1 wo _).mono HBo.out.size)).drew)
                  by_cases h0 : i = 0
                  · have hng : ¬ (0 : Int) < (i : Int) := by omega
                    have HI0 := hidOf h0
                    clear hx h0
                    go_upto_region 29 with (fail)
                    refine wp_region_held_drew (S := fun (Y : World) => Y.cell? ⟨wo.heap.size, 5, none⟩ = some (.int .i64 x.nd) ∧ Y.cell? ⟨wo.heap.size, 6, none⟩ = some (.int .i64 x.ep)) (by kernel_rfl) ⟨(cell_of_row _ _ 5 _ 67 (0, 0) HXb.out).trans rfl, (cell_of_row _ _ 6 _ 67 (0, 0) HXb.out).trans rfl⟩ (fun hHeld => ?_)
                    refine wpAnyH_take (i := 0) (oi := { dst := some 100, op := Op.fieldAddr 67 (Operand.tmp 19) 5, type := 0, pos := "law.go:327", after := #[], guard := none }) (v := .pointer (some ⟨wo.heap.size, 5, none⟩)) rfl (by kernel_rfl) (by kernel_rfl) (by kernel_rfl) (fun _ _ _ h => h) (Or.inl ⟨by rfl, ?_⟩) hHeld ?_
                    · (intro w hSw; (try dsimp only at hSw); go_simp)
                    try simp only [Act.put, List.setIfInBounds_toArray, List.set_cons_zero, List.set_cons_succ]
                    refine wpAnyH_take (i := 1) (oi := { dst := some 101, op := Op.load 3 (Operand.tmp 100), type := 3, pos := "law.go:327", after := #[{ on := 0, ground := Ground.data }], guard := none }) (v := .int .i64 x.nd) rfl (by kernel_rfl) (by kernel_rfl) (by kernel_rfl) (fun _ _ _ h => h) (Or.inl ⟨by rfl, ?_⟩) hHeld ?_
                    · (intro w hSw; (try dsimp only at hSw); go_simp)
                    try simp only [Act.put, List.setIfInBounds_toArray, List.set_cons_zero, List.set_cons_succ]
                    refine wpAnyH_take (i := 2) (oi := { dst := some 102, op := Op.binOp BinOp.neq 3 (Operand.tmp 101) (Operand.const (Value.int IntKind.i64 2)) 3, type := 4, pos := "law.go:327", after := #[{ on := 1, ground := Ground.data }], guard := none }) (v := .bool false) rfl (by kernel_rfl) (by kernel_rfl) (by kernel_rfl) (fun _ _ _ h => h) (Or.inl ⟨by rfl, ?_⟩) hHeld ?_
                    · (intro w hSw; (try dsimp only at hSw); go_simp)
                    try simp only [Act.put, List.setIfInBounds_toArray, List.set_cons_zero, List.set_cons_succ]
                    refine wpAnyH_take (i := 3) (oi := { dst := some 103, op := Op.move (Operand.tmp 102), type := 4, pos := "law.go:327", after := #[{ on := 2, ground := Ground.data }], guard := none }) (v := .bool false) rfl (by kernel_rfl) (by kernel_rfl) (by kernel_rfl) (fun _ _ _ h => h) (Or.inl ⟨by rfl, ?_⟩) hHeld ?_
                    · (intro w hSw; (try dsimp only at hSw); go_simp)
                    try simp only [Act.put, List.setIfInBounds_toArray, List.set_cons_zero, List.set_cons_succ]
                    refine wpAnyH_take (i := 4) (oi := { dst := some 104, op := Op.fieldAddr 67 (Operand.tmp 19) 6, type := 0, pos := "law.go:327", after := #[{ on := 3, ground := Ground.guard }], guard := some (3, false) }) (v := .pointer (some ⟨wo.heap.size, 6, none⟩)) rfl (by kernel_rfl) (by kernel_rfl) (by kernel_rfl) (fun _ _ _ h => h) (Or.inl ⟨by rfl, ?_⟩) hHeld ?_
                    · (intro w hSw; (try dsimp only at hSw); go_simp)
                    try simp only [Act.put, List.setIfInBounds_toArray, List.set_cons_zero, List.set_cons_succ]
                    refine wpAnyH_take (i := 5) (oi := { dst := some 105, op := Op.load 3 (Operand.tmp 104), type := 3, pos := "law.go:327", after := #[{ on := 4, ground := Ground.data }, { on := 3, ground := Ground.guard }], guard := some (3, false) }) (v := .int .i64 x.ep) rfl (by kernel_rfl) (by kernel_rfl) (by kernel_rfl) (fun _ _ _ h => h) (Or.inl ⟨by rfl, ?_⟩) hHeld ?_
                    · (intro w hSw; (try dsimp only at hSw); go_simp)
                    try simp only [Act.put, List.setIfInBounds_toArray, List.set_cons_zero, List.set_cons_succ]
                    refine wpAnyH_take (i := 6) (oi := { dst := some 106, op := Op.binOp BinOp.neq 3 (Operand.tmp 105) (Operand.const (Value.int IntKind.i64 5)) 3, type := 4, pos := "law.go:327", after := #[{ on := 5, ground := Ground.data }, { on := 3, ground := Ground.guard }], guard := some (3, false) }) (v := .bool false) rfl (by kernel_rfl) (by kernel_rfl) (by kernel_rfl) (fun _ _ _ h => h) (Or.inl ⟨by rfl, ?_⟩) hHeld ?_
                    · (intro w hSw; (try dsimp only at hSw); go_simp)
                    try simp only [Act.put, List.setIfInBounds_toArray, List.set_cons_zero, List.set_cons_succ]
                    refine wpAnyH_take (i := 7) (oi := { dst := some 107, op := Op.pick (Operand.tmp 103) (Operand.const (Value.bool true)) (Operand.tmp 106), type := 4, pos := "law.go:327", after := #[{ on := 3, ground := Ground.data }, { on := 6, ground := Ground.data }], guard := none }) (v := .bool false) rfl (by kernel_rfl) (by kernel_rfl) (by kernel_rfl) (fun _ _ _ h => h) (Or.inl ⟨by rfl, ?_⟩) hHeld ?_
                    · (intro w hSw; (try dsimp only at hSw); go_simp)
                    try simp only [Act.put, List.setIfInBounds_toArray, List.set_cons_zero, List.set_cons_succ]
                    refine wpAnyH_take (i := 8) (oi := { dst := some 108, op := Op.move (Operand.tmp 107), type := 4, pos := "law.go:327", after := #[{ on := 7, ground := Ground.data }, { on := 3, ground := Ground.chain }], guard := none }) (v := .bool false) rfl (by kernel_rfl) (by kernel_rfl) (by kernel_rfl) (fun _ _ _ h => h) (Or.inl ⟨by rfl, ?_⟩) hHeld ?_
                    · (intro w hSw; (try dsimp only at hSw); go_simp)
                    try simp only [Act.put, List.setIfInBounds_toArray, List.set_cons_zero, List.set_cons_succ]
                    refine wpAnyH_take (i := 9) (oi := { dst := some 109, op := Op.move (Operand.tmp 18), type := 3, pos := "law.go:327", after := #[{ on := 8, ground := Ground.guard }], guard := some (8, false) }) (v := .int .i64 (i : Int)) rfl (by kernel_rfl) (by kernel_rfl) (by kernel_rfl) (fun _ _ _ h => h) (Or.inl ⟨by rfl, ?_⟩) hHeld ?_
                    · (intro w hSw; (try dsimp only at hSw); go_simp)
                    try simp only [Act.put, List.setIfInBounds_toArray, List.set_cons_zero, List.set_cons_succ]
                    refine wpAnyH_take (i := 10) (oi := { dst := some 110, op := Op.binOp BinOp.gtr 3 (Operand.tmp 109) (Operand.const (Value.int IntKind.i64 0)) 3, type := 4, pos := "law.go:327", after := #[{ on := 9, ground := Ground.data }, { on := 8, ground := Ground.guard }], guard := some (8, false) }) (v := .bool false) rfl (by kernel_rfl) (by kernel_rfl) (by kernel_rfl) (fun _ _ _ h => h) (Or.inl ⟨by rfl, ?_⟩) hHeld ?_
                    · (intro w hSw; (try dsimp only at hSw); go_simp; exact HI0.out)
                    try simp only [Act.put, List.setIfInBounds_toArray, List.set_cons_zero, List.set_cons_succ]
                    refine wpAnyH_take (i := 11) (oi := { dst := some 111, op := Op.move (Operand.tmp 110), type := 4, pos := "law.go:327", after := #[{ on := 10, ground := Ground.data }, { on := 8, ground := Ground.chain }, { on := 8, ground := Ground.guard }], guard := some (8, false) }) (v := .bool false) rfl (by kernel_rfl) (by kernel_rfl) (by kernel_rfl) (fun _ _ _ h => h) (Or.inl ⟨by rfl, ?_⟩) hHeld ?_
                    · (intro w hSw; (try dsimp only at hSw); go_simp)
                    try simp only [Act.put, List.setIfInBounds_toArray, List.set_cons_zero, List.set_cons_succ]
                    refine wpAnyH_take (i := 12) (oi := { dst := some 112, op := Op.move (Operand.tmp 17), type := 43, pos := "law.go:327", after := #[{ on := 11, ground := Ground.guard }], guard := some (11, true) }) (v := undef) rfl (by kernel_rfl) (by kernel_rfl) (by kernel_rfl) (fun _ _ _ h => h) (Or.inr ⟨by rfl, rfl⟩) hHeld ?_
                    try simp only [Act.put, List.setIfInBounds_toArray, List.set_cons_zero, List.set_cons_succ]
                    refine wpAnyH_take (i := 13) (oi := { dst := some 113, op := Op.move (Operand.tmp 18), type := 3, pos := "law.go:327", after := #[{ on := 11, ground := Ground.guard }], guard := some (11, true) }) (v := undef) rfl (by kernel_rfl) (by kernel_rfl) (by kernel_rfl) (fun _ _ _ h => h) (Or.inr ⟨by rfl, rfl⟩) hHeld ?_
                    try simp only [Act.put, List.setIfInBounds_toArray, List.set_cons_zero, List.set_cons_succ]
                    refine wpAnyH_take (i := 14) (oi := { dst := some 114, op := Op.binOp BinOp.sub 3 (Operand.tmp 113) (Operand.const (Value.int IntKind.i64 1)) 3, type := 3, pos := "law.go:327", after := #[{ on := 13, ground := Ground.data }, { on := 11, ground := Ground.guard }], guard := some (11, true) }) (v := undef) rfl (by kernel_rfl) (by kernel_rfl) (by kernel_rfl) (fun _ _ _ h => h) (Or.inr ⟨by rfl, rfl⟩) hHeld ?_
                    try simp only [Act.put, List.setIfInBounds_toArray, List.set_cons_zero, List.set_cons_succ]
                    refine wpAnyH_take (i := 15) (oi := { dst := some 115, op := Op.indexAddr 43 (Operand.tmp 112) (Operand.tmp 114), type := 0, pos := "law.go:327", after := #[{ on := 12, ground := Ground.data }, { on := 14, ground := Ground.data }, { on := 11, ground := Ground.guard }], guard := some (11, true) }) (v := undef) rfl (by kernel_rfl) (by kernel_rfl) (by kernel_rfl) (fun _ _ _ h => h) (Or.inr ⟨by rfl, rfl⟩) hHeld ?_
                    try simp only [Act.put, List.setIfInBounds_toArray, List.set_cons_zero, List.set_cons_succ]
                    refine wpAnyH_take (i := 16) (oi := { dst := some 116, op := Op.fieldAddr 67 (Operand.tmp 115) 0, type := 0, pos := "law.go:327", after := #[{ on := 15, ground := Ground.data }, { on := 11, ground := Ground.guard }], guard := some (11, true) }) (v := undef) rfl (by kernel_rfl) (by kernel_rfl) (by kernel_rfl) (fun _ _ _ h => h) (Or.inr ⟨by rfl, rfl⟩) hHeld ?_
                    try simp only [Act.put, List.setIfInBounds_toArray, List.set_cons_zero, List.set_cons_succ]
                    refine wpAnyH_take (i := 17) (oi := { dst := some 117, op := Op.load 3 (Operand.tmp 116), type := 3, pos := "law.go:327", after := #[{ on := 16, ground := Ground.data }, { on := 11, ground := Ground.guard }], guard := some (11, true) }) (v := undef) rfl (by kernel_rfl) (by kernel_rfl) (by kernel_rfl) (fun _ _ _ h => h) (Or.inr ⟨by rfl, rfl⟩) hHeld ?_
                    try simp only [Act.put, List.setIfInBounds_toArray, List.set_cons_zero, List.set_cons_succ]
                    refine wpAnyH_take (i := 18) (oi := { dst := some 118, op := Op.fieldAddr 67 (Operand.tmp 19) 0, type := 0, pos := "law.go:327", after := #[{ on := 11, ground := Ground.guard }], guard := some (11, true) }) (v := undef) rfl (by kernel_rfl) (by kernel_rfl) (by kernel_rfl) (fun _ _ _ h => h) (Or.inr ⟨by rfl, rfl⟩) hHeld ?_
                    try simp only [Act.put, List.setIfInBounds_toArray, List.set_cons_zero, List.set_cons_succ]
                    refine wpAnyH_take (i := 19) (oi := { dst := some 119, op := Op.load 3 (Operand.tmp 118), type := 3, pos := "law.go:327", after := #[{ on := 18, ground := Ground.data }, { on := 11, ground := Ground.guard }], guard := some (11, true) }) (v := undef) rfl (by kernel_rfl) (by kernel_rfl) (by kernel_rfl) (fun _ _ _ h => h) (Or.inr ⟨by rfl, rfl⟩) hHeld ?_
                    try simp only [Act.put, List.setIfInBounds_toArray, List.set_cons_zero, List.set_cons_succ]
                    refine wpAnyH_take (i := 20) (oi := { dst := some 120, op := Op.binOp BinOp.geq 3 (Operand.tmp 117) (Operand.tmp 119) 3, type := 4, pos := "law.go:327", after := #[{ on := 17, ground := Ground.data }, { on := 19, ground := Ground.data }, { on := 11, ground := Ground.guard }], guard := some (11, true) }) (v := undef) rfl (by kernel_rfl) (by kernel_rfl) (by kernel_rfl) (fun _ _ _ h => h) (Or.inr ⟨by rfl, rfl⟩) hHeld ?_
                    try simp only [Act.put, List.setIfInBounds_toArray, List.set_cons_zero, List.set_cons_succ]
                    refine wpAnyH_take (i := 21) (oi := { dst := some 121, op := Op.pick (Operand.tmp 111) (Operand.tmp 120) (Operand.const (Value.bool false)), type := 4, pos := "law.go:327", after := #[{ on := 11, ground := Ground.data }, { on := 20, ground := Ground.data }, { on := 8, ground := Ground.guard }], guard := some (8, false) }) (v := .bool false) rfl (by kernel_rfl) (by kernel_rfl) (by kernel_rfl) (fun _ _ _ h => h) (Or.inl ⟨by rfl, ?_⟩) hHeld ?_
                    · (intro w hSw; (try dsimp only at hSw); go_simp)
                    try simp only [Act.put, List.setIfInBounds_toArray, List.set_cons_zero, List.set_cons_succ]
                    refine wpAnyH_take (i := 22) (oi := { dst := some 122, op := Op.pick (Operand.tmp 108) (Operand.const (Value.bool true)) (Operand.tmp 121), type := 4, pos := "law.go:327", after := #[{ on := 8, ground := Ground.data }, { on := 21, ground := Ground.data }], guard := none }) (v := .bool false) rfl (by kernel_rfl) (by kernel_rfl) (by kernel_rfl) (fun _ _ _ h => h) (Or.inl ⟨by rfl, ?_⟩) hHeld ?_
                    · (intro w hSw; (try dsimp only at hSw); go_simp)
                    try simp only [Act.put, List.setIfInBounds_toArray, List.set_cons_zero, List.set_cons_succ]
                    refine wpAnyH_done (by kernel_rfl) ?_ _
                    go_wp2
                    go_loopw [20, 21] (fun o i wr => ∃ (j : Nat) (t : Bool), j ≤ L.length ∧ i = .int .i64 (j : Int) ∧ o = .bool t ∧ Hid (t = true ↔ ∃ y ∈ L.take j, y.id = x.id) ∧ Hid (Below w11.heap.size w11 wr) ∧ Hid (wr.heap[wo.heap.size]? = some (.cells (alC x) 67 (0, 0)))) (fun _ i _ => L.length - (intOf i).toNat)
                    case atStart => exact ⟨0, false, Nat.zero_le _, rfl, rfl, hidOf (by simp), HBb, HXb⟩
                    case round =>
                      obtain ⟨j, t, hj, rfl, rfl, HT2, HBz, HXz⟩ := hrel
                      obtain ⟨wz, hwz⟩ : ∃ y, y = wr := ⟨_, rfl⟩
                      subst hwz
                      have HWz : Hid (Below D w wz) := hidOf (HW11.out.trans (HBz.out.mono (Nat.le_trans HD.out.1 HW11.out.size)))
                      have HTz : Hid (TdL wz bt (.slice la A.length lc) (.slice lb B.length ld)) := hidOf ((HBz.out.block _ (heap_lt HTd11.out)).trans HTd11.out)
                      by_cases hjt : j < L.length
                      · have hjz : (j : Int) < (L.length : Int) := by omega
                        obtain ⟨y, hy⟩ : ∃ y, L[j]? = some y := ⟨_, List.getElem?_eq_getElem hjt⟩
                        obtain ⟨b2, off2, e2, hb2, y0, _⟩ := al_at (HL.out.grow (HWz.out.mono HD.out.2)) hy
                        subst e2
                        have bx0 : wz.cell? ⟨wo.heap.size, 0, none⟩ = some (.int .i64 x.id) := (cell_of_row _ _ 0 _ 67 (0, 0) HXz.out).trans rfl
                        have lbx : wo.heap.size < wz.heap.size := heap_lt HXz.out
                        have ct : wz.cell? ⟨bt, n, none⟩ = some (.slice (some ⟨b2, off2, none⟩) L.length kk) := HTC.out _ HTz.out
                        have lbt : bt < wz.heap.size := heap_lt HTz.out
                        have HY := hidOf hy
                        clear hy
                        cases t with
                        | true =>
                          go_wp2
                          go_region
                          all_goals
                            go_wp2
                            go_roundw
                            case rel => exact ⟨j + 1, true, by omega, by go_num, rfl, hidOf (rn_step (t := true) HY.out (by simpa using HT2.out) (by simp)), hidOf HBz.out.drew, hidOf HXz.out⟩
                            case measure => simp [intOf]; omega
                        | false =>
                          by_cases e3 : y.id = x.id
                          · have e3b : (y.id == x.id) = true := by simp [e3]
                            have HE3 := hidOf e3
                            clear e3
                            go_wp2
                            go_region
                            all_goals
                              go_wp2
                              go_roundw
                              case rel => exact ⟨j + 1, true, by omega, by go_num, rfl, hidOf (rn_step HY.out HT2.out (by simp [HE3.out])), hidOf HBz.out.drew, hidOf HXz.out⟩
                              case measure => simp [intOf]; omega
                          · have e3b : (y.id == x.id) = false := by simp [e3]
                            have HE3 := hidOf e3
                            clear e3
                            go_wp2
                            go_region
                            all_goals
                              go_wp2
                              go_roundw
                              case rel => exact ⟨j + 1, false, by omega, by go_num, rfl, hidOf (rn_step HY.out HT2.out (by simp [HE3.out])), hidOf HBz.out.drew, hidOf HXz.out⟩
                              case measure => simp [intOf]; omega
                      · obtain rfl : j = L.length := by omega
                        have hjz : ¬ (L.length : Int) < (L.length : Int) := by omega
                        have ct : wz.cell? ⟨bt, n, none⟩ = some (.slice l L.length kk) := HTC.out _ HTz.out
                        have lbt : bt < wz.heap.size := heap_lt HTz.out
                        obtain rfl : t = true := HT2.out.2 (by rw [List.take_length]; exact HXI.out)
                        clear HT2
                        go_wp2
                        go_roundw
                        case rel => exact ⟨i + 1, by omega, by go_num, HBz⟩
                        case measure => simp [intOf]; omega
                  · obtain ⟨j0, hj0⟩ : ∃ j0, j0 + 1 = i := ⟨i - 1, by omega⟩
                    obtain ⟨y, hy⟩ : ∃ y, R[j0]? = some y := ⟨_, List.getElem?_eq_getElem (by omega)⟩
                    have hyx : y.id < x.id := HRO.out j0 i y x (by omega) hy hx
                    obtain ⟨b3, off3, e3, hb3, z0, _⟩ := al_at (HRD.out.grow HBb.out) hy
                    cases e3
                    have hwr : IntKind.i64.wrap ((i : Int) - 1) = (j0 : Int) := by rw [IntWalk.i64_in _ (by omega)]; omega
                    have hgt : (0 : Int) < (i : Int) := by omega
                    have hjl : (j0 : Int) < (R.length : Int) := by omega
                    have hgn : 0 < i := by omega
                    have hle : ¬ x.id ≤ y.id := by omega
                    have HJ := hidOf hj0
                    clear hx hy hj0 hyx h0
                    go_upto_region 29 with (fail)
                    refine wp_region_held_drew (S := fun (Y : World) => Y.cell? ⟨wo.heap.size, 5, none⟩ = some (.int .i64 x.nd) ∧ Y.cell? ⟨wo.heap.size, 6, none⟩ = some (.int .i64 x.ep) ∧ Y.cell? ⟨rb, ro + j0 * 11, none⟩ = some (.int .i64 y.id) ∧ Y.cell? ⟨wo.heap.size, 0, none⟩ = some (.int .i64 x.id)) (by kernel_rfl) ⟨(cell_of_row _ _ 5 _ 67 (0, 0) HXb.out).trans rfl, (cell_of_row _ _ 6 _ 67 (0, 0) HXb.out).trans rfl, z0, (cell_of_row _ _ 0 _ 67 (0, 0) HXb.out).trans rfl⟩ (fun hHeld => ?_)
                    refine wpAnyH_take (i := 0) (oi := { dst := some 100, op := Op.fieldAddr 67 (Operand.tmp 19) 5, type := 0, pos := "law.go:327", after := #[], guard := none }) (v := .pointer (some ⟨wo.heap.size, 5, none⟩)) rfl (by kernel_rfl) (by kernel_rfl) (by kernel_rfl) (fun _ _ _ h => h) (Or.inl ⟨by rfl, ?_⟩) hHeld ?_
                    · (intro w hSw; (try dsimp only at hSw); go_simp)
                    try simp only [Act.put, List.setIfInBounds_toArray, List.set_cons_zero, List.set_cons_succ]
                    refine wpAnyH_take (i := 1) (oi := { dst := some 101, op := Op.load 3 (Operand.tmp 100), type := 3, pos := "law.go:327", after := #[{ on := 0, ground := Ground.data }], guard := none }) (v := .int .i64 x.nd) rfl (by kernel_rfl) (by kernel_rfl) (by kernel_rfl) (fun _ _ _ h => h) (Or.inl ⟨by rfl, ?_⟩) hHeld ?_
                    · (intro w hSw; (try dsimp only at hSw); go_simp)
                    try simp only [Act.put, List.setIfInBounds_toArray, List.set_cons_zero, List.set_cons_succ]
                    refine wpAnyH_take (i := 2) (oi := { dst := some 102, op := Op.binOp BinOp.neq 3 (Operand.tmp 101) (Operand.const (Value.int IntKind.i64 2)) 3, type := 4, pos := "law.go:327", after := #[{ on := 1, ground := Ground.data }], guard := none }) (v := .bool false) rfl (by kernel_rfl) (by kernel_rfl) (by kernel_rfl) (fun _ _ _ h => h) (Or.inl ⟨by rfl, ?_⟩) hHeld ?_
                    · (intro w hSw; (try dsimp only at hSw); go_simp)
                    try simp only [Act.put, List.setIfInBounds_toArray, List.set_cons_zero, List.set_cons_succ]
                    refine wpAnyH_take (i := 3) (oi := { dst := some 103, op := Op.move (Operand.tmp 102), type := 4, pos := "law.go:327", after := #[{ on := 2, ground := Ground.data }], guard := none }) (v := .bool false) rfl (by kernel_rfl) (by kernel_rfl) (by kernel_rfl) (fun _ _ _ h => h) (Or.inl ⟨by rfl, ?_⟩) hHeld ?_
                    · (intro w hSw; (try dsimp only at hSw); go_simp)
                    try simp only [Act.put, List.setIfInBounds_toArray, List.set_cons_zero, List.set_cons_succ]
                    refine wpAnyH_take (i := 4) (oi := { dst := some 104, op := Op.fieldAddr 67 (Operand.tmp 19) 6, type := 0, pos := "law.go:327", after := #[{ on := 3, ground := Ground.guard }], guard := some (3, false) }) (v := .pointer (some ⟨wo.heap.size, 6, none⟩)) rfl (by kernel_rfl) (by kernel_rfl) (by kernel_rfl) (fun _ _ _ h => h) (Or.inl ⟨by rfl, ?_⟩) hHeld ?_
                    · (intro w hSw; (try dsimp only at hSw); go_simp)
                    try simp only [Act.put, List.setIfInBounds_toArray, List.set_cons_zero, List.set_cons_succ]
                    refine wpAnyH_take (i := 5) (oi := { dst := some 105, op := Op.load 3 (Operand.tmp 104), type := 3, pos := "law.go:327", after := #[{ on := 4, ground := Ground.data }, { on := 3, ground := Ground.guard }], guard := some (3, false) }) (v := .int .i64 x.ep) rfl (by kernel_rfl) (by kernel_rfl) (by kernel_rfl) (fun _ _ _ h => h) (Or.inl ⟨by rfl, ?_⟩) hHeld ?_
                    · (intro w hSw; (try dsimp only at hSw); go_simp)
                    try simp only [Act.put, List.setIfInBounds_toArray, List.set_cons_zero, List.set_cons_succ]
                    refine wpAnyH_take (i := 6) (oi := { dst := some 106, op := Op.binOp BinOp.neq 3 (Operand.tmp 105) (Operand.const (Value.int IntKind.i64 5)) 3, type := 4, pos := "law.go:327", after := #[{ on := 5, ground := Ground.data }, { on := 3, ground := Ground.guard }], guard := some (3, false) }) (v := .bool false) rfl (by kernel_rfl) (by kernel_rfl) (by kernel_rfl) (fun _ _ _ h => h) (Or.inl ⟨by rfl, ?_⟩) hHeld ?_
                    · (intro w hSw; (try dsimp only at hSw); go_simp)
                    try simp only [Act.put, List.setIfInBounds_toArray, List.set_cons_zero, List.set_cons_succ]
                    refine wpAnyH_take (i := 7) (oi := { dst := some 107, op := Op.pick (Operand.tmp 103) (Operand.const (Value.bool true)) (Operand.tmp 106), type := 4, pos := "law.go:327", after := #[{ on := 3, ground := Ground.data }, { on := 6, ground := Ground.data }], guard := none }) (v := .bool false) rfl (by kernel_rfl) (by kernel_rfl) (by kernel_rfl) (fun _ _ _ h => h) (Or.inl ⟨by rfl, ?_⟩) hHeld ?_
                    · (intro w hSw; (try dsimp only at hSw); go_simp)
                    try simp only [Act.put, List.setIfInBounds_toArray, List.set_cons_zero, List.set_cons_succ]
                    refine wpAnyH_take (i := 8) (oi := { dst := some 108, op := Op.move (Operand.tmp 107), type := 4, pos := "law.go:327", after := #[{ on := 7, ground := Ground.data }, { on := 3, ground := Ground.chain }], guard := none }) (v := .bool false) rfl (by kernel_rfl) (by kernel_rfl) (by kernel_rfl) (fun _ _ _ h => h) (Or.inl ⟨by rfl, ?_⟩) hHeld ?_
                    · (intro w hSw; (try dsimp only at hSw); go_simp)
                    try simp only [Act.put, List.setIfInBounds_toArray, List.set_cons_zero, List.set_cons_succ]
                    refine wpAnyH_take (i := 9) (oi := { dst := some 109, op := Op.move (Operand.tmp 18), type := 3, pos := "law.go:327", after := #[{ on := 8, ground := Ground.guard }], guard := some (8, false) }) (v := .int .i64 (i : Int)) rfl (by kernel_rfl) (by kernel_rfl) (by kernel_rfl) (fun _ _ _ h => h) (Or.inl ⟨by rfl, ?_⟩) hHeld ?_
                    · (intro w hSw; (try dsimp only at hSw); go_simp)
                    try simp only [Act.put, List.setIfInBounds_toArray, List.set_cons_zero, List.set_cons_succ]
                    refine wpAnyH_take (i := 10) (oi := { dst := some 110, op := Op.binOp BinOp.gtr 3 (Operand.tmp 109) (Operand.const (Value.int IntKind.i64 0)) 3, type := 4, pos := "law.go:327", after := #[{ on := 9, ground := Ground.data }, { on := 8, ground := Ground.guard }], guard := some (8, false) }) (v := .bool true) rfl (by kernel_rfl) (by kernel_rfl) (by kernel_rfl) (fun _ _ _ h => h) (Or.inl ⟨by rfl, ?_⟩) hHeld ?_
                    · (intro w hSw; (try dsimp only at hSw); go_simp)
                    try simp only [Act.put, List.setIfInBounds_toArray, List.set_cons_zero, List.set_cons_succ]
                    refine wpAnyH_take (i := 11) (oi := { dst := some 111, op := Op.move (Operand.tmp 110), type := 4, pos := "law.go:327", after := #[{ on := 10, ground := Ground.data }, { on := 8, ground := Ground.chain }, { on := 8, ground := Ground.guard }], guard := some (8, false) }) (v := .bool true) rfl (by kernel_rfl) (by kernel_rfl) (by kernel_rfl) (fun _ _ _ h => h) (Or.inl ⟨by rfl, ?_⟩) hHeld ?_
                    · (intro w hSw; (try dsimp only at hSw); go_simp)
                    try simp only [Act.put, List.setIfInBounds_toArray, List.set_cons_zero, List.set_cons_succ]
                    refine wpAnyH_take (i := 12) (oi := { dst := some 112, op := Op.move (Operand.tmp 17), type := 43, pos := "law.go:327", after := #[{ on := 11, ground := Ground.guard }], guard := some (11, true) }) (v := .slice (some ⟨rb, ro, none⟩) R.length vc) rfl (by kernel_rfl) (by kernel_rfl) (by kernel_rfl) (fun _ _ _ h => h) (Or.inl ⟨by rfl, ?_⟩) hHeld ?_
                    · (intro w hSw; (try dsimp only at hSw); go_simp)
                    try simp only [Act.put, List.setIfInBounds_toArray, List.set_cons_zero, List.set_cons_succ]
                    refine wpAnyH_take (i := 13) (oi := { dst := some 113, op := Op.move (Operand.tmp 18), type := 3, pos := "law.go:327", after := #[{ on := 11, ground := Ground.guard }], guard := some (11, true) }) (v := .int .i64 (i : Int)) rfl (by kernel_rfl) (by kernel_rfl) (by kernel_rfl) (fun _ _ _ h => h) (Or.inl ⟨by rfl, ?_⟩) hHeld ?_
                    · (intro w hSw; (try dsimp only at hSw); go_simp)
                    try simp only [Act.put, List.setIfInBounds_toArray, List.set_cons_zero, List.set_cons_succ]
                    refine wpAnyH_take (i := 14) (oi := { dst := some 114, op := Op.binOp BinOp.sub 3 (Operand.tmp 113) (Operand.const (Value.int IntKind.i64 1)) 3, type := 3, pos := "law.go:327", after := #[{ on := 13, ground := Ground.data }, { on := 11, ground := Ground.guard }], guard := some (11, true) }) (v := .int .i64 (j0 : Int)) rfl (by kernel_rfl) (by kernel_rfl) (by kernel_rfl) (fun _ _ _ h => h) (Or.inl ⟨by rfl, ?_⟩) hHeld ?_
                    · (intro w hSw; (try dsimp only at hSw); go_simp)
                    try simp only [Act.put, List.setIfInBounds_toArray, List.set_cons_zero, List.set_cons_succ]
                    refine wpAnyH_take (i := 15) (oi := { dst := some 115, op := Op.indexAddr 43 (Operand.tmp 112) (Operand.tmp 114), type := 0, pos := "law.go:327", after := #[{ on := 12, ground := Ground.data }, { on := 14, ground := Ground.data }, { on := 11, ground := Ground.guard }], guard := some (11, true) }) (v := .pointer (some ⟨rb, ro + j0 * 11, none⟩)) rfl (by kernel_rfl) (by kernel_rfl) (by kernel_rfl) (fun _ _ _ h => h) (Or.inl ⟨by rfl, ?_⟩) hHeld ?_
                    · (intro w hSw; (try dsimp only at hSw); go_simp)
                    try simp only [Act.put, List.setIfInBounds_toArray, List.set_cons_zero, List.set_cons_succ]
                    refine wpAnyH_take (i := 16) (oi := { dst := some 116, op := Op.fieldAddr 67 (Operand.tmp 115) 0, type := 0, pos := "law.go:327", after := #[{ on := 15, ground := Ground.data }, { on := 11, ground := Ground.guard }], guard := some (11, true) }) (v := .pointer (some ⟨rb, ro + j0 * 11, none⟩)) rfl (by kernel_rfl) (by kernel_rfl) (by kernel_rfl) (fun _ _ _ h => h) (Or.inl ⟨by rfl, ?_⟩) hHeld ?_
                    · (intro w hSw; (try dsimp only at hSw); go_simp)
                    try simp only [Act.put, List.setIfInBounds_toArray, List.set_cons_zero, List.set_cons_succ]
                    refine wpAnyH_take (i := 17) (oi := { dst := some 117, op := Op.load 3 (Operand.tmp 116), type := 3, pos := "law.go:327", after := #[{ on := 16, ground := Ground.data }, { on := 11, ground := Ground.guard }], guard := some (11, true) }) (v := .int .i64 y.id) rfl (by kernel_rfl) (by kernel_rfl) (by kernel_rfl) (fun _ _ _ h => h) (Or.inl ⟨by rfl, ?_⟩) hHeld ?_
                    · (intro w hSw; (try dsimp only at hSw); go_simp)
                    try simp only [Act.put, List.setIfInBounds_toArray, List.set_cons_zero, List.set_cons_succ]
                    refine wpAnyH_take (i := 18) (oi := { dst := some 118, op := Op.fieldAddr 67 (Operand.tmp 19) 0, type := 0, pos := "law.go:327", after := #[{ on := 11, ground := Ground.guard }], guard := some (11, true) }) (v := .pointer (some ⟨wo.heap.size, 0, none⟩)) rfl (by kernel_rfl) (by kernel_rfl) (by kernel_rfl) (fun _ _ _ h => h) (Or.inl ⟨by rfl, ?_⟩) hHeld ?_
                    · (intro w hSw; (try dsimp only at hSw); go_simp)
                    try simp only [Act.put, List.setIfInBounds_toArray, List.set_cons_zero, List.set_cons_succ]
                    refine wpAnyH_take (i := 19) (oi := { dst := some 119, op := Op.load 3 (Operand.tmp 118), type := 3, pos := "law.go:327", after := #[{ on := 18, ground := Ground.data }, { on := 11, ground := Ground.guard }], guard := some (11, true) }) (v := .int .i64 x.id) rfl (by kernel_rfl) (by kernel_rfl) (by kernel_rfl) (fun _ _ _ h => h) (Or.inl ⟨by rfl, ?_⟩) hHeld ?_
                    · (intro w hSw; (try dsimp only at hSw); go_simp)
                    try simp only [Act.put, List.setIfInBounds_toArray, List.set_cons_zero, List.set_cons_succ]
                    refine wpAnyH_take (i := 20) (oi := { dst := some 120, op := Op.binOp BinOp.geq 3 (Operand.tmp 117) (Operand.tmp 119) 3, type := 4, pos := "law.go:327", after := #[{ on := 17, ground := Ground.data }, { on := 19, ground := Ground.data }, { on := 11, ground := Ground.guard }], guard := some (11, true) }) (v := .bool false) rfl (by kernel_rfl) (by kernel_rfl) (by kernel_rfl) (fun _ _ _ h => h) (Or.inl ⟨by rfl, ?_⟩) hHeld ?_
                    · (intro w hSw; (try dsimp only at hSw); go_simp)
                    try simp only [Act.put, List.setIfInBounds_toArray, List.set_cons_zero, List.set_cons_succ]
                    refine wpAnyH_take (i := 21) (oi := { dst := some 121, op := Op.pick (Operand.tmp 111) (Operand.tmp 120) (Operand.const (Value.bool false)), type := 4, pos := "law.go:327", after := #[{ on := 11, ground := Ground.data }, { on := 20, ground := Ground.data }, { on := 8, ground := Ground.guard }], guard := some (8, false) }) (v := .bool false) rfl (by kernel_rfl) (by kernel_rfl) (by kernel_rfl) (fun _ _ _ h => h) (Or.inl ⟨by rfl, ?_⟩) hHeld ?_
                    · (intro w hSw; (try dsimp only at hSw); go_simp)
                    try simp only [Act.put, List.setIfInBounds_toArray, List.set_cons_zero, List.set_cons_succ]
                    refine wpAnyH_take (i := 22) (oi := { dst := some 122, op := Op.pick (Operand.tmp 108) (Operand.const (Value.bool true)) (Operand.tmp 121), type := 4, pos := "law.go:327", after := #[{ on := 8, ground := Ground.data }, { on := 21, ground := Ground.data }], guard := none }) (v := .bool false) rfl (by kernel_rfl) (by kernel_rfl) (by kernel_rfl) (fun _ _ _ h => h) (Or.inl ⟨by rfl, ?_⟩) hHeld ?_
                    · (intro w hSw; (try dsimp only at hSw); go_simp)
                    try simp only [Act.put, List.setIfInBounds_toArray, List.set_cons_zero, List.set_cons_succ]
                    refine wpAnyH_done (by kernel_rfl) ?_ _
                    go_wp2
                    go_loopw [20, 21] (fun o i wr => ∃ (j : Nat) (t : Bool), j ≤ L.length ∧ i = .int .i64 (j : Int) ∧ o = .bool t ∧ Hid (t = true ↔ ∃ y ∈ L.take j, y.id = x.id) ∧ Hid (Below w11.heap.size w11 wr) ∧ Hid (wr.heap[wo.heap.size]? = some (.cells (alC x) 67 (0, 0)))) (fun _ i _ => L.length - (intOf i).toNat)
                    case atStart => exact ⟨0, false, Nat.zero_le _, rfl, rfl, hidOf (by simp), HBb, HXb⟩
                    case round =>
                      obtain ⟨j, t, hj, rfl, rfl, HT2, HBz, HXz⟩ := hrel
                      obtain ⟨wz, hwz⟩ : ∃ y, y = wr := ⟨_, rfl⟩
                      subst hwz
                      have HWz : Hid (Below D w wz) := hidOf (HW11.out.trans (HBz.out.mono (Nat.le_trans HD.out.1 HW11.out.size)))
                      have HTz : Hid (TdL wz bt (.slice la A.length lc) (.slice lb B.length ld)) := hidOf ((HBz.out.block _ (heap_lt HTd11.out)).trans HTd11.out)
                      by_cases hjt : j < L.length
                      · have hjz : (j : Int) < (L.length : Int) := by omega
                        obtain ⟨y, hy⟩ : ∃ y, L[j]? = some y := ⟨_, List.getElem?_eq_getElem hjt⟩
                        obtain ⟨b2, off2, e2, hb2, y0, _⟩ := al_at (HL.out.grow (HWz.out.mono HD.out.2)) hy
                        subst e2
                        have bx0 : wz.cell? ⟨wo.heap.size, 0, none⟩ = some (.int .i64 x.id) := (cell_of_row _ _ 0 _ 67 (0, 0) HXz.out).trans rfl
                        have lbx : wo.heap.size < wz.heap.size := heap_lt HXz.out
                        have ct : wz.cell? ⟨bt, n, none⟩ = some (.slice (some ⟨b2, off2, none⟩) L.length kk) := HTC.out _ HTz.out
                        have lbt : bt < wz.heap.size := heap_lt HTz.out
                        have HY := hidOf hy
                        clear hy
                        cases t with
                        | true =>
                          go_wp2
                          go_region
                          all_goals
                            go_wp2
                            go_roundw
                            case rel => exact ⟨j + 1, true, by omega, by go_num, rfl, hidOf (rn_step (t := true) HY.out (by simpa using HT2.out) (by simp)), hidOf HBz.out.drew, hidOf HXz.out⟩
                            case measure => simp [intOf]; omega
                        | false =>
                          by_cases e3 : y.id = x.id
                          · have e3b : (y.id == x.id) = true := by simp [e3]
                            have HE3 := hidOf e3
                            clear e3
                            go_wp2
                            go_region
                            all_goals
                              go_wp2
                              go_roundw
                              case rel => exact ⟨j + 1, true, by omega, by go_num, rfl, hidOf (rn_step HY.out HT2.out (by simp [HE3.out])), hidOf HBz.out.drew, hidOf HXz.out⟩
                              case measure => simp [intOf]; omega
                          · have e3b : (y.id == x.id) = false := by simp [e3]
                            have HE3 := hidOf e3
                            clear e3
                            go_wp2
                            go_region
                            all_goals
                              go_wp2
                              go_roundw
                              case rel => exact ⟨j + 1, false, by omega, by go_num, rfl, hidOf (rn_step HY.out HT2.out (by simp [HE3.out])), hidOf HBz.out.drew, hidOf HXz.out⟩
                              case measure => simp [intOf]; omega
                      · obtain rfl : j = L.length := by omega
                        have hjz : ¬ (L.length : Int) < (L.length : Int) := by omega
                        have ct : wz.cell? ⟨bt, n, none⟩ = some (.slice l L.length kk) := HTC.out _ HTz.out
                        have lbt : bt < wz.heap.size := heap_lt HTz.out
                        obtain rfl : t = true := HT2.out.2 (by rw [List.take_length]; exact HXI.out)
                        clear HT2
                        go_wp2
                        go_roundw
                        case rel => exact ⟨i + 1, by omega, by go_num, HBz⟩
                        case measure => simp [intOf]; omega
                · obtain rfl : i = R.length := by omega
                  have hiz : ¬ (R.length : Int) < (R.length : Int) := by omega
                  have HW6 : Hid (Below D w wo) := hidOf (HW11.out.trans (HBo.out.mono (Nat.le_trans HD.out.1 HW11.out.size)))
                  have HTo : Hid (TdL wo bt (.slice la A.length lc) (.slice lb B.length ld)) := hidOf ((HBo.out.block _ (heap_lt HTd11.out)).trans HTd11.out)
                  have ct : wo.cell? ⟨bt, n, none⟩ = some (.slice l L.length kk) := HTC.out _ HTo.out
                  have lbt : bt < wo.heap.size := heap_lt HTo.out
                  have HEo := hidOf (HE11.out.grow HBo.out)
                  go_wp2_with (go_at_call 16; go_must (refine (obeys_any _ va l ev vc kk ek R L E (HRD.out.grow HBo.out).top (HL.out.grow (HW6.out.mono HD.out.2)).top HEo.out.rdE (by omega) (by omega) (by omega) HOB.out).mono ?_; rintro e w12 ⟨rfl, hb⟩; have HA12 := hidOf ((HA11.out.keepA (.below HBo.out)).keepA (.below hb)); have HW12 : Hid (Below D w w12) := hidOf (HW6.out.trans (hb.mono (Nat.le_trans HD.out.1 HW6.out.size))); have HM12 : Hid (BxM w12 bm (mgC 9 102 1 ((n : Int) + 1) 6 2 0 0 0 5 ((n : Int) + 1) (.slice ra rl rk))) := hidOf ⟨(hb.block _ (Nat.lt_of_lt_of_le (heap_lt HM11.out) HBo.out.size)).trans ((HBo.out.block _ (heap_lt HM11.out)).trans HM11.out), rfl⟩; have HTd12 : Hid (TdL w12 bt (.slice la A.length lc) (.slice lb B.length ld)) := hidOf ((hb.block _ (heap_lt HTo.out)).trans HTo.out); have HE12 := hidOf (HEo.out.grow hb); clear hb))
                  go_loopw [12, 23] (fun o i wr => ∃ (j : Nat), j ≤ L.length ∧ i = .int .i64 (j : Int) ∧ Hid (OwR D 3 1 iC wr o (E ++ spI (L.take j))) ∧ Hid (AgS D wr p (oS (n + 1) (runT T 2 5 L)) 1048576 (c + 1)) ∧ Hid (Below D w wr) ∧ Hid (BxM wr bm (mgC 9 102 1 ((n : Int) + 1) 6 2 0 0 0 5 ((n : Int) + 1) (.slice ra rl rk))) ∧ Hid (TdL wr bt (.slice la A.length lc) (.slice lb B.length ld))) (fun _ i _ => L.length - (intOf i).toNat)
                  case atStart => exact ⟨0, Nat.zero_le _, rfl, hidOf (by simpa [spI] using HE12.out), HA12, HW12, HM12, HTd12⟩
                  case round =>
                    obtain ⟨j, hj, rfl, HEn, HAz, HWz, HMz, HTz⟩ := hrel
                    obtain ⟨wz, hwz⟩ : ∃ y, y = wr := ⟨_, rfl⟩
                    subst hwz
                    obtain ⟨ev, ek, hev, _⟩ := HEn.out.slice
                    subst hev
                    have lbt : bt < wz.heap.size := heap_lt HTz.out
                    by_cases hjt : j < L.length
                    · have hjz : (j : Int) < (L.length : Int) := by omega
                      obtain ⟨x, hx⟩ : ∃ x, L[j]? = some x := ⟨_, List.getElem?_eq_getElem hjt⟩
                      obtain ⟨b2, off2, e2, hb2, y0, _, _, _, _, _, _, _, _, y9, _⟩ := al_at (HL.out.grow (HWz.out.mono HD.out.2)) hx
                      subst e2
                      have ct : wz.cell? ⟨bt, n, none⟩ = some (.slice (some ⟨b2, off2, none⟩) L.length kk) := HTC.out _ HTz.out
                      have HX := hidOf (show L.take (j + 1) = L.take j ++ [x] by rw [List.take_add_one, hx]; rfl)
                      have hsl := spI_len (L.take j)
                      have htl : (L.take j).length ≤ j := by rw [List.length_take]; omega
                      clear hx
                      by_cases hs : x.sp = true
                      · have HSP : Hid (E ++ spI (L.take (j + 1)) = E ++ spI (L.take j) ++ [x.id]) := hidOf (by rw [HX.out]; simp [spI, hs])
                        go_wp2_with ((at_builtin; go_loud (refine wpList_appR _ rfl _ _ 34 rfl D 3 1 8 Tryd.underlying34 HI3.out (by decide) iC_size _ (E ++ spI (L.take j)) rfl (HEn.out.grow (below1 _ _)) x.id ⟨wz.heap.size, 0, none⟩ 1 rfl (fun j u hj => cell_news _ (iC x.id) 3 j u hj) (i_one _) (by unfold maxLen; simp only [List.length_append]; omega) (by simp only [List.length_append]; omega) (by have := HWz.out.size; have := HD.out.1; simp; omega) ?_; intro v5 w5 ho5 hg5 hv5; have HO5 := hidOf ho5; have HG5 := hidOf hg5; clear ho5 hg5 hv5)))
                        go_roundw
                        case rel =>
                          have HB3 := hidOf (below1 wz (.cells (iC x.id) 3))
                          have HO3 := HEn.out.grow HB3.out
                          have hk5 := HO3.gKeepA HG5.out (by decide)
                          have hoth : ∀ (m : Nat) (cs : Array Value) (t : Nat), (wz.alloc (.cells (iC x.id) 3)).heap[m]? = some (.cells cs t (0, 0)) → t ≠ 3 → w5.heap[m]? = some (.cells cs t (0, 0)) := fun m cs t hm ht => (HG5.out.block m (heap_lt hm) (fun e => by
                            obtain ⟨cur, hc⟩ := HO3.blk m e.symm
                            rw [hc] at hm; cases hm; exact ht rfl)).trans hm
                          exact ⟨j + 1, by omega, by go_num, hidOf (by rw [HSP.out]; exact HO5.out), hidOf ((HAz.out.keepA (.below HB3.out)).keepA hk5), hidOf ((HWz.out.trans (HB3.out.mono (Nat.le_trans HD.out.1 HWz.out.size))).grown HG5.out (by have := HWz.out.size; have := HD.out.1; have := HB3.out.size; omega) (fun q hq => HO3.lo q hq)), hidOf ⟨hoth _ _ _ ((HB3.out.block _ (heap_lt HMz.out.1)).trans HMz.out.1) (by decide), HMz.out.2⟩, hidOf (hoth _ _ _ ((HB3.out.block _ (heap_lt HTz.out)).trans HTz.out) (by decide))⟩
                        case measure => simp [intOf]; omega
                      · have es : x.sp = false := by simpa using hs
                        have HSP : Hid (E ++ spI (L.take (j + 1)) = E ++ spI (L.take j)) := hidOf (by rw [HX.out]; simp [spI, es])
                        clear hs
                        go_wp2
                        go_roundw
                        case rel => exact ⟨j + 1, by omega, by go_num, hidOf (by rw [HSP.out]; exact HEn.out), HAz, HWz, HMz, HTz⟩
                        case measure => simp [intOf]; omega
                    · obtain rfl : j = L.length := by omega
                      have hjz : ¬ (L.length : Int) < (L.length : Int) := by omega
                      have ct : wz.cell? ⟨bt, n, none⟩ = some (.slice l L.length kk) := HTC.out _ HTz.out
                      have hsl := spI_len L
                      go_wp2
                      go_roundw
                      case rel => exact ⟨n + 1, c + 1, runT T 2 5 L, E ++ spI L, _, by omega, by omega, by go_num, HAz, HWz, HMz, HTz, hidOf (by have := HEn.out; rw [List.take_length] at this ⊢; exact this), hidOf (HPO.out.run L HLW.out), by simp only [List.length_append]; omega⟩
                      case measure => simp [intOf]; omega

        · obtain rfl : n = 2 := by omega
          have hltz : ¬ (2 : Int) < 2 := by omega
          go_wp2
          go_loopw [24] (fun i wr => ∃ (k c : Nat), k ≤ 9 ∧ c ≤ 30 + k ∧ i = .int .i64 (k : Int) ∧ Hid (AgS D wr p (oK 2 k T) 1048576 c) ∧ Hid (Below D w wr)) (fun i _ => 9 - (intOf i).toNat)
          case atStart => exact ⟨0, c, by omega, by omega, rfl, HA, HW⟩
          case round =>
            obtain ⟨k, c, hk, hc, rfl, HA3, HW⟩ := hrel
            by_cases hlt : k < 9
            · have hltz : (k : Int) < 9 := by omega
              have HE := hidOf (fK_e T hlt)
              have HSB := hidOf (fK_B HPO.out.ok hlt)
              go_wp2_with ((go_at_call 8; go_must (refine (tick_any (B := 100) HA3.out (HT.out.below HW.out) HSB.out (by decide) (by omega) (by decide)).mono ?_; rintro e w5 ⟨v5, he, hv, ha, hf⟩; rw [HE.out] at he; subst he; have HA5 : Hid (AgS D w5 p (oK 2 (k + 1) T) 1048576 (c + 1)) := hidOf ha; have HW5 : Hid (Below D w w5) := hidOf (HW.out.trans (hf.below (Nat.le_trans HD.out.1 HW.out.size))); clear ha hf hv)))
              go_roundw
              case rel => exact ⟨k + 1, c + 1, by omega, by omega, by go_num, HA5, HW5⟩
              case measure => simp [intOf]; omega
            · obtain rfl : k = 9 := by omega
              have hltz : ¬ (9 : Int) < 9 := by omega
              have HFT := hidOf (fK_T T)
              go_wp2_with (first | (go_at_call 10; go_must (refine (running_any HA3.out (by decide) (by rw [HFT.out.1]; exact tk0_ok)).mono ?_; rintro e w5 ⟨v5, K, rfl, hk, ho, hb, _⟩; have hk0 := kn0 (by rw [HFT.out.1] at hk; exact hk); subst hk0; obtain ⟨va, vc, hv, _⟩ := ho.rd (D := w.heap.size) alC_size; have hv : v5 = .slice va 0 vc := hv; subst hv; have HA5 := hidOf (HA3.out.keepA (.below hb)); have HW5 : Hid (Below D w w5) := hidOf (HW.out.trans (hb.mono (Nat.le_trans HD.out.1 HW.out.size))); clear hk ho hb)) | (go_at_call 9; go_must (refine (epoch_any HA5.out).mono ?_; rintro e wz ⟨he, hw⟩; have hw := hw.symm; subst hw; have he : e = .returned (.int .i64 0) := (by rw [he, HFT.out.2]); subst he)) | (go_at_call 15; go_must (refine (lives_any _ ((HT.out.below HW5.out).mono (Nat.le_trans HD.out.1 HW5.out.size))).mono ?_; rintro e w6 ⟨rfl, hb⟩; have HW6 : Hid (Below D w w6) := hidOf (HW5.out.trans (hb.mono (Nat.le_trans HD.out.1 HW5.out.size))); clear hb)))
              go_ret
              exact ⟨rfl, HW6.out.mono HD.out.2⟩


end Go.Proofs.YtkienmncifonnaaDoor
