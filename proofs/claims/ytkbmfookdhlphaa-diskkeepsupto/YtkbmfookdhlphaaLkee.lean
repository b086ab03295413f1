/- DiskKeeps, walked. -/
import Derived.Test.YtkbmfookdhlphaaDku
import Derived.Test.YtkbmfookdhlphaaDopu
import Derived.Deep.Cut
import Derived.Laws.Runes
import Derived.Deep.RegionHeld3
namespace Go.Proofs.Ytkbmfookdhlphaa
open Go.RowKit Go.Maps Go.Sort

theorem Bs.one {w : World} {ab ao : Nat} {d : List UInt8} (h : Bs w (some ⟨ab, ao, none⟩) d) (j : Nat) (hj : j < d.length) : Bs w (some ⟨ab, ao + j, none⟩) [d[j]] := by
  obtain ⟨b, off, e, hlt, hc⟩ := h.2 (by intro e; subst e; simp at hj)
  cases e
  refine ⟨by simp, fun _ => ⟨_, _, rfl, hlt, fun i hi => ?_⟩⟩
  have h0 : i = 0 := by simp at hi; omega
  subst h0
  have := hc j hj
  simp [bat, bn, List.getD, hj] at this ⊢
theorem new_cell (w : World) (t : ByteArray) : (w.alloc (.cells #[.string t] 9)).cell? ((⟨w.heap.size, 0, none⟩ : Addr).add 0) = some (.string t) := by
  have hadd : (⟨w.heap.size, 0, none⟩ : Addr).add 0 = ⟨w.heap.size, 0, none⟩ := by unfold Addr.add; split <;> simp_all
  rw [hadd, cell_of_row _ w.heap.size 0 _ 9 (0, 0) (heap_alloc_new w _)]
  rfl

set_option maxHeartbeats 40000000 in
set_option maxRecDepth 100000 in
theorem lawKeeps (a : Option Addr) (cap : Nat) (L : List Stp1) (pick : Int) (w : World) (hO : Stpu w a L) (hL : L.length ≤ 1048576) : Calls Try.prog 4 #[.slice a L.length cap, .int .i64 pick] w fun e w' => e = .returned (.bool true) ∧ Below w.heap.size w w' := by
  have HO := hidOf hO
  clear hO
  go_enter Try.func4, Try.ntmps4
  go_wp2_with (first
    | (go_at_call 9; refine (new_c _).mono ?_; rintro e w1 ⟨rfl, h1⟩; have H1 := hidOf h1; clear h1)
    | (go_at_call 11; refine (known_any _).mono ?_; rintro e w2 ⟨rfl, hb⟩; have H2 := hidOf (kst_new (H1.out.below hb) ⟨#[]⟩); clear hb))
  go_loopw [6, 7] (fun vv i wr => ∃ (k cnt : Nat) (M : Md) (S : List ByteArray) (va : Option Addr) (vc : Nat), i = .int .i64 (k : Int) ∧ vv = .slice va S.length vc ∧ k ≤ L.length ∧ cnt ≤ 100 * k ∧ S.length ≤ 1 + 100 * k ∧ Hid (Kst w wr (w.heap.size + 1 + 1) M cnt (.slice va S.length vc) S ∧ Inv M S)) (fun _ i _ => L.length - (intOf i).toNat)
  case atStart => exact ⟨0, 0, M0, [⟨#[]⟩], _, _, rfl, rfl, Nat.zero_le _, Nat.le_refl _, by simp, hidOf ⟨H2.out, inv0⟩⟩
  case round =>
    obtain ⟨k, cnt, M, S, va, vc, rfl, rfl, hk, hcn, hsn, H⟩ := hrel
    by_cases hlt : k < L.length
    · have hltz : (k : Int) < (L.length : Int) := by omega
      obtain ⟨b, off, hab, hbl, c0, c1, c2, c3, c4, hB, hnn⟩ := HO.out.1.at H.out.1.1.bel k hlt
      have hcp := HO.out.2 k hlt
      subst hab
      obtain ⟨x, hx⟩ : ∃ x, x = ot L k := ⟨_, rfl⟩
      rw [← hx] at c0 c1 c2 c3 c4 hB hnn hcp
      obtain ⟨kd, nm, to, ad, cp, d, xn⟩ := x
      simp only at c0 c1 c2 c3 c4 hB hnn hcp
      clear hx
      have hbw : b < wr.heap.size := Nat.lt_of_lt_of_le hbl H.out.1.1.bel.size
      have H2' := hidOf (fun o : Obj => H.out.1.below ((Below.refl wr.heap.size wr).alloc (Nat.le_refl _) o))
      have HBB := hidOf hB
      have HNN := hidOf hnn
      clear hbl hB hnn
      by_cases hk0 : kd = 0
      · subst hk0
        obtain ⟨w0, hw0⟩ : ∃ w0, w0 = wr := ⟨_, rfl⟩
        subst hw0
        go_wp2
        go_loopw [6, 9] (fun vv kk wr => ∃ (j cnt2 : Nat) (M2 : Md) (S2 : List ByteArray) (va2 : Option Addr) (vc2 : Nat), kk = .int .i64 (j : Int) ∧ vv = .slice va2 S2.length vc2 ∧ j ≤ 40 ∧ j ≤ d.length ∧ cnt2 ≤ 100 * k + j ∧ S2.length ≤ 1 + 100 * k + j ∧ Hid (Kst w wr (w.heap.size + 1 + 1) M2 cnt2 (.slice va2 S2.length vc2) S2 ∧ Inv M2 S2 ∧ wr.heap[w0.heap.size]? = some (.cells #[.int .i64 0, .string nm, .string to, .slice ad d.length cp, .int .i64 xn] 31 (0, 0)))) (fun _ kk _ => 40 - (intOf kk).toNat)
        case atStart => exact ⟨0, cnt, M, S, va, vc, rfl, rfl, by omega, by omega, by omega, by omega, hidOf ⟨H2'.out _, H.out.2, heap_alloc_new w0 _⟩⟩
        case round =>
          obtain ⟨j, cnt2, M2, S2, va2, vc2, rfl, rfl, hj0, hj1, hcn2, hsn2, H3⟩ := hrel
          have ul : w0.heap.size < wr.heap.size := heap_lt H3.out.2.2
          have u1 : wr.cell? ⟨w0.heap.size, 1, none⟩ = some (.string nm) := by rw [cell_of_row wr _ 1 _ 31 (0, 0) H3.out.2.2]; rfl
          have u3 : wr.cell? ⟨w0.heap.size, 3, none⟩ = some (.slice ad d.length cp) := by rw [cell_of_row wr _ 3 _ 31 (0, 0) H3.out.2.2]; rfl
          by_cases hj2 : j < d.length
          · have hz2 : (j : Int) < (d.length : Int) := by omega
            by_cases hj3 : j < 40
            · have hz3 : (j : Int) < 40 := by omega
              have hne : d ≠ [] := by intro e; subst e; simp at hj2
              obtain ⟨ab, ao, hade, _, _⟩ := HBB.out.2 hne
              subst hade
              go_wp2
              refine wp_region_held_drew (S := fun w' : World => w'.cell? ⟨w0.heap.size, 1, none⟩ = some (.string nm) ∧ w'.cell? ⟨w0.heap.size, 3, none⟩ = some (.slice (some ⟨ab, ao, none⟩) d.length cp)) (by kernel_rfl) ⟨u1, u3⟩ (fun hHeld => ?_)
              refine wpAnyH_take (i := 0) (oi := { dst := some 45, op := Op.move (Operand.tmp 5), type := 23, pos := "law.go:147", after := #[], guard := none }) (v := .pointer (some ⟨(w.heap.size + 1 + 1), 0, none⟩)) rfl (by kernel_rfl) (by kernel_rfl) (by kernel_rfl) (fun _ _ _ h => h) (Or.inl ⟨by rfl, ?_⟩) hHeld ?_
              · (intro w hSw; (try dsimp only at hSw); go_simp)
              try simp only [Act.put, List.setIfInBounds_toArray, List.set_cons_zero, List.set_cons_succ]
              refine wpAnyH_take (i := 1) (oi := { dst := some 46, op := Op.fieldAddr 31 (Operand.tmp 8) 1, type := 0, pos := "law.go:147", after := #[], guard := none }) (v := .pointer (some ⟨w0.heap.size, 1, none⟩)) rfl (by kernel_rfl) (by kernel_rfl) (by kernel_rfl) (fun _ _ _ h => h) (Or.inl ⟨by rfl, ?_⟩) hHeld ?_
              · (intro w hSw; (try dsimp only at hSw); go_simp)
              try simp only [Act.put, List.setIfInBounds_toArray, List.set_cons_zero, List.set_cons_succ]
              refine wpAnyH_take (i := 2) (oi := { dst := some 47, op := Op.load 9 (Operand.tmp 46), type := 9, pos := "law.go:147", after := #[{ on := 1, ground := Ground.data }], guard := none }) (v := .string nm) rfl (by kernel_rfl) (by kernel_rfl) (by kernel_rfl) (fun _ _ _ h => h) (Or.inl ⟨by rfl, ?_⟩) hHeld ?_
              · (intro w hSw; obtain ⟨s1, s2⟩ := hSw; go_simp)
              try simp only [Act.put, List.setIfInBounds_toArray, List.set_cons_zero, List.set_cons_succ]
              refine wpAnyH_take (i := 3) (oi := { dst := some 48, op := Op.fieldAddr 31 (Operand.tmp 8) 3, type := 0, pos := "law.go:147", after := #[], guard := none }) (v := .pointer (some ⟨w0.heap.size, 3, none⟩)) rfl (by kernel_rfl) (by kernel_rfl) (by kernel_rfl) (fun _ _ _ h => h) (Or.inl ⟨by rfl, ?_⟩) hHeld ?_
              · (intro w hSw; (try dsimp only at hSw); go_simp)
              try simp only [Act.put, List.setIfInBounds_toArray, List.set_cons_zero, List.set_cons_succ]
              refine wpAnyH_take (i := 4) (oi := { dst := some 49, op := Op.load 29 (Operand.tmp 48), type := 29, pos := "law.go:147", after := #[{ on := 3, ground := Ground.data }], guard := none }) (v := .slice (some ⟨ab, ao, none⟩) d.length cp) rfl (by kernel_rfl) (by kernel_rfl) (by kernel_rfl) (fun _ _ _ h => h) (Or.inl ⟨by rfl, ?_⟩) hHeld ?_
              · (intro w hSw; obtain ⟨s1, s2⟩ := hSw; go_simp)
              try simp only [Act.put, List.setIfInBounds_toArray, List.set_cons_zero, List.set_cons_succ]
              refine wpAnyH_take (i := 5) (oi := { dst := some 50, op := Op.move (Operand.tmp 9), type := 3, pos := "law.go:147", after := #[], guard := none }) (v := .int .i64 (j : Int)) rfl (by kernel_rfl) (by kernel_rfl) (by kernel_rfl) (fun _ _ _ h => h) (Or.inl ⟨by rfl, ?_⟩) hHeld ?_
              · (intro w hSw; (try dsimp only at hSw); go_simp)
              try simp only [Act.put, List.setIfInBounds_toArray, List.set_cons_zero, List.set_cons_succ]
              refine wpAnyH_take (i := 6) (oi := { dst := some 51, op := Op.move (Operand.tmp 9), type := 3, pos := "law.go:147", after := #[], guard := none }) (v := .int .i64 (j : Int)) rfl (by kernel_rfl) (by kernel_rfl) (by kernel_rfl) (fun _ _ _ h => h) (Or.inl ⟨by rfl, ?_⟩) hHeld ?_
              · (intro w hSw; (try dsimp only at hSw); go_simp)
              try simp only [Act.put, List.setIfInBounds_toArray, List.set_cons_zero, List.set_cons_succ]
              refine wpAnyH_take (i := 7) (oi := { dst := some 52, op := Op.binOp BinOp.add 3 (Operand.tmp 51) (Operand.const (Value.int IntKind.i64 1)) 3, type := 3, pos := "law.go:147", after := #[{ on := 6, ground := Ground.data }], guard := none }) (v := .int .i64 ((j : Int) + 1)) rfl (by kernel_rfl) (by kernel_rfl) (by kernel_rfl) (fun _ _ _ h => h) (Or.inl ⟨by rfl, ?_⟩) hHeld ?_
              · (intro w hSw; clear hSw; go_simp; exact wrap_small _ (by omega) (by omega))
              try simp only [Act.put, List.setIfInBounds_toArray, List.set_cons_zero, List.set_cons_succ]
              refine wpAnyH_take (i := 8) (oi := { dst := some 53, op := Op.slice 29 (Operand.tmp 49) (some (Operand.tmp 50)) (some (Operand.tmp 52)) none, type := 29, pos := "law.go:147", after := #[{ on := 4, ground := Ground.data }, { on := 5, ground := Ground.data }, { on := 7, ground := Ground.data }], guard := none }) (v := .slice (some ⟨ab, ao + j, none⟩) 1 (cp - j)) rfl (by kernel_rfl) (by kernel_rfl) (by kernel_rfl) (fun _ _ _ h => h) (Or.inl ⟨by rfl, ?_⟩) hHeld ?_
              · (intro w hSw; clear hSw; go_simp; rw [if_pos (by omega), if_neg (by omega)])
              try simp only [Act.put, List.setIfInBounds_toArray, List.set_cons_zero, List.set_cons_succ]
              refine wpAnyH_ready (rs := [9]) (by kernel_rfl) (by simp) ?_
              refine AllReadyH.cons (o := { dst := some 54, op := Op.call { callee := Callee.value (Operand.func 14), args := #[Operand.tmp 45, Operand.tmp 47, Operand.tmp 53], argTypes := #[23, 9, 29] }, type := 35, pos := "law.go:147", after := #[{ on := 0, ground := Ground.data }, { on := 2, ground := Ground.data }, { on := 8, ground := Ground.data }], guard := none }) rfl (fun K hK => ?_) AllReadyH.nil
              go_simp
              refine (append_k nm (some ⟨ab, ao + j, none⟩) (cp - j) (d[j]'hj2) (by first | exact H3.out.1 | exact H3.out.1.below ((Below.refl _ _).drew)) H3.out.2.1 (by first | exact (HBB.out.one j hj2).grow H3.out.1.1.bel | exact ((HBB.out.one j hj2).grow H3.out.1.1.bel).drew) (by simp) (by omega)).mono ?_
              rintro e w3 ⟨E, M', rfl, h3, hp, h31⟩
              have HK3 := hidOf h3; have HP3 := hidOf hp; have HX3 := hidOf (h31.at (by first | exact H3.out.2.2 | exact H3.out.2.2))
              clear h3 hp h31
              refine hK.out _ _ ⟨by rw [cell_of_row _ _ 1 _ 31 (0, 0) HX3.out]; rfl, by rw [cell_of_row _ _ 3 _ 31 (0, 0) HX3.out]; rfl⟩ (fun hHeld1 => ?_)
              clear hK K
              try simp only [Act.put, List.setIfInBounds_toArray, List.set_cons_zero, List.set_cons_succ]
              refine wpAnyH_done (by kernel_rfl) ?_ _
              go_wp2_with (first
                | (go_at_call 15; refine (told_k (HK3.out)).mono ?_; rintro e w4 ⟨t, rfl, ht, hb⟩; have HK4 := hidOf ((HK3.out).below hb); have HI4 := hidOf ((HP3.out).told HK4.out.1.okm ht); have HX4 := hidOf (((K31.below hb).at HX3.out : _)) ; have HX4 := hidOf (((below1 _ (.cells #[.string t] 9)).block _ (heap_lt HX4.out)).trans HX4.out); clear ht hb)
                | (at_builtin; refine wpList_append_str _ rfl (.tmp 55) (.tmp 58) rfl w.heap.size (Nat.le_trans HK4.out.1.bel.size (by simp)) (.slice va2 S2.length vc2) S2 rfl (HK4.out.below (below1 _ _)).2.1 HK4.out.2.2 ⟨w4.heap.size, 0, none⟩ 1 rfl t (new_cell _ _) (by (try simp only [List.length_nil]); omega) ?_; intro v' w5 h2 h3 h4 h5; have HK5 := hidOf ((HK4.out.below (below1 _ _)).app h2 h3 h4); have HX5 := hidOf h5; clear h2 h3 h4 h5; obtain ⟨va5, vc5, hv5⟩ := HK5.out.form; subst hv5))
              go_roundw
              case rel => exact ⟨j + 1, cnt2 + 1, _, S2 ++ [t], va5, vc5, by go_num, by first | rfl | simp, by omega, by omega, by omega, by simp only [List.length_append, List.length_cons, List.length_nil]; omega, hidOf ⟨HK5.out, HI4.out, (HX5.out _ _ _ HX4.out).trans HX4.out⟩⟩
              case measure => simp [intOf]; omega
            · have hz3 : ¬ (j : Int) < 40 := by omega
              go_wp2_with (first
                | (go_at_call 15; refine (told_k (H3.out.1)).mono ?_; rintro e w4 ⟨t, rfl, ht, hb⟩; have HK4 := hidOf ((H3.out.1).below hb); have HI4 := hidOf ((H3.out.2.1.pre).told HK4.out.1.okm ht); clear ht hb)
                | (at_builtin; refine wpList_append_str _ rfl (.tmp 93) (.tmp 96) rfl w.heap.size (Nat.le_trans HK4.out.1.bel.size (by simp)) (.slice va2 S2.length vc2) S2 rfl (HK4.out.below (below1 _ _)).2.1 HK4.out.2.2 ⟨w4.heap.size, 0, none⟩ 1 rfl t (new_cell _ _) (by (try simp only [List.length_nil]); omega) ?_; intro v' w5 h2 h3 h4 h5; have HK5 := hidOf ((HK4.out.below (below1 _ _)).app h2 h3 h4); have HX5 := hidOf h5; clear h2 h3 h4 h5; obtain ⟨va5, vc5, hv5⟩ := HK5.out.form; subst hv5))
              go_roundw
              case rel => exact ⟨k + 1, cnt2, _, S2 ++ [t], va5, vc5, by go_num, by first | rfl | simp, by omega, by omega, by simp only [List.length_append, List.length_cons, List.length_nil]; omega, hidOf ⟨HK5.out, HI4.out⟩⟩
              case measure => simp [intOf]; omega
          · have hz2 : ¬ (j : Int) < (d.length : Int) := by omega
            go_wp2_with (first
              | (go_at_call 15; refine (told_k (H3.out.1)).mono ?_; rintro e w4 ⟨t, rfl, ht, hb⟩; have HK4 := hidOf ((H3.out.1).below hb); have HI4 := hidOf ((H3.out.2.1.pre).told HK4.out.1.okm ht); clear ht hb)
              | (at_builtin; refine wpList_append_str _ rfl (.tmp 93) (.tmp 96) rfl w.heap.size (Nat.le_trans HK4.out.1.bel.size (by simp)) (.slice va2 S2.length vc2) S2 rfl (HK4.out.below (below1 _ _)).2.1 HK4.out.2.2 ⟨w4.heap.size, 0, none⟩ 1 rfl t (new_cell _ _) (by (try simp only [List.length_nil]); omega) ?_; intro v' w5 h2 h3 h4 h5; have HK5 := hidOf ((HK4.out.below (below1 _ _)).app h2 h3 h4); have HX5 := hidOf h5; clear h2 h3 h4 h5; obtain ⟨va5, vc5, hv5⟩ := HK5.out.form; subst hv5))
            go_roundw
            case rel => exact ⟨k + 1, cnt2, _, S2 ++ [t], va5, vc5, by go_num, by first | rfl | simp, by omega, by omega, by simp only [List.length_append, List.length_cons, List.length_nil]; omega, hidOf ⟨HK5.out, HI4.out⟩⟩
            case measure => simp [intOf]; omega
      by_cases hk1 : kd = 1
      · subst hk1
        go_wp2_with (first
          | (go_at_call 16; refine (put_k nm ad cp d (H2'.out _) H.out.2 HBB.out HNN.out (by omega)).mono ?_; rintro e w3 ⟨E, M', rfl, h3, hp, _⟩; have HK3 := hidOf h3; have HP3 := hidOf hp; clear h3 hp)
          | (go_at_call 15; refine (told_k (HK3.out)).mono ?_; rintro e w4 ⟨t, rfl, ht, hb⟩; have HK4 := hidOf ((HK3.out).below hb); have HI4 := hidOf ((HP3.out).told HK4.out.1.okm ht); clear ht hb)
          | (at_builtin; refine wpList_append_str _ rfl (.tmp 93) (.tmp 96) rfl w.heap.size (Nat.le_trans HK4.out.1.bel.size (by simp)) (.slice va S.length vc) S rfl (HK4.out.below (below1 _ _)).2.1 HK4.out.2.2 ⟨w4.heap.size, 0, none⟩ 1 rfl t (new_cell _ _) (by (try simp only [List.length_nil]); omega) ?_; intro v' w5 h2 h3 h4 h5; have HK5 := hidOf ((HK4.out.below (below1 _ _)).app h2 h3 h4); have HX5 := hidOf h5; clear h2 h3 h4 h5; obtain ⟨va5, vc5, hv5⟩ := HK5.out.form; subst hv5))
        go_roundw
        case rel => exact ⟨k + 1, cnt + 1, _, S ++ [t], va5, vc5, by go_num, by first | rfl | simp, by omega, by omega, by simp only [List.length_append, List.length_cons, List.length_nil]; omega, hidOf ⟨HK5.out, HI4.out⟩⟩
        case measure => simp [intOf]; omega
      by_cases hk3 : kd = 3
      · subst hk3
        go_wp2_with (first
          | (go_at_call 17; refine (remove_k nm (H2'.out _) H.out.2 (by omega)).mono ?_; rintro e w3 ⟨E, M', rfl, h3, hp, _⟩; have HK3 := hidOf h3; have HP3 := hidOf hp; clear h3 hp)
          | (go_at_call 15; refine (told_k (HK3.out)).mono ?_; rintro e w4 ⟨t, rfl, ht, hb⟩; have HK4 := hidOf ((HK3.out).below hb); have HI4 := hidOf ((HP3.out).told HK4.out.1.okm ht); clear ht hb)
          | (at_builtin; refine wpList_append_str _ rfl (.tmp 93) (.tmp 96) rfl w.heap.size (Nat.le_trans HK4.out.1.bel.size (by simp)) (.slice va S.length vc) S rfl (HK4.out.below (below1 _ _)).2.1 HK4.out.2.2 ⟨w4.heap.size, 0, none⟩ 1 rfl t (new_cell _ _) (by (try simp only [List.length_nil]); omega) ?_; intro v' w5 h2 h3 h4 h5; have HK5 := hidOf ((HK4.out.below (below1 _ _)).app h2 h3 h4); have HX5 := hidOf h5; clear h2 h3 h4 h5; obtain ⟨va5, vc5, hv5⟩ := HK5.out.form; subst hv5))
        go_roundw
        case rel => exact ⟨k + 1, cnt + 1, _, S ++ [t], va5, vc5, by go_num, by first | rfl | simp, by omega, by omega, by simp only [List.length_append, List.length_cons, List.length_nil]; omega, hidOf ⟨HK5.out, HI4.out⟩⟩
        case measure => simp [intOf]; omega
      by_cases hk4 : kd = 4
      · subst hk4
        go_wp2_with (first
          | (go_at_call 18; refine (rename_k nm to (H2'.out _) H.out.2 (by omega)).mono ?_; rintro e w3 ⟨E, M', rfl, h3, hp, _⟩; have HK3 := hidOf h3; have HP3 := hidOf hp; clear h3 hp)
          | (go_at_call 15; refine (told_k (HK3.out)).mono ?_; rintro e w4 ⟨t, rfl, ht, hb⟩; have HK4 := hidOf ((HK3.out).below hb); have HI4 := hidOf ((HP3.out).told HK4.out.1.okm ht); clear ht hb)
          | (at_builtin; refine wpList_append_str _ rfl (.tmp 93) (.tmp 96) rfl w.heap.size (Nat.le_trans HK4.out.1.bel.size (by simp)) (.slice va S.length vc) S rfl (HK4.out.below (below1 _ _)).2.1 HK4.out.2.2 ⟨w4.heap.size, 0, none⟩ 1 rfl t (new_cell _ _) (by (try simp only [List.length_nil]); omega) ?_; intro v' w5 h2 h3 h4 h5; have HK5 := hidOf ((HK4.out.below (below1 _ _)).app h2 h3 h4); have HX5 := hidOf h5; clear h2 h3 h4 h5; obtain ⟨va5, vc5, hv5⟩ := HK5.out.form; subst hv5))
        go_roundw
        case rel => exact ⟨k + 1, cnt + 1, _, S ++ [t], va5, vc5, by go_num, by first | rfl | simp, by omega, by omega, by simp only [List.length_append, List.length_cons, List.length_nil]; omega, hidOf ⟨HK5.out, HI4.out⟩⟩
        case measure => simp [intOf]; omega
      by_cases hk6 : kd = 6
      · subst hk6
        go_wp2_with (first
          | (go_at_call 19; refine (cut_k xn (H2'.out _) H.out.2 (by omega)).mono ?_; rintro e w3 ⟨E, M', rfl, h3, hp, _⟩; have HK3 := hidOf h3; have HP3 := hidOf hp; clear h3 hp)
          | (go_at_call 15; refine (told_k (HK3.out)).mono ?_; rintro e w4 ⟨t, rfl, ht, hb⟩; have HK4 := hidOf ((HK3.out).below hb); have HI4 := hidOf ((HP3.out).told HK4.out.1.okm ht); clear ht hb)
          | (at_builtin; refine wpList_append_str _ rfl (.tmp 93) (.tmp 96) rfl w.heap.size (Nat.le_trans HK4.out.1.bel.size (by simp)) (.slice va S.length vc) S rfl (HK4.out.below (below1 _ _)).2.1 HK4.out.2.2 ⟨w4.heap.size, 0, none⟩ 1 rfl t (new_cell _ _) (by (try simp only [List.length_nil]); omega) ?_; intro v' w5 h2 h3 h4 h5; have HK5 := hidOf ((HK4.out.below (below1 _ _)).app h2 h3 h4); have HX5 := hidOf h5; clear h2 h3 h4 h5; obtain ⟨va5, vc5, hv5⟩ := HK5.out.form; subst hv5))
        go_roundw
        case rel => exact ⟨k + 1, cnt + 1, _, S ++ [t], va5, vc5, by go_num, by first | rfl | simp, by omega, by omega, by simp only [List.length_append, List.length_cons, List.length_nil]; omega, hidOf ⟨HK5.out, HI4.out⟩⟩
        case measure => simp [intOf]; omega
      by_cases hk5 : kd = 5
      · subst hk5
        by_cases hl : M.left = 0
        · go_wp2_with (first
            | (go_at_call 20; refine (sync_k1 (H2'.out _) (by omega) hl).mono ?_; rintro e w3 ⟨rfl, h3, _⟩; have HK3 := hidOf h3; have HP3 := hidOf H.out.2.pre; clear h3)
            | (go_at_call 15; refine (told_k (HK3.out)).mono ?_; rintro e w4 ⟨t, rfl, ht, hb⟩; have HK4 := hidOf ((HK3.out).below hb); have HI4 := hidOf ((HP3.out).told HK4.out.1.okm ht); clear ht hb)
            | (at_builtin; refine wpList_append_str _ rfl (.tmp 93) (.tmp 96) rfl w.heap.size (Nat.le_trans HK4.out.1.bel.size (by simp)) (.slice va S.length vc) S rfl (HK4.out.below (below1 _ _)).2.1 HK4.out.2.2 ⟨w4.heap.size, 0, none⟩ 1 rfl t (new_cell _ _) (by (try simp only [List.length_nil]); omega) ?_; intro v' w5 h2 h3 h4 h5; have HK5 := hidOf ((HK4.out.below (below1 _ _)).app h2 h3 h4); have HX5 := hidOf h5; clear h2 h3 h4 h5; obtain ⟨va5, vc5, hv5⟩ := HK5.out.form; subst hv5))
          go_roundw
          case rel => exact ⟨k + 1, cnt + 1, _, S ++ [t], va5, vc5, by go_num, by first | rfl | simp, by omega, by omega, by simp only [List.length_append, List.length_cons, List.length_nil]; omega, hidOf ⟨HK5.out, HI4.out⟩⟩
          case measure => simp [intOf]; omega
        · go_wp2_with (first
            | (go_at_call 20; refine (sync_k0 (H2'.out _) (by omega) hl).mono ?_; rintro e w3 ⟨rfl, h3, _⟩; have HK3 := hidOf h3.nil; have HP3 := hidOf (pre_sync M); clear h3)
            | (go_at_call 15; refine (told_k (HK3.out)).mono ?_; rintro e w4 ⟨t, rfl, ht, hb⟩; have HK4 := hidOf ((HK3.out).below hb); have HI4 := hidOf ((HP3.out).told HK4.out.1.okm ht); clear ht hb)
            | (at_builtin; refine wpList_append_str _ rfl (.tmp 93) (.tmp 96) rfl w.heap.size (Nat.le_trans HK4.out.1.bel.size (by simp)) (.slice none 0 0) [] rfl (HK4.out.below (below1 _ _)).2.1 HK4.out.2.2 ⟨w4.heap.size, 0, none⟩ 1 rfl t (new_cell _ _) (by (try simp only [List.length_nil]); omega) ?_; intro v' w5 h2 h3 h4 h5; have HK5 := hidOf ((HK4.out.below (below1 _ _)).app h2 h3 h4); have HX5 := hidOf h5; clear h2 h3 h4 h5; obtain ⟨va5, vc5, hv5⟩ := HK5.out.form; subst hv5))
          go_roundw
          case rel => exact ⟨k + 1, cnt + 1, _, ([] : List ByteArray) ++ [t], va5, vc5, by go_num, by first | rfl | simp, by omega, by omega, by simp only [List.length_append, List.length_cons, List.length_nil]; omega, hidOf ⟨HK5.out, HI4.out⟩⟩
          case measure => simp [intOf]; omega
      go_wp2_with (first
        | (go_at_call 15; refine (told_k (H2'.out _)).mono ?_; rintro e w4 ⟨t, rfl, ht, hb⟩; have HK4 := hidOf ((H2'.out _).below hb); have HI4 := hidOf ((H.out.2.pre).told HK4.out.1.okm ht); clear ht hb)
        | (at_builtin; refine wpList_append_str _ rfl (.tmp 93) (.tmp 96) rfl w.heap.size (Nat.le_trans HK4.out.1.bel.size (by simp)) (.slice va S.length vc) S rfl (HK4.out.below (below1 _ _)).2.1 HK4.out.2.2 ⟨w4.heap.size, 0, none⟩ 1 rfl t (new_cell _ _) (by (try simp only [List.length_nil]); omega) ?_; intro v' w5 h2 h3 h4 h5; have HK5 := hidOf ((HK4.out.below (below1 _ _)).app h2 h3 h4); have HX5 := hidOf h5; clear h2 h3 h4 h5; obtain ⟨va5, vc5, hv5⟩ := HK5.out.form; subst hv5))
      go_roundw
      case rel => exact ⟨k + 1, cnt, _, S ++ [t], va5, vc5, by go_num, by first | rfl | simp, by omega, by omega, by simp only [List.length_append, List.length_cons, List.length_nil]; omega, hidOf ⟨HK5.out, HI4.out⟩⟩
      case measure => simp [intOf]; omega
    · have hltz : ¬ (k : Int) < (L.length : Int) := by omega
      obtain ⟨t0, ht0, hT0⟩ := H.out.2.crash pick
      have HM0 := hidOf ht0
      have HT0 := hidOf hT0
      clear ht0 hT0
      go_wp2_with (first
        | (go_at_call 21; refine (crash_k pick H.out.1 (by omega)).mono ?_; rintro e w2 ⟨rfl, h2⟩; have HS2 := hidOf h2; clear h2)
        | (go_at_call 15; refine (told_k HS2.out).mono ?_; rintro e w3 ⟨t, rfl, ht, hb⟩; have HS3 := hidOf (HS2.out.below hb); have HM := hidOf (show t ∈ S by rw [ht.uniq HT0.out]; exact HM0.out); clear ht hb))
      obtain ⟨i0, hi0⟩ := List.getElem?_of_mem HM.out
      have hil := (List.getElem?_eq_some_iff.1 hi0).1
      go_loopw [11] (fun i wx => ∃ q : Nat, i = .int .i64 (q : Int) ∧ q ≤ i0 ∧ wx = w3) (fun i _ => S.length - (intOf i).toNat)
      case atStart => exact ⟨0, rfl, Nat.zero_le _, rfl⟩
      case round =>
        obtain ⟨q, rfl, hq, rfl⟩ := hrel
        have hql : q < S.length := by omega
        have hqz : (q : Int) < (S.length : Int) := by omega
        obtain ⟨tq, htq⟩ : ∃ t, S[q]? = some t := ⟨_, List.getElem?_eq_getElem hql⟩
        obtain ⟨g, cap', e, hg, c0⟩ := HS3.out.cell htq
        cases e
        cases hEb : (tq.toList == t.toList) with
        | true =>
          go_wp2
          go_ret
          exact ⟨rfl, HS3.out.1.bel⟩
        | false =>
          have hq2 : q ≠ i0 := fun e => by
            subst e
            rw [htq] at hi0
            cases hi0
            simp at hEb
          go_wp2
          go_roundw
          case rel => exact ⟨q + 1, by go_num, by omega, by first | trivial | rfl⟩
          case measure => simp [intOf]; omega
end Go.Proofs.Ytkbmfookdhlphaa
