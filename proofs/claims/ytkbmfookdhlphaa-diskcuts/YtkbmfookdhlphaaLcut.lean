/- DiskCuts, walked. -/
import Derived.Test.YtkbmfookdhlphaaDcst
namespace Go.Proofs.Ytkbmfookdhlphaa
open Go.RowKit Go.Maps Go.Sort

theorem cut_cases {M M' : Md} {E dd n : Int} (h : Dn M E M') (hl : M.left = n - dd) (_h0 : 0 ≤ dd) (h1 : dd ≤ n) : (E = 0 ∧ dd + 1 = n ∧ M'.left = n - (dd + 1)) ∨ (E = 0 ∧ dd + 1 < n ∧ M'.left = n - (dd + 1)) ∨ (E = 1 ∧ dd = n ∧ M' = M) ∨ (E = 11 ∧ dd = n ∧ M' = M) ∨ ((E == 0) = false ∧ (E == 11) = false ∧ (dd < n ∧ ¬ dd = n ∧ ¬ n < dd) ∧ M' = M) := by
  by_cases h3 : dd = n
  · have h4 : M.left = 0 := by omega
    rcases h.cut h4 with e | e
    · exact .inr (.inr (.inl ⟨e, h3, h.no (by omega)⟩))
    · exact .inr (.inr (.inr (.inl ⟨e, h3, h.no (by omega)⟩)))
  · have h4 : M.left ≠ 0 := by omega
    by_cases h5 : E = 0
    · have h6 := h.ok h5
      have h7 : lessOne M.left = M.left - 1 := by unfold lessOne; rw [if_pos (by omega)]
      by_cases h8 : dd + 1 = n
      · exact .inl ⟨h5, h8, by omega⟩
      · exact .inr (.inl ⟨h5, by omega, by omega⟩)
    · exact .inr (.inr (.inr (.inr ⟨beq_false_of_ne h5, beq_false_of_ne (h.on h4), by omega, h.no h5⟩)))

set_option maxHeartbeats 40000000 in
set_option maxRecDepth 100000 in
theorem cuts_bad (n : Int) (a : Option Addr) (len cap : Nat) (w : World) (hn : n < 0 ∨ 1099511627776 < n) : Calls Try.prog 6 #[.int .i64 n, .slice a len cap] w fun e w' => e = .returned (.bool true) ∧ Below w.heap.size w w' := by
  have HN := hidOf hn
  rcases hn with hn | hn
  all_goals
    go_enter Try.func6, Try.ntmps6
    go_wp2_with (first
      | (go_at_call 9; refine (new_st _).mono ?_; rintro e w1 ⟨F, rfl, _, _, hb⟩; have HB := hidOf hb; clear hb)
      | (go_at_call 11; refine (known_any _).mono ?_; rintro e w2 ⟨rfl, hb⟩; have HB2 := hidOf (HB.out.trans (hb.mono HB.out.size)); clear hb)
      | (go_at_call 19; refine (cut_no _ n _ HN.out).mono ?_; rintro e w3 ⟨rfl, rfl⟩))
    go_ret
    exact ⟨rfl, HB2.out⟩

set_option maxHeartbeats 40000000 in
set_option maxRecDepth 100000 in
theorem cuts_ok (n : Int) (a : Option Addr) (cap : Nat) (L : List Stp1) (w : World) (hn : 0 ≤ n ∧ n ≤ 1099511627776) (hO : Stps w a L) (hL : L.length ≤ 1954687338268) : Calls Try.prog 6 #[.int .i64 n, .slice a L.length cap] w fun e w' => e = .returned (.bool true) ∧ Below w.heap.size w w' := by
  have HO := hidOf hO
  clear hO
  obtain ⟨hn0, hn1⟩ := hn
  go_enter Try.func6, Try.ntmps6
  go_wp2_with (first
    | (go_at_call 9; refine (new_c _).mono ?_; rintro e w1 ⟨rfl, h1⟩; have H1 := hidOf h1; clear h1)
    | (go_at_call 11; refine (known_any _).mono ?_; rintro e w2 ⟨rfl, hb⟩; have H2 := hidOf (H1.out.below hb); clear hb)
    | (go_at_call 19; refine (cut_c n ⟨hn0, hn1⟩ H2.out).mono ?_; rintro e w3 ⟨rfl, h3⟩; have H3 := hidOf h3; clear h3))
  go_loopw [7, 8] (fun dv i wr => ∃ (k : Nat) (M : Md) (dd : Int), i = .int .i64 (k : Int) ∧ k ≤ L.length ∧ dv = .int .i64 dd ∧ 0 ≤ dd ∧ dd ≤ n ∧ M.left = n - dd ∧ Hid (Cst w wr (w.heap.size + 1 + 1) M k)) (fun _ i _ => L.length - (intOf i).toNat)
  case atStart => exact ⟨0, _, 0, rfl, Nat.zero_le _, rfl, by omega, by omega, by simp, H3⟩
  case round =>
    obtain ⟨k, M, dd, rfl, hk, rfl, hd0, hd1, hleft, H⟩ := hrel
    by_cases hlt : k < L.length
    · have hltz : (k : Int) < (L.length : Int) := by omega
      obtain ⟨b, off, hab, hbl, c0, c1, c2, c3, c4, hB, hnn⟩ := HO.out.at H.out.bel k hlt
      subst hab
      obtain ⟨x, hx⟩ : ∃ x, x = ot L k := ⟨_, rfl⟩
      rw [← hx] at c0 c1 c2 c3 c4 hB hnn
      obtain ⟨kd, nm, to, ad, cp, d, xn⟩ := x
      simp only at c0 c1 c2 c3 c4 hB hnn
      clear hx
      have hbw : b < wr.heap.size := Nat.lt_of_lt_of_le hbl H.out.bel.size
      obtain ⟨T, hT⟩ := told_c H.out
      have HT := hidOf hT
      have H2' := hidOf (fun o : Obj => H.out.below ((Below.refl wr.heap.size wr).alloc (Nat.le_refl _) o))
      clear hT hbl
      by_cases hk0 : kd = 0
      · subst hk0
        obtain ⟨E, M', hDn, hC⟩ := append_c nm ad cp d H.out hB hnn (by omega)
        have HC := hidOf hC
        have hcs := cut_cases hDn hleft hd0 hd1
        clear hC hDn hB hnn
        rcases hcs with ⟨rfl, rfl, hl2⟩ | ⟨rfl, hl1, hl2⟩ | ⟨rfl, rfl, rfl⟩ | ⟨rfl, rfl, rfl⟩ | ⟨hE0, hE1, ⟨hl1, hl3, hl4⟩, rfl⟩
        all_goals
          go_wp2_with (first
            | (go_at_call 15; refine (HT.out _ _ (H2'.out _)).mono ?_; rintro e w2 ⟨rfl, hb2⟩; have HS2 := hidOf ((H2'.out _).below hb2); have hx2 : w2.heap[wr.heap.size]? = some (.cells #[.int .i64 0, .string nm, .string to, .slice ad d.length cp, .int .i64 xn] 31 (0, 0)) := (hb2.block _ (by simp)).trans (heap_alloc_new wr _); have u0 : w2.cell? ⟨wr.heap.size, 0, none⟩ = some (.int .i64 0) := (by rw [cell_of_row w2 _ 0 _ 31 (0, 0) hx2]; rfl); have u1 : w2.cell? ⟨wr.heap.size, 1, none⟩ = some (.string nm) := (by rw [cell_of_row w2 _ 1 _ 31 (0, 0) hx2]; rfl); have u2 : w2.cell? ⟨wr.heap.size, 2, none⟩ = some (.string to) := (by rw [cell_of_row w2 _ 2 _ 31 (0, 0) hx2]; rfl); have u3 : w2.cell? ⟨wr.heap.size, 3, none⟩ = some (.slice ad d.length cp) := (by rw [cell_of_row w2 _ 3 _ 31 (0, 0) hx2]; rfl); have ul : wr.heap.size < w2.heap.size := heap_lt hx2; clear hb2 hx2 H2')
            | (go_at_call 14; refine (HC.out _ HS2.out).mono ?_; rintro e w3 ⟨rfl, h3⟩; have HS3 := hidOf h3; clear h3 u0 u1 u2 u3 ul HC)
            | (go_at_call 15; refine (HT.out _ _ HS3.out).mono ?_; rintro e w4 ⟨rfl, hb4⟩; have HS4 := hidOf (HS3.out.below hb4); clear hb4))
          go_roundw
          case rel => first | exact ⟨k + 1, _, _, by go_num, by omega, rfl, by omega, by omega, by omega, HS4⟩ | exact ⟨k + 1, _, dd + 1, by go_num, by omega, by go_num, by omega, by omega, by omega, HS3⟩
          case measure => simp [intOf]; omega
      · by_cases hk1 : kd = 1
        · subst hk1
          obtain ⟨E, M', hDn, hC⟩ := put_c nm ad cp d H.out hB hnn (by omega)
          have HC := hidOf hC
          have hcs := cut_cases hDn hleft hd0 hd1
          clear hC hDn hB hnn
          rcases hcs with ⟨rfl, rfl, hl2⟩ | ⟨rfl, hl1, hl2⟩ | ⟨rfl, rfl, rfl⟩ | ⟨rfl, rfl, rfl⟩ | ⟨hE0, hE1, ⟨hl1, hl3, hl4⟩, rfl⟩
          all_goals
            go_wp2_with (first
              | (go_at_call 15; refine (HT.out _ _ (H2'.out _)).mono ?_; rintro e w2 ⟨rfl, hb2⟩; have HS2 := hidOf ((H2'.out _).below hb2); have hx2 : w2.heap[wr.heap.size]? = some (.cells #[.int .i64 1, .string nm, .string to, .slice ad d.length cp, .int .i64 xn] 31 (0, 0)) := (hb2.block _ (by simp)).trans (heap_alloc_new wr _); have u0 : w2.cell? ⟨wr.heap.size, 0, none⟩ = some (.int .i64 1) := (by rw [cell_of_row w2 _ 0 _ 31 (0, 0) hx2]; rfl); have u1 : w2.cell? ⟨wr.heap.size, 1, none⟩ = some (.string nm) := (by rw [cell_of_row w2 _ 1 _ 31 (0, 0) hx2]; rfl); have u2 : w2.cell? ⟨wr.heap.size, 2, none⟩ = some (.string to) := (by rw [cell_of_row w2 _ 2 _ 31 (0, 0) hx2]; rfl); have u3 : w2.cell? ⟨wr.heap.size, 3, none⟩ = some (.slice ad d.length cp) := (by rw [cell_of_row w2 _ 3 _ 31 (0, 0) hx2]; rfl); have ul : wr.heap.size < w2.heap.size := heap_lt hx2; clear hb2 hx2 H2')
              | (go_at_call 16; refine (HC.out _ HS2.out).mono ?_; rintro e w3 ⟨rfl, h3⟩; have HS3 := hidOf h3; clear h3 u0 u1 u2 u3 ul HC)
              | (go_at_call 15; refine (HT.out _ _ HS3.out).mono ?_; rintro e w4 ⟨rfl, hb4⟩; have HS4 := hidOf (HS3.out.below hb4); clear hb4))
            go_roundw
            case rel => first | exact ⟨k + 1, _, _, by go_num, by omega, rfl, by omega, by omega, by omega, HS4⟩ | exact ⟨k + 1, _, dd + 1, by go_num, by omega, by go_num, by omega, by omega, by omega, HS3⟩
            case measure => simp [intOf]; omega
        · by_cases hk2 : kd = 2
          · subst hk2
            obtain ⟨E, M', hDn, hC⟩ := put_c nm ad cp d H.out hB hnn (by omega)
            have HC := hidOf hC
            have hcs := cut_cases hDn hleft hd0 hd1
            clear hC hDn hB hnn
            rcases hcs with ⟨rfl, rfl, hl2⟩ | ⟨rfl, hl1, hl2⟩ | ⟨rfl, rfl, rfl⟩ | ⟨rfl, rfl, rfl⟩ | ⟨hE0, hE1, ⟨hl1, hl3, hl4⟩, rfl⟩
            all_goals
              go_wp2_with (first
                | (go_at_call 15; refine (HT.out _ _ (H2'.out _)).mono ?_; rintro e w2 ⟨rfl, hb2⟩; have HS2 := hidOf ((H2'.out _).below hb2); have hx2 : w2.heap[wr.heap.size]? = some (.cells #[.int .i64 2, .string nm, .string to, .slice ad d.length cp, .int .i64 xn] 31 (0, 0)) := (hb2.block _ (by simp)).trans (heap_alloc_new wr _); have u0 : w2.cell? ⟨wr.heap.size, 0, none⟩ = some (.int .i64 2) := (by rw [cell_of_row w2 _ 0 _ 31 (0, 0) hx2]; rfl); have u1 : w2.cell? ⟨wr.heap.size, 1, none⟩ = some (.string nm) := (by rw [cell_of_row w2 _ 1 _ 31 (0, 0) hx2]; rfl); have u2 : w2.cell? ⟨wr.heap.size, 2, none⟩ = some (.string to) := (by rw [cell_of_row w2 _ 2 _ 31 (0, 0) hx2]; rfl); have u3 : w2.cell? ⟨wr.heap.size, 3, none⟩ = some (.slice ad d.length cp) := (by rw [cell_of_row w2 _ 3 _ 31 (0, 0) hx2]; rfl); have ul : wr.heap.size < w2.heap.size := heap_lt hx2; clear hb2 hx2 H2')
                | (go_at_call 16; refine (HC.out _ HS2.out).mono ?_; rintro e w3 ⟨rfl, h3⟩; have HS3 := hidOf h3; clear h3 u0 u1 u2 u3 ul HC)
                | (go_at_call 15; refine (HT.out _ _ HS3.out).mono ?_; rintro e w4 ⟨rfl, hb4⟩; have HS4 := hidOf (HS3.out.below hb4); clear hb4))
              go_roundw
              case rel => first | exact ⟨k + 1, _, _, by go_num, by omega, rfl, by omega, by omega, by omega, HS4⟩ | exact ⟨k + 1, _, dd + 1, by go_num, by omega, by go_num, by omega, by omega, by omega, HS3⟩
              case measure => simp [intOf]; omega
          · by_cases hk3 : kd = 3
            · subst hk3
              obtain ⟨E, M', hDn, hC⟩ := remove_c nm H.out (by omega)
              have HC := hidOf hC
              have hcs := cut_cases hDn hleft hd0 hd1
              clear hC hDn hB hnn
              rcases hcs with ⟨rfl, rfl, hl2⟩ | ⟨rfl, hl1, hl2⟩ | ⟨rfl, rfl, rfl⟩ | ⟨rfl, rfl, rfl⟩ | ⟨hE0, hE1, ⟨hl1, hl3, hl4⟩, rfl⟩
              all_goals
                go_wp2_with (first
                  | (go_at_call 15; refine (HT.out _ _ (H2'.out _)).mono ?_; rintro e w2 ⟨rfl, hb2⟩; have HS2 := hidOf ((H2'.out _).below hb2); have hx2 : w2.heap[wr.heap.size]? = some (.cells #[.int .i64 3, .string nm, .string to, .slice ad d.length cp, .int .i64 xn] 31 (0, 0)) := (hb2.block _ (by simp)).trans (heap_alloc_new wr _); have u0 : w2.cell? ⟨wr.heap.size, 0, none⟩ = some (.int .i64 3) := (by rw [cell_of_row w2 _ 0 _ 31 (0, 0) hx2]; rfl); have u1 : w2.cell? ⟨wr.heap.size, 1, none⟩ = some (.string nm) := (by rw [cell_of_row w2 _ 1 _ 31 (0, 0) hx2]; rfl); have u2 : w2.cell? ⟨wr.heap.size, 2, none⟩ = some (.string to) := (by rw [cell_of_row w2 _ 2 _ 31 (0, 0) hx2]; rfl); have u3 : w2.cell? ⟨wr.heap.size, 3, none⟩ = some (.slice ad d.length cp) := (by rw [cell_of_row w2 _ 3 _ 31 (0, 0) hx2]; rfl); have ul : wr.heap.size < w2.heap.size := heap_lt hx2; clear hb2 hx2 H2')
                  | (go_at_call 17; refine (HC.out _ HS2.out).mono ?_; rintro e w3 ⟨rfl, h3⟩; have HS3 := hidOf h3; clear h3 u0 u1 u2 u3 ul HC)
                  | (go_at_call 15; refine (HT.out _ _ HS3.out).mono ?_; rintro e w4 ⟨rfl, hb4⟩; have HS4 := hidOf (HS3.out.below hb4); clear hb4))
                go_roundw
                case rel => first | exact ⟨k + 1, _, _, by go_num, by omega, rfl, by omega, by omega, by omega, HS4⟩ | exact ⟨k + 1, _, dd + 1, by go_num, by omega, by go_num, by omega, by omega, by omega, HS3⟩
                case measure => simp [intOf]; omega
            · by_cases hk4 : kd = 4
              · subst hk4
                obtain ⟨E, M', hDn, hC⟩ := rename_c nm to H.out (by omega)
                have HC := hidOf hC
                have hcs := cut_cases hDn hleft hd0 hd1
                clear hC hDn hB hnn
                rcases hcs with ⟨rfl, rfl, hl2⟩ | ⟨rfl, hl1, hl2⟩ | ⟨rfl, rfl, rfl⟩ | ⟨rfl, rfl, rfl⟩ | ⟨hE0, hE1, ⟨hl1, hl3, hl4⟩, rfl⟩
                all_goals
                  go_wp2_with (first
                    | (go_at_call 15; refine (HT.out _ _ (H2'.out _)).mono ?_; rintro e w2 ⟨rfl, hb2⟩; have HS2 := hidOf ((H2'.out _).below hb2); have hx2 : w2.heap[wr.heap.size]? = some (.cells #[.int .i64 4, .string nm, .string to, .slice ad d.length cp, .int .i64 xn] 31 (0, 0)) := (hb2.block _ (by simp)).trans (heap_alloc_new wr _); have u0 : w2.cell? ⟨wr.heap.size, 0, none⟩ = some (.int .i64 4) := (by rw [cell_of_row w2 _ 0 _ 31 (0, 0) hx2]; rfl); have u1 : w2.cell? ⟨wr.heap.size, 1, none⟩ = some (.string nm) := (by rw [cell_of_row w2 _ 1 _ 31 (0, 0) hx2]; rfl); have u2 : w2.cell? ⟨wr.heap.size, 2, none⟩ = some (.string to) := (by rw [cell_of_row w2 _ 2 _ 31 (0, 0) hx2]; rfl); have u3 : w2.cell? ⟨wr.heap.size, 3, none⟩ = some (.slice ad d.length cp) := (by rw [cell_of_row w2 _ 3 _ 31 (0, 0) hx2]; rfl); have ul : wr.heap.size < w2.heap.size := heap_lt hx2; clear hb2 hx2 H2')
                    | (go_at_call 18; refine (HC.out _ HS2.out).mono ?_; rintro e w3 ⟨rfl, h3⟩; have HS3 := hidOf h3; clear h3 u0 u1 u2 u3 ul HC)
                    | (go_at_call 15; refine (HT.out _ _ HS3.out).mono ?_; rintro e w4 ⟨rfl, hb4⟩; have HS4 := hidOf (HS3.out.below hb4); clear hb4))
                  go_roundw
                  case rel => first | exact ⟨k + 1, _, _, by go_num, by omega, rfl, by omega, by omega, by omega, HS4⟩ | exact ⟨k + 1, _, dd + 1, by go_num, by omega, by go_num, by omega, by omega, by omega, HS3⟩
                  case measure => simp [intOf]; omega
              · obtain ⟨E, M', hDn, hC⟩ := sync_c H.out (by omega)
                have HC := hidOf hC
                have hcs := cut_cases hDn hleft hd0 hd1
                clear hC hDn hB hnn
                rcases hcs with ⟨rfl, rfl, hl2⟩ | ⟨rfl, hl1, hl2⟩ | ⟨rfl, rfl, rfl⟩ | ⟨rfl, rfl, rfl⟩ | ⟨hE0, hE1, ⟨hl1, hl3, hl4⟩, rfl⟩
                all_goals
                  go_wp2_with (first
                    | (go_at_call 15; refine (HT.out _ _ (H2'.out _)).mono ?_; rintro e w2 ⟨rfl, hb2⟩; have HS2 := hidOf ((H2'.out _).below hb2); have hx2 : w2.heap[wr.heap.size]? = some (.cells #[.int .i64 kd, .string nm, .string to, .slice ad d.length cp, .int .i64 xn] 31 (0, 0)) := (hb2.block _ (by simp)).trans (heap_alloc_new wr _); have u0 : w2.cell? ⟨wr.heap.size, 0, none⟩ = some (.int .i64 kd) := (by rw [cell_of_row w2 _ 0 _ 31 (0, 0) hx2]; rfl); have u1 : w2.cell? ⟨wr.heap.size, 1, none⟩ = some (.string nm) := (by rw [cell_of_row w2 _ 1 _ 31 (0, 0) hx2]; rfl); have u2 : w2.cell? ⟨wr.heap.size, 2, none⟩ = some (.string to) := (by rw [cell_of_row w2 _ 2 _ 31 (0, 0) hx2]; rfl); have u3 : w2.cell? ⟨wr.heap.size, 3, none⟩ = some (.slice ad d.length cp) := (by rw [cell_of_row w2 _ 3 _ 31 (0, 0) hx2]; rfl); have ul : wr.heap.size < w2.heap.size := heap_lt hx2; clear hb2 hx2 H2')
                    | (go_at_call 20; refine (HC.out _ HS2.out).mono ?_; rintro e w3 ⟨rfl, h3⟩; have HS3 := hidOf h3; clear h3 u0 u1 u2 u3 ul HC)
                    | (go_at_call 15; refine (HT.out _ _ HS3.out).mono ?_; rintro e w4 ⟨rfl, hb4⟩; have HS4 := hidOf (HS3.out.below hb4); clear hb4))
                  go_roundw
                  case rel => first | exact ⟨k + 1, _, _, by go_num, by omega, rfl, by omega, by omega, by omega, HS4⟩ | exact ⟨k + 1, _, dd + 1, by go_num, by omega, by go_num, by omega, by omega, by omega, HS3⟩
                  case measure => simp [intOf]; omega
    · have hltz : ¬ (k : Int) < (L.length : Int) := by omega
      go_wp2_with (first
        | (go_at_call 21; refine (crash_c 0 H.out (by omega)).mono ?_; rintro e w2 ⟨rfl, h2⟩; have HS2 := hidOf h2; clear h2)
        | (go_at_call 20; refine (sync_d HS2.out (by omega) (show (-1 : Int) ≠ 0 by decide)).mono ?_; rintro e w3 ⟨rfl, h3⟩; have HS3 := hidOf h3; clear h3))
      go_ret
      exact ⟨rfl, HS3.out.bel⟩
theorem lawCuts (n : Int) (a : Option Addr) (cap : Nat) (L : List Stp1) (w : World) (hO : Stps w a L) (hL : L.length ≤ 1954687338268) : Calls Try.prog 6 #[.int .i64 n, .slice a L.length cap] w fun e w' => e = .returned (.bool true) ∧ Below w.heap.size w w' := by
  by_cases hn : 0 ≤ n ∧ n ≤ 1099511627776
  · exact cuts_ok n a cap L w hn hO hL
  · exact cuts_bad n a L.length cap w (by omega)
end Go.Proofs.Ytkbmfookdhlphaa
