/- Files with one more, by the document. -/
import Derived.Test.YtkbmfookdhlphaaGna
import Derived.Deep.Cut
import Derived.Deep.RegionHeld3
namespace Go.Proofs.Ytkbmfookdhlphaa
open Go.RowKit

def atN (l : List Fe) (s : ByteArray) : Nat := (l.takeWhile fun g => Op.bytesLess g.nm.toList s.toList).length
def wi (l : List Fe) (x : Fe) : List Fe := (wo l x.nm).take (atN (wo l x.nm) x.nm) ++ [x] ++ (wo l x.nm).drop (atN (wo l x.nm) x.nm)
theorem atN_eq {l : List Fe} {s : ByteArray} {k : Nat} (hk : k ≤ l.length) (h1 : ∀ (j : Nat) (g : Fe), j < k → l[j]? = some g → Op.bytesLess g.nm.toList s.toList = true) (h2 : ∀ g, l[k]? = some g → Op.bytesLess g.nm.toList s.toList = false) : atN l s = k := by
  induction l generalizing k with
  | nil => simp at hk; subst hk; rfl
  | cons x l ih =>
    cases k with
    | zero =>
      have := h2 x rfl
      unfold atN
      rw [List.takeWhile_cons, this]
      rfl
    | succ k =>
      have := h1 0 x (by omega) rfl
      have e := ih (k := k) (by simpa using hk) (fun j g hj hg => h1 (j + 1) g (by omega) hg) (fun g hg => h2 g hg)
      unfold atN at e ⊢
      rw [List.takeWhile_cons, this]
      simp [e]
theorem row_mono {w : World} {b b' : Nat} {v : Value} {e n sz : Nat} {xs : List Value} (h : w.ownsRow b e sz v n xs) (hb : b' ≤ b) : w.ownsRow b' e sz v n xs := by
  refine ⟨h.1, ?_⟩
  rcases h.2 with h2 | ⟨g, cap, cur, rfl, h3, h4⟩
  · exact .inl h2
  · exact .inr ⟨g, cap, cur, rfl, by omega, h4⟩
set_option maxHeartbeats 4000000 in
set_option maxRecDepth 100000 in
theorem with_any (a : Option Addr) (cap : Nat) (l : List Fe) (x : Fe) (w : World) (h : Fls w a l) (hl : l.length ≤ 1048576) : Calls Try.prog 67 #[.slice a l.length cap, .agg #[.string x.nm, .slice x.a x.d.length x.cap]] w fun e w' => ∃ v, e = .returned v ∧ w'.ownsRow w.heap.size 64 2 v (wi l x).length (cellsF (wi l x)) ∧ Below w.heap.size w w' := by
  obtain ⟨W, hW⟩ : ∃ W, W = wo l x.nm := ⟨_, rfl⟩
  have hWl : W.length ≤ 1048576 := by rw [hW]; exact Nat.le_trans (wo_len _ _) hl
  have HC := hidOf (without_any a cap l x.nm (w.alloc (.cells #[.string x.nm, .slice x.a x.d.length x.cap] 64)) (h.grow (below1 _ _)) hl)
  have HW := hidOf hW
  clear h hW
  go_enter Try.func67, Try.ntmps67
  go_wp2_with (go_at_call 68; refine HC.out.mono ?_; rintro e w2 ⟨v, rfl, hrow, hb⟩; rw [← HW.out] at hrow; obtain ⟨a0, c0, hv, hcap, hor, hF⟩ := Fls.of_row hrow; subst hv; have HF := hidOf hF; have HB := hidOf ((below1 w _).trans (hb.mono (by simp))); have HX := hidOf (show w2.heap[w.heap.size]? = some (.cells #[.string x.nm, .slice x.a x.d.length x.cap] 64 (0, 0)) from (hb.block _ (by simp)).trans (heap_alloc_new w _)); have HOR := hidOf hor; clear hrow hb hF HC hor)
  have y0 : w2.cell? ⟨w.heap.size, 0, none⟩ = some (.string x.nm) := by rw [cell_of_row w2 _ 0 _ 64 (0, 0) HX.out]; rfl
  have y1 : w2.cell? ⟨w.heap.size, 1, none⟩ = some (.slice x.a x.d.length x.cap) := by rw [cell_of_row w2 _ 1 _ 64 (0, 0) HX.out]; rfl
  have yl : w.heap.size < w2.heap.size := heap_lt HX.out
  go_loopw [5] (fun i wr => ∃ k : Nat, Hid (Below w2.heap.size w2 wr) ∧ k ≤ W.length ∧ i = .int .i64 (k : Int) ∧ Hid (∀ (j : Nat) (g : Fe), j < k → W[j]? = some g → Op.bytesLess g.nm.toList x.nm.toList = true)) (fun i _ => W.length - (intOf i).toNat)
  case atStart => exact ⟨0, hidOf (Below.refl _ _), Nat.zero_le _, rfl, fun j g hj => by omega⟩
  case round =>
    obtain ⟨k, HZ0, hk, rfl, HK⟩ := hrel
    have HZ := hidOf (HZ0.out.drew)
    have z0 : wr.drew.cell? ⟨w.heap.size, 0, none⟩ = some (.string x.nm) := (HZ.out.cell (p := ⟨w.heap.size, 0, none⟩) yl).trans y0
    have z1 : wr.drew.cell? ⟨w.heap.size, 1, none⟩ = some (.slice x.a x.d.length x.cap) := (HZ.out.cell (p := ⟨w.heap.size, 1, none⟩) yl).trans y1
    by_cases hlt : k < W.length
    · have hiz : (k : Int) < (W.length : Int) := by omega
      obtain ⟨g, hg⟩ : ∃ g, W[k]? = some g := ⟨_, List.getElem?_eq_getElem hlt⟩
      obtain ⟨b, off, hab, hbl, d0, d1⟩ := HF.out.at HZ.out hg
      subst hab
      have HG := hidOf hg
      clear hg
      go_wp2_with fail
      refine wp_region_held_drew (S := fun w' : World => w'.cell? ⟨b, off + k * 2, none⟩ = some (.string g.nm) ∧ w'.cell? ⟨w.heap.size, 0, none⟩ = some (.string x.nm)) (by kernel_rfl) ⟨d0, z0⟩ (fun hHeld => ?_)
      refine wpAnyH_take (i := 0) (oi := { dst := some 11, op := Op.move (Operand.tmp 5), type := 3, pos := "ref.go:81", after := #[], guard := none }) (v := .int .i64 (k : Int)) rfl (by kernel_rfl) (by kernel_rfl) (by kernel_rfl) (fun _ _ _ h => h) (Or.inl ⟨by rfl, ?_⟩) hHeld ?_
      · (intro w hSw; (try dsimp only at hSw); go_simp)
      try simp only [Act.put, List.setIfInBounds_toArray, List.set_cons_zero, List.set_cons_succ]
      refine wpAnyH_take (i := 1) (oi := { dst := some 12, op := Op.move (Operand.tmp 0), type := 57, pos := "ref.go:81", after := #[], guard := none }) (v := .slice (some ⟨b, off, none⟩) W.length c0) rfl (by kernel_rfl) (by kernel_rfl) (by kernel_rfl) (fun _ _ _ h => h) (Or.inl ⟨by rfl, ?_⟩) hHeld ?_
      · (intro w hSw; (try dsimp only at hSw); go_simp)
      try simp only [Act.put, List.setIfInBounds_toArray, List.set_cons_zero, List.set_cons_succ]
      refine wpAnyH_take (i := 2) (oi := { dst := some 13, op := Op.call { callee := Callee.builtin Builtin.len, args := #[Operand.tmp 12], argTypes := #[57] }, type := 3, pos := "ref.go:81", after := #[{ on := 1, ground := Ground.data }], guard := none }) (v := .int .i64 (W.length : Int)) rfl (by kernel_rfl) (by kernel_rfl) (by kernel_rfl) (fun _ _ _ h => h) (Or.inl ⟨by rfl, ?_⟩) hHeld ?_
      · (intro w hSw; (try dsimp only at hSw); go_simp)
      try simp only [Act.put, List.setIfInBounds_toArray, List.set_cons_zero, List.set_cons_succ]
      refine wpAnyH_take (i := 3) (oi := { dst := some 14, op := Op.binOp BinOp.lss 3 (Operand.tmp 11) (Operand.tmp 13) 3, type := 4, pos := "ref.go:81", after := #[{ on := 0, ground := Ground.data }, { on := 2, ground := Ground.data }], guard := none }) (v := .bool true) rfl (by kernel_rfl) (by kernel_rfl) (by kernel_rfl) (fun _ _ _ h => h) (Or.inl ⟨by rfl, ?_⟩) hHeld ?_
      · (intro w hSw; (try dsimp only at hSw); go_simp)
      try simp only [Act.put, List.setIfInBounds_toArray, List.set_cons_zero, List.set_cons_succ]
      refine wpAnyH_take (i := 4) (oi := { dst := some 15, op := Op.move (Operand.tmp 14), type := 4, pos := "ref.go:81", after := #[{ on := 3, ground := Ground.data }], guard := none }) (v := .bool true) rfl (by kernel_rfl) (by kernel_rfl) (by kernel_rfl) (fun _ _ _ h => h) (Or.inl ⟨by rfl, ?_⟩) hHeld ?_
      · (intro w hSw; (try dsimp only at hSw); go_simp)
      try simp only [Act.put, List.setIfInBounds_toArray, List.set_cons_zero, List.set_cons_succ]
      refine wpAnyH_take (i := 5) (oi := { dst := some 16, op := Op.move (Operand.tmp 0), type := 57, pos := "ref.go:81", after := #[{ on := 4, ground := Ground.guard }], guard := some (4, true) }) (v := .slice (some ⟨b, off, none⟩) W.length c0) rfl (by kernel_rfl) (by kernel_rfl) (by kernel_rfl) (fun _ _ _ h => h) (Or.inl ⟨by rfl, ?_⟩) hHeld ?_
      · (intro w hSw; (try dsimp only at hSw); go_simp)
      try simp only [Act.put, List.setIfInBounds_toArray, List.set_cons_zero, List.set_cons_succ]
      refine wpAnyH_take (i := 6) (oi := { dst := some 17, op := Op.move (Operand.tmp 5), type := 3, pos := "ref.go:81", after := #[{ on := 4, ground := Ground.guard }], guard := some (4, true) }) (v := .int .i64 (k : Int)) rfl (by kernel_rfl) (by kernel_rfl) (by kernel_rfl) (fun _ _ _ h => h) (Or.inl ⟨by rfl, ?_⟩) hHeld ?_
      · (intro w hSw; (try dsimp only at hSw); go_simp)
      try simp only [Act.put, List.setIfInBounds_toArray, List.set_cons_zero, List.set_cons_succ]
      refine wpAnyH_take (i := 7) (oi := { dst := some 18, op := Op.indexAddr 57 (Operand.tmp 16) (Operand.tmp 17), type := 0, pos := "ref.go:81", after := #[{ on := 5, ground := Ground.data }, { on := 6, ground := Ground.data }, { on := 4, ground := Ground.guard }], guard := some (4, true) }) (v := .pointer (some ⟨b, off + k * 2, none⟩)) rfl (by kernel_rfl) (by kernel_rfl) (by kernel_rfl) (fun _ _ _ h => h) (Or.inl ⟨by rfl, ?_⟩) hHeld ?_
      · (intro w hSw; (try dsimp only at hSw); go_simp)
      try simp only [Act.put, List.setIfInBounds_toArray, List.set_cons_zero, List.set_cons_succ]
      refine wpAnyH_take (i := 8) (oi := { dst := some 19, op := Op.fieldAddr 64 (Operand.tmp 18) 0, type := 0, pos := "ref.go:81", after := #[{ on := 7, ground := Ground.data }, { on := 4, ground := Ground.guard }], guard := some (4, true) }) (v := .pointer (some ⟨b, off + k * 2, none⟩)) rfl (by kernel_rfl) (by kernel_rfl) (by kernel_rfl) (fun _ _ _ h => h) (Or.inl ⟨by rfl, ?_⟩) hHeld ?_
      · (intro w hSw; (try dsimp only at hSw); go_simp)
      try simp only [Act.put, List.setIfInBounds_toArray, List.set_cons_zero, List.set_cons_succ]
      refine wpAnyH_take (i := 9) (oi := { dst := some 20, op := Op.load 9 (Operand.tmp 19), type := 9, pos := "ref.go:81", after := #[{ on := 8, ground := Ground.data }, { on := 4, ground := Ground.guard }], guard := some (4, true) }) (v := .string g.nm) rfl (by kernel_rfl) (by kernel_rfl) (by kernel_rfl) (fun _ _ _ h => h) (Or.inl ⟨by rfl, ?_⟩) hHeld ?_
      · (intro w hSw; obtain ⟨s1, s2⟩ := hSw; go_simp)
      try simp only [Act.put, List.setIfInBounds_toArray, List.set_cons_zero, List.set_cons_succ]
      refine wpAnyH_take (i := 10) (oi := { dst := some 21, op := Op.fieldAddr 64 (Operand.tmp 3) 0, type := 0, pos := "ref.go:81", after := #[{ on := 4, ground := Ground.guard }], guard := some (4, true) }) (v := .pointer (some ⟨w.heap.size, 0, none⟩)) rfl (by kernel_rfl) (by kernel_rfl) (by kernel_rfl) (fun _ _ _ h => h) (Or.inl ⟨by rfl, ?_⟩) hHeld ?_
      · (intro w hSw; (try dsimp only at hSw); go_simp)
      try simp only [Act.put, List.setIfInBounds_toArray, List.set_cons_zero, List.set_cons_succ]
      refine wpAnyH_take (i := 11) (oi := { dst := some 22, op := Op.load 9 (Operand.tmp 21), type := 9, pos := "ref.go:81", after := #[{ on := 10, ground := Ground.data }, { on := 4, ground := Ground.guard }], guard := some (4, true) }) (v := .string x.nm) rfl (by kernel_rfl) (by kernel_rfl) (by kernel_rfl) (fun _ _ _ h => h) (Or.inl ⟨by rfl, ?_⟩) hHeld ?_
      · (intro w hSw; obtain ⟨s1, s2⟩ := hSw; go_simp)
      try simp only [Act.put, List.setIfInBounds_toArray, List.set_cons_zero, List.set_cons_succ]
      refine wpAnyH_take (i := 12) (oi := { dst := some 23, op := Op.binOp BinOp.lss 9 (Operand.tmp 20) (Operand.tmp 22) 9, type := 4, pos := "ref.go:81", after := #[{ on := 9, ground := Ground.data }, { on := 11, ground := Ground.data }, { on := 4, ground := Ground.guard }], guard := some (4, true) }) (v := .bool (Op.bytesLess g.nm.toList x.nm.toList)) rfl (by kernel_rfl) (by kernel_rfl) (by kernel_rfl) (fun _ _ _ h => h) (Or.inl ⟨by rfl, ?_⟩) hHeld ?_
      · (intro w hSw; (try dsimp only at hSw); go_simp)
      try simp only [Act.put, List.setIfInBounds_toArray, List.set_cons_zero, List.set_cons_succ]
      refine wpAnyH_take (i := 13) (oi := { dst := some 24, op := Op.pick (Operand.tmp 15) (Operand.tmp 23) (Operand.const (Value.bool false)), type := 4, pos := "ref.go:81", after := #[{ on := 4, ground := Ground.data }, { on := 12, ground := Ground.data }], guard := none }) (v := .bool (Op.bytesLess g.nm.toList x.nm.toList)) rfl (by kernel_rfl) (by kernel_rfl) (by kernel_rfl) (fun _ _ _ h => h) (Or.inl ⟨by rfl, ?_⟩) hHeld ?_
      · (intro w hSw; (try dsimp only at hSw); go_simp)
      try simp only [Act.put, List.setIfInBounds_toArray, List.set_cons_zero, List.set_cons_succ]
      refine wpAnyH_done (by kernel_rfl) ?_ _
      cases he : Op.bytesLess g.nm.toList x.nm.toList with
      | true =>
        have HE := hidOf he
        go_wp2
        refine ⟨⟨k + 1, HZ, by omega, by go_num, fun j g' hj hg' => ?_⟩, by simp [intOf]; omega⟩
        by_cases hjk : j < k
        · exact HK.out j g' hjk hg'
        · have : j = k := by omega
          subst this
          rw [HG.out] at hg'
          cases hg'
          exact HE.out
      | false =>
        have HA := hidOf (atN_eq hk HK.out (fun g' hg' => by rw [HG.out] at hg'; cases hg'; exact he))
        have hck : ¬ c0 = k := by omega
        obtain ⟨g0, hg0⟩ : ∃ g0, (⟨b, off, none⟩ : Addr) = ⟨g0, 0, none⟩ := by
          rcases HOR.out with ⟨e, _⟩ | ⟨g0, e⟩
          · cases e
          · exact ⟨g0, Option.some.inj e⟩
        cases hg0
        have HD : Hid (Fls w2 (some ⟨b, k * 2, none⟩) (W.drop k)) := by have := HF.out.drop k; rw [Nat.zero_add] at this; exact hidOf this
        go_wp2_with (first
          | (at_builtin; refine wpList_append_fls _ rfl (.tmp 27) (.tmp 30) rfl w2.heap.size HZ.out.size (.slice none 0 0) [] rfl ⟨rfl, .inl ⟨rfl, rfl⟩⟩ (some ⟨b, 0, none⟩) k c0 rfl (W.take k) (by rw [List.length_take]; omega) ((HF.out.grow HZ.out).take k) (by rw [List.length_take]; simp; omega) ?_; intro v1 w5 r1 b1; have HR1 := hidOf r1; have HB1 := hidOf (HZ.out.trans b1); have y5 : w5.cell? ⟨w.heap.size, 0, none⟩ = some (.string x.nm) := (b1.cell (p := ⟨w.heap.size, 0, none⟩) yl).trans z0; have y6 : w5.cell? ⟨w.heap.size, 1, none⟩ = some (.slice x.a x.d.length x.cap) := (b1.cell (p := ⟨w.heap.size, 1, none⟩) yl).trans z1; have yl5 : w.heap.size < w5.heap.size := Nat.lt_of_lt_of_le yl (Nat.le_trans HZ.out.size b1.size); clear r1 b1)
          | (at_builtin; refine wpList_append_fls _ rfl (.tmp 32) (.tmp 34) rfl w2.heap.size (Nat.le_trans HB1.out.size (by simp)) v1 ([] ++ W.take k) rfl (row_grow HR1.out (below1 _ _)) (some ⟨w5.heap.size, 0, none⟩) 1 1 rfl [x] rfl (fls_one w5 x) (by rw [List.length_append, List.length_take]; simp; omega) ?_; intro v2 w6 r2 b2; have HR2 := hidOf r2; have HB2 := hidOf (HB1.out.trans (((below1 w5 _).mono HB1.out.size).trans b2)); clear r2 b2)
          | (at_builtin; refine wpList_append_fls _ rfl (.tmp 36) (.tmp 39) rfl w2.heap.size HB2.out.size v2 ([] ++ W.take k ++ [x]) rfl HR2.out (some ⟨b, k * 2, none⟩) (W.length - k) (c0 - k) rfl (W.drop k) (by rw [List.length_drop]) (HD.out.grow HB2.out) (by simp; omega) ?_; intro v3 w7 r3 b3; have HR3 := hidOf r3; have HB3 := hidOf (HB2.out.trans b3); clear r3 b3))
        go_ret
        refine ⟨_, rfl, ?_, HB.out.trans (HB3.out.mono HB.out.size)⟩
        have e : wi l x = [] ++ W.take k ++ [x] ++ W.drop k := by unfold wi; rw [← HW.out, HA.out]; simp
        rw [e]
        exact row_mono HR3.out HB.out.size
    · have hge : ¬ (k : Int) < (W.length : Int) := by omega
      have hkw : W.length ≤ k := by omega
      have HA := hidOf (atN_eq hk HK.out (fun g' hg' => by have := (List.getElem?_eq_some_iff.1 hg').1; omega))
      have HDN : Hid (W.drop k = []) := hidOf (List.drop_eq_nil_of_le (by omega))
      rcases HOR.out with ⟨e1, e2, e3⟩ | ⟨g0, e1⟩
      · subst e1
        have hk0 : k = 0 := by omega
        subst hk0
        subst e3
        have hWn : W = [] := List.eq_nil_of_length_eq_zero e2
        subst hWn
        clear e2 HOR hlt hge hkw hk
        go_wp2_with fail
        refine wp_region_held_drew (S := fun w' : World => True) (by kernel_rfl) trivial (fun hHeld => ?_)
        refine wpAnyH_take (i := 0) (oi := { dst := some 11, op := Op.move (Operand.tmp 5), type := 3, pos := "ref.go:81", after := #[], guard := none }) (v := .int .i64 0) rfl (by kernel_rfl) (by kernel_rfl) (by kernel_rfl) (fun _ _ _ h => h) (Or.inl ⟨by rfl, ?_⟩) hHeld ?_
        · (intro w hSw; (try dsimp only at hSw); go_simp)
        try simp only [Act.put, List.setIfInBounds_toArray, List.set_cons_zero, List.set_cons_succ]
        refine wpAnyH_take (i := 1) (oi := { dst := some 12, op := Op.move (Operand.tmp 0), type := 57, pos := "ref.go:81", after := #[], guard := none }) (v := .slice none 0 0) rfl (by kernel_rfl) (by kernel_rfl) (by kernel_rfl) (fun _ _ _ h => h) (Or.inl ⟨by rfl, ?_⟩) hHeld ?_
        · (intro w hSw; (try dsimp only at hSw); go_simp)
        try simp only [Act.put, List.setIfInBounds_toArray, List.set_cons_zero, List.set_cons_succ]
        refine wpAnyH_take (i := 2) (oi := { dst := some 13, op := Op.call { callee := Callee.builtin Builtin.len, args := #[Operand.tmp 12], argTypes := #[57] }, type := 3, pos := "ref.go:81", after := #[{ on := 1, ground := Ground.data }], guard := none }) (v := .int .i64 0) rfl (by kernel_rfl) (by kernel_rfl) (by kernel_rfl) (fun _ _ _ h => h) (Or.inl ⟨by rfl, ?_⟩) hHeld ?_
        · (intro w hSw; (try dsimp only at hSw); go_simp)
        try simp only [Act.put, List.setIfInBounds_toArray, List.set_cons_zero, List.set_cons_succ]
        refine wpAnyH_take (i := 3) (oi := { dst := some 14, op := Op.binOp BinOp.lss 3 (Operand.tmp 11) (Operand.tmp 13) 3, type := 4, pos := "ref.go:81", after := #[{ on := 0, ground := Ground.data }, { on := 2, ground := Ground.data }], guard := none }) (v := .bool false) rfl (by kernel_rfl) (by kernel_rfl) (by kernel_rfl) (fun _ _ _ h => h) (Or.inl ⟨by rfl, ?_⟩) hHeld ?_
        · (intro w hSw; (try dsimp only at hSw); go_simp)
        try simp only [Act.put, List.setIfInBounds_toArray, List.set_cons_zero, List.set_cons_succ]
        refine wpAnyH_take (i := 4) (oi := { dst := some 15, op := Op.move (Operand.tmp 14), type := 4, pos := "ref.go:81", after := #[{ on := 3, ground := Ground.data }], guard := none }) (v := .bool false) rfl (by kernel_rfl) (by kernel_rfl) (by kernel_rfl) (fun _ _ _ h => h) (Or.inl ⟨by rfl, ?_⟩) hHeld ?_
        · (intro w hSw; (try dsimp only at hSw); go_simp)
        try simp only [Act.put, List.setIfInBounds_toArray, List.set_cons_zero, List.set_cons_succ]
        refine wpAnyH_take (i := 5) (oi := { dst := some 16, op := Op.move (Operand.tmp 0), type := 57, pos := "ref.go:81", after := #[{ on := 4, ground := Ground.guard }], guard := some (4, true) }) (v := undef) rfl (by kernel_rfl) (by kernel_rfl) (by kernel_rfl) (fun _ _ _ h => h) (Or.inr ⟨by rfl, rfl⟩) hHeld ?_
        try simp only [Act.put, List.setIfInBounds_toArray, List.set_cons_zero, List.set_cons_succ]
        refine wpAnyH_take (i := 6) (oi := { dst := some 17, op := Op.move (Operand.tmp 5), type := 3, pos := "ref.go:81", after := #[{ on := 4, ground := Ground.guard }], guard := some (4, true) }) (v := undef) rfl (by kernel_rfl) (by kernel_rfl) (by kernel_rfl) (fun _ _ _ h => h) (Or.inr ⟨by rfl, rfl⟩) hHeld ?_
        try simp only [Act.put, List.setIfInBounds_toArray, List.set_cons_zero, List.set_cons_succ]
        refine wpAnyH_take (i := 7) (oi := { dst := some 18, op := Op.indexAddr 57 (Operand.tmp 16) (Operand.tmp 17), type := 0, pos := "ref.go:81", after := #[{ on := 5, ground := Ground.data }, { on := 6, ground := Ground.data }, { on := 4, ground := Ground.guard }], guard := some (4, true) }) (v := undef) rfl (by kernel_rfl) (by kernel_rfl) (by kernel_rfl) (fun _ _ _ h => h) (Or.inr ⟨by rfl, rfl⟩) hHeld ?_
        try simp only [Act.put, List.setIfInBounds_toArray, List.set_cons_zero, List.set_cons_succ]
        refine wpAnyH_take (i := 8) (oi := { dst := some 19, op := Op.fieldAddr 64 (Operand.tmp 18) 0, type := 0, pos := "ref.go:81", after := #[{ on := 7, ground := Ground.data }, { on := 4, ground := Ground.guard }], guard := some (4, true) }) (v := undef) rfl (by kernel_rfl) (by kernel_rfl) (by kernel_rfl) (fun _ _ _ h => h) (Or.inr ⟨by rfl, rfl⟩) hHeld ?_
        try simp only [Act.put, List.setIfInBounds_toArray, List.set_cons_zero, List.set_cons_succ]
        refine wpAnyH_take (i := 9) (oi := { dst := some 20, op := Op.load 9 (Operand.tmp 19), type := 9, pos := "ref.go:81", after := #[{ on := 8, ground := Ground.data }, { on := 4, ground := Ground.guard }], guard := some (4, true) }) (v := undef) rfl (by kernel_rfl) (by kernel_rfl) (by kernel_rfl) (fun _ _ _ h => h) (Or.inr ⟨by rfl, rfl⟩) hHeld ?_
        try simp only [Act.put, List.setIfInBounds_toArray, List.set_cons_zero, List.set_cons_succ]
        refine wpAnyH_take (i := 10) (oi := { dst := some 21, op := Op.fieldAddr 64 (Operand.tmp 3) 0, type := 0, pos := "ref.go:81", after := #[{ on := 4, ground := Ground.guard }], guard := some (4, true) }) (v := undef) rfl (by kernel_rfl) (by kernel_rfl) (by kernel_rfl) (fun _ _ _ h => h) (Or.inr ⟨by rfl, rfl⟩) hHeld ?_
        try simp only [Act.put, List.setIfInBounds_toArray, List.set_cons_zero, List.set_cons_succ]
        refine wpAnyH_take (i := 11) (oi := { dst := some 22, op := Op.load 9 (Operand.tmp 21), type := 9, pos := "ref.go:81", after := #[{ on := 10, ground := Ground.data }, { on := 4, ground := Ground.guard }], guard := some (4, true) }) (v := undef) rfl (by kernel_rfl) (by kernel_rfl) (by kernel_rfl) (fun _ _ _ h => h) (Or.inr ⟨by rfl, rfl⟩) hHeld ?_
        try simp only [Act.put, List.setIfInBounds_toArray, List.set_cons_zero, List.set_cons_succ]
        refine wpAnyH_take (i := 12) (oi := { dst := some 23, op := Op.binOp BinOp.lss 9 (Operand.tmp 20) (Operand.tmp 22) 9, type := 4, pos := "ref.go:81", after := #[{ on := 9, ground := Ground.data }, { on := 11, ground := Ground.data }, { on := 4, ground := Ground.guard }], guard := some (4, true) }) (v := undef) rfl (by kernel_rfl) (by kernel_rfl) (by kernel_rfl) (fun _ _ _ h => h) (Or.inr ⟨by rfl, rfl⟩) hHeld ?_
        try simp only [Act.put, List.setIfInBounds_toArray, List.set_cons_zero, List.set_cons_succ]
        refine wpAnyH_take (i := 13) (oi := { dst := some 24, op := Op.pick (Operand.tmp 15) (Operand.tmp 23) (Operand.const (Value.bool false)), type := 4, pos := "ref.go:81", after := #[{ on := 4, ground := Ground.data }, { on := 12, ground := Ground.data }], guard := none }) (v := .bool false) rfl (by kernel_rfl) (by kernel_rfl) (by kernel_rfl) (fun _ _ _ h => h) (Or.inl ⟨by rfl, ?_⟩) hHeld ?_
        · (intro w hSw; (try dsimp only at hSw); go_simp)
        try simp only [Act.put, List.setIfInBounds_toArray, List.set_cons_zero, List.set_cons_succ]
        refine wpAnyH_done (by kernel_rfl) ?_ _
        go_wp2_with (first
          | (at_builtin; refine wpList_append_fls _ rfl (.tmp 27) (.tmp 30) rfl w2.heap.size HZ.out.size (.slice none 0 0) [] rfl ⟨rfl, .inl ⟨rfl, rfl⟩⟩ none 0 0 rfl [] rfl (fun h => absurd rfl h) (by simp) ?_; intro v1 w5 r1 b1; have HR1 := hidOf r1; have HB1 := hidOf (HZ.out.trans b1); have y5 : w5.cell? ⟨w.heap.size, 0, none⟩ = some (.string x.nm) := (b1.cell (p := ⟨w.heap.size, 0, none⟩) yl).trans z0; have y6 : w5.cell? ⟨w.heap.size, 1, none⟩ = some (.slice x.a x.d.length x.cap) := (b1.cell (p := ⟨w.heap.size, 1, none⟩) yl).trans z1; have yl5 : w.heap.size < w5.heap.size := Nat.lt_of_lt_of_le yl (Nat.le_trans HZ.out.size b1.size); clear r1 b1)
          | (at_builtin; refine wpList_append_fls _ rfl (.tmp 32) (.tmp 34) rfl w2.heap.size (Nat.le_trans HB1.out.size (by simp)) v1 ([] ++ []) rfl (row_grow HR1.out (below1 _ _)) (some ⟨w5.heap.size, 0, none⟩) 1 1 rfl [x] rfl (fls_one w5 x) (by simp) ?_; intro v2 w6 r2 b2; have HR2 := hidOf r2; have HB2 := hidOf (HB1.out.trans (((below1 w5 _).mono HB1.out.size).trans b2)); clear r2 b2)
          | (at_builtin; refine wpList_append_fls _ rfl (.tmp 36) (.tmp 39) rfl w2.heap.size HB2.out.size v2 ([] ++ [] ++ [x]) rfl HR2.out none 0 0 rfl [] rfl (fun h => absurd rfl h) (by simp) ?_; intro v3 w7 r3 b3; have HR3 := hidOf r3; have HB3 := hidOf (HB2.out.trans b3); clear r3 b3))
        go_ret
        refine ⟨_, rfl, ?_, HB.out.trans (HB3.out.mono HB.out.size)⟩
        have e : wi l x = [] ++ [] ++ [x] ++ [] := by unfold wi; rw [← HW.out, HA.out]; rfl
        rw [e]
        exact row_mono HR3.out HB.out.size
      · subst e1
        by_cases hck : k = c0
        · subst hck
          clear HOR
          go_wp2_with fail
          refine wp_region_held_drew (S := fun w' : World => True) (by kernel_rfl) trivial (fun hHeld => ?_)
          refine wpAnyH_take (i := 0) (oi := { dst := some 11, op := Op.move (Operand.tmp 5), type := 3, pos := "ref.go:81", after := #[], guard := none }) (v := .int .i64 (k : Int)) rfl (by kernel_rfl) (by kernel_rfl) (by kernel_rfl) (fun _ _ _ h => h) (Or.inl ⟨by rfl, ?_⟩) hHeld ?_
          · (intro w hSw; (try dsimp only at hSw); go_simp)
          try simp only [Act.put, List.setIfInBounds_toArray, List.set_cons_zero, List.set_cons_succ]
          refine wpAnyH_take (i := 1) (oi := { dst := some 12, op := Op.move (Operand.tmp 0), type := 57, pos := "ref.go:81", after := #[], guard := none }) (v := .slice (some ⟨g0, 0, none⟩) W.length k) rfl (by kernel_rfl) (by kernel_rfl) (by kernel_rfl) (fun _ _ _ h => h) (Or.inl ⟨by rfl, ?_⟩) hHeld ?_
          · (intro w hSw; (try dsimp only at hSw); go_simp)
          try simp only [Act.put, List.setIfInBounds_toArray, List.set_cons_zero, List.set_cons_succ]
          refine wpAnyH_take (i := 2) (oi := { dst := some 13, op := Op.call { callee := Callee.builtin Builtin.len, args := #[Operand.tmp 12], argTypes := #[57] }, type := 3, pos := "ref.go:81", after := #[{ on := 1, ground := Ground.data }], guard := none }) (v := .int .i64 (W.length : Int)) rfl (by kernel_rfl) (by kernel_rfl) (by kernel_rfl) (fun _ _ _ h => h) (Or.inl ⟨by rfl, ?_⟩) hHeld ?_
          · (intro w hSw; (try dsimp only at hSw); go_simp)
          try simp only [Act.put, List.setIfInBounds_toArray, List.set_cons_zero, List.set_cons_succ]
          refine wpAnyH_take (i := 3) (oi := { dst := some 14, op := Op.binOp BinOp.lss 3 (Operand.tmp 11) (Operand.tmp 13) 3, type := 4, pos := "ref.go:81", after := #[{ on := 0, ground := Ground.data }, { on := 2, ground := Ground.data }], guard := none }) (v := .bool false) rfl (by kernel_rfl) (by kernel_rfl) (by kernel_rfl) (fun _ _ _ h => h) (Or.inl ⟨by rfl, ?_⟩) hHeld ?_
          · (intro w hSw; (try dsimp only at hSw); go_simp)
          try simp only [Act.put, List.setIfInBounds_toArray, List.set_cons_zero, List.set_cons_succ]
          refine wpAnyH_take (i := 4) (oi := { dst := some 15, op := Op.move (Operand.tmp 14), type := 4, pos := "ref.go:81", after := #[{ on := 3, ground := Ground.data }], guard := none }) (v := .bool false) rfl (by kernel_rfl) (by kernel_rfl) (by kernel_rfl) (fun _ _ _ h => h) (Or.inl ⟨by rfl, ?_⟩) hHeld ?_
          · (intro w hSw; (try dsimp only at hSw); go_simp)
          try simp only [Act.put, List.setIfInBounds_toArray, List.set_cons_zero, List.set_cons_succ]
          refine wpAnyH_take (i := 5) (oi := { dst := some 16, op := Op.move (Operand.tmp 0), type := 57, pos := "ref.go:81", after := #[{ on := 4, ground := Ground.guard }], guard := some (4, true) }) (v := undef) rfl (by kernel_rfl) (by kernel_rfl) (by kernel_rfl) (fun _ _ _ h => h) (Or.inr ⟨by rfl, rfl⟩) hHeld ?_
          try simp only [Act.put, List.setIfInBounds_toArray, List.set_cons_zero, List.set_cons_succ]
          refine wpAnyH_take (i := 6) (oi := { dst := some 17, op := Op.move (Operand.tmp 5), type := 3, pos := "ref.go:81", after := #[{ on := 4, ground := Ground.guard }], guard := some (4, true) }) (v := undef) rfl (by kernel_rfl) (by kernel_rfl) (by kernel_rfl) (fun _ _ _ h => h) (Or.inr ⟨by rfl, rfl⟩) hHeld ?_
          try simp only [Act.put, List.setIfInBounds_toArray, List.set_cons_zero, List.set_cons_succ]
          refine wpAnyH_take (i := 7) (oi := { dst := some 18, op := Op.indexAddr 57 (Operand.tmp 16) (Operand.tmp 17), type := 0, pos := "ref.go:81", after := #[{ on := 5, ground := Ground.data }, { on := 6, ground := Ground.data }, { on := 4, ground := Ground.guard }], guard := some (4, true) }) (v := undef) rfl (by kernel_rfl) (by kernel_rfl) (by kernel_rfl) (fun _ _ _ h => h) (Or.inr ⟨by rfl, rfl⟩) hHeld ?_
          try simp only [Act.put, List.setIfInBounds_toArray, List.set_cons_zero, List.set_cons_succ]
          refine wpAnyH_take (i := 8) (oi := { dst := some 19, op := Op.fieldAddr 64 (Operand.tmp 18) 0, type := 0, pos := "ref.go:81", after := #[{ on := 7, ground := Ground.data }, { on := 4, ground := Ground.guard }], guard := some (4, true) }) (v := undef) rfl (by kernel_rfl) (by kernel_rfl) (by kernel_rfl) (fun _ _ _ h => h) (Or.inr ⟨by rfl, rfl⟩) hHeld ?_
          try simp only [Act.put, List.setIfInBounds_toArray, List.set_cons_zero, List.set_cons_succ]
          refine wpAnyH_take (i := 9) (oi := { dst := some 20, op := Op.load 9 (Operand.tmp 19), type := 9, pos := "ref.go:81", after := #[{ on := 8, ground := Ground.data }, { on := 4, ground := Ground.guard }], guard := some (4, true) }) (v := undef) rfl (by kernel_rfl) (by kernel_rfl) (by kernel_rfl) (fun _ _ _ h => h) (Or.inr ⟨by rfl, rfl⟩) hHeld ?_
          try simp only [Act.put, List.setIfInBounds_toArray, List.set_cons_zero, List.set_cons_succ]
          refine wpAnyH_take (i := 10) (oi := { dst := some 21, op := Op.fieldAddr 64 (Operand.tmp 3) 0, type := 0, pos := "ref.go:81", after := #[{ on := 4, ground := Ground.guard }], guard := some (4, true) }) (v := undef) rfl (by kernel_rfl) (by kernel_rfl) (by kernel_rfl) (fun _ _ _ h => h) (Or.inr ⟨by rfl, rfl⟩) hHeld ?_
          try simp only [Act.put, List.setIfInBounds_toArray, List.set_cons_zero, List.set_cons_succ]
          refine wpAnyH_take (i := 11) (oi := { dst := some 22, op := Op.load 9 (Operand.tmp 21), type := 9, pos := "ref.go:81", after := #[{ on := 10, ground := Ground.data }, { on := 4, ground := Ground.guard }], guard := some (4, true) }) (v := undef) rfl (by kernel_rfl) (by kernel_rfl) (by kernel_rfl) (fun _ _ _ h => h) (Or.inr ⟨by rfl, rfl⟩) hHeld ?_
          try simp only [Act.put, List.setIfInBounds_toArray, List.set_cons_zero, List.set_cons_succ]
          refine wpAnyH_take (i := 12) (oi := { dst := some 23, op := Op.binOp BinOp.lss 9 (Operand.tmp 20) (Operand.tmp 22) 9, type := 4, pos := "ref.go:81", after := #[{ on := 9, ground := Ground.data }, { on := 11, ground := Ground.data }, { on := 4, ground := Ground.guard }], guard := some (4, true) }) (v := undef) rfl (by kernel_rfl) (by kernel_rfl) (by kernel_rfl) (fun _ _ _ h => h) (Or.inr ⟨by rfl, rfl⟩) hHeld ?_
          try simp only [Act.put, List.setIfInBounds_toArray, List.set_cons_zero, List.set_cons_succ]
          refine wpAnyH_take (i := 13) (oi := { dst := some 24, op := Op.pick (Operand.tmp 15) (Operand.tmp 23) (Operand.const (Value.bool false)), type := 4, pos := "ref.go:81", after := #[{ on := 4, ground := Ground.data }, { on := 12, ground := Ground.data }], guard := none }) (v := .bool false) rfl (by kernel_rfl) (by kernel_rfl) (by kernel_rfl) (fun _ _ _ h => h) (Or.inl ⟨by rfl, ?_⟩) hHeld ?_
          · (intro w hSw; (try dsimp only at hSw); go_simp)
          try simp only [Act.put, List.setIfInBounds_toArray, List.set_cons_zero, List.set_cons_succ]
          refine wpAnyH_done (by kernel_rfl) ?_ _
          go_wp2_with (first
            | (at_builtin; refine wpList_append_fls _ rfl (.tmp 27) (.tmp 30) rfl w2.heap.size HZ.out.size (.slice none 0 0) [] rfl ⟨rfl, .inl ⟨rfl, rfl⟩⟩ (some ⟨g0, 0, none⟩) k k rfl (W.take k) (by rw [List.length_take]; omega) ((HF.out.grow HZ.out).take k) (by rw [List.length_take]; simp; omega) ?_; intro v1 w5 r1 b1; have HR1 := hidOf r1; have HB1 := hidOf (HZ.out.trans b1); have y5 : w5.cell? ⟨w.heap.size, 0, none⟩ = some (.string x.nm) := (b1.cell (p := ⟨w.heap.size, 0, none⟩) yl).trans z0; have y6 : w5.cell? ⟨w.heap.size, 1, none⟩ = some (.slice x.a x.d.length x.cap) := (b1.cell (p := ⟨w.heap.size, 1, none⟩) yl).trans z1; have yl5 : w.heap.size < w5.heap.size := Nat.lt_of_lt_of_le yl (Nat.le_trans HZ.out.size b1.size); clear r1 b1)
            | (at_builtin; refine wpList_append_fls _ rfl (.tmp 32) (.tmp 34) rfl w2.heap.size (Nat.le_trans HB1.out.size (by simp)) v1 ([] ++ W.take k) rfl (row_grow HR1.out (below1 _ _)) (some ⟨w5.heap.size, 0, none⟩) 1 1 rfl [x] rfl (fls_one w5 x) (by rw [List.length_append, List.length_take]; simp; omega) ?_; intro v2 w6 r2 b2; have HR2 := hidOf r2; have HB2 := hidOf (HB1.out.trans (((below1 w5 _).mono HB1.out.size).trans b2)); clear r2 b2)
            | (at_builtin; refine wpList_append_fls _ rfl (.tmp 36) (.tmp 39) rfl w2.heap.size HB2.out.size v2 ([] ++ W.take k ++ [x]) rfl HR2.out (some ⟨g0, 0, none⟩) 0 0 rfl (W.drop k) (by rw [HDN.out]; rfl) (fun h => absurd HDN.out h) (by simp; omega) ?_; intro v3 w7 r3 b3; have HR3 := hidOf r3; have HB3 := hidOf (HB2.out.trans b3); clear r3 b3))
          go_ret
          refine ⟨_, rfl, ?_, HB.out.trans (HB3.out.mono HB.out.size)⟩
          have e : wi l x = [] ++ W.take k ++ [x] ++ W.drop k := by unfold wi; rw [← HW.out, HA.out]; simp
          rw [e]
          exact row_mono HR3.out HB.out.size
        · go_wp2_with fail
          refine wp_region_held_drew (S := fun w' : World => True) (by kernel_rfl) trivial (fun hHeld => ?_)
          refine wpAnyH_take (i := 0) (oi := { dst := some 11, op := Op.move (Operand.tmp 5), type := 3, pos := "ref.go:81", after := #[], guard := none }) (v := .int .i64 (k : Int)) rfl (by kernel_rfl) (by kernel_rfl) (by kernel_rfl) (fun _ _ _ h => h) (Or.inl ⟨by rfl, ?_⟩) hHeld ?_
          · (intro w hSw; (try dsimp only at hSw); go_simp)
          try simp only [Act.put, List.setIfInBounds_toArray, List.set_cons_zero, List.set_cons_succ]
          refine wpAnyH_take (i := 1) (oi := { dst := some 12, op := Op.move (Operand.tmp 0), type := 57, pos := "ref.go:81", after := #[], guard := none }) (v := .slice (some ⟨g0, 0, none⟩) W.length c0) rfl (by kernel_rfl) (by kernel_rfl) (by kernel_rfl) (fun _ _ _ h => h) (Or.inl ⟨by rfl, ?_⟩) hHeld ?_
          · (intro w hSw; (try dsimp only at hSw); go_simp)
          try simp only [Act.put, List.setIfInBounds_toArray, List.set_cons_zero, List.set_cons_succ]
          refine wpAnyH_take (i := 2) (oi := { dst := some 13, op := Op.call { callee := Callee.builtin Builtin.len, args := #[Operand.tmp 12], argTypes := #[57] }, type := 3, pos := "ref.go:81", after := #[{ on := 1, ground := Ground.data }], guard := none }) (v := .int .i64 (W.length : Int)) rfl (by kernel_rfl) (by kernel_rfl) (by kernel_rfl) (fun _ _ _ h => h) (Or.inl ⟨by rfl, ?_⟩) hHeld ?_
          · (intro w hSw; (try dsimp only at hSw); go_simp)
          try simp only [Act.put, List.setIfInBounds_toArray, List.set_cons_zero, List.set_cons_succ]
          refine wpAnyH_take (i := 3) (oi := { dst := some 14, op := Op.binOp BinOp.lss 3 (Operand.tmp 11) (Operand.tmp 13) 3, type := 4, pos := "ref.go:81", after := #[{ on := 0, ground := Ground.data }, { on := 2, ground := Ground.data }], guard := none }) (v := .bool false) rfl (by kernel_rfl) (by kernel_rfl) (by kernel_rfl) (fun _ _ _ h => h) (Or.inl ⟨by rfl, ?_⟩) hHeld ?_
          · (intro w hSw; (try dsimp only at hSw); go_simp)
          try simp only [Act.put, List.setIfInBounds_toArray, List.set_cons_zero, List.set_cons_succ]
          refine wpAnyH_take (i := 4) (oi := { dst := some 15, op := Op.move (Operand.tmp 14), type := 4, pos := "ref.go:81", after := #[{ on := 3, ground := Ground.data }], guard := none }) (v := .bool false) rfl (by kernel_rfl) (by kernel_rfl) (by kernel_rfl) (fun _ _ _ h => h) (Or.inl ⟨by rfl, ?_⟩) hHeld ?_
          · (intro w hSw; (try dsimp only at hSw); go_simp)
          try simp only [Act.put, List.setIfInBounds_toArray, List.set_cons_zero, List.set_cons_succ]
          refine wpAnyH_take (i := 5) (oi := { dst := some 16, op := Op.move (Operand.tmp 0), type := 57, pos := "ref.go:81", after := #[{ on := 4, ground := Ground.guard }], guard := some (4, true) }) (v := undef) rfl (by kernel_rfl) (by kernel_rfl) (by kernel_rfl) (fun _ _ _ h => h) (Or.inr ⟨by rfl, rfl⟩) hHeld ?_
          try simp only [Act.put, List.setIfInBounds_toArray, List.set_cons_zero, List.set_cons_succ]
          refine wpAnyH_take (i := 6) (oi := { dst := some 17, op := Op.move (Operand.tmp 5), type := 3, pos := "ref.go:81", after := #[{ on := 4, ground := Ground.guard }], guard := some (4, true) }) (v := undef) rfl (by kernel_rfl) (by kernel_rfl) (by kernel_rfl) (fun _ _ _ h => h) (Or.inr ⟨by rfl, rfl⟩) hHeld ?_
          try simp only [Act.put, List.setIfInBounds_toArray, List.set_cons_zero, List.set_cons_succ]
          refine wpAnyH_take (i := 7) (oi := { dst := some 18, op := Op.indexAddr 57 (Operand.tmp 16) (Operand.tmp 17), type := 0, pos := "ref.go:81", after := #[{ on := 5, ground := Ground.data }, { on := 6, ground := Ground.data }, { on := 4, ground := Ground.guard }], guard := some (4, true) }) (v := undef) rfl (by kernel_rfl) (by kernel_rfl) (by kernel_rfl) (fun _ _ _ h => h) (Or.inr ⟨by rfl, rfl⟩) hHeld ?_
          try simp only [Act.put, List.setIfInBounds_toArray, List.set_cons_zero, List.set_cons_succ]
          refine wpAnyH_take (i := 8) (oi := { dst := some 19, op := Op.fieldAddr 64 (Operand.tmp 18) 0, type := 0, pos := "ref.go:81", after := #[{ on := 7, ground := Ground.data }, { on := 4, ground := Ground.guard }], guard := some (4, true) }) (v := undef) rfl (by kernel_rfl) (by kernel_rfl) (by kernel_rfl) (fun _ _ _ h => h) (Or.inr ⟨by rfl, rfl⟩) hHeld ?_
          try simp only [Act.put, List.setIfInBounds_toArray, List.set_cons_zero, List.set_cons_succ]
          refine wpAnyH_take (i := 9) (oi := { dst := some 20, op := Op.load 9 (Operand.tmp 19), type := 9, pos := "ref.go:81", after := #[{ on := 8, ground := Ground.data }, { on := 4, ground := Ground.guard }], guard := some (4, true) }) (v := undef) rfl (by kernel_rfl) (by kernel_rfl) (by kernel_rfl) (fun _ _ _ h => h) (Or.inr ⟨by rfl, rfl⟩) hHeld ?_
          try simp only [Act.put, List.setIfInBounds_toArray, List.set_cons_zero, List.set_cons_succ]
          refine wpAnyH_take (i := 10) (oi := { dst := some 21, op := Op.fieldAddr 64 (Operand.tmp 3) 0, type := 0, pos := "ref.go:81", after := #[{ on := 4, ground := Ground.guard }], guard := some (4, true) }) (v := undef) rfl (by kernel_rfl) (by kernel_rfl) (by kernel_rfl) (fun _ _ _ h => h) (Or.inr ⟨by rfl, rfl⟩) hHeld ?_
          try simp only [Act.put, List.setIfInBounds_toArray, List.set_cons_zero, List.set_cons_succ]
          refine wpAnyH_take (i := 11) (oi := { dst := some 22, op := Op.load 9 (Operand.tmp 21), type := 9, pos := "ref.go:81", after := #[{ on := 10, ground := Ground.data }, { on := 4, ground := Ground.guard }], guard := some (4, true) }) (v := undef) rfl (by kernel_rfl) (by kernel_rfl) (by kernel_rfl) (fun _ _ _ h => h) (Or.inr ⟨by rfl, rfl⟩) hHeld ?_
          try simp only [Act.put, List.setIfInBounds_toArray, List.set_cons_zero, List.set_cons_succ]
          refine wpAnyH_take (i := 12) (oi := { dst := some 23, op := Op.binOp BinOp.lss 9 (Operand.tmp 20) (Operand.tmp 22) 9, type := 4, pos := "ref.go:81", after := #[{ on := 9, ground := Ground.data }, { on := 11, ground := Ground.data }, { on := 4, ground := Ground.guard }], guard := some (4, true) }) (v := undef) rfl (by kernel_rfl) (by kernel_rfl) (by kernel_rfl) (fun _ _ _ h => h) (Or.inr ⟨by rfl, rfl⟩) hHeld ?_
          try simp only [Act.put, List.setIfInBounds_toArray, List.set_cons_zero, List.set_cons_succ]
          refine wpAnyH_take (i := 13) (oi := { dst := some 24, op := Op.pick (Operand.tmp 15) (Operand.tmp 23) (Operand.const (Value.bool false)), type := 4, pos := "ref.go:81", after := #[{ on := 4, ground := Ground.data }, { on := 12, ground := Ground.data }], guard := none }) (v := .bool false) rfl (by kernel_rfl) (by kernel_rfl) (by kernel_rfl) (fun _ _ _ h => h) (Or.inl ⟨by rfl, ?_⟩) hHeld ?_
          · (intro w hSw; (try dsimp only at hSw); go_simp)
          try simp only [Act.put, List.setIfInBounds_toArray, List.set_cons_zero, List.set_cons_succ]
          refine wpAnyH_done (by kernel_rfl) ?_ _
          go_wp2_with (first
            | (at_builtin; refine wpList_append_fls _ rfl (.tmp 27) (.tmp 30) rfl w2.heap.size HZ.out.size (.slice none 0 0) [] rfl ⟨rfl, .inl ⟨rfl, rfl⟩⟩ (some ⟨g0, 0, none⟩) k c0 rfl (W.take k) (by rw [List.length_take]; omega) ((HF.out.grow HZ.out).take k) (by rw [List.length_take]; simp; omega) ?_; intro v1 w5 r1 b1; have HR1 := hidOf r1; have HB1 := hidOf (HZ.out.trans b1); have y5 : w5.cell? ⟨w.heap.size, 0, none⟩ = some (.string x.nm) := (b1.cell (p := ⟨w.heap.size, 0, none⟩) yl).trans z0; have y6 : w5.cell? ⟨w.heap.size, 1, none⟩ = some (.slice x.a x.d.length x.cap) := (b1.cell (p := ⟨w.heap.size, 1, none⟩) yl).trans z1; have yl5 : w.heap.size < w5.heap.size := Nat.lt_of_lt_of_le yl (Nat.le_trans HZ.out.size b1.size); clear r1 b1)
            | (at_builtin; refine wpList_append_fls _ rfl (.tmp 32) (.tmp 34) rfl w2.heap.size (Nat.le_trans HB1.out.size (by simp)) v1 ([] ++ W.take k) rfl (row_grow HR1.out (below1 _ _)) (some ⟨w5.heap.size, 0, none⟩) 1 1 rfl [x] rfl (fls_one w5 x) (by rw [List.length_append, List.length_take]; simp; omega) ?_; intro v2 w6 r2 b2; have HR2 := hidOf r2; have HB2 := hidOf (HB1.out.trans (((below1 w5 _).mono HB1.out.size).trans b2)); clear r2 b2)
            | (at_builtin; refine wpList_append_fls _ rfl (.tmp 36) (.tmp 39) rfl w2.heap.size HB2.out.size v2 ([] ++ W.take k ++ [x]) rfl HR2.out (some ⟨g0, k * 2, none⟩) 0 (c0 - k) rfl (W.drop k) (by rw [HDN.out]; rfl) (fun h => absurd HDN.out h) (by simp; omega) ?_; intro v3 w7 r3 b3; have HR3 := hidOf r3; have HB3 := hidOf (HB2.out.trans b3); clear r3 b3))
          go_ret
          refine ⟨_, rfl, ?_, HB.out.trans (HB3.out.mono HB.out.size)⟩
          have e : wi l x = [] ++ W.take k ++ [x] ++ W.drop k := by unfold wi; rw [← HW.out, HA.out]; simp
          rw [e]
          exact row_mono HR3.out HB.out.size
end Go.Proofs.Ytkbmfookdhlphaa
