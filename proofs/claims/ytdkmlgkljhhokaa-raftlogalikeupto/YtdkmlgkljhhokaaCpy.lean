/- Copies of lists, of entries, of lists of entries. -/
import Derived.Test.YtdkmlgkljhhokaaApp
namespace Go.Proofs.Ytdkmlgkljhhokaa
open Go.RowKit

theorem cl40 (w0 w : World) (v : Value) (h : NsR w0 w 3 v) : Calls Try.prog 40 #[v] w fun e w' => ∃ v', e = .returned v' ∧ NsR w0 w' 3 v' ∧ Below w.heap.size w w' := by
  have H := hidOf h
  clear h
  go_enter Try.func40, Try.ntmps40
  go_wp2_with (at_builtin; refine wpList_ns _ rfl (.const (.slice none 0 0)) (.tmp 3) 34 rfl w0 84 _ 3 24 Try.underlying34 info84 rfl (by decide) (by decide) v rfl rfl H.out ?_; intro v' w2 h1 h2; have H1 := hidOf h1; have H2 := hidOf h2; clear h1 h2)
  go_ret
  exact ⟨_, rfl, H1.out, H2.out⟩
theorem cl41 (w0 w : World) (v : Value) (h : NsR w0 w 2 v) : Calls Try.prog 41 #[v] w fun e w' => ∃ v', e = .returned v' ∧ NsR w0 w' 2 v' ∧ Below w.heap.size w w' := by
  have H := hidOf h
  clear h
  go_enter Try.func41, Try.ntmps41
  go_wp2_with (at_builtin; refine wpList_ns _ rfl (.const (.slice none 0 0)) (.tmp 3) 41 rfl w0 87 _ 2 16 Try.underlying41 info87 rfl (by decide) (by decide) v rfl rfl H.out ?_; intro v' w2 h1 h2; have H1 := hidOf h1; have H2 := hidOf h2; clear h1 h2)
  go_ret
  exact ⟨_, rfl, H1.out, H2.out⟩
theorem cl42 (w0 w : World) (v : Value) (h : NsR w0 w 1 v) : Calls Try.prog 42 #[v] w fun e w' => ∃ v', e = .returned v' ∧ NsR w0 w' 1 v' ∧ Below w.heap.size w w' := by
  have H := hidOf h
  clear h
  go_enter Try.func42, Try.ntmps42
  go_wp2_with (at_builtin; refine wpList_ns _ rfl (.const (.slice none 0 0)) (.tmp 3) 42 rfl w0 3 _ 1 8 Try.underlying42 info3 rfl (by decide) (by decide) v rfl rfl H.out ?_; intro v' w2 h1 h2; have H1 := hidOf h1; have H2 := hidOf h2; clear h1 h2)
  go_ret
  exact ⟨_, rfl, H1.out, H2.out⟩
theorem cl43 (w0 w : World) (v : Value) (h : NsR w0 w 11 v) : Calls Try.prog 43 #[v] w fun e w' => ∃ v', e = .returned v' ∧ NsR w0 w' 11 v' ∧ Below w.heap.size w w' := by
  have H := hidOf h
  clear h
  go_enter Try.func43, Try.ntmps43
  go_wp2_with (at_builtin; refine wpList_ns _ rfl (.const (.slice none 0 0)) (.tmp 3) 43 rfl w0 91 _ 11 88 Try.underlying43 info91 rfl (by decide) (by decide) v rfl rfl H.out ?_; intro v' w2 h1 h2; have H1 := hidOf h1; have H2 := hidOf h2; clear h1 h2)
  go_ret
  exact ⟨_, rfl, H1.out, H2.out⟩
theorem cl44 (w0 w : World) (h0 : w0.heap.size ≤ w.heap.size) (v : Value) (D : List En) (h : EsR w0 w v D) (hl : D.length ≤ 67108864) : Calls Try.prog 44 #[v] w fun e w' => ∃ v', e = .returned v' ∧ OwR w0 w' v' D ∧ Below w.heap.size w w' ∧ ∀ k, v'.ownBlock = some k → w.heap.size ≤ k := by
  have H := hidOf h
  clear h
  go_enter Try.func44, Try.ntmps44
  go_wp2_with (at_builtin; refine wpList_app _ rfl (.const (.slice none 0 0)) (.tmp 3) rfl w0 h0 (.slice none 0 0) v [] D rfl (OwR.nil w0 w) rfl H.out (by simp; omega) ?_; intro v' w2 h1 h2 h3; rw [List.nil_append] at h1; have H1 := hidOf h1; have H2 := hidOf (h2.below (Nat.le_refl _) (fun k hk => by cases hk)); have H3 := hidOf (show ∀ k, v'.ownBlock = some k → w.heap.size ≤ k from fun k hk => (by rcases h3 with e | e <;> rw [e] at hk <;> cases hk; exact Nat.le_refl _)); clear h1 h2 h3)
  go_ret
  exact ⟨_, rfl, H1.out, H2.out, H3.out⟩

theorem NsR.form {w0 w : World} {sz : Nat} {v : Value} (h : NsR w0 w sz v) : ∃ a n c, v = .slice a n c := by
  rcases h with ⟨a, rfl⟩ | ⟨b, off, n, cap, news, rfl, _⟩
  · exact ⟨a, 0, 0, rfl⟩
  · exact ⟨_, n, cap, rfl⟩
/- in the midst of a copy: the entry's own block, and the answer's -/
structure CpS (w X : World) (cur : Array Value) : Prop where
  blk : X.heap[w.heap.size]? = some (.cells cur 51 (0, 0))
  res : X.heap[w.heap.size + 1]? = some (.cells Zc.toArray 51 (0, 0))
  bel : Below w.heap.size w X
theorem CpS.new (w : World) (c : Array Value) : CpS w ((w.alloc (.cells c 51)).alloc (.cells Zc.toArray 51)) c := by
  have h1 : (w.alloc (.cells c 51)).heap.size = w.heap.size + 1 := by simp
  refine ⟨((below1 (w.alloc (.cells c 51)) _).block _ (by omega)).trans (heap_alloc_new w _), ?_, ((below1 w _).alloc (by omega) _)⟩
  have := heap_alloc_new (w.alloc (.cells c 51)) (.cells Zc.toArray 51)
  rw [h1] at this
  exact this
theorem CpS.call {w X X1 : World} {cur : Array Value} (h : CpS w X cur) (hb : Below X.heap.size X X1) : CpS w X1 cur :=
  ⟨(hb.block _ (heap_lt h.blk)).trans h.blk, (hb.block _ (heap_lt h.res)).trans h.res, h.bel.trans (hb.mono h.bel.size)⟩
theorem CpS.set {w X : World} {cur : Array Value} (h : CpS w X cur) (k : Nat) (v : Value) : CpS w (X.setCell ⟨w.heap.size, k, none⟩ v) (cur.setIfInBounds k v) :=
  ⟨heap_setCell_same X _ k cur 51 v h.blk, (Below.heap_setCell X ⟨w.heap.size, k, none⟩ v _ (show w.heap.size + 1 ≠ w.heap.size by omega)).trans h.res, ⟨h.bel.os, h.bel.tape, h.bel.output, Nat.le_trans h.bel.size (by simp), fun i hi => (Below.heap_setCell X ⟨w.heap.size, k, none⟩ v i (show i ≠ w.heap.size by omega)).trans (h.bel.block i hi)⟩⟩
theorem CpS.cell {w X : World} {cur : Array Value} (h : CpS w X cur) {k : Nat} {v : Value} (hk : cur[k]? = some v) : X.cell? ⟨w.heap.size, k, none⟩ = some v := by
  rw [cell_of_row X _ k cur 51 (0, 0) h.blk]; exact hk
theorem CpS.fro {w X : World} {cur : Array Value} (h : CpS w X cur) (k : Nat) : X.frozen? ⟨w.heap.size, k, none⟩ = false := by simp [World.frozen?, h.blk]
theorem cpGet {cur : Array Value} {k j : Nat} {v u : Value} (hj : j ≠ k) (h : cur[k]? = some v) : (cur.setIfInBounds j u)[k]? = some v := by
  rw [Array.getElem?_setIfInBounds_ne hj]; exact h
theorem Zc_i : (Try.prog.info? 51).map (·.size) = some Zc.toArray.size := by kernel_rfl
theorem Zc_o : Zc.toArray.all (·.oneCell') = true := by kernel_rfl
theorem one_set {cur : Array Value} (h : cur.all (·.oneCell') = true) (k : Nat) {v : Value} (hv : v.oneCell' = true) : (cur.setIfInBounds k v).all (·.oneCell') = true := by
  rw [Array.all_eq_true_iff_forall_mem] at h ⊢
  intro u hu
  rcases Array.mem_or_eq_of_mem_setIfInBounds hu with e | e
  · exact h u e
  · rw [e]; exact hv
theorem wpList_store_rowF {ops : Array Oper} {rest : List Oper} {o : Oper} {a : Act} {w : World} {Q : Exit → Act → World → Prop} (hgd : o.guard = none) (ty : TypeId) (x y : Operand) (ho : o.op = .store ty x y)
    (g : Nat) (cells : Array Value) (hx : a.eval x = .pointer (some ⟨g, 0, none⟩)) (hy : a.eval y = .agg cells)
    (t : TypeId) (old : Array Value) (hg : w.heap[g]? = some (.cells old t (0, 0))) (hi : (Try.prog.info? ty).map (·.size) = some cells.size)
    (hold : old.size = cells.size) (h1 : cells.all (·.oneCell') = true)
    (h : ∀ w2, Hid (w2 = w.setRow g cells) → wpList Try.prog ops Q rest (a.put o.dst undef) w2) : wpList Try.prog ops Q (o :: rest) a w :=
  wpList_store_row hgd ty x y ho g cells hx hy t old hg hi hold h1 (h _ rfl)
def cp6 (c : Array Value) (v9 v20 v24 v25 v27 v28 : Value) : Array Value := (((((c.setIfInBounds 9 v9).setIfInBounds 20 v20).setIfInBounds 24 v24).setIfInBounds 25 v25).setIfInBounds 27 v27).setIfInBounds 28 v28
theorem cp6_size (c : Array Value) (v9 v20 v24 v25 v27 v28 : Value) : (cp6 c v9 v20 v24 v25 v27 v28).size = c.size := by simp [cp6]
theorem cp6_one {w0 x1 x2 x3 x4 x5 x6 : World} {c : Array Value} (h0 : c.all (·.oneCell') = true) {v9 v20 v24 v25 v27 v28 : Value} (n9 : NsR w0 x1 3 v9) (n20 : NsR w0 x2 2 v20) (n24 : NsR w0 x3 1 v24) (n25 : NsR w0 x4 11 v25) (n27 : NsR w0 x5 1 v27) (n28 : NsR w0 x6 1 v28) : (cp6 c v9 v20 v24 v25 v27 v28).all (·.oneCell') = true :=
  one_set (one_set (one_set (one_set (one_set (one_set h0 9 n9.one) 20 n20.one) 24 n24.one) 25 n25.one) 27 n27.one) 28 n28.one
theorem CpS.kp {w0 w X X1 : World} {cur : Array Value} (h : CpS w X cur) (h0 : w0.heap.size ≤ w.heap.size) (k : Nat) (v : Value) (hb : Below (X.setCell ⟨w.heap.size, k, none⟩ v).heap.size (X.setCell ⟨w.heap.size, k, none⟩ v) X1) : Kp w0 X X1 := by
  refine ⟨Nat.le_trans (by simp) hb.size, fun i hi => ?_, fun i cur t f hi h1 h2 h3 => ?_⟩
  · have := h.bel.size
    exact (hb.block i (by simp; omega)).trans (Below.heap_setCell X ⟨w.heap.size, k, none⟩ v i (show i ≠ w.heap.size by omega))
  · have e1 : i ≠ w.heap.size := fun e => by subst e; rw [h.blk] at hi; cases hi; exact h1 rfl
    exact (hb.block i (by have := heap_lt hi; simp; omega)).trans (Below.heap_setCell X ⟨w.heap.size, k, none⟩ v i e1)
theorem EnR.cp6 {w0 w w' : World} {c : List Value} {e : En} (h : EnR w0 w c e) {v9 v20 v24 v25 v27 v28 : Value} (n9 : NsR w0 w' 3 v9) (n20 : NsR w0 w' 2 v20) (n24 : NsR w0 w' 1 v24) (n25 : NsR w0 w' 11 v25) (n27 : NsR w0 w' 1 v27) (n28 : NsR w0 w' 1 v28) : EnR w0 w' (cp6 c.toArray v9 v20 v24 v25 v27 v28).toList e := by
  have hl := h.len
  have hs : c.toArray.size = 29 := by simpa using hl
  refine ⟨?_, ?_, ?_, ?_, ?_, ?_, ⟨v9, ?_, n9⟩, ⟨v20, ?_, n20⟩, ⟨v24, ?_, n24⟩, ⟨v25, ?_, n25⟩, ⟨v27, ?_, n27⟩, ⟨v28, ?_, n28⟩⟩
  · simp [Go.Proofs.Ytdkmlgkljhhokaa.cp6, hl]
  · rw [Array.getElem?_toList]; unfold Go.Proofs.Ytdkmlgkljhhokaa.cp6; repeat rw [Array.getElem?_setIfInBounds_ne (by decide)]
    simpa using h.c0
  · rw [Array.getElem?_toList]; unfold Go.Proofs.Ytdkmlgkljhhokaa.cp6; repeat rw [Array.getElem?_setIfInBounds_ne (by decide)]
    simpa using h.c1
  · rw [Array.getElem?_toList]; unfold Go.Proofs.Ytdkmlgkljhhokaa.cp6; repeat rw [Array.getElem?_setIfInBounds_ne (by decide)]
    simpa using h.c2
  · rw [Array.getElem?_toList]; unfold Go.Proofs.Ytdkmlgkljhhokaa.cp6; repeat rw [Array.getElem?_setIfInBounds_ne (by decide)]
    simpa using h.c5
  · have h0 : c.toArray.all (·.oneCell') = true := all_oneCell_toArray h.one
    have := one_set (one_set (one_set (one_set (one_set (one_set h0 9 n9.one) 20 n20.one) 24 n24.one) 25 n25.one) 27 n27.one) 28 n28.one
    intro u hu
    exact (Array.all_eq_true_iff_forall_mem.1 this) u (by simpa [Go.Proofs.Ytdkmlgkljhhokaa.cp6] using hu)
  all_goals
    rw [Array.getElem?_toList]
    unfold Go.Proofs.Ytdkmlgkljhhokaa.cp6
    repeat rw [Array.getElem?_setIfInBounds_ne (by decide)]
    rw [Array.getElem?_setIfInBounds_self_of_lt (by simp [hl])]

set_option maxHeartbeats 4000000 in
set_option maxRecDepth 100000 in
theorem copyEntry_any (w0 w : World) (h0 : w0.heap.size ≤ w.heap.size) (c : List Value) (e : En) (h : EnR w0 w c e) : Calls Try.prog 33 #[.agg c.toArray] w fun en w' => ∃ c', en = .returned (.agg c'.toArray) ∧ EnR w0 w' c' e ∧ Below w.heap.size w w' := by
  obtain ⟨v9, e9, m9⟩ := h.n9
  obtain ⟨v20, e20, m20⟩ := h.n20
  obtain ⟨v24, e24, m24⟩ := h.n24
  obtain ⟨v25, e25, m25⟩ := h.n25
  obtain ⟨v27, e27, m27⟩ := h.n27
  obtain ⟨v28, e28, m28⟩ := h.n28
  have q9 : c.toArray[9]? = some v9 := by simpa using e9
  have q20 : c.toArray[20]? = some v20 := by simpa using e20
  have q24 : c.toArray[24]? = some v24 := by simpa using e24
  have q25 : c.toArray[25]? = some v25 := by simpa using e25
  have q27 : c.toArray[27]? = some v27 := by simpa using e27
  have q28 : c.toArray[28]? = some v28 := by simpa using e28
  have H := hidOf h
  have HQ := hidOf (show _ ∧ _ ∧ _ ∧ _ ∧ _ ∧ _ from ⟨q9, q20, q24, q25, q27, q28⟩)
  have HM := hidOf (show _ ∧ _ ∧ _ ∧ _ ∧ _ ∧ _ from ⟨m9, m20, m24, m25, m27, m28⟩)
  have HZ := hidOf (CpS.new w c.toArray)
  have hsz : c.toArray.size = 29 := by simpa using h.len
  have hone : c.toArray.all (·.oneCell') = true := all_oneCell_toArray h.one
  clear e9 e20 e24 e25 e27 e28 q9 q20 q24 q25 q27 q28 m9 m20 m24 m25 m27 m28 h
  generalize hca : c.toArray = ca at *
  have HCA := hidOf hca
  have HSZ := hidOf hsz
  clear hca hsz
  have HO1 := hidOf hone
  clear hone
  have q9 := HQ.out.1
  go_enter Try.func33, Try.ntmps33
  go_wp2_with (first
    | (go_at_call 40; refine (cl40 w0 _ v9 (HM.out.1.kp (Kp.bel h0 HZ.out.bel))).mono ?_; rintro e w1 ⟨u9, rfl, n9, hb⟩; obtain ⟨a9, l9, t9, hu⟩ := n9.form; subst hu; have N9 := hidOf n9; have B9 := hidOf hb; have A1 := hidOf (HZ.out.call hb); have x9 := A1.out.cell HQ.out.1; have y9 := A1.out.fro 9; have x20 := A1.out.cell HQ.out.2.1; clear hb n9)
    | (go_at_call 41; refine (cl41 w0 _ v20 (HM.out.2.1.kp (Kp.bel h0 (A1.out.set 9 (.slice a9 l9 t9)).bel))).mono ?_; rintro e w2 ⟨u20, rfl, n20, hb⟩; obtain ⟨a20, l20, t20, hu⟩ := n20.form; subst hu; have N20 := hidOf n20; have B20 := hidOf hb; have A2 := hidOf ((A1.out.set 9 (.slice a9 l9 t9)).call hb); clear x9 y9 x20; have x20 := A2.out.cell (cpGet (u := .slice a9 l9 t9) (by decide) HQ.out.2.1); have y20 := A2.out.fro 20; have x24 := A2.out.cell (cpGet (u := .slice a9 l9 t9) (by decide) HQ.out.2.2.1); clear hb n20)
    | (go_at_call 42; refine (cl42 w0 _ v24 (HM.out.2.2.1.kp (Kp.bel h0 (A2.out.set 20 (.slice a20 l20 t20)).bel))).mono ?_; rintro e w3 ⟨u24, rfl, n24, hb⟩; obtain ⟨a24, l24, t24, hu⟩ := n24.form; subst hu; have N24 := hidOf n24; have B24 := hidOf hb; have A3 := hidOf ((A2.out.set 20 (.slice a20 l20 t20)).call hb); clear x20 y20 x24; have x24 := A3.out.cell (cpGet (u := .slice a20 l20 t20) (by decide) (cpGet (u := .slice a9 l9 t9) (by decide) HQ.out.2.2.1)); have y24 := A3.out.fro 24; have x25 := A3.out.cell (cpGet (u := .slice a20 l20 t20) (by decide) (cpGet (u := .slice a9 l9 t9) (by decide) HQ.out.2.2.2.1)); clear hb n24)
    | (go_at_call 43; refine (cl43 w0 _ v25 (HM.out.2.2.2.1.kp (Kp.bel h0 (A3.out.set 24 (.slice a24 l24 t24)).bel))).mono ?_; rintro e w4 ⟨u25, rfl, n25, hb⟩; obtain ⟨a25, l25, t25, hu⟩ := n25.form; subst hu; have N25 := hidOf n25; have B25 := hidOf hb; have A4 := hidOf ((A3.out.set 24 (.slice a24 l24 t24)).call hb); clear x24 y24 x25; have x25 := A4.out.cell (cpGet (u := .slice a24 l24 t24) (by decide) (cpGet (u := .slice a20 l20 t20) (by decide) (cpGet (u := .slice a9 l9 t9) (by decide) HQ.out.2.2.2.1))); have y25 := A4.out.fro 25; have x27 := A4.out.cell (cpGet (u := .slice a24 l24 t24) (by decide) (cpGet (u := .slice a20 l20 t20) (by decide) (cpGet (u := .slice a9 l9 t9) (by decide) HQ.out.2.2.2.2.1))); clear hb n25)
    | (go_at_call 42; refine (cl42 w0 _ v27 (HM.out.2.2.2.2.1.kp (Kp.bel h0 (A4.out.set 25 (.slice a25 l25 t25)).bel))).mono ?_; rintro e w5 ⟨u27, rfl, n27, hb⟩; obtain ⟨a27, l27, t27, hu⟩ := n27.form; subst hu; have N27 := hidOf n27; have B27 := hidOf hb; have A5 := hidOf ((A4.out.set 25 (.slice a25 l25 t25)).call hb); clear x25 y25 x27; have x27 := A5.out.cell (cpGet (u := .slice a25 l25 t25) (by decide) (cpGet (u := .slice a24 l24 t24) (by decide) (cpGet (u := .slice a20 l20 t20) (by decide) (cpGet (u := .slice a9 l9 t9) (by decide) HQ.out.2.2.2.2.1)))); have y27 := A5.out.fro 27; have x28 := A5.out.cell (cpGet (u := .slice a25 l25 t25) (by decide) (cpGet (u := .slice a24 l24 t24) (by decide) (cpGet (u := .slice a20 l20 t20) (by decide) (cpGet (u := .slice a9 l9 t9) (by decide) HQ.out.2.2.2.2.2)))); clear hb n27)
    | (go_at_call 42; refine (cl42 w0 _ v28 (HM.out.2.2.2.2.2.kp (Kp.bel h0 (A5.out.set 27 (.slice a27 l27 t27)).bel))).mono ?_; rintro e w6 ⟨u28, rfl, n28, hb⟩; obtain ⟨a28, l28, t28, hu⟩ := n28.form; subst hu; have N28 := hidOf n28; have B28 := hidOf hb; have A6 := hidOf ((A5.out.set 27 (.slice a27 l27 t27)).call hb); clear x27 y27 x28; have x28 := A6.out.cell (cpGet (u := .slice a27 l27 t27) (by decide) (cpGet (u := .slice a25 l25 t25) (by decide) (cpGet (u := .slice a24 l24 t24) (by decide) (cpGet (u := .slice a20 l20 t20) (by decide) (cpGet (u := .slice a9 l9 t9) (by decide) HQ.out.2.2.2.2.2))))); have y28 := A6.out.fro 28; clear hb n28)
    | (refine wpList_load_row rfl 51 (.tmp 1) rfl w.heap.size rfl 51 (cp6 ca (.slice a9 l9 t9) (.slice a20 l20 t20) (.slice a24 l24 t24) (.slice a25 l25 t25) (.slice a27 l27 t27) (.slice a28 l28 t28)) (0, 0) _ (A6.out.set 28 (.slice a28 l28 t28)).blk Try.underlying51 rfl (by rw [cp6_size, HSZ.out]; exact Zc_i) ?_)
    | (refine wpList_store_rowF rfl 51 (.tmp 2) (.tmp 63) rfl (w.heap.size + 1) (cp6 ca (.slice a9 l9 t9) (.slice a20 l20 t20) (.slice a24 l24 t24) (.slice a25 l25 t25) (.slice a27 l27 t27) (.slice a28 l28 t28)) rfl rfl 51 Zc.toArray (A6.out.set 28 (.slice a28 l28 t28)).res (by rw [cp6_size, HSZ.out]; exact Zc_i) (by rw [cp6_size, HSZ.out]; rfl) (cp6_one HO1.out N9.out N20.out N24.out N25.out N27.out N28.out) ?next))
  case next =>
    intro w7 hw7
    have KN9 := hidOf ((((((N9.out.kp (A1.out.kp h0 9 (.slice a9 l9 t9) B20.out)).kp (A2.out.kp h0 20 (.slice a20 l20 t20) B24.out)).kp (A3.out.kp h0 24 (.slice a24 l24 t24) B25.out)).kp (A4.out.kp h0 25 (.slice a25 l25 t25) B27.out)).kp (A5.out.kp h0 27 (.slice a27 l27 t27) B28.out)))
    have KN20 := hidOf (((((N20.out.kp (A2.out.kp h0 20 (.slice a20 l20 t20) B24.out)).kp (A3.out.kp h0 24 (.slice a24 l24 t24) B25.out)).kp (A4.out.kp h0 25 (.slice a25 l25 t25) B27.out)).kp (A5.out.kp h0 27 (.slice a27 l27 t27) B28.out)))
    have KN24 := hidOf ((((N24.out.kp (A3.out.kp h0 24 (.slice a24 l24 t24) B25.out)).kp (A4.out.kp h0 25 (.slice a25 l25 t25) B27.out)).kp (A5.out.kp h0 27 (.slice a27 l27 t27) B28.out)))
    have KN25 := hidOf (((N25.out.kp (A4.out.kp h0 25 (.slice a25 l25 t25) B27.out)).kp (A5.out.kp h0 27 (.slice a27 l27 t27) B28.out)))
    have KN27 := hidOf ((N27.out.kp (A5.out.kp h0 27 (.slice a27 l27 t27) B28.out)))
    have HK : Hid (Kp w0 w6 w7) := hidOf ⟨by rw [hw7.out]; simp [World.setRow], fun k hk => by rw [hw7.out]; exact (setRow_other _ _ _ _ (by omega)).trans (Below.heap_setCell _ ⟨w.heap.size, 28, none⟩ _ k (show k ≠ w.heap.size by omega)), fun k cur t f hk h1 h2 h3 => by
      have e1 : k ≠ w.heap.size := fun e => by subst e; rw [A6.out.blk] at hk; cases hk; exact h1 rfl
      have e2 : k ≠ w.heap.size + 1 := fun e => by subst e; rw [A6.out.res] at hk; cases hk; exact h1 rfl
      rw [hw7.out]
      exact (setRow_other _ _ _ _ e2).trans (Below.heap_setCell _ ⟨w.heap.size, 28, none⟩ _ k e1)⟩
    have HR : Hid (w7.heap[w.heap.size + 1]? = some (.cells (cp6 ca (.slice a9 l9 t9) (.slice a20 l20 t20) (.slice a24 l24 t24) (.slice a25 l25 t25) (.slice a27 l27 t27) (.slice a28 l28 t28)) 51 (0, 0))) := by
      show _ = _
      rw [hw7.out]
      exact setRow_heap _ _ _ _ 51 _ (A6.out.set 28 (.slice a28 l28 t28)).res
    have HB : Hid (Below w.heap.size w w7) := by
      have hq := (A6.out.set 28 (.slice a28 l28 t28)).bel
      refine hidOf ⟨by rw [hw7.out]; exact hq.os, by rw [hw7.out]; exact hq.tape, by rw [hw7.out]; exact hq.output, ?_, fun k hk => ?_⟩
      · rw [hw7.out]; exact Nat.le_trans hq.size (by simp [World.setRow])
      · rw [hw7.out]; exact (setRow_other _ _ _ _ (by omega)).trans (hq.block k hk)
    clear hw7
    go_wp2
    refine bodyPost_ret (v := .agg (cp6 ca (.slice a9 l9 t9) (.slice a20 l20 t20) (.slice a24 l24 t24) (.slice a25 l25 t25) (.slice a27 l27 t27) (.slice a28 l28 t28))) ?_ rfl ⟨(cp6 ca (.slice a9 l9 t9) (.slice a20 l20 t20) (.slice a24 l24 t24) (.slice a25 l25 t25) (.slice a27 l27 t27) (.slice a28 l28 t28)).toList, by simp, ?_, HB.out⟩
    · refine results_cell_row Try.results33 _ _ (w.heap.size + 1) 51 _ (0, 0) _ ?_ HR.out Try.underlying51 rfl (by rw [cp6_size, HSZ.out]; exact Zc_i)
      rfl
    · rw [← HCA.out]
      exact EnR.cp6 H.out (KN9.out.kp HK.out) (KN20.out.kp HK.out) (KN24.out.kp HK.out) (KN25.out.kp HK.out) (KN27.out.kp HK.out) (N28.out.kp HK.out)
end Go.Proofs.Ytdkmlgkljhhokaa
