/- New, Cut, Sync. -/
import Derived.Test.YtkienmncifonnaaDoorDmd
namespace Go.Proofs.YtkienmncifonnaaDoor
open Go.RowKit Go.Maps

theorem Fr.setp (w : World) (p bF bD : Nat) (DF DD : DataW Value) (dn : Value) (Z : List Value) (j : Nat) (u : Value) : Fr w (w.setCell ⟨p, j, none⟩ u) (Ft p bF bD DF DD dn Z) (Ft p bF bD DF DD dn Z) :=
  ⟨rfl, rfl, rfl, by simp, fun k _ hF => Below.heap_setCell w ⟨p, j, none⟩ u k (fun e => hF (.inl e)), fun _ h => .inl h⟩
theorem DkR.setLeft {w : World} {p : Nat} {M : Md} {cnt bF bD : Nat} {DF DD : DataW Value} {dn : Value} {G : List Gd} (h : DkR w p M cnt bF bD DF DD dn G) (n : Int) (hn : -1 ≤ n ∧ n ≤ 1099511627776) : DkR (w.setCell ⟨p, 3, none⟩ (.int .i64 n)) p ⟨M.files, M.dur, M.done, n⟩ cnt bF bD DF DD dn G := by
  have kt : KeepT w (w.setCell ⟨p, 3, none⟩ (.int .i64 n)) := (Tch.setp w p dn.ownBlock 3 _).keepT h.blk h.row
  obtain ⟨n1, hn1, hm1⟩ := h.mF
  obtain ⟨n2, hn2, hm2⟩ := h.mD
  exact ⟨dskB_left h.blk n, ⟨n1, hn1, hm1.keepT kt⟩, ⟨n2, hn2, hm2.keepT kt⟩, h.ne, h.hF, h.hD, h.liv.keepT kt, ownsRow_kept h.row (fun k hk => Below.heap_setCell w ⟨p, 3, none⟩ _ k (fun e => h.rowNe (by rw [hk, e]))), h.done, fun g hg => (h.deed g hg).keepT kt, hn, h.cn⟩
theorem DkR.count {w w' : World} {p : Nat} {M : Md} {cnt bF bD : Nat} {DF DD : DataW Value} {dn : Value} {G : List Gd} (h : DkR w p M cnt bF bD DF DD dn G) (hw : w' = if 0 < M.left then w.setCell ⟨p, 3, none⟩ (.int .i64 (M.left - 1)) else w) : DkR w' p ⟨M.files, M.dur, M.done, lessOne M.left⟩ cnt bF bD DF DD dn G ∧ Fr w w' (Ft p bF bD DF DD dn (G.map (·.z))) (Ft p bF bD DF DD dn (G.map (·.z))) := by
  have hl := h.leb
  unfold lessOne
  by_cases e : 0 < M.left
  · rw [if_pos e] at hw ⊢
    subst hw
    exact ⟨h.setLeft _ (by omega), Fr.setp _ _ _ _ _ _ _ _ _ _⟩
  · rw [if_neg e] at hw ⊢
    subst hw
    exact ⟨h, Fr.refl _ _⟩

def fs0 : FS := fun _ => none
def M0 : Md := ⟨fs0, fs0, [], -1⟩
theorem mapR_new (w : World) : MapR (w.alloc (.map #[] 0)) w.heap.size 0 (.map []) := World.ownsMap_made w Tryd.prog 9 RV
theorem vAt_new (k : Nm) : vAt (.map []) k = .slice none 0 0 := rfl
theorem has_new (k : Nm) : Maps.has (.map [] : DataW Value) (.string k) = false := rfl
set_option maxHeartbeats 1000000 in
theorem new_any (w : World) : Calls Tryd.prog 6 #[] w fun e w' => e = .returned (.pointer (some ⟨w.heap.size + 1 + 1, 0, none⟩)) ∧ w' = (((w.alloc (.map #[] 0)).alloc (.map #[] 0)).alloc (.cells #[.map (some w.heap.size), .map (some (w.heap.size + 1)), .slice none 0 0, .int .i64 (-1)] 82)) := by
  have hmm := @run_makeMap Tryd.prog
  go_enter Tryd.func6, Tryd.ntmps6
  go_wp2
  go_ret
  exact ⟨rfl, rfl⟩
theorem newR (w : World) : DkR (((w.alloc (.map #[] 0)).alloc (.map #[] 0)).alloc (.cells #[.map (some w.heap.size), .map (some (w.heap.size + 1)), .slice none 0 0, .int .i64 (-1)] 82)) (w.heap.size + 1 + 1) M0 0 w.heap.size (w.heap.size + 1) (.map []) (.map []) (.slice none 0 0) [] := by
  have e1 : (w.alloc (.map #[] 0)).heap.size = w.heap.size + 1 := by simp
  have e2 : ((w.alloc (.map #[] 0)).alloc (.map #[] 0)).heap.size = w.heap.size + 1 + 1 := by simp
  have hb := heap_alloc_new ((w.alloc (.map #[] 0)).alloc (.map #[] 0)) (.cells #[.map (some w.heap.size), .map (some (w.heap.size + 1)), .slice none 0 0, .int .i64 (-1)] 82)
  rw [e2] at hb
  have hm2 := mapR_new (w.alloc (.map #[] 0))
  rw [e1] at hm2
  refine ⟨hb, ⟨0, Nat.le_refl _, ((mapR_new w).below (below1 _ _)).below (below1 _ _)⟩, ⟨0, by simp, hm2.below (below1 _ _)⟩, by omega, fun k => rfl, fun k => rfl, ⟨fun s k => ?_, fun s k s' k' _ => ?_, fun s k z hz => (by cases hz)⟩, ⟨rfl, .inl ⟨rfl, rfl⟩⟩, rfl, fun g hg => (by cases hg), by decide, by omega⟩
  · cases s <;> exact SlR.nil _
  · cases s <;> exact Sep.nil' _
theorem new_foot (w : World) : ∀ k, Ft (w.heap.size + 1 + 1) w.heap.size (w.heap.size + 1) (.map []) (.map []) (.slice none 0 0) [] k → w.heap.size ≤ k := by
  intro k hk
  rcases hk with rfl | rfl | rfl | e | ⟨s, j, e⟩ | ⟨_, e, _⟩
  · omega
  · omega
  · omega
  · cases e
  · cases s <;> cases e
  · cases e

theorem mkD_all (l : List (Nat × Dd)) (h : ∀ x ∈ l, 1 ≤ x.1) : ∀ fs, mkD l (sumU l) fs = rep l fs := by
  induction l with
  | nil => intro fs; rfl
  | cons y l ih =>
    intro fs
    obtain ⟨v, x⟩ := y
    have h1 := h (v, x) (by simp)
    have e : sumU ((v, x) :: l) = v + sumU l := by simp [sumU]
    have e2 : min (v + sumU l) v = v := by omega
    rw [e]
    unfold mkD
    rw [e2, if_neg (by simp at h1; omega), show v + sumU l - v = sumU l by omega, ih (fun z hz => h z (by simp [hz]))]
    rfl

set_option maxHeartbeats 1000000 in
theorem sync_cut (p cnt bF bD : Nat) (M : Md) (DF DD : DataW Value) (dn : Value) (G : List Gd) (w : World) (h : DkR w p M cnt bF bD DF DD dn G) (hl : M.left = 0) : Calls Tryd.prog 30 #[.pointer (some ⟨p, 0, none⟩)] w fun e w' => e = .returned (.int .i64 11) ∧ w' = w := by
  have HC := isCut_any p bF bD dn M.left w h.blk
  rw [show decide (M.left = 0) = true by simp [hl]] at HC
  have HC := hidOf HC
  clear h hl
  go_enter Tryd.func30, Tryd.ntmps30
  go_wp2_with (go_at_call 49; refine HC.out.mono ?_; rintro e w' ⟨rfl, rfl⟩)
  go_ret
  exact ⟨rfl, rfl⟩
set_option maxHeartbeats 2000000 in
set_option maxRecDepth 100000 in
theorem sync_ok (p cnt bF bD : Nat) (M : Md) (DF DD : DataW Value) (dn : Value) (G : List Gd) (w : World) (h : DkR w p M cnt bF bD DF DD dn G) (hl : M.left ≠ 0) (hU : ∀ x ∈ M.done, 1 ≤ x.1 ∧ x.1 ≤ 1048576) (hbd : ∀ k, Bd (rep (M.done.take k) M.dur)) (hc : cnt ≤ 2199023255552) : Calls Tryd.prog 30 #[.pointer (some ⟨p, 0, none⟩)] w fun e w' => e = .returned (.int .i64 0) ∧ ∃ DD', DkR w' p ⟨M.files, rep M.done M.dur, [], lessOne M.left⟩ cnt bF bD DF DD' (.slice none 0 0) [] ∧ Fr w w' (Ft p bF bD DF DD dn (G.map (·.z))) (Ft p bF bD DF DD' (.slice none 0 0) []) := by
  have HC := isCut_any p bF bD dn M.left w h.blk
  rw [show decide (M.left = 0) = false by simp [hl]] at HC
  have HC := hidOf HC
  have hle := h.leb.2
  have hsum : sumU M.done ≤ M.done.length * 1048576 := by
    have h1 := sumU_le M.done 1048576 (fun x hx => (hU x hx).2) M.done.length
    rwa [List.take_length] at h1
  have hlg := h.lenG
  have hU2 : ∀ x ∈ M.done, x.1 ≤ 1048576 := fun x hx => (hU x hx).2
  have HU := hidOf (units_any p cnt bF bD M DF DD dn G w h hU2)
  have HEQ := hidOf (mkD_all M.done (fun x hx => (hU x hx).1) M.dur)
  have HUU := hidOf hU
  have HBD := hidOf hbd
  have H := hidOf h
  generalize hs : sumU M.done = s at *
  clear h hl hU hbd hU2 hs
  go_enter Tryd.func30, Tryd.ntmps30
  go_wp2_with (first
    | (go_at_call 49; refine HC.out.mono ?_; rintro e w' ⟨rfl, rfl⟩)
    | (go_at_call 51; refine HU.out.mono ?_; rintro e w1 ⟨rfl, hb⟩; have HB := hidOf hb; clear hb)
    | (go_at_call 50; refine (makeDurable_any p cnt bF bD M DF DD dn G _ (H.out.below HB.out) s (by omega) HUU.out HBD.out hc).mono ?_; rintro e w2 ⟨rfl, hp⟩; rw [HEQ.out] at hp; have HP := hidOf hp; obtain ⟨DD', hd2, hf2⟩ := hp; have H2 := hidOf hd2; have F2 := hidOf hf2; clear hd2 hf2)
    | (go_at_call 52; refine (countOne_any p bF bD _ M.left _ H2.out.blk hle).mono ?_; rintro e w3 ⟨rfl, hw⟩; have HW := hidOf hw; clear hw))
  go_ret
  obtain ⟨g1, g2⟩ := H2.out.count HW.out
  exact ⟨rfl, DD', g1, ((Fr.of_below HB.out).trans F2.out).trans g2⟩
end Go.Proofs.YtkienmncifonnaaDoor
