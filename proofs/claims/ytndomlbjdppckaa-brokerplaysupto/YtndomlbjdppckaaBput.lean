/- putBack, Nack. -/
import Derived.Test.YtndomlbjdppckaaBde
namespace Go.Proofs.Ytndomlbjdppckaa
open Go.RowKit
variable {D : Nat}

/- a worker has it no more -/
def nk (x : Itm) : Itm := if x.cn = 3 then { x with tk := false, cn := 0, dl := 6 } else { x with tk := false }
structure IvI (x : Itm) : Prop where
  had : x.tk = true → x.dl = 0 ∧ 0 ≤ x.tc ∧ x.tc < 12
  free : x.tk = false → x.cn ≤ 2
  d0 : 0 ≤ x.dl
  d6 : x.dl ≤ 6
  c0 : 0 ≤ x.cn
  c3 : x.cn ≤ 3
def Iv (L : List (Nat × Itm)) : Prop := ∀ x ∈ L, IvI x.2
def TP : List Nat := [65, 78, 82]

theorem HM.mem {M : List It} {L : List (Nat × Itm)} (h : HM M L) (hn : (L.map (·.1)).Nodup) {i b : Nat} {x : Itm} (hi : L[i]? = some (b, x)) {a : It} (ha : a ∈ M) (e : a.p = b) : a.x = x := by
  obtain ⟨j, hj⟩ := List.mem_iff_getElem?.1 (h.sub a ha).1
  have := nd_inj hn hi hj e.symm
  subst this
  rw [hi] at hj
  have h2 := Option.some.inj hj
  exact (congrArg Prod.snd h2).symm
theorem HM.other {M : List It} {L : List (Nat × Itm)} (h : HM M L) (hn : (L.map (·.1)).Nodup) {i b : Nat} {x y : Itm} (hi : L[i]? = some (b, x)) (hx : fr x = false) (hy : fr y = false) : HM M (L.set i (b, y)) := by
  refine ⟨fun a ha => ⟨set_mem hi (h.sub a ha).1 (fun e => ?_), (h.sub a ha).2⟩, fun z hz hf => ?_, h.nd⟩
  · have := h.mem hn hi ha e
    rw [← this, (h.sub a ha).2] at hx; cases hx
  · rcases mem_set hn hi hz with rfl | ⟨h1, _⟩
    · rw [hy] at hf; cases hf
    · exact h.all z h1 hf
theorem HM.push {M : List It} {L : List (Nat × Itm)} (h : HM M L) (hn : (L.map (·.1)).Nodup) {i b : Nat} {x y : Itm} (hi : L[i]? = some (b, x)) (hx : fr x = false) (hy : fr y = true) (c : Int) : HM (M ++ [⟨b, y, c⟩]) (L.set i (b, y)) := by
  have hne : ∀ a ∈ M, a.p ≠ b := fun a ha e => by
    have := h.mem hn hi ha e
    rw [← this, (h.sub a ha).2] at hx; cases hx
  refine ⟨fun a ha => ?_, fun z hz hf => ?_, ?_⟩
  · rcases List.mem_append.1 ha with ha | ha
    · exact ⟨set_mem hi (h.sub a ha).1 (hne a ha), (h.sub a ha).2⟩
    · rw [List.mem_singleton.1 ha]; exact ⟨set_self hi, hy⟩
  · rcases mem_set hn hi hz with rfl | ⟨h1, _⟩
    · exact ⟨_, List.mem_append_right _ (List.mem_singleton.2 rfl), rfl⟩
    · obtain ⟨a, ha, e⟩ := h.all z h1 hf
      exact ⟨a, List.mem_append_left _ ha, e⟩
  · rw [List.map_append]
    refine List.nodup_append.2 ⟨h.nd, by simp, ?_⟩
    intro a ha b' hb'
    obtain ⟨c', hc', rfl⟩ := List.mem_map.1 ha
    simp at hb'
    rw [hb']; exact hne c' hc'
theorem map_nodup {α β : Type} {f : α → β} {M : List α} (h : (M.map f).Nodup) : M.Nodup := by
  have := List.pairwise_map.1 h
  exact this.imp (fun h e => h (by rw [e]))
theorem HM.pop {M : List It} {L : List (Nat × Itm)} (h : HM M L) (hn : (L.map (·.1)).Nodup) {i : Nat} {m : It} (hm : m ∈ M) {y : Itm} (hi : L[i]? = some (m.p, m.x)) (hy : fr y = false) : HM (M.erase m) (L.set i (m.p, y)) := by
  have hM := map_nodup h.nd
  have hpm : ∀ a ∈ M, a.p = m.p → a = m := fun a ha e => by
    obtain ⟨j, hj⟩ := List.mem_iff_getElem?.1 ha
    obtain ⟨k, hk⟩ := List.mem_iff_getElem?.1 hm
    have hp := List.pairwise_iff_getElem.1 h.nd
    obtain ⟨l1, e1⟩ := List.getElem?_eq_some_iff.1 hj
    obtain ⟨l2, e2⟩ := List.getElem?_eq_some_iff.1 hk
    rcases Nat.lt_trichotomy j k with hl | hl | hl
    · have h9 := hp j k (by simpa using l1) (by simpa using l2) hl; simp only [List.getElem_map, e1, e2] at h9; exact absurd e h9
    · subst hl; rw [hj] at hk; exact Option.some.inj hk
    · have h9 := hp k j (by simpa using l2) (by simpa using l1) hl; simp only [List.getElem_map, e1, e2] at h9; exact absurd e.symm h9
  refine ⟨fun a ha => ?_, fun z hz hf => ?_, ?_⟩
  · obtain ⟨h1, h2⟩ := (List.Nodup.mem_erase_iff hM).1 ha
    exact ⟨set_mem hi (h.sub a h2).1 (fun e => h1 (hpm a h2 e)), (h.sub a h2).2⟩
  · rcases mem_set hn hi hz with rfl | ⟨h1, h3⟩
    · rw [hy] at hf; cases hf
    · obtain ⟨a, ha, e⟩ := h.all z h1 hf
      exact ⟨a, (List.Nodup.mem_erase_iff hM).2 ⟨fun e2 => h3 (by rw [← e, e2]), ha⟩, e⟩
  · exact List.Nodup.sublist (List.Sublist.map _ List.erase_sublist) h.nd
theorem HM.kn {M : List It} {L : List (Nat × Itm)} {w : World} {pB pH : Nat} {v : Value} (h : HM M L) (hL : Lst D w pB pH v L) : ∀ a ∈ M, Kn w a := fun a ha => hL.its _ (h.sub a ha).1

/- a cell of an item is written -/
theorem ItR.setc {w : World} {b : Nat} {x y : Itm} (h : ItR w b x) (j : Nat) (u : Value) (e : (itC x).setIfInBounds j u = itC y) : ItR (w.setCell ⟨b, j, none⟩ u) b y := by
  have h' : w.heap[b]? = some (.cells (itC x) 65 (0, 0)) := h
  show (w.setCell ⟨b, j, none⟩ u).heap[b]? = _
  rw [heap_setCell_same w b j _ 65 _ h', e]
/- an item written anew, with all else of the broker -/
theorem Lst.setc {w : World} {pB pH : Nat} {v : Value} {L : List (Nat × Itm)} (h : Lst D w pB pH v L) {i b : Nat} {x y : Itm} (hi : L[i]? = some (b, x)) (j : Nat) (u : Value) (e : (itC x).setIfInBounds j u = itC y) : Lst D (w.setCell ⟨b, j, none⟩ u) pB pH v (L.set i (b, y)) :=
  h.set hi ((ItR.setc (h.its _ (List.mem_of_getElem? hi)) j u e)) (fun k _ hk => Below.heap_setCell w ⟨b, j, none⟩ u k hk)
theorem get_set {L : List (Nat × Itm)} {i b : Nat} {x y : Itm} (h : L[i]? = some (b, x)) : (L.set i (b, y))[i]? = some (b, y) := List.getElem?_set_self (List.getElem?_eq_some_iff.1 h).1
theorem set_set {L : List (Nat × Itm)} {i b : Nat} {x y : Itm} : (L.set i (b, x)).set i (b, y) = L.set i (b, y) := List.set_set ..
theorem Lst.frt {w : World} {pB pH : Nat} {v : Value} {L : List (Nat × Itm)} (h : Lst D w pB pH v L) {T : List Nat} (hT : 65 ∈ T) {a : World} (hf : FrT D T a w) {i b : Nat} {x : Itm} (hi : L[i]? = some (b, x)) (j : Nat) (u : Value) : FrT D T a (w.setCell ⟨b, j, none⟩ u) :=
  FrT.set hf (h.its _ (List.mem_of_getElem? hi)) hT (h.li _ (List.mem_of_getElem? hi)) j u
theorem HpR.setc {w : World} {p n b : Nat} {M : List It} {r : Option Nat} {x : Itm} (h : HpR D w p M n r) (hx : ItR w b x) (j : Nat) (u : Value) : HpR D (w.setCell ⟨b, j, none⟩ u) p M n r :=
  h.keepT (D' := 0) (T := [65]) (FrT.set (FrT.refl _ _ w) hx (by decide) (Nat.zero_le _) j u) (by decide) (by decide)
theorem hpush_any (p n : Nat) (M : List It) (r : Option Nat) (b : Nat) (x : Itm) (w : World) (h : HpR D w p M n r) (hx : ItR w b x) (hK : ∀ a ∈ M, Kn w a) (hn : n < 8796093022207) : Calls Try.prog 35 #[.pointer (some ⟨p, 0, none⟩), .pointer (some ⟨b, 0, none⟩)] w fun e w' => e = .returned (.tuple #[]) ∧ ∃ r', HpR D w' p (M ++ [⟨b, x, n⟩]) (n + 1) r' ∧ FrT D [78, 82] w w' := by
  refine (push_any p n M r b x w h.h hx hK hn).mono ?_
  rintro e w' ⟨rfl, r', h1, h2⟩
  exact ⟨rfl, r', ⟨h1, h.lo, h2.rowD (Nat.le_of_lt (Nat.lt_of_le_of_lt h.lo h.h.lt.1)) h.lr⟩, h.frt h2⟩
theorem hpop_min (p n : Nat) (M : List It) (m : It) (r : Option Nat) (w : World) (h : HpR D w p M n r) (hm : MinOf M m) (hK : ∀ a ∈ M, Kn w a) (hn : n ≤ 8796093022208) : Calls Try.prog 30 #[.pointer (some ⟨p, 0, none⟩)] w fun e w' =>
    e = .returned (.tuple #[.pointer (some ⟨m.p, 0, none⟩), .bool true]) ∧ HpR D w' p (M.erase m) n r ∧ FrT D [78, 82] w w' := by
  refine (pop_min p n M m r w h.h hm hK hn).mono ?_
  rintro e w' ⟨rfl, h1, h2⟩
  exact ⟨rfl, ⟨h1, h.lo, h.lr⟩, h.frt h2⟩

set_option maxHeartbeats 4000000 in
set_option maxRecDepth 100000 in
theorem putBack_any (pB i b N : Nat) (x : Itm) (L : List (Nat × Itm)) (w : World) (hB : Bk D w pB L N) (hi : L[i]? = some (b, x)) (htk : x.tk = true) (hdl : x.dl = 0) (hN : N < 8796093022207) :
    Calls Try.prog 34 #[.pointer (some ⟨pB, 0, none⟩), .pointer (some ⟨b, 0, none⟩)] w fun e w' => e = .returned (.tuple #[]) ∧ Bk D w' pB (L.set i (b, nk x)) (N + 1) ∧ FrT D TP w w' := by
  obtain ⟨v, pH, M, n, r, hL, hH, hM, hn⟩ := hB.ex
  have hx := hL.its _ (List.mem_of_getElem? hi)
  have hbl : b < w.heap.size := ItR.lt hx
  obtain ⟨-, -, -, -, x4, x5, x6, -, -⟩ := ItR.cells hx
  have zf := ItR.frozen hx
  have hfx : fr x = false := by simp [fr, htk]
  have HX := hidOf hx
  have HL := hidOf hL
  have HH := hidOf hH
  have HI := hidOf hi
  have HHM := hidOf hM
  have HF0 : Hid (FrT D TP w w) := hidOf (FrT.refl _ _ w)
  obtain ⟨-, c1, -, -⟩ := hL.cells
  have hpl := heap_lt hL.blk
  simp only [ptr] at c1
  have hpb : pB ≠ b := by
    intro e
    have h1 := hL.blk
    have h2 : w.heap[b]? = some (.cells (itC x) 65 (0, 0)) := hx
    rw [e, h2] at h1; cases h1
  clear hB hL hH hM hi hx
  by_cases hc : x.cn = 3
  · have hcb : (x.cn == 3) = true := by simp [hc]
    have hnk : nk x = { x with tk := false, cn := 0, dl := 6 } := by unfold nk; rw [if_pos hc]
    have HNK := hidOf hnk
    clear hc hnk
    go_enter Try.func34, Try.ntmps34
    go_wp2
    refine bodyPost_ret (results_none rfl _ _ _) rfl ?_
    have L1 := HL.out.setc HI.out 6 (.bool false) (y := { x with tk := false }) rfl
    have L2 := L1.setc (get_set HI.out) 4 (.int .i64 0) (y := { x with tk := false, cn := 0 }) rfl
    have L3 := L2.setc (get_set (get_set HI.out)) 5 (.int .i64 6) (y := { x with tk := false, cn := 0, dl := 6 }) rfl
    have F1 := HL.out.frt (by decide) HF0.out HI.out 6 (.bool false)
    have F2 := L1.frt (by decide) F1 (get_set HI.out) 4 (.int .i64 0)
    have F3 := L2.frt (by decide) F2 (get_set (get_set HI.out)) 5 (.int .i64 6)
    have H1 := HH.out.setc HX.out 6 (.bool false)
    have H2 := H1.setc (L1.its _ (List.mem_of_getElem? (get_set HI.out))) 4 (.int .i64 0)
    have H3 := H2.setc (L2.its _ (List.mem_of_getElem? (get_set (get_set HI.out)))) 5 (.int .i64 6)
    simp only [set_set] at L3
    rw [HNK.out]
    exact ⟨rfl, ⟨v, pH, M, n, r, L3, H3, HHM.out.other HL.out.nd HI.out hfx rfl, by omega⟩, F3⟩
  · have hcb : (x.cn == 3) = false := by simp [hc]
    have hnk : nk x = { x with tk := false } := by unfold nk; rw [if_neg hc]
    have HNK := hidOf hnk
    clear hc hnk
    have L1 := hidOf (HL.out.setc HI.out 6 (.bool false) (y := { x with tk := false }) rfl)
    have F1 := hidOf (HL.out.frt (T := TP) (by decide) HF0.out HI.out 6 (.bool false))
    have H1 := hidOf (HH.out.setc HX.out 6 (.bool false))
    have K1 : Hid (∀ a ∈ M, Kn (w.setCell ⟨b, 6, none⟩ (.bool false)) a) := hidOf (fun a ha => by
      have h1 := (HHM.out.sub a ha)
      refine ItR.kept (HL.out.its _ h1.1) (Below.heap_setCell w ⟨b, 6, none⟩ _ a.p (fun e => ?_))
      have := HHM.out.mem HL.out.nd HI.out ha e
      rw [this, hfx] at h1; cases h1.2)
    have HP := hidOf (hpush_any pH n M r b { x with tk := false } _ H1.out (L1.out.its _ (List.mem_of_getElem? (get_set HI.out))) K1.out (by omega))
    go_enter Try.func34, Try.ntmps34
    go_wp2_with (go_at_call 35; refine HP.out.mono ?_; rintro e w1 ⟨rfl, r', hh, hns⟩)
    go_end0
    have F2 := hns
    rw [HNK.out]
    exact ⟨rfl, ⟨v, pH, _, n + 1, r', L1.out.keepT F2 (by decide) (by decide) (by decide), hh, HHM.out.push HL.out.nd HI.out hfx (by simp [fr, hdl]) n, by omega⟩, F1.out.trans (F2.mono (by decide))⟩

set_option maxHeartbeats 2000000 in
theorem nack_none (pB N : Nat) (L : List (Nat × Itm)) (wk : Int) (w : World) (hB : Bk D w pB L N) (hF : FI (hbP wk) L L.length) :
    Calls Try.prog 15 #[.pointer (some ⟨pB, 0, none⟩), .int .i64 wk] w fun e w' => e = .returned (.int .i64 3) ∧ Below w.heap.size w w' := by
  obtain ⟨v, pH, M, n, r, hL, hH, hM, hn⟩ := hB.ex
  have HC := hidOf (heldBy_any pB pH v L wk L.length (.pointer none) w hL hF (by simp))
  clear hB hL hH hM hF
  go_enter Try.func15, Try.ntmps15
  go_wp2_with (go_at_call 29; refine HC.out.mono ?_; rintro e w1 ⟨rfl, hb1⟩; have HB := hidOf hb1; clear hb1)
  go_ret
  exact ⟨rfl, HB.out⟩
set_option maxHeartbeats 2000000 in
theorem nack_some (pB N K b : Nat) (x : Itm) (L : List (Nat × Itm)) (wk : Int) (w : World) (hB : Bk D w pB L N) (hF : FI (hbP wk) L K) (hx : L[K]? = some (b, x)) (hI : IvI x) (hN : N < 8796093022207) :
    Calls Try.prog 15 #[.pointer (some ⟨pB, 0, none⟩), .int .i64 wk] w fun e w' => e = .returned (.int .i64 0) ∧ Bk D w' pB (L.set K (b, nk x)) (N + 1) ∧ FrT D TP w w' := by
  have htk : x.tk = true := by have := hF.hit _ hx; simp [hbP, hb] at this; exact this.1
  have HB0 := hidOf hB
  obtain ⟨v, pH, M, n, r, hL, hH, hM, hn⟩ := hB.ex
  have HC := hidOf (heldBy_any pB pH v L wk K (ptr b) w hL hF (by rw [hx]; rfl))
  have HP := hidOf (fun w1 h1 => putBack_any (D := D) pB K b N x L w1 h1 hx htk (hI.had htk).1 hN)
  simp only [ptr] at HC
  clear hB hL hH hM hF hx htk
  go_enter Try.func15, Try.ntmps15
  go_wp2_with (first | (go_at_call 29; refine HC.out.mono ?_; rintro e w1 ⟨rfl, hb1⟩; have HB := hidOf hb1; clear hb1) | (go_at_call 34; refine (HP.out _ (HB0.out.grow HB.out)).mono ?_; rintro e w2 ⟨rfl, h2, h3⟩; have HR := hidOf (And.intro h2 h3); clear h2 h3))
  go_ret
  exact ⟨rfl, HR.out.1, (FrT.of_below HB.out).trans HR.out.2⟩

end Go.Proofs.Ytndomlbjdppckaa
