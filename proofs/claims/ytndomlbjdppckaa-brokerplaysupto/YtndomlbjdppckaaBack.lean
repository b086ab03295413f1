/- Ack, Dequeue. -/
import Derived.Test.YtndomlbjdppckaaBput
import Derived.LaidEqlPtr
namespace Go.Proofs.Ytndomlbjdppckaa
open Go.RowKit
variable {D : Nat}

theorem filter_erase {L : List (Nat × Itm)} (hn : (L.map (·.1)).Nodup) {K b : Nat} {x : Itm} (h : L[K]? = some (b, x)) : L.filter (fun y => !(y.1 == b)) = L.eraseIdx K := by
  induction L generalizing K with
  | nil => simp at h
  | cons z L ih =>
    rw [List.map_cons, List.nodup_cons] at hn
    cases K with
    | zero =>
      simp at h
      subst h
      have : L.filter (fun y => !(y.1 == b)) = L := List.filter_eq_self.2 fun a ha => by
        have h1 : a.1 ≠ b := fun e => hn.1 (by rw [← e]; exact List.mem_map.2 ⟨a, ha, rfl⟩)
        simp [h1]
      simp [this]
    | succ K =>
      have h' : L[K]? = some (b, x) := by simpa using h
      have h1 : z.1 ≠ b := fun e => hn.1 (by rw [e]; exact List.mem_map.2 ⟨_, List.mem_of_getElem? h', rfl⟩)
      simp [h1, ih hn.2 h']
theorem HM.erase {M : List It} {L : List (Nat × Itm)} (h : HM M L) (hn : (L.map (·.1)).Nodup) {K b : Nat} {x : Itm} (hi : L[K]? = some (b, x)) (hx : fr x = false) : HM M (L.eraseIdx K) := by
  rw [← filter_erase hn hi]
  refine ⟨fun a ha => ⟨List.mem_filter.2 ⟨(h.sub a ha).1, ?_⟩, (h.sub a ha).2⟩, fun z hz hf => h.all z (List.mem_filter.1 hz).1 hf, h.nd⟩
  have : a.p ≠ b := fun e => by
    have := h.mem hn hi ha e
    rw [← this, (h.sub a ha).2] at hx; cases hx
  simp [this]

theorem info65 : (Try.prog.info? 65).map (fun i => i.size) = some 9 := by kernel_rfl
theorem eq55 (a b : Nat) (x y : Itm) (w : World) (ha : ItR w a x) (hb : ItR w b y) : (binOp .eql 55 (.pointer (some ⟨a, 0, none⟩)) (.pointer (some ⟨b, 0, none⟩))).run Try.prog w = .ok (.bool (a == b)) w := by
  obtain ⟨j, hj⟩ : ∃ j, Try.prog.info? 65 = some j := by
    cases h : Try.prog.info? 65 with
    | none => have := info65; rw [h] at this; cases this
    | some j => exact ⟨j, rfl⟩
  have hs : j.size = 9 := by have := info65; rw [hj] at this; exact Option.some.inj this
  by_cases h : a = b
  · subst h
    rw [run_eql_ptr_same w ⟨a, 0, none⟩ Try.underlying55 hj]; simp
  · rw [run_eql_ptr_other (a := ⟨a, 0, none⟩) (b := ⟨b, 0, none⟩) (ca := itC x) (cb := itC y) (ta := 65) (tb := 65) w Try.underlying55 hj (by omega) (fun e => h (by cases e; rfl)) ha hb]
    simp [h]
set_option maxHeartbeats 1000000 in
theorem clo33_any (q b b' : Nat) (x y : Itm) (w : World) (hb : ItR w b x) (hb' : ItR w b' y) (h0 : w.cell? ⟨q, 0, none⟩ = some (.pointer (some ⟨b, 0, none⟩))) :
    Calls Try.prog 33 #[.pointer (some ⟨b', 0, none⟩), .pointer (some ⟨q, 0, none⟩)] w fun e w' => e = .returned (.bool (b' == b)) ∧ Below w.heap.size w w' := by
  have he := eq55 b' b y x w hb' hb
  clear hb hb'
  generalize hd : (b' == b) = d
  rw [hd] at he
  go_enter Try.func33, Try.ntmps33
  go_wp2
  go_ret
  exact ⟨rfl, Below.refl _ _⟩

theorem own_slice {w : World} {v : Value} {e s n : Nat} {xs : List Value} (h : w.ownsRow 0 e s v n xs) : ∃ a cap, v = .slice a n cap := by
  rcases h.2 with ⟨rfl, e⟩ | ⟨g, cap, cur, rfl, _⟩
  · exact ⟨none, 0, by rw [e]⟩
  · exact ⟨_, cap, rfl⟩
theorem own_of_set {w : World} {v : Value} {e s n p : Nat} {xs : List Value} (h : w.ownsRow 0 e s v n xs) (hp : v.ownBlock ≠ some p) (j : Nat) (u : Value) : (w.setCell ⟨p, j, none⟩ u).ownsRow 0 e s v n xs := by
  refine ⟨h.1, ?_⟩
  rcases h.2 with h2 | ⟨g, cap, cur, rfl, h3, h4, h5⟩
  · exact .inl h2
  · exact .inr ⟨g, cap, cur, rfl, h3, (Below.heap_setCell w ⟨p, j, none⟩ u g (fun e => hp (by show some g = some p; rw [show g = p from e]))).trans h4, h5⟩
set_option maxHeartbeats 2000000 in
theorem ack_none (pB N : Nat) (L : List (Nat × Itm)) (wk : Int) (w : World) (hB : Bk D w pB L N) (hF : FI (hbP wk) L L.length) :
    Calls Try.prog 13 #[.pointer (some ⟨pB, 0, none⟩), .int .i64 wk] w fun e w' => e = .returned (.int .i64 3) ∧ Below w.heap.size w w' := by
  obtain ⟨v, pH, M, n, r, hL, hH, hM, hn⟩ := hB.ex
  have HC := hidOf (heldBy_any pB pH v L wk L.length (.pointer none) w hL hF (by simp))
  clear hB hL hH hM hF
  go_enter Try.func13, Try.ntmps13
  go_wp2_with (go_at_call 29; refine HC.out.mono ?_; rintro e w1 ⟨rfl, hb1⟩; have HB := hidOf hb1; clear hb1)
  go_ret
  exact ⟨rfl, HB.out.trans ((below1 _ _).mono HB.out.size)⟩

set_option maxHeartbeats 4000000 in
theorem ack_some (pB N K b : Nat) (x : Itm) (L : List (Nat × Itm)) (wk : Int) (w : World) (hB : Bk D w pB L N) (hF : FI (hbP wk) L K) (hx : L[K]? = some (b, x)) :
    Calls Try.prog 13 #[.pointer (some ⟨pB, 0, none⟩), .int .i64 wk] w fun e w' => e = .returned (.int .i64 0) ∧ Bk D w' pB (L.eraseIdx K) N ∧ FrT D [55, 58] w w' := by
  have hmf : ∀ (fn : Fn) (first cap : Array Value) (w : World), (Instr.makeFunc fn first cap).run Try.prog w = .ok (.func fn first cap) w := fun _ _ _ _ => rfl
  have htk : x.tk = true := by have := hF.hit _ hx; simp [hbP, hb] at this; exact this.1
  have hfx : fr x = false := by simp [fr, htk]
  obtain ⟨v, pH, M, n, r, hL, hH, hM, hn⟩ := hB.ex
  have HC := hidOf (heldBy_any pB pH v L wk K (ptr b) w hL hF (by rw [hx]; rfl))
  simp only [ptr] at HC
  obtain ⟨c0, -, z0, -⟩ := hL.cells
  have hpl := heap_lt hL.blk
  have HL := hidOf hL
  have HH := hidOf hH
  have HHM := hidOf (hM.erase hL.nd hx hfx)
  have HFE := hidOf (filter_erase hL.nd hx)
  have HN := hidOf hn
  have HX := hidOf (List.mem_of_getElem? hx)
  clear hB hL hH hM hF htk hx hn
  go_enter Try.func13, Try.ntmps13
  go_wp2_with (first | (go_at_call 29; refine HC.out.mono ?_; rintro e w1 ⟨rfl, hb1⟩; have d0 : ∀ o : Obj, (w1.alloc o).cell? ⟨pB, 0, none⟩ = some v := (fun o => (((below1 w1 o)).cell (p := ⟨pB, 0, none⟩) (Nat.lt_of_lt_of_le hpl hb1.size)).trans ((hb1.cell (p := ⟨pB, 0, none⟩) hpl).trans c0)); have HB := hidOf hb1; clear hb1) | fail)
  obtain ⟨W, hW⟩ : ∃ y, y = w1.alloc (.cells #[.pointer (some ⟨b, 0, none⟩)] 55) := ⟨_, rfl⟩
  have hWb : Below w.heap.size w W := by rw [hW]; exact HB.out.trans ((below1 _ _).mono HB.out.size)
  have hWq : W.heap[w1.heap.size]? = some (.cells #[.pointer (some ⟨b, 0, none⟩)] 55 (0, 0)) := by rw [hW]; exact heap_alloc_new _ _
  have hw1 : w.heap.size ≤ w1.heap.size := HB.out.size
  have HWB := hidOf hWb
  have HLW := hidOf (HL.out.grow hWb)
  have HD := hidOf (del33_any w1.heap.size v L (fun y => y.1 == b) W HLW.out.row (fun W2 y h2 hy => by
    have hk : ∀ (k : Nat) (cs : Array Value) (t : Nat), W.heap[k]? = some (.cells cs t (0, 0)) → t ≠ 55 → W2.heap[k]? = some (.cells cs t (0, 0)) := fun k cs t hk ht => by
      refine (h2.block k (heap_lt hk) (fun e => ?_)).trans hk
      rcases HLW.out.row.2 with ⟨e2, _⟩ | ⟨g, cap, cur, e2, _, h4, _⟩
      · rw [e2] at e; cases e
      · rw [e2] at e; cases e; rw [h4] at hk; cases hk; exact ht rfl
    have hq2 : W2.heap[w1.heap.size]? = some (.cells #[.pointer (some ⟨b, 0, none⟩)] 55 (0, 0)) := by
      refine (h2.block _ (heap_lt hWq) (fun e => ?_)).trans hWq
      rcases HL.out.row.2 with ⟨e2, _⟩ | ⟨g, cap, cur, e2, _, h4, _⟩
      · rw [e2] at e; cases e
      · rw [e2] at e
        have h5 := heap_lt h4
        have h6 : w1.heap.size = g := Option.some.inj e
        omega
    exact clo33_any w1.heap.size b y.1 x y.2 W2 (hk _ _ _ (HLW.out.its _ HX.out) (by decide)) (hk _ _ _ (HLW.out.its y hy) (by decide)) (by rw [cell_of_row W2 _ 0 _ 55 (0, 0) hq2]; rfl)))
  have d0' := d0 (.cells #[.pointer (some ⟨b, 0, none⟩)] 55)
  rw [← hW] at d0' ⊢
  clear hW d0 hWq c0 z0
  go_wp2_with (go_at_call 25; refine HD.out.mono ?_; rintro e w3 ⟨v', rfl, h31, h32, h33⟩; rw [show L.filter (fun y => !(fun y : Nat × Itm => y.1 == b) y) = L.eraseIdx K from HFE.out] at h31; have e3 : w3.heap[pB]? = some (.cells #[v, ptr pH] 58 (0, 0)) := (by
      refine (h33.block pB (heap_lt HLW.out.blk) (fun e => ?_)).trans HLW.out.blk
      rcases HLW.out.row.2 with ⟨e2, _⟩ | ⟨g, cap, cur, e2, _, h4, _⟩
      · rw [e2] at e; cases e
      · rw [e2] at e
        have h6 : pB = g := Option.some.inj e
        have h7 := HLW.out.blk
        rw [h6, h4] at h7; cases h7); have z0 : w3.frozen? ⟨pB, 0, none⟩ = false := (by simp [World.frozen?, e3]); obtain ⟨a', cap', hv'⟩ := own_slice h31; subst hv'; have d3 : w3.cell? ⟨pB, 0, none⟩ = some v := (by rw [cell_of_row w3 pB 0 _ 58 (0, 0) e3]; rfl); have HR := hidOf (And.intro h31 (And.intro h32 h33)); have HE3 := hidOf e3; clear h31 h32 h33 e3)
  go_ret
  have hF1 : FrT D [55, 58] W w3 := by
    rcases HLW.out.row.2 with ⟨e2, _⟩ | ⟨g, cap, cur, e2, _, h4, _⟩
    · have h5 := HR.out.2.2
      rw [e2] at h5
      exact ⟨h5.os, h5.tape, h5.output, h5.size, fun k o hk _ => (h5.block k (heap_lt hk) (by simp [Value.ownBlock])).trans hk⟩
    · have h5 := HR.out.2.2
      rw [e2] at h5
      exact FrT.of_one h4 (by decide) (HLW.out.lr g (by rw [e2]; rfl)) h5.os h5.tape h5.output h5.size (fun k hk hne => h5.block k hk (fun e => hne (Option.some.inj e)))
  have hF : FrT D [55, 58] w3 (w3.setCell ⟨pB, 0, none⟩ (.slice a' (L.eraseIdx K).length cap')) := FrT.set (FrT.refl _ _ _) HE3.out (by decide) HL.out.lo 0 _
  have hF2 : FrT D [55, 58] w (w3.setCell ⟨pB, 0, none⟩ (.slice a' (L.eraseIdx K).length cap')) := ((FrT.of_below HWB.out).trans hF1).trans hF
  have hrow := HR.out.1
  have hown := HR.out.2.1
  refine ⟨rfl, ⟨.slice a' (L.eraseIdx K).length cap', pH, M, n, r, ⟨?_, ?_, ?_, ?_, HL.out.lo, ?_, ?_⟩, HH.out.keepT hF2 (by decide) (by decide), HHM.out, HN.out⟩, hF2⟩
  · rw [heap_setCell_same w3 pB 0 _ 58 _ HE3.out]; rfl
  · exact own_of_set hrow (fun e0 => by
      have e := hown.symm.trans e0
      rcases HLW.out.row.2 with ⟨e2, _⟩ | ⟨g, cap, cur, e2, _, h4, _⟩
      · rw [e2] at e; cases e
      · rw [e2] at e
        have h6 : g = pB := Option.some.inj e
        have h7 := HLW.out.blk
        rw [← h6, h4] at h7; cases h7) 0 _
  · intro z hz
    rw [← HFE.out] at hz
    exact hF2.item (HL.out.its z (List.mem_filter.1 hz).1) (by decide)
  · rw [← HFE.out]
    exact List.Nodup.sublist (List.Sublist.map _ List.filter_sublist) HL.out.nd
  · intro k hk
    exact HL.out.lr k (hown.symm.trans hk)
  · intro z hz
    rw [← HFE.out] at hz
    exact HL.out.li z (List.mem_filter.1 hz).1

end Go.Proofs.Ytndomlbjdppckaa
