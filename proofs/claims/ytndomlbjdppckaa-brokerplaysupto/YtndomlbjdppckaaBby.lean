/- byJob, lineUp, free; an item put behind the others. -/
import Derived.Test.YtndomlbjdppckaaBtk
namespace Go.Proofs.Ytndomlbjdppckaa
open Go.RowKit
variable {D : Nat}

set_option maxHeartbeats 1000000 in
theorem free_any (b : Nat) (x : Itm) (w : World) (hx : ItR w b x) : Calls Try.prog 37 #[.pointer (some ⟨b, 0, none⟩)] w fun e w' => e = .returned (.bool (fr x)) ∧ w' = w := by
  obtain ⟨-, -, -, -, -, x5, x6, -, -⟩ := ItR.cells hx
  have HR : Hid (fr x = (!x.tk && x.dl == 0)) := hidOf rfl
  rw [HR.out]
  clear HR hx
  generalize x.tk = tk at *
  cases tk
  · generalize hd : (x.dl == 0) = d
    go_enter Try.func37, Try.ntmps37
    go_wp2
    go_ret
    exact ⟨by simp, rfl⟩
  · go_enter Try.func37, Try.ntmps37
    go_wp2
    go_ret
    exact ⟨by simp, rfl⟩

theorem wpList_appP {P : Program} {ops : Array Oper} {rest : List Oper} {o : Oper} {a : Act} {Q : Exit → Act → World → Prop} (w : World) (hgd : o.guard = none) (s x : Operand) (t : TypeId)
    (ho : o.op = .call { callee := .builtin .append, args := #[s, x], argTypes := #[t, t] })
    (base : Nat) (e : TypeId) (i : TypeInfo) (z : Value) (size bytes : Nat) (ht : P.underlying t = some (.slice e)) (hi : P.info? e = some i) (hz : i.zero = some z)
    (hsize : i.size = size) (hby : i.bytes = bytes) (hzs : z.cells.size = size) (hsz : 0 < size)
    (v : Value) (n : Nat) (xs : List Value) (hs : a.eval s = v) (hown : w.ownsRow base e size v n xs)
    (ad : Addr) (m c : Nat) (news : List Value) (hx : a.eval x = .slice (some ad) m c) (hl : news.length = m * size) (hnews : ∀ j u, news[j]? = some u → w.cell? (ad.add j) = some u) (h1 : ∀ u ∈ news, u.oneCell' = true)
    (h63 : n + m ≤ maxLen) (hbytes : (n + m) * bytes ≤ 140737488355328) (hbase : base ≤ w.heap.size)
    (h : ∀ v' w', w'.ownsRow base e size v' (n + m) (xs ++ news) → w.grownBy w' v.ownBlock → (v'.ownBlock = v.ownBlock ∨ v'.ownBlock = some w.heap.size) → wpList P ops Q rest (a.put o.dst v') w') :
    wpList P ops Q (o :: rest) a w := by
  refine wpList_plain hgd fun K' hK' => ?_
  obtain ⟨v', w', hr, h2, h3, _, h4⟩ := run_append_own_at (P := P) w base t o.type e i z size bytes ht hi hz hsize hby hzs hsz v n xs hown ad m c news hl hnews h1 h63 hbytes hbase
  unfold Oper.wp execOp
  simp only [ho, resolve, invoke, builtin, Sem.run_bind, Sem.run_pure, Result.andThen_ok, List.map_toArray, List.map_cons, List.map_nil, hs, hx, hr]
  exact hK' _ _ (h v' w' h2 h3 h4)
theorem grown_frt {w w' : World} {v : Value} {e s n : Nat} {xs : List Value} (h : w.ownsRow 0 e s v n xs) (hD : ∀ k, v.ownBlock = some k → D ≤ k) (hg : w.grownBy w' v.ownBlock) : FrT D [e] w w' := by
  refine ⟨hg.os, hg.tape, hg.output, hg.size, fun k o hk ho => (hg.block k (heap_lt hk) (fun e2 => ?_)).trans hk⟩
  rcases ho with ho | ho
  · rcases h.2 with ⟨rfl, _⟩ | ⟨g, cap, cur, rfl, _, h4, _⟩
    · cases e2
    · cases e2; rw [h4] at hk; cases hk; simp [isT] at ho
  · have := hD k e2.symm; omega

/- a map tells each item by its job -/
structure MJ (m : Int → Option Value) (L : List (Nat × Itm)) : Prop where
  yes : ∀ z ∈ L, m z.2.jb = some (ptr z.1)
  no : ∀ j, (∀ z ∈ L, z.2.jb ≠ j) → m j = none
def JN (L : List (Nat × Itm)) : Prop := (L.map (fun z => z.2.jb)).Nodup
theorem MJ.nil : MJ (fun _ => none) [] := ⟨fun z hz => absurd hz (by simp), fun _ _ => rfl⟩
theorem MJ.snoc {m : Int → Option Value} {L : List (Nat × Itm)} {b : Nat} {x : Itm} (h : MJ m L) (hj : ∀ z ∈ L, z.2.jb ≠ x.jb) : MJ (fun j => if j = x.jb then some (ptr b) else m j) (L ++ [(b, x)]) := by
  refine ⟨fun z hz => ?_, fun j hn => ?_⟩
  · rcases List.mem_append.1 hz with hz | hz
    · rw [if_neg (hj z hz)]; exact h.yes z hz
    · rw [List.mem_singleton.1 hz, if_pos rfl]
  · have h1 : j ≠ x.jb := fun e => hn (b, x) (by simp) e.symm
    rw [if_neg h1]
    exact h.no j (fun z hz => hn z (List.mem_append_left _ hz))
theorem JN.at_ {L : List (Nat × Itm)} (h : JN L) {k : Nat} {y : Nat × Itm} (hy : L[k]? = some y) : ∀ z ∈ L.take k, z.2.jb ≠ y.2.jb := by
  intro z hz e
  obtain ⟨j, hj⟩ := List.mem_iff_getElem?.1 hz
  have hjl := (List.getElem?_eq_some_iff.1 hj).1
  have hjk : j < k := by simp at hjl; omega
  rw [List.getElem?_take, if_pos hjk] at hj
  have hp := List.pairwise_iff_getElem.1 h
  obtain ⟨l1, e1⟩ := List.getElem?_eq_some_iff.1 hj
  obtain ⟨l2, e2⟩ := List.getElem?_eq_some_iff.1 hy
  have h9 := hp j k (by simpa using l1) (by simpa using l2) hjk
  simp only [List.getElem_map, e1, e2] at h9
  exact h9 e

set_option maxHeartbeats 4000000 in
set_option maxRecDepth 100000 in
theorem byJob_any (pB pH : Nat) (v : Value) (L : List (Nat × Itm)) (w : World) (hL : Lst D w pB pH v L) (hJ : JN L) :
    Calls Try.prog 24 #[.pointer (some ⟨pB, 0, none⟩)] w fun e w' => ∃ mb, e = .returned (.map (some mb)) ∧ w.heap.size ≤ mb ∧ Below w.heap.size w w' ∧ ∃ m, MpR w' mb kI m ∧ MJ m L := by
  have hmm := @run_makeMap Try.prog
  obtain ⟨c0, -, -, -⟩ := hL.cells
  obtain ⟨a, cap, rfl, hlm⟩ := hL.slice
  unfold maxLen at hlm
  have hpl := heap_lt hL.blk
  have c1 : ∀ o : Obj, (w.alloc o).cell? ⟨pB, 0, none⟩ = some (.slice a L.length cap) := fun o => ((below1 w o).cell (p := ⟨pB, 0, none⟩) hpl).trans c0
  have HL := hidOf hL
  have HJ := hidOf hJ
  clear hL hJ c0
  go_enter Try.func24, Try.ntmps24
  go_wp2
  go_loopw [12] (fun i wr => ∃ (k : Nat) (m : Int → Option Value), k ≤ L.length ∧ i = .int .i64 (k : Int) ∧ Hid (MpR wr w.heap.size kI m ∧ MJ m (L.take k)) ∧ Hid (Below w.heap.size w wr) ∧ w.heap.size < wr.heap.size) (fun i _ => L.length - (intOf i).toNat)
  case atStart => exact ⟨0, _, Nat.zero_le _, rfl, hidOf ⟨MpR.new w kI, MJ.nil⟩, hidOf (below1 w _), by simp⟩
  case round =>
    obtain ⟨k, m, hk, rfl, HM, HB, hsz⟩ := hrel
    by_cases hlt : k < L.length
    · have hltz : (k : Int) < (L.length : Int) := by omega
      obtain ⟨⟨b, x⟩, hx⟩ : ∃ x, L[k]? = some x := ⟨L[k], List.getElem?_eq_getElem hlt⟩
      have hLr := HL.out.grow HB.out
      obtain ⟨g, cap', hv, hgl, hcc⟩ := row_at hLr.row k hlt
      have a0 := hcc _ (ptrs_get hx)
      obtain ⟨rfl, rfl⟩ : a = some ⟨g, 0, none⟩ ∧ cap = cap' := by cases hv; exact ⟨rfl, rfl⟩
      simp only [ptr] at a0
      obtain ⟨x0, -⟩ := ItR.cells (hLr.its _ (List.mem_of_getElem? hx))
      simp only at x0
      have HN := hidOf (take_succ_get hx)
      have HS := hidOf (HM.out.2.snoc (b := b) (x := x) (HJ.out.at_ hx))
      clear hv hcc hx hLr
      go_wp2_with (at_mapUpdate; refine wpList_mapX _ rfl _ _ _ 59 rfl 3 55 kyI Try.underlying59 w.heap.size _ rfl HM.out.1 x.jb (ptr b) rfl rfl ?_; intro w2 hm2 hs2 hz2 hg2; have HM2 := hidOf hm2; have HG2 := hidOf hg2; have HZ2 := hidOf hz2; clear hm2 hs2 hz2 hg2)
      go_roundw
      case rel => exact ⟨k + 1, _, by omega, by go_num, hidOf ⟨HM2.out, by rw [HN.out]; exact HS.out⟩, hidOf (HB.out.grown HG2.out (by omega) (fun k e => by cases e; exact Nat.le_refl _)), by have := HZ2.out; omega⟩
      case measure => simp [intOf]; omega
    · obtain rfl : k = L.length := by omega
      have hltz : ¬ (L.length : Int) < (L.length : Int) := by omega
      go_wp2
      go_ret
      exact ⟨w.heap.size, rfl, Nat.le_refl _, HB.out, m, HM.out.1, by have := HM.out.2; rw [List.take_length] at this; exact this⟩

theorem HM.snocF {M : List It} {L : List (Nat × Itm)} (h : HM M L) {b : Nat} {x : Itm} (hx : fr x = false) : HM M (L ++ [(b, x)]) := by
  refine ⟨fun a ha => ⟨List.mem_append_left _ (h.sub a ha).1, (h.sub a ha).2⟩, fun z hz hf => ?_, h.nd⟩
  rcases List.mem_append.1 hz with hz | hz
  · exact h.all z hz hf
  · rw [List.mem_singleton.1 hz] at hf; rw [hx] at hf; cases hf
theorem HM.snocT {M : List It} {L : List (Nat × Itm)} (h : HM M L) {b : Nat} {x : Itm} (hx : fr x = true) (hb : ∀ z ∈ L, z.1 ≠ b) (c : Int) : HM (M ++ [⟨b, x, c⟩]) (L ++ [(b, x)]) := by
  refine ⟨fun a ha => ?_, fun z hz hf => ?_, ?_⟩
  · rcases List.mem_append.1 ha with ha | ha
    · exact ⟨List.mem_append_left _ (h.sub a ha).1, (h.sub a ha).2⟩
    · rw [List.mem_singleton.1 ha]; exact ⟨by simp, hx⟩
  · rcases List.mem_append.1 hz with hz | hz
    · obtain ⟨a, ha, e⟩ := h.all z hz hf
      exact ⟨a, List.mem_append_left _ ha, e⟩
    · exact ⟨_, List.mem_append_right _ (List.mem_singleton.2 rfl), by rw [List.mem_singleton.1 hz]⟩
  · rw [List.map_append]
    refine List.nodup_append.2 ⟨h.nd, by simp, ?_⟩
    intro a ha b' hb'
    obtain ⟨c', hc', rfl⟩ := List.mem_map.1 ha
    simp at hb'
    rw [hb']; exact hb _ (h.sub c' hc').1
theorem nd_take {L : List (Nat × Itm)} (h : (L.map (·.1)).Nodup) {k : Nat} {y : Nat × Itm} (hy : L[k]? = some y) : ∀ z ∈ L.take k, z.1 ≠ y.1 := by
  intro z hz e
  obtain ⟨j, hj⟩ := List.mem_iff_getElem?.1 hz
  have hjl := (List.getElem?_eq_some_iff.1 hj).1
  have hjk : j < k := by simp at hjl; omega
  rw [List.getElem?_take, if_pos hjk] at hj
  have := nd_inj h hj hy e
  omega

set_option maxHeartbeats 8000000 in
set_option maxRecDepth 100000 in
theorem lineUp_any (pB pH0 : Nat) (v : Value) (L : List (Nat × Itm)) (w : World) (hL : Lst D w pB pH0 v L) (hN : L.length < 8796093022207) :
    Calls Try.prog 27 #[.pointer (some ⟨pB, 0, none⟩)] w fun e w' => e = .returned (.tuple #[]) ∧ Bk D w' pB L L.length ∧ FrT D [58, 78, 82] w w' := by
  have hDw : D ≤ w.heap.size := Nat.le_of_lt (Nat.lt_of_le_of_lt hL.lo (heap_lt hL.blk))
  obtain ⟨W, hW⟩ : ∃ y, y = w.alloc (.cells #[.slice none 0 0, .int .i64 0] 78) := ⟨_, rfl⟩
  have hbW : Below w.heap.size w W := by rw [hW]; exact below1 _ _
  have hLW := hL.grow hbW
  have hHW : HpR D W w.heap.size [] 0 none := by rw [hW]; exact ⟨heapR_new w, hDw, fun k hk => by cases hk⟩
  obtain ⟨c0, c1, z0, z1⟩ := hLW.cells
  obtain ⟨a, cap, rfl, hlm⟩ := hLW.slice
  unfold maxLen at hlm
  have hpl := heap_lt hLW.blk
  -- the broker with the new heap
  have hF1 : FrT D [58] W (W.setCell ⟨pB, 1, none⟩ (ptr w.heap.size)) := FrT.set (FrT.refl _ _ _) hLW.blk (by decide) hL.lo 1 _
  have hL1 : Lst D (W.setCell ⟨pB, 1, none⟩ (ptr w.heap.size)) pB w.heap.size (.slice a L.length cap) L := by
    refine ⟨?_, own_keepT hLW.row hF1 (by decide), fun x hx => hF1.item (hLW.its x hx) (by decide), hL.nd, hL.lo, hL.lr, hL.li⟩
    rw [heap_setCell_same W pB 1 _ 58 _ hLW.blk]; rfl
  have hH1 := hHW.keepT hF1 (by decide) (by decide)
  have HC := hidOf (hnew_any w)
  have HL1 := hidOf hL1
  have HH1 := hidOf hH1
  have HF0 : Hid (FrT D [58, 78, 82] w (W.setCell ⟨pB, 1, none⟩ (ptr w.heap.size))) := hidOf ((FrT.of_below hbW).trans (hF1.mono (by decide)))
  have HND := hidOf hL.nd
  have c0' : (W.setCell ⟨pB, 1, none⟩ (ptr w.heap.size)).cell? ⟨pB, 0, none⟩ = some (.slice a L.length cap) := hL1.cells.1
  simp only [ptr] at HC c1 HL1 HH1 HF0 c0'
  have HW := hidOf hW
  clear hL hLW hHW hF1 hL1 hH1 hbW hW
  go_enter Try.func27, Try.ntmps27
  go_wp2_with (go_at_call 23; refine HC.out.mono ?_; rintro e w1 ⟨rfl, h1⟩; rw [← HW.out] at h1; subst w1)
  obtain ⟨W1, hW1⟩ : ∃ y, y = W.setCell ⟨pB, 1, none⟩ (.pointer (some ⟨w.heap.size, 0, none⟩)) := ⟨_, rfl⟩
  rw [← hW1] at HL1 HH1 HF0 c0' ⊢
  clear HW hW1 c0 c1 z0 z1 hpl
  go_loopw [13] (fun i wr => ∃ (k n : Nat) (M : List It) (r : Option Nat), k ≤ L.length ∧ n ≤ k ∧ i = .int .i64 (k : Int) ∧ Hid (HpR D wr w.heap.size M n r ∧ HM M (L.take k)) ∧ Hid (FrT D [78, 82] W1 wr)) (fun i _ => L.length - (intOf i).toNat)
  case atStart => exact ⟨0, 0, [], none, Nat.zero_le _, Nat.le_refl _, rfl, hidOf ⟨HH1.out, HM.nil⟩, hidOf (FrT.refl _ _ _)⟩
  case round =>
    obtain ⟨k, n, M, r, hk, hnk, rfl, HH, HF⟩ := hrel
    by_cases hlt : k < L.length
    · have hltz : (k : Int) < (L.length : Int) := by omega
      obtain ⟨⟨b, x⟩, hx⟩ : ∃ x, L[k]? = some x := ⟨L[k], List.getElem?_eq_getElem hlt⟩
      have hLr := HL1.out.keepT HF.out (by decide) (by decide) (by decide)
      obtain ⟨g, cap', hv, hgl, hcc⟩ := row_at hLr.row k hlt
      have a0 := hcc _ (ptrs_get hx)
      obtain ⟨rfl, rfl⟩ : a = some ⟨g, 0, none⟩ ∧ cap = cap' := by cases hv; exact ⟨rfl, rfl⟩
      simp only [ptr] at a0
      have hit := hLr.its _ (List.mem_of_getElem? hx)
      have HFR := hidOf (free_any b x wr hit)
      obtain ⟨-, d1, -, -⟩ := hLr.cells
      simp only [ptr] at d1
      have HP := hidOf (hpush_any w.heap.size n M r b x wr HH.out.1 hit (fun a ha => hLr.its _ (List.mem_of_mem_take (HH.out.2.sub a ha).1)) (by omega))
      have HN := hidOf (take_succ_get hx)
      have HNE := hidOf (nd_take HND.out hx)
      clear hv hcc hx hLr hit
      cases hf : fr x with
      | true =>
        have HFX := hidOf hf
        rw [hf] at HFR
        clear hf
        go_wp2_with (first | (go_at_call 37; refine HFR.out.mono ?_; rintro e w2 ⟨rfl, h2⟩; subst w2) | (go_at_call 35; refine HP.out.mono ?_; rintro e w3 ⟨rfl, r', h31, h32⟩; have HR := hidOf (And.intro h31 h32); clear h31 h32))
        go_roundw
        case rel => exact ⟨k + 1, n + 1, _, r', by omega, by omega, by go_num, hidOf ⟨HR.out.1, by rw [HN.out]; exact HH.out.2.snocT HFX.out HNE.out n⟩, hidOf (HF.out.trans HR.out.2)⟩
        case measure => simp [intOf]; omega
      | false =>
        have HFX := hidOf hf
        rw [hf] at HFR
        clear hf
        go_wp2_with (go_at_call 37; refine HFR.out.mono ?_; rintro e w2 ⟨rfl, h2⟩; subst w2)
        go_roundw
        case rel => exact ⟨k + 1, n, M, r, by omega, by omega, by go_num, hidOf ⟨HH.out.1, by rw [HN.out]; exact HH.out.2.snocF HFX.out⟩, HF⟩
        case measure => simp [intOf]; omega
    · obtain rfl : k = L.length := by omega
      have hltz : ¬ (L.length : Int) < (L.length : Int) := by omega
      go_wp2
      go_end0
      have h5 := HH.out.2
      rw [List.take_length] at h5
      exact ⟨rfl, ⟨_, _, M, n, r, HL1.out.keepT HF.out (by decide) (by decide) (by decide), HH.out.1, h5, hnk⟩, HF0.out.trans (HF.out.mono (by decide))⟩

end Go.Proofs.Ytndomlbjdppckaa
