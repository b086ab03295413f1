/- Which nodes take tasks: the code's openNodes. -/
import Derived.Test.YtaaodmagchpnbaaXm
import Derived.Test.YtaaodmagchpnbaaAp
namespace Go.Proofs.Ytaaodmagchpnbaa
open Go.RowKit Go.Shelf
def opK (L : List Nd) : Nat → List Int
  | 0 => []
  | k + 1 => if (L[k]?.getD default).id ∈ opK L k ∨ (L[k]?.getD default).up = false ∨ (L[k]?.getD default).dr = true then opK L k else opK L k ++ [(L[k]?.getD default).id]
theorem opK_at (L : List Nd) (k : Nat) (x : Nd) (D : List Int) (hD : D = opK L k) (h : k < L.length) (hx : L[k] = x) : opK L (k + 1) = if x.id ∈ D ∨ x.up = false ∨ x.dr = true then D else D ++ [x.id] := by
  rw [opK, ← hD, getD_at L k h, hx]
theorem opK_len (L : List Nd) (k : Nat) : (opK L k).length ≤ k := by
  induction k with
  | zero => simp [opK]
  | succ k ih =>
    rw [opK]
    split
    · omega
    · rw [List.length_append, List.length_singleton]; omega
theorem iC_len (x : Int) : (iC x).length = 1 := rfl
theorem iC_one (x : Int) : ∀ u ∈ iC x, u.oneCell' = true := by intro u hu; simp [iC] at hu; subst hu; rfl
theorem info3 : (Try.prog.info? 3).map (fun i => (i.zero, i.size, i.bytes)) = some (some (.int .i64 0), 1, 8) := by kernel_rfl
def unS (D : List Int) (j : Int) : Option Value := if j ∈ D then some (.agg #[]) else none
theorem unS_snoc (D : List Int) (z : Int) : (fun j => if j = z then some (.agg #[]) else unS D j) = unS (D ++ [z]) := by
  funext j
  unfold unS
  by_cases h : j = z
  · simp [h]
  · by_cases h2 : j ∈ D
    · simp [h, h2]
    · simp [h, h2]
theorem unS_look {w : World} {b : Nat} {D : List Int} (h : MpR w b kI (unS D)) (z : Int) : (Instr.lookup 64 (.map (some b)) (.int .i64 z) true).run Try.prog w = .ok (.tuple #[.agg #[], .bool (decide (z ∈ D))]) w := by
  have := h.look kyI Try.underlying64 (Try.zeroValue91 w) z true
  rw [if_pos rfl] at this
  refine this.trans ?_
  unfold unS
  by_cases h : z ∈ D <;> simp [h]
theorem newN (w : World) (cs : List Value) (t : TypeId) : ∀ (j : Nat) (u : Value), cs[j]? = some u → (w.alloc (.cells cs.toArray t)).cell? ((⟨w.heap.size, 0, none⟩ : Addr).add j) = some u := by
  intro j u hj
  have := box_new (wr := w) (cs := cs) (t := t) (Below.refl _ _) j u hj
  unfold Addr.add
  split
  · rename_i h; subst h; exact this
  · exact this
theorem new1 (w : World) (x : Int) : ∀ (j : Nat) (u : Value), (iC x)[j]? = some u → (w.alloc (.cells #[.int .i64 x] 3)).cell? ((⟨w.heap.size, 0, none⟩ : Addr).add j) = some u := newN w (iC x) 3
theorem own_blk2 {w : World} {base e k n : Nat} {v : Value} {xs : List Value} (h : w.ownsRow base e k v n xs) : ∀ g, v.ownBlock = some g → base ≤ g ∧ g < w.heap.size := by
  intro g hg
  rcases h.2 with ⟨hv, _⟩ | ⟨g', cap, cur, hv, hl, hg', _⟩
  · subst hv; cases hg
  · subst hv
    cases hg
    exact ⟨hl, heap_lt hg'⟩
set_option maxRecDepth 100000 in
set_option maxHeartbeats 4000000 in
theorem open_any (L : List Nd) (a : Option Addr) (cap : Nat) (w : World) (hL : Fl w (fun b => b < w.heap.size) 8 56 Nd.cs a L) :
    Calls Try.prog 40 #[.slice a L.length cap] w fun e w' => ∃ a' c', e = .returned (.slice a' (opK L L.length).length c') ∧ w'.ownsRow (w.heap.size + 1) 3 1 (.slice a' (opK L L.length).length c') (opK L L.length).length (fl iC (opK L L.length)) ∧ Below w.heap.size w w' := by
  have hbd := hL.bd
  have HL := hidOf hL
  clear hL
  have hmm := @run_makeMap Try.prog
  go_enter Try.func40, Try.ntmps40
  go_wp2
  go_loopw [12, 3] (fun i o wr => ∃ (k : Nat) (D : List Int) (a' : Option Addr) (c' : Nat), k ≤ L.length ∧ i = .int .i64 k ∧ o = .slice a' D.length c' ∧ Hid (D = opK L k) ∧ Hid (wr.ownsRow (w.heap.size + 1) 3 1 (.slice a' D.length c') D.length (fl iC D)) ∧ Hid (MpR wr w.heap.size kI (unS D)) ∧ Hid (Below w.heap.size w wr) ∧ w.heap.size + 1 ≤ wr.heap.size) (fun i _ _ => L.length - (intOf i).toNat)
  case atStart => exact ⟨0, [], none, 0, Nat.zero_le _, rfl, rfl, hidOf rfl, hidOf (World.ownsRow_nil _ _ _ _), hidOf (MpR.new w kI), hidOf (below1 w _), by simp⟩
  case round =>
    obtain ⟨k, D, a', c', hk, rfl, rfl, HD, HO, HM, HB, hsz⟩ := hrel
    by_cases hlt : k < L.length
    · obtain ⟨b, off, ha, hQb, hcc⟩ := HL.out.at k hlt
      have hbw : b < w.heap.size := hQb
      obtain ⟨x, hx⟩ : ∃ x, L[k] = x := ⟨_, rfl⟩
      have HOP := hidOf (opK_at L k x D HD.out hlt hx)
      rw [hx] at hcc
      have hdl : D.length ≤ k := by rw [HD.out]; exact opK_len L k
      clear hx
      subst ha
      have hcr := range_of hcc (HB.out.block b hbw)
      have hbl : b < wr.heap.size := by omega
      have c0 : wr.cell? ⟨b, off + k * 8, none⟩ = some (.int .i64 x.id) := hcr 0 _ rfl
      have c1 : wr.cell? ⟨b, off + k * 8 + 1, none⟩ = some (.int .i64 x.c) := hcr 1 _ rfl
      have c2 : wr.cell? ⟨b, off + k * 8 + 2, none⟩ = some (.int .i64 x.m) := hcr 2 _ rfl
      have c3 : wr.cell? ⟨b, off + k * 8 + 3, none⟩ = some (.bool x.up) := hcr 3 _ rfl
      have c4 : wr.cell? ⟨b, off + k * 8 + 4, none⟩ = some (.bool x.dr) := hcr 4 _ rfl
      have c5 : wr.cell? ⟨b, off + k * 8 + 5, none⟩ = some (.int .i64 x.bo) := hcr 5 _ rfl
      have c6 : wr.cell? ⟨b, off + k * 8 + 6, none⟩ = some (.int .i64 x.ep) := hcr 6 _ rfl
      have c7 : wr.cell? ⟨b, off + k * 8 + 7, none⟩ = some (.int .i64 x.se) := hcr 7 _ rfl
      clear hcc hcr
      have HMW : Hid (∀ W, Below wr.heap.size wr W → MpR W w.heap.size kI (unS D)) := hidOf fun W hb => HM.out.keep (hb.block _ (by omega))
      have hlk := unS_look (HMW.out _ (below1 wr (.cells #[.int .i64 x.id, .int .i64 x.c, .int .i64 x.m, .bool x.up, .bool x.dr, .int .i64 x.bo, .int .i64 x.ep, .int .i64 x.se] 54))) x.id
      by_cases hm : x.id ∈ D
      · rw [decide_eq_true hm] at hlk
        have HN : Hid (D = opK L (k + 1)) := hidOf (by rw [HOP.out, if_pos (.inl hm)])
        go_wp2
        go_roundw
        case rel => exact ⟨k + 1, D, a', c', by omega, by simp, rfl, HN, hidOf (own_kept HO.out (fun b _ hb => (below2 wr _ _).block b hb)), hidOf (HMW.out _ (below2 wr _ _)), hidOf (HB.out.trans ((below2 wr _ _).mono HB.out.size)), by simp; omega⟩
        case measure => simp [intOf]; omega
      · rw [decide_eq_false hm] at hlk
        cases hup : x.up with
        | false =>
          rw [hup] at c3 hlk
          have HN : Hid (D = opK L (k + 1)) := hidOf (by rw [HOP.out, if_pos (.inr (.inl hup))])
          go_wp2
          go_roundw
          case rel => exact ⟨k + 1, D, a', c', by omega, by simp, rfl, HN, hidOf (own_kept HO.out (fun b _ hb => (below2 wr _ _).block b hb)), hidOf (HMW.out _ (below2 wr _ _)), hidOf (HB.out.trans ((below2 wr _ _).mono HB.out.size)), by simp; omega⟩
          case measure => simp [intOf]; omega
        | true =>
          rw [hup] at c3 hlk
          cases hdr : x.dr with
          | true =>
            rw [hdr] at c4 hlk
            have HN : Hid (D = opK L (k + 1)) := hidOf (by rw [HOP.out, if_pos (.inr (.inr hdr))])
            go_wp2
            go_roundw
            case rel => exact ⟨k + 1, D, a', c', by omega, by simp, rfl, HN, hidOf (own_kept HO.out (fun b _ hb => (below2 wr _ _).block b hb)), hidOf (HMW.out _ (below2 wr _ _)), hidOf (HB.out.trans ((below2 wr _ _).mono HB.out.size)), by simp; omega⟩
            case measure => simp [intOf]; omega
          | false =>
            rw [hdr] at c4 hlk
            have HN : Hid (D ++ [x.id] = opK L (k + 1)) := hidOf (by rw [HOP.out, if_neg (by rw [hup, hdr]; simp [hm])])
            have hbx : ((((wr.alloc (.cells #[.int .i64 x.id, .int .i64 x.c, .int .i64 x.m, .bool true, .bool false, .int .i64 x.bo, .int .i64 x.ep, .int .i64 x.se] 54)).alloc (.cells #[] 91))).cell? ⟨wr.heap.size, 0, none⟩ = some (.int .i64 x.id)) := box_new (wr := wr) (cs := [.int .i64 x.id, .int .i64 x.c, .int .i64 x.m, .bool true, .bool false, .int .i64 x.bo, .int .i64 x.ep, .int .i64 x.se]) (t := 54) (below1 _ _) 0 _ rfl
            go_wp2_with (first | (at_mapUpdate; refine wpList_mapX _ rfl _ _ _ 64 rfl 3 91 kyI Try.underlying64 w.heap.size _ rfl (HMW.out _ (below2 wr _ _)) x.id (.agg #[]) rfl rfl ?_; intro w2 hm2 hs2 hz2 hg2; have e0 : w2.cell? ⟨wr.heap.size, 0, none⟩ = some (.int .i64 x.id) := (World.cell?_of_block (hs2 wr.heap.size (by omega))).trans hbx; rw [unS_snoc] at hm2; have HM2 := hidOf hm2; have HS2 := hidOf hs2; have HG2 := hidOf hg2; have hz3 : w2.heap.size = wr.heap.size + 1 + 1 := (by rw [hz2]; simp); have lx : wr.heap.size < w2.heap.size := (by omega); have HZ3 := hidOf hz3; have HO2 := hidOf (own_kept HO.out (w' := w2.alloc (.cells #[.int .i64 x.id] 3)) (fun b h1 hb => ((below1 w2 _).block b (by omega)).trans ((hs2 b (by omega)).trans ((below2 wr _ _).block b hb)))); clear hm2 hs2 hz2 hg2 hz3) | (at_builtin; refine wpList_app1 _ rfl _ _ 30 rfl (w.heap.size + 1) 3 _ 1 8 Try.underlying30 info3 rfl (by decide) _ D.length (fl iC D) rfl HO2.out ⟨w2.heap.size, 0, none⟩ 1 (iC x.id) rfl rfl (new1 w2 x.id) (iC_one _) (by unfold maxLen; omega) (by omega) (by simp; omega) ?_; intro a2 c2 w3 hown3 hg3; have HO3 := hidOf hown3; have HG3 := hidOf hg3; clear hown3 hg3))
            have hblk := own_blk2 HO.out
            have hz3 := HZ3.out
            have hs3 := HG3.out.size
            simp only [World.size_alloc] at hs3
            go_roundw
            case rel =>
              exact ⟨k + 1, D ++ [x.id], a2, c2, by omega, by simp, by simp, HN, hidOf (by rw [fl_snoc, List.length_append]; exact HO3.out), hidOf (HM2.out.keep ((HG3.out.block _ (by simp; omega) (fun e => by have := (hblk _ e.symm).1; omega)).trans ((below1 w2 _).block _ (by omega)))), hidOf ((((HB.out.trans ((below2 wr _ _).mono HB.out.size)).grown HG2.out (by simp; omega) (fun k e => by cases e; exact Nat.le_refl _)).alloc (by omega) _).grown HG3.out (by simp; omega) (fun k e => by have := (hblk k e).1; omega)), by omega⟩
            case measure => simp [intOf]; omega
    · have hkl : k = L.length := by omega
      subst hkl
      have HDD := HD.out
      subst HDD
      go_wp2
      go_ret
      exact ⟨a', c', rfl, HO.out, HB.out⟩
end Go.Proofs.Ytaaodmagchpnbaa
