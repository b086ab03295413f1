/- What add leaves: the packet stands last; where there are too many, the first is gone. -/
import Derived.Test.YtcdoejdbmllnnabNnet
namespace Go.Proofs.Ytcdoejdbmllnnab
open Go.RowKit

def cutM (most : Nat) (L : List (List UInt8)) : List (List UInt8) := L.drop (L.length - most)
def Pkt (w : World) (p : Nat) (r : Option Nat) (x : Pk) (b : List UInt8) : Prop :=
  x.2.1 = b.length ∧ x.2.1 ≤ x.2.2 ∧ Bs w x.1 b ∧ ∀ y, x.1 = some y → y.block ≠ p ∧ r ≠ some y.block ∧ y.block < w.heap.size ∧ T5 w y.block
theorem Pks.more {w : World} {p : Nat} {r : Option Nat} {ps : List Pk} {L : List (List UInt8)} {x : Pk} {b : List UInt8} (h : Pks w p r ps L) (hx : Pkt w p r x b) : Pks w p r (ps ++ [x]) (L ++ [b]) := by
  have hl := h.1
  refine ⟨by simp [hl], fun i a c => ?_⟩
  by_cases hi : i < ps.length
  · rw [List.getElem_append_left hi, List.getElem_append_left (by omega)]
    exact h.2 i hi (by omega)
  · have he : i = ps.length := by simp at a; omega
    subst he
    simp only [List.getElem_concat_length, hl]
    exact hx
theorem Pkt.kept {w w' : World} {p : Nat} {r : Option Nat} {x : Pk} {b : List UInt8} (h : Pkt w p r x b) (hs : w.heap.size ≤ w'.heap.size) (hb : ∀ k, k < w.heap.size → k ≠ p → r ≠ some k → w'.heap[k]? = w.heap[k]?) : Pkt w' p r x b := by
  obtain ⟨a1, a2, a3, a4⟩ := h
  refine ⟨a1, a2, ⟨a3.1, fun hne => ?_⟩, fun y hy => ⟨(a4 y hy).1, (a4 y hy).2.1, Nat.lt_of_lt_of_le (a4 y hy).2.2.1 hs, (a4 y hy).2.2.2.to (hb _ (a4 y hy).2.2.1 (a4 y hy).1 (a4 y hy).2.1)⟩⟩
  obtain ⟨b', off, e, hlt, hc⟩ := a3.2 hne
  have := a4 _ e
  exact ⟨b', off, e, Nat.lt_of_lt_of_le hlt hs, fun j hj => (World.cell?_of_block (a := ⟨b', off + j, none⟩) (hb b' hlt this.1 this.2.1)).trans (hc j hj)⟩
theorem NetR.drew {w : World} {p most : Nat} {L : List (List UInt8)} {r : Option Nat} (h : NetR w p most L r) : NetR w.drew p most L r := h.kept (fun _ _ => rfl) (Nat.le_refl _)
theorem NS.drew {w w' : World} {p : Nat} {r r' : Option Nat} (h : NS w w' p r r') : NS w w'.drew p r r' := ⟨h.os, h.tape, h.output, h.size, h.block, h.row⟩

/- what the append and the store behind it leave -/
theorem net_more {w w3 : World} {p most : Nat} {L : List (List UInt8)} {r : Option Nat} {x : Pk} {b : List UInt8} {v v3 : Value} {ps : List Pk} (h1 : most ≤ 256) (hL : L.length ≤ most)
    (h3 : w.heap[p]? = some (.cells #[.int .i64 most, v] 60 (0, 0))) (h4 : v.ownBlock = r) (h6 : r ≠ some p) (h7 : Pks w p r ps L) (hx : Pkt w p r x b)
    (ho : w3.ownsRow 0 30 1 v3 (L.length + 1) (ps.map encP ++ [encP x])) (hg : (w.alloc (.cells #[encP x] 30)).grownBy w3 v.ownBlock) (hr : v3.ownBlock = v.ownBlock ∨ v3.ownBlock = some (w.heap.size + 1)) :
    NetR (w3.setCell ⟨p, 1, none⟩ v3) p most (L ++ [b]) v3.ownBlock ∧ NS w (w3.setCell ⟨p, 1, none⟩ v3) p r v3.ownBlock := by
  have hp : p < w.heap.size := (Array.getElem?_eq_some_iff.1 h3).1
  have hs : w.heap.size + 1 ≤ w3.heap.size := by have := hg.size; rwa [World.size_alloc] at this
  have hb : ∀ k, k < w.heap.size → r ≠ some k → w3.heap[k]? = w.heap[k]? := fun k hk hne => (hg.block k (by rw [World.size_alloc]; omega) (by rw [h4]; exact fun e => hne e.symm)).trans (Below.heap_alloc w _ k hk)
  have hr' : ∀ k, k < w.heap.size → r ≠ some k → v3.ownBlock ≠ some k := by
    intro k hk hne e
    rcases hr with q | q
    · rw [q, h4] at e; exact hne e
    · rw [q] at e; have := Option.some.inj e; omega
  refine ⟨netR_set (ps := ps ++ [x]) (v := v) h1 (by simp; omega) ((hb p hp h6).trans h3) ?_ (hr' p hp h6) ?_, ⟨hg.os, hg.tape, hg.output, by simp; omega, fun k hk hkp hkr => ?_, ?_⟩⟩
  · simpa using ho
  · exact (h7.more hx).kept (by omega) (fun k hk _ hne => hb k hk hne) hr'
  · exact (Below.heap_setCell w3 ⟨p, 1, none⟩ _ k hkp).trans (hb k hk (fun e => hkr e.symm))
  · rcases hr with q | q
    · exact .inl (q.trans h4)
    · exact .inr ⟨_, q, by omega⟩

theorem cut_all (most : Nat) (L : List (List UInt8)) (h : L.length ≤ most) : cutM most L = L := by
  unfold cutM; rw [show L.length - most = 0 by omega]; rfl
theorem cut_one (most : Nat) (L : List (List UInt8)) (h : L.length = most + 1) : cutM most L = L.take 0 ++ L.drop (0 + 1) := by
  unfold cutM; rw [show L.length - most = 0 + 1 by omega]; rfl

set_option maxHeartbeats 800000 in
set_option maxRecDepth 100000 in
theorem add_any (p most : Nat) (L : List (List UInt8)) (r : Option Nat) (x : Pk) (b : List UInt8) (w : World) (h : NetR w p most L r) (hL : L.length ≤ most) (hx : Pkt w p r x b) :
    Calls Try.prog 15 #[.pointer (some ⟨p, 0, none⟩), encP x] w fun e w' => e = .returned (.tuple #[]) ∧ ∃ r', NetR w' p most (cutM most (L ++ [b])) r' ∧ NS w w' p r r' := by
  obtain ⟨h1, h2, v, ps, h3, h4, h5, h6, hPk⟩ := h
  obtain ⟨i0, hi0, hz0, hz1, hz2⟩ := info_parts info30
  have c1 : w.cell? ⟨p, 1, none⟩ = some v := by rw [cell_of_row w p 1 _ 60 (0, 0) h3]; rfl
  have hp : p < w.heap.size := (Array.getElem?_eq_some_iff.1 h3).1
  have H3 := hidOf h3
  have H4 := hidOf h4
  have H6 := hidOf h6
  have HP := hidOf hPk
  have HX := hidOf hx
  have H5 := hidOf h5
  have HI := hidOf hi0
  have HZ0 := hidOf hz0
  have HZ1 := hidOf hz1
  have HZ2 := hidOf hz2
  clear h3 h4 h6 hPk hx h5 hi0 hz0 hz1 hz2
  obtain ⟨pa, pn, pc⟩ := x
  have O1 : Hid (∀ u ∈ (#[.slice pa pn pc] : Array Value).toList, u.oneCell' = true) := by intro u hu; simp at hu; subst hu; rfl
  change Calls Try.prog 15 #[.pointer (some ⟨p, 0, none⟩), .slice pa pn pc] w _
  go_enter Try.func15, Try.ntmps15
  go_wp2_with (at_builtin; refine wpList_append_own2 _ rfl (.tmp 8) (.tmp 10) 58 rfl 0 30 i0 (.slice none 0 0) 1 24 Try.underlying58 HI.out HZ0.out HZ1.out HZ2.out rfl (by decide) _ _ _ rfl (H5.out.alloc _) ⟨w.heap.size, 0, none⟩ 1 1 (#[.slice pa pn pc] : Array Value).toList rfl rfl (fun j u hj => cell_news w _ _ j u hj) O1.out ?c3 ?c4 (Nat.zero_le _) ?next)
  case c3 => unfold maxLen; omega
  case c4 => omega
  case next =>
    intro v3 w3 ho3 hg3 hw3
    have FIN := hidOf (net_more (x := (pa, pn, pc)) h1 hL H3.out H4.out H6.out HP.out HX.out ho3 hg3 (by first | exact hw3 | (rw [World.size_alloc] at hw3; exact hw3)))
    have g3 : w3.heap[p]? = some (.cells #[.int .i64 most, v] 60 (0, 0)) := ((hg3.block p (by rw [World.size_alloc]; omega) (by rw [H4.out]; exact fun e => H6.out e.symm)).trans (Below.heap_alloc w _ p hp)).trans H3.out
    have c1' : w3.cell? ⟨p, 1, none⟩ = some v := by rw [cell_of_row w3 p 1 _ 60 (0, 0) g3]; rfl
    have c0' : w3.cell? ⟨p, 0, none⟩ = some (.int .i64 most) := by rw [cell_of_row w3 p 0 _ 60 (0, 0) g3]; rfl
    have f1' : w3.frozen? ⟨p, 1, none⟩ = false := by simp [World.frozen?, g3]
    have hp3 : p < w3.heap.size := (Array.getElem?_eq_some_iff.1 g3).1
    obtain ⟨g, cap, hv3, hcap⟩ : ∃ g cap, v3 = .slice (some ⟨g, 0, none⟩) (L.length + 1) cap ∧ L.length + 1 ≤ cap ∧ cap ≤ maxLen := by
      rcases ho3.2 with ⟨e, _⟩ | ⟨g, cap, cur, e1, e2, e3, e4, e5, _⟩
      · omega
      · exact ⟨g, cap, e1, e4, e5⟩
    subst hv3
    clear ho3 hg3 hw3 g3 H3 H4 H6 HP HX H5 HI HZ0 HZ1 HZ2 O1
    by_cases hm0 : most < L.length + 1
    · have HC := hidOf (cut_one most (L ++ [b]) (by simp; omega))
      have hm1 : ((L.length : Int) + 1 > most) := by omega
      have HL1 : Hid (0 < (L ++ [b]).length) := by show 0 < _; simp
      clear hL hm0
      go_wp2
      go_region
      go_wp2_with fail
      refine (remove_any p most (L ++ [b]) _ 0 _ FIN.out.1.drew HL1.out).mono ?_
      rintro e w4 ⟨rfl, hn4, hs4⟩
      rw [← HC.out] at hn4
      have HE := hidOf (show NetR w4 p most (cutM most (L ++ [b])) (some g) ∧ NS w w4 p r (some g) from ⟨hn4, FIN.out.2.drew.trans hs4⟩)
      clear hn4 hs4
      go_wp2
      go_end0
      exact ⟨rfl, _, HE.out⟩
    · have HC := hidOf (cut_all most (L ++ [b]) (by simp; omega))
      have hm2 : ¬ ((L.length : Int) + 1 > most) := by omega
      clear hL hm0
      go_wp2
      go_region
      go_wp2
      go_end0
      rw [HC.out]
      exact ⟨rfl, _, FIN.out.1.drew, FIN.out.2.drew⟩

end Go.Proofs.Ytcdoejdbmllnnab
