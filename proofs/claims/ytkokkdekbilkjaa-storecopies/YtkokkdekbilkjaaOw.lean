/- Rows of one's own: cells written. Jobs copied. -/
import Derived.Test.YtkokkdekbilkjaaCl
namespace Go.Proofs.Ytkokkdekbilkjaa
open Go.RowKit Go.Shelf
attribute [local go_sem] Oper.semAt_some
theorem fl_set {α : Type} {cs : α → List Value} {k : Nat} (hk : ∀ x, (cs x).length = k) (L : List α) (i : Nat) (hi : i < L.length) (j : Nat) (hj : j < k) (v : Value) (x' : α) (hx : cs x' = (cs L[i]).set j v) : (fl cs L).set (i * k + j) v = fl cs (L.set i x') := by
  induction L generalizing i with
  | nil => simp at hi
  | cons y L ih =>
    cases i with
    | zero =>
      simp only [List.getElem_cons_zero] at hx
      simp only [fl, List.map_cons, List.flatten_cons, List.set_cons_zero, Nat.zero_mul, Nat.zero_add]
      rw [List.set_append_left _ _ (by rw [hk]; exact hj), hx]
    | succ i =>
      have := ih i (by simpa using hi) (by simpa using hx)
      simp only [fl, List.map_cons, List.flatten_cons, List.set_cons_succ] at this ⊢
      rw [List.set_append_right _ _ (by rw [hk, Nat.add_mul]; omega), hk, show (i + 1) * k + j - k = i * k + j by rw [Nat.add_mul]; omega, this]
/- a row of one's own: where it lies, what is in it, a cell written -/
structure OwA {α : Type} (cs : α → List Value) (lo e k : Nat) (w : World) (a : Option Addr) (c : Nat) (L : List α) (g : Nat) : Prop where
  ad : a = some ⟨g, 0, none⟩
  ge : lo ≤ g
  lt : g < w.heap.size
  ty : ∃ cur, w.heap[g]? = some (.cells cur e (0, 0))
  fz : ∀ j, w.frozen? ⟨g, j, none⟩ = false
  el : ∀ i (h : i < L.length), w.rangeAt g (i * k) (cs L[i])
  set : ∀ i (hi : i < L.length) j, j < k → ∀ v x', cs x' = (cs L[i]).set j v → (w.setCell ⟨g, i * k + j, none⟩ v).ownsRow lo e k (.slice a (L.set i x').length c) (L.set i x').length (fl cs (L.set i x'))
theorem own_at {α : Type} {cs : α → List Value} {k : Nat} (hk : ∀ x, (cs x).length = k) {w : World} {lo e : Nat} {a : Option Addr} {c : Nat} {L : List α} (h : w.ownsRow lo e k (.slice a L.length c) L.length (fl cs L)) (hne : 0 < L.length) : ∃ g, OwA cs lo e k w a c L g := by
  rcases h.2 with ⟨_, hn⟩ | ⟨g, cap, cur, hv, hl, hg, hnc, hm, hcs, ht⟩
  · omega
  · obtain ⟨e1, _, e3⟩ := Value.slice.inj hv
    subst e3
    refine ⟨g, e1, hl, heap_lt hg, ⟨cur, hg⟩, fun j => frozen_of_row w g j cur e hg, fun i hi => ?_, fun i hi j hj v x' hx => ?_⟩
    · have hr : w.rangeAt g 0 (fl cs L) := fun j v hj => by
        rw [Nat.zero_add, cell_of_row w g j cur e (0, 0) hg]
        have hjl := (List.getElem?_eq_some_iff.1 hj).1
        rw [fl_len hk] at hjl
        have : cur.toList[j]? = some v := by rw [← hj, ← ht, List.getElem?_take, if_pos hjl]
        simpa using this
      have := fl_range hk hr i hi
      rw [Nat.zero_add] at this
      exact this
    · have h2 := heap_setCell_same w g (i * k + j) cur e v hg
      rw [List.length_set]
      refine ⟨by rw [fl_len hk, List.length_set], .inr ⟨g, c, _, hv, hl, h2, hnc, hm, by rw [Array.size_setIfInBounds]; exact hcs, ?_⟩⟩
      rw [← fl_set hk L i hi j hj v x' hx, ← ht]
      simp [List.take_set]
theorem own_keptB {w w' : World} {lo k n : Nat} {e : TypeId} {a : Option Addr} {c : Nat} {xs : List Value} (h : w.ownsRow lo e k (.slice a n c) n xs) (hb : ∀ b, lo ≤ b → b < w.heap.size → (∃ cur, w.heap[b]? = some (.cells cur e (0, 0))) → a = some ⟨b, 0, none⟩ → w'.heap[b]? = w.heap[b]?) : w'.ownsRow lo e k (.slice a n c) n xs := by
  refine ⟨h.1, ?_⟩
  rcases h.2 with h | ⟨g, cap, cur, hv, hl, hg, rest⟩
  · exact .inl h
  · exact .inr ⟨g, cap, cur, hv, hl, (hb g hl (heap_lt hg) ⟨cur, hg⟩ (Value.slice.inj hv).1).trans hg, rest⟩
theorem nb_lo {lo lo2 : Nat} {t : TypeId} {w : World} {b : Nat} (h : NB lo t w b) (hl : lo2 ≤ lo) : NB lo2 t w b := ⟨Nat.le_trans hl h.1, h.2⟩
theorem CpR.lo {α β γ : Type} {e k : Nat} {cs : α → List Value} {t k' y : Nat} {cs' : γ → List Value} {ne : β → List γ} {sh : β → Option Addr → Nat → α} {lo lo2 : Nat} {w : World} {av : Option Addr} {cv : Nat} {J : List α} {D : List β} (h : CpR e k cs t k' y cs' ne sh lo w av cv J D) (hl : lo2 ≤ lo) : CpR e k cs t k' y cs' ne sh lo2 w av cv J D :=
  ⟨own_lo h.own hl, fun j h1 h2 => by obtain ⟨ga, gc, e1, f⟩ := h.dp j h1 h2; exact ⟨ga, gc, e1, f.kept (fun _ _ => rfl) (fun b hb => nb_lo hb hl)⟩⟩
/- what a copy of jobs is -/
def CjP (w : World) (r : Ending) (w' : World) (D : List Jb) : Prop := ∃ (a' : Option Addr) (c' : Nat) (J' : List Js), r = .returned (.slice a' J'.length c') ∧ J'.length = D.length ∧ CpR 55 7 Js.cs 57 3 24 Gp.cs Jb.gs Jb.sh w.heap.size w' a' c' J' D ∧ Below w.heap.size w w'
/- the copy so far: the first k have groups of their own, the others still those of the source -/
structure CjI (w : World) (k : Nat) (Ls : List Js) (D : List Jb) (wr : World) (a : Option Addr) (c : Nat) (J : List Js) : Prop where
  len : J.length = D.length
  own : wr.ownsRow w.heap.size 55 7 (.slice a J.length c) J.length (fl Js.cs J)
  dn : ∀ j (h1 : j < J.length) (h2 : j < D.length), j < k → ∃ ga gc, J[j] = D[j].sh ga gc ∧ Fl wr (NB w.heap.size 57 wr) 3 24 Gp.cs ga D[j].gs
  re : ∀ j (h1 : j < J.length) (h2 : j < Ls.length), k ≤ j → J[j] = Ls[j]
  bl : Below w.heap.size w wr
set_option maxRecDepth 100000 in
set_option maxHeartbeats 4000000 in
theorem copyJobs_any (a : Option Addr) (cap : Nat) (Ls : List Js) (D : List Jb) (S : Nat → Prop) (w : World) (hS : ∀ b, S b → b < w.heap.size) (hL : JbR w S a Ls D) : Calls Try.prog 65 #[.slice a Ls.length cap] w fun r w' => CjP w r w' D := by
  have hll : Ls.length ≤ 140737488355328 := by have := hL.row.bd; omega
  have HC := hidOf (clone83_any a cap Ls S w hL.row)
  have HLN := hidOf hL.len
  have HDP := hidOf (fun (W : World) (hW : Below w.heap.size w W) => (hL.kept (w' := W) (S' := S) (fun b hb => hW.block b (hS b hb)) (fun _ h => h)).dp)
  have HS := hidOf hS
  clear hL hS
  go_enter Try.func65, Try.ntmps65
  go_wp2_with (go_at_call 83; refine HC.out.mono ?_; rintro e w1 ⟨a1, c1, rfl, hown, hb⟩; have HO := hidOf hown; have HB := hidOf hb; clear hown hb)
  go_loopw [9, 4] (fun i _ wr => ∃ (k : Nat) (J : List Js), k ≤ Ls.length ∧ i = .int .i64 (k : Int) ∧ Hid (J.length = Ls.length) ∧ Hid (CjI w k Ls D wr a1 c1 J)) (fun i _ _ => Ls.length - (intOf i).toNat)
  case atStart => exact ⟨0, Ls, Nat.zero_le _, rfl, hidOf rfl, hidOf ⟨HLN.out, HO.out, fun j _ _ h => absurd h (Nat.not_lt_zero _), fun j _ _ _ => rfl, HB.out⟩⟩
  case round =>
    obtain ⟨k, J, hk, rfl, HJL, HI⟩ := hrel
    by_cases hlt : k < Ls.length
    · have hkJ : k < J.length := by rw [HJL.out]; exact hlt
      have hkD : k < D.length := by rw [← HLN.out]; exact hlt
      obtain ⟨g, hA⟩ := own_at Js.len HI.out.own (by omega)
      have ha := hA.ad
      subst ha
      obtain ⟨ga, gc, hsh, hG⟩ := HDP.out wr HI.out.bl k hlt hkD
      have hrk := HI.out.re k hkJ hlt (Nat.le_refl _)
      have hcr := hA.el k hkJ
      rw [hrk, hsh] at hcr
      have c4 : wr.cell? ⟨g, k * 7 + 4, none⟩ = some (.slice ga D[k].gs.length gc) := hcr 4 _ rfl
      have HCG := hidOf (clone84_any ga gc D[k].gs S wr hG)
      have lg : g < wr.heap.size := hA.lt
      have HA := hidOf hA
      have h64 : (k : Int) < (Ls.length : Int) := by omega
      have HSH : Hid (J[k] = D[k].sh ga gc) := hidOf (hrk.trans hsh)
      have HGB : Hid (D[k].gs.length * 24 ≤ 140737488355328) := hidOf hG.bd
      clear hcr hrk hsh hA hG
      go_wp2_with (go_at_call 84; refine HCG.out.mono ?_; rintro e w2 ⟨a2, c2, rfl, hown2, hb2⟩; have HO2 := hidOf hown2; have HB2 := hidOf hb2; have c4 : w2.cell? ⟨g, k * 7 + 4, none⟩ = some (.slice ga D[k].gs.length gc) := (hb_cell hb2 lg).trans c4; have lg2 : g < w2.heap.size := Nat.lt_of_lt_of_le lg hb2.size; have fg : ∀ j, w2.frozen? ⟨g, j, none⟩ = false := (fun j => by (obtain ⟨cur, hq⟩ := HA.out.ty; exact frozen_of_row w2 g j cur 55 ((hb2.block g lg).trans hq))); clear hown2 hb2)
      go_roundw
      case rel =>
        have hO : w2.ownsRow w.heap.size 55 7 (.slice (some ⟨g, 0, none⟩) J.length c1) J.length (fl Js.cs J) := own_kept HI.out.own (fun b _ h2 => HB2.out.block b h2)
        obtain ⟨g', hA2⟩ := own_at Js.len hO (by omega)
        have eg : g' = g := by have := hA2.ad; cases this; rfl
        subst eg
        have hset := hA2.set k hkJ 4 (by decide) (.slice a2 D[k].gs.length c2) (D[k].sh a2 c2) (by rw [HSH.out]; rfl)
        have hoth : ∀ b, b ≠ g' → (w2.setCell ⟨g', k * 7 + 4, none⟩ (.slice a2 D[k].gs.length c2)).heap[b]? = w2.heap[b]? := fun b hb => heap_setCell_other w2 ⟨g', k * 7 + 4, none⟩ b _ hb
        have hne : ∀ b t, t ≠ 55 → NB w.heap.size t w2 b → b ≠ g' := fun b t ht hb e => by
          subst e
          obtain ⟨c, hc⟩ := hb.2
          obtain ⟨cur, hq⟩ := hA2.ty
          rw [hq] at hc
          cases hc
          exact ht rfl
        refine ⟨k + 1, J.set k (D[k].sh a2 c2), by omega, by go_num, hidOf (by rw [List.length_set]; exact HJL.out), hidOf ⟨by rw [List.length_set]; exact HI.out.len, by rw [List.length_set] at hset ⊢; exact hset, fun j h1 h2 hj => ?_, fun j h1 h2 hj => ?_, ?_⟩⟩
        · by_cases hjk : j = k
          · subst hjk
            refine ⟨a2, c2, by simp, ?_⟩
            have f2 := own_fl (y := 24) Gp.len HO2.out HGB.out
            have hn2 : ∀ b, NB wr.heap.size 57 w2 b → b ≠ g' := fun b hb => hne b 57 (by decide) (nb_lo hb HI.out.bl.size)
            exact f2.kept (fun b hb => hoth b (hn2 b hb)) (fun b hb => (nb_lo hb HI.out.bl.size).to (hoth b (hn2 b hb)) (nb_lo hb HI.out.bl.size).1)
          · obtain ⟨ga', gc', e1, f⟩ := HI.out.dn j (by rw [List.length_set] at h1; exact h1) h2 (by omega)
            refine ⟨ga', gc', by rw [List.getElem_set_ne (by omega)]; exact e1, ?_⟩
            have hw2 : ∀ b, NB w.heap.size 57 wr b → w2.heap[b]? = wr.heap[b]? := fun b hb => HB2.out.block b hb.lt
            have hn2 : ∀ b, NB w.heap.size 57 wr b → b ≠ g' := fun b hb => hne b 57 (by decide) (hb.to (hw2 b hb) hb.1)
            exact f.kept (fun b hb => (hoth b (hn2 b hb)).trans (hw2 b hb)) (fun b hb => hb.to ((hoth b (hn2 b hb)).trans (hw2 b hb)) hb.1)
        · rw [List.getElem_set_ne (by omega)]
          exact HI.out.re j (by rw [List.length_set] at h1; exact h1) h2 (by omega)
        · exact (HI.out.bl.trans (HB2.out.mono HI.out.bl.size)).setCell (p := ⟨g', k * 7 + 4, none⟩) hA2.ge _
      case measure => simp [intOf]; omega
    · have hke : k = Ls.length := by omega
      have HE : Hid (CjP w (.returned (.slice a1 Ls.length c1)) wr D) := hidOf ⟨a1, c1, J, by rw [HJL.out], HI.out.len, ⟨HI.out.own, fun j h1 h2 => HI.out.dn j h1 h2 (by rw [hke, ← HJL.out]; exact h1)⟩, HI.out.bl⟩
      subst hke
      go_wp2
      go_ret
      exact HE.out
end Go.Proofs.Ytkokkdekbilkjaa
