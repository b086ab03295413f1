/- Crash, by the document. -/
import Derived.Test.YtkbmfookdhlphaaRmw
namespace Go.Proofs.Ytkbmfookdhlphaa
open Go.RowKit Go.Sort

theorem pick2 (pick : Int) (s : Nat) : (if pick.tmod ((s : Int) + 1) < 0 then pick.tmod ((s : Int) + 1) + (s : Int) + 1 else pick.tmod ((s : Int) + 1)) = (pickN pick s : Int) := by
  obtain ⟨h1, h2⟩ := tmod_abs pick ((s : Int) + 1) (by omega)
  rw [← (pick_eq pick s).1]
  generalize pick.tmod ((s : Int) + 1) = t at h1 h2 ⊢
  split
  · rw [Int.tmod_eq_emod_of_nonneg (by omega), Int.emod_eq_of_lt (by omega) (by omega)]; omega
  · rw [Int.tmod_eq_emod_of_nonneg (by omega), Int.add_emod_right, Int.emod_eq_of_lt (by omega) (by omega)]
theorem unI_eq {g : Ge} {u : Nat} (hk : g.kd = 0 ∨ g.kd ≠ 0) (h : GeU g u) : unI g.kd g.d.length = (u : Int) := by
  unfold GeU at h
  unfold unI
  rcases hk with e | e
  · rw [if_pos e] at h
    by_cases hd : 0 < g.d.length
    · rw [if_pos ⟨e, hd⟩]; omega
    · rw [if_neg (fun x => hd x.2)]; omega
  · rw [if_neg e] at h
    rw [if_neg (fun x => e x.1), h]; rfl
/- in the midst: k of what was done is there, p units are left -/
structure CrR (w wr : World) (M : Md) (a : Option Addr) (l : List Fe) (G : List Ge) (p0 k p : Nat) (fs : FS) (a' : Option Addr) (l' : List Fe) : Prop where
  fl : FlS wr a' l' fs
  kk : ∀ i, FlK a' l' i → RtB a l G i ∨ (w.heap.size ≤ i ∧ i < wr.heap.size)
  bel : Below w.heap.size w wr
  eq : mkD M.done p0 M.dur = mkD (M.done.drop k) p fs
  all : p ≠ 0 → fs = rep (M.done.take k) M.dur
theorem CrR.step {w wr w6 w7 : World} {M : Md} {a : Option Addr} {l : List Fe} {G : List Ge} {p0 k p : Nat} {fs : FS} {a' : Option Addr} {l' : List Fe} {g : Ge} {y : Nat × Dd} (h : CrR w wr M a l G p0 k p fs a' l') (hg : g ∈ G) (hy : M.done[k]? = some y) (hp : p ≠ 0) (hy1 : 1 ≤ y.1) (hb : Below wr.heap.size wr w6) {e : Ending} (hr : RdoP w6 a' l' g.a (doD y.2 (min p y.1) fs) e w7) : ∃ a2 l2 c2, e = .returned (.slice a2 l2.length c2) ∧ CrR w w7 M a l G p0 (k + 1) (p - min p y.1) (doD y.2 (min p y.1) fs) a2 l2 := by
  obtain ⟨a2, l2, c2, rfl, f1, f2, f3⟩ := hr
  obtain ⟨v, x⟩ := y
  refine ⟨a2, l2, c2, rfl, f1, fun i hi => ?_, (h.bel.trans (hb.mono h.bel.size)).trans (f3.mono (Nat.le_trans h.bel.size hb.size)), ?_, fun hne => ?_⟩
  · rcases f2 i hi with e | e | e
    · rcases h.kk i e with e | e
      · exact .inl e
      · exact .inr ⟨e.1, Nat.lt_of_lt_of_le e.2 (Nat.le_trans hb.size f3.size)⟩
    · exact .inl (.inr ⟨g, hg, e⟩)
    · exact .inr ⟨Nat.le_trans (Nat.le_trans h.bel.size hb.size) e.1, e.2⟩
  · have hy1 : 1 ≤ v := hy1
    rw [h.eq, mkD_step hy, if_neg (by omega)]
  · have hne : p - min p v ≠ 0 := hne
    have : min p v = v := by omega
    show doD x (min p v) fs = _
    rw [this, rep_take hy, h.all hp]
theorem CrR.fin {w wr : World} {q : Nat} {pick : Int} {M : Md} {a : Option Addr} {cap : Nat} {l : List Fe} {dn : Value} {G : List Ge} {s k p : Nat} {fs : FS} {a' : Option Addr} {l' : List Fe} {c' : Nat} (h : CrR w wr M a l G (pickN pick s) k p fs a' l') (hR : RfR w q M a cap l dn G) (hs : s = sumU M.done) (he : p = 0 ∨ k = G.length) :
    RfR (((wr.setCell ⟨q, 0, none⟩ (.slice a' l'.length c')).setCell ⟨q, 1, none⟩ (.slice none 0 0)).setCell ⟨q, 2, none⟩ (.int .i64 (-1))) q (crashM pick M) a' c' l' (.slice none 0 0) [] ∧ Fr w (((wr.setCell ⟨q, 0, none⟩ (.slice a' l'.length c')).setCell ⟨q, 1, none⟩ (.slice none 0 0)).setCell ⟨q, 2, none⟩ (.int .i64 (-1))) (RtF q a l dn G) (RtF q a' l' (.slice none 0 0) []) ∧ Kp82 w (((wr.setCell ⟨q, 0, none⟩ (.slice a' l'.length c')).setCell ⟨q, 1, none⟩ (.slice none 0 0)).setCell ⟨q, 2, none⟩ (.int .i64 (-1))) := by
  have ef : mkD M.done (pickN pick s) M.dur = fs := by
    rw [h.eq]
    rcases he with e | e
    · subst e
      cases hl : M.done.drop k with
      | nil => rfl
      | cons y r => simp [mkD]
    · rw [e, hR.len]
      exact mkD_end M.done p fs
  unfold crashM
  rw [← hs, ef]
  exact hR.reset h.fl h.kk h.bel (rfB_left (rfB_dn (rfB_dv (hR.grow h.bel).blk _) _) _) ⟨rfl, rfl, rfl⟩ (by simp) (fun k hk => by rw [Below.heap_setCell _ ⟨q, 2, none⟩ _ k hk, Below.heap_setCell _ ⟨q, 1, none⟩ _ k hk, Below.heap_setCell _ ⟨q, 0, none⟩ _ k hk]) fs
theorem Below.box {w w5 : World} {o : Obj} {v : Value} {j : Nat} (h : Below w.heap.size (w.alloc o) w5) : Below w.heap.size w (w5.setCell ⟨w.heap.size, j, none⟩ v) := by
  have h1 := (below1 w o).trans h
  exact ⟨h1.os, h1.tape, h1.output, by simpa using h1.size, fun k hk => (Below.heap_setCell w5 ⟨w.heap.size, j, none⟩ v k (by show k ≠ w.heap.size; omega)).trans (h1.block k hk)⟩
theorem box_facts {w : World} {b : Nat} {kd nm to d : Value} (h : w.heap[b]? = some (.cells #[kd, nm, to, d] 82 (0, 0))) : w.cell? ⟨b, 0, none⟩ = some kd ∧ w.cell? ⟨b, 1, none⟩ = some nm ∧ w.cell? ⟨b, 2, none⟩ = some to ∧ w.cell? ⟨b, 3, none⟩ = some d ∧ (∀ o, w.frozen? ⟨b, o, none⟩ = false) ∧ b < w.heap.size := by
  refine ⟨?_, ?_, ?_, ?_, fun o => by simp [World.frozen?, h], heap_lt h⟩ <;> rw [cell_of_row _ _ _ _ 82 (0, 0) h] <;> rfl
set_option maxHeartbeats 8000000 in
set_option maxRecDepth 100000 in
theorem rcrash_any (pick : Int) (q : Nat) (M : Md) (a : Option Addr) (cap : Nat) (l : List Fe) (dn : Value) (G : List Ge) (w : World) (m : Nat) (h : RfR w q M a cap l dn G) (hr : RcM M m) : Calls Try.prog 32 #[.pointer (some ⟨q, 0, none⟩), .int .i64 pick] w fun e w' => e = .returned (.tuple #[]) ∧ ∃ a' c' l', RfR w' q (crashM pick M) a' c' l' (.slice none 0 0) [] ∧ Fr w w' (RtF q a l dn G) (RtF q a' l' (.slice none 0 0) []) ∧ Kp82 w w' := by
  have hsum : sumU M.done ≤ M.done.length * 1048576 := by
    have h1 := sumU_le M.done 1048576 (fun x hx => (hr.ok.un x hx).2) M.done.length
    rwa [List.take_length] at h1
  obtain ⟨da, dc, hdn⟩ := h.dnForm
  have HDN := hidOf hdn
  have H := hidOf h
  have HM := hidOf hr
  have hgl : G.length ≤ 2199023255552 := by rw [h.len]; have := hr.n; omega
  have hs61 : sumU M.done ≤ 2305843009213693952 := by have := hr.n; omega
  have lq := h.blk.lt
  have c1 := h.blk.c1
  rw [hdn] at c1
  clear h hr hdn hsum
  go_enter Try.func32, Try.ntmps32
  go_wp2
  go_loopw [4, 5] (fun u i wr => ∃ k : Nat, k ≤ G.length ∧ i = .int .i64 (k : Int) ∧ u = .int .i64 (sumU (M.done.take k) : Int) ∧ Hid (Below w.heap.size w wr)) (fun _ i _ => G.length - (intOf i).toNat)
  case atStart => exact ⟨0, Nat.zero_le _, rfl, rfl, Below.refl _ _⟩
  case round =>
    obtain ⟨k, hk, rfl, rfl, HB⟩ := hrel
    clear c1 lq
    have HR := hidOf (H.out.grow HB.out)
    have c1 := HR.out.blk.c1
    have lq := HR.out.blk.lt
    rw [HDN.out] at c1
    by_cases hlt : k < G.length
    · have hltz : (k : Int) < (G.length : Int) := by omega
      obtain ⟨g, hg⟩ : ∃ g, G[k]? = some g := ⟨_, List.getElem?_eq_getElem hlt⟩
      obtain ⟨y, hy⟩ : ∃ y, M.done[k]? = some y := ⟨_, List.getElem?_eq_getElem (by rw [← H.out.len]; exact hlt)⟩
      obtain ⟨b, c2, e, hb, r0, r1, r2, r3⟩ := HR.out.rowAt hg
      rw [HDN.out] at e
      cases e
      have HU := runits_any g.kd g.nm g.to g.a g.cap g.d.length wr
      rw [unI_eq (Classical.em _) (HR.out.is k g y hg hy).2] at HU
      have HU := hidOf HU
      have hst := sumU_take M.done k y hy
      have hle : sumU (M.done.take k) ≤ k * 1048576 := sumU_le M.done 1048576 (fun x hx => (HM.out.ok.un x hx).2) k
      have hub := (HM.out.ok.un y (List.mem_of_getElem? hy)).2
      generalize hs : sumU (M.done.take k) = s at *
      have HST := hidOf hst
      clear hg hy hst hs
      go_wp2_with (go_at_call 59; refine HU.out.mono ?_; rintro e w1 ⟨rfl, hb1⟩; have HB1 := hidOf (HB.out.trans (hb1.mono HB.out.size)); clear hb1)
      go_roundw
      case rel => exact ⟨k + 1, by omega, by go_num, by rw [HST.out]; go_num, HB1⟩
      case measure => simp [intOf]; omega
    · have hke : k = G.length := by omega
      have hltz : ¬ (k : Int) < (G.length : Int) := by omega
      rw [List.take_of_length_le (by rw [← H.out.len]; omega)]
      have c0 := HR.out.blk.c0
      obtain ⟨s, hs⟩ : ∃ s, s = sumU M.done := ⟨_, rfl⟩
      rw [← hs] at hs61 ⊢
      have HS := hidOf hs
      clear hs hk hke
      have hpk := pick2 pick s
      obtain ⟨hp1, hp2⟩ := pick_eq pick s
      obtain ⟨ht1, ht2⟩ := tmod_abs pick ((s : Int) + 1) (by omega)
      have hnz : ¬ ((s : Int) + 1 = 0) := by omega
      clear hp1
      by_cases ht : pick.tmod ((s : Int) + 1) < 0
      · rw [if_pos ht] at hpk
        have HPK := hidOf hpk
        clear hpk
        go_wp2
        go_loopw [6, 7, 8] (fun pv lv i w3 => ∃ (k p : Nat) (fs : FS) (a' : Option Addr) (l' : List Fe) (c' : Nat), k ≤ G.length ∧ p ≤ 2305843009213693952 ∧ pv = .int .i64 (p : Int) ∧ lv = .slice a' l'.length c' ∧ i = .int .i64 (k : Int) ∧ Hid (CrR w w3 M a l G (pickN pick s) k p fs a' l')) (fun _ _ i _ => G.length - (intOf i).toNat)
        case atStart => exact ⟨0, pickN pick s, M.dur, a, l, cap, Nat.zero_le _, by omega, by rw [← HPK.out], rfl, rfl, hidOf ⟨HR.out.dur, fun i hi => .inl (.inl hi), HB.out, rfl, fun _ => rfl⟩⟩
        case round =>
          obtain ⟨k, p, fs, a', l', c', hk, hpl, rfl, rfl, rfl, HC⟩ := hrel
          clear c1 c0 lq
          have HR3 := hidOf (H.out.grow HC.out.bel)
          have c0 := HR3.out.blk.c0
          have c1 := HR3.out.blk.c1
          have c2 := HR3.out.blk.c2
          have lq := HR3.out.blk.lt
          have fq := HR3.out.blk.fr
          rw [HDN.out] at c1
          by_cases hlt : k < G.length
          · have hltz : (k : Int) < (G.length : Int) := by omega
            by_cases hp : p = 0
            · subst hp
              go_wp2
              go_end0
              obtain ⟨f1, f2, f3⟩ := HC.out.fin (c' := c') H.out HS.out (.inl rfl)
              exact ⟨rfl, a', c', l', f1, f2, f3⟩
            · have hpz : (0 : Int) < (p : Int) := by omega
              obtain ⟨g, hg⟩ : ∃ g, G[k]? = some g := ⟨_, List.getElem?_eq_getElem hlt⟩
              obtain ⟨y, hy⟩ : ∃ y, M.done[k]? = some y := ⟨_, List.getElem?_eq_getElem (by rw [← H.out.len]; exact hlt)⟩
              obtain ⟨b, cc, e, hb, r0, r1, r2, r3⟩ := HR3.out.rowAt hg
              rw [HDN.out] at e
              cases e
              have HU := fun w => runits_any g.kd g.nm g.to g.a g.cap g.d.length w
              rw [unI_eq (Classical.em _) (HR3.out.is k g y hg hy).2] at HU
              have HU := hidOf HU
              have hub := HM.out.ok.un y (List.mem_of_getElem? hy)
              obtain ⟨hu1, hu2⟩ := hub
              have hgm := List.mem_of_getElem? hg
              have hfew : l'.length ≤ 64 := HC.out.fl.lst.few (fun m hm => HM.out.rk.few k m (by rw [← HC.out.all hp]; exact hm))
              have hcl : (cOf fs g.nm.data.toList).length ≤ 1048576 := by have h1 := (HM.out.ok.ok k).1 g.nm.data.toList; rw [← HC.out.all hp] at h1; exact h1
              have hrn : isRn y.2 fs := by have h1 := HM.out.rk.rn k y hy; rw [← HC.out.all hp] at h1; exact h1
              obtain ⟨gb1, gb2, gb3, gb4⟩ := HR3.out.bs g hgm
              have his := HR3.out.is k g y hg hy
              have HG := hidOf hgm
              have HY := hidOf hy
              obtain ⟨u, hu⟩ : ∃ u, u = y.1 := ⟨_, rfl⟩
              have HUU := hidOf hu
              rw [← hu] at hu1 hu2
              rw [← hu] at HU
              have HP := hidOf hp
              have HGB := hidOf gb1
              have HGN := hidOf gb2
              have HIS := hidOf his
              have HRN := hidOf hrn
              obtain ⟨kd, nm, to, ga, gc, gd⟩ := g
              clear hg hy hgm his hrn gb1 gb2 hu hp
              have gb3 : gd.length ≤ 1048576 := gb3
              have gb4 : gd.length ≤ gc := gb4
              have r3 : wr.cell? ⟨b, k * 4 + 3, none⟩ = some (.slice ga gd.length gc) := r3
              by_cases hnp : p < u
              · have hnz : (p : Int) < (u : Int) := by omega
                have hkd : kd = 0 := by
                  have h1 := HIS.out.2
                  unfold GeU at h1
                  rw [← HUU.out] at h1
                  by_cases e : kd = 0
                  · exact e
                  · rw [if_neg e] at h1; have := HP.out; omega
                subst hkd
                have hgl2 : u = gd.length := by
                  have h1 := HIS.out.2
                  unfold GeU at h1
                  rw [← HUU.out, if_pos rfl] at h1
                  have h2 : u = max 1 gd.length := h1
                  have := HP.out
                  omega
                obtain ⟨gb, go, hga, hgbl, _⟩ := HGB.out.2 (fun e => by rw [show gd = [] from e] at hgl2; simp at hgl2; omega)
                have hga : ga = some ⟨gb, go, none⟩ := hga
                subst hga
                have HL : Hid ((gd.take p).length = p) := hidOf (by simp; omega)
                have hcap : (p : Int) ≤ (gc : Int) := by omega
                have HC60 : Hid (∀ w6, Below wr.heap.size wr w6 → Calls Try.prog 60 #[.slice a' l'.length c', .agg #[.int .i64 0, .string nm, .string to, .slice (some ⟨gb, go, none⟩) p gc]] w6 (RdoP w6 a' l' (some ⟨gb, go, none⟩) (doD y.2 (min p y.1) fs))) := hidOf (fun w6 hb6 => by
                  have h6 := rdo_any a' c' l' fs ⟨0, nm, to, some ⟨gb, go, none⟩, gc, gd.take p⟩ (min p y.1) y.2 w6 (HC.out.fl.grow hb6) (by omega) ((HGB.out.take p).grow hb6) (fun e => by cases e) (by
                    have h1 := HIS.out.1
                    have h2 := HIS.out.2
                    have h3 := HUU.out
                    rw [show min p y.1 = p by omega]
                    revert h1
                    cases y.2 with
                    | ap n d => rintro ⟨_, h5, h6⟩; exact ⟨rfl, h5, by show gd.take p = d.take p; rw [show gd = d.take y.1 from h6, List.take_take, Nat.min_eq_left (by omega)]⟩
                    | pt n d => rintro ⟨h5, _⟩; cases h5
                    | rm n => rintro ⟨h5, _⟩; cases h5
                    | rn n m => rintro ⟨h5, _⟩; cases h5) (by have : (cOf fs nm.data.toList).length ≤ 1048576 := hcl; show (cOf fs nm.data.toList).length + (gd.take p).length ≤ _; rw [HL.out]; omega) HRN.out
                  unfold Ge.v at h6
                  have h6 : Calls Try.prog 60 #[.slice a' l'.length c', .agg #[.int .i64 0, .string nm, .string to, .slice (some ⟨gb, go, none⟩) (gd.take p).length gc]] w6 (RdoP w6 a' l' (some ⟨gb, go, none⟩) (doD y.2 (min p y.1) fs)) := h6
                  rw [HL.out] at h6
                  exact h6)
                go_wp2_with (first
                  | (go_at_call 59; refine (HU.out _).mono ?_; rintro e w5 ⟨rfl, hb1⟩; have HB1 : Hid (Below wr.heap.size (wr.alloc (.cells #[.int .i64 0, .string nm, .string to, .slice (some ⟨gb, go, none⟩) gd.length gc] 82)) w5) := hidOf (hb1.mono (by simp)); have HX5 : Hid (w5.heap[wr.heap.size]? = some (.cells #[.int .i64 0, .string nm, .string to, .slice (some ⟨gb, go, none⟩) gd.length gc] 82 (0, 0))) := hidOf ((hb1.block _ (by simp)).trans (heap_alloc_new wr _)); obtain ⟨x0, x1, x2, x3, xf, xl⟩ := box_facts HX5.out; clear hb1)
                  | (go_at_call 60; refine (HC60.out _ (Below.box HB1.out)).mono ?_; rintro e w7 hp7; obtain ⟨a2, l2, c3, he, hp8⟩ := HC.out.step (g := ⟨0, nm, to, some ⟨gb, go, none⟩, gc, gd⟩) HG.out HY.out HP.out (by rw [← HUU.out]; exact hu1) (Below.box HB1.out) hp7; subst he; have HS2 := hidOf hp8; clear hp7 hp8))
                go_roundw
                case rel => exact ⟨k + 1, p - min p y.1, _, a2, l2, c3, by omega, by omega, by rw [show p - min p y.1 = 0 by have := HUU.out; omega]; go_num, rfl, by go_num, HS2⟩
                case measure => simp [intOf]; omega
              · have hnz : ¬ (p : Int) < (u : Int) := by omega
                have HC60 : Hid (∀ w6, Below wr.heap.size wr w6 → Calls Try.prog 60 #[.slice a' l'.length c', .agg #[.int .i64 kd, .string nm, .string to, .slice ga gd.length gc]] w6 (RdoP w6 a' l' ga (doD y.2 (min p y.1) fs))) := hidOf (fun w6 hb6 => rdo_any a' c' l' fs ⟨kd, nm, to, ga, gc, gd⟩ (min p y.1) y.2 w6 (HC.out.fl.grow hb6) (by omega) (HGB.out.grow hb6) HGN.out (by rw [show min p y.1 = y.1 by have := HUU.out; omega]; exact HIS.out.1) (by have : (cOf fs nm.data.toList).length ≤ 1048576 := hcl; show (cOf fs nm.data.toList).length + gd.length ≤ _; omega) HRN.out)
                go_wp2_with (first
                  | (go_at_call 59; refine (HU.out _).mono ?_; rintro e w5 ⟨rfl, hb1⟩; have HB1 : Hid (Below wr.heap.size wr w5) := hidOf ((below1 wr _).trans (hb1.mono (by simp))); have HX5 : Hid (w5.heap[wr.heap.size]? = some (.cells #[.int .i64 kd, .string nm, .string to, .slice ga gd.length gc] 82 (0, 0))) := hidOf ((hb1.block _ (by simp)).trans (heap_alloc_new wr _)); obtain ⟨x0, x1, x2, x3, xf, xl⟩ := box_facts HX5.out; clear hb1)
                  | (go_at_call 60; refine (HC60.out _ HB1.out).mono ?_; rintro e w7 hp7; obtain ⟨a2, l2, c3, he, hp8⟩ := HC.out.step (g := ⟨kd, nm, to, ga, gc, gd⟩) HG.out HY.out HP.out (by rw [← HUU.out]; exact hu1) HB1.out hp7; subst he; have HS2 := hidOf hp8; clear hp7 hp8))
                go_roundw
                case rel => exact ⟨k + 1, p - min p y.1, _, a2, l2, c3, by omega, by omega, by rw [show p - min p y.1 = p - u by have := HUU.out; omega]; go_num, rfl, by go_num, HS2⟩
                case measure => simp [intOf]; omega
          · have hltz : ¬ (k : Int) < (G.length : Int) := by omega
            go_wp2
            go_end0
            obtain ⟨f1, f2, f3⟩ := HC.out.fin (c' := c') H.out HS.out (.inr (by omega))
            exact ⟨rfl, a', c', l', f1, f2, f3⟩

      · rw [if_neg ht] at hpk
        have HPK := hidOf hpk
        clear hpk
        go_wp2
        go_loopw [6, 7, 8] (fun pv lv i w3 => ∃ (k p : Nat) (fs : FS) (a' : Option Addr) (l' : List Fe) (c' : Nat), k ≤ G.length ∧ p ≤ 2305843009213693952 ∧ pv = .int .i64 (p : Int) ∧ lv = .slice a' l'.length c' ∧ i = .int .i64 (k : Int) ∧ Hid (CrR w w3 M a l G (pickN pick s) k p fs a' l')) (fun _ _ i _ => G.length - (intOf i).toNat)
        case atStart => exact ⟨0, pickN pick s, M.dur, a, l, cap, Nat.zero_le _, by omega, by rw [← HPK.out], rfl, rfl, hidOf ⟨HR.out.dur, fun i hi => .inl (.inl hi), HB.out, rfl, fun _ => rfl⟩⟩
        case round =>
          obtain ⟨k, p, fs, a', l', c', hk, hpl, rfl, rfl, rfl, HC⟩ := hrel
          clear c1 c0 lq
          have HR3 := hidOf (H.out.grow HC.out.bel)
          have c0 := HR3.out.blk.c0
          have c1 := HR3.out.blk.c1
          have c2 := HR3.out.blk.c2
          have lq := HR3.out.blk.lt
          have fq := HR3.out.blk.fr
          rw [HDN.out] at c1
          by_cases hlt : k < G.length
          · have hltz : (k : Int) < (G.length : Int) := by omega
            by_cases hp : p = 0
            · subst hp
              go_wp2
              go_end0
              obtain ⟨f1, f2, f3⟩ := HC.out.fin (c' := c') H.out HS.out (.inl rfl)
              exact ⟨rfl, a', c', l', f1, f2, f3⟩
            · have hpz : (0 : Int) < (p : Int) := by omega
              obtain ⟨g, hg⟩ : ∃ g, G[k]? = some g := ⟨_, List.getElem?_eq_getElem hlt⟩
              obtain ⟨y, hy⟩ : ∃ y, M.done[k]? = some y := ⟨_, List.getElem?_eq_getElem (by rw [← H.out.len]; exact hlt)⟩
              obtain ⟨b, cc, e, hb, r0, r1, r2, r3⟩ := HR3.out.rowAt hg
              rw [HDN.out] at e
              cases e
              have HU := fun w => runits_any g.kd g.nm g.to g.a g.cap g.d.length w
              rw [unI_eq (Classical.em _) (HR3.out.is k g y hg hy).2] at HU
              have HU := hidOf HU
              have hub := HM.out.ok.un y (List.mem_of_getElem? hy)
              obtain ⟨hu1, hu2⟩ := hub
              have hgm := List.mem_of_getElem? hg
              have hfew : l'.length ≤ 64 := HC.out.fl.lst.few (fun m hm => HM.out.rk.few k m (by rw [← HC.out.all hp]; exact hm))
              have hcl : (cOf fs g.nm.data.toList).length ≤ 1048576 := by have h1 := (HM.out.ok.ok k).1 g.nm.data.toList; rw [← HC.out.all hp] at h1; exact h1
              have hrn : isRn y.2 fs := by have h1 := HM.out.rk.rn k y hy; rw [← HC.out.all hp] at h1; exact h1
              obtain ⟨gb1, gb2, gb3, gb4⟩ := HR3.out.bs g hgm
              have his := HR3.out.is k g y hg hy
              have HG := hidOf hgm
              have HY := hidOf hy
              obtain ⟨u, hu⟩ : ∃ u, u = y.1 := ⟨_, rfl⟩
              have HUU := hidOf hu
              rw [← hu] at hu1 hu2
              rw [← hu] at HU
              have HP := hidOf hp
              have HGB := hidOf gb1
              have HGN := hidOf gb2
              have HIS := hidOf his
              have HRN := hidOf hrn
              obtain ⟨kd, nm, to, ga, gc, gd⟩ := g
              clear hg hy hgm his hrn gb1 gb2 hu hp
              have gb3 : gd.length ≤ 1048576 := gb3
              have gb4 : gd.length ≤ gc := gb4
              have r3 : wr.cell? ⟨b, k * 4 + 3, none⟩ = some (.slice ga gd.length gc) := r3
              by_cases hnp : p < u
              · have hnz : (p : Int) < (u : Int) := by omega
                have hkd : kd = 0 := by
                  have h1 := HIS.out.2
                  unfold GeU at h1
                  rw [← HUU.out] at h1
                  by_cases e : kd = 0
                  · exact e
                  · rw [if_neg e] at h1; have := HP.out; omega
                subst hkd
                have hgl2 : u = gd.length := by
                  have h1 := HIS.out.2
                  unfold GeU at h1
                  rw [← HUU.out, if_pos rfl] at h1
                  have h2 : u = max 1 gd.length := h1
                  have := HP.out
                  omega
                obtain ⟨gb, go, hga, hgbl, _⟩ := HGB.out.2 (fun e => by rw [show gd = [] from e] at hgl2; simp at hgl2; omega)
                have hga : ga = some ⟨gb, go, none⟩ := hga
                subst hga
                have HL : Hid ((gd.take p).length = p) := hidOf (by simp; omega)
                have hcap : (p : Int) ≤ (gc : Int) := by omega
                have HC60 : Hid (∀ w6, Below wr.heap.size wr w6 → Calls Try.prog 60 #[.slice a' l'.length c', .agg #[.int .i64 0, .string nm, .string to, .slice (some ⟨gb, go, none⟩) p gc]] w6 (RdoP w6 a' l' (some ⟨gb, go, none⟩) (doD y.2 (min p y.1) fs))) := hidOf (fun w6 hb6 => by
                  have h6 := rdo_any a' c' l' fs ⟨0, nm, to, some ⟨gb, go, none⟩, gc, gd.take p⟩ (min p y.1) y.2 w6 (HC.out.fl.grow hb6) (by omega) ((HGB.out.take p).grow hb6) (fun e => by cases e) (by
                    have h1 := HIS.out.1
                    have h2 := HIS.out.2
                    have h3 := HUU.out
                    rw [show min p y.1 = p by omega]
                    revert h1
                    cases y.2 with
                    | ap n d => rintro ⟨_, h5, h6⟩; exact ⟨rfl, h5, by show gd.take p = d.take p; rw [show gd = d.take y.1 from h6, List.take_take, Nat.min_eq_left (by omega)]⟩
                    | pt n d => rintro ⟨h5, _⟩; cases h5
                    | rm n => rintro ⟨h5, _⟩; cases h5
                    | rn n m => rintro ⟨h5, _⟩; cases h5) (by have : (cOf fs nm.data.toList).length ≤ 1048576 := hcl; show (cOf fs nm.data.toList).length + (gd.take p).length ≤ _; rw [HL.out]; omega) HRN.out
                  unfold Ge.v at h6
                  have h6 : Calls Try.prog 60 #[.slice a' l'.length c', .agg #[.int .i64 0, .string nm, .string to, .slice (some ⟨gb, go, none⟩) (gd.take p).length gc]] w6 (RdoP w6 a' l' (some ⟨gb, go, none⟩) (doD y.2 (min p y.1) fs)) := h6
                  rw [HL.out] at h6
                  exact h6)
                go_wp2_with (first
                  | (go_at_call 59; refine (HU.out _).mono ?_; rintro e w5 ⟨rfl, hb1⟩; have HB1 : Hid (Below wr.heap.size (wr.alloc (.cells #[.int .i64 0, .string nm, .string to, .slice (some ⟨gb, go, none⟩) gd.length gc] 82)) w5) := hidOf (hb1.mono (by simp)); have HX5 : Hid (w5.heap[wr.heap.size]? = some (.cells #[.int .i64 0, .string nm, .string to, .slice (some ⟨gb, go, none⟩) gd.length gc] 82 (0, 0))) := hidOf ((hb1.block _ (by simp)).trans (heap_alloc_new wr _)); obtain ⟨x0, x1, x2, x3, xf, xl⟩ := box_facts HX5.out; clear hb1)
                  | (go_at_call 60; refine (HC60.out _ (Below.box HB1.out)).mono ?_; rintro e w7 hp7; obtain ⟨a2, l2, c3, he, hp8⟩ := HC.out.step (g := ⟨0, nm, to, some ⟨gb, go, none⟩, gc, gd⟩) HG.out HY.out HP.out (by rw [← HUU.out]; exact hu1) (Below.box HB1.out) hp7; subst he; have HS2 := hidOf hp8; clear hp7 hp8))
                go_roundw
                case rel => exact ⟨k + 1, p - min p y.1, _, a2, l2, c3, by omega, by omega, by rw [show p - min p y.1 = 0 by have := HUU.out; omega]; go_num, rfl, by go_num, HS2⟩
                case measure => simp [intOf]; omega
              · have hnz : ¬ (p : Int) < (u : Int) := by omega
                have HC60 : Hid (∀ w6, Below wr.heap.size wr w6 → Calls Try.prog 60 #[.slice a' l'.length c', .agg #[.int .i64 kd, .string nm, .string to, .slice ga gd.length gc]] w6 (RdoP w6 a' l' ga (doD y.2 (min p y.1) fs))) := hidOf (fun w6 hb6 => rdo_any a' c' l' fs ⟨kd, nm, to, ga, gc, gd⟩ (min p y.1) y.2 w6 (HC.out.fl.grow hb6) (by omega) (HGB.out.grow hb6) HGN.out (by rw [show min p y.1 = y.1 by have := HUU.out; omega]; exact HIS.out.1) (by have : (cOf fs nm.data.toList).length ≤ 1048576 := hcl; show (cOf fs nm.data.toList).length + gd.length ≤ _; omega) HRN.out)
                go_wp2_with (first
                  | (go_at_call 59; refine (HU.out _).mono ?_; rintro e w5 ⟨rfl, hb1⟩; have HB1 : Hid (Below wr.heap.size wr w5) := hidOf ((below1 wr _).trans (hb1.mono (by simp))); have HX5 : Hid (w5.heap[wr.heap.size]? = some (.cells #[.int .i64 kd, .string nm, .string to, .slice ga gd.length gc] 82 (0, 0))) := hidOf ((hb1.block _ (by simp)).trans (heap_alloc_new wr _)); obtain ⟨x0, x1, x2, x3, xf, xl⟩ := box_facts HX5.out; clear hb1)
                  | (go_at_call 60; refine (HC60.out _ HB1.out).mono ?_; rintro e w7 hp7; obtain ⟨a2, l2, c3, he, hp8⟩ := HC.out.step (g := ⟨kd, nm, to, ga, gc, gd⟩) HG.out HY.out HP.out (by rw [← HUU.out]; exact hu1) HB1.out hp7; subst he; have HS2 := hidOf hp8; clear hp7 hp8))
                go_roundw
                case rel => exact ⟨k + 1, p - min p y.1, _, a2, l2, c3, by omega, by omega, by rw [show p - min p y.1 = p - u by have := HUU.out; omega]; go_num, rfl, by go_num, HS2⟩
                case measure => simp [intOf]; omega
          · have hltz : ¬ (k : Int) < (G.length : Int) := by omega
            go_wp2
            go_end0
            obtain ⟨f1, f2, f3⟩ := HC.out.fin (c' := c') H.out HS.out (.inr (by omega))
            exact ⟨rfl, a', c', l', f1, f2, f3⟩

end Go.Proofs.Ytkbmfookdhlphaa
