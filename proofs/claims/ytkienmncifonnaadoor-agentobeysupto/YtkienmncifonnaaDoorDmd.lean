/- makeDurable, walked. -/
import Derived.Test.YtkienmncifonnaaDoorDmk
namespace Go.Proofs.YtkienmncifonnaaDoor
open Go.RowKit Go.Maps

/- in the midst: k deeds were done on the durable files, u units are left -/
structure MdS (w wr : World) (p : Nat) (M : Md) (cnt bF bD : Nat) (DF DD : DataW Value) (dn : Value) (G : List Gd) (u0 k u : Nat) (fs : FS) (DD' : DataW Value) : Prop where
  d : DkR wr p ⟨M.files, fs, M.done, M.left⟩ (cnt + k) bF bD DF DD' dn G
  fr : Fr w wr (Ft p bF bD DF DD dn (G.map (·.z))) (Ft p bF bD DF DD' dn (G.map (·.z)))
  mF : ∃ n, n ≤ cnt ∧ MapR wr bF n DF
  eq : mkD M.done u0 M.dur = mkD (M.done.drop k) u fs
  all : u ≠ 0 → fs = rep (M.done.take k) M.dur
theorem MdS.below {w wr w' : World} {p : Nat} {M : Md} {cnt bF bD : Nat} {DF DD : DataW Value} {dn : Value} {G : List Gd} {u0 k u : Nat} {fs : FS} {DD' : DataW Value} (h : MdS w wr p M cnt bF bD DF DD dn G u0 k u fs DD') (hb : Below wr.heap.size wr w') : MdS w w' p M cnt bF bD DF DD dn G u0 k u fs DD' := by
  obtain ⟨n, hn, hm⟩ := h.mF
  exact ⟨h.d.below hb, h.fr.trans (Fr.of_below hb), ⟨n, hn, hm.below hb⟩, h.eq, h.all⟩
theorem MdS.step {w wr w' : World} {p : Nat} {M : Md} {cnt bF bD : Nat} {DF DD : DataW Value} {dn : Value} {G : List Gd} {u0 k u : Nat} {fs : FS} {DD' DD'' : DataW Value} (h : MdS w wr p M cnt bF bD DF DD dn G u0 k u fs DD') {g : Gd} (hg : G[k]? = some g) (hu : u ≠ 0) (hv : g.u ≠ 0)
    (h1 : DkR w' p ⟨M.files, doD g.x (min u g.u) fs, M.done, M.left⟩ (cnt + k + 1) bF bD DF DD'' dn G) (h2 : Fr wr w' (Ft p bF bD DF DD' dn (G.map (·.z))) (Ft p bF bD DF DD'' dn (G.map (·.z)))) (h3 : ∀ i, MapR wr bF i DF → MapR w' bF i DF) : MdS w w' p M cnt bF bD DF DD dn G u0 (k + 1) (u - min u g.u) (doD g.x (min u g.u) fs) DD'' := by
  obtain ⟨n, hn, hm⟩ := h.mF
  have hd : M.done[k]? = some (g.u, g.x) := by
    have := h.d.doneAt hg
    exact this
  refine ⟨h1, h.fr.trans h2, ⟨n, hn, h3 n hm⟩, ?_, fun hne => ?_⟩
  · rw [h.eq, mkD_step hd, if_neg (by omega)]
  · have : min u g.u = g.u := by omega
    rw [this, rep_take hd, h.all hu]
/- the end: what was done is forgotten -/
theorem MdS.fin {w wr : World} {p : Nat} {M : Md} {cnt bF bD : Nat} {DF DD : DataW Value} {dn : Value} {G : List Gd} {u0 k u : Nat} {fs : FS} {DD' : DataW Value} (h : MdS w wr p M cnt bF bD DF DD dn G u0 k u fs DD') (hk : k ≤ G.length) (hc : cnt ≤ 4398046511104) (he : u = 0 ∨ k = G.length) :
    DkR (wr.setCell ⟨p, 2, none⟩ (.slice none 0 0)) p ⟨M.files, mkD M.done u0 M.dur, [], M.left⟩ cnt bF bD DF DD' (.slice none 0 0) [] ∧ Fr w (wr.setCell ⟨p, 2, none⟩ (.slice none 0 0)) (Ft p bF bD DF DD dn (G.map (·.z))) (Ft p bF bD DF DD' (.slice none 0 0) []) := by
  obtain ⟨n, hn, hm⟩ := h.mF
  obtain ⟨n', hn', hm'⟩ := h.d.mD
  have kt : KeepT wr (wr.setCell ⟨p, 2, none⟩ (.slice none 0 0)) := (Tch.setp wr p dn.ownBlock 2 _).keepT h.d.blk h.d.row
  have ef : mkD M.done u0 M.dur = fs := by
    rw [h.eq]
    rcases he with e | e
    · subst e
      cases hl : M.done.drop k with
      | nil => rfl
      | cons y r => simp [mkD]
    · rw [e]
      have : M.done.length = G.length := h.d.lenG.1
      rw [← this]
      exact mkD_end M.done u fs
  rw [ef]
  refine ⟨⟨dskB_dn h.d.blk _, ⟨n, hn, hm.keepT kt⟩, ⟨n', by simp; omega, hm'.keepT kt⟩, h.d.ne, h.d.hF, h.d.hD, (h.d.liv.forget).keepT kt, ⟨rfl, .inl ⟨rfl, rfl⟩⟩, rfl, fun g hg => (by cases hg), h.d.leb, hc⟩, h.fr.trans ⟨rfl, rfl, rfl, by simp, fun k _ hF => Below.heap_setCell wr ⟨p, 2, none⟩ _ k (fun e => hF (.inl e)), fun k hk => ?_⟩⟩
  rcases hk with e | e | e | e | e | ⟨_, e, _⟩
  · exact .inl (.inl e)
  · exact .inl (.inr (.inl e))
  · exact .inl (.inr (.inr (.inl e)))
  · cases e
  · exact .inl (.inr (.inr (.inr (.inr (.inl e)))))
  · cases e
theorem DkR.ftLt {w : World} {p : Nat} {M : Md} {cnt bF bD : Nat} {DF DD : DataW Value} {dn : Value} {G : List Gd} (h : DkR w p M cnt bF bD DF DD dn G) : ∀ k, Ft p bF bD DF DD dn (G.map (·.z)) k → k < w.heap.size := by
  intro k hk
  rcases hk with rfl | rfl | rfl | e | ⟨s, j, e⟩ | ⟨y, hy, e⟩
  · exact h.blk.lt
  · obtain ⟨n, _, hm⟩ := h.mF; exact hm.lt
  · obtain ⟨n, _, hm⟩ := h.mD; exact hm.lt
  · obtain ⟨cur, hc⟩ := ownsRow_blk h.row e; exact heap_lt hc
  · exact (h.liv.r s j).lt k e
  · obtain ⟨g, hg, rfl⟩ := List.mem_map.1 hy
    obtain ⟨l, hl⟩ := (h.deed g hg).z
    exact hl.lt k e
theorem cell_second {w : World} {k : Nat} {x v : Value} {t : TypeId} (h : w.heap[k]? = some (.cells #[x, v] t (0, 0))) : w.cell? ⟨k, 1, none⟩ = some v := by
  rw [cell_of_row w k 1 _ t (0, 0) h]
  rfl
theorem min_nat (a b : Nat) : min (a : Int) (b : Int) = ((min a b : Nat) : Int) := by omega

set_option maxHeartbeats 8000000 in
set_option maxRecDepth 100000 in
theorem makeDurable_any (p cnt bF bD : Nat) (M : Md) (DF DD : DataW Value) (dn : Value) (G : List Gd) (w : World) (h : DkR w p M cnt bF bD DF DD dn G) (u0 : Nat) (hu0 : u0 ≤ 4611686018427387904) (hU : ∀ x ∈ M.done, 1 ≤ x.1 ∧ x.1 ≤ 1048576) (hbd : ∀ k, Bd (rep (M.done.take k) M.dur)) (hc : cnt ≤ 2199023255552) : Calls Tryd.prog 50 #[.pointer (some ⟨p, 0, none⟩), .int .i64 (u0 : Int)] w fun e w' => e = .returned (.tuple #[]) ∧ ∃ DD', DkR w' p ⟨M.files, mkD M.done u0 M.dur, [], M.left⟩ cnt bF bD DF DD' (.slice none 0 0) [] ∧ Fr w w' (Ft p bF bD DF DD dn (G.map (·.z))) (Ft p bF bD DF DD' (.slice none 0 0) []) := by
  have c2 := h.blk.c2
  have lp := h.blk.lt
  obtain ⟨a, cap, hdn⟩ := h.dnForm
  obtain ⟨nD0, hnD0, _⟩ := h.mD
  have hgl : G.length ≤ cnt := by omega
  have HU := hidOf hU
  have HBD := hidOf hbd
  rw [hdn] at c2
  have HDN := hidOf hdn
  have H0 : Hid (MdS w w p M cnt bF bD DF DD dn G u0 0 u0 M.dur DD) := hidOf ⟨h, Fr.refl _ _, (by obtain ⟨n, hn, hm⟩ := h.mF; exact ⟨n, hn, hm⟩), rfl, fun _ => rfl⟩
  clear h hU hdn hbd hnD0
  go_enter Tryd.func50, Tryd.ntmps50
  go_wp2
  go_loopw [1, 12] (fun un i wr => ∃ (k u : Nat) (fs : FS) (DD' : DataW Value), k ≤ G.length ∧ u ≤ 4611686018427387904 ∧ i = .int .i64 (k : Int) ∧ un = .int .i64 (u : Int) ∧ Hid (MdS w wr p M cnt bF bD DF DD dn G u0 k u fs DD')) (fun _ i _ => G.length - (intOf i).toNat)
  case atStart => exact ⟨0, u0, M.dur, DD, Nat.zero_le _, hu0, rfl, rfl, H0⟩
  case round =>
    obtain ⟨k, u, fs, DD', hk, hul, rfl, rfl, H⟩ := hrel
    clear c2 lp H0
    have c2 := H.out.d.blk.c2
    have c1 := H.out.d.blk.c1
    have lp := H.out.d.blk.lt
    have fz := H.out.d.blk.fr
    rw [HDN.out] at c2
    by_cases hlt : k < G.length
    · have hltz : (k : Int) < (G.length : Int) := by omega
      obtain ⟨g, hg⟩ : ∃ g, G[k]? = some g := ⟨_, List.getElem?_eq_getElem hlt⟩
      obtain ⟨b, cap', e, hb, r0, r1⟩ := H.out.d.rowAt hg
      rw [HDN.out] at e
      cases e
      have hub := HU.out _ (List.mem_of_getElem? (H.out.d.doneAt hg))
      have hub : 1 ≤ g.u ∧ g.u ≤ 1048576 := hub
      obtain ⟨v, hv⟩ : ∃ v, v = g.u := ⟨_, rfl⟩
      rw [← hv] at r0 hub
      obtain ⟨hv1, hv2⟩ := hub
      have HV := hidOf hv
      have HG := hidOf hg
      have hgm := List.mem_of_getElem? hg
      have HGM := hidOf hgm
      by_cases hz : u = 0
      · subst hz
        obtain ⟨K, cs, hf⟩ := (H.out.d.deed g hgm).form
        rw [hf] at r1
        clear hv hg hgm hf
        have hmn : min 0 (v : Int) = 0 := by omega
        go_wp2
        go_end0
        obtain ⟨f1, f2⟩ := H.out.fin hk (by omega) (.inl rfl)
        exact ⟨rfl, DD', f1.below (below1 _ _), f2.trans (Fr.of_below (below1 _ _))⟩
      · have hmv := min_nat u v
        obtain ⟨m, hm⟩ : ∃ m, m = min u v := ⟨_, rfl⟩
        have HM := hidOf hm
        have hm0 : ((m : Int) == 0) = false := by simp; omega
        have hm1 : m ≤ 1048576 := by omega
        have hmu : m ≤ u := by omega
        rw [← hm] at hmv
        have hbd : Bd fs := by rw [H.out.all hz]; exact HBD.out k
        have hq := dur_call p (cnt + k) bF bD ⟨M.files, fs, M.done, M.left⟩ DF DD' dn G _ (H.out.d.below (below1 wr (.cells #[.int .i64 (v : Int), g.f] 132)).drew) (by omega) g hgm m (by omega) hbd
        have HZ := hidOf hz
        clear hz hm hbd hv hg hgm
        cases hx : g.x with
        | pt n d =>
          obtain ⟨p1, q1, hf, hcall⟩ := hq n d hx
          clear hq
          rw [hf] at r1 hcall
          have HC := hidOf hcall
          clear hf hcall hx
          go_wp2
          go_region_held3 (fun w' => w'.cell? ⟨wr.heap.size, 1, none⟩ = some (.func (.func 47) #[] #[.pointer (some ⟨p1, 0, none⟩), .pointer (some ⟨q1, 0, none⟩)]) ∧ w'.cell? ⟨p, 1, none⟩ = some (.map (some bD))) (first | go_keep | exact KK.out) (first
            | (go_at_call 47; refine HC.out.mono ?_; rintro e w1 ⟨rfl, DD2, e1, e2, e3⟩; have HS := hidOf (((H.out.below (below1 wr (.cells #[.int .i64 (v : Int), .func (.func 47) #[] #[.pointer (some ⟨p1, 0, none⟩), .pointer (some ⟨q1, 0, none⟩)]] 132)).drew)).step HG.out HZ.out (by rw [← HV.out]; omega) (by rw [← HV.out, ← HM.out]; exact e1) e2 e3); have KK : Hid (w1.cell? ⟨wr.heap.size, 1, none⟩ = some (.func (.func 47) #[] #[.pointer (some ⟨p1, 0, none⟩), .pointer (some ⟨q1, 0, none⟩)]) ∧ w1.cell? ⟨p, 1, none⟩ = some (.map (some bD))) := hidOf ⟨cell_second ((e2.block wr.heap.size (by simp) (fun e => Nat.lt_irrefl _ (H.out.d.ftLt _ e))).trans (heap_alloc_new wr _)), e1.blk.c1⟩; clear e1 e2 e3 c1 c2 lp fz))
          go_wp2
          go_roundw
          case rel =>
            have hst := HS.out
            rw [← HV.out, ← HM.out] at hst
            exact ⟨k + 1, u - m, _, DD2, by omega, by omega, by go_num, by go_num, hidOf hst⟩
          case measure => simp [intOf]; omega
    · have hltz : ¬ (k : Int) < (G.length : Int) := by omega
      go_wp2
      go_end0
      obtain ⟨f1, f2⟩ := H.out.fin hk (by omega) (.inr (by omega))
      exact ⟨rfl, DD', f1, f2⟩
end Go.Proofs.YtkienmncifonnaaDoor
