/- units, makeDurable. -/
import Derived.Test.YtkienmncifonnaaDoorDpu
import Derived.Deep.RegionHeld3
import Derived.Laws.EntriesVeiled
namespace Go.Proofs.YtkienmncifonnaaDoor
open Go.RowKit Go.Maps

def sumU (l : List (Nat × Dd)) : Nat := (l.map (·.1)).sum
theorem sumU_le (l : List (Nat × Dd)) (c : Nat) (h : ∀ x ∈ l, x.1 ≤ c) : ∀ k, sumU (l.take k) ≤ k * c := by
  induction l with
  | nil => intro k; simp [sumU]
  | cons x l ih =>
    intro k
    cases k with
    | zero => simp [sumU]
    | succ k =>
      have h1 := h x (by simp)
      have h2 := ih (fun y hy => h y (by simp [hy])) k
      simp only [sumU, List.take_succ_cons, List.map_cons, List.sum_cons] at h2 ⊢
      rw [Nat.succ_mul]
      omega
theorem DeedR.form {w : World} {f : Value} {x : Dd} {z : Value} (h : DeedR w f x z) : ∃ K cs, f = .func (.func K) #[] cs := by
  cases x with
  | pt n d => obtain ⟨_, _, e, _⟩ := h; exact ⟨_, _, e⟩
theorem sumU_take (l : List (Nat × Dd)) (k : Nat) (x : Nat × Dd) (h : l[k]? = some x) : sumU (l.take (k + 1)) = sumU (l.take k) + x.1 := by
  have hk := (List.getElem?_eq_some_iff.1 h).1
  have e : l[k] = x := (List.getElem?_eq_some_iff.1 h).2
  unfold sumU
  rw [List.take_succ_eq_append_getElem hk, List.map_append, List.sum_append, e]
  simp
/- the row of deeds, cell by cell -/
theorem DkR.rowAt {w : World} {p : Nat} {M : Md} {cnt bF bD : Nat} {DF DD : DataW Value} {dn : Value} {G : List Gd} (h : DkR w p M cnt bF bD DF DD dn G) {k : Nat} {g : Gd} (hk : G[k]? = some g) : ∃ b cap, dn = .slice (some ⟨b, 0, none⟩) G.length cap ∧ b < w.heap.size ∧ w.cell? ⟨b, k * 2, none⟩ = some (.int .i64 (g.u : Int)) ∧ w.cell? ⟨b, k * 2 + 1, none⟩ = some g.f := by
  have hlt := (List.getElem?_eq_some_iff.1 hk).1
  rcases h.row.2 with ⟨_, e⟩ | ⟨b, cap, cur, e, _, h4, h5, h6, h7, h8⟩
  · omega
  · obtain ⟨r0, r1⟩ := rowL_get G k g hk
    refine ⟨b, cap, e, heap_lt h4, ?_, ?_⟩
    · rw [cell_of_row w b _ cur 132 (0, 0) h4]
      rw [← h8, List.getElem?_take, if_pos (by omega)] at r0
      simpa using r0
    · rw [cell_of_row w b _ cur 132 (0, 0) h4]
      rw [← h8, List.getElem?_take, if_pos (by omega)] at r1
      simpa using r1
theorem DkR.dnForm {w : World} {p : Nat} {M : Md} {cnt bF bD : Nat} {DF DD : DataW Value} {dn : Value} {G : List Gd} (h : DkR w p M cnt bF bD DF DD dn G) : ∃ a cap, dn = .slice a G.length cap := by
  rcases h.row.2 with ⟨e, e2⟩ | ⟨b, cap, cur, e, _⟩
  · exact ⟨none, 0, by rw [e, e2]⟩
  · exact ⟨_, cap, e⟩
theorem DkR.doneAt {w : World} {p : Nat} {M : Md} {cnt bF bD : Nat} {DF DD : DataW Value} {dn : Value} {G : List Gd} (h : DkR w p M cnt bF bD DF DD dn G) {k : Nat} {g : Gd} (hk : G[k]? = some g) : M.done[k]? = some (g.u, g.x) := by
  rw [h.done, List.getElem?_map, hk]; rfl
theorem DkR.lenG {w : World} {p : Nat} {M : Md} {cnt bF bD : Nat} {DF DD : DataW Value} {dn : Value} {G : List Gd} (h : DkR w p M cnt bF bD DF DD dn G) : M.done.length = G.length ∧ G.length ≤ 4398046511104 := by
  obtain ⟨n, hn, _⟩ := h.mD
  have := h.cn
  exact ⟨by rw [h.done]; simp, by omega⟩

set_option maxHeartbeats 1000000 in
set_option maxRecDepth 100000 in
theorem units_any (p cnt bF bD : Nat) (M : Md) (DF DD : DataW Value) (dn : Value) (G : List Gd) (w : World) (h : DkR w p M cnt bF bD DF DD dn G) (hU : ∀ x ∈ M.done, x.1 ≤ 1048576) : Calls Tryd.prog 51 #[.pointer (some ⟨p, 0, none⟩)] w fun e w' => e = .returned (.int .i64 (sumU M.done : Int)) ∧ Below w.heap.size w w' := by
  have H := hidOf h
  have c2 := h.blk.c2
  have lp := h.blk.lt
  obtain ⟨a, cap, hdn⟩ := h.dnForm
  obtain ⟨hlen, hgl⟩ := h.lenG
  have HU := hidOf hU
  rw [hdn] at c2
  have HDN := hidOf hdn
  have HLEN := hidOf hlen
  clear h hU hdn hlen
  go_enter Tryd.func51, Tryd.ntmps51
  go_wp2
  go_loopw [3, 11] (fun n i wr => ∃ k : Nat, k ≤ G.length ∧ i = .int .i64 (k : Int) ∧ n = .int .i64 (sumU (M.done.take k) : Int) ∧ Hid (Below w.heap.size w wr)) (fun _ i _ => G.length - (intOf i).toNat)
  case atStart => exact ⟨0, Nat.zero_le _, rfl, by simp [sumU], hidOf (Below.refl _ _)⟩
  case round =>
    obtain ⟨k, hk, rfl, rfl, HB⟩ := hrel
    clear c2
    by_cases hlt : k < G.length
    · have hltz : (k : Int) < (G.length : Int) := by omega
      obtain ⟨g, hg⟩ : ∃ g, G[k]? = some g := ⟨_, List.getElem?_eq_getElem hlt⟩
      obtain ⟨b, cap', e, hb, r0, r1⟩ := (H.out.below HB.out).rowAt hg
      rw [HDN.out] at e
      cases e
      have HS := hidOf (sumU_take M.done k _ (H.out.doneAt hg))
      have hub := HU.out _ (List.mem_of_getElem? (H.out.doneAt hg))
      have hle : sumU (M.done.take k) ≤ k * 1048576 := sumU_le M.done 1048576 HU.out k
      have hub : g.u ≤ 1048576 := hub
      generalize hs : sumU (M.done.take k) = s at *
      have HSS := hidOf hs
      clear hs
      obtain ⟨u, hu⟩ : ∃ u, u = g.u := ⟨_, rfl⟩
      rw [← hu] at r0 hub
      have HUU := hidOf hu
      obtain ⟨K, cs, hf⟩ := (H.out.deed g (List.mem_of_getElem? hg)).form
      rw [hf] at r1
      clear hu hf hg
      go_wp2
      go_roundw
      case rel => exact ⟨k + 1, by omega, by go_num, by rw [HS.out]; show _ = Value.int .i64 ((s + g.u : Nat) : Int); rw [← HUU.out]; go_num, hidOf (HB.out.alloc HB.out.size _)⟩
      case measure => simp [intOf]; omega
    · have hltz : ¬ (k : Int) < (G.length : Int) := by omega
      have hkl : k = M.done.length := by rw [HLEN.out]; omega
      go_wp2
      go_ret
      exact ⟨rfl, HB.out⟩

/- the first units of what was done, on the durable files -/
def mkD : List (Nat × Dd) → Nat → FS → FS
  | [], _, fs => fs
  | (v, x) :: r, u, fs => if min u v = 0 then fs else mkD r (u - min u v) (doD x (min u v) fs)
def rep (l : List (Nat × Dd)) (fs : FS) : FS := l.foldl (fun fs y => doD y.2 y.1 fs) fs
def Bd (fs : FS) : Prop := ∀ k, (cOf fs k).length ≤ 1048576
theorem mkD_step {l : List (Nat × Dd)} {k v : Nat} {x : Dd} (h : l[k]? = some (v, x)) (u : Nat) (fs : FS) : mkD (l.drop k) u fs = if min u v = 0 then fs else mkD (l.drop (k + 1)) (u - min u v) (doD x (min u v) fs) := by
  have hk := (List.getElem?_eq_some_iff.1 h).1
  have e : l[k] = (v, x) := (List.getElem?_eq_some_iff.1 h).2
  rw [List.drop_eq_getElem_cons hk, e]
  rfl
theorem mkD_end (l : List (Nat × Dd)) (u : Nat) (fs : FS) : mkD (l.drop l.length) u fs = fs := by
  rw [List.drop_length]; rfl
theorem rep_take {l : List (Nat × Dd)} {k v : Nat} {x : Dd} (h : l[k]? = some (v, x)) (fs : FS) : rep (l.take (k + 1)) fs = doD x v (rep (l.take k) fs) := by
  have hk := (List.getElem?_eq_some_iff.1 h).1
  have e : l[k] = (v, x) := (List.getElem?_eq_some_iff.1 h).2
  unfold rep
  rw [List.take_succ_eq_append_getElem hk, List.foldl_append, e]
  rfl

theorem dur_post {w w1 : World} {p : Nat} {M : Md} {cnt bF bD n : Nat} {DF DD : DataW Value} {dn : Value} {G : List Gd} {dur' : FS}
    (h : DkR w p M cnt bF bD DF DD dn G) (hn : n + G.length ≤ cnt) (hm : MapR w bD n DD) (hdp : DPost w w1 true bD n DD (entE DF DD) (entC M.files M.dur) (G.map (·.z)) M.dur dur') (hc : cnt + 1 ≤ 4398046511104) :
    ∃ DD', DkR w1 p ⟨M.files, dur', M.done, M.left⟩ (cnt + 1) bF bD DF DD' dn G ∧ Fr w w1 (Ft p bF bD DF DD dn (G.map (·.z))) (Ft p bF bD DF DD' dn (G.map (·.z))) ∧ (∀ k, MapR w bF k DF → MapR w1 bF k DF) := by
  obtain ⟨D', v, v', c1, c2, c3, c4, c5, c6⟩ := hdp.ex
  obtain ⟨nF, hnF, hmF⟩ := h.mF
  obtain ⟨lv, hv⟩ : ∃ l, SlR w v l := by
    rcases c5 with rfl | ⟨k, rfl⟩
    · exact ⟨[], SlR.nil w⟩
    · exact ⟨_, h.liv.r true k⟩
  have hvz : ∀ y ∈ G.map (·.z), SepK v y := by
    rcases c5 with rfl | ⟨k, rfl⟩
    · exact fun y _ => SepK.nil' y
    · exact fun y hy => h.liv.kz true k y hy
  obtain ⟨es, c, hobj⟩ := hm.obj
  have hp1 : DskB w1 p bF bD dn M.left := (c4.cells hv hobj (by decide) h.blk).trans h.blk
  have hr1 : w1.ownsRow 0 132 2 dn G.length (rowL G) := ownsRow_kept h.row fun k hk => by
    obtain ⟨cur, hcur⟩ := ownsRow_blk h.row hk
    exact c4.cells hv hobj (by decide) hcur
  have hmk : ∀ k, MapR w bF k DF → MapR w1 bF k DF := fun k hk => hk.kept (c4.block bF hk.lt (fun e => h.ne (Option.some.inj e)) (fun _ e => hv.ne_map hk e.symm))
  refine ⟨D', ⟨hp1, ⟨nF, by omega, hmk nF hmF⟩, ⟨n + 1, by omega, c1⟩, h.ne, h.hF, c2, ?_, hr1, h.done, fun g hg => ?_, h.leb, hc⟩, ⟨c4.os, c4.tape, c4.output, c4.size, fun k hk hF => ?_, fun k hk => ?_⟩, hmk⟩
  · rw [sset_entE_t, sset_entC_t] at c3
    exact c3
  · exact (h.deed g hg).app c4 hv hm (hvz _ (List.mem_map_of_mem hg))
  · have n2 : k ≠ bD := fun e => hF (.inr (.inr (.inl e)))
    refine c4.block k hk (fun e => n2 (Option.some.inj e)) (fun _ e => ?_)
    rcases c5 with rfl | ⟨j, rfl⟩
    · cases e
    · exact hF (.inr (.inr (.inr (.inr (.inl ⟨true, j, e.symm⟩)))))
  · rcases hk with e | e | e | e | ⟨s, j, e2⟩ | e
    · exact .inl (.inl e)
    · exact .inl (.inr (.inl e))
    · exact .inl (.inr (.inr (.inl e)))
    · exact .inl (.inr (.inr (.inr (.inl e))))
    · cases s with
      | true =>
        rcases c6 j k e2 with ⟨i, g2⟩ | g | g
        · exact .inl (.inr (.inr (.inr (.inr (.inl ⟨true, i, g2⟩)))))
        · exact .inl (.inr (.inr (.inr (.inr (.inr g)))))
        · exact .inr g
      | false => exact .inl (.inr (.inr (.inr (.inr (.inl ⟨false, j, e2⟩)))))
    · exact .inl (.inr (.inr (.inr (.inr (.inr e)))))
/- a deed of the row, done on the durable files -/
def durCall (w : World) (p : Nat) (M : Md) (cnt bF bD : Nat) (DF DD : DataW Value) (dn : Value) (G : List Gd) (x : Dd) (m : Nat) : Ending → World → Prop := fun e w1 => e = .returned (.tuple #[]) ∧ ∃ DD', DkR w1 p ⟨M.files, doD x m M.dur, M.done, M.left⟩ (cnt + 1) bF bD DF DD' dn G ∧ Fr w w1 (Ft p bF bD DF DD dn (G.map (·.z))) (Ft p bF bD DF DD' dn (G.map (·.z))) ∧ (∀ k, MapR w bF k DF → MapR w1 bF k DF)
theorem dur_call (p cnt bF bD : Nat) (M : Md) (DF DD : DataW Value) (dn : Value) (G : List Gd) (w : World) (h : DkR w p M cnt bF bD DF DD dn G) (hc : cnt + 1 ≤ 4398046511104) (g : Gd) (hg : g ∈ G) (m : Nat) (_hm : m ≤ 1099511627776) (_hb : Bd M.dur) :
    (∀ n d, g.x = .pt n d → ∃ p1 q1, g.f = .func (.func 47) #[] #[.pointer (some ⟨p1, 0, none⟩), .pointer (some ⟨q1, 0, none⟩)] ∧ Calls Tryd.prog 47 #[.map (some bD), .int .i64 (m : Int), .pointer (some ⟨p1, 0, none⟩), .pointer (some ⟨q1, 0, none⟩)] w (durCall w p M cnt bF bD DF DD dn G g.x m)) := by
  obtain ⟨n, hn, hmD⟩ := h.mD
  have hd := h.deed g hg
  have hzs : ∀ y ∈ G.map (·.z), ∃ l, SlR w y l := fun y hy => by
    obtain ⟨g', hg', rfl⟩ := List.mem_map.1 hy
    exact (h.deed g' hg').z
  have hcn := h.cn
  have fin : ∀ w1, DPost w w1 true bD n DD (entE DF DD) (entC M.files M.dur) (G.map (·.z)) M.dur (doD g.x m M.dur) → durCall w p M cnt bF bD DF DD dn G g.x m (.returned (.tuple #[])) w1 := fun w1 hp => ⟨rfl, dur_post h hn hmD hp hc⟩
  have hnl : n < maxLen := by unfold maxLen; omega
  intro nm d e
  rw [e] at hd fin ⊢
  obtain ⟨p1, q1, ef, a1, a2⟩ := hd
  refine ⟨q1, p1, ef, (ptD_call (s := true) hmD hnl (fun _ => rfl) (fun _ => rfl) h.hD h.liv (List.mem_map_of_mem hg) a1 a2 m).mono ?_⟩
  rintro e' w1 ⟨rfl, hp⟩
  exact fin w1 hp
end Go.Proofs.YtkienmncifonnaaDoor
