/- List: the names, sorted. -/
import Derived.Test.YtkbmfookdhlphaaDcr
import Derived.Test.YtkbmfookdhlphaaDitr
import Derived.OwnWalkIn
namespace Go.Proofs.Ytkbmfookdhlphaa
open Go.RowKit Go.Maps Go.Sort

/- ks are the names of the files fs, rising -/
def Srt (fs : FS) (ks : List Nm) : Prop := ks.Pairwise (fun a b => a ≤ b) ∧ ks.Nodup ∧ ∀ k, k ∈ ks ↔ (fs k).isSome = true
theorem Srt.uniq {fs : FS} {a b : List Nm} (h : Srt fs a) (k : Srt fs b) : a = b := by
  have hp : a.Perm b := (List.perm_ext_iff_of_nodup h.2.1 k.2.1).2 fun x => by rw [h.2.2, k.2.2]
  exact hp.eq_of_pairwise (fun x y _ _ h1 h2 => List.le_antisymm h1 h2) h.1 k.1
theorem map_keys {w : World} {b n : Nat} {D : DataW Value} (h : MapR w b n D) : ∃ es, D = .map es ∧ es.Pairwise (fun p q => p.1 ≠ q.1) ∧ ∀ p ∈ es, ∃ s : Nm, p.1 = .string s := by
  obtain ⟨es, hD, hp, _⟩ := World.ownsMap.entries h law9
  refine ⟨es, hD, hp, fun p hpe => ?_⟩
  obtain ⟨es', clock, hb, F, hs, hD'⟩ := h
  rw [hD] at hD'
  cases hD'
  obtain ⟨v, hv⟩ := Maps.fit_keys F p (mem_sorted.1 hpe)
  obtain ⟨s, _, e, _⟩ := WideMaps.string_of_keyOf Try.underlying9 hv
  exact ⟨_, e⟩
theorem keys_nodup {w : World} {b n : Nat} {D : DataW Value} (h : MapR w b n D) : (strKeys D).Nodup ∧ (∀ k, k ∈ strKeys D ↔ Maps.has D (.string k) = true) ∧ (strKeys D).length = Maps.size D := by
  obtain ⟨es, rfl, hp, hk⟩ := map_keys h
  refine ⟨?_, fun k => ?_, by simp [strKeys, Maps.size]⟩
  · show (es.map fun p => strOf p.1).Nodup
    rw [List.Nodup, List.pairwise_map]
    refine hp.imp_of_mem fun {a b} ha hb hne e => ?_
    obtain ⟨s, hs⟩ := hk a ha
    obtain ⟨s', hs'⟩ := hk b hb
    rw [hs, hs'] at e
    have : s = s' := e
    exact hne (by rw [hs, hs', this])
  · show k ∈ (es.map fun p => strOf p.1) ↔ (es.any fun p => p.1.sameKey (.string k)) = true
    rw [List.mem_map, List.any_eq_true]
    constructor
    · rintro ⟨p, hpe, e⟩
      obtain ⟨s, hs⟩ := hk p hpe
      rw [hs] at e
      have e : s = k := e
      refine ⟨p, hpe, ?_⟩
      rw [hs, e]
      exact WideAt.sameKey_self (by simp [WideAt.IsKeyLit])
    · rintro ⟨p, hpe, e⟩
      refine ⟨p, hpe, ?_⟩
      rw [WideAt.sameKey_eq e]
      rfl
theorem srt_of {fs : FS} {w : World} {b n : Nat} {D : DataW Value} (h : MapR w b n D) (hF : ∀ k, Maps.has D (.string k) = (fs k).isSome) {ss : List Nm} (hp : ss.Perm (strKeys D)) : Srt fs (ss.mergeSort (fun x y => decide (x ≤ y))) ∧ ss.length = Maps.size D := by
  obtain ⟨k1, k2, k3⟩ := keys_nodup h
  have hm : (ss.mergeSort (fun x y => decide (x ≤ y))).Perm (strKeys D) := (List.mergeSort_perm ss _).trans hp
  refine ⟨⟨?_, hm.nodup_iff.2 k1, fun k => by rw [hm.mem_iff, k2, hF]⟩, by rw [hp.length_eq, k3]⟩
  have := List.pairwise_mergeSort (le := fun x y : Nm => decide (x ≤ y)) (fun a b c h1 h2 => by simp at *; exact List.le_trans h1 h2) (fun a b => by simp; exact List.le_total a b) ss
  exact this.imp (fun h => by simpa using h)

/- the document's number of files -/
def Card (fs : FS) (m : Nat) : Prop := ∃ ks, Srt fs ks ∧ ks.length = m
theorem DkR.card {w : World} {p : Nat} {M : Md} {cnt bF bD : Nat} {DF DD : DataW Value} {dn : Value} {G : List Gd} (h : DkR w p M cnt bF bD DF DD dn G) : ∃ ks, Srt M.files ks ∧ ks.length = Maps.size DF := by
  obtain ⟨n, _, hm⟩ := h.mF
  obtain ⟨h1, h2⟩ := srt_of hm h.hF (List.Perm.refl _)
  exact ⟨_, h1, by rw [List.length_mergeSort]; exact h2⟩

set_option maxHeartbeats 1000000 in
set_option maxRecDepth 100000 in
theorem list_any (p cnt bF bD : Nat) (M : Md) (DF DD : DataW Value) (dn : Value) (G : List Gd) (w : World) (h : DkR w p M cnt bF bD DF DD dn G) : Calls Try.prog 22 #[.pointer (some ⟨p, 0, none⟩)] w fun e w' => ∃ v ks, e = .returned v ∧ Srt M.files ks ∧ w'.ownsRow w.heap.size 9 1 v ks.length (ks.map encStr) ∧ Below w.heap.size w w' := by
  obtain ⟨n, hn, hm⟩ := h.mF
  have hsz := World.ownsMap.size_le hm
  have hcn := h.cn
  have hF := h.hF
  have c0 := h.blk.c0
  have lp := h.blk.lt
  refine (callsIn_wide (n := 6)).1 ?_
  have hfK : Fence.wide.fn 52 := trivial
  have hfS : Fence.wide.fn 51 := trivial
  have cS := sortedKeys bF n DF RV w hm (by unfold maxLen; omega) (by omega)
  have HS := hidOf cS
  have HM := hidOf hm
  have HF := hidOf hF
  clear h cS hm hF
  refine callsIn_of_wp Try.func22 rfl trivial ?_ rfl
  simp only [Try.ntmps22, List.size_toArray, List.length_cons, List.length_nil, Nat.reduceAdd, Nat.reduceSub, Array.replicate_succ, Array.replicate_zero, List.push_toArray, List.append_toArray, List.nil_append, List.cons_append]
  gi_wp2_with (first
    | (gi_at_call 52; refine (mapsKeys _ _).mono ?_; rintro e w' ⟨rfl, rfl⟩)
    | (gi_at_call 51; refine HS.out.mono ?_; rintro e w' ⟨v, ss, rfl, hS, hrow, hnil, hb⟩))
  go_ret
  obtain ⟨s1, s2⟩ := srt_of HM.out HF.out hS
  have hb2 : Below w.heap.size w w' := ((Below.refl _ w).alloc (Nat.le_refl _) _).trans (hb.mono (by simp))
  refine ⟨v, _, rfl, s1, ?_, hb2⟩
  rw [List.length_mergeSort]
  exact ownsRow_base_a hrow (by simp)
end Go.Proofs.Ytkbmfookdhlphaa
