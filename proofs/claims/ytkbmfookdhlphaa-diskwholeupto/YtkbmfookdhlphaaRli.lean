/- The names of the document's files, and whether both disks have the same files. -/
import Derived.Test.YtkbmfookdhlphaaDlw
namespace Go.Proofs.Ytkbmfookdhlphaa
open Go.RowKit Go.Maps Go.Sort

def nmV (l : List Fe) : List Value := l.map fun f => .string f.nm
theorem nmV_take {l : List Fe} {k : Nat} {f : Fe} (hk : l[k]? = some f) : nmV (l.take (k + 1)) = nmV (l.take k) ++ [.string f.nm] := by
  obtain ⟨hkl, rfl⟩ := List.getElem?_eq_some_iff.1 hk
  rw [List.take_succ_eq_append_getElem hkl]
  unfold nmV
  rw [List.map_append]
  rfl
theorem nmV_enc (l : List Fe) : nmV l = (l.map Fe.k).map encStr := by
  unfold nmV
  rw [List.map_map]
  refine List.map_congr_left fun f _ => ?_
  show Value.string f.nm = Value.string (bA f.nm.data.toList)
  congr 1
set_option maxHeartbeats 4000000 in
set_option maxRecDepth 100000 in
theorem rlist_any (q : Nat) (M : Md) (a : Option Addr) (cap : Nat) (l : List Fe) (dn : Value) (G : List Ge) (w : World) (h : RfR w q M a cap l dn G) (hk : RkM M) (hok : OkM M) (hn : M.done.length ≤ 4398046511104) : Calls Try.prog 35 #[.pointer (some ⟨q, 0, none⟩)] w fun e w' => ∃ v ks, e = .returned v ∧ Srt M.files ks ∧ w'.ownsRow w.heap.size 9 1 v ks.length (ks.map encStr) ∧ Below w.heap.size w w' := by
  obtain ⟨i9, hi9, hz0, hz1, hz2⟩ := info_parts Try.info9
  have HF := hidOf (rfiles_any q M a cap l dn G w h hk hok hn)
  have HFW := hidOf (hk.files hok)
  clear h hk hok hn
  go_enter Try.func35, Try.ntmps35
  go_wp2_with (go_at_call 33; refine HF.out.mono ?_; rintro e w1 ⟨a', l', c', rfl, hfl, _, hb⟩; have hl64 : l'.length ≤ 64 := hfl.lst.few HFW.out; have HFL := hidOf hfl; have HB1 := hidOf hb; clear hfl hb HF)
  go_loopw [3, 5] (fun vv i wr => ∃ (k : Nat) (va : Option Addr) (vc : Nat), k ≤ l'.length ∧ i = .int .i64 (k : Int) ∧ vv = .slice va k vc ∧ Hid (wr.ownsRow w1.heap.size 9 1 (.slice va k vc) k (nmV (l'.take k))) ∧ Hid (Below w1.heap.size w1 wr)) (fun _ i _ => l'.length - (intOf i).toNat)
  case atStart => exact ⟨0, none, 0, Nat.zero_le _, rfl, rfl, hidOf ⟨rfl, .inl ⟨rfl, rfl⟩⟩, hidOf (Below.refl _ _)⟩
  case round =>
    obtain ⟨k, va, vc, hk, rfl, rfl, HR, HB⟩ := hrel
    by_cases hlt : k < l'.length
    · have hiz : (k : Int) < (l'.length : Int) := by omega
      obtain ⟨f, hf⟩ : ∃ f, l'[k]? = some f := ⟨_, List.getElem?_eq_getElem hlt⟩
      obtain ⟨b, off, hab, hbl, c0, c1⟩ := HFL.out.fls.at HB.out hf
      subst hab
      have hbw : b < wr.heap.size := Nat.lt_of_lt_of_le hbl HB.out.size
      have HW := hidOf (nmV_take hf)
      clear hf hbl
      go_wp2_with (at_builtin; refine wpList_append_own_at _ rfl (.tmp 14) (.tmp 20) 34 rfl w1.heap.size 9 i9 _ 1 16 Try.underlying34 hi9 hz0 hz1 hz2 (by rfl) (by omega) (.slice va k vc) k (nmV (l'.take k)) rfl (row_grow HR.out (below1 _ _)) ⟨wr.heap.size, 0, none⟩ 1 1 [.string f.nm] rfl rfl (cell_one_new wr _ 9) (by simp [Value.oneCell']) (by unfold maxLen; omega) (by omega) (Nat.le_trans HB.out.size (by simp)) ?_; intro v' w2 hrow hgr hnil hat; rw [← HW.out] at hrow; have HR2 := hidOf hrow; have HB2 := hidOf (HB.out.trans (((below1 wr _).mono HB.out.size).trans (grown_below hgr (Nat.le_trans HB.out.size (by simp)) (row_base HR.out)))); obtain ⟨va', vc', hv'⟩ := row_form hrow; subst hv'; clear hrow hgr hnil hat)
      refine ⟨⟨k + 1, va', vc', by omega, by go_num, rfl, HR2, HB2⟩, by simp [intOf]; omega⟩
    · have hge : ¬ (k : Int) < (l'.length : Int) := by omega
      have e : l'.take k = l' := List.take_of_length_le (by omega)
      have hkl : k = l'.length := by omega
      rw [e] at HR
      subst hkl
      clear e
      go_wp2
      go_ret
      refine ⟨_, rfl, l'.map Fe.k, HFL.out.lst.srt, ?_, HB1.out.trans (HB.out.mono HB1.out.size)⟩
      rw [List.length_map, ← nmV_enc]
      have h := HR.out
      refine ⟨h.1, ?_⟩
      rcases h.2 with h2 | ⟨g, cap, cur, h2, h3, h4⟩
      · exact .inl h2
      · exact .inr ⟨g, cap, cur, h2, Nat.le_trans HB1.out.size h3, h4⟩

set_option maxHeartbeats 4000000 in
set_option maxRecDepth 100000 in
theorem names_any (v1 v2 : Value) (b1 b2 : Nat) (ks : List Nm) (w : World) (h1 : w.ownsRow b1 9 1 v1 ks.length (ks.map encStr)) (h2 : w.ownsRow b2 9 1 v2 ks.length (ks.map encStr)) (hl : ks.length ≤ 1048576) : Calls Try.prog 34 #[v1, v2] w fun e w' => e = .returned (.bool true) ∧ ∃ nq, w' = w.drewN nq := by
  have H1 := hidOf h1
  have H2 := hidOf h2
  obtain ⟨a1, c1, rfl⟩ := strForm h1
  obtain ⟨a2, c2, rfl⟩ := strForm h2
  clear h1 h2
  go_enter Try.func34, Try.ntmps34
  go_wp2
  go_loopw [5] (fun i wr => ∃ k : Nat, k ≤ ks.length ∧ i = .int .i64 (k : Int) ∧ ∃ nq, wr = w.drewN nq) (fun i _ => ks.length - (intOf i).toNat)
  case atStart => exact ⟨0, Nat.zero_le _, rfl, 0, rfl⟩
  case round =>
    obtain ⟨k, hk, rfl, nq, rfl⟩ := hrel
    by_cases hlt : k < ks.length
    · have hltz : (k : Int) < (ks.length : Int) := by omega
      obtain ⟨nm, hnk⟩ : ∃ g, ks[k]? = some g := ⟨_, List.getElem?_eq_getElem hlt⟩
      obtain ⟨g, cap, e, hg, y0⟩ := strRow H1.out (Below.refl _ w) hnk
      cases e
      obtain ⟨g', cap', e, hg', y0'⟩ := strRow H2.out (Below.refl _ w) hnk
      cases e
      clear hnk
      generalize bA nm = B at *
      go_wp2
      go_quiet (fail)
      go_wp2
      refine ⟨⟨k + 1, by omega, by go_num, _, rfl⟩, by simp [intOf]; omega⟩
    · have hltz : ¬ (k : Int) < (ks.length : Int) := by omega
      go_wp2
      go_ret
      exact ⟨rfl, _, rfl⟩
end Go.Proofs.Ytkbmfookdhlphaa
