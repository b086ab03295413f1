/- told: the files of a disk as one text. -/
import Derived.Test.YtkbmfookdhlphaaDls
import Derived.Laws.IdiomStrings
import Derived.Laws.BytesArg
namespace Go.Proofs.Ytkbmfookdhlphaa
open Go.RowKit Go.Maps Go.Sort

def bA (l : List UInt8) : ByteArray := ⟨l.toArray⟩
theorem bA_toList (l : List UInt8) : (bA l).data.toList = l := by simp [bA]
theorem bA_size (l : List UInt8) : (bA l).size = l.length := by simp [bA, ByteArray.size]
def accB (fs : FS) (l : List Nm) : ByteArray := l.foldl (fun a k => a ++ bA k ++ bA [61] ++ bA (cOf fs k) ++ bA [59]) (bA [])
theorem accB_snoc (fs : FS) (l : List Nm) (k : Nm) : accB fs (l ++ [k]) = accB fs l ++ bA k ++ bA [61] ++ bA (cOf fs k) ++ bA [59] := by
  unfold accB; rw [List.foldl_append]; rfl
theorem accB_from (fs : FS) (hb : Bd fs) (l : List Nm) (hl : ∀ k ∈ l, k.length ≤ 32) : ∀ a : ByteArray, (l.foldl (fun a k => a ++ bA k ++ bA [61] ++ bA (cOf fs k) ++ bA [59]) a).size ≤ a.size + l.length * 1048610 := by
  induction l with
  | nil => intro a; simp
  | cons k l ih =>
    intro a
    have h1 := ih (fun k hk => hl k (by simp [hk])) (a ++ bA k ++ bA [61] ++ bA (cOf fs k) ++ bA [59])
    have h2 := hl k (by simp)
    have h3 := hb k
    simp only [ByteArray.size_append, bA_size, List.length_cons, List.length_nil, List.foldl_cons] at h1 ⊢
    omega
theorem accB_size (fs : FS) (hb : Bd fs) (l : List Nm) (hl : ∀ k ∈ l, k.length ≤ 32) : (accB fs l).size ≤ l.length * 1048610 := by
  have := accB_from fs hb l hl (bA [])
  rw [bA_size] at this
  simp only [List.length_nil, Nat.zero_add] at this
  exact this
theorem cv_bytes {w : World} {z : Value} {d : List UInt8} (h : SlR w z d) (hd : d.length ≤ 1048576) : (convert 29 9 z).run Try.prog w = .ok (.string (bA d)) w := by
  rcases h with ⟨rfl, rfl⟩ | ⟨g, cap, cur, rfl, hg, h1, h2, h3, h4⟩
  · exact run_convert_bytes_nil w 29 5 Try.underlying29 Try.underlying5 0 0 9 Try.underlying9
  · refine run_convert_bytes_back w 29 9 5 ⟨g, 0, none⟩ cap d Try.underlying29 Try.underlying5 Try.underlying9 (fun j hj => ?_)
    have hadd : (⟨g, 0, none⟩ : Addr).add j = ⟨g, j, none⟩ := by unfold Addr.add; split <;> simp_all
    rw [hadd, cell_of_row w g j cur 5 (0, 0) hg]
    have := vals_get d j hj
    rw [← h4, List.getElem?_take, if_pos hj] at this
    rw [← Array.getElem?_toList, this]
    simp [bat, bn, List.getD, hj]
/- a row of texts -/
theorem strRow {w w' : World} {v : Value} {ks : List Nm} {base : Nat} (h : w.ownsRow base 9 1 v ks.length (ks.map encStr)) (hb : Below w.heap.size w w') {i : Nat} {k : Nm} (hi : ks[i]? = some k) : ∃ g cap, v = .slice (some ⟨g, 0, none⟩) ks.length cap ∧ g < w'.heap.size ∧ w'.cell? ⟨g, i, none⟩ = some (.string (bA k)) := by
  have hlt := (List.getElem?_eq_some_iff.1 hi).1
  rcases h.2 with ⟨_, e⟩ | ⟨g, cap, cur, e, _, h4, h5, h6, h7, h8⟩
  · omega
  · refine ⟨g, cap, e, Nat.lt_of_lt_of_le (heap_lt h4) hb.size, ?_⟩
    rw [cell_of_row w' g i cur 9 (0, 0) ((hb.block g (heap_lt h4)).trans h4)]
    have : (ks.map encStr)[i]? = some (.string (bA k)) := by rw [List.getElem?_map, hi]; rfl
    rw [← h8, List.getElem?_take, if_pos (by omega)] at this
    simpa using this
theorem strForm {w : World} {v : Value} {ks : List Nm} {base : Nat} (h : w.ownsRow base 9 1 v ks.length (ks.map encStr)) : ∃ a cap, v = .slice a ks.length cap := by
  rcases h.2 with ⟨e, e2⟩ | ⟨g, cap, cur, e, _⟩
  · exact ⟨none, 0, by rw [e, e2]⟩
  · exact ⟨_, cap, e⟩
/- all files have names -/
def Nmd (fs : FS) : Prop := ∀ k, (fs k).isSome = true → nameL k = true
set_option maxHeartbeats 4000000 in
set_option maxRecDepth 100000 in
theorem told_any (p cnt bF bD : Nat) (M : Md) (DF DD : DataW Value) (dn : Value) (G : List Gd) (w : World) (h : DkR w p M cnt bF bD DF DD dn G) (hbd : Bd M.files) (hnm : Nmd M.files) : Calls Try.prog 15 #[.pointer (some ⟨p, 0, none⟩)] w fun e w' => ∃ ks, Srt M.files ks ∧ e = .returned (.string (accB M.files ks)) ∧ Below w.heap.size w w' := by
  have HL := hidOf (list_any p cnt bF bD M DF DD dn G w h)
  have H := hidOf h
  have HBD := hidOf hbd
  have HNM := hidOf hnm
  have hcn := h.cn
  obtain ⟨ks0, hk0, hk0l⟩ := h.card
  obtain ⟨nF, hnF, hmF⟩ := h.mF
  have hszF : Maps.size DF ≤ nF := World.ownsMap.size_le hmF
  have HK0 := hidOf hk0
  clear h hbd hnm hk0 hmF
  go_enter Try.func15, Try.ntmps15
  go_wp2_with (go_at_call 22; refine HL.out.mono ?_; rintro e w1 ⟨v, ks, rfl, hsr, hrow, hb1⟩; have HSR := hidOf hsr; have HROW := hidOf hrow; have HB1 := hidOf hb1; obtain ⟨a, cap, hv⟩ := strForm hrow; subst hv; have hkl : ks.length ≤ 4398046511104 := (by rw [hsr.uniq HK0.out]; omega); clear hsr hrow hb1)
  go_loopw [3, 5] (fun o i wr => ∃ k : Nat, k ≤ ks.length ∧ i = .int .i64 (k : Int) ∧ o = .string (accB M.files (ks.take k)) ∧ Hid (Below w1.heap.size w1 wr)) (fun _ i _ => ks.length - (intOf i).toNat)
  case atStart => exact ⟨0, Nat.zero_le _, rfl, rfl, hidOf (Below.refl _ _)⟩
  case round =>
    obtain ⟨k, hk, rfl, rfl, HB⟩ := hrel
    by_cases hlt : k < ks.length
    · have hltz : (k : Int) < (ks.length : Int) := by omega
      obtain ⟨nm, hnk⟩ : ∃ g, ks[k]? = some g := ⟨_, List.getElem?_eq_getElem hlt⟩
      obtain ⟨g, cap', e, hg, c0⟩ := strRow HROW.out HB.out hnk
      cases e
      have hmem : (M.files nm).isSome = true := (HSR.out.2.2 nm).1 (List.mem_of_getElem? hnk)
      have hname : nameL nm = true := HNM.out nm hmem
      obtain ⟨d, hd⟩ := Option.isSome_iff_exists.1 hmem
      have hcd : cOf M.files nm = d := by unfold cOf; rw [hd]; rfl
      have hdl : d.length ≤ 1048576 := by rw [← hcd]; exact HBD.out nm
      have HRD := hidOf (read_ok (bA nm) d p cnt bF bD M DF DD dn G wr ((H.out.below HB1.out).below HB.out) (by rw [bA_toList]; exact hname) (by rw [bA_toList]; exact hd) hdl)
      have hasz : (accB M.files (ks.take k)).size ≤ k * 1048610 := by
        have := accB_size M.files HBD.out (ks.take k) (fun x hx => nameL_le (HNM.out x ((HSR.out.2.2 x).1 (List.mem_of_mem_take hx))))
        have h2 : (ks.take k).length = k := by rw [List.length_take]; omega
        rw [h2] at this
        exact this
      have hns : (bA nm).size ≤ 32 := by rw [bA_size]; exact nameL_le hname
      have hds : (bA d).size ≤ 1048576 := by rw [bA_size]; exact hdl
      have HT : Hid (accB M.files (ks.take (k + 1)) = accB M.files (ks.take k) ++ bA nm ++ bA [61] ++ bA d ++ bA [59]) := by
        have hk' := (List.getElem?_eq_some_iff.1 hnk).1
        have e' : ks[k] = nm := (List.getElem?_eq_some_iff.1 hnk).2
        have e2 := accB_snoc M.files (ks.take k) nm
        rw [hcd] at e2
        rw [List.take_succ_eq_append_getElem hk', e']
        exact hidOf e2
      generalize accB M.files (ks.take k) = A at *
      generalize hB : bA nm = B at *
      generalize hDB : bA d = DB at *
      have HDB := hidOf hDB
      have HNK := hidOf hnk
      clear hmem hname hd hcd hB hDB hnk
      go_wp2_with (go_at_call 23; refine HRD.out.mono ?_; rintro e w3 ⟨z, rfl, hz, hfr, hb3⟩; obtain ⟨az, zc, hzf⟩ := frs_form hz; subst hzf; have HZ := hidOf hz; have HB3 := hidOf hb3; have c1 : w3.cell? ⟨g, k, none⟩ = some (.string B) := (hb3.cell (p := ⟨g, k, none⟩) hg).trans c0; have hg3 : g < w3.heap.size := Nat.lt_of_lt_of_le hg hb3.size; clear hz hfr hb3 c0 hg)
      refine wp_region_held_drew (S := fun w' : World => w'.cell? ⟨g, k, none⟩ = some (.string B) ∧ SlR w' (.slice az d.length zc) d) (by kernel_rfl) ⟨c1, HZ.out⟩ (fun hHeld => ?_)
      refine wpAnyH_take (i := 0) (oi := { dst := some 25, op := Op.move (Operand.tmp 3), type := 9, pos := "law.go:130", after := #[], guard := none }) (v := .string A) rfl (by kernel_rfl) (by kernel_rfl) (by kernel_rfl) (fun _ _ _ h => h) (Or.inl ⟨by rfl, ?_⟩) hHeld ?_
      · (intro w hSw; (try dsimp only at hSw); go_simp)
      try simp only [Act.put, List.setIfInBounds_toArray, List.set_cons_zero, List.set_cons_succ]
      refine wpAnyH_take (i := 1) (oi := { dst := some 26, op := Op.move (Operand.tmp 4), type := 34, pos := "law.go:130", after := #[], guard := none }) (v := .slice (some ⟨g, 0, none⟩) ks.length cap) rfl (by kernel_rfl) (by kernel_rfl) (by kernel_rfl) (fun _ _ _ h => h) (Or.inl ⟨by rfl, ?_⟩) hHeld ?_
      · (intro w hSw; (try dsimp only at hSw); go_simp)
      try simp only [Act.put, List.setIfInBounds_toArray, List.set_cons_zero, List.set_cons_succ]
      refine wpAnyH_take (i := 2) (oi := { dst := some 27, op := Op.move (Operand.tmp 5), type := 3, pos := "law.go:130", after := #[], guard := none }) (v := .int .i64 (k : Int)) rfl (by kernel_rfl) (by kernel_rfl) (by kernel_rfl) (fun _ _ _ h => h) (Or.inl ⟨by rfl, ?_⟩) hHeld ?_
      · (intro w hSw; (try dsimp only at hSw); go_simp)
      try simp only [Act.put, List.setIfInBounds_toArray, List.set_cons_zero, List.set_cons_succ]
      refine wpAnyH_take (i := 3) (oi := { dst := some 28, op := Op.indexAddr 34 (Operand.tmp 26) (Operand.tmp 27), type := 0, pos := "law.go:130", after := #[{ on := 1, ground := Ground.data }, { on := 2, ground := Ground.data }], guard := none }) (v := .pointer (some ⟨g, k, none⟩)) rfl (by kernel_rfl) (by kernel_rfl) (by kernel_rfl) (fun _ _ _ h => h) (Or.inl ⟨by rfl, ?_⟩) hHeld ?_
      · (intro w hSw; (try dsimp only at hSw); go_simp)
      try simp only [Act.put, List.setIfInBounds_toArray, List.set_cons_zero, List.set_cons_succ]
      refine wpAnyH_take (i := 4) (oi := { dst := some 29, op := Op.load 9 (Operand.tmp 28), type := 9, pos := "law.go:130", after := #[{ on := 3, ground := Ground.data }], guard := none }) (v := .string B) rfl (by kernel_rfl) (by kernel_rfl) (by kernel_rfl) (fun _ _ _ h => h) (Or.inl ⟨by rfl, ?_⟩) hHeld ?_
      · (intro w hSw; obtain ⟨s1, _⟩ := hSw; go_simp)
      try simp only [Act.put, List.setIfInBounds_toArray, List.set_cons_zero, List.set_cons_succ]
      refine wpAnyH_take (i := 5) (oi := { dst := some 30, op := Op.binOp BinOp.add 9 (Operand.tmp 25) (Operand.tmp 29) 9, type := 9, pos := "law.go:130", after := #[{ on := 0, ground := Ground.data }, { on := 4, ground := Ground.data }], guard := none }) (v := .string (A ++ B)) rfl (by kernel_rfl) (by kernel_rfl) (by kernel_rfl) (fun _ _ _ h => h) (Or.inl ⟨by rfl, ?_⟩) hHeld ?_
      · (intro w hSw; clear hSw; have e61 : (bA [61]).size = 1 := rfl; go_simp; omega)
      try simp only [Act.put, List.setIfInBounds_toArray, List.set_cons_zero, List.set_cons_succ]
      refine wpAnyH_take (i := 6) (oi := { dst := some 31, op := Op.binOp BinOp.add 9 (Operand.tmp 30) (Operand.const (Value.string { data := #[61] })) 9, type := 9, pos := "law.go:130", after := #[{ on := 5, ground := Ground.data }], guard := none }) (v := .string (A ++ B ++ bA [61])) rfl (by kernel_rfl) (by kernel_rfl) (by kernel_rfl) (fun _ _ _ h => h) (Or.inl ⟨by rfl, ?_⟩) hHeld ?_
      · (intro w hSw; clear hSw; have e61 : (bA [61]).size = 1 := rfl; go_simp; rw [if_neg (by omega)]; rfl)
      try simp only [Act.put, List.setIfInBounds_toArray, List.set_cons_zero, List.set_cons_succ]
      refine wpAnyH_take (i := 7) (oi := { dst := some 32, op := Op.move (Operand.tmp 6), type := 29, pos := "law.go:130", after := #[], guard := none }) (v := .slice az d.length zc) rfl (by kernel_rfl) (by kernel_rfl) (by kernel_rfl) (fun _ _ _ h => h) (Or.inl ⟨by rfl, ?_⟩) hHeld ?_
      · (intro w hSw; (try dsimp only at hSw); go_simp)
      try simp only [Act.put, List.setIfInBounds_toArray, List.set_cons_zero, List.set_cons_succ]
      refine wpAnyH_take (i := 8) (oi := { dst := some 33, op := Op.convert 29 9 (Operand.tmp 32), type := 9, pos := "law.go:130", after := #[{ on := 7, ground := Ground.data }], guard := none }) (v := .string DB) rfl (by kernel_rfl) (by kernel_rfl) (by kernel_rfl) (fun _ _ _ h => h) (Or.inl ⟨by rfl, ?_⟩) hHeld ?_
      · (intro w hSw; have hcv := cv_bytes hSw.2 hdl; rw [HDB.out] at hcv; clear hSw; go_simp)
      try simp only [Act.put, List.setIfInBounds_toArray, List.set_cons_zero, List.set_cons_succ]
      refine wpAnyH_take (i := 9) (oi := { dst := some 34, op := Op.binOp BinOp.add 9 (Operand.tmp 31) (Operand.tmp 33) 9, type := 9, pos := "law.go:130", after := #[{ on := 6, ground := Ground.data }, { on := 8, ground := Ground.data }], guard := none }) (v := .string (A ++ B ++ bA [61] ++ DB)) rfl (by kernel_rfl) (by kernel_rfl) (by kernel_rfl) (fun _ _ _ h => h) (Or.inl ⟨by rfl, ?_⟩) hHeld ?_
      · (intro w hSw; clear hSw; have e61 : (bA [61]).size = 1 := rfl; go_simp; omega)
      try simp only [Act.put, List.setIfInBounds_toArray, List.set_cons_zero, List.set_cons_succ]
      refine wpAnyH_take (i := 10) (oi := { dst := some 35, op := Op.binOp BinOp.add 9 (Operand.tmp 34) (Operand.const (Value.string { data := #[59] })) 9, type := 9, pos := "law.go:130", after := #[{ on := 9, ground := Ground.data }], guard := none }) (v := .string (A ++ B ++ bA [61] ++ DB ++ bA [59])) rfl (by kernel_rfl) (by kernel_rfl) (by kernel_rfl) (fun _ _ _ h => h) (Or.inl ⟨by rfl, ?_⟩) hHeld ?_
      · (intro w hSw; clear hSw; have e61 : (bA [61]).size = 1 := rfl; go_simp; rw [if_neg (by omega)]; rfl)
      try simp only [Act.put, List.setIfInBounds_toArray, List.set_cons_zero, List.set_cons_succ]
      refine wpAnyH_take (i := 11) (oi := { dst := some 3, op := Op.assign (Operand.tmp 35), type := 9, pos := "law.go:130", after := #[{ on := 10, ground := Ground.data }, { on := 0, ground := Ground.phase }, { on := 1, ground := Ground.phase }, { on := 2, ground := Ground.phase }, { on := 3, ground := Ground.phase }, { on := 4, ground := Ground.phase }, { on := 5, ground := Ground.phase }, { on := 6, ground := Ground.phase }, { on := 7, ground := Ground.phase }, { on := 8, ground := Ground.phase }, { on := 9, ground := Ground.phase }, { on := 10, ground := Ground.phase }], guard := none }) (v := .string (A ++ B ++ bA [61] ++ DB ++ bA [59])) rfl (by kernel_rfl) (by kernel_rfl) (by kernel_rfl) (fun _ _ _ h => h) (Or.inl ⟨by rfl, ?_⟩) hHeld ?_
      · (intro w hSw; (try dsimp only at hSw); go_simp)
      try simp only [Act.put, List.setIfInBounds_toArray, List.set_cons_zero, List.set_cons_succ]
      refine wpAnyH_done (by kernel_rfl) ?_ _
      go_wp2
      go_roundw
      case rel => exact ⟨k + 1, by omega, by go_num, by rw [HT.out], hidOf (HB.out.trans ((HB3.out.mono HB.out.size).drew))⟩
      case measure => simp [intOf]; omega
    · have hltz : ¬ (k : Int) < (ks.length : Int) := by omega
      have hkl2 : ks.take k = ks := List.take_of_length_le (by omega)
      rw [hkl2]
      clear hkl2
      go_wp2
      go_ret
      exact ⟨ks, HSR.out, rfl, HB1.out.trans (HB.out.mono HB1.out.size)⟩
end Go.Proofs.Ytkbmfookdhlphaa
