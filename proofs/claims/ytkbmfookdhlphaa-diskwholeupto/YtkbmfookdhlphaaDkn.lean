/- known: the law's example. -/
import Derived.Test.YtkbmfookdhlphaaDtd
import Derived.Lib.SlBytesConst
namespace Go.Proofs.Ytkbmfookdhlphaa
open Go.RowKit Go.Maps Go.Sort

def nA : ByteArray := bA [97]
theorem nA_toList : (⟨#[97]⟩ : ByteArray).data.toList = [97] := rfl
theorem name_a : nameL [97] = true := by decide
theorem ref_a (l : Int) (h : l ≠ 0) : refE [⟨#[97]⟩] l = 0 := by
  unfold refE okNames
  rw [if_pos (by decide), if_neg h]
def M1 : Md := ⟨doD (.ap [97] [120, 121]) 2 fs0, fs0, [(2, .ap [97] [120, 121])], -1⟩
def M2 : Md := ⟨doD (.ap [97] [122]) 1 M1.files, fs0, M1.done ++ [(1, .ap [97] [122])], -1⟩
theorem M1_a : M1.files [97] = some [120, 121] := by decide
theorem M2_a : M2.files [97] = some [120, 121, 122] := by decide
theorem cOf_some {fs : FS} {k : Nm} {d : List UInt8} (h : fs k = some d) : cOf fs k = d := by unfold cOf; rw [h]; rfl
theorem fup_other {fs : FS} {k j : Nm} {v : Option (List UInt8)} (h : j ≠ k) : fup fs k v j = fs j := by unfold fup; rw [if_neg h]
theorem Bd.fup {fs : FS} (h : Bd fs) {k : Nm} {v : Option (List UInt8)} (hv : (v.getD []).length ≤ 1048576) : Bd (fup fs k v) := fun j => by
  rw [cOf_fup]
  split
  · exact hv
  · exact h j
theorem bd0 : Bd fs0 := fun _ => by show ([] : List UInt8).length ≤ _; simp
theorem bd1 : Bd M1.files := bd0.fup (by decide)
theorem bd2 : Bd M2.files := bd1.fup (by decide)
theorem done2 : M2.done = [(2, .ap [97] [120, 121]), (1, .ap [97] [122])] := rfl
theorem bdk : ∀ k, Bd (rep (M2.done.take k) M2.dur) := by
  intro k
  match k with
  | 0 => exact bd0
  | 1 => exact bd1
  | k + 2 =>
    have : M2.done.take (k + 2) = M2.done := List.take_of_length_le (by rw [done2]; simp)
    rw [this]
    exact bd2
theorem unk : ∀ x ∈ M2.done, 1 ≤ x.1 ∧ x.1 ≤ 1048576 := by
  intro x hx
  rw [done2] at hx
  simp at hx
  rcases hx with rfl | rfl <;> decide
theorem crash2 : mkD M2.done (pickN 2 (sumU M2.done)) M2.dur [97] = some [120, 121] := by decide
theorem row_bytes (w : World) (l : List UInt8) (f : Nat × Nat) (h : l.length ≤ 211106232532992) : Bs (w.alloc (.cells (vals l).toArray 5 f)) (some ⟨w.heap.size, 0, none⟩) l := by
  refine ⟨h, fun _ => ⟨w.heap.size, 0, rfl, by simp, fun j hj => ?_⟩⟩
  rw [Nat.zero_add, cell_of_row _ w.heap.size j _ 5 f (heap_alloc_new w _)]
  have := vals_get l j hj
  simpa using this
theorem DkR.size_le {w : World} {p : Nat} {M : Md} {cnt bF bD : Nat} {DF DD : DataW Value} {dn : Value} {G : List Gd} (h : DkR w p M cnt bF bD DF DD dn G) (hc : cnt < 64 := by decide) : Maps.size DF < 64 := by
  obtain ⟨n, hn, hm⟩ := h.mF
  have : Maps.size DF ≤ n := World.ownsMap.size_le hm
  omega
theorem bs_xy (w : World) : Bs (w.alloc (.cells #[.int .u8 120, .int .u8 121] 5 (2, 3))) (some ⟨w.heap.size, 0, none⟩) [120, 121] := row_bytes w [120, 121] (2, 3) (by simp)
theorem bs_z (w : World) : Bs (w.alloc (.cells #[.int .u8 122] 5 (1, 2))) (some ⟨w.heap.size, 0, none⟩) [122] := row_bytes w [122] (1, 2) (by simp)

set_option maxHeartbeats 4000000 in
set_option maxRecDepth 100000 in
theorem known_any (w : World) : Calls Try.prog 11 #[] w fun e w' => e = .returned (.bool true) ∧ Below w.heap.size w w' := by
  have T1 : True := trivial
  have T2 : True := trivial
  have hcv1 := fun w => Go.Lib.run_convert_bytes_const (P := Try.prog) w 29 5 #[.int .u8 120, .int .u8 121] 2 2 Try.underlying29 Try.underlying5
  have hcv2 := fun w => Go.Lib.run_convert_bytes_const (P := Try.prog) w 29 5 #[.int .u8 122] 1 1 Try.underlying29 Try.underlying5
  go_enter Try.func11, Try.ntmps11
  go_wp2_with (first
    | (go_at_call 9; refine (new_any w).mono ?_; rintro e w1 ⟨rfl, hw1⟩; have H1 := hidOf (newR w); rw [← hw1] at H1; have HB1 : Hid (Below w.heap.size w w1) := hidOf (by rw [hw1]; exact ((below1 w _).alloc (by simp) _).alloc (by simp; omega) _); have F1 := hidOf (new_foot w); clear hw1)
    | (go_at_call 14; have hh := T1; clear T1; refine (append_ok ⟨#[97]⟩ _ 2 [120, 121] (w.heap.size + 1 + 1) 0 w.heap.size (w.heap.size + 1) M0 _ _ _ _ _ (H1.out.below (below1 w1 _)) (ref_a _ (by decide)) (bs_xy w1) (fun e => by cases e) (fun k => bd0 k) (by decide) (by decide)).mono ?_; rintro e w2 ⟨rfl, DF1, dn1, G1, hd, hf⟩; have hd : DkR w2 (w.heap.size + 1 + 1) M1 1 w.heap.size (w.heap.size + 1) DF1 _ dn1 G1 := hd; have H2 := hidOf hd; have F2 := hidOf ((Fr.of_below (below1 w1 _)).trans hf); have hsz1 : Maps.size DF1 < 64 := hd.size_le; clear hd hf)
    | (go_at_call 14; refine (append_ok ⟨#[97]⟩ _ 1 [122] (w.heap.size + 1 + 1) 1 w.heap.size (w.heap.size + 1) M1 _ _ _ _ _ (H2.out.below (below1 w2 _)) (ref_a _ (by decide)) (bs_z w2) (fun e => by cases e) (fun k => bd1 k) (by simp [roomB, cOf, M1_a]) (by decide)).mono ?_; rintro e w3 ⟨rfl, DF2, dn2, G2, hd, hf⟩; have hd : DkR w3 (w.heap.size + 1 + 1) M2 2 w.heap.size (w.heap.size + 1) DF2 _ dn2 G2 := hd; have H3 := hidOf hd; have F3 := hidOf (F2.out.trans ((Fr.of_below (below1 w2 _)).trans hf)); clear hd hf)
    | (go_at_call 23; have hh := T2; clear T2; refine (read_ok ⟨#[97]⟩ [120, 121, 122] (w.heap.size + 1 + 1) 2 w.heap.size (w.heap.size + 1) M2 _ _ _ _ _ H3.out name_a M2_a (by decide)).mono ?_; rintro e w4 ⟨z, rfl, hz, hfr, hb⟩; obtain ⟨az, zc, hzf⟩ := frs_form hz; subst hzf; have HZ := hidOf hz; have HFZ := hidOf hfr; have HB4 := hidOf hb; clear hz hb hfr)
    | (go_at_call 21; refine (crash_any 2 (w.heap.size + 1 + 1) 2 w.heap.size (w.heap.size + 1) M2 _ _ _ _ _ (H3.out.below HB4.out) unk bdk (by decide)).mono ?_; rintro e w5 ⟨rfl, bN, DN, DD5, hd, hf⟩; have H5 := hidOf hd; have F5 := hidOf hf; clear hd hf)
    | (go_at_call 23; refine (read_ok ⟨#[97]⟩ [120, 121] (w.heap.size + 1 + 1) 2 bN (w.heap.size + 1) _ _ _ _ _ _ H5.out name_a crash2 (by decide)).mono ?_; rintro e w6 ⟨z2, rfl, hz2, _, hb⟩; obtain ⟨az2, zc2, hzf2⟩ := frs_form hz2; subst hzf2; have HB6 := hidOf hb; have hcz2 : (convert 29 9 (.slice az2 2 zc2)).run Try.prog w6 = .ok (.string ⟨#[120, 121]⟩) w6 := cv_bytes hz2 (by decide); have hz1 : SlR w6 (.slice az 3 zc) [120, 121, 122] := (SlR.kept HZ.out (fun g hg => F5.out.block g (HZ.out.lt g hg) (fun e => Nat.lt_irrefl _ (Nat.lt_of_lt_of_le (H3.out.ftLt g e) (HFZ.out g hg))))).grow hb; have hcz1 : (convert 29 9 (.slice az 3 zc)).run Try.prog w6 = .ok (.string ⟨#[120, 121, 122]⟩) w6 := cv_bytes hz1 (by decide); clear hz2 hb hz1)
    | fail)
  go_ret
  have b1 : Below w.heap.size w1 w3 := F3.out.below HB1.out.size F1.out
  have a3 := F3.out.above HB1.out.size F1.out
  have s3 := Nat.le_trans HB1.out.size b1.size
  have b5 : Below w.heap.size w4 w5 := F5.out.below (Nat.le_trans s3 HB4.out.size) a3
  have s5 := Nat.le_trans (Nat.le_trans s3 HB4.out.size) b5.size
  exact ⟨rfl, (((HB1.out.trans b1).trans (HB4.out.mono s3)).trans b5).trans (HB6.out.mono s5)⟩
end Go.Proofs.Ytkbmfookdhlphaa
