/- The table of powers, out of what the row lists. -/
import Derived.Test.YtkienmncifonnaaDoorRows
import Derived.Test.YtkienmncifonnaaDoorAm
import Derived.Lib.LaidTab
import Derived.LaidMore
namespace Go.Proofs.YtkienmncifonnaaDoor
open Go.RowKit
set_option maxRecDepth 100000 in
theorem tb_of_laid {W : World} (hL : laidMetH Tryd.prog Rows.agentObeysRow.laid W) : Tb W.heap.size W := by
  have hf : (Rows.agentObeysRow.laid.filter fun x => x.2.handleName?.isSome) = [] := by kernel_rfl
  unfold laidMetH at hL
  rw [hf] at hL
  obtain ⟨ps, h1, hn, hp⟩ := hL
  obtain ⟨_, _, _, _, p1, q1, _, _, _, _, h2, e1⟩ := h1
  obtain ⟨_, _, _, _, p2, q2, _, _, _, _, h3, e2⟩ := h2
  have hs : q2.Sublist ps := by
    rw [e1, e2]
    exact (List.sublist_append_right _ _).trans (List.sublist_append_right _ _)
  have ed : (Rows.laid_internal_strconv_uint64pow10 : DataW Unit) = Lib.tabData .u64 Lib.pow10Tab := by kernel_rfl
  have h4 : laidMet Tryd.prog (("internal/strconv.uint64pow10", Rows.laid_internal_strconv_uint64pow10) :: [("strconv.ErrRange", Rows.laid_strconv_ErrRange), ("strconv.ErrSyntax", Rows.laid_strconv_ErrSyntax)]) W := ⟨q2, h3, hn.sublist hs, fun b off hm => hp b off (hs.subset hm)⟩
  rw [ed] at h4
  have hg : Tryd.prog.globalNamed "internal/strconv.uint64pow10" = some 2 := by kernel_rfl
  have h5 := Lib.tabIs_of_head hg (by kernel_rfl) Tryd.underlying165 Tryd.underlying138 (by kernel_rfl) (by kernel_rfl) h4
  exact ⟨h5, 2, hg, World.block_lt_of_cell? W _ (h5.cell hg 0 (by decide))⟩
end Go.Proofs.YtkienmncifonnaaDoor
