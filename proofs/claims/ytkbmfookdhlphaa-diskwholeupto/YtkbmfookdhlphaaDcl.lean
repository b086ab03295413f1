/- Copies of texts and of bytes. -/
import Derived.Test.YtkbmfookdhlphaaDmem
import Derived.Test.YtkbmfookdhlphaaMem
import Derived.Shelf.Strconv.Clone
namespace Go.Proofs.Ytkbmfookdhlphaa
open Go.RowKit Go.Maps Go.Shelf
def clRen : Go.Shelf.Ren := ⟨fun | 316 => 61 | n => n, fun | 37 => 29 | 127 => 92 | n => n, fun | n => n⟩
theorem clLays : LaysM.n316 Try.prog clRen := { mixed := by kernel_rfl, f316 := Try.func61.trans (congrArg some (by kernel_rfl)), t0 := Try.underlying0, a0 := Try.isAgg0, z0 := Try.sizeOf0, v0 := Try.zeroValue0, t3 := Try.underlying3, a3 := Try.isAgg3, z3 := Try.sizeOf3, v3 := Try.zeroValue3, t4 := Try.underlying4, a4 := Try.isAgg4, z4 := Try.sizeOf4, v4 := Try.zeroValue4, t9 := Try.underlying9, a9 := Try.isAgg9, z9 := Try.sizeOf9, v9 := Try.zeroValue9, t37 := Try.underlying29, a37 := Try.isAgg29, z37 := Try.sizeOf29, v37 := Try.zeroValue29, t127 := Try.underlying92, a127 := Try.isAgg92, z127 := Try.sizeOf92, v127 := Try.zeroValue92, t5 := Try.underlying5, a5 := Try.isAgg5, z5 := Try.sizeOf5, v5 := Try.zeroValue5, i0 := by kernel_rfl, i3 := by kernel_rfl, i4 := by kernel_rfl, i5 := by kernel_rfl, i9 := by kernel_rfl, i37 := by kernel_rfl, i127 := by kernel_rfl }
theorem cloneLite_any (s : ByteArray) (w : World) (h : s.size ≤ 281474976710656) : Calls Try.prog 61 #[.string s] w fun e w' => e = .returned (.string s) ∧ Below w.heap.size w w' := Any.stringslite_Clone clLays s w h
set_option maxHeartbeats 400000 in
theorem cloneS_any (s : ByteArray) (w : World) (h : s.size ≤ 281474976710656) : Calls Try.prog 38 #[.string s] w fun e w' => e = .returned (.string s) ∧ Below w.heap.size w w' := by
  go_enter Try.func38, Try.ntmps38
  go_wp2_with fail
  refine (cloneLite_any s w h).mono ?_
  rintro e w1 ⟨rfl, hb⟩
  go_wp2
  go_ret
  exact ⟨rfl, hb⟩
end Go.Proofs.Ytkbmfookdhlphaa
