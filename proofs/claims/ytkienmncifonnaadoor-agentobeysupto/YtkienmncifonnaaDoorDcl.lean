/- Copies of texts and of bytes. -/
import Derived.Test.YtkienmncifonnaaDoorDmem
import Derived.Test.YtkienmncifonnaaDoorMem
import Derived.Shelf.Strconv.Clone
namespace Go.Proofs.YtkienmncifonnaaDoor
open Go.RowKit Go.Maps Go.Shelf
def clRen : Go.Shelf.Ren := ⟨fun | 316 => 65 | n => n, fun | 37 => 38 | 127 => 149 | n => n, fun | n => n⟩
theorem clLays : LaysM.n316 Tryd.prog clRen := { mixed := by kernel_rfl, f316 := Tryd.func65.trans (congrArg some (by kernel_rfl)), t0 := Tryd.underlying0, a0 := Tryd.isAgg0, z0 := Tryd.sizeOf0, v0 := Tryd.zeroValue0, t3 := Tryd.underlying3, a3 := Tryd.isAgg3, z3 := Tryd.sizeOf3, v3 := Tryd.zeroValue3, t4 := Tryd.underlying4, a4 := Tryd.isAgg4, z4 := Tryd.sizeOf4, v4 := Tryd.zeroValue4, t9 := Tryd.underlying9, a9 := Tryd.isAgg9, z9 := Tryd.sizeOf9, v9 := Tryd.zeroValue9, t37 := Tryd.underlying38, a37 := Tryd.isAgg38, z37 := Tryd.sizeOf38, v37 := Tryd.zeroValue38, t127 := Tryd.underlying149, a127 := Tryd.isAgg149, z127 := Tryd.sizeOf149, v127 := Tryd.zeroValue149, t5 := Tryd.underlying5, a5 := Tryd.isAgg5, z5 := Tryd.sizeOf5, v5 := Tryd.zeroValue5, i0 := by kernel_rfl, i3 := by kernel_rfl, i4 := by kernel_rfl, i5 := by kernel_rfl, i9 := by kernel_rfl, i37 := by kernel_rfl, i127 := by kernel_rfl }
theorem cloneLite_any (s : ByteArray) (w : World) (h : s.size ≤ 281474976710656) : Calls Tryd.prog 65 #[.string s] w fun e w' => e = .returned (.string s) ∧ Below w.heap.size w w' := Any.stringslite_Clone clLays s w h
set_option maxHeartbeats 400000 in
theorem cloneS_any (s : ByteArray) (w : World) (h : s.size ≤ 281474976710656) : Calls Tryd.prog 45 #[.string s] w fun e w' => e = .returned (.string s) ∧ Below w.heap.size w w' := by
  go_enter Tryd.func45, Tryd.ntmps45
  go_wp2_with fail
  refine (cloneLite_any s w h).mono ?_
  rintro e w1 ⟨rfl, hb⟩
  go_wp2
  go_ret
  exact ⟨rfl, hb⟩
end Go.Proofs.YtkienmncifonnaaDoor
