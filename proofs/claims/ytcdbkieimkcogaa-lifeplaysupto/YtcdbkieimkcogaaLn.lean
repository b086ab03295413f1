/- Two lists of commands that say the same are the same. -/
import Derived.Test.YtcdbkieimkcogaaLm
import Derived.Deep.MidRow
namespace Go.Proofs.Ytcdbkieimkcogaa
open Go.RowKit
theorem wpList_store_new {ops : Array Oper} {rest : List Oper} {o : Oper} {a : Act} {w : World} {Q : Exit → Act → World → Prop} (hgd : o.guard = none) (ty : TypeId) (x y : Operand) (ho : o.op = .store ty x y)
    (g : Nat) (cells : Array Value) (hx : a.eval x = .pointer (some ⟨g, 0, none⟩)) (hy : a.eval y = .agg cells)
    (t : TypeId) (old : Array Value) (hg : w.heap[g]? = some (.cells old t (0, 0))) (hi : (Try.prog.info? ty).map (·.size) = some cells.size)
    (hold : old.size = cells.size) (h1 : cells.all (·.oneCell') = true)
    (h : ∀ w2, w2.heap[g]? = some (.cells cells t (0, 0)) → Below g w w2 → w2.heap.size = w.heap.size → wpList Try.prog ops Q rest (a.put o.dst undef) w2) : wpList Try.prog ops Q (o :: rest) a w :=
  wpList_store_row hgd ty x y ho g cells hx hy t old hg hi hold h1 (h _ (setRow_at hg) (setRow_below (Below.refl g w) (Nat.le_refl _)) (by simp [World.setRow]))
theorem rd_range {D : Nat} {w : World} {a : Option Addr} {C : List Cm} (h : RdR D 60 27 cmC w a C) {i : Nat} {q : Cm} (hq : C[i]? = some q) : ∃ b off, a = some ⟨b, off, none⟩ ∧ b < w.heap.size ∧ w.rangeAt b (off + i * 27) (cmC q).toList := by
  obtain ⟨b, off, h1, h2, h3⟩ := RdR.at_ h hq
  exact ⟨b, off, h1, h2, fun j v hj => h3 j v (by rw [Array.getElem?_toList] at hj; exact hj)⟩
theorem range_grow {w w' : World} {b o : Nat} {cs : List Value} (h : w.rangeAt b o cs) (hb : b < w.heap.size) (hw : Below w.heap.size w w') : w'.rangeAt b o cs := fun j v hj => (hw.cell (p := ⟨b, o + j, none⟩) hb).trans (h j v hj)
theorem cm_cells {w : World} {g : Nat} {q : Cm} (h : w.heap[g]? = some (.cells (cmC q) 60 (0, 0))) : w.cell? ⟨g, 0, none⟩ = some (.int .i64 q.op) ∧ w.cell? ⟨g, 1, none⟩ = some (.int .i64 0) ∧ w.cell? ⟨g, 3, none⟩ = some (.int .i64 q.jb) ∧ w.cell? ⟨g, 8, none⟩ = some (.int .i64 q.vr) ∧ w.cell? ⟨g, 10, none⟩ = some (.int .i64 q.nd) ∧ w.cell? ⟨g, 11, none⟩ = some (.int .i64 0) ∧ w.cell? ⟨g, 12, none⟩ = some (.int .i64 0) ∧ w.cell? ⟨g, 13, none⟩ = some (.bool false) ∧ w.cell? ⟨g, 14, none⟩ = some (.bool false) ∧ w.cell? ⟨g, 15, none⟩ = some (.int .i64 0) ∧ w.cell? ⟨g, 16, none⟩ = some (.int .i64 q.ep) ∧ w.cell? ⟨g, 17, none⟩ = some (.int .i64 q.sq) := by
  refine ⟨?_, ?_, ?_, ?_, ?_, ?_, ?_, ?_, ?_, ?_, ?_, ?_⟩ <;> (rw [cell_of_row w g _ _ 60 (0, 0) h]; rfl)
set_option maxHeartbeats 8000000 in
set_option maxRecDepth 100000 in
theorem cmds_any (C : List Cm) (a1 : Option Addr) (c1 : Nat) (a2 : Option Addr) (c2 : Nat) (w : World) (h1 : RdR w.heap.size 60 27 cmC w a1 C) (h2 : RdR w.heap.size 60 27 cmC w a2 C) (hn : C.length ≤ 1048576) :
    Calls Try.prog 10 #[.slice a1 C.length c1, .slice a2 C.length c2] w fun e w' => e = .returned (.bool true) ∧ Below w.heap.size w w' := by
  have hI : (Try.prog.info? 60).map (·.size) = some 27 := by kernel_rfl
  have HI := hidOf hI
  have H1 := hidOf h1
  have H2 := hidOf h2
  clear hI h1 h2
  go_enter Try.func10, Try.ntmps10
  go_wp2
  go_loopw [5] (fun i wr => ∃ (k : Nat), k ≤ C.length ∧ i = .int .i64 (k : Int) ∧ Hid (Below w.heap.size w wr)) (fun i _ => C.length - (intOf i).toNat)
  case atStart => exact ⟨0, Nat.zero_le _, rfl, hidOf (Below.refl _ _)⟩
  case round =>
    obtain ⟨k, hk, rfl, HB⟩ := hrel
    by_cases hlt : k < C.length
    · have hltz : (k : Int) < (C.length : Int) := by omega
      obtain ⟨q, hq⟩ : ∃ q, C[k]? = some q := ⟨_, List.getElem?_eq_getElem hlt⟩
      obtain ⟨b1, o1, rfl, hb1, hr1⟩ := rd_range (RdR.grow H1.out HB.out) hq
      obtain ⟨b2, o2, rfl, hb2, hr2⟩ := rd_range (RdR.grow H2.out HB.out) hq
      obtain ⟨es, hes⟩ : ∃ es, Hid (es = (cmC q).toList) := ⟨_, hidOf rfl⟩
      have HR1 : Hid (wr.rangeAt b1 (o1 + k * 27) es) := hidOf (by rw [hes.out]; exact hr1)
      have HR2 : Hid (wr.rangeAt b2 (o2 + k * 27) es) := hidOf (by rw [hes.out]; exact hr2)
      have HLE : Hid ((Try.prog.info? 60).map (·.size) = some es.length) := hidOf (by rw [hes.out]; exact HI.out)
      have HLA : Hid ((Try.prog.info? 60).map (·.size) = some es.toArray.size) := hidOf (by rw [hes.out]; exact HI.out)
      have HLZ : Hid (zC.size = es.toArray.size) := hidOf (by rw [hes.out]; rfl)
      have HAL : Hid (es.toArray.all (·.oneCell') = true) := hidOf (by rw [hes.out]; exact cm_all q)
      clear hr1 hr2 hq
      go_upto_region 8 with (first
        | (refine wpList_load_mid rfl 60 (.tmp 21) rfl b1 (o1 + k * 27) rfl es _ HR1.out Try.underlying60 rfl HLE.out ?_)
        | (refine wpList_store_new rfl 60 (.tmp 6) (.tmp 22) rfl wr.heap.size es.toArray rfl rfl 60 zC (heap_alloc_new wr (.cells zC 60)) HLA.out HLZ.out HAL.out ?_; intro w2 hq2 hb2' hz2; have HQ2 := hidOf hq2; have HB2 := hidOf ((below1 wr (.cells zC 60)).trans hb2'); have HZ2 : Hid (w2.heap.size = wr.heap.size + 1) := hidOf (hz2.trans (by simp)); have HR3 := hidOf (range_grow HR2.out hb2 HB2.out); clear hq2 hb2' hz2)
        | (refine wpList_load_mid rfl 60 (.tmp 25) rfl b2 (o2 + k * 27) rfl es _ HR3.out Try.underlying60 rfl HLE.out ?_)
        | (refine wpList_store_new rfl 60 (.tmp 7) (.tmp 26) rfl w2.heap.size es.toArray rfl rfl 60 zC (heap_alloc_new w2 (.cells zC 60)) HLA.out HLZ.out HAL.out ?_; intro w3 hq3 hb3' hz3; have HQ3 := hidOf hq3; have HB3 := hidOf ((below1 w2 (.cells zC 60)).trans hb3'); clear hq3 hb3' hz3))
      have hea : es.toArray = cmC q := by rw [hes.out]
      have hq3 := HQ3.out
      rw [hea] at hq3
      have hq2 := (HB3.out.block _ (heap_lt HQ2.out)).trans HQ2.out
      rw [hea] at hq2
      obtain ⟨x0, x1, x3, x8, x10, x11, x12, x13, x14, x15, x16, x17⟩ := cm_cells hq2
      obtain ⟨y0, y1, y3, y8, y10, y11, y12, y13, y14, y15, y16, y17⟩ := cm_cells hq3
      clear hq2 hq3 hea
      go_wp2
      go_roundw
      case rel => exact ⟨k + 1, by omega, by go_num, hidOf ((HB.out.trans (HB2.out.mono HB.out.size)).trans (HB3.out.mono (by have := HZ2.out; have := HB.out.size; omega)))⟩
      case measure => simp [intOf]; omega
    · obtain rfl : k = C.length := by omega
      have hltz : ¬ (C.length : Int) < (C.length : Int) := by omega
      go_wp2
      go_ret
      exact ⟨rfl, HB.out⟩
end Go.Proofs.Ytcdbkieimkcogaa
