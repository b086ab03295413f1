/- Arguments opened: lists of allocations, a demand, one more with a demand. -/
import Derived.Test.YtajfhknfknedmaaOp
import Derived.Test.YtajfhknfknedmaaXb
namespace Go.Proofs.Ytajfhknfknedmaa
open Go.ChangeShapes Go.WideShapes Go.ChangeAt Go.RowKit
section
variable {H : Type} {enc : TypeId × Value → H} {w : World}
theorem open_als {base : Nat} {v : Value} {d : DataW H} {p : List MemPlace} (hv : Value.okWide Try.prog w .any base 24 v) (h : DataW.Trod enc Try.prog w 0 (fun _ => true) true 24 v d p) (hw : ∀ n ∈ d.weights Try.prog 24, n ≤ reachBytes) :
    ∃ (a : Option Addr) (M : List Al) (c : Nat), v = .slice a M.length c ∧ Mr w a M ∧ M.length * 88 ≤ reachBytes := by
  obtain ⟨fuel, hf⟩ := h
  obtain ⟨a1, l1, c1, rfl⟩ := okWide_slice Try.underlying24 hv
  obtain ⟨a, cap, L, e, h1, _, h3⟩ := tr_row Al.cs (P_al w) Try.underlying24 (by kernel_rfl) (by kernel_rfl) (by decide) Al.len (fun _ _ _ h hw => tr_al h hw) hf hw
  have e2 : [Value.slice a1 l1 c1] = [.slice a L.length cap] := e
  simp only [List.cons.injEq, and_true] at e2
  exact ⟨a, L, cap, e2, h1, h3⟩
theorem open_res {v : Value} {d : DataW H} {p : List MemPlace} (h : DataW.Trod enc Try.prog w 0 (fun _ => true) true 31 v d p) (hv : ∃ xs, v = .agg xs) (hw : ∀ n ∈ d.weights Try.prog 31, n ≤ reachBytes) :
    ∃ a b : Int, v = .agg #[.int .i64 a, .int .i64 b] := by
  obtain ⟨fuel, hf⟩ := h
  obtain ⟨xs, rfl⟩ := hv
  obtain ⟨x, e, _⟩ := tr_res hf hw
  refine ⟨x.1, x.2, ?_⟩
  congr 1
  apply Array.toList_inj.1
  simpa [Value.cells] using e
theorem tr_more {fuel : Nat} {cs : List Value} {x : DataW H × List MemPlace} (h : DataW.trod enc Try.prog w 0 (fun _ => true) true fuel 41 cs = some x) (hw : ∀ n ∈ x.1.weights Try.prog 41, n ≤ reachBytes) : ∃ (v : Al) (a b : Int), cs = v.cs ++ [Value.int .i64 a, Value.int .i64 b] := by
  obtain ⟨xs, n, rfl, rfl, hl, hlen, hf⟩ := DataW.trod_struct Try.underlying41 h
  rw [show Try.prog.cellsOf 41 = 13 from by kernel_rfl] at hl
  have hlen : xs.length = 2 := hlen
  obtain ⟨x0, x1, rfl⟩ := len2 hlen
  have g0 : DataW.trod enc Try.prog w 0 (fun _ => true) true n 39 ((cs.drop 0).take (Try.prog.cellsOf 39)) = some x0 := hf 0 _ rfl
  have g1 : DataW.trod enc Try.prog w 0 (fun _ => true) true n 31 ((cs.drop 11).take (Try.prog.cellsOf 31)) = some x1 := hf 1 _ rfl
  rw [show Try.prog.cellsOf 39 = 11 from by kernel_rfl] at g0
  rw [show Try.prog.cellsOf 31 = 2 from by kernel_rfl] at g1
  obtain ⟨v, e, _⟩ := tr_al g0 (fun m hm => hw m (by
    simp only [DataW.weights, Try.underlying41]
    exact DataW.weights_mem_each (j := 0) rfl rfl m hm))
  obtain ⟨y, e1, _⟩ := tr_res g1 (fun m hm => hw m (by
    simp only [DataW.weights, Try.underlying41]
    exact DataW.weights_mem_each (j := 1) rfl rfl m hm))
  refine ⟨v, y.1, y.2, ?_⟩
  rw [List.drop_zero] at e
  rw [List.take_of_length_le (by simp [hl])] at e1
  rw [← List.take_append_drop 11 cs, e, e1]
theorem open_more {v : Value} {d : DataW H} {p : List MemPlace} (h : DataW.Trod enc Try.prog w 0 (fun _ => true) true 41 v d p) (hv : ∃ xs, v = .agg xs) (hw : ∀ n ∈ d.weights Try.prog 41, n ≤ reachBytes) :
    ∃ (x : Al) (a b : Int), v = .agg #[.int .i64 x.id, .int .i64 x.jb, .int .i64 x.ve, .int .i64 x.gr, .int .i64 x.ix, .int .i64 x.nd, .int .i64 x.ep, .int .i64 x.c, .int .i64 x.m, .bool x.sp, .int .i64 x.st, .int .i64 a, .int .i64 b] := by
  obtain ⟨fuel, hf⟩ := h
  obtain ⟨xs, rfl⟩ := hv
  obtain ⟨x, a, b, e⟩ := tr_more hf hw
  have e2 : xs = (x.cs ++ [Value.int .i64 a, Value.int .i64 b]).toArray := by
    apply Array.toList_inj.1
    simpa [Value.cells] using e
  exact ⟨x, a, b, by rw [e2]; rfl⟩
end
end Go.Proofs.Ytajfhknfknedmaa
