/- What is looked for in a store, of the document. -/
import Derived.Test.YtblofbdncolikaaWa
namespace Go.Proofs.Ytblofbdncolikaa
open Go.RowKit Go.Shelf
attribute [local go_sem] Oper.semAt_some
set_option maxHeartbeats 1000000 in
theorem eval_ref (s : Sc) (id : Int) (L : List Qd) (w : World) (hn : s.n6 = L.length) (hL : Fl w (fun b => b < w.heap.size) 4 32 Qd.cs s.a6 L) :
  Calls Try.prog 21 #[.agg #[.int .i64 s.ix, .int .i64 s.nx, .slice s.a2 s.n2 s.c2, .slice s.a3 s.n3 s.c3, .slice s.a4 s.n4 s.c4, .slice s.a5 s.n5 s.c5, .slice s.a6 s.n6 s.c6, .slice s.a7 s.n7 s.c7, .slice s.a8 s.n8 s.c8], .int .i64 id] w fun e w' => e = .returned (.int .i64 (fi (fun x => isI x.a id) L)) ∧ Below w.heap.size w w' := by
 have hlen : L.length ≤ 140737488355328 := by have := hL.bd; omega
 obtain ⟨ix, nx, a2, n2, c2, a3, n3, c3, a4, n4, c4, a5, n5, c5, a6, n6, c6, a7, n7, c7, a8, n8, c8⟩ := s
 simp only at hn hL
 subst hn
 have HL := hidOf hL
 clear hL
 go_enter Try.func21, Try.ntmps21
 go_wp2
 go_loop [5] (fun i => ∃ k : Nat, k ≤ L.length ∧ i = .int .i64 k ∧ Hid (sel (fun x : Qd => isI x.a id) L k = [])) (fun i => L.length - (intOf i).toNat)
 case atStart => exact ⟨0, Nat.zero_le _, rfl, hidOf rfl⟩
 case round =>
  obtain ⟨k, hk, rfl, HE⟩ := hrel
  by_cases hlt : k < L.length
  ·obtain ⟨b, off, ha, hbl, hc⟩ := HL.out.at k hlt
   have hbl' : b < w.heap.size := hbl
   clear hbl
   subst ha
   have hx := getD_at L k hlt
   have HYES := hidOf (@sel_yes Qd _ (fun x : Qd => isI x.a id) L k)
   have HNO := hidOf (@sel_no Qd _ (fun x : Qd => isI x.a id) L k)
   rw [hx] at HYES HNO
   clear hx
   generalize L[k] = x at *
   have c0 : w.cell? ⟨b, off + k * 4, none⟩ = some (.int .i64 x.a) := hc 0 _ rfl
   clear hc
   by_cases h : x.a = id
   ·have h2 : (x.a == id) = true := by simp [h]
    have HY := hidOf (fi_hit (x := (k, x)) (show k + 1 ≤ L.length by omega) (by rw [HYES.out (isI_true h), HE.out]; rfl))
    clear h
    go_wp2
    go_ret
    exact ⟨by rw [HY.out]; rfl, below1 _ _⟩
   ·have h2 : (x.a == id) = false := by simp [h]
    have HY := hidOf ((HNO.out (isI_false h)).trans HE.out)
    clear h
    go_wp2
    go_round
    case rel => exact ⟨k + 1, by omega, by go_num, HY⟩
    case measure => simp [intOf]; omega
  ·have hkl : L.length = k := by omega
   have HY := hidOf (fi_nil (by rw [hkl]; exact HE.out))
   have hlt2 : ¬ (k : Int) < (L.length : Int) := by omega
   clear hkl
   go_wp2
   go_ret
   exact ⟨by rw [HY.out]; rfl, below1 _ _⟩
end Go.Proofs.Ytblofbdncolikaa
