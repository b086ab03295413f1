/- Who holds a slot, of the document. -/
import Derived.Test.YtblofbdncolikaaLk
namespace Go.Proofs.Ytblofbdncolikaa
open Go.RowKit Go.Shelf
attribute [local go_sem] Oper.semAt_some
def ovr (s : Int) : Bool := decide (3 ≤ s)
theorem ovr_true {s : Int} (h : 3 ≤ s) : ovr s = true := by simp [ovr, h]
theorem ovr_false {s : Int} (h : ¬ 3 ≤ s) : ovr s = false := by simp [ovr, h]
def slB (jb gr ix : Int) (x : Al) : Bool := isI x.jb jb && (isI x.gr gr && (isI x.ix ix && !ovr x.st))
set_option maxHeartbeats 4000000 in
theorem refSlot_any (s : Sc) (jb gr ixx : Int) (L : List Al) (w : World) (hn : s.n5 = L.length) (hL : Fl w (fun b => b < w.heap.size) 11 88 Al.cs s.a5 L) :
  Calls Try.prog 13 #[.agg #[.int .i64 s.ix, .int .i64 s.nx, .slice s.a2 s.n2 s.c2, .slice s.a3 s.n3 s.c3, .slice s.a4 s.n4 s.c4, .slice s.a5 s.n5 s.c5, .slice s.a6 s.n6 s.c6, .slice s.a7 s.n7 s.c7, .slice s.a8 s.n8 s.c8], .int .i64 jb, .int .i64 gr, .int .i64 ixx] w fun e w' => e = .returned (.int .i64 (fi (slB jb gr ixx) L)) ∧ Below w.heap.size w w' := by
 have hlen : L.length ≤ 140737488355328 := by have := hL.bd; omega
 obtain ⟨ix, nx, a2, n2, c2, a3, n3, c3, a4, n4, c4, a5, n5, c5, a6, n6, c6, a7, n7, c7, a8, n8, c8⟩ := s
 simp only at hn hL
 subst hn
 have hbx := box_new (Below.refl _ (w.alloc (.cells #[.int .i64 ix, .int .i64 nx, .slice a2 n2 c2, .slice a3 n3 c3, .slice a4 n4 c4, .slice a5 L.length c5, .slice a6 n6 c6, .slice a7 n7 c7, .slice a8 n8 c8] 29)))
 have HL := hidOf hL
 clear hL
 go_enter Try.func13, Try.ntmps13
 go_wp2
 go_loopw [9] (fun i wr => ∃ k : Nat, k ≤ L.length ∧ i = .int .i64 k ∧ Hid (sel (slB jb gr ixx) L k = []) ∧ Below (w.heap.size + 1) (w.alloc (.cells #[.int .i64 ix, .int .i64 nx, .slice a2 n2 c2, .slice a3 n3 c3, .slice a4 n4 c4, .slice a5 L.length c5, .slice a6 n6 c6, .slice a7 n7 c7, .slice a8 n8 c8] 29)) wr) (fun i _ => L.length - (intOf i).toNat)
 case atStart => exact ⟨0, Nat.zero_le _, rfl, hidOf rfl, Below.refl _ _⟩
 case round =>
  obtain ⟨k, hk, rfl, HE, hbr⟩ := hrel
  have e5 : wr.cell? ⟨w.heap.size, 5, none⟩ = some (.slice a5 L.length c5) := (hb_cell hbr (by simp)).trans (hbx 5 _ rfl)
  have hsz := hbr.size
  simp only [World.size_alloc] at hsz
  have lw : w.heap.size < wr.heap.size := by omega
  have HBW : Hid (Below w.heap.size w wr) := hidOf ((below1 w _).trans (hbr.mono (by simp)))
  by_cases hlt : k < L.length
  ·obtain ⟨b, off, ha, hbl, hc0⟩ := HL.out.at k hlt
   have hbl' : b < w.heap.size := hbl
   have hbl2 : b < wr.heap.size := by omega
   have hc := range_of hc0 (HBW.out.block b hbl)
   clear hbl hc0
   subst ha
   have hx := getD_at L k hlt
   have HYES := hidOf (@sel_yes Al _ (slB jb gr ixx) L k)
   have HNO := hidOf (@sel_no Al _ (slB jb gr ixx) L k)
   rw [hx] at HYES HNO
   clear hx
   generalize L[k] = x at *
   have c0 : wr.cell? ⟨b, off + k * 11, none⟩ = some (.int .i64 x.id) := hc 0 _ rfl
   have c1 : wr.cell? ⟨b, off + k * 11 + 1, none⟩ = some (.int .i64 x.jb) := hc 1 _ rfl
   have c2 : wr.cell? ⟨b, off + k * 11 + 2, none⟩ = some (.int .i64 x.ve) := hc 2 _ rfl
   have c3 : wr.cell? ⟨b, off + k * 11 + 3, none⟩ = some (.int .i64 x.gr) := hc 3 _ rfl
   have c4 : wr.cell? ⟨b, off + k * 11 + 4, none⟩ = some (.int .i64 x.ix) := hc 4 _ rfl
   have c5 : wr.cell? ⟨b, off + k * 11 + 5, none⟩ = some (.int .i64 x.nd) := hc 5 _ rfl
   have c6 : wr.cell? ⟨b, off + k * 11 + 6, none⟩ = some (.int .i64 x.ep) := hc 6 _ rfl
   have c7 : wr.cell? ⟨b, off + k * 11 + 7, none⟩ = some (.int .i64 x.c) := hc 7 _ rfl
   have c8 : wr.cell? ⟨b, off + k * 11 + 8, none⟩ = some (.int .i64 x.m) := hc 8 _ rfl
   have c9 : wr.cell? ⟨b, off + k * 11 + 9, none⟩ = some (.bool x.sp) := hc 9 _ rfl
   have c10 : wr.cell? ⟨b, off + k * 11 + 10, none⟩ = some (.int .i64 x.st) := hc 10 _ rfl
   have HR := hidOf hbr
   clear hc hbr hsz hbx
   by_cases h1 : x.jb = jb
   ·have b1 : (x.jb == jb) = true := by simp [h1]
    by_cases h2 : x.gr = gr
    ·have b2 : (x.gr == gr) = true := by simp [h2]
     by_cases h3 : x.ix = ixx
     ·have b3 : (x.ix == ixx) = true := by simp [h3]
      by_cases h4 : x.st < 3
      ·have HY := hidOf (fi_hit (x := (k, x)) (show k + 1 ≤ L.length by omega) (by rw [HYES.out (by rw [slB, isI_true h1, isI_true h2, isI_true h3, ovr_false (by omega)]; rfl), HE.out]; rfl))
       clear h1 h2 h3 HYES HNO
       go_wp2
       go_ret
       exact ⟨by rw [HY.out]; rfl, HBW.out.trans ((below1 wr _).mono HBW.out.size)⟩
      ·have HY := hidOf ((HNO.out (by rw [slB, isI_true h1, isI_true h2, isI_true h3, ovr_true (by omega)]; rfl)).trans HE.out)
       clear h1 h2 h3 HYES HNO
       go_wp2
       go_roundw
       case rel => exact ⟨k + 1, by omega, by go_num, HY, HR.out.alloc (by omega) _⟩
       case measure => simp [intOf]; omega
     ·have b3 : (x.ix == ixx) = false := by simp [h3]
      have HY := hidOf ((HNO.out (by rw [slB, isI_true h1, isI_true h2, isI_false h3]; rfl)).trans HE.out)
      clear h1 h2 h3 HYES HNO
      go_wp2
      go_roundw
      case rel => exact ⟨k + 1, by omega, by go_num, HY, HR.out.alloc (by omega) _⟩
      case measure => simp [intOf]; omega
    ·have b2 : (x.gr == gr) = false := by simp [h2]
     have HY := hidOf ((HNO.out (by rw [slB, isI_true h1, isI_false h2]; rfl)).trans HE.out)
     clear h1 h2 HYES HNO
     go_wp2
     go_roundw
     case rel => exact ⟨k + 1, by omega, by go_num, HY, HR.out.alloc (by omega) _⟩
     case measure => simp [intOf]; omega
   ·have b1 : (x.jb == jb) = false := by simp [h1]
    have HY := hidOf ((HNO.out (by rw [slB, isI_false h1]; rfl)).trans HE.out)
    clear h1 HYES HNO
    go_wp2
    go_roundw
    case rel => exact ⟨k + 1, by omega, by go_num, HY, HR.out.alloc (by omega) _⟩
    case measure => simp [intOf]; omega
  ·have hkl : L.length = k := by omega
   have HY := hidOf (fi_nil (by rw [hkl]; exact HE.out))
   have hlt2 : ¬ (k : Int) < (L.length : Int) := by omega
   clear hkl
   go_wp2
   go_ret
   exact ⟨by rw [HY.out]; rfl, HBW.out⟩
end Go.Proofs.Ytblofbdncolikaa
