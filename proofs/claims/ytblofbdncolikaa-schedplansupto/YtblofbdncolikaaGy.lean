/- Several texts in one (wip/gen/group.py). -/
import Derived.Test.YtblofbdncolikaaGx
/- The document's slots: in, Slots. -/
namespace Go.Proofs.Ytblofbdncolikaa
open Go.RowKit Go.Shelf
def sC (x : Int × Int) : List Value := [.int .i64 x.1, .int .i64 x.2]
theorem sC_len (x : Int × Int) : (sC x).length = 2 := rfl
theorem sC_one (x : Int × Int) : ∀ u ∈ sC x, u.oneCell' = true := by intro u hu; simp [sC] at hu; rcases hu with rfl | rfl <;> rfl
theorem info40 : (Try.prog.info? 67).map (fun i => (i.zero, i.size, i.bytes)) = some (some (.agg #[.int .i64 0, .int .i64 0]), 2, 16) := by kernel_rfl
set_option maxRecDepth 100000 in
set_option maxHeartbeats 1000000 in
theorem in_any (L : List Int) (a : Option Addr) (cap : Nat) (z : Int) (w : World) (hL : Fl w (fun b => b < w.heap.size) 1 8 iC a L) :
  Calls Try.prog 41 #[.slice a L.length cap, .int .i64 z] w fun e w' => e = .returned (.bool (decide (z ∈ L))) ∧ Below w.heap.size w w' := by
 have hbd := hL.bd
 have HL := hidOf hL
 clear hL
 go_enter Try.func41, Try.ntmps41
 go_wp2
 go_loopw [5] (fun i wr => ∃ k : Nat, k ≤ L.length ∧ i = .int .i64 k ∧ Hid (z ∉ L.take k) ∧ wr = w) (fun i _ => L.length - (intOf i).toNat)
 case atStart => exact ⟨0, Nat.zero_le _, rfl, hidOf (by simp), rfl⟩
 case round =>
  obtain ⟨k, hk, rfl, HN, rfl⟩ := hrel
  by_cases hlt : k < L.length
  ·obtain ⟨b, off, ha, hQb, hcc⟩ := HL.out.at k hlt
   have hbl : b < wr.heap.size := hQb
   have HTK := hidOf (take_snoc L k hlt)
   have HIN := hidOf (List.getElem_mem hlt)
   obtain ⟨x, hx⟩ : ∃ x, L[k] = x := ⟨_, rfl⟩
   rw [hx] at hcc HTK HIN
   clear hx
   subst ha
   have c0 : wr.cell? ⟨b, off + k, none⟩ = some (.int .i64 x) := by have := hcc 0 _ rfl; simpa using this
   clear hcc
   by_cases hz : x = z
   ·have hb : (x == z) = true := by simp [hz]
    have HZ := hidOf hz
    clear hz
    go_wp2
    go_ret
    exact ⟨by rw [decide_eq_true (HZ.out ▸ HIN.out)]; rfl, Below.refl _ _⟩
   ·have hb : (x == z) = false := by simp [hz]
    have HZ := hidOf hz
    clear hz
    go_wp2
    go_roundw
    case rel => exact ⟨k + 1, by omega, by simp, hidOf (by rw [HTK.out]; simp; exact ⟨HN.out, fun e => HZ.out e.symm⟩), trivial⟩
    case measure => simp [intOf]; omega
  ·have hkl : k = L.length := by omega
   subst hkl
   go_wp2
   go_ret
   exact ⟨by rw [decide_eq_false (by have := HN.out; simpa using this)]; rfl, Below.refl _ _⟩
theorem newS (w : World) (x : Int × Int) : ∀ (j : Nat) (u : Value), (sC x)[j]? = some u → (w.alloc (.cells #[.int .i64 x.1, .int .i64 x.2] 67)).cell? ((⟨w.heap.size, 0, none⟩ : Addr).add j) = some u := newN w (sC x) 67
theorem slK_len (ixs : Gp → List Int) (G : List Gp) {k n : Nat} (h : k ≤ n) : (slK ixs G k).length ≤ (slK ixs G n).length := (slK_le ixs G h).length_le
set_option maxRecDepth 100000 in
set_option maxHeartbeats 4000000 in
theorem refSlots_c (s : Sc) (d : Jb) (ga : Option Addr) (gc : Nat) (Ln : List Nd) (w : World) (hty : ¬ d.ty = 3) (hsd : d.sd = false) (hG : Fl w (fun b => b < w.heap.size) 3 24 Gp.cs ga d.gs) (hsl : (slV d Ln).length * 16 ≤ 140737488355328) :
  Calls Try.prog 40 #[.agg #[.int .i64 s.ix, .int .i64 s.nx, .slice s.a2 s.n2 s.c2, .slice s.a3 s.n3 s.c3, .slice s.a4 Ln.length s.c4, .slice s.a5 s.n5 s.c5, .slice s.a6 s.n6 s.c6, .slice s.a7 s.n7 s.c7, .slice s.a8 s.n8 s.c8], .agg #[.int .i64 d.id, .int .i64 d.ty, .int .i64 d.pr, .int .i64 d.pa, .slice ga d.gs.length gc, .int .i64 d.ve, .bool d.sd]] w fun e w' => ∃ a' c', e = .returned (.slice a' (slV d Ln).length c') ∧ w'.ownsRow (w.heap.size + 2) 67 2 (.slice a' (slV d Ln).length c') (slV d Ln).length (fl sC (slV d Ln)) ∧ Below w.heap.size w w' := by
 have hbd := hG.bd
 have HV : slV d Ln = slK (fun g => ups (cnN g.n)) d.gs d.gs.length := by unfold slV ixV; rw [if_neg (by rw [hsd]; simp), if_neg hty]
 rw [HV] at hsl ⊢
 clear HV
 obtain ⟨W0, hW0⟩ : ∃ W0, (w.alloc (.cells #[.int .i64 s.ix, .int .i64 s.nx, .slice s.a2 s.n2 s.c2, .slice s.a3 s.n3 s.c3, .slice s.a4 Ln.length s.c4, .slice s.a5 s.n5 s.c5, .slice s.a6 s.n6 s.c6, .slice s.a7 s.n7 s.c7, .slice s.a8 s.n8 s.c8] 29)).alloc (.cells #[.int .i64 d.id, .int .i64 d.ty, .int .i64 d.pr, .int .i64 d.pa, .slice ga d.gs.length gc, .int .i64 d.ve, .bool d.sd] 51) = W0 := ⟨_, rfl⟩
 have hB0 : Below w.heap.size w W0 := by rw [← hW0]; exact below2 _ _ _
 have hz0 : W0.heap.size = w.heap.size + 2 := by rw [← hW0]; simp
 have hj0 : W0.rangeAt (w.heap.size + 1) 0 [.int .i64 d.id, .int .i64 d.ty, .int .i64 d.pr, .int .i64 d.pa, .slice ga d.gs.length gc, .int .i64 d.ve, .bool d.sd] := by rw [← hW0]; exact box_new2 (cs := [.int .i64 d.id, .int .i64 d.ty, .int .i64 d.pr, .int .i64 d.pa, .slice ga d.gs.length gc, .int .i64 d.ve, .bool d.sd]) (t := 51) (Below.refl _ _)
 have ht1 : (d.ty != 3) = true := by simp [hty]
 have ht2 : (d.ty == 3) = false := by simp [hty]
 have HSD := hidOf hsd
 have HTY := hidOf hty
 clear hsd hty
 have HG := hidOf hG
 have HJ := hidOf hj0
 have HB0 := hidOf hB0
 clear hG hj0 hB0
 go_enter Try.func40, Try.ntmps40
 go_wp2
 clear hW0
 go_loopw [6, 5] (fun i o wr => ∃ (g : Nat) (D : List (Int × Int)) (a' : Option Addr) (c' : Nat), g ≤ d.gs.length ∧ i = .int .i64 g ∧ o = .slice a' D.length c' ∧ Hid (D = slK (fun g => ups (cnN g.n)) d.gs g) ∧ Hid (wr.ownsRow W0.heap.size 67 2 (.slice a' D.length c') D.length (fl sC D)) ∧ Hid (Below W0.heap.size W0 wr)) (fun i _ _ => d.gs.length - (intOf i).toNat)
 case atStart => exact ⟨0, [], none, 0, Nat.zero_le _, rfl, rfl, hidOf rfl, hidOf (World.ownsRow_nil _ _ _ _), hidOf (Below.refl _ _)⟩
 case round =>
  obtain ⟨g, D, a', c', hg, rfl, rfl, HD, HO, HB⟩ := hrel
  have hjr := range_of HJ.out (HB.out.block (w.heap.size + 1) (by omega))
  have j1 : wr.cell? ⟨w.heap.size + 1, 1, none⟩ = some (.int .i64 d.ty) := hjr 1 _ rfl
  have j6 : wr.cell? ⟨w.heap.size + 1, 6, none⟩ = some (.bool false) := (hjr 6 _ rfl).trans (by rw [HSD.out])
  have lj : w.heap.size + 1 < wr.heap.size := by have := HB.out.size; omega
  by_cases hlt : g < d.gs.length
  ·obtain ⟨b, off, ha, hQb, hcc⟩ := HG.out.at g hlt
   have hbw : b < w.heap.size := hQb
   have HSL := hidOf (show slK (fun g => ups (cnN g.n)) d.gs (g + 1) = slK (fun g => ups (cnN g.n)) d.gs g ++ (ups (cnN (d.gs[g]?.getD default).n)).map (fun i => ((g : Int), i)) from rfl)
   have HLE := hidOf (slK_len (fun g => ups (cnN g.n)) d.gs (show g + 1 ≤ d.gs.length from hlt))
   rw [gd3 d.gs g hlt] at HSL
   obtain ⟨x, hx⟩ : ∃ x, d.gs[g] = x := ⟨_, rfl⟩
   rw [hx] at hcc HSL
   rw [← HD.out] at HSL
   clear hx
   subst ha
   have j4 : wr.cell? ⟨w.heap.size + 1, 4, none⟩ = some (.slice (some ⟨b, off, none⟩) d.gs.length gc) := hjr 4 _ rfl
   have HC := hidOf hcc
   have hg64 : (g : Int) < (d.gs.length : Int) := by omega
   have hg0 : ¬ ((g : Int) < 0) := by omega
   clear hjr hcc
   have HGB := hidOf (HC.out 0 _ rfl)
   go_wp2
   go_loopw [7, 5] (fun i o wi => ∃ (k : Nat) (E : List (Int × Int)) (a2 : Option Addr) (c2 : Nat), k ≤ cnN x.n ∧ i = .int .i64 k ∧ o = .slice a2 E.length c2 ∧ Hid (E = D ++ (ups k).map (fun i => ((g : Int), i))) ∧ Hid (wi.ownsRow W0.heap.size 67 2 (.slice a2 E.length c2) E.length (fl sC E)) ∧ Hid (Below W0.heap.size W0 wi)) (fun i _ _ => cnN x.n - (intOf i).toNat)
   case atStart => exact ⟨0, D, a', c', Nat.zero_le _, rfl, rfl, hidOf (by simp [ups]), HO, HB⟩
   case round =>
    obtain ⟨k, E, a2, c2, hk, rfl, rfl, HE, HOE, HBE⟩ := hrel
    clear j1 j4 j6 lj
    have hji := range_of HJ.out (HBE.out.block (w.heap.size + 1) (by omega))
    have j4 : wr.cell? ⟨w.heap.size + 1, 4, none⟩ = some (.slice (some ⟨b, off, none⟩) d.gs.length gc) := hji 4 _ rfl
    have hsi := HBE.out.size
    have lj : w.heap.size + 1 < wr.heap.size := by omega
    have lb : b < wr.heap.size := by omega
    have cx : wr.cell? ⟨b, off + g * 3, none⟩ = some (.int .i64 x.n) := (hb_cell HBE.out (by omega)).trans ((hb_cell HB0.out hbw).trans HGB.out)
    clear hji
    by_cases hkl : k < cnN x.n
    ·have h1 : (k : Int) < x.n := by unfold cnN at hkl; omega
     have h2 : (k : Int) < 4 := by unfold cnN at hkl; omega
     have hel : E.length = D.length + k := by rw [HE.out]; simp [ups_len]
     have hle := HLE.out
     rw [HSL.out] at hle
     simp only [List.length_append, List.length_map, ups_len] at hle
     have HHE := hidOf hel
     have HML := hidOf (show E.length + 1 ≤ maxLen by unfold maxLen; omega)
     have HBY := hidOf (show (E.length + 1) * 16 ≤ 140737488355328 by omega)
     have HBS := hidOf (show W0.heap.size ≤ (wr.alloc (.cells #[.int .i64 (g : Int), .int .i64 (k : Int)] 67)).heap.size by simp; omega)
     have HOA := hidOf (own_kept HOE.out (w' := wr.alloc (.cells #[.int .i64 (g : Int), .int .i64 (k : Int)] 67)) (fun b _ hb => (below1 wr _).block b hb))
     have HUP := hidOf (ups_succ k)
     clear hel hle
     go_wp2_with (at_builtin; refine wpList_app1 _ rfl _ _ 64 rfl W0.heap.size 67 _ 2 16 Try.underlying64 info40 rfl (by decide) _ E.length (fl sC E) rfl HOA.out ⟨wr.heap.size, 0, none⟩ 1 (sC ((g : Int), (k : Int))) rfl rfl (newS wr ((g : Int), (k : Int))) (sC_one _) HML.out HBY.out HBS.out ?_; intro a3 c3 w3 hown3 hg3; have HO3 := hidOf hown3; have HG3 := hidOf hg3; clear hown3 hg3)
     have hblk := own_blk2 HOE.out
     go_roundw
     case rel => exact ⟨k + 1, E ++ [((g : Int), (k : Int))], a3, c3, by omega, by simp, by simp, hidOf (by rw [HE.out, HUP.out]; simp), hidOf (by rw [fl_snoc, List.length_append]; exact HO3.out), hidOf ((HBE.out.alloc (by omega) _).grown HG3.out (by simp; omega) (fun q e => (hblk q e).1))⟩
     case measure => simp [intOf]; omega
    ·have hkk : k = cnN x.n := by omega
     have HKK := hidOf hkk
     have HN : Hid (E = slK (fun g => ups (cnN g.n)) d.gs (g + 1)) := hidOf (by rw [HSL.out, HE.out, HKK.out])
     by_cases h1 : (k : Int) < x.n
     ·have h2 : ¬ ((k : Int) < 4) := by unfold cnN at hkk; omega
      clear hkk
      go_wp2
      go_roundw
      case rel => exact ⟨g + 1, E, a2, c2, hlt, by simp, rfl, HN, HOE, HBE⟩
      case measure => simp [intOf]; omega
     ·clear hkk
      go_wp2
      go_roundw
      case rel => exact ⟨g + 1, E, a2, c2, hlt, by simp, rfl, HN, HOE, HBE⟩
      case measure => simp [intOf]; omega
  ·have hge : g = d.gs.length := by omega
   subst hge
   have HDD := HD.out
   subst HDD
   have j4 : wr.cell? ⟨w.heap.size + 1, 4, none⟩ = some (.slice ga d.gs.length gc) := hjr 4 _ rfl
   go_wp2
   go_ret
   exact ⟨a', c', rfl, by rw [← hz0]; exact HO.out, HB0.out.trans (HB.out.mono (by omega))⟩
end Go.Proofs.Ytblofbdncolikaa

/- The document's slots of a system job. -/
namespace Go.Proofs.Ytblofbdncolikaa
open Go.RowKit Go.Shelf
theorem own_apart {w w' : World} {lo lo2 e e2 k k2 n n2 : Nat} {v v2 : Value} {xs xs2 : List Value} (h : w.ownsRow lo e k v n xs) (h2 : w.ownsRow lo2 e2 k2 v2 n2 xs2) (he : e ≠ e2) (hg : w.grownBy w' v2.ownBlock) : w'.ownsRow lo e k v n xs := by
 refine ⟨h.1, ?_⟩
 rcases h.2 with h3 | ⟨g, cap, cur, hv, hl, hgg, rest⟩
 ·exact .inl h3
 ·refine .inr ⟨g, cap, cur, hv, hl, ?_, rest⟩
  refine (hg.block g (heap_lt hgg) (fun e3 => ?_)).trans hgg
  rcases h2.2 with ⟨hv2, _⟩ | ⟨g2, cap2, cur2, hv2, hl2, hgg2, rest2⟩
  ·rw [hv2] at e3; cases e3
  ·rw [hv2] at e3
   cases e3
   rw [hgg] at hgg2
   cases hgg2
   exact he rfl
theorem opK_mono (L : List Nd) {k n : Nat} (h : k ≤ n) : (opK L k).length ≤ (opK L n).length := by
 obtain ⟨e, rfl⟩ := Nat.exists_eq_add_of_le h
 clear h
 induction e with
 | zero => exact Nat.le_refl _
 | succ e ih =>
  refine Nat.le_trans ih ?_
  rw [← Nat.add_assoc, opK]
  split
  ·exact Nat.le_refl _
  ·rw [List.length_append]; omega
set_option maxRecDepth 100000 in
set_option maxHeartbeats 4000000 in
theorem refSlots_o (s : Sc) (d : Jb) (ga : Option Addr) (gc : Nat) (Ln : List Nd) (w : World) (hty : d.ty = 3) (hsd : d.sd = false) (hN : Fl w (fun b => b < w.heap.size) 8 56 Nd.cs s.a4 Ln) (hgl : d.gs.length ≤ 140737488355328) (hsl : (slV d Ln).length * 16 ≤ 140737488355328) :
  Calls Try.prog 40 #[.agg #[.int .i64 s.ix, .int .i64 s.nx, .slice s.a2 s.n2 s.c2, .slice s.a3 s.n3 s.c3, .slice s.a4 Ln.length s.c4, .slice s.a5 s.n5 s.c5, .slice s.a6 s.n6 s.c6, .slice s.a7 s.n7 s.c7, .slice s.a8 s.n8 s.c8], .agg #[.int .i64 d.id, .int .i64 d.ty, .int .i64 d.pr, .int .i64 d.pa, .slice ga d.gs.length gc, .int .i64 d.ve, .bool d.sd]] w fun e w' => ∃ a' c', e = .returned (.slice a' (slV d Ln).length c') ∧ w'.ownsRow (w.heap.size + 2) 67 2 (.slice a' (slV d Ln).length c') (slV d Ln).length (fl sC (slV d Ln)) ∧ Below w.heap.size w w' := by
 have hbd := hN.bd
 have HV : slV d Ln = slK (fun _ => opK Ln Ln.length) d.gs d.gs.length := by unfold slV ixV; rw [if_neg (by rw [hsd]; simp), if_pos hty]
 rw [HV] at hsl ⊢
 clear HV
 obtain ⟨W0, hW0⟩ : ∃ W0, (w.alloc (.cells #[.int .i64 s.ix, .int .i64 s.nx, .slice s.a2 s.n2 s.c2, .slice s.a3 s.n3 s.c3, .slice s.a4 Ln.length s.c4, .slice s.a5 s.n5 s.c5, .slice s.a6 s.n6 s.c6, .slice s.a7 s.n7 s.c7, .slice s.a8 s.n8 s.c8] 29)).alloc (.cells #[.int .i64 d.id, .int .i64 d.ty, .int .i64 d.pr, .int .i64 d.pa, .slice ga d.gs.length gc, .int .i64 d.ve, .bool d.sd] 51) = W0 := ⟨_, rfl⟩
 have hB0 : Below w.heap.size w W0 := by rw [← hW0]; exact below2 _ _ _
 have hz0 : W0.heap.size = w.heap.size + 2 := by rw [← hW0]; simp
 have hj0 : W0.rangeAt (w.heap.size + 1) 0 [.int .i64 d.id, .int .i64 d.ty, .int .i64 d.pr, .int .i64 d.pa, .slice ga d.gs.length gc, .int .i64 d.ve, .bool d.sd] := by rw [← hW0]; exact box_new2 (cs := [.int .i64 d.id, .int .i64 d.ty, .int .i64 d.pr, .int .i64 d.pa, .slice ga d.gs.length gc, .int .i64 d.ve, .bool d.sd]) (t := 51) (Below.refl _ _)
 have hs0 : W0.rangeAt w.heap.size 0 [.int .i64 s.ix, .int .i64 s.nx, .slice s.a2 s.n2 s.c2, .slice s.a3 s.n3 s.c3, .slice s.a4 Ln.length s.c4, .slice s.a5 s.n5 s.c5, .slice s.a6 s.n6 s.c6, .slice s.a7 s.n7 s.c7, .slice s.a8 s.n8 s.c8] := by rw [← hW0]; exact box_new (wr := w) (cs := [.int .i64 s.ix, .int .i64 s.nx, .slice s.a2 s.n2 s.c2, .slice s.a3 s.n3 s.c3, .slice s.a4 Ln.length s.c4, .slice s.a5 s.n5 s.c5, .slice s.a6 s.n6 s.c6, .slice s.a7 s.n7 s.c7, .slice s.a8 s.n8 s.c8]) (t := 29) (below1 _ _)
 have ht1 : (d.ty != 3) = false := by simp [hty]
 have ht2 : (d.ty == 3) = true := by simp [hty]
 have HSD := hidOf hsd
 have HTY := hidOf hty
 clear hsd hty
 have HN0 := hidOf hN
 have HJ := hidOf hj0
 have HS := hidOf hs0
 have HB0 := hidOf hB0
 clear hN hj0 hB0 hs0
 go_enter Try.func40, Try.ntmps40
 go_wp2
 clear hW0
 go_loopw [6, 5] (fun i o wr => ∃ (g : Nat) (D : List (Int × Int)) (a' : Option Addr) (c' : Nat), g ≤ d.gs.length ∧ i = .int .i64 g ∧ o = .slice a' D.length c' ∧ Hid (D = slK (fun _ => opK Ln Ln.length) d.gs g) ∧ Hid (wr.ownsRow W0.heap.size 67 2 (.slice a' D.length c') D.length (fl sC D)) ∧ Hid (Below W0.heap.size W0 wr)) (fun i _ _ => d.gs.length - (intOf i).toNat)
 case atStart => exact ⟨0, [], none, 0, Nat.zero_le _, rfl, rfl, hidOf rfl, hidOf (World.ownsRow_nil _ _ _ _), hidOf (Below.refl _ _)⟩
 case round =>
  obtain ⟨g, D, a', c', hg, rfl, rfl, HD, HO, HB⟩ := hrel
  have hjr := range_of HJ.out (HB.out.block (w.heap.size + 1) (by omega))
  have j1 : wr.cell? ⟨w.heap.size + 1, 1, none⟩ = some (.int .i64 d.ty) := hjr 1 _ rfl
  have j6 : wr.cell? ⟨w.heap.size + 1, 6, none⟩ = some (.bool false) := (hjr 6 _ rfl).trans (by rw [HSD.out])
  have j4 : wr.cell? ⟨w.heap.size + 1, 4, none⟩ = some (.slice ga d.gs.length gc) := hjr 4 _ rfl
  have lj : w.heap.size + 1 < wr.heap.size := by have := HB.out.size; omega
  clear hjr
  by_cases hlt : g < d.gs.length
  ·have HSL := hidOf (show slK (fun _ => opK Ln Ln.length) d.gs (g + 1) = slK (fun _ => opK Ln Ln.length) d.gs g ++ (opK Ln Ln.length).map (fun i => ((g : Int), i)) from rfl)
   have HLE := hidOf (slK_len (fun _ => opK Ln Ln.length) d.gs (show g + 1 ≤ d.gs.length from hlt))
   rw [← HD.out] at HSL
   go_wp2
   go_loopw [9, 8, 5] (fun i h o wi => ∃ (k : Nat) (H : List Int) (E : List (Int × Int)) (a1 : Option Addr) (c1 : Nat) (a2 : Option Addr) (c2 : Nat), k ≤ Ln.length ∧ i = .int .i64 k ∧ h = .slice a1 H.length c1 ∧ o = .slice a2 E.length c2 ∧ Hid (H = opK Ln k) ∧ Hid (E = D ++ H.map (fun i => ((g : Int), i))) ∧ Hid (wi.ownsRow W0.heap.size 3 1 (.slice a1 H.length c1) H.length (fl iC H)) ∧ Hid (wi.ownsRow W0.heap.size 67 2 (.slice a2 E.length c2) E.length (fl sC E)) ∧ Hid (Below W0.heap.size W0 wi)) (fun i _ _ _ => Ln.length - (intOf i).toNat)
   case atStart => exact ⟨0, [], D, none, 0, a', c', Nat.zero_le _, rfl, rfl, rfl, hidOf rfl, hidOf (by simp), hidOf (World.ownsRow_nil _ _ _ _), HO, HB⟩
   case round =>
    obtain ⟨k, H, E, a1, c1, a2, c2, hk, rfl, rfl, rfl, HH, HE, HOH, HOE, HBE⟩ := hrel
    clear j1 j4 j6 lj
    have hsr := range_of HS.out (HBE.out.block w.heap.size (by omega))
    have hsi := HBE.out.size
    have lj : w.heap.size < wr.heap.size := by omega
    by_cases hkl : k < Ln.length
    ·obtain ⟨b, off, ha, hQb, hcc⟩ := HN0.out.at k hkl
     have hbw : b < w.heap.size := hQb
     obtain ⟨x, hx⟩ : ∃ x, Ln[k] = x := ⟨_, rfl⟩
     have HOP := hidOf (opK_at Ln k x H HH.out hkl hx)
     rw [hx] at hcc
     clear hx
     have hcr := range_of hcc ((HBE.out.block b (by omega)).trans (HB0.out.block b hbw))
     have s4 : wr.cell? ⟨w.heap.size, 4, none⟩ = some (.slice (some ⟨b, off, none⟩) Ln.length s.c4) := (hsr 4 _ rfl).trans (by rw [ha])
     have lb : b < wr.heap.size := by omega
     have q0 : wr.cell? ⟨b, off + k * 8, none⟩ = some (.int .i64 x.id) := hcr 0 _ rfl
     have q1 : wr.cell? ⟨b, off + k * 8 + 1, none⟩ = some (.int .i64 x.c) := hcr 1 _ rfl
     have q2 : wr.cell? ⟨b, off + k * 8 + 2, none⟩ = some (.int .i64 x.m) := hcr 2 _ rfl
     have q3 : wr.cell? ⟨b, off + k * 8 + 3, none⟩ = some (.bool x.up) := hcr 3 _ rfl
     have q4 : wr.cell? ⟨b, off + k * 8 + 4, none⟩ = some (.bool x.dr) := hcr 4 _ rfl
     have q5 : wr.cell? ⟨b, off + k * 8 + 5, none⟩ = some (.int .i64 x.bo) := hcr 5 _ rfl
     have q6 : wr.cell? ⟨b, off + k * 8 + 6, none⟩ = some (.int .i64 x.ep) := hcr 6 _ rfl
     have q7 : wr.cell? ⟨b, off + k * 8 + 7, none⟩ = some (.int .i64 x.se) := hcr 7 _ rfl
     clear hcc hcr hsr ha
     have hk0 : ¬ ((k : Int) < 0) := by omega
     have hk1 : (k : Int) < (Ln.length : Int) := by omega
     have hhl : H.length ≤ k := by rw [HH.out]; exact opK_len Ln k
     have HIN := hidOf (in_any H a1 c1 x.id (wr.alloc (.cells #[.int .i64 x.id, .int .i64 x.c, .int .i64 x.m, .bool x.up, .bool x.dr, .int .i64 x.bo, .int .i64 x.ep, .int .i64 x.se] 46)) (by
      have h1 := own_fl (y := 8) iC_len HOH.out (by omega)
      exact h1.kept (fun b hb => (below1 wr _).block b hb.lt) (fun b hb => by have := hb.lt; simp; omega)))
     cases hup : x.up with
     | false =>
      rw [hup] at q3 HIN
      have HN : Hid (H = opK Ln (k + 1)) := hidOf (by rw [HOP.out, if_pos (.inr (.inl hup))])
      clear hup
      go_wp2_with (go_at_call 41; refine HIN.out.mono ?_; rintro e w2 ⟨rfl, hb⟩; have HBZ := hidOf ((below1 wr _).trans (hb.mono (by simp))); have hbx := box_new (wr := wr) (cs := [.int .i64 x.id, .int .i64 x.c, .int .i64 x.m, .bool false, .bool x.dr, .int .i64 x.bo, .int .i64 x.ep, .int .i64 x.se]) (t := 46) hb; have d0 : w2.cell? ⟨wr.heap.size, 0, none⟩ = some (.int .i64 x.id) := hbx 0 _ rfl; have d3 : w2.cell? ⟨wr.heap.size, 3, none⟩ = some (.bool false) := hbx 3 _ rfl; have d4 : w2.cell? ⟨wr.heap.size, 4, none⟩ = some (.bool x.dr) := hbx 4 _ rfl; have lx : wr.heap.size < w2.heap.size := lt_of_cell d0; clear hb hbx)
      go_roundw
      case rel => exact ⟨k + 1, H, E, a1, c1, a2, c2, by omega, by simp, rfl, rfl, HN, HE, hidOf (own_kept HOH.out (fun b _ hb => HBZ.out.block b hb)), hidOf (own_kept HOE.out (fun b _ hb => HBZ.out.block b hb)), hidOf (HBE.out.trans (HBZ.out.mono HBE.out.size))⟩
      case measure => simp [intOf]; omega
     | true =>
      rw [hup] at q3 HIN
      cases hdr : x.dr with
      | true =>
       rw [hdr] at q4 HIN
       have HN : Hid (H = opK Ln (k + 1)) := hidOf (by rw [HOP.out, if_pos (.inr (.inr hdr))])
       clear hup hdr
       go_wp2_with (go_at_call 41; refine HIN.out.mono ?_; rintro e w2 ⟨rfl, hb⟩; have HBZ := hidOf ((below1 wr _).trans (hb.mono (by simp))); have hbx := box_new (wr := wr) (cs := [.int .i64 x.id, .int .i64 x.c, .int .i64 x.m, .bool true, .bool true, .int .i64 x.bo, .int .i64 x.ep, .int .i64 x.se]) (t := 46) hb; have d0 : w2.cell? ⟨wr.heap.size, 0, none⟩ = some (.int .i64 x.id) := hbx 0 _ rfl; have d3 : w2.cell? ⟨wr.heap.size, 3, none⟩ = some (.bool true) := hbx 3 _ rfl; have d4 : w2.cell? ⟨wr.heap.size, 4, none⟩ = some (.bool true) := hbx 4 _ rfl; have lx : wr.heap.size < w2.heap.size := lt_of_cell d0; clear hb hbx)
       go_roundw
       case rel => exact ⟨k + 1, H, E, a1, c1, a2, c2, by omega, by simp, rfl, rfl, HN, HE, hidOf (own_kept HOH.out (fun b _ hb => HBZ.out.block b hb)), hidOf (own_kept HOE.out (fun b _ hb => HBZ.out.block b hb)), hidOf (HBE.out.trans (HBZ.out.mono HBE.out.size))⟩
       case measure => simp [intOf]; omega
      | false =>
       rw [hdr] at q4 HIN
       by_cases hm : x.id ∈ H
       ·rw [decide_eq_true hm] at HIN
        have HN : Hid (H = opK Ln (k + 1)) := hidOf (by rw [HOP.out, if_pos (.inl hm)])
        clear hup hdr
        go_wp2_with (go_at_call 41; refine HIN.out.mono ?_; rintro e w2 ⟨rfl, hb⟩; have HBZ := hidOf ((below1 wr _).trans (hb.mono (by simp))); have hbx := box_new (wr := wr) (cs := [.int .i64 x.id, .int .i64 x.c, .int .i64 x.m, .bool true, .bool false, .int .i64 x.bo, .int .i64 x.ep, .int .i64 x.se]) (t := 46) hb; have d0 : w2.cell? ⟨wr.heap.size, 0, none⟩ = some (.int .i64 x.id) := hbx 0 _ rfl; have d3 : w2.cell? ⟨wr.heap.size, 3, none⟩ = some (.bool true) := hbx 3 _ rfl; have d4 : w2.cell? ⟨wr.heap.size, 4, none⟩ = some (.bool false) := hbx 4 _ rfl; have lx : wr.heap.size < w2.heap.size := lt_of_cell d0; clear hb hbx)
        go_roundw
        case rel => exact ⟨k + 1, H, E, a1, c1, a2, c2, by omega, by simp, rfl, rfl, HN, HE, hidOf (own_kept HOH.out (fun b _ hb => HBZ.out.block b hb)), hidOf (own_kept HOE.out (fun b _ hb => HBZ.out.block b hb)), hidOf (HBE.out.trans (HBZ.out.mono HBE.out.size))⟩
        case measure => simp [intOf]; omega
       ·rw [decide_eq_false hm] at HIN
        have HN : Hid (H ++ [x.id] = opK Ln (k + 1)) := hidOf (by rw [HOP.out, if_neg (by rw [hup, hdr]; simp [hm])])
        have hll : (opK Ln (k + 1)).length ≤ (opK Ln Ln.length).length := opK_mono Ln (by omega)
        have hle := HLE.out
        rw [HSL.out] at hle
        rw [← HN.out] at hll
        simp only [List.length_append, List.length_map, List.length_singleton] at hle hll
        have hel : E.length = D.length + H.length := by rw [HE.out]; simp
        have HM1 := hidOf (show H.length + 1 ≤ maxLen by unfold maxLen; omega)
        have HY1 := hidOf (show (H.length + 1) * 8 ≤ 140737488355328 by omega)
        have HM2 := hidOf (show E.length + 1 ≤ maxLen by unfold maxLen; omega)
        have HY2 := hidOf (show (E.length + 1) * 16 ≤ 140737488355328 by omega)
        have hb1 := own_blk2 HOH.out
        have hb2 := own_blk2 HOE.out
        clear hup hdr hle hll hel
        go_wp2_with (first | (go_at_call 41; refine HIN.out.mono ?_; rintro e w2 ⟨rfl, hb⟩; have HBZ := hidOf ((below1 wr _).trans (hb.mono (by simp))); have hbx := box_new (wr := wr) (cs := [.int .i64 x.id, .int .i64 x.c, .int .i64 x.m, .bool true, .bool false, .int .i64 x.bo, .int .i64 x.ep, .int .i64 x.se]) (t := 46) hb; have d0 : w2.cell? ⟨wr.heap.size, 0, none⟩ = some (.int .i64 x.id) := hbx 0 _ rfl; have d3 : w2.cell? ⟨wr.heap.size, 3, none⟩ = some (.bool true) := hbx 3 _ rfl; have d4 : w2.cell? ⟨wr.heap.size, 4, none⟩ = some (.bool false) := hbx 4 _ rfl; have lx : wr.heap.size < w2.heap.size := lt_of_cell d0; clear hb hbx) | (at_builtin; refine wpList_app1 _ rfl _ _ 33 rfl W0.heap.size 3 _ 1 8 Try.underlying33 info3 rfl (by decide) _ H.length (fl iC H) rfl (own_kept HOH.out (fun b _ hb => ((HBZ.out.trans ((below1 w2 (.cells #[.int .i64 x.id] 3)).mono HBZ.out.size)).block b hb))) ⟨w2.heap.size, 0, none⟩ 1 (iC x.id) rfl rfl (new1 w2 x.id) (iC_one _) HM1.out HY1.out (by have := HBZ.out.size; simp; omega) ?_; intro a3 c3 w3 hown3 hg3; have HO3 := hidOf hown3; have HG3 := hidOf hg3; have HE3 := hidOf (own_apart (own_kept HOE.out (fun b _ hb => ((HBZ.out.trans ((below1 w2 (.cells #[.int .i64 x.id] 3)).mono HBZ.out.size)).block b hb))) (own_kept HOH.out (fun b _ hb => ((HBZ.out.trans ((below1 w2 (.cells #[.int .i64 x.id] 3)).mono HBZ.out.size)).block b hb))) (by decide) hg3); have hs3 := hg3.size; simp only [World.size_alloc] at hs3; have e0 : w3.cell? ⟨wr.heap.size, 0, none⟩ = some (.int .i64 x.id) := ((World.cell?_of_block (hg3.block wr.heap.size (by simp; omega) (fun e => by have := (hb1 _ e.symm).2; omega))).trans ((hb_cell (below1 w2 _) lx).trans d0)); have lx3 : wr.heap.size < w3.heap.size := lt_of_cell e0; clear hown3 hg3 hs3 d0 d3 d4) | (at_builtin; refine wpList_app1 _ rfl _ _ 64 rfl W0.heap.size 67 _ 2 16 Try.underlying64 info40 rfl (by decide) _ E.length (fl sC E) rfl (own_kept HE3.out (fun b _ hb => (below1 w3 (.cells #[.int .i64 (g : Int), .int .i64 x.id] 67)).block b hb)) ⟨w3.heap.size, 0, none⟩ 1 (sC ((g : Int), x.id)) rfl rfl (newS w3 ((g : Int), x.id)) (sC_one _) HM2.out HY2.out (by have := HBZ.out.size; simp; omega) ?_; intro a4 c4 w4 hown4 hg4; have HO4 := hidOf hown4; have HG4 := hidOf hg4; clear hown4 hg4))
        have hz1 := HBZ.out.size
        have hz3 := HG3.out.size
        have hz4 := HG4.out.size
        simp only [World.size_alloc] at hz3 hz4
        have hH4 := own_apart (own_kept HO3.out (w' := w3.alloc (.cells #[.int .i64 (g : Int), .int .i64 x.id] 67)) (fun b _ hb => (below1 w3 _).block b hb)) (own_kept HE3.out (fun b _ hb => (below1 w3 _).block b hb)) (by decide) HG4.out
        go_roundw
        case rel => exact ⟨k + 1, H ++ [x.id], E ++ [((g : Int), x.id)], a3, c3, a4, c4, by omega, by simp, by simp, by simp, HN, hidOf (by rw [HE.out]; simp), hidOf (by rw [fl_snoc, List.length_append]; exact hH4), hidOf (by rw [fl_snoc, List.length_append]; exact HO4.out), hidOf (((((HBE.out.trans (HBZ.out.mono HBE.out.size)).alloc (by omega) _).grown HG3.out (by simp; omega) (fun q e => (hb1 q e).1)).alloc (by omega) _).grown HG4.out (by simp; omega) (fun q e => (hb2 q e).1))⟩
        case measure => simp [intOf]; omega
    ·have hkk : k = Ln.length := by omega
     have HKK := hidOf hkk
     have HN : Hid (E = slK (fun _ => opK Ln Ln.length) d.gs (g + 1)) := hidOf (by rw [HSL.out, HE.out, HH.out, HKK.out])
     clear hkk
     have s4 : wr.cell? ⟨w.heap.size, 4, none⟩ = some (.slice s.a4 Ln.length s.c4) := hsr 4 _ rfl
     have hk1 : ¬ (k : Int) < (Ln.length : Int) := by omega
     clear hsr
     go_wp2
     go_roundw
     case rel => exact ⟨g + 1, E, a2, c2, hlt, by simp, rfl, HN, HOE, HBE⟩
     case measure => simp [intOf]; omega
  ·have hge : g = d.gs.length := by omega
   subst hge
   have HDD := HD.out
   subst HDD
   go_wp2
   go_ret
   exact ⟨a', c', rfl, by rw [← hz0]; exact HO.out, HB0.out.trans (HB.out.mono (by omega))⟩
end Go.Proofs.Ytblofbdncolikaa

/- The document's slots of any job. -/
namespace Go.Proofs.Ytblofbdncolikaa
open Go.RowKit Go.Shelf
set_option maxRecDepth 100000 in
set_option maxHeartbeats 4000000 in
theorem refSlots_s (s : Sc) (d : Jb) (ga : Option Addr) (gc : Nat) (Ln : List Nd) (w : World) (hsd : d.sd = true) :
  Calls Try.prog 40 #[.agg #[.int .i64 s.ix, .int .i64 s.nx, .slice s.a2 s.n2 s.c2, .slice s.a3 s.n3 s.c3, .slice s.a4 Ln.length s.c4, .slice s.a5 s.n5 s.c5, .slice s.a6 s.n6 s.c6, .slice s.a7 s.n7 s.c7, .slice s.a8 s.n8 s.c8], .agg #[.int .i64 d.id, .int .i64 d.ty, .int .i64 d.pr, .int .i64 d.pa, .slice ga d.gs.length gc, .int .i64 d.ve, .bool d.sd]] w fun e w' => ∃ a' c', e = .returned (.slice a' (slV d Ln).length c') ∧ w'.ownsRow (w.heap.size + 2) 67 2 (.slice a' (slV d Ln).length c') (slV d Ln).length (fl sC (slV d Ln)) ∧ Below w.heap.size w w' := by
 have HV : slV d Ln = [] := by unfold slV; rw [if_pos hsd]
 rw [HV]
 clear HV
 obtain ⟨W0, hW0⟩ : ∃ W0, (w.alloc (.cells #[.int .i64 s.ix, .int .i64 s.nx, .slice s.a2 s.n2 s.c2, .slice s.a3 s.n3 s.c3, .slice s.a4 Ln.length s.c4, .slice s.a5 s.n5 s.c5, .slice s.a6 s.n6 s.c6, .slice s.a7 s.n7 s.c7, .slice s.a8 s.n8 s.c8] 29)).alloc (.cells #[.int .i64 d.id, .int .i64 d.ty, .int .i64 d.pr, .int .i64 d.pa, .slice ga d.gs.length gc, .int .i64 d.ve, .bool d.sd] 51) = W0 := ⟨_, rfl⟩
 have hB0 : Below w.heap.size w W0 := by rw [← hW0]; exact below2 _ _ _
 have hz0 : W0.heap.size = w.heap.size + 2 := by rw [← hW0]; simp
 have hj0 : W0.rangeAt (w.heap.size + 1) 0 [.int .i64 d.id, .int .i64 d.ty, .int .i64 d.pr, .int .i64 d.pa, .slice ga d.gs.length gc, .int .i64 d.ve, .bool d.sd] := by rw [← hW0]; exact box_new2 (cs := [.int .i64 d.id, .int .i64 d.ty, .int .i64 d.pr, .int .i64 d.pa, .slice ga d.gs.length gc, .int .i64 d.ve, .bool d.sd]) (t := 51) (Below.refl _ _)
 have HSD := hidOf hsd
 clear hsd
 go_enter Try.func40, Try.ntmps40
 go_wp2
 clear hW0
 go_loopw [6, 5] (fun i o wr => i = .int .i64 0 ∧ o = .slice none 0 0 ∧ wr = W0) (fun _ _ _ => 0)
 case atStart => exact ⟨rfl, rfl, rfl⟩
 case round =>
  obtain ⟨rfl, rfl, rfl⟩ := hrel
  have j4 : wr.cell? ⟨w.heap.size + 1, 4, none⟩ = some (.slice ga d.gs.length gc) := hj0 4 _ rfl
  have j6 : wr.cell? ⟨w.heap.size + 1, 6, none⟩ = some (.bool true) := (hj0 6 _ rfl).trans (by rw [HSD.out])
  have lj : w.heap.size + 1 < wr.heap.size := by omega
  by_cases h : (0 : Int) < (d.gs.length : Int)
  ·go_wp2
   go_ret
   exact ⟨none, 0, rfl, World.ownsRow_nil _ _ _ _, hB0⟩
  ·go_wp2
   go_ret
   exact ⟨none, 0, rfl, World.ownsRow_nil _ _ _ _, hB0⟩
theorem refSlots_any (s : Sc) (d : Jb) (ga : Option Addr) (gc : Nat) (Ln : List Nd) (w : World) (hN : Fl w (fun b => b < w.heap.size) 8 56 Nd.cs s.a4 Ln) (hG : Fl w (fun b => b < w.heap.size) 3 24 Gp.cs ga d.gs) (hsl : (slV d Ln).length * 16 ≤ 140737488355328) :
  Calls Try.prog 40 #[.agg #[.int .i64 s.ix, .int .i64 s.nx, .slice s.a2 s.n2 s.c2, .slice s.a3 s.n3 s.c3, .slice s.a4 Ln.length s.c4, .slice s.a5 s.n5 s.c5, .slice s.a6 s.n6 s.c6, .slice s.a7 s.n7 s.c7, .slice s.a8 s.n8 s.c8], .agg #[.int .i64 d.id, .int .i64 d.ty, .int .i64 d.pr, .int .i64 d.pa, .slice ga d.gs.length gc, .int .i64 d.ve, .bool d.sd]] w fun e w' => ∃ a' c', e = .returned (.slice a' (slV d Ln).length c') ∧ w'.ownsRow (w.heap.size + 2) 67 2 (.slice a' (slV d Ln).length c') (slV d Ln).length (fl sC (slV d Ln)) ∧ Below w.heap.size w w' := by
 cases hsd : d.sd with
 | true => have := refSlots_s s d ga gc Ln w hsd; rw [hsd] at this; exact this
 | false =>
  by_cases hty : d.ty = 3
  ·have := refSlots_o s d ga gc Ln w hty hsd hN (by have := hG.bd; omega) hsl; rw [hsd] at this; exact this
  ·have := refSlots_c s d ga gc Ln w hty hsd hG hsl; rw [hsd] at this; exact this
end Go.Proofs.Ytblofbdncolikaa
