/- The document's slots: in, Slots. -/
import Derived.Test.YtaaodmagchpnbaaXy
namespace Go.Proofs.Ytaaodmagchpnbaa
open Go.RowKit Go.Shelf
def sC (x : Int × Int) : List Value := [.int .i64 x.1, .int .i64 x.2]
theorem sC_len (x : Int × Int) : (sC x).length = 2 := rfl
theorem sC_one (x : Int × Int) : ∀ u ∈ sC x, u.oneCell' = true := by intro u hu; simp [sC] at hu; rcases hu with rfl | rfl <;> rfl
theorem info40 : (Try.prog.info? 40).map (fun i => (i.zero, i.size, i.bytes)) = some (some (.agg #[.int .i64 0, .int .i64 0]), 2, 16) := by kernel_rfl
set_option maxRecDepth 100000 in
set_option maxHeartbeats 1000000 in
theorem in_any (L : List Int) (a : Option Addr) (cap : Nat) (z : Int) (w : World) (hL : Fl w (fun b => b < w.heap.size) 1 8 iC a L) :
    Calls Try.prog 25 #[.slice a L.length cap, .int .i64 z] w fun e w' => e = .returned (.bool (decide (z ∈ L))) ∧ Below w.heap.size w w' := by
  have hbd := hL.bd
  have HL := hidOf hL
  clear hL
  go_enter Try.func25, Try.ntmps25
  go_wp2
  go_loopw [5] (fun i wr => ∃ k : Nat, k ≤ L.length ∧ i = .int .i64 k ∧ Hid (z ∉ L.take k) ∧ wr = w) (fun i _ => L.length - (intOf i).toNat)
  case atStart => exact ⟨0, Nat.zero_le _, rfl, hidOf (by simp), rfl⟩
  case round =>
    obtain ⟨k, hk, rfl, HN, rfl⟩ := hrel
    by_cases hlt : k < L.length
    · obtain ⟨b, off, ha, hQb, hcc⟩ := HL.out.at k hlt
      have hbl : b < wr.heap.size := hQb
      have HTK := hidOf (take_snoc L k hlt)
      have HIN := hidOf (List.getElem_mem hlt)
      obtain ⟨x, hx⟩ : ∃ x, L[k] = x := ⟨_, rfl⟩
      rw [hx] at hcc HTK HIN
      clear hx
      subst ha
      have c0 : wr.cell? ⟨b, off + k, none⟩ = some (.int .i64 x) := by have := hcc 0 _ rfl; simpa using this
      clear hcc
      by_cases hz : x = z
      · have hb : (x == z) = true := by simp [hz]
        have HZ := hidOf hz
        clear hz
        go_wp2
        go_ret
        exact ⟨by rw [decide_eq_true (HZ.out ▸ HIN.out)]; rfl, Below.refl _ _⟩
      · have hb : (x == z) = false := by simp [hz]
        have HZ := hidOf hz
        clear hz
        go_wp2
        go_roundw
        case rel => exact ⟨k + 1, by omega, by simp, hidOf (by rw [HTK.out]; simp; exact ⟨HN.out, fun e => HZ.out e.symm⟩), trivial⟩
        case measure => simp [intOf]; omega
    · have hkl : k = L.length := by omega
      subst hkl
      go_wp2
      go_ret
      exact ⟨by rw [decide_eq_false (by have := HN.out; simpa using this)]; rfl, Below.refl _ _⟩
theorem newS (w : World) (x : Int × Int) : ∀ (j : Nat) (u : Value), (sC x)[j]? = some u → (w.alloc (.cells #[.int .i64 x.1, .int .i64 x.2] 40)).cell? ((⟨w.heap.size, 0, none⟩ : Addr).add j) = some u := newN w (sC x) 40
theorem slK_len (ixs : Gp → List Int) (G : List Gp) {k n : Nat} (h : k ≤ n) : (slK ixs G k).length ≤ (slK ixs G n).length := (slK_le ixs G h).length_le
set_option maxRecDepth 100000 in
set_option maxHeartbeats 4000000 in
theorem refSlots_c (s : Sc) (d : Jb) (ga : Option Addr) (gc : Nat) (Ln : List Nd) (w : World) (hty : ¬ d.ty = 3) (hsd : d.sd = false) (hG : Fl w (fun b => b < w.heap.size) 3 24 Gp.cs ga d.gs) (hsl : (slV d Ln).length * 16 ≤ 140737488355328) :
    Calls Try.prog 15 #[.agg #[.int .i64 s.ix, .int .i64 s.nx, .slice s.a2 s.n2 s.c2, .slice s.a3 s.n3 s.c3, .slice s.a4 Ln.length s.c4, .slice s.a5 s.n5 s.c5, .slice s.a6 s.n6 s.c6, .slice s.a7 s.n7 s.c7, .slice s.a8 s.n8 s.c8], .agg #[.int .i64 d.id, .int .i64 d.ty, .int .i64 d.pr, .int .i64 d.pa, .slice ga d.gs.length gc, .int .i64 d.ve, .bool d.sd]] w fun e w' => ∃ a' c', e = .returned (.slice a' (slV d Ln).length c') ∧ w'.ownsRow (w.heap.size + 2) 40 2 (.slice a' (slV d Ln).length c') (slV d Ln).length (fl sC (slV d Ln)) ∧ Below w.heap.size w w' := by
  have hbd := hG.bd
  have HV : slV d Ln = slK (fun g => ups (cnN g.n)) d.gs d.gs.length := by unfold slV ixV; rw [if_neg (by rw [hsd]; simp), if_neg hty]
  rw [HV] at hsl ⊢
  clear HV
  obtain ⟨W0, hW0⟩ : ∃ W0, (w.alloc (.cells #[.int .i64 s.ix, .int .i64 s.nx, .slice s.a2 s.n2 s.c2, .slice s.a3 s.n3 s.c3, .slice s.a4 Ln.length s.c4, .slice s.a5 s.n5 s.c5, .slice s.a6 s.n6 s.c6, .slice s.a7 s.n7 s.c7, .slice s.a8 s.n8 s.c8] 29)).alloc (.cells #[.int .i64 d.id, .int .i64 d.ty, .int .i64 d.pr, .int .i64 d.pa, .slice ga d.gs.length gc, .int .i64 d.ve, .bool d.sd] 51) = W0 := ⟨_, rfl⟩
  have hB0 : Below w.heap.size w W0 := by rw [← hW0]; exact below2 _ _ _
  have hz0 : W0.heap.size = w.heap.size + 2 := by rw [← hW0]; simp
  have hj0 : W0.rangeAt (w.heap.size + 1) 0 [.int .i64 d.id, .int .i64 d.ty, .int .i64 d.pr, .int .i64 d.pa, .slice ga d.gs.length gc, .int .i64 d.ve, .bool d.sd] := by rw [← hW0]; exact box_new2 (cs := [.int .i64 d.id, .int .i64 d.ty, .int .i64 d.pr, .int .i64 d.pa, .slice ga d.gs.length gc, .int .i64 d.ve, .bool d.sd]) (t := 51) (Below.refl _ _)
  have ht1 : (d.ty != 3) = true := by simp [hty]
  have ht2 : (d.ty == 3) = false := by simp [hty]
  have HSD := hidOf hsd
  have HTY := hidOf hty
  clear hsd hty
  have HG := hidOf hG
  have HJ := hidOf hj0
  have HB0 := hidOf hB0
  clear hG hj0 hB0
  go_enter Try.func15, Try.ntmps15
  go_wp2
  clear hW0
  go_loopw [6, 5] (fun i o wr => ∃ (g : Nat) (D : List (Int × Int)) (a' : Option Addr) (c' : Nat), g ≤ d.gs.length ∧ i = .int .i64 g ∧ o = .slice a' D.length c' ∧ Hid (D = slK (fun g => ups (cnN g.n)) d.gs g) ∧ Hid (wr.ownsRow W0.heap.size 40 2 (.slice a' D.length c') D.length (fl sC D)) ∧ Hid (Below W0.heap.size W0 wr)) (fun i _ _ => d.gs.length - (intOf i).toNat)
  case atStart => exact ⟨0, [], none, 0, Nat.zero_le _, rfl, rfl, hidOf rfl, hidOf (World.ownsRow_nil _ _ _ _), hidOf (Below.refl _ _)⟩
  case round =>
    obtain ⟨g, D, a', c', hg, rfl, rfl, HD, HO, HB⟩ := hrel
    have hjr := range_of HJ.out (HB.out.block (w.heap.size + 1) (by omega))
    have j1 : wr.cell? ⟨w.heap.size + 1, 1, none⟩ = some (.int .i64 d.ty) := hjr 1 _ rfl
    have j6 : wr.cell? ⟨w.heap.size + 1, 6, none⟩ = some (.bool false) := (hjr 6 _ rfl).trans (by rw [HSD.out])
    have lj : w.heap.size + 1 < wr.heap.size := by have := HB.out.size; omega
    by_cases hlt : g < d.gs.length
    · obtain ⟨b, off, ha, hQb, hcc⟩ := HG.out.at g hlt
      have hbw : b < w.heap.size := hQb
      have HSL := hidOf (show slK (fun g => ups (cnN g.n)) d.gs (g + 1) = slK (fun g => ups (cnN g.n)) d.gs g ++ (ups (cnN (d.gs[g]?.getD default).n)).map (fun i => ((g : Int), i)) from rfl)
      have HLE := hidOf (slK_len (fun g => ups (cnN g.n)) d.gs (show g + 1 ≤ d.gs.length from hlt))
      rw [gd3 d.gs g hlt] at HSL
      obtain ⟨x, hx⟩ : ∃ x, d.gs[g] = x := ⟨_, rfl⟩
      rw [hx] at hcc HSL
      rw [← HD.out] at HSL
      clear hx
      subst ha
      have j4 : wr.cell? ⟨w.heap.size + 1, 4, none⟩ = some (.slice (some ⟨b, off, none⟩) d.gs.length gc) := hjr 4 _ rfl
      have HC := hidOf hcc
      have hg64 : (g : Int) < (d.gs.length : Int) := by omega
      have hg0 : ¬ ((g : Int) < 0) := by omega
      clear hjr hcc
      have HGB := hidOf (HC.out 0 _ rfl)
      go_wp2
      go_loopw [7, 5] (fun i o wi => ∃ (k : Nat) (E : List (Int × Int)) (a2 : Option Addr) (c2 : Nat), k ≤ cnN x.n ∧ i = .int .i64 k ∧ o = .slice a2 E.length c2 ∧ Hid (E = D ++ (ups k).map (fun i => ((g : Int), i))) ∧ Hid (wi.ownsRow W0.heap.size 40 2 (.slice a2 E.length c2) E.length (fl sC E)) ∧ Hid (Below W0.heap.size W0 wi)) (fun i _ _ => cnN x.n - (intOf i).toNat)
      case atStart => exact ⟨0, D, a', c', Nat.zero_le _, rfl, rfl, hidOf (by simp [ups]), HO, HB⟩
      case round =>
        obtain ⟨k, E, a2, c2, hk, rfl, rfl, HE, HOE, HBE⟩ := hrel
        clear j1 j4 j6 lj
        have hji := range_of HJ.out (HBE.out.block (w.heap.size + 1) (by omega))
        have j4 : wr.cell? ⟨w.heap.size + 1, 4, none⟩ = some (.slice (some ⟨b, off, none⟩) d.gs.length gc) := hji 4 _ rfl
        have hsi := HBE.out.size
        have lj : w.heap.size + 1 < wr.heap.size := by omega
        have lb : b < wr.heap.size := by omega
        have cx : wr.cell? ⟨b, off + g * 3, none⟩ = some (.int .i64 x.n) := (hb_cell HBE.out (by omega)).trans ((hb_cell HB0.out hbw).trans HGB.out)
        clear hji
        by_cases hkl : k < cnN x.n
        · have h1 : (k : Int) < x.n := by unfold cnN at hkl; omega
          have h2 : (k : Int) < 4 := by unfold cnN at hkl; omega
          have hel : E.length = D.length + k := by rw [HE.out]; simp [ups_len]
          have hle := HLE.out
          rw [HSL.out] at hle
          simp only [List.length_append, List.length_map, ups_len] at hle
          have HHE := hidOf hel
          have HML := hidOf (show E.length + 1 ≤ maxLen by unfold maxLen; omega)
          have HBY := hidOf (show (E.length + 1) * 16 ≤ 140737488355328 by omega)
          have HBS := hidOf (show W0.heap.size ≤ (wr.alloc (.cells #[.int .i64 (g : Int), .int .i64 (k : Int)] 40)).heap.size by simp; omega)
          have HOA := hidOf (own_kept HOE.out (w' := wr.alloc (.cells #[.int .i64 (g : Int), .int .i64 (k : Int)] 40)) (fun b _ hb => (below1 wr _).block b hb))
          have HUP := hidOf (ups_succ k)
          clear hel hle
          go_wp2_with (at_builtin; refine wpList_app1 _ rfl _ _ 34 rfl W0.heap.size 40 _ 2 16 Try.underlying34 info40 rfl (by decide) _ E.length (fl sC E) rfl HOA.out ⟨wr.heap.size, 0, none⟩ 1 (sC ((g : Int), (k : Int))) rfl rfl (newS wr ((g : Int), (k : Int))) (sC_one _) HML.out HBY.out HBS.out ?_; intro a3 c3 w3 hown3 hg3; have HO3 := hidOf hown3; have HG3 := hidOf hg3; clear hown3 hg3)
          have hblk := own_blk2 HOE.out
          go_roundw
          case rel => exact ⟨k + 1, E ++ [((g : Int), (k : Int))], a3, c3, by omega, by simp, by simp, hidOf (by rw [HE.out, HUP.out]; simp), hidOf (by rw [fl_snoc, List.length_append]; exact HO3.out), hidOf ((HBE.out.alloc (by omega) _).grown HG3.out (by simp; omega) (fun q e => (hblk q e).1))⟩
          case measure => simp [intOf]; omega
        · have hkk : k = cnN x.n := by omega
          have HKK := hidOf hkk
          have HN : Hid (E = slK (fun g => ups (cnN g.n)) d.gs (g + 1)) := hidOf (by rw [HSL.out, HE.out, HKK.out])
          by_cases h1 : (k : Int) < x.n
          · have h2 : ¬ ((k : Int) < 4) := by unfold cnN at hkk; omega
            clear hkk
            go_wp2
            go_roundw
            case rel => exact ⟨g + 1, E, a2, c2, hlt, by simp, rfl, HN, HOE, HBE⟩
            case measure => simp [intOf]; omega
          · clear hkk
            go_wp2
            go_roundw
            case rel => exact ⟨g + 1, E, a2, c2, hlt, by simp, rfl, HN, HOE, HBE⟩
            case measure => simp [intOf]; omega
    · have hge : g = d.gs.length := by omega
      subst hge
      have HDD := HD.out
      subst HDD
      have j4 : wr.cell? ⟨w.heap.size + 1, 4, none⟩ = some (.slice ga d.gs.length gc) := hjr 4 _ rfl
      go_wp2
      go_ret
      exact ⟨a', c', rfl, by rw [← hz0]; exact HO.out, HB0.out.trans (HB.out.mono (by omega))⟩
end Go.Proofs.Ytaaodmagchpnbaa
