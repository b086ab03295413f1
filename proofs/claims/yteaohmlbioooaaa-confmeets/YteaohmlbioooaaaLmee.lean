/- ConfMeets, walked. -/
import Derived.Test.YteaohmlbioooaaaCref1
import Derived.Test.YteaohmlbioooaaaCopn
namespace Go.Proofs.Yteaohmlbioooaaa
open Go.RowKit Go.ChangeShapes Go.WideShapes Go.ChangeAt

theorem tr_two {H : Type} {enc : TypeId × Value → H} {w : World} {B fuel : Nat} {cs : List Value} {x : DataW H × List MemPlace} (hB : B ≤ 17592186044416) (h : DataW.trod enc Try.prog w 0 (fun _ => true) true fuel 39 cs = some x) (hf : Fits B 39 x.1) : ∃ (a b : Option Addr) (c d : Nat) (l m : List Int), cs = [.slice a l.length c, .slice b m.length d] ∧ Ints w a l ∧ Ints w b m ∧ l.length ≤ B ∧ m.length ≤ B := by
  obtain ⟨xs, n, rfl, rfl, hl, hlen, hF⟩ := DataW.trod_array Try.underlying39 h
  rw [show Try.prog.cellsOf 39 = 2 from by kernel_rfl] at hl
  obtain ⟨c0, c1, rfl⟩ := len2 hl
  obtain ⟨x0, x1, rfl⟩ := len2 hlen
  have g0 := hF 0 (by omega)
  have g1 := hF 1 (by omega)
  rw [show Try.prog.cellsOf 22 = 1 from by kernel_rfl] at g0 g1
  obtain ⟨av, cv, V, e0, hV, bV, _, _⟩ := tr_ints hB g0 (hf.part (by simp) (fun m hm => by
    simp only [DataW.weights, Try.underlying39]
    exact weights_mem_all (by simp) m hm))
  obtain ⟨al, cl, L, e1, hL, bL, _, _⟩ := tr_ints hB g1 (hf.part (by simp) (fun m hm => by
    simp only [DataW.weights, Try.underlying39]
    exact weights_mem_all (by simp) m hm))
  simp at e0 e1
  exact ⟨av, al, cv, cl, V, L, by rw [e0, e1], hV, hL, bV, bL⟩
theorem okWide_array {P : Program} {w : World} {r : Reach} {base n : Nat} {t e : TypeId} {v : Value} (ht : P.underlying t = some (.array n e)) (h : Value.okWide P w r base t v) : ∃ cs, v = .agg cs := by
  simp only [Value.okWide, ht] at h
  obtain ⟨cs, h1, _⟩ := h
  exact ⟨cs, h1⟩
theorem open_two {H : Type} {enc : TypeId × Value → H} {w : World} {B base : Nat} {v : Value} {d : DataW H} {p : List MemPlace} (hB : B ≤ 17592186044416) (hv : Value.okWide Try.prog w .any base 39 v) (h : DataW.Trod enc Try.prog w 0 (fun _ => true) true 39 v d p) (hf : Fits B 39 d) : ∃ (a b : Option Addr) (c e : Nat) (l m : List Int), v = .agg #[.slice a l.length c, .slice b m.length e] ∧ Ints w a l ∧ Ints w b m ∧ l.length ≤ B ∧ m.length ≤ B := by
  obtain ⟨cs, rfl⟩ := okWide_array Try.underlying39 hv
  obtain ⟨m, hm⟩ := h
  obtain ⟨a, b, c, e, l, k, e1, hr⟩ := tr_two hB hm hf
  exact ⟨a, b, c, e, l, k, agg_of rfl e1, hr⟩

/- two servers in the first new blocks, two lists -/
structure Me (w z : World) (av al bv bl : Option Addr) (V L V' L' : List Int) (cv cl dv dl : Nat) (ay az : Option Addr) (Y Z : List Int) : Prop where
  cs : Cs w z w.heap.size av al V L cv cl
  ds : Cs (w.alloc (.cells #[.slice av V.length cv, .slice al L.length cl] 24)) z (w.heap.size + 1) bv bl V' L' dv dl
  y : Ints z ay Y
  z : Ints z az Z
theorem Me.grow {w z z' : World} {av al bv bl : Option Addr} {V L V' L' : List Int} {cv cl dv dl : Nat} {ay az : Option Addr} {Y Z : List Int} (h : Me w z av al bv bl V L V' L' cv cl dv dl ay az Y Z) (hb : Below z.heap.size z z') : Me w z' av al bv bl V L V' L' cv cl dv dl ay az Y Z :=
  ⟨h.cs.grow hb, h.ds.grow hb, h.y.grow hb, h.z.grow hb⟩
set_option maxHeartbeats 8000000 in
theorem lawMeets (w : World) (av al : Option Addr) (V L : List Int) (cv cl : Nat) (hV : Ints w av V) (hL : Ints w al L) (_bV : V.length ≤ 17592186043904) (_bL : L.length ≤ 17592186043904) (_kV : V.length ≤ cv) (_kL : L.length ≤ cl) (_wV : Wf V) (_wL : Wf L)
    (bv bl : Option Addr) (V' L' : List Int) (dv dl : Nat) (hV' : Ints w bv V') (hL' : Ints w bl L') (_bV' : V'.length ≤ 17592186043904) (_bL' : L'.length ≤ 17592186043904) (_kV' : V'.length ≤ dv) (_kL' : L'.length ≤ dl) (_wV' : Wf V') (_wL' : Wf L')
    (ay : Option Addr) (Y : List Int) (cy : Nat) (az : Option Addr) (Z : List Int) (cz : Nat) (hY : Ints w ay Y) (hZ : Ints w az Z) (_bY : Y.length ≤ 17592186043904) (_bZ : Z.length ≤ 17592186043904) : Calls Try.prog 6 #[.agg #[.slice av V.length cv, .slice al L.length cl], .agg #[.slice bv V'.length dv, .slice bl L'.length dl], .agg #[.slice ay Y.length cy, .slice az Z.length cz]] w fun e w' => e = .returned (.bool true) ∧ Below w.heap.size w w' := by
  have hK := Cs.begin (w := w.alloc (.cells #[.slice av V.length cv, .slice al L.length cl] 24)) dv dl (Cf.grow ⟨hV', hL'⟩ (below1 w _))
  rw [World.size_alloc] at hK
  have hM0 : Me w (((w.alloc (.cells #[.slice av V.length cv, .slice al L.length cl] 24)).alloc (.cells #[.slice bv V'.length dv, .slice bl L'.length dl] 24)).alloc (.cells #[.slice ay Y.length cy, .slice az Z.length cz] 39)) av al bv bl V L V' L' cv cl dv dl ay az Y Z :=
    ⟨((Cs.begin cv cl ⟨hV, hL⟩).grow (below1 _ _)).grow (below1 _ _), hK.grow (below1 _ _), ((hY.grow (below1 w _)).grow (below1 _ _)).grow (below1 _ _), ((hZ.grow (below1 w _)).grow (below1 _ _)).grow (below1 _ _)⟩
  have H0 := hidOf hM0
  have hsg := single_any _ av al V L cv cl bv bl V' L' dv dl H0.out.cs.cf H0.out.ds.cf
  clear hK hV hL hV' hL' hY hZ hM0
  cases e1 : sglB V L V' L' with
  | false =>
    rw [e1] at hsg
    have HS := hidOf hsg
    clear hsg e1
    go_enter Try.func6, Try.ntmps6
    go_wp2_with (first
      | (go_at_call 23; refine HS.out.mono ?_; rintro e z1 ⟨rfl, hb⟩; have H1 := hidOf (H0.out.grow hb); clear hb)
      | (go_at_call 18; refine (lives_any _).mono ?_; rintro e wl ⟨rfl, hb⟩; have HBL := hidOf hb; clear hb))
    go_ret
    exact ⟨rfl, below_then H1.out.cs.bel HBL.out⟩
  | true =>
    rw [e1] at hsg
    have HS := hidOf hsg
    clear hsg
    cases e2 : majB V Y with
    | false =>
      have HE2 := hidOf e2
      clear e1 e2
      go_enter Try.func6, Try.ntmps6
      go_wp2_with (first
        | (go_at_call 23; refine HS.out.mono ?_; rintro e z1 ⟨rfl, hb⟩; have H1 := hidOf (H0.out.grow hb); clear hb; have c0 := H1.out.cs.bx.c0; have c1 := H1.out.cs.bx.c1; have lt0 := H1.out.cs.bx.lt; have hm := majority_any z1 av al V L cv cl ay Y cy H1.out.cs.cf H1.out.y; rw [HE2.out] at hm; have HM := hidOf hm; clear hm)
        | (go_at_call 19; refine HM.out.mono ?_; rintro e z2 ⟨rfl, hb⟩; have H2 := hidOf (H1.out.grow hb); clear hb c0 c1 lt0)
        | (go_at_call 18; refine (lives_any _).mono ?_; rintro e wl ⟨rfl, hb⟩; have HBL := hidOf hb; clear hb))
      go_ret
      exact ⟨rfl, below_then H2.out.cs.bel HBL.out⟩
    | true =>
      have HE2 := hidOf e2
      cases e3 : majB V' Z with
      | false =>
        have HE3 := hidOf e3
        clear e1 e2 e3
        go_enter Try.func6, Try.ntmps6
        go_wp2_with (first
          | (go_at_call 23; refine HS.out.mono ?_; rintro e z1 ⟨rfl, hb⟩; have H1 := hidOf (H0.out.grow hb); clear hb; have c0 := H1.out.cs.bx.c0; have c1 := H1.out.cs.bx.c1; have lt0 := H1.out.cs.bx.lt; have hm := majority_any z1 av al V L cv cl ay Y cy H1.out.cs.cf H1.out.y; rw [HE2.out] at hm; have HM := hidOf hm; clear hm)
          | (go_at_call 19; refine HM.out.mono ?_; rintro e z2 ⟨rfl, hb⟩; have H2 := hidOf (H1.out.grow hb); clear hb c0 c1 lt0 HM; have c0 : z2.cell? ⟨w.heap.size + 1, 0, none⟩ = _ := H2.out.ds.bx.c0; have c1 : z2.cell? ⟨w.heap.size + 1, 1, none⟩ = _ := H2.out.ds.bx.c1; have lt0 : w.heap.size + 1 < z2.heap.size := H2.out.ds.bx.lt; have hm := majority_any z2 bv bl V' L' dv dl az Z cz H2.out.ds.cf H2.out.z; rw [HE3.out] at hm; have HN := hidOf hm; clear hm)
          | (go_at_call 19; refine HN.out.mono ?_; rintro e z3 ⟨rfl, hb⟩; have H3 := hidOf (H2.out.grow hb); clear hb c0 c1 lt0)
          | (go_at_call 18; refine (lives_any _).mono ?_; rintro e wl ⟨rfl, hb⟩; have HBL := hidOf hb; clear hb))
        go_ret
        exact ⟨rfl, below_then H3.out.cs.bel HBL.out⟩
      | true =>
        have HE3 := hidOf e3
        obtain ⟨s, hs1, hs5, sY, sZ, sV, sV'⟩ := meets e1 e2 e3
        have HM4 := hidOf (⟨contains_eq.2 sY, contains_eq.2 sZ, contains_eq.2 sV, contains_eq.2 sV'⟩ : Y.contains s = true ∧ Z.contains s = true ∧ V.contains s = true ∧ V'.contains s = true)
        clear e1 e2 e3 sY sZ sV sV'
        go_enter Try.func6, Try.ntmps6
        go_wp2_with (first
          | (go_at_call 23; refine HS.out.mono ?_; rintro e z1 ⟨rfl, hb⟩; have H1 := hidOf (H0.out.grow hb); clear hb; have c0 := H1.out.cs.bx.c0; have c1 := H1.out.cs.bx.c1; have lt0 := H1.out.cs.bx.lt; have hm := majority_any z1 av al V L cv cl ay Y cy H1.out.cs.cf H1.out.y; rw [HE2.out] at hm; have HM := hidOf hm; clear hm)
          | (go_at_call 19; refine HM.out.mono ?_; rintro e z2 ⟨rfl, hb⟩; have H2 := hidOf (H1.out.grow hb); clear hb c0 c1 lt0 HM; have c0 : z2.cell? ⟨w.heap.size + 1, 0, none⟩ = _ := H2.out.ds.bx.c0; have c1 : z2.cell? ⟨w.heap.size + 1, 1, none⟩ = _ := H2.out.ds.bx.c1; have lt0 : w.heap.size + 1 < z2.heap.size := H2.out.ds.bx.lt; have hm := majority_any z2 bv bl V' L' dv dl az Z cz H2.out.ds.cf H2.out.z; rw [HE3.out] at hm; have HN := hidOf hm; clear hm)
          | (go_at_call 19; refine HN.out.mono ?_; rintro e z3 ⟨rfl, hb⟩; have H3 := hidOf (H2.out.grow hb); clear hb c0 c1 lt0))
        go_loopw [9] (fun i wr => ∃ k : Nat, i = .int .i64 ((k : Int) + 1) ∧ k ≤ 5 ∧ (k : Int) < s ∧ Hid (Me w wr av al bv bl V L V' L' cv cl dv dl ay az Y Z)) (fun i _ => 6 - (intOf i).toNat)
        case atStart => exact ⟨0, rfl, Nat.zero_le _, by omega, H3⟩
        case round =>
          obtain ⟨k, rfl, hk, hks, HC⟩ := hrel
          by_cases hlt : k < 5
          · have hltz : (k : Int) + 1 ≤ 5 := by omega
            have HY := hidOf (in_any wr ay Y cy ((k : Int) + 1) HC.out.y)
            have HZ := hidOf (in_any wr az Z cz ((k : Int) + 1) HC.out.z)
            have HV := hidOf (voter_any wr av al V L cv cl ((k : Int) + 1) HC.out.cs.cf.v)
            have HN : Hid (¬ (Y.contains ((k : Int) + 1) = true ∧ Z.contains ((k : Int) + 1) = true ∧ V.contains ((k : Int) + 1) = true ∧ V'.contains ((k : Int) + 1) = true) → ((k + 1 : Nat) : Int) < s) := hidOf (fun hn => by
              have : (k : Int) + 1 ≠ s := fun e => hn (by rw [e]; exact HM4.out)
              omega)
            have c0 := HC.out.cs.bx.c0
            have c1 := HC.out.cs.bx.c1
            have lt0 := HC.out.cs.bx.lt
            cases f1 : Y.contains ((k : Int) + 1) with
            | false =>
              rw [f1] at HY
              rw [f1] at HN
              have hnx := HN.out (fun h => by cases h.1)
              clear HN f1
              generalize Z.contains ((k : Int) + 1) = g2 at HZ
              go_wp2_with (first
                | (go_at_call 17; refine HY.out.mono ?_; rintro e zz ⟨rfl, hw⟩; subst zz; clear HY)
                | (go_at_call 17; refine HZ.out.mono ?_; rintro e zz ⟨rfl, hw⟩; subst zz))
              go_roundw
              case rel => exact ⟨k + 1, by go_num, by omega, hnx, HC⟩
              case measure => simp [intOf]; omega
            | true =>
              rw [f1] at HY
              cases f2 : Z.contains ((k : Int) + 1) with
              | false =>
                rw [f2] at HZ
                rw [f2] at HN
                have hnx := HN.out (fun h => by cases h.2.1)
                clear HN f1 f2
                go_wp2_with (first
                  | (go_at_call 17; refine HY.out.mono ?_; rintro e zz ⟨rfl, hw⟩; subst zz; clear HY)
                  | (go_at_call 17; refine HZ.out.mono ?_; rintro e zz ⟨rfl, hw⟩; subst zz))
                go_roundw
                case rel => exact ⟨k + 1, by go_num, by omega, hnx, HC⟩
                case measure => simp [intOf]; omega
              | true =>
                rw [f2] at HZ
                cases f3 : V.contains ((k : Int) + 1) with
                | false =>
                  rw [f3] at HV
                  rw [f3] at HN
                  have hnx := HN.out (fun h => by cases h.2.2.1)
                  clear HN f1 f2 f3
                  go_wp2_with (first
                    | (go_at_call 17; refine HY.out.mono ?_; rintro e zz ⟨rfl, hw⟩; subst zz; clear HY)
                    | (go_at_call 17; refine HZ.out.mono ?_; rintro e zz ⟨rfl, hw⟩; subst zz)
                    | (go_at_call 16; refine HV.out.mono ?_; rintro e z4 ⟨rfl, hb⟩; have H4 := hidOf (HC.out.grow hb); clear hb c0 c1 lt0))
                  go_roundw
                  case rel => exact ⟨k + 1, by go_num, by omega, hnx, H4⟩
                  case measure => simp [intOf]; omega
                | true =>
                  rw [f3] at HV
                  cases f4 : V'.contains ((k : Int) + 1) with
                  | false =>
                    rw [f4] at HN
                    have hnx := HN.out (fun h => by cases h.2.2.2)
                    have HF4 := hidOf f4
                    clear HN f1 f2 f3 f4
                    go_wp2_with (first
                      | (go_at_call 17; refine HY.out.mono ?_; rintro e zz ⟨rfl, hw⟩; subst zz; clear HY)
                      | (go_at_call 17; refine HZ.out.mono ?_; rintro e zz ⟨rfl, hw⟩; subst zz)
                      | (go_at_call 16; refine HV.out.mono ?_; rintro e z4 ⟨rfl, hb⟩; have H4 := hidOf (HC.out.grow hb); clear hb c0 c1 lt0 HV; have c0 : z4.cell? ⟨w.heap.size + 1, 0, none⟩ = _ := H4.out.ds.bx.c0; have c1 : z4.cell? ⟨w.heap.size + 1, 1, none⟩ = _ := H4.out.ds.bx.c1; have lt0 : w.heap.size + 1 < z4.heap.size := H4.out.ds.bx.lt; have hv2 := voter_any z4 bv bl V' L' dv dl ((k : Int) + 1) H4.out.ds.cf.v; rw [HF4.out] at hv2; have HV2 := hidOf hv2; clear hv2)
                      | (go_at_call 16; refine HV2.out.mono ?_; rintro e z5 ⟨rfl, hb⟩; have H5 := hidOf (H4.out.grow hb); clear hb c0 c1 lt0))
                    go_roundw
                    case rel => exact ⟨k + 1, by go_num, by omega, hnx, H5⟩
                    case measure => simp [intOf]; omega
                  | true =>
                    have HF4 := hidOf f4
                    clear HN f1 f2 f3 f4
                    go_wp2_with (first
                      | (go_at_call 17; refine HY.out.mono ?_; rintro e zz ⟨rfl, hw⟩; subst zz; clear HY)
                      | (go_at_call 17; refine HZ.out.mono ?_; rintro e zz ⟨rfl, hw⟩; subst zz)
                      | (go_at_call 16; refine HV.out.mono ?_; rintro e z4 ⟨rfl, hb⟩; have H4 := hidOf (HC.out.grow hb); clear hb c0 c1 lt0 HV; have c0 : z4.cell? ⟨w.heap.size + 1, 0, none⟩ = _ := H4.out.ds.bx.c0; have c1 : z4.cell? ⟨w.heap.size + 1, 1, none⟩ = _ := H4.out.ds.bx.c1; have lt0 : w.heap.size + 1 < z4.heap.size := H4.out.ds.bx.lt; have hv2 := voter_any z4 bv bl V' L' dv dl ((k : Int) + 1) H4.out.ds.cf.v; rw [HF4.out] at hv2; have HV2 := hidOf hv2; clear hv2)
                      | (go_at_call 16; refine HV2.out.mono ?_; rintro e z5 ⟨rfl, hb⟩; have H5 := hidOf (H4.out.grow hb); clear hb c0 c1 lt0)
                      | (go_at_call 18; refine (lives_any _).mono ?_; rintro e wl ⟨rfl, hb⟩; have HBL := hidOf hb; clear hb))
                    go_ret
                    exact ⟨rfl, below_then H5.out.cs.bel HBL.out⟩
          · exact absurd hks (by omega)
end Go.Proofs.Yteaohmlbioooaaa
