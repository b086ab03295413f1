/- ConfChanges, walked. -/
import Derived.Test.YteaohmlbioooaaaCref7
import Derived.Test.YteaohmlbioooaaaCopn
import Derived.Deep.Cut
namespace Go.Proofs.Yteaohmlbioooaaa
open Go.RowKit

theorem Db.drew {w z : World} {av al bv bl : Option Addr} {V L V' L' : List Int} {cv cl dv dl : Nat} (h : Db w z av al bv bl V L V' L' cv cl dv dl) : Db w z.drew av al bv bl V L V' L' cv cl dv dl := h.grow ⟨rfl, rfl, rfl, Nat.le_refl _, fun _ _ => rfl⟩
theorem same_self (V L : List Int) : sameB V L V L = true := by simp [sameB]
theorem bx_other {w : World} {k k' : Nat} {x y : Value} (h : Bx w k x y) (hk : k ≠ k') (u v : Value) : Bx ((w.setCell ⟨k', 0, none⟩ u).setCell ⟨k', 1, none⟩ v) k x y := by
  show _ = _
  rw [Below.heap_setCell _ ⟨k', 1, none⟩ _ k hk, Below.heap_setCell _ ⟨k', 0, none⟩ _ k hk]
  exact h
/- the servers, and two answers in the blocks p and q -/
structure Cg (w z : World) (p : Nat) (av al : Option Addr) (V L : List Int) (cv cl : Nat) (x y : Option Addr) (U M : List Int) (i j : Nat) : Prop where
  cs : Cs w z w.heap.size av al V L cv cl
  bx : Bx z p (.slice x U.length i) (.slice y M.length j)
  u : Ints z x U
  m : Ints z y M
theorem Cg.grow {w z z' : World} {p : Nat} {av al : Option Addr} {V L : List Int} {cv cl : Nat} {x y : Option Addr} {U M : List Int} {i j : Nat} (h : Cg w z p av al V L cv cl x y U M i j) (hb : Below z.heap.size z z') : Cg w z' p av al V L cv cl x y U M i j := ⟨h.cs.grow hb, h.bx.grow hb, h.u.grow hb, h.m.grow hb⟩
set_option maxHeartbeats 8000000 in
theorem lawChanges (w : World) (av al : Option Addr) (V L : List Int) (cv cl : Nat) (hV : Ints w av V) (hL : Ints w al L) (bV : V.length ≤ 1048576) (bL : L.length ≤ 1048576) (_kV : V.length ≤ cv) (_kL : L.length ≤ cl) (_wV : Wf V) (_wL : Wf L)
    (bv bl : Option Addr) (V' L' : List Int) (dv dl : Nat) (hV' : Ints w bv V') (hL' : Ints w bl L') (_bV' : V'.length ≤ 1048576) (_bL' : L'.length ≤ 1048576) (_kV' : V'.length ≤ dv) (_kL' : L'.length ≤ dl) (_wV' : Wf V') (_wL' : Wf L') (s : Int) (_hs : (Lit.int .i64 s).wf = true) : Calls Try.prog 5 #[.agg #[.slice av V.length cv, .slice al L.length cl], .agg #[.slice bv V'.length dv, .slice bl L'.length dl], .int .i64 s] w fun e w' => e = .returned (.bool true) ∧ Below w.heap.size w w' := by
  have H0 := hidOf (Db.begin cv cl dv dl ⟨hV, hL⟩ ⟨hV', hL'⟩)
  have Y0 := hidOf H0.out.drew
  have HLN : Hid (V.length + L.length ≤ 17592186044416) := hidOf (by omega)
  have hS1 := fun z h h' => single_any z av al V L cv cl bv bl V' L' dv dl h h'
  have hS2 := fun z h h' => rsingle_any z av al V L cv cl bv bl V' L' dv dl h h'
  generalize sglB V L V' L' = b1 at hS1 hS2
  have HS1 := hidOf hS1
  have HS2 := hidOf hS2
  have hA1 := fun z h => add_ch z av al V L cv cl s h
  have hA2 := fun z h => radd_ch z av al V L cv cl s h HLN
  have hP1 := fun z h => promote_ch z av al V L cv cl s h
  have hP2 := fun z h => rpromote_ch z av al V L cv cl s h HLN
  have hR1 := fun z h => remove_ch z av al V L cv cl s h
  have hR2 := fun z h => rremove_ch z av al V L cv cl s h HLN
  generalize addV V L s = U1 at hA1 hA2
  generalize addL V L s = M1 at hA1 hA2
  generalize addE V L s = E1 at hA1 hA2
  generalize proV V L s = U2 at hP1 hP2
  generalize proL V L s = M2 at hP1 hP2
  generalize proE V L s = E2 at hP1 hP2
  generalize remV V L s = U3 at hR1 hR2
  generalize remL V L s = M3 at hR1 hR2
  generalize remE V L s = E3 at hR1 hR2
  have HA1 := hidOf hA1
  have HA2 := hidOf hA2
  have HP1 := hidOf hP1
  have HP2 := hidOf hP2
  have HR1 := hidOf hR1
  have HR2 := hidOf hR2
  clear hS1 hS2 hA1 hA2 hP1 hP2 hR1 hR2 hV hL hV' hL' bV bL
  have c0 := H0.out.cs.bx.c0
  have c1 := H0.out.cs.bx.c1
  have d0 : ((w.alloc (.cells #[.slice av V.length cv, .slice al L.length cl] 24)).alloc (.cells #[.slice bv V'.length dv, .slice bl L'.length dl] 24)).cell? ⟨w.heap.size + 1, 0, none⟩ = _ := H0.out.ds.bx.c0
  have d1 : ((w.alloc (.cells #[.slice av V.length cv, .slice al L.length cl] 24)).alloc (.cells #[.slice bv V'.length dv, .slice bl L'.length dl] 24)).cell? ⟨w.heap.size + 1, 1, none⟩ = _ := H0.out.ds.bx.c1
  go_enter Try.func5, Try.ntmps5
  go_wp2_with (fail)
  refine wp_region_held_drew (S := fun wz => (wz.cell? ⟨w.heap.size, 0, none⟩ = some (.slice av V.length cv) ∧ wz.cell? ⟨w.heap.size, 1, none⟩ = some (.slice al L.length cl)) ∧ (wz.cell? ⟨w.heap.size + 1, 0, none⟩ = some (.slice bv V'.length dv) ∧ wz.cell? ⟨w.heap.size + 1, 1, none⟩ = some (.slice bl L'.length dl))) (by kernel_rfl) ⟨⟨c0, c1⟩, d0, d1⟩ (fun hHeld => ?_)
  refine wpAnyH_take (i := 0) (oi := { dst := some 12, op := Op.load 24 (Operand.tmp 3), type := 24, pos := "law.go:43", after := #[], guard := none }) (v := .agg #[.slice av V.length cv, .slice al L.length cl]) rfl (by kernel_rfl) (by kernel_rfl) (by kernel_rfl) (fun _ _ _ h => h) (Or.inl ⟨by rfl, ?_⟩) hHeld ?_
  · (intro w hSw; (try dsimp only at hSw); go_simp)
  try simp only [Act.put, List.setIfInBounds_toArray, List.set_cons_zero, List.set_cons_succ]
  refine wpAnyH_take (i := 1) (oi := { dst := some 13, op := Op.load 24 (Operand.tmp 4), type := 24, pos := "law.go:43", after := #[], guard := none }) (v := .agg #[.slice bv V'.length dv, .slice bl L'.length dl]) rfl (by kernel_rfl) (by kernel_rfl) (by kernel_rfl) (fun _ _ _ h => h) (Or.inl ⟨by rfl, ?_⟩) hHeld ?_
  · (intro w hSw; (try dsimp only at hSw); go_simp)
  try simp only [Act.put, List.setIfInBounds_toArray, List.set_cons_zero, List.set_cons_succ]
  refine wpAnyH_take (i := 3) (oi := { dst := some 15, op := Op.load 24 (Operand.tmp 3), type := 24, pos := "law.go:43", after := #[], guard := none }) (v := .agg #[.slice av V.length cv, .slice al L.length cl]) rfl (by kernel_rfl) (by kernel_rfl) (by kernel_rfl) (fun _ _ _ h => h) (Or.inl ⟨by rfl, ?_⟩) hHeld ?_
  · (intro w hSw; (try dsimp only at hSw); go_simp)
  try simp only [Act.put, List.setIfInBounds_toArray, List.set_cons_zero, List.set_cons_succ]
  refine wpAnyH_take (i := 4) (oi := { dst := some 16, op := Op.load 24 (Operand.tmp 4), type := 24, pos := "law.go:43", after := #[], guard := none }) (v := .agg #[.slice bv V'.length dv, .slice bl L'.length dl]) rfl (by kernel_rfl) (by kernel_rfl) (by kernel_rfl) (fun _ _ _ h => h) (Or.inl ⟨by rfl, ?_⟩) hHeld ?_
  · (intro w hSw; (try dsimp only at hSw); go_simp)
  try simp only [Act.put, List.setIfInBounds_toArray, List.set_cons_zero, List.set_cons_succ]
  refine wpAnyH_ready (rs := [2]) (by kernel_rfl) (by simp) ?_
  refine AllReadyH.cons (o := { dst := some 14, op := Op.call { callee := Callee.value (Operand.func 23), args := #[Operand.tmp 12, Operand.tmp 13], argTypes := #[24, 24] }, type := 4, pos := "law.go:43", after := #[{ on := 0, ground := Ground.data }, { on := 1, ground := Ground.data }], guard := none }) rfl (fun K hK => ?_) AllReadyH.nil
  go_simp
  refine (HS1.out _ Y0.out.cs.cf Y0.out.ds.cf).mono ?_
  rintro e y1 ⟨rfl, hb⟩
  have Y1 := hidOf (Y0.out.grow hb)
  clear hb
  refine hK.out _ _ ⟨⟨Y1.out.cs.bx.c0, Y1.out.cs.bx.c1⟩, Y1.out.ds.bx.c0, Y1.out.ds.bx.c1⟩ (fun hHeld1 => ?_)
  clear hK K
  try simp only [Act.put, List.setIfInBounds_toArray, List.set_cons_zero, List.set_cons_succ]
  refine wpAnyH_ready (rs := [5]) (by kernel_rfl) (by simp) ?_
  refine AllReadyH.cons (o := { dst := some 17, op := Op.call { callee := Callee.value (Operand.func 24), args := #[Operand.tmp 15, Operand.tmp 16], argTypes := #[24, 24] }, type := 4, pos := "law.go:43", after := #[{ on := 3, ground := Ground.data }, { on := 4, ground := Ground.data }, { on := 2, ground := Ground.chain }], guard := none }) rfl (fun K hK => ?_) AllReadyH.nil
  go_simp
  refine (HS2.out _ Y1.out.cs.cf Y1.out.ds.cf).mono ?_
  rintro e y2 ⟨rfl, hb⟩
  have Y2 := hidOf (Y1.out.grow hb)
  clear hb
  refine hK.out _ _ ⟨⟨Y2.out.cs.bx.c0, Y2.out.cs.bx.c1⟩, Y2.out.ds.bx.c0, Y2.out.ds.bx.c1⟩ (fun hHeld2 => ?_)
  clear hK K
  try simp only [Act.put, List.setIfInBounds_toArray, List.set_cons_zero, List.set_cons_succ]
  refine wpAnyH_take (i := 6) (oi := { dst := some 18, op := Op.binOp BinOp.neq 4 (Operand.tmp 14) (Operand.tmp 17) 4, type := 4, pos := "law.go:43", after := #[{ on := 2, ground := Ground.data }, { on := 5, ground := Ground.data }], guard := none }) (v := .bool false) rfl (by kernel_rfl) (by kernel_rfl) (by kernel_rfl) (fun _ _ _ h => h) (Or.inl ⟨by rfl, ?_⟩) hHeld2 ?_
  · (intro w hSw; (try dsimp only at hSw); go_simp)
  try simp only [Act.put, List.setIfInBounds_toArray, List.set_cons_zero, List.set_cons_succ]
  refine wpAnyH_done (by kernel_rfl) ?_ _
  clear c0 c1 d0 d1
  have c0 := Y2.out.cs.bx.c0
  have c1 := Y2.out.cs.bx.c1
  have lt0 := Y2.out.cs.bx.lt
  go_upto_region 4 with (go_at_call 25; refine (HA1.out y2 Y2.out.cs.cf).mono ?_; rintro e z1 ⟨x1, i1, x2, i2, rfl, hu, hm, hb⟩; have G1 := hidOf (⟨(Y2.out.cs.grow hb).grow (below1 z1 _), bx_new z1 _ _, hu.grow (below1 z1 _), hm.grow (below1 z1 _)⟩ : Cg w (z1.alloc (.cells #[.slice x1 U1.length i1, .slice x2 M1.length i2] 24)) z1.heap.size av al V L cv cl x1 x2 U1 M1 i1 i2); have HLT1 := hidOf (Y2.out.cs.grow hb).bx.lt; clear hu hm hb c0 c1 lt0)
  obtain ⟨z2, hz2⟩ : ∃ x, x = z1.alloc (.cells #[.slice x1 U1.length i1, .slice x2 M1.length i2] 24) := ⟨_, rfl⟩
  rw [← hz2] at G1 ⊢
  have hp : w.heap.size < z1.heap.size := HLT1.out
  generalize z1.heap.size = p at G1 hp ⊢
  have HNP := hidOf hp
  have HPW := hidOf (Nat.le_of_lt hp)
  clear hz2 hp HLT1
  have c0 := G1.out.cs.bx.c0
  have c1 := G1.out.cs.bx.c1
  have lt0 := G1.out.cs.bx.lt
  go_upto_region 5 with (go_at_call 26; refine (HA2.out z2 G1.out.cs.cf).mono ?_; rintro e z3 ⟨x3, i3, x4, i4, rfl, hu, hm, hb⟩; have G4 := hidOf ((G1.out.grow hb).grow (below1 z3 (.cells #[.slice x3 U1.length i3, .slice x4 M1.length i4] 24))); have BQ4 := hidOf (bx_new z3 (.slice x3 U1.length i3) (.slice x4 M1.length i4)); have QU4 := hidOf (hu.grow (below1 z3 (.cells #[.slice x3 U1.length i3, .slice x4 M1.length i4] 24))); have QM4 := hidOf (hm.grow (below1 z3 (.cells #[.slice x3 U1.length i3, .slice x4 M1.length i4] 24))); have PLT := hidOf (G1.out.grow hb).bx.lt; clear hu hm hb c0 c1 lt0)
  obtain ⟨z4, hz4⟩ : ∃ x, x = z3.alloc (.cells #[.slice x3 U1.length i3, .slice x4 M1.length i4] 24) := ⟨_, rfl⟩
  rw [← hz4] at G4 BQ4 QU4 QM4 ⊢
  clear hz4
  have hpq : p < z3.heap.size := PLT.out
  generalize z3.heap.size = q at BQ4 hpq ⊢
  have HPQ := hidOf hpq
  clear hpq PLT
  have b0 := G4.out.bx.c0
  have b1c := G4.out.bx.c1
  have b2 := G4.out.bx.lt
  have b3 := G4.out.bx.fr
  have e0 := BQ4.out.c0
  have e1 := BQ4.out.c1
  have e2 := BQ4.out.lt
  have e3 := BQ4.out.fr
  have hsm := rsame_any z4 x1 x2 U1 M1 i1 i2 x3 x4 U1 M1 i3 i4 ⟨G4.out.u, G4.out.m⟩ ⟨QU4.out, QM4.out⟩
  rw [same_self] at hsm
  have HSM4 := hidOf hsm
  clear hsm
  go_upto_region 8 with (go_at_call 15; refine HSM4.out.mono ?_; rintro e z5 ⟨rfl, hb⟩; have G5 := hidOf (G4.out.grow hb); have BQ5 := hidOf (BQ4.out.grow hb); clear hb; clear b0 b1c b2 b3 e0 e1 e2 e3)
  have c0 := G5.out.cs.bx.c0
  have c1 := G5.out.cs.bx.c1
  have lt0 := G5.out.cs.bx.lt
  have b0 := G5.out.bx.c0
  have b1c := G5.out.bx.c1
  have b2 := G5.out.bx.lt
  have b3 := G5.out.bx.fr
  have e0 := BQ5.out.c0
  have e1 := BQ5.out.c1
  have e2 := BQ5.out.lt
  have e3 := BQ5.out.fr
  go_upto_region 9 with (go_at_call 27; refine (HP1.out z5 G5.out.cs.cf).mono ?_; rintro e z6 ⟨x11, i11, x12, i12, rfl, hu, hm, hb⟩; have GG := hidOf (G5.out.grow hb); have BB := hidOf (BQ5.out.grow hb); have UU := hidOf hu; have MM := hidOf hm; clear hu hm hb c0 c1 lt0; clear b0 b1c b2 b3 e0 e1 e2 e3; have b0 := GG.out.bx.c0; have b1c := GG.out.bx.c1; have b2 := GG.out.bx.lt; have b3 := GG.out.bx.fr)
  obtain ⟨z7, hz⟩ : ∃ x, x = (z6.setCell ⟨p, 0, none⟩ (.slice x11 U2.length i11)).setCell ⟨p, 1, none⟩ (.slice x12 M2.length i12) := ⟨_, rfl⟩
  have G7 : Hid (Cg w z7 p av al V L cv cl x11 x12 U2 M2 i11 i12) := hidOf (by rw [hz]; exact ⟨GG.out.cs.setOther GG.out.bx (Nat.ne_of_lt HNP.out) HPW.out _ _, GG.out.bx.set _ _, UU.out.setOther GG.out.bx _ _, MM.out.setOther GG.out.bx _ _⟩)
  have BQ7 : Hid (Bx z7 q _ _) := hidOf (by rw [hz]; exact bx_other BB.out (Nat.ne_of_gt HPQ.out) _ _)
  rw [← hz]
  clear hz b0 b1c b2 b3 GG BB UU MM
  have c0 := G7.out.cs.bx.c0
  have c1 := G7.out.cs.bx.c1
  have lt0 := G7.out.cs.bx.lt
  go_upto_region 10 with (go_at_call 28; refine (HP2.out z7 G7.out.cs.cf).mono ?_; rintro e z8 ⟨x13, i13, x14, i14, rfl, hu, hm, hb⟩; have GG := hidOf (G7.out.grow hb); have BB := hidOf (BQ7.out.grow hb); have UU := hidOf hu; have MM := hidOf hm; clear hu hm hb c0 c1 lt0; have e0 := BB.out.c0; have e1 := BB.out.c1; have e2 := BB.out.lt; have e3 := BB.out.fr)
  obtain ⟨z9, hz⟩ : ∃ x, x = (z8.setCell ⟨q, 0, none⟩ (.slice x13 U2.length i13)).setCell ⟨q, 1, none⟩ (.slice x14 M2.length i14) := ⟨_, rfl⟩
  have G9 : Hid (Cg w z9 p av al V L cv cl x11 x12 U2 M2 i11 i12) := hidOf (by rw [hz]; exact ⟨GG.out.cs.setOther BB.out (Nat.ne_of_lt (Nat.lt_trans HNP.out HPQ.out)) (Nat.le_of_lt (Nat.lt_trans HNP.out HPQ.out)) _ _, bx_other GG.out.bx (Nat.ne_of_lt HPQ.out) _ _, GG.out.u.setOther BB.out _ _, GG.out.m.setOther BB.out _ _⟩)
  have BQ9 : Hid (Bx z9 q (.slice x13 U2.length i13) (.slice x14 M2.length i14)) := hidOf (by rw [hz]; exact BB.out.set _ _)
  have QU9 : Hid (Ints z9 x13 U2) := hidOf (by rw [hz]; exact UU.out.setOther BB.out _ _)
  have QM9 : Hid (Ints z9 x14 M2) := hidOf (by rw [hz]; exact MM.out.setOther BB.out _ _)
  rw [← hz]
  clear hz e0 e1 e2 e3 GG BB UU MM
  have b0 := G9.out.bx.c0
  have b1c := G9.out.bx.c1
  have b2 := G9.out.bx.lt
  have b3 := G9.out.bx.fr
  have e0 := BQ9.out.c0
  have e1 := BQ9.out.c1
  have e2 := BQ9.out.lt
  have e3 := BQ9.out.fr
  have hsm := rsame_any z9 x11 x12 U2 M2 i11 i12 x13 x14 U2 M2 i13 i14 ⟨G9.out.u, G9.out.m⟩ ⟨QU9.out, QM9.out⟩
  rw [same_self] at hsm
  have HSM9 := hidOf hsm
  clear hsm
  go_upto_region 13 with (go_at_call 15; refine HSM9.out.mono ?_; rintro e z10 ⟨rfl, hb⟩; have G10 := hidOf (G9.out.grow hb); have BQ10 := hidOf (BQ9.out.grow hb); clear hb; clear b0 b1c b2 b3 e0 e1 e2 e3)
  have c0 := G10.out.cs.bx.c0
  have c1 := G10.out.cs.bx.c1
  have lt0 := G10.out.cs.bx.lt
  have b0 := G10.out.bx.c0
  have b1c := G10.out.bx.c1
  have b2 := G10.out.bx.lt
  have b3 := G10.out.bx.fr
  have e0 := BQ10.out.c0
  have e1 := BQ10.out.c1
  have e2 := BQ10.out.lt
  have e3 := BQ10.out.fr
  go_upto_region 14 with (go_at_call 29; refine (HR1.out z10 G10.out.cs.cf).mono ?_; rintro e z11 ⟨x21, i21, x22, i22, rfl, hu, hm, hb⟩; have GG := hidOf (G10.out.grow hb); have BB := hidOf (BQ10.out.grow hb); have UU := hidOf hu; have MM := hidOf hm; clear hu hm hb c0 c1 lt0; clear b0 b1c b2 b3 e0 e1 e2 e3; have b0 := GG.out.bx.c0; have b1c := GG.out.bx.c1; have b2 := GG.out.bx.lt; have b3 := GG.out.bx.fr)
  obtain ⟨z12, hz⟩ : ∃ x, x = (z11.setCell ⟨p, 0, none⟩ (.slice x21 U3.length i21)).setCell ⟨p, 1, none⟩ (.slice x22 M3.length i22) := ⟨_, rfl⟩
  have G12 : Hid (Cg w z12 p av al V L cv cl x21 x22 U3 M3 i21 i22) := hidOf (by rw [hz]; exact ⟨GG.out.cs.setOther GG.out.bx (Nat.ne_of_lt HNP.out) HPW.out _ _, GG.out.bx.set _ _, UU.out.setOther GG.out.bx _ _, MM.out.setOther GG.out.bx _ _⟩)
  have BQ12 : Hid (Bx z12 q _ _) := hidOf (by rw [hz]; exact bx_other BB.out (Nat.ne_of_gt HPQ.out) _ _)
  rw [← hz]
  clear hz b0 b1c b2 b3 GG BB UU MM
  have c0 := G12.out.cs.bx.c0
  have c1 := G12.out.cs.bx.c1
  have lt0 := G12.out.cs.bx.lt
  go_upto_region 15 with (go_at_call 30; refine (HR2.out z12 G12.out.cs.cf).mono ?_; rintro e z13 ⟨x23, i23, x24, i24, rfl, hu, hm, hb⟩; have GG := hidOf (G12.out.grow hb); have BB := hidOf (BQ12.out.grow hb); have UU := hidOf hu; have MM := hidOf hm; clear hu hm hb c0 c1 lt0; have e0 := BB.out.c0; have e1 := BB.out.c1; have e2 := BB.out.lt; have e3 := BB.out.fr)
  obtain ⟨z14, hz⟩ : ∃ x, x = (z13.setCell ⟨q, 0, none⟩ (.slice x23 U3.length i23)).setCell ⟨q, 1, none⟩ (.slice x24 M3.length i24) := ⟨_, rfl⟩
  have G14 : Hid (Cg w z14 p av al V L cv cl x21 x22 U3 M3 i21 i22) := hidOf (by rw [hz]; exact ⟨GG.out.cs.setOther BB.out (Nat.ne_of_lt (Nat.lt_trans HNP.out HPQ.out)) (Nat.le_of_lt (Nat.lt_trans HNP.out HPQ.out)) _ _, bx_other GG.out.bx (Nat.ne_of_lt HPQ.out) _ _, GG.out.u.setOther BB.out _ _, GG.out.m.setOther BB.out _ _⟩)
  have BQ14 : Hid (Bx z14 q (.slice x23 U3.length i23) (.slice x24 M3.length i24)) := hidOf (by rw [hz]; exact BB.out.set _ _)
  have QU14 : Hid (Ints z14 x23 U3) := hidOf (by rw [hz]; exact UU.out.setOther BB.out _ _)
  have QM14 : Hid (Ints z14 x24 M3) := hidOf (by rw [hz]; exact MM.out.setOther BB.out _ _)
  rw [← hz]
  clear hz e0 e1 e2 e3 GG BB UU MM
  have b0 := G14.out.bx.c0
  have b1c := G14.out.bx.c1
  have b2 := G14.out.bx.lt
  have b3 := G14.out.bx.fr
  have e0 := BQ14.out.c0
  have e1 := BQ14.out.c1
  have e2 := BQ14.out.lt
  have e3 := BQ14.out.fr
  have hsm := rsame_any z14 x21 x22 U3 M3 i21 i22 x23 x24 U3 M3 i23 i24 ⟨G14.out.u, G14.out.m⟩ ⟨QU14.out, QM14.out⟩
  rw [same_self] at hsm
  have HSM14 := hidOf hsm
  clear hsm
  go_upto_region 16 with (go_at_call 15; refine HSM14.out.mono ?_; rintro e z15 ⟨rfl, hb⟩; have G15 := hidOf (G14.out.grow hb); have BQ15 := hidOf (BQ14.out.grow hb); clear hb; clear b0 b1c b2 b3 e0 e1 e2 e3)
  go_wp2_with (go_at_call 18; refine (lives_any _).mono ?_; rintro e wl ⟨rfl, hb⟩; have HBL := hidOf hb; clear hb)
  go_ret
  exact ⟨rfl, below_then G15.out.cs.bel HBL.out⟩
end Go.Proofs.Yteaohmlbioooaaa
