/- ConfMirrors, walked. -/
import Derived.Test.YteaohmlbioooaabCliv
import Derived.Test.YteaohmlbioooaabCopn
import Derived.Deep.RegionHeld3
namespace Go.Proofs.Yteaohmlbioooaab
open Go.RowKit

/- both servers, the first without learners in block q, the yeses and their double -/
structure Mi (w z : World) (q : Nat) (av al bv bl : Option Addr) (V L V' L' : List Int) (cv cl dv dl : Nat) (ay ta : Option Addr) (Y : List Int) : Prop where
  cs : Cs w z w.heap.size av al V L cv cl
  ds : Cs (w.alloc (.cells #[.slice av V.length cv, .slice al L.length cl] 24)) z (w.heap.size + 1) bv bl V' L' dv dl
  e : Bx z q (.slice av V.length cv) (.slice none 0 0)
  y : Ints z ay Y
  t : Ints z ta (Y ++ Y)
theorem Mi.grow {w z z' : World} {q : Nat} {av al bv bl : Option Addr} {V L V' L' : List Int} {cv cl dv dl : Nat} {ay ta : Option Addr} {Y : List Int} (h : Mi w z q av al bv bl V L V' L' cv cl dv dl ay ta Y) (hb : Below z.heap.size z z') : Mi w z' q av al bv bl V L V' L' cv cl dv dl ay ta Y :=
  ⟨h.cs.grow hb, h.ds.grow hb, h.e.grow hb, h.y.grow hb, h.t.grow hb⟩
theorem Cs.at2 {w z : World} {o o' : Obj} {k : Nat} {av al : Option Addr} {V L : List Int} {cv cl : Nat} (h : Cs w ((w.alloc o).alloc o') k av al V L cv cl) (hb : Below (w.heap.size + 2) ((w.alloc o).alloc o') z) : Cs w z k av al V L cv cl :=
  h.grow (by rw [World.size_alloc, World.size_alloc]; exact hb)
theorem Cs.at2' {w z : World} {o o' : Obj} {k : Nat} {av al : Option Addr} {V L : List Int} {cv cl : Nat} (h : Cs (w.alloc o) ((w.alloc o).alloc o') k av al V L cv cl) (hb : Below (w.heap.size + 2) ((w.alloc o).alloc o') z) : Cs (w.alloc o) z k av al V L cv cl :=
  h.grow (by rw [World.size_alloc, World.size_alloc]; exact hb)
theorem Ints.at2 {w z : World} {o o' : Obj} {a : Option Addr} {l : List Int} (h : Ints ((w.alloc o).alloc o') a l) (hb : Below (w.heap.size + 2) ((w.alloc o).alloc o') z) : Ints z a l :=
  h.grow (by rw [World.size_alloc, World.size_alloc]; exact hb)
set_option maxHeartbeats 8000000 in
theorem lawMirrors (w : World) (av al : Option Addr) (V L : List Int) (cv cl : Nat) (hV : Ints w av V) (hL : Ints w al L) (_bV : V.length ≤ 1048576) (_bL : L.length ≤ 1048576) (_kV : V.length ≤ cv) (_kL : L.length ≤ cl) (_wV : Wf V) (_wL : Wf L)
    (bv bl : Option Addr) (V' L' : List Int) (dv dl : Nat) (hV' : Ints w bv V') (hL' : Ints w bl L') (_bV' : V'.length ≤ 1048576) (_bL' : L'.length ≤ 1048576) (_kV' : V'.length ≤ dv) (_kL' : L'.length ≤ dl) (_wV' : Wf V') (_wL' : Wf L')
    (ay : Option Addr) (Y : List Int) (cy : Nat) (hY : Ints w ay Y) (bY : Y.length ≤ 1048576) (_kY : Y.length ≤ cy) (_wY : Wf Y) : Calls Try.prog 4 #[.agg #[.slice av V.length cv, .slice al L.length cl], .agg #[.slice bv V'.length dv, .slice bl L'.length dl], .slice ay Y.length cy] w fun e w' => e = .returned (.bool true) ∧ Below w.heap.size w w' := by
  have H0 := hidOf ((Cs.begin cv cl ⟨hV, hL⟩).grow (below1 _ (.cells #[.slice bv V'.length dv, .slice bl L'.length dl] 24)))
  have hK := Cs.begin (w := w.alloc (.cells #[.slice av V.length cv, .slice al L.length cl] 24)) dv dl (Cf.grow ⟨hV', hL'⟩ (below1 w _))
  rw [World.size_alloc] at hK
  have K0 := hidOf hK
  have HY0 := hidOf ((hY.grow (below1 w (.cells #[.slice av V.length cv, .slice al L.length cl] 24))).grow (below1 _ (.cells #[.slice bv V'.length dv, .slice bl L'.length dl] 24)))
  have hS1 := fun z h h' => single_any z av al V L cv cl bv bl V' L' dv dl h h'
  have hS2 := fun z h h' => single_any z bv bl V' L' dv dl av al V L cv cl h h'
  simp only [sgl_symm V' L' V L] at hS2
  have hM1 := fun z h h' => majority_any z av al V L cv cl ay Y cy h h'
  have hM2 := fun z h h' => majority_any z av none V [] cv 0 ay Y cy h h'
  have hM3 := fun ta tc z h h' => majority_any z av al V L cv cl ta (Y ++ Y) tc h h'
  have em : majB V (Y ++ Y) = majB V Y := maj_ext (fun x => by simp)
  simp only [em, List.length_append] at hM3
  have hA1 := fun z h h' => agreed_any z av al V L cv cl ay Y cy h h'
  have hA2 := fun z h h' => agreed_any z av none V [] cv 0 ay Y cy h h'
  generalize sglB V L V' L' = b1 at hS1 hS2
  generalize majB V Y = b2 at hM1 hM2 hM3
  generalize agr V Y = n3 at hA1 hA2
  have HS1 := hidOf hS1
  have HS2 := hidOf hS2
  have HM1 := hidOf hM1
  have HM2 := hidOf hM2
  have HM3 := hidOf hM3
  have HA1 := hidOf hA1
  have HA2 := hidOf hA2
  have HLY : Hid (([] : List Int).length + Y.length ≤ 17592186044416) := hidOf (by simp; omega)
  have HLY2 : Hid (Y.length + Y.length ≤ 17592186044416) := hidOf (by omega)
  clear hS1 hS2 hM1 hM2 hM3 hA1 hA2 hV hL hV' hL' hY hK em
  have hD0 : Hid (w.heap.size + 2 ≤ ((w.alloc (.cells #[.slice av V.length cv, .slice al L.length cl] 24)).alloc (.cells #[.slice bv V'.length dv, .slice bl L'.length dl] 24)).heap.size) := hidOf (by rw [World.size_alloc, World.size_alloc]; exact Nat.le_refl _)
  go_enter Try.func4, Try.ntmps4
  go_wp2_with (at_builtin; refine wpList_app _ rfl (.tmp 9) (.tmp 10) rfl (w.heap.size + 2) (.slice none 0 0) [] rfl (Row.nil _ _) ay cy Y rfl HY0.out HLY.out hD0.out ?next1)
  case next1 =>
    intro v1 w1 hr1 hg1 _
    have HR1 := hidOf hr1
    have HB1 := hidOf (grown_below (Row.nil _ (w.heap.size + 2)) hg1 hD0.out)
    have hD1 : Hid (w.heap.size + 2 ≤ w1.heap.size) := hidOf (Nat.le_trans hD0.out HB1.out.size)
    have HY1 := hidOf (HY0.out.at2 HB1.out)
    clear hr1 hg1
    go_wp2_with (at_builtin; refine wpList_app w1 rfl (.tmp 12) (.tmp 13) rfl (w.heap.size + 2) v1 Y rfl HR1.out ay cy Y rfl HY1.out HLY2.out hD1.out ?next2)
    case next2 =>
      intro v2 w2 hr2 hg2 _
      have HB2 := hidOf (HB1.out.trans (grown_below HR1.out hg2 hD1.out))
      obtain ⟨ta, tc, hv2, hi2, _, _, _⟩ := hr2.slice
      rw [List.length_append] at hv2
      subst hv2
      have HT := hidOf hi2
      have HC2 := hidOf (H0.out.at2 HB2.out)
      have HK2 := hidOf (K0.out.at2' HB2.out)
      have HY2 := hidOf (HY0.out.at2 HB2.out)
      have c0 := HC2.out.bx.c0
      have c1 := HC2.out.bx.c1
      have lt0 := HC2.out.bx.lt
      clear hr2 hg2 hi2
      go_wp2_with (fail)
      obtain ⟨z, hz⟩ : ∃ z, z = w2.alloc (.cells #[.slice av V.length cv, .slice none 0 0] 24) := ⟨_, rfl⟩
      have hzb : Below w2.heap.size w2 z := by rw [hz]; exact below1 w2 _
      have hze : Bx z w2.heap.size (.slice av V.length cv) (.slice none 0 0) := by rw [hz]; exact bx_new w2 _ _
      have HZ : Hid (Mi w z w2.heap.size av al bv bl V L V' L' cv cl dv dl ay ta Y) := hidOf ⟨HC2.out.grow hzb, HK2.out.grow hzb, hze, HY2.out.grow hzb, HT.out.grow hzb⟩
      have Z0 := hidOf (HZ.out.grow ⟨rfl, rfl, rfl, Nat.le_refl _, fun _ _ => rfl⟩ : Mi w z.drew w2.heap.size av al bv bl V L V' L' cv cl dv dl ay ta Y)
      have HTM := hidOf (HM3.out ta tc)
      rw [← hz]
      clear c0 c1 lt0 hze hzb hz
      generalize w2.heap.size = q at HZ Z0 ⊢
      have c0 := HZ.out.cs.bx.c0
      have c1 := HZ.out.cs.bx.c1
      have d0 : z.cell? ⟨w.heap.size + 1, 0, none⟩ = _ := HZ.out.ds.bx.c0
      have d1 : z.cell? ⟨w.heap.size + 1, 1, none⟩ = _ := HZ.out.ds.bx.c1
      have e0 := HZ.out.e.c0
      have e1 := HZ.out.e.c1
      refine wp_region_held_drew (S := fun wz => (wz.cell? ⟨w.heap.size, 0, none⟩ = some (.slice av V.length cv) ∧ wz.cell? ⟨w.heap.size, 1, none⟩ = some (.slice al L.length cl)) ∧ (wz.cell? ⟨w.heap.size + 1, 0, none⟩ = some (.slice bv V'.length dv) ∧ wz.cell? ⟨w.heap.size + 1, 1, none⟩ = some (.slice bl L'.length dl)) ∧ (wz.cell? ⟨q, 0, none⟩ = some (.slice av V.length cv) ∧ wz.cell? ⟨q, 1, none⟩ = some (.slice none 0 0))) (by kernel_rfl) ⟨⟨c0, c1⟩, ⟨d0, d1⟩, e0, e1⟩ (fun hHeld => ?_)
      refine wpAnyH_take (i := 0) (oi := { dst := some 17, op := Op.load 24 (Operand.tmp 3), type := 24, pos := "law.go:176", after := #[], guard := none }) (v := .agg #[.slice av V.length cv, .slice al L.length cl]) rfl (by kernel_rfl) (by kernel_rfl) (by kernel_rfl) (fun _ _ _ h => h) (Or.inl ⟨by rfl, ?_⟩) hHeld ?_
      · (intro w hSw; (try dsimp only at hSw); go_simp)
      try simp only [Act.put, List.setIfInBounds_toArray, List.set_cons_zero, List.set_cons_succ]
      refine wpAnyH_take (i := 1) (oi := { dst := some 18, op := Op.load 24 (Operand.tmp 4), type := 24, pos := "law.go:176", after := #[], guard := none }) (v := .agg #[.slice bv V'.length dv, .slice bl L'.length dl]) rfl (by kernel_rfl) (by kernel_rfl) (by kernel_rfl) (fun _ _ _ h => h) (Or.inl ⟨by rfl, ?_⟩) hHeld ?_
      · (intro w hSw; (try dsimp only at hSw); go_simp)
      try simp only [Act.put, List.setIfInBounds_toArray, List.set_cons_zero, List.set_cons_succ]
      refine wpAnyH_take (i := 3) (oi := { dst := some 20, op := Op.load 24 (Operand.tmp 4), type := 24, pos := "law.go:176", after := #[], guard := none }) (v := .agg #[.slice bv V'.length dv, .slice bl L'.length dl]) rfl (by kernel_rfl) (by kernel_rfl) (by kernel_rfl) (fun _ _ _ h => h) (Or.inl ⟨by rfl, ?_⟩) hHeld ?_
      · (intro w hSw; (try dsimp only at hSw); go_simp)
      try simp only [Act.put, List.setIfInBounds_toArray, List.set_cons_zero, List.set_cons_succ]
      refine wpAnyH_take (i := 4) (oi := { dst := some 21, op := Op.load 24 (Operand.tmp 3), type := 24, pos := "law.go:176", after := #[], guard := none }) (v := .agg #[.slice av V.length cv, .slice al L.length cl]) rfl (by kernel_rfl) (by kernel_rfl) (by kernel_rfl) (fun _ _ _ h => h) (Or.inl ⟨by rfl, ?_⟩) hHeld ?_
      · (intro w hSw; (try dsimp only at hSw); go_simp)
      try simp only [Act.put, List.setIfInBounds_toArray, List.set_cons_zero, List.set_cons_succ]
      refine wpAnyH_ready (rs := [2]) (by kernel_rfl) (by simp) ?_
      refine AllReadyH.cons (o := { dst := some 19, op := Op.call { callee := Callee.value (Operand.func 10), args := #[Operand.tmp 17, Operand.tmp 18], argTypes := #[24, 24] }, type := 4, pos := "law.go:176", after := #[{ on := 0, ground := Ground.data }, { on := 1, ground := Ground.data }], guard := none }) rfl (fun K hK => ?_) AllReadyH.nil
      go_simp
      refine (HS1.out _ Z0.out.cs.cf Z0.out.ds.cf).mono ?_
      rintro e z1 ⟨rfl, hb⟩
      have Z1 := hidOf (Z0.out.grow hb)
      clear hb
      refine hK.out _ _ ⟨⟨Z1.out.cs.bx.c0, Z1.out.cs.bx.c1⟩, ⟨Z1.out.ds.bx.c0, Z1.out.ds.bx.c1⟩, Z1.out.e.c0, Z1.out.e.c1⟩ (fun hHeld1 => ?_)
      clear hK K
      try simp only [Act.put, List.setIfInBounds_toArray, List.set_cons_zero, List.set_cons_succ]
      refine wpAnyH_ready (rs := [5]) (by kernel_rfl) (by simp) ?_
      refine AllReadyH.cons (o := { dst := some 22, op := Op.call { callee := Callee.value (Operand.func 10), args := #[Operand.tmp 20, Operand.tmp 21], argTypes := #[24, 24] }, type := 4, pos := "law.go:176", after := #[{ on := 3, ground := Ground.data }, { on := 4, ground := Ground.data }, { on := 2, ground := Ground.chain }], guard := none }) rfl (fun K hK => ?_) AllReadyH.nil
      go_simp
      refine (HS2.out _ Z1.out.ds.cf Z1.out.cs.cf).mono ?_
      rintro e z2 ⟨rfl, hb⟩
      have Z2 := hidOf (Z1.out.grow hb)
      clear hb
      refine hK.out _ _ ⟨⟨Z2.out.cs.bx.c0, Z2.out.cs.bx.c1⟩, ⟨Z2.out.ds.bx.c0, Z2.out.ds.bx.c1⟩, Z2.out.e.c0, Z2.out.e.c1⟩ (fun hHeld2 => ?_)
      clear hK K
      try simp only [Act.put, List.setIfInBounds_toArray, List.set_cons_zero, List.set_cons_succ]
      refine wpAnyH_take (i := 6) (oi := { dst := some 23, op := Op.binOp BinOp.eql 4 (Operand.tmp 19) (Operand.tmp 22) 4, type := 4, pos := "law.go:176", after := #[{ on := 2, ground := Ground.data }, { on := 5, ground := Ground.data }], guard := none }) (v := .bool true) rfl (by kernel_rfl) (by kernel_rfl) (by kernel_rfl) (fun _ _ _ h => h) (Or.inl ⟨by rfl, ?_⟩) hHeld2 ?_
      · (intro w hSw; (try dsimp only at hSw); go_simp)
      try simp only [Act.put, List.setIfInBounds_toArray, List.set_cons_zero, List.set_cons_succ]
      refine wpAnyH_take (i := 7) (oi := { dst := some 24, op := Op.move (Operand.tmp 23), type := 4, pos := "law.go:176", after := #[{ on := 6, ground := Ground.data }, { on := 5, ground := Ground.chain }], guard := none }) (v := .bool true) rfl (by kernel_rfl) (by kernel_rfl) (by kernel_rfl) (fun _ _ _ h => h) (Or.inl ⟨by rfl, ?_⟩) hHeld2 ?_
      · (intro w hSw; (try dsimp only at hSw); go_simp)
      try simp only [Act.put, List.setIfInBounds_toArray, List.set_cons_zero, List.set_cons_succ]
      refine wpAnyH_take (i := 8) (oi := { dst := some 25, op := Op.load 24 (Operand.tmp 3), type := 24, pos := "law.go:176", after := #[{ on := 7, ground := Ground.guard }], guard := some (7, true) }) (v := .agg #[.slice av V.length cv, .slice al L.length cl]) rfl (by kernel_rfl) (by kernel_rfl) (by kernel_rfl) (fun _ _ _ h => h) (Or.inl ⟨by rfl, ?_⟩) hHeld2 ?_
      · (intro w hSw; (try dsimp only at hSw); go_simp)
      try simp only [Act.put, List.setIfInBounds_toArray, List.set_cons_zero, List.set_cons_succ]
      refine wpAnyH_take (i := 9) (oi := { dst := some 26, op := Op.move (Operand.tmp 2), type := 22, pos := "law.go:176", after := #[{ on := 7, ground := Ground.guard }], guard := some (7, true) }) (v := .slice ay Y.length cy) rfl (by kernel_rfl) (by kernel_rfl) (by kernel_rfl) (fun _ _ _ h => h) (Or.inl ⟨by rfl, ?_⟩) hHeld2 ?_
      · (intro w hSw; (try dsimp only at hSw); go_simp)
      try simp only [Act.put, List.setIfInBounds_toArray, List.set_cons_zero, List.set_cons_succ]
      refine wpAnyH_take (i := 11) (oi := { dst := some 28, op := Op.load 24 (Operand.tmp 3), type := 24, pos := "law.go:176", after := #[{ on := 7, ground := Ground.guard }], guard := some (7, true) }) (v := .agg #[.slice av V.length cv, .slice al L.length cl]) rfl (by kernel_rfl) (by kernel_rfl) (by kernel_rfl) (fun _ _ _ h => h) (Or.inl ⟨by rfl, ?_⟩) hHeld2 ?_
      · (intro w hSw; (try dsimp only at hSw); go_simp)
      try simp only [Act.put, List.setIfInBounds_toArray, List.set_cons_zero, List.set_cons_succ]
      refine wpAnyH_take (i := 12) (oi := { dst := some 29, op := Op.move (Operand.tmp 7), type := 22, pos := "law.go:176", after := #[{ on := 7, ground := Ground.guard }], guard := some (7, true) }) (v := .slice ta (Y.length + Y.length) tc) rfl (by kernel_rfl) (by kernel_rfl) (by kernel_rfl) (fun _ _ _ h => h) (Or.inl ⟨by rfl, ?_⟩) hHeld2 ?_
      · (intro w hSw; (try dsimp only at hSw); go_simp)
      try simp only [Act.put, List.setIfInBounds_toArray, List.set_cons_zero, List.set_cons_succ]
      refine wpAnyH_ready (rs := [10]) (by kernel_rfl) (by simp) ?_
      refine AllReadyH.cons (o := { dst := some 27, op := Op.call { callee := Callee.value (Operand.func 13), args := #[Operand.tmp 25, Operand.tmp 26], argTypes := #[24, 22] }, type := 4, pos := "law.go:176", after := #[{ on := 8, ground := Ground.data }, { on := 9, ground := Ground.data }, { on := 7, ground := Ground.chain }, { on := 7, ground := Ground.guard }], guard := some (7, true) }) rfl (fun K hK => ?_) AllReadyH.nil
      go_simp
      refine (HM1.out _ Z2.out.cs.cf Z2.out.y).mono ?_
      rintro e z3 ⟨rfl, hb⟩
      have Z3 := hidOf (Z2.out.grow hb)
      clear hb
      refine hK.out _ _ ⟨⟨Z3.out.cs.bx.c0, Z3.out.cs.bx.c1⟩, ⟨Z3.out.ds.bx.c0, Z3.out.ds.bx.c1⟩, Z3.out.e.c0, Z3.out.e.c1⟩ (fun hHeld3 => ?_)
      clear hK K
      try simp only [Act.put, List.setIfInBounds_toArray, List.set_cons_zero, List.set_cons_succ]
      refine wpAnyH_ready (rs := [13]) (by kernel_rfl) (by simp) ?_
      refine AllReadyH.cons (o := { dst := some 30, op := Op.call { callee := Callee.value (Operand.func 13), args := #[Operand.tmp 28, Operand.tmp 29], argTypes := #[24, 22] }, type := 4, pos := "law.go:176", after := #[{ on := 11, ground := Ground.data }, { on := 12, ground := Ground.data }, { on := 10, ground := Ground.chain }, { on := 7, ground := Ground.guard }], guard := some (7, true) }) rfl (fun K hK => ?_) AllReadyH.nil
      go_simp
      refine (HTM.out _ Z3.out.cs.cf Z3.out.t).mono ?_
      rintro e z4 ⟨rfl, hb⟩
      have Z4 := hidOf (Z3.out.grow hb)
      clear hb
      refine hK.out _ _ ⟨⟨Z4.out.cs.bx.c0, Z4.out.cs.bx.c1⟩, ⟨Z4.out.ds.bx.c0, Z4.out.ds.bx.c1⟩, Z4.out.e.c0, Z4.out.e.c1⟩ (fun hHeld4 => ?_)
      clear hK K
      try simp only [Act.put, List.setIfInBounds_toArray, List.set_cons_zero, List.set_cons_succ]
      refine wpAnyH_take (i := 14) (oi := { dst := some 31, op := Op.binOp BinOp.eql 4 (Operand.tmp 27) (Operand.tmp 30) 4, type := 4, pos := "law.go:176", after := #[{ on := 10, ground := Ground.data }, { on := 13, ground := Ground.data }, { on := 7, ground := Ground.guard }], guard := some (7, true) }) (v := .bool true) rfl (by kernel_rfl) (by kernel_rfl) (by kernel_rfl) (fun _ _ _ h => h) (Or.inl ⟨by rfl, ?_⟩) hHeld4 ?_
      · (intro w hSw; (try dsimp only at hSw); go_simp)
      try simp only [Act.put, List.setIfInBounds_toArray, List.set_cons_zero, List.set_cons_succ]
      refine wpAnyH_take (i := 15) (oi := { dst := some 32, op := Op.pick (Operand.tmp 24) (Operand.tmp 31) (Operand.const (Value.bool false)), type := 4, pos := "law.go:176", after := #[{ on := 7, ground := Ground.data }, { on := 14, ground := Ground.data }], guard := none }) (v := .bool true) rfl (by kernel_rfl) (by kernel_rfl) (by kernel_rfl) (fun _ _ _ h => h) (Or.inl ⟨by rfl, ?_⟩) hHeld4 ?_
      · (intro w hSw; (try dsimp only at hSw); go_simp)
      try simp only [Act.put, List.setIfInBounds_toArray, List.set_cons_zero, List.set_cons_succ]
      refine wpAnyH_take (i := 16) (oi := { dst := some 33, op := Op.move (Operand.tmp 32), type := 4, pos := "law.go:176", after := #[{ on := 15, ground := Ground.data }, { on := 13, ground := Ground.chain }], guard := none }) (v := .bool true) rfl (by kernel_rfl) (by kernel_rfl) (by kernel_rfl) (fun _ _ _ h => h) (Or.inl ⟨by rfl, ?_⟩) hHeld4 ?_
      · (intro w hSw; (try dsimp only at hSw); go_simp)
      try simp only [Act.put, List.setIfInBounds_toArray, List.set_cons_zero, List.set_cons_succ]
      refine wpAnyH_take (i := 17) (oi := { dst := some 34, op := Op.load 24 (Operand.tmp 3), type := 24, pos := "law.go:176", after := #[{ on := 16, ground := Ground.guard }], guard := some (16, true) }) (v := .agg #[.slice av V.length cv, .slice al L.length cl]) rfl (by kernel_rfl) (by kernel_rfl) (by kernel_rfl) (fun _ _ _ h => h) (Or.inl ⟨by rfl, ?_⟩) hHeld4 ?_
      · (intro w hSw; (try dsimp only at hSw); go_simp)
      try simp only [Act.put, List.setIfInBounds_toArray, List.set_cons_zero, List.set_cons_succ]
      refine wpAnyH_take (i := 18) (oi := { dst := some 35, op := Op.move (Operand.tmp 2), type := 22, pos := "law.go:176", after := #[{ on := 16, ground := Ground.guard }], guard := some (16, true) }) (v := .slice ay Y.length cy) rfl (by kernel_rfl) (by kernel_rfl) (by kernel_rfl) (fun _ _ _ h => h) (Or.inl ⟨by rfl, ?_⟩) hHeld4 ?_
      · (intro w hSw; (try dsimp only at hSw); go_simp)
      try simp only [Act.put, List.setIfInBounds_toArray, List.set_cons_zero, List.set_cons_succ]
      refine wpAnyH_take (i := 20) (oi := { dst := some 37, op := Op.load 24 (Operand.tmp 8), type := 24, pos := "law.go:176", after := #[{ on := 16, ground := Ground.guard }], guard := some (16, true) }) (v := .agg #[.slice av V.length cv, .slice none 0 0]) rfl (by kernel_rfl) (by kernel_rfl) (by kernel_rfl) (fun _ _ _ h => h) (Or.inl ⟨by rfl, ?_⟩) hHeld4 ?_
      · (intro w hSw; (try dsimp only at hSw); go_simp)
      try simp only [Act.put, List.setIfInBounds_toArray, List.set_cons_zero, List.set_cons_succ]
      refine wpAnyH_take (i := 21) (oi := { dst := some 38, op := Op.move (Operand.tmp 2), type := 22, pos := "law.go:176", after := #[{ on := 16, ground := Ground.guard }], guard := some (16, true) }) (v := .slice ay Y.length cy) rfl (by kernel_rfl) (by kernel_rfl) (by kernel_rfl) (fun _ _ _ h => h) (Or.inl ⟨by rfl, ?_⟩) hHeld4 ?_
      · (intro w hSw; (try dsimp only at hSw); go_simp)
      try simp only [Act.put, List.setIfInBounds_toArray, List.set_cons_zero, List.set_cons_succ]
      refine wpAnyH_ready (rs := [19]) (by kernel_rfl) (by simp) ?_
      refine AllReadyH.cons (o := { dst := some 36, op := Op.call { callee := Callee.value (Operand.func 13), args := #[Operand.tmp 34, Operand.tmp 35], argTypes := #[24, 22] }, type := 4, pos := "law.go:176", after := #[{ on := 17, ground := Ground.data }, { on := 18, ground := Ground.data }, { on := 16, ground := Ground.chain }, { on := 16, ground := Ground.guard }], guard := some (16, true) }) rfl (fun K hK => ?_) AllReadyH.nil
      go_simp
      refine (HM1.out _ Z4.out.cs.cf Z4.out.y).mono ?_
      rintro e z5 ⟨rfl, hb⟩
      have Z5 := hidOf (Z4.out.grow hb)
      clear hb
      refine hK.out _ _ ⟨⟨Z5.out.cs.bx.c0, Z5.out.cs.bx.c1⟩, ⟨Z5.out.ds.bx.c0, Z5.out.ds.bx.c1⟩, Z5.out.e.c0, Z5.out.e.c1⟩ (fun hHeld5 => ?_)
      clear hK K
      try simp only [Act.put, List.setIfInBounds_toArray, List.set_cons_zero, List.set_cons_succ]
      refine wpAnyH_ready (rs := [22]) (by kernel_rfl) (by simp) ?_
      refine AllReadyH.cons (o := { dst := some 39, op := Op.call { callee := Callee.value (Operand.func 13), args := #[Operand.tmp 37, Operand.tmp 38], argTypes := #[24, 22] }, type := 4, pos := "law.go:176", after := #[{ on := 20, ground := Ground.data }, { on := 21, ground := Ground.data }, { on := 19, ground := Ground.chain }, { on := 16, ground := Ground.guard }], guard := some (16, true) }) rfl (fun K hK => ?_) AllReadyH.nil
      go_simp
      refine (HM2.out _ ⟨Z5.out.cs.cf.v, Ints.nil _ _⟩ Z5.out.y).mono ?_
      rintro e z6 ⟨rfl, hb⟩
      have Z6 := hidOf (Z5.out.grow hb)
      clear hb
      refine hK.out _ _ ⟨⟨Z6.out.cs.bx.c0, Z6.out.cs.bx.c1⟩, ⟨Z6.out.ds.bx.c0, Z6.out.ds.bx.c1⟩, Z6.out.e.c0, Z6.out.e.c1⟩ (fun hHeld6 => ?_)
      clear hK K
      try simp only [Act.put, List.setIfInBounds_toArray, List.set_cons_zero, List.set_cons_succ]
      refine wpAnyH_take (i := 23) (oi := { dst := some 40, op := Op.binOp BinOp.eql 4 (Operand.tmp 36) (Operand.tmp 39) 4, type := 4, pos := "law.go:176", after := #[{ on := 19, ground := Ground.data }, { on := 22, ground := Ground.data }, { on := 16, ground := Ground.guard }], guard := some (16, true) }) (v := .bool true) rfl (by kernel_rfl) (by kernel_rfl) (by kernel_rfl) (fun _ _ _ h => h) (Or.inl ⟨by rfl, ?_⟩) hHeld6 ?_
      · (intro w hSw; (try dsimp only at hSw); go_simp)
      try simp only [Act.put, List.setIfInBounds_toArray, List.set_cons_zero, List.set_cons_succ]
      refine wpAnyH_take (i := 24) (oi := { dst := some 41, op := Op.pick (Operand.tmp 33) (Operand.tmp 40) (Operand.const (Value.bool false)), type := 4, pos := "law.go:176", after := #[{ on := 16, ground := Ground.data }, { on := 23, ground := Ground.data }], guard := none }) (v := .bool true) rfl (by kernel_rfl) (by kernel_rfl) (by kernel_rfl) (fun _ _ _ h => h) (Or.inl ⟨by rfl, ?_⟩) hHeld6 ?_
      · (intro w hSw; (try dsimp only at hSw); go_simp)
      try simp only [Act.put, List.setIfInBounds_toArray, List.set_cons_zero, List.set_cons_succ]
      refine wpAnyH_take (i := 25) (oi := { dst := some 42, op := Op.move (Operand.tmp 41), type := 4, pos := "law.go:176", after := #[{ on := 24, ground := Ground.data }, { on := 22, ground := Ground.chain }], guard := none }) (v := .bool true) rfl (by kernel_rfl) (by kernel_rfl) (by kernel_rfl) (fun _ _ _ h => h) (Or.inl ⟨by rfl, ?_⟩) hHeld6 ?_
      · (intro w hSw; (try dsimp only at hSw); go_simp)
      try simp only [Act.put, List.setIfInBounds_toArray, List.set_cons_zero, List.set_cons_succ]
      refine wpAnyH_take (i := 26) (oi := { dst := some 43, op := Op.load 24 (Operand.tmp 3), type := 24, pos := "law.go:176", after := #[{ on := 25, ground := Ground.guard }], guard := some (25, true) }) (v := .agg #[.slice av V.length cv, .slice al L.length cl]) rfl (by kernel_rfl) (by kernel_rfl) (by kernel_rfl) (fun _ _ _ h => h) (Or.inl ⟨by rfl, ?_⟩) hHeld6 ?_
      · (intro w hSw; (try dsimp only at hSw); go_simp)
      try simp only [Act.put, List.setIfInBounds_toArray, List.set_cons_zero, List.set_cons_succ]
      refine wpAnyH_take (i := 27) (oi := { dst := some 44, op := Op.move (Operand.tmp 2), type := 22, pos := "law.go:176", after := #[{ on := 25, ground := Ground.guard }], guard := some (25, true) }) (v := .slice ay Y.length cy) rfl (by kernel_rfl) (by kernel_rfl) (by kernel_rfl) (fun _ _ _ h => h) (Or.inl ⟨by rfl, ?_⟩) hHeld6 ?_
      · (intro w hSw; (try dsimp only at hSw); go_simp)
      try simp only [Act.put, List.setIfInBounds_toArray, List.set_cons_zero, List.set_cons_succ]
      refine wpAnyH_take (i := 29) (oi := { dst := some 46, op := Op.load 24 (Operand.tmp 8), type := 24, pos := "law.go:176", after := #[{ on := 25, ground := Ground.guard }], guard := some (25, true) }) (v := .agg #[.slice av V.length cv, .slice none 0 0]) rfl (by kernel_rfl) (by kernel_rfl) (by kernel_rfl) (fun _ _ _ h => h) (Or.inl ⟨by rfl, ?_⟩) hHeld6 ?_
      · (intro w hSw; (try dsimp only at hSw); go_simp)
      try simp only [Act.put, List.setIfInBounds_toArray, List.set_cons_zero, List.set_cons_succ]
      refine wpAnyH_take (i := 30) (oi := { dst := some 47, op := Op.move (Operand.tmp 2), type := 22, pos := "law.go:176", after := #[{ on := 25, ground := Ground.guard }], guard := some (25, true) }) (v := .slice ay Y.length cy) rfl (by kernel_rfl) (by kernel_rfl) (by kernel_rfl) (fun _ _ _ h => h) (Or.inl ⟨by rfl, ?_⟩) hHeld6 ?_
      · (intro w hSw; (try dsimp only at hSw); go_simp)
      try simp only [Act.put, List.setIfInBounds_toArray, List.set_cons_zero, List.set_cons_succ]
      refine wpAnyH_ready (rs := [28]) (by kernel_rfl) (by simp) ?_
      refine AllReadyH.cons (o := { dst := some 45, op := Op.call { callee := Callee.value (Operand.func 14), args := #[Operand.tmp 43, Operand.tmp 44], argTypes := #[24, 22] }, type := 3, pos := "law.go:176", after := #[{ on := 26, ground := Ground.data }, { on := 27, ground := Ground.data }, { on := 25, ground := Ground.chain }, { on := 25, ground := Ground.guard }], guard := some (25, true) }) rfl (fun K hK => ?_) AllReadyH.nil
      go_simp
      refine (HA1.out _ Z6.out.cs.cf Z6.out.y).mono ?_
      rintro e z7 ⟨rfl, hb⟩
      have Z7 := hidOf (Z6.out.grow hb)
      clear hb
      refine hK.out _ _ ⟨⟨Z7.out.cs.bx.c0, Z7.out.cs.bx.c1⟩, ⟨Z7.out.ds.bx.c0, Z7.out.ds.bx.c1⟩, Z7.out.e.c0, Z7.out.e.c1⟩ (fun hHeld7 => ?_)
      clear hK K
      try simp only [Act.put, List.setIfInBounds_toArray, List.set_cons_zero, List.set_cons_succ]
      refine wpAnyH_ready (rs := [31]) (by kernel_rfl) (by simp) ?_
      refine AllReadyH.cons (o := { dst := some 48, op := Op.call { callee := Callee.value (Operand.func 14), args := #[Operand.tmp 46, Operand.tmp 47], argTypes := #[24, 22] }, type := 3, pos := "law.go:176", after := #[{ on := 29, ground := Ground.data }, { on := 30, ground := Ground.data }, { on := 28, ground := Ground.chain }, { on := 25, ground := Ground.guard }], guard := some (25, true) }) rfl (fun K hK => ?_) AllReadyH.nil
      go_simp
      refine (HA2.out _ ⟨Z7.out.cs.cf.v, Ints.nil _ _⟩ Z7.out.y).mono ?_
      rintro e z8 ⟨rfl, hb⟩
      have Z8 := hidOf (Z7.out.grow hb)
      clear hb
      refine hK.out _ _ ⟨⟨Z8.out.cs.bx.c0, Z8.out.cs.bx.c1⟩, ⟨Z8.out.ds.bx.c0, Z8.out.ds.bx.c1⟩, Z8.out.e.c0, Z8.out.e.c1⟩ (fun hHeld8 => ?_)
      clear hK K
      try simp only [Act.put, List.setIfInBounds_toArray, List.set_cons_zero, List.set_cons_succ]
      refine wpAnyH_take (i := 32) (oi := { dst := some 49, op := Op.binOp BinOp.eql 3 (Operand.tmp 45) (Operand.tmp 48) 3, type := 4, pos := "law.go:176", after := #[{ on := 28, ground := Ground.data }, { on := 31, ground := Ground.data }, { on := 25, ground := Ground.guard }], guard := some (25, true) }) (v := .bool true) rfl (by kernel_rfl) (by kernel_rfl) (by kernel_rfl) (fun _ _ _ h => h) (Or.inl ⟨by rfl, ?_⟩) hHeld8 ?_
      · (intro w hSw; (try dsimp only at hSw); go_simp)
      try simp only [Act.put, List.setIfInBounds_toArray, List.set_cons_zero, List.set_cons_succ]
      refine wpAnyH_take (i := 33) (oi := { dst := some 50, op := Op.pick (Operand.tmp 42) (Operand.tmp 49) (Operand.const (Value.bool false)), type := 4, pos := "law.go:176", after := #[{ on := 25, ground := Ground.data }, { on := 32, ground := Ground.data }], guard := none }) (v := .bool true) rfl (by kernel_rfl) (by kernel_rfl) (by kernel_rfl) (fun _ _ _ h => h) (Or.inl ⟨by rfl, ?_⟩) hHeld8 ?_
      · (intro w hSw; (try dsimp only at hSw); go_simp)
      try simp only [Act.put, List.setIfInBounds_toArray, List.set_cons_zero, List.set_cons_succ]
      refine wpAnyH_take (i := 34) (oi := { dst := some 51, op := Op.move (Operand.tmp 50), type := 4, pos := "law.go:176", after := #[{ on := 33, ground := Ground.data }, { on := 31, ground := Ground.chain }], guard := none }) (v := .bool true) rfl (by kernel_rfl) (by kernel_rfl) (by kernel_rfl) (fun _ _ _ h => h) (Or.inl ⟨by rfl, ?_⟩) hHeld8 ?_
      · (intro w hSw; (try dsimp only at hSw); go_simp)
      try simp only [Act.put, List.setIfInBounds_toArray, List.set_cons_zero, List.set_cons_succ]
      refine wpAnyH_ready (rs := [35]) (by kernel_rfl) (by simp) ?_
      refine AllReadyH.cons (o := { dst := some 52, op := Op.call { callee := Callee.value (Operand.func 7), args := #[], argTypes := #[] }, type := 4, pos := "law.go:176", after := #[{ on := 34, ground := Ground.chain }, { on := 34, ground := Ground.guard }], guard := some (34, true) }) rfl (fun K hK => ?_) AllReadyH.nil
      go_simp
      refine (lives_any _).mono ?_
      rintro e z9 ⟨rfl, hb⟩
      have Z9 := hidOf (Z8.out.grow hb)
      clear hb
      refine hK.out _ _ ⟨⟨Z9.out.cs.bx.c0, Z9.out.cs.bx.c1⟩, ⟨Z9.out.ds.bx.c0, Z9.out.ds.bx.c1⟩, Z9.out.e.c0, Z9.out.e.c1⟩ (fun hHeld9 => ?_)
      clear hK K
      try simp only [Act.put, List.setIfInBounds_toArray, List.set_cons_zero, List.set_cons_succ]
      refine wpAnyH_take (i := 36) (oi := { dst := some 53, op := Op.pick (Operand.tmp 51) (Operand.tmp 52) (Operand.const (Value.bool false)), type := 4, pos := "law.go:176", after := #[{ on := 34, ground := Ground.data }, { on := 35, ground := Ground.data }], guard := none }) (v := .bool true) rfl (by kernel_rfl) (by kernel_rfl) (by kernel_rfl) (fun _ _ _ h => h) (Or.inl ⟨by rfl, ?_⟩) hHeld9 ?_
      · (intro w hSw; (try dsimp only at hSw); go_simp)
      try simp only [Act.put, List.setIfInBounds_toArray, List.set_cons_zero, List.set_cons_succ]
      refine wpAnyH_take (i := 37) (oi := { dst := some 6, op := Op.assign (Operand.tmp 53), type := 4, pos := "law.go:176", after := #[{ on := 36, ground := Ground.data }, { on := 35, ground := Ground.chain }, { on := 0, ground := Ground.phase }, { on := 1, ground := Ground.phase }, { on := 2, ground := Ground.phase }, { on := 3, ground := Ground.phase }, { on := 4, ground := Ground.phase }, { on := 5, ground := Ground.phase }, { on := 6, ground := Ground.phase }, { on := 7, ground := Ground.phase }, { on := 8, ground := Ground.phase }, { on := 9, ground := Ground.phase }, { on := 10, ground := Ground.phase }, { on := 11, ground := Ground.phase }, { on := 12, ground := Ground.phase }, { on := 13, ground := Ground.phase }, { on := 14, ground := Ground.phase }, { on := 15, ground := Ground.phase }, { on := 16, ground := Ground.phase }, { on := 17, ground := Ground.phase }, { on := 18, ground := Ground.phase }, { on := 19, ground := Ground.phase }, { on := 20, ground := Ground.phase }, { on := 21, ground := Ground.phase }, { on := 22, ground := Ground.phase }, { on := 23, ground := Ground.phase }, { on := 24, ground := Ground.phase }, { on := 25, ground := Ground.phase }, { on := 26, ground := Ground.phase }, { on := 27, ground := Ground.phase }, { on := 28, ground := Ground.phase }, { on := 29, ground := Ground.phase }, { on := 30, ground := Ground.phase }, { on := 31, ground := Ground.phase }, { on := 32, ground := Ground.phase }, { on := 33, ground := Ground.phase }, { on := 34, ground := Ground.phase }, { on := 35, ground := Ground.phase }, { on := 36, ground := Ground.phase }], guard := none }) (v := .bool true) rfl (by kernel_rfl) (by kernel_rfl) (by kernel_rfl) (fun _ _ _ h => h) (Or.inl ⟨by rfl, ?_⟩) hHeld9 ?_
      · (intro w hSw; (try dsimp only at hSw); go_simp)
      try simp only [Act.put, List.setIfInBounds_toArray, List.set_cons_zero, List.set_cons_succ]
      refine wpAnyH_done (by kernel_rfl) ?_ _
      go_wp2
      go_ret
      exact ⟨rfl, Z9.out.cs.bel⟩
end Go.Proofs.Yteaohmlbioooaab
